import PyProof.Rows.All
import Wide.All
import OpenK.AllK
import Wide.FinOn
import Lean
import PyProof.EqAt
import PyProof.EqKinds
import PyProof.TupleCall
import PySem.Challenge.RW_answertrees_k65_read_as_written
set_option compiler.extract_closed false
set_option Elab.async false
set_option linter.all false
set_option maxRecDepth 100000
namespace L2
open PySem PySem.Spec PyProof.Rows
noncomputable def defArgs (s : Stmt) : Arguments := match s with
 | .FunctionDef _ a _ _ _ _ _ _ _ _ => a
 | _ => { posonlyargs := [], args := [], vararg := none, kwonlyargs := [], kw_defaults := [], kwarg := none, defaults := [] }
noncomputable def defBody (s : Stmt) : List Stmt := match s with
 | .FunctionDef _ _ b _ _ _ _ _ _ _ => b
 | _ => []
noncomputable def defScope (s : Stmt) : Scope := match s with
 | .FunctionDef _ _ _ _ _ _ sc _ _ _ => sc
 | _ => { kind := .function, names := [], isGenerator := false, isCoroutine := false }
end L2
namespace My
set_option maxHeartbeats 0
open PySem PySem.W L2
abbrev hdP : Program := PySem.Challenge.pw_answertrees_k65_read_as_written
noncomputable abbrev hdT (i : Nat) : Stmt := hdP.main.body.getD i (.Pass ⟨0, 0, 0, 0⟩)
noncomputable abbrev hdF (i : Nat) (n m : Str) (t : Tok) (c : Addr) : Obj := ⟨.type "function", none, .func (PySem.W.fnOf n n (defArgs (hdT i)) (defBody (hdT i)) (defScope (hdT i)) .none .none .none (.str m t) none (.ref c) .none), #[]⟩
noncomputable abbrev hdE (P : Params) (n : Str) (t : Tok) (v : Value) : DictEntry := ⟨PyData.keyHash P n, .str n t, v⟩
noncomputable def hdK : Params → PySem.W.Frag := fun P =>
 (nat_lit 3, ⟨(.type "dict"), none, .dict #[hdE P "__name__" 165 (.str "law_answertrees_k65_read_as_written" 462), hdE P "__doc__" 166 .none, hdE P "__package__" 167 .none, hdE P "__loader__" 168 (.builtin "__main__.__loader__#opaque"), hdE P "__spec__" 169 .none, hdE P "__annotations__" 170 (.ref 6), hdE P "__builtins__" 171 (.ref 4), hdE P "__file__" 173 (.str "/claim/cut.py" 172), hdE P "__cached__" 174 .none, hdE P "NAME_SIGNS" 190 (.str "abcdefghijklmnopqrstuvwxyz0123456789" 189), hdE P "LONGEST_NAME" 192 (.int 12 191), hdE P "LAST_DAY" 194 (.int 99999999 193), hdE P "LONGEST_HEAD" 196 (.int 60 195), hdE P "LONGEST_ROW" 198 (.int 9 197), hdE P "is_name" 204 (.ref 19), hdE P "is_whole" 211 (.ref 26), hdE P "is_day" 218 (.ref 33), hdE P "is_head" 224 (.ref 38), hdE P "is_row" 230 (.ref 43), hdE P "is_letter" 237 (.ref 50), hdE P "LETTER_WORDS" 242 (.ref 51), hdE P "NAME_WORDS" 247 (.ref 52), hdE P "is_deed" 254 (.ref 59), hdE P "TalkError" 274 (.ref 69), hdE P "NoText" 299 (.ref 89), hdE P "KINDS" 305 (.ref 92), hdE P "WORD_SIGNS" 307 (.str "abcdefghijklmnopqrstuvwxyz" 306), hdE P "LONGEST_WORD" 309 (.int 8 308), hdE P "MOST_RULES" 311 (.int 6 310), hdE P "is_kind" 318 (.ref 99), hdE P "is_word" 324 (.ref 104), hdE P "is_rule" 331 (.ref 111), hdE P "is_rules" 337 (.ref 116), hdE P "FIGURES" 341 (.str "0123456789" 340), hdE P "is_count" 347 (.ref 121), hdE P "MOST_FIGURES" 351 (.int 9 350), hdE P "number_in" 358 (.ref 128), hdE P "checked" 365 (.ref 135), hdE P "rows_in" 373 (.ref 142), hdE P "needed" 381 (.ref 149), hdE P "letter_in" 397 (.ref 156), hdE P "rules_in" 403 (.ref 161), hdE P "deed_in" 414 (.ref 168), hdE P "entry_in" 423 (.ref 175), hdE P "read_letter" 430 (.ref 182), hdE P "read_pack" 441 (.ref 189), hdE P "read_rules" 448 (.ref 196), hdE P "read_deed" 455 (.ref 203), hdE P "read_log" 461 (.ref 208), hdE P "_law_purse" 473 (.ref 215), hdE P "_law_pick" 486 (.ref 222), hdE P "_law_name" 492 (.ref 227), hdE P "_law_names" 503 (.ref 234), hdE P "_law_day" 511 (.ref 241), hdE P "_law_sign" 520 (.ref 248), hdE P "_law_letter" 526 (.ref 253), hdE P "_law_pack" 537 (.ref 260), hdE P "_law_rules" 543 (.ref 265), hdE P "_law_deed" 549 (.ref 270), hdE P "_law_log" 560 (.ref 277), hdE P "_law_written" 567 (.ref 284), hdE P "_law_rules_written" 573 (.ref 289), hdE P "_law_deed_written" 580 (.ref 296), hdE P "_law_log_written" 586 (.ref 301), hdE P "_law_same" 592 (.ref 306), hdE P "law" 598 (.ref 311)] 66, #[]⟩) ::
 (nat_lit 18, ⟨(.type "code"), none, .fields #[.str "is_name" 199, .str "is_name" 200, .str "/claim/cut.py" 201, .int 7 0, .int 1 0, .int 0 0, .int 0 0, .int 3 0, .ref 15, .bool true, .int 181 0, .ref 16, .none, .none, .none, .ref 17, .int 202 0, .int 7 0, .str "/claim/cut.py" 203], #[]⟩) ::
 (nat_lit 19, hdF 6 "is_name" "answertrees.letters" 187 18) ::
 (nat_lit 25, ⟨(.type "code"), none, .fields #[.str "is_whole" 205, .str "is_whole" 206, .str "/claim/cut.py" 207, .int 11 0, .int 1 0, .int 0 0, .int 0 0, .int 3 0, .ref 20, .bool true, .int 181 0, .ref 21, .none, .ref 22, .ref 23, .ref 24, .int 209 0, .int 11 0, .str "/claim/cut.py" 210], #[]⟩) ::
 (nat_lit 26, hdF 7 "is_whole" "answertrees.letters" 187 25) ::
 (nat_lit 32, ⟨(.type "code"), none, .fields #[.str "is_day" 212, .str "is_day" 213, .str "/claim/cut.py" 214, .int 13 0, .int 1 0, .int 0 0, .int 0 0, .int 3 0, .ref 27, .bool true, .int 181 0, .ref 28, .none, .ref 29, .ref 30, .ref 31, .int 216 0, .int 13 0, .str "/claim/cut.py" 217], #[]⟩) ::
 (nat_lit 33, hdF 8 "is_day" "answertrees.letters" 187 32) ::
 (nat_lit 37, ⟨(.type "code"), none, .fields #[.str "is_head" 219, .str "is_head" 220, .str "/claim/cut.py" 221, .int 15 0, .int 1 0, .int 0 0, .int 0 0, .int 3 0, .ref 34, .bool true, .int 181 0, .ref 35, .none, .none, .none, .ref 36, .int 222 0, .int 15 0, .str "/claim/cut.py" 223], #[]⟩) ::
 (nat_lit 38, hdF 9 "is_head" "answertrees.letters" 187 37) ::
 (nat_lit 42, ⟨(.type "code"), none, .fields #[.str "is_row" 225, .str "is_row" 226, .str "/claim/cut.py" 227, .int 19 0, .int 1 0, .int 0 0, .int 0 0, .int 3 0, .ref 39, .bool true, .int 181 0, .ref 40, .none, .none, .none, .ref 41, .int 228 0, .int 19 0, .str "/claim/cut.py" 229], #[]⟩) ::
 (nat_lit 43, hdF 10 "is_row" "answertrees.letters" 187 42) ::
 (nat_lit 49, ⟨(.type "code"), none, .fields #[.str "is_letter" 231, .str "is_letter" 232, .str "/claim/cut.py" 233, .int 23 0, .int 1 0, .int 0 0, .int 0 0, .int 3 0, .ref 44, .bool true, .int 181 0, .ref 45, .none, .ref 46, .ref 47, .ref 48, .int 235 0, .int 23 0, .str "/claim/cut.py" 236], #[]⟩) ::
 (nat_lit 50, hdF 11 "is_letter" "answertrees.letters" 187 49) ::
 (nat_lit 51, ⟨(.type "tuple"), none, .seq #[.str "come" 240, .str "go" 241] 0, #[]⟩) ::
 (nat_lit 52, ⟨(.type "tuple"), none, .seq #[.str "split" 243, .str "free" 244, .str "read" 245, .str "unread" 246] 0, #[]⟩) ::
 (nat_lit 58, ⟨(.type "code"), none, .fields #[.str "is_deed" 248, .str "is_deed" 249, .str "/claim/cut.py" 250, .int 30 0, .int 1 0, .int 0 0, .int 0 0, .int 3 0, .ref 53, .bool true, .int 181 0, .ref 54, .none, .ref 55, .ref 56, .ref 57, .int 252 0, .int 30 0, .str "/claim/cut.py" 253], #[]⟩) ::
 (nat_lit 59, hdF 15 "is_deed" "answertrees.deeds" 238 58) ::
 (nat_lit 92, ⟨(.type "tuple"), none, .seq #[.str "ahead" 302, .str "behind" 303, .str "label" 304] 0, #[]⟩) ::
 (nat_lit 98, ⟨(.type "code"), none, .fields #[.str "is_kind" 312, .str "is_kind" 313, .str "/claim/cut.py" 314, .int 50 0, .int 1 0, .int 0 0, .int 0 0, .int 3 0, .ref 93, .bool true, .int 181 0, .ref 94, .none, .ref 95, .ref 96, .ref 97, .int 316 0, .int 50 0, .str "/claim/cut.py" 317], #[]⟩) ::
 (nat_lit 99, hdF 24 "is_kind" "answertrees.heads" 300 98) ::
 (nat_lit 103, ⟨(.type "code"), none, .fields #[.str "is_word" 319, .str "is_word" 320, .str "/claim/cut.py" 321, .int 52 0, .int 1 0, .int 0 0, .int 0 0, .int 3 0, .ref 100, .bool true, .int 181 0, .ref 101, .none, .none, .none, .ref 102, .int 322 0, .int 52 0, .str "/claim/cut.py" 323], #[]⟩) ::
 (nat_lit 104, hdF 25 "is_word" "answertrees.heads" 300 103) ::
 (nat_lit 110, ⟨(.type "code"), none, .fields #[.str "is_rule" 325, .str "is_rule" 326, .str "/claim/cut.py" 327, .int 56 0, .int 1 0, .int 0 0, .int 0 0, .int 3 0, .ref 105, .bool true, .int 181 0, .ref 106, .none, .ref 107, .ref 108, .ref 109, .int 329 0, .int 56 0, .str "/claim/cut.py" 330], #[]⟩) ::
 (nat_lit 111, hdF 26 "is_rule" "answertrees.heads" 300 110) ::
 (nat_lit 115, ⟨(.type "code"), none, .fields #[.str "is_rules" 332, .str "is_rules" 333, .str "/claim/cut.py" 334, .int 60 0, .int 1 0, .int 0 0, .int 0 0, .int 3 0, .ref 112, .bool true, .int 181 0, .ref 113, .none, .none, .none, .ref 114, .int 335 0, .int 60 0, .str "/claim/cut.py" 336], #[]⟩) ::
 (nat_lit 116, hdF 27 "is_rules" "answertrees.heads" 300 115) ::
 (nat_lit 120, ⟨(.type "code"), none, .fields #[.str "is_count" 342, .str "is_count" 343, .str "/claim/cut.py" 344, .int 66 0, .int 1 0, .int 0 0, .int 0 0, .int 3 0, .ref 117, .bool true, .int 181 0, .ref 118, .none, .none, .none, .ref 119, .int 345 0, .int 66 0, .str "/claim/cut.py" 346], #[]⟩) ::
 (nat_lit 121, hdF 30 "is_count" "answertrees.peeling" 338 120) ::
 (nat_lit 127, ⟨(.type "code"), none, .fields #[.str "number_in" 352, .str "number_in" 353, .str "/claim/cut.py" 354, .int 70 0, .int 1 0, .int 0 0, .int 0 0, .int 3 0, .ref 122, .bool true, .int 181 0, .ref 123, .none, .ref 124, .ref 125, .ref 126, .int 356 0, .int 70 0, .str "/claim/cut.py" 357], #[]⟩) ::
 (nat_lit 128, hdF 33 "number_in" "answertrees.texts" 348 127) ::
 (nat_lit 134, ⟨(.type "code"), none, .fields #[.str "checked" 359, .str "checked" 360, .str "/claim/cut.py" 361, .int 76 0, .int 1 0, .int 0 0, .int 0 0, .int 3 0, .ref 129, .bool true, .int 181 0, .ref 130, .none, .ref 131, .ref 132, .ref 133, .int 363 0, .int 76 0, .str "/claim/cut.py" 364], #[]⟩) ::
 (nat_lit 135, hdF 34 "checked" "answertrees.texts" 348 134) ::
 (nat_lit 141, ⟨(.type "code"), none, .fields #[.str "rows_in" 366, .str "rows_in" 367, .str "/claim/cut.py" 368, .int 80 0, .int 1 0, .int 0 0, .int 0 0, .int 3 0, .ref 136, .bool true, .int 181 0, .ref 137, .none, .ref 138, .ref 139, .ref 140, .int 371 0, .int 80 0, .str "/claim/cut.py" 372], #[]⟩) ::
 (nat_lit 142, hdF 35 "rows_in" "answertrees.texts" 348 141) ::
 (nat_lit 148, ⟨(.type "code"), none, .fields #[.str "needed" 374, .str "needed" 375, .str "/claim/cut.py" 376, .int 83 0, .int 2 0, .int 0 0, .int 0 0, .int 3 0, .ref 143, .bool true, .int 181 0, .ref 144, .none, .ref 145, .ref 146, .ref 147, .int 379 0, .int 83 0, .str "/claim/cut.py" 380], #[]⟩) ::
 (nat_lit 149, hdF 36 "needed" "answertrees.texts" 348 148) ::
 (nat_lit 155, ⟨(.type "code"), none, .fields #[.str "letter_in" 384, .str "letter_in" 385, .str "/claim/cut.py" 386, .int 88 0, .int 1 0, .int 0 0, .int 0 0, .int 3 0, .ref 150, .bool true, .int 181 0, .ref 151, .none, .ref 152, .ref 153, .ref 154, .int 395 0, .int 88 0, .str "/claim/cut.py" 396], #[]⟩) ::
 (nat_lit 156, hdF 38 "letter_in" "answertrees.reading" 382 155) ::
 (nat_lit 160, ⟨(.type "code"), none, .fields #[.str "rules_in" 398, .str "rules_in" 399, .str "/claim/cut.py" 400, .int 96 0, .int 1 0, .int 0 0, .int 0 0, .int 3 0, .ref 157, .bool true, .int 181 0, .ref 158, .none, .none, .none, .ref 159, .int 401 0, .int 96 0, .str "/claim/cut.py" 402], #[]⟩) ::
 (nat_lit 161, hdF 39 "rules_in" "answertrees.reading" 382 160) ::
 (nat_lit 167, ⟨(.type "code"), none, .fields #[.str "deed_in" 404, .str "deed_in" 405, .str "/claim/cut.py" 406, .int 101 0, .int 1 0, .int 0 0, .int 0 0, .int 3 0, .ref 162, .bool true, .int 181 0, .ref 163, .none, .ref 164, .ref 165, .ref 166, .int 412 0, .int 101 0, .str "/claim/cut.py" 413], #[]⟩) ::
 (nat_lit 168, hdF 40 "deed_in" "answertrees.reading" 382 167) ::
 (nat_lit 174, ⟨(.type "code"), none, .fields #[.str "entry_in" 415, .str "entry_in" 416, .str "/claim/cut.py" 417, .int 108 0, .int 1 0, .int 0 0, .int 0 0, .int 3 0, .ref 169, .bool true, .int 181 0, .ref 170, .none, .ref 171, .ref 172, .ref 173, .int 421 0, .int 108 0, .str "/claim/cut.py" 422], #[]⟩) ::
 (nat_lit 175, hdF 41 "entry_in" "answertrees.reading" 382 174) ::
 (nat_lit 181, ⟨(.type "code"), none, .fields #[.str "read_letter" 424, .str "read_letter" 425, .str "/claim/cut.py" 426, .int 114 0, .int 1 0, .int 0 0, .int 0 0, .int 3 0, .ref 176, .bool true, .int 181 0, .ref 177, .none, .ref 178, .ref 179, .ref 180, .int 428 0, .int 114 0, .str "/claim/cut.py" 429], #[]⟩) ::
 (nat_lit 182, hdF 42 "read_letter" "answertrees.reading" 382 181) ::
 (nat_lit 188, ⟨(.type "code"), none, .fields #[.str "read_pack" 431, .str "read_pack" 432, .str "/claim/cut.py" 433, .int 116 0, .int 1 0, .int 0 0, .int 0 0, .int 3 0, .ref 183, .bool true, .int 181 0, .ref 184, .none, .ref 185, .ref 186, .ref 187, .int 439 0, .int 116 0, .str "/claim/cut.py" 440], #[]⟩) ::
 (nat_lit 189, hdF 43 "read_pack" "answertrees.reading" 382 188) ::
 (nat_lit 195, ⟨(.type "code"), none, .fields #[.str "read_rules" 442, .str "read_rules" 443, .str "/claim/cut.py" 444, .int 124 0, .int 1 0, .int 0 0, .int 0 0, .int 3 0, .ref 190, .bool true, .int 181 0, .ref 191, .none, .ref 192, .ref 193, .ref 194, .int 446 0, .int 124 0, .str "/claim/cut.py" 447], #[]⟩) ::
 (nat_lit 196, hdF 44 "read_rules" "answertrees.reading" 382 195) ::
 (nat_lit 202, ⟨(.type "code"), none, .fields #[.str "read_deed" 449, .str "read_deed" 450, .str "/claim/cut.py" 451, .int 126 0, .int 1 0, .int 0 0, .int 0 0, .int 3 0, .ref 197, .bool true, .int 181 0, .ref 198, .none, .ref 199, .ref 200, .ref 201, .int 453 0, .int 126 0, .str "/claim/cut.py" 454], #[]⟩) ::
 (nat_lit 203, hdF 45 "read_deed" "answertrees.reading" 382 202) ::
 (nat_lit 207, ⟨(.type "code"), none, .fields #[.str "read_log" 456, .str "read_log" 457, .str "/claim/cut.py" 458, .int 128 0, .int 1 0, .int 0 0, .int 0 0, .int 3 0, .ref 204, .bool true, .int 181 0, .ref 205, .none, .none, .none, .ref 206, .int 459 0, .int 128 0, .str "/claim/cut.py" 460], #[]⟩) ::
 (nat_lit 208, hdF 46 "read_log" "answertrees.reading" 382 207) ::
 (nat_lit 214, ⟨(.type "code"), none, .fields #[.str "_law_purse" 464, .str "_law_purse" 465, .str "/claim/cut.py" 466, .int 131 0, .int 1 0, .int 0 0, .int 0 0, .int 3 0, .ref 209, .bool true, .int 181 0, .ref 210, .none, .ref 211, .ref 212, .ref 213, .int 471 0, .int 131 0, .str "/claim/cut.py" 472], #[]⟩) ::
 (nat_lit 215, hdF 48 "_law_purse" "law_answertrees_k65_read_as_written" 462 214) ::
 (nat_lit 221, ⟨(.type "code"), none, .fields #[.str "_law_pick" 474, .str "_law_pick" 475, .str "/claim/cut.py" 476, .int 138 0, .int 2 0, .int 0 0, .int 0 0, .int 3 0, .ref 216, .bool true, .int 181 0, .ref 217, .none, .ref 218, .ref 219, .ref 220, .int 484 0, .int 138 0, .str "/claim/cut.py" 485], #[]⟩) ::
 (nat_lit 222, hdF 49 "_law_pick" "law_answertrees_k65_read_as_written" 462 221) ::
 (nat_lit 226, ⟨(.type "code"), none, .fields #[.str "_law_name" 487, .str "_law_name" 488, .str "/claim/cut.py" 489, .int 151 0, .int 1 0, .int 0 0, .int 0 0, .int 3 0, .ref 223, .bool true, .int 181 0, .ref 224, .none, .none, .none, .ref 225, .int 490 0, .int 151 0, .str "/claim/cut.py" 491], #[]⟩) ::
 (nat_lit 227, hdF 50 "_law_name" "law_answertrees_k65_read_as_written" 462 226) ::
 (nat_lit 233, ⟨(.type "code"), none, .fields #[.str "_law_names" 493, .str "_law_names" 494, .str "/claim/cut.py" 495, .int 155 0, .int 2 0, .int 0 0, .int 0 0, .int 3 0, .ref 228, .bool true, .int 181 0, .ref 229, .none, .ref 230, .ref 231, .ref 232, .int 501 0, .int 155 0, .str "/claim/cut.py" 502], #[]⟩) ::
 (nat_lit 234, hdF 51 "_law_names" "law_answertrees_k65_read_as_written" 462 233) ::
 (nat_lit 240, ⟨(.type "code"), none, .fields #[.str "_law_day" 504, .str "_law_day" 505, .str "/claim/cut.py" 506, .int 162 0, .int 1 0, .int 0 0, .int 0 0, .int 3 0, .ref 235, .bool true, .int 181 0, .ref 236, .none, .ref 237, .ref 238, .ref 239, .int 509 0, .int 162 0, .str "/claim/cut.py" 510], #[]⟩) ::
 (nat_lit 241, hdF 52 "_law_day" "law_answertrees_k65_read_as_written" 462 240) ::
 (nat_lit 247, ⟨(.type "code"), none, .fields #[.str "_law_sign" 512, .str "_law_sign" 513, .str "/claim/cut.py" 514, .int 169 0, .int 1 0, .int 0 0, .int 0 0, .int 3 0, .ref 242, .bool true, .int 181 0, .ref 243, .none, .ref 244, .ref 245, .ref 246, .int 518 0, .int 169 0, .str "/claim/cut.py" 519], #[]⟩) ::
 (nat_lit 248, hdF 53 "_law_sign" "law_answertrees_k65_read_as_written" 462 247) ::
 (nat_lit 252, ⟨(.type "code"), none, .fields #[.str "_law_letter" 521, .str "_law_letter" 522, .str "/claim/cut.py" 523, .int 173 0, .int 2 0, .int 0 0, .int 0 0, .int 3 0, .ref 249, .bool true, .int 181 0, .ref 250, .none, .none, .none, .ref 251, .int 524 0, .int 173 0, .str "/claim/cut.py" 525], #[]⟩) ::
 (nat_lit 253, hdF 54 "_law_letter" "law_answertrees_k65_read_as_written" 462 252) ::
 (nat_lit 259, ⟨(.type "code"), none, .fields #[.str "_law_pack" 527, .str "_law_pack" 528, .str "/claim/cut.py" 529, .int 178 0, .int 2 0, .int 0 0, .int 0 0, .int 3 0, .ref 254, .bool true, .int 181 0, .ref 255, .none, .ref 256, .ref 257, .ref 258, .int 535 0, .int 178 0, .str "/claim/cut.py" 536], #[]⟩) ::
 (nat_lit 260, hdF 55 "_law_pack" "law_answertrees_k65_read_as_written" 462 259) ::
 (nat_lit 264, ⟨(.type "code"), none, .fields #[.str "_law_rules" 538, .str "_law_rules" 539, .str "/claim/cut.py" 540, .int 185 0, .int 1 0, .int 0 0, .int 0 0, .int 3 0, .ref 261, .bool true, .int 181 0, .ref 262, .none, .none, .none, .ref 263, .int 541 0, .int 185 0, .str "/claim/cut.py" 542], #[]⟩) ::
 (nat_lit 265, hdF 56 "_law_rules" "law_answertrees_k65_read_as_written" 462 264) ::
 (nat_lit 269, ⟨(.type "code"), none, .fields #[.str "_law_deed" 544, .str "_law_deed" 545, .str "/claim/cut.py" 546, .int 192 0, .int 2 0, .int 0 0, .int 0 0, .int 3 0, .ref 266, .bool true, .int 181 0, .ref 267, .none, .none, .none, .ref 268, .int 547 0, .int 192 0, .str "/claim/cut.py" 548], #[]⟩) ::
 (nat_lit 270, hdF 57 "_law_deed" "law_answertrees_k65_read_as_written" 462 269) ::
 (nat_lit 276, ⟨(.type "code"), none, .fields #[.str "_law_log" 550, .str "_law_log" 551, .str "/claim/cut.py" 552, .int 201 0, .int 2 0, .int 0 0, .int 0 0, .int 3 0, .ref 271, .bool true, .int 181 0, .ref 272, .none, .ref 273, .ref 274, .ref 275, .int 558 0, .int 201 0, .str "/claim/cut.py" 559], #[]⟩) ::
 (nat_lit 277, hdF 58 "_law_log" "law_answertrees_k65_read_as_written" 462 276) ::
 (nat_lit 283, ⟨(.type "code"), none, .fields #[.str "_law_written" 561, .str "_law_written" 562, .str "/claim/cut.py" 563, .int 207 0, .int 1 0, .int 0 0, .int 0 0, .int 3 0, .ref 278, .bool true, .int 181 0, .ref 279, .none, .ref 280, .ref 281, .ref 282, .int 565 0, .int 207 0, .str "/claim/cut.py" 566], #[]⟩) ::
 (nat_lit 284, hdF 59 "_law_written" "law_answertrees_k65_read_as_written" 462 283) ::
 (nat_lit 288, ⟨(.type "code"), none, .fields #[.str "_law_rules_written" 568, .str "_law_rules_written" 569, .str "/claim/cut.py" 570, .int 209 0, .int 1 0, .int 0 0, .int 0 0, .int 3 0, .ref 285, .bool true, .int 181 0, .ref 286, .none, .none, .none, .ref 287, .int 571 0, .int 209 0, .str "/claim/cut.py" 572], #[]⟩) ::
 (nat_lit 289, hdF 60 "_law_rules_written" "law_answertrees_k65_read_as_written" 462 288) ::
 (nat_lit 295, ⟨(.type "code"), none, .fields #[.str "_law_deed_written" 574, .str "_law_deed_written" 575, .str "/claim/cut.py" 576, .int 211 0, .int 1 0, .int 0 0, .int 0 0, .int 3 0, .ref 290, .bool true, .int 181 0, .ref 291, .none, .ref 292, .ref 293, .ref 294, .int 578 0, .int 211 0, .str "/claim/cut.py" 579], #[]⟩) ::
 (nat_lit 296, hdF 61 "_law_deed_written" "law_answertrees_k65_read_as_written" 462 295) ::
 (nat_lit 300, ⟨(.type "code"), none, .fields #[.str "_law_log_written" 581, .str "_law_log_written" 582, .str "/claim/cut.py" 583, .int 215 0, .int 1 0, .int 0 0, .int 0 0, .int 3 0, .ref 297, .bool true, .int 181 0, .ref 298, .none, .none, .none, .ref 299, .int 584 0, .int 215 0, .str "/claim/cut.py" 585], #[]⟩) ::
 (nat_lit 301, hdF 62 "_law_log_written" "law_answertrees_k65_read_as_written" 462 300) ::
 (nat_lit 305, ⟨(.type "code"), none, .fields #[.str "_law_same" 587, .str "_law_same" 588, .str "/claim/cut.py" 589, .int 217 0, .int 2 0, .int 0 0, .int 0 0, .int 3 0, .ref 302, .bool true, .int 181 0, .ref 303, .none, .none, .none, .ref 304, .int 590 0, .int 217 0, .str "/claim/cut.py" 591], #[]⟩) ::
 (nat_lit 306, hdF 63 "_law_same" "law_answertrees_k65_read_as_written" 462 305) ::
 (nat_lit 310, ⟨(.type "code"), none, .fields #[.str "law" 593, .str "law" 594, .str "/claim/cut.py" 595, .int 227 0, .int 1 0, .int 0 0, .int 0 0, .int 3 0, .ref 307, .bool true, .int 181 0, .ref 308, .none, .none, .none, .ref 309, .int 596 0, .int 227 0, .str "/claim/cut.py" 597], #[]⟩) ::
 (nat_lit 311, hdF 64 "law" "law_answertrees_k65_read_as_written" 462 310) :: []
noncomputable abbrev hdA : List Addr := [3, 18, 19, 25, 26, 32, 33, 37, 38, 42, 43, 49, 50, 51, 52, 58, 59, 92, 98, 99, 103, 104, 110, 111, 115, 116, 120, 121, 127, 128, 134, 135, 141, 142, 148, 149, 155, 156, 160, 161, 167, 168, 174, 175, 181, 182, 188, 189, 195, 196, 202, 203, 207, 208, 214, 215, 221, 222, 226, 227, 233, 234, 240, 241, 247, 248, 252, 253, 259, 260, 264, 265, 269, 270, 276, 277, 283, 284, 288, 289, 295, 296, 300, 301, 305, 306, 310, 311]
noncomputable def hdV : Program := PySem.W.view hdP [1, 2, 3, 4, 5, 6, 7, 8, 9, 10, 11, 13, 14, 15, 17, 18, 20, 21, 22, 23, 24, 25, 26, 27, 29, 30, 32, 33, 34, 35, 36, 38, 39, 40, 41, 42, 43, 44, 45, 46, 48, 49, 50, 51, 52, 53, 54, 55, 56, 57, 58, 59, 60, 61, 62, 63, 64]
noncomputable abbrev hdN : Nat := 3816
theorem hdL : PySem.W.LeftO hdP hdV [] (fun s => PySem.W.xlAt hdV [] s && PySem.W.recOk [] s) (fun s => hdA.map s.heap.get?) (fun w => (hdK w.params).map fun p => some p.2) hdN := by
 intro w
 rw [PySem.W.Fast.te4187177175401517315, PySem.W.Fast.te5923862056798008813, PySem.W.Fast.te14364793385576792824]
 kernel_rfl
theorem hdS : PySem.Challenge.rw_answertrees_k65_read_as_written.wellSaid = true := by
 rw [PySem.W.Fast.te9446332074065402090]
 kernel_rfl
end My
namespace L2
open PySem PySem.Spec PyProof.Rows
noncomputable abbrev Key := Sum Int Str
noncomputable def keyIs : Key → Value → Bool
 | .inl k, v => Value.isInt k v
 | .inr x, v => Value.isStrOf x v
noncomputable def keyH (w : World) : Key → Int
 | .inl k => hashInt k
 | .inr x => hashStr w x
theorem keyIs_shape : ∀ {k : Key} {v : Value}, keyIs k v = true → (∃ i t, k = Sum.inl i ∧ v = Value.int i t) ∨ (∃ x t, k = Sum.inr x ∧ v = Value.str x t)
 | .inl i, v, h => by
  obtain ⟨t, e⟩ := Value.isInt_shape (k := i) (v := v) h
  exact .inl ⟨i, t, rfl, e⟩
 | .inr x, v, h => by
  obtain ⟨t, e⟩ := Value.isStrOf_shape (x := x) (v := v) h
  exact .inr ⟨x, t, rfl, e⟩
theorem keyIs_int (i : Int) (t : Tok) : keyIs (.inl i) (.int i t) = true := by simp [keyIs, Value.isInt]
theorem keyIs_str (x : Str) (t : Tok) : keyIs (.inr x) (.str x t) = true := by simp [keyIs, Value.isStrOf]
theorem key_ll (a b : Int) : decide ((Sum.inl a : Key) = Sum.inl b) = (a == b) := by
 by_cases e : a = b
 ·subst e; simp
 ·have h : ¬ (Sum.inl a : Key) = Sum.inl b := fun q => e (Sum.inl.inj q)
  rw [decide_eq_false h]
  exact (beq_eq_false_iff_ne.mpr e).symm
theorem key_rr (a b : Str) : decide ((Sum.inr a : Key) = Sum.inr b) = decide (a = b) := by
 by_cases e : a = b
 ·subst e; simp
 ·have h : ¬ (Sum.inr a : Key) = Sum.inr b := fun q => e (Sum.inr.inj q)
  rw [decide_eq_false h, decide_eq_false e]
theorem key_lr (a : Int) (b : Str) : decide ((Sum.inl a : Key) = Sum.inr b) = false := decide_eq_false (fun q => nomatch q)
theorem key_rl (a : Str) (b : Int) : decide ((Sum.inr a : Key) = Sum.inl b) = false := decide_eq_false (fun q => nomatch q)
noncomputable def mixKind (prog : Program) (w : World) : PySem.KeyKind prog w Key where
 is := keyIs
 hash := keyH w
 inj := fun v a b ha hb => by
  rcases keyIs_shape ha with ⟨i, t, rfl, rfl⟩ | ⟨x, t, rfl, rfl⟩
  ·rcases keyIs_shape hb with ⟨j, u, rfl, e⟩ | ⟨y, u, rfl, e⟩
   ·injection e with e1 _; rw [e1]
   ·exact nomatch e
  ·rcases keyIs_shape hb with ⟨j, u, rfl, e⟩ | ⟨y, u, rfl, e⟩
   ·exact nomatch e
   ·injection e with e1 _; rw [e1]
 byValue := fun k v h => by
  rcases keyIs_shape h with ⟨i, t, rfl, rfl⟩ | ⟨x, t, rfl, rfl⟩ <;> rfl
 pyHash := fun hv h => by
  rcases keyIs_shape hv with ⟨i, t, rfl, rfl⟩ | ⟨x, t, rfl, rfl⟩
  ·exact wpAny_pyHash_int h
  ·exact wpAny_pyHash_str h
 eqBool := fun hu hv h => by
  rcases keyIs_shape hu with ⟨i, t, rfl, rfl⟩ | ⟨x, t, rfl, rfl⟩
  ·rcases keyIs_shape hv with ⟨j, u, rfl, rfl⟩ | ⟨y, u, rfl, rfl⟩
   ·rw [key_ll] at h; exact wpAny_eqBool_int h
   ·rw [key_lr] at h; exact SeqAt.EqAt.int_str i t y u _ _ _ _ h
  ·rcases keyIs_shape hv with ⟨j, u, rfl, rfl⟩ | ⟨y, u, rfl, rfl⟩
   ·rw [key_rl] at h; exact SeqAt.EqAt.str_int x t j u _ _ _ _ h
   ·rw [key_rr] at h; exact wpAny_eqBool_str h
 «strs» := fun k x t v h => by
  rcases keyIs_shape h with ⟨i, u, rfl, e⟩ | ⟨y, u, rfl, e⟩
  ·exact nomatch e
  ·injection e with e1 _
   subst e1
   cases v <;> rfl
theorem mixKind_int (prog : Program) (w : World) (i : Int) (t : Tok) : (mixKind prog w).is (.inl i) (.int i t) = true := keyIs_int i t
theorem mixKind_str (prog : Program) (w : World) (x : Str) (t : Tok) : (mixKind prog w).is (.inr x) (.str x t) = true := keyIs_str x t
end L2
namespace L2
open PySem PySem.Spec PyProof.Rows
inductive V where
 | non | bl (b : Bool) | int (i : Int) | str (x : Str) | byt (b : Array UInt8) | flt (b : UInt64) | ref (a : Addr) | ty (n : String)
 deriving DecidableEq
noncomputable def RelV : V → Value → Prop
 | .non, u => u = Value.none
 | .bl b, u => u = Value.bool b
 | .int i, u => ∃ t, u = Value.int i t
 | .str x, u => ∃ t, u = Value.str x t
 | .byt b, u => ∃ t, u = Value.bytes b t
 | .flt b, u => ∃ t, u = Value.float b t
 | .ref a, u => u = Value.ref a
 | .ty n, u => u = Value.type n
noncomputable abbrev Vals : List V → List Value → Prop := Paired RelV
theorem Vals.length {xs : List V} {us : List Value} (r : Vals xs us) : xs.length = us.length := Paired.length r
theorem Vals.get : ∀ {xs : List V} {us : List Value} {i : Nat} {x : V}, Vals xs us → xs[i]? = some x → ∃ u, us[i]? = some u ∧ RelV x u
 | _, _, _, _, .nil, e => by simp at e
 | _, _, 0, _, .cons r _, e => by simp at e; subst e; exact ⟨_, rfl, r⟩
 | _, _, i + 1, x, .cons _ t, e => by
  obtain ⟨u, h1, h2⟩ := Vals.get (i := i) (x := x) t (by simpa using e)
  exact ⟨u, by simpa using h1, h2⟩
theorem Vals.set {x : V} {u : Value} (r : RelV x u) : ∀ {xs : List V} {us : List Value} (i : Nat), Vals xs us → Vals (xs.set i x) (us.set i u)
 | _, _, _, .nil => .nil
 | _, _, 0, .cons _ t => .cons r t
 | _, _, i + 1, .cons q t => .cons q (Vals.set r i t)
theorem Vals.append : ∀ {xs ys : List V} {us ws : List Value}, Vals xs us → Vals ys ws → Vals (xs ++ ys) (us ++ ws)
 | _, _, _, _, .nil, s => s
 | _, _, _, _, .cons r t, s => .cons r (Vals.append t s)
theorem Vals.take : ∀ {xs : List V} {us : List Value} (n : Nat), Vals xs us → Vals (xs.take n) (us.take n)
 | _, _, 0, _ => .nil
 | _, _, _ + 1, .nil => .nil
 | _, _, n + 1, .cons r t => .cons r (Vals.take n t)
theorem Vals.drop : ∀ {xs : List V} {us : List Value} (n : Nat), Vals xs us → Vals (xs.drop n) (us.drop n)
 | _, _, 0, r => r
 | _, _, _ + 1, .nil => .nil
 | _, _, n + 1, .cons _ t => Vals.drop n t
noncomputable def RelO : Option V → Option Value → Prop
 | some v, some u => RelV v u
 | none, none => True
 | _, _ => False
noncomputable def KV {κ : Type} : List (κ × V) → List (κ × Value) → Prop := Paired fun (p : κ × V) (q : κ × Value) => p.1 = q.1 ∧ RelV p.2 q.2
noncomputable def kV : Key → V
 | .inl i => .int i
 | .inr x => .str x
inductive HO where
 | lst (xs : List V)
 | tup (xs : List V)
 | dK (kvs : List (Key × V)) (ep : Nat) | dT (kvs : List (List Key × V))
 | set (S : Int → Bool) (n : Nat)
 | ins (C dx : Addr) (fs : List (Str × V))
 | own (x : Addr)
 | xd (fs : List (Str × V))
 | met (f x : Addr)
 | rng (lo hi : Int)
 | frz (o : Obj) (u : HO)
 | tbl (ps : Array Value)
 | ext (φ : Heap → Prop)
noncomputable abbrev Hp := Addr → Option HO
noncomputable def upd (H : Hp) (a : Addr) (o : HO) : Hp := fun b => if b = a then some o else H b
theorem upd_same {H : Hp} {a : Addr} {o : HO} : upd H a o a = some o := by unfold upd; rw [if_pos rfl]
theorem upd_ne {H : Hp} {a b : Addr} {o : HO} (h : b ≠ a) : upd H a o b = H b := by unfold upd; rw [if_neg h]
theorem upd_upd {H : Hp} {a : Addr} {o u : HO} : upd (upd H a o) a u = upd H a u := by
 funext b; unfold upd; split <;> rfl
theorem ne_of {H : Hp} {a b : Addr} {o u : HO} (h : H a = some o) (h' : H b = some u) (d : o ≠ u) : a ≠ b := by
 intro e; subst e; rw [h] at h'; exact d (Option.some.inj h')
theorem ne_of_none {H : Hp} {a b : Addr} {o : HO} (h : H a = some o) (h' : H b = none) : a ≠ b := by
 intro e; subst e; rw [h] at h'; cases h'
noncomputable def TupP (h : Heap) (a : Addr) (items : Array Value) : Prop := IsTup h a items ∧ ∀ o, h.get? a = some o → o.dict = none
theorem TupP.new (h : Heap) (items : Array Value) : TupP (h.push { cls := .type "tuple", data := .seq items }) h.objs.size items := ⟨IsTup.new _ _, fun o e => by rw [Heap.get?_push_size _ rfl] at e; cases e; rfl⟩
theorem TupP.of {h : Heap} {a : Addr} {items : Array Value} {n : Nat} {sl : Array (Option Value)} (e : h.get? a = some { cls := .type "tuple", dict := none, data := .seq items n, slots := sl }) : TupP h a items := ⟨⟨_, e, rfl, _, rfl⟩, fun o q => by rw [e] at q; cases q; rfl⟩
section
variable (P : Program) (w : World)
noncomputable def ObjOk (H : Hp) (h : Heap) (a : Addr) : HO → Prop
 | .lst xs => xs.length ≤ sizeLine ∧ ∃ (its : List Value) (n : Nat), Vals xs its ∧ h.get? a = some { cls := .type "list", data := .seq its.toArray n }
 | .tup xs => xs.length ≤ sizeLine ∧ ∃ its : List Value, Vals xs its ∧ TupP h a its.toArray
 | .dK kvs ep => kvs.length ≤ sizeLine ∧ (a == sysModules) = false ∧ ∃ vs, KV kvs vs ∧ h.DictAt (mixKind P w) a vs ep
 | .dT kvs => kvs.length ≤ sizeLine ∧ (a == sysModules) = false ∧ ∃ xs : List (List Key × Addr × Value),
   Paired (fun (p : List Key × V) (q : List Key × Addr × Value) => p.1 = q.1 ∧ H q.2.1 = some (.tup (p.1.map kV)) ∧ RelV p.2 q.2.2) kvs xs ∧
   ∃ o es ep, h.get? a = some o ∧ o.ExactDict ∧ o.data = .dict es ep ∧ es.toList = xs.map (entryOfKey (tupleKind (mixKind P w))) ∧ (xs.map (·.1)).Nodup
 | .set S n => h.SetOf (intKind P w) a S n
 | .ins C dx fs => H dx = some (.own a) ∧ fs.length ≤ 1000 ∧ dx ≠ a ∧ h.get? a = some (PySem.W.instObj C dx) ∧
   ∃ mA, h.Ns1 dx mA ∧ (∀ f, RelO (fs.lookup f) (mA f)) ∧ PySem.Within mA (fs.map (·.1))
 | .own _ => ∃ o, h.get? a = some o
 | .xd fs => ∃ mA, h.Ns1 a mA ∧ ∀ f, RelO (fs.lookup f) (mA f)
 | .rng lo hi => ∃ t u v, h.get? a = some { cls := .type "range", data := .fields #[.int lo t, .int hi u, .int 1 v] }
 | .frz o u => h.get? a = some o ∧ ObjOk H h a u
 | .tbl ps => h.get? a = some { cls := .none, data := .fields ps }
 | .met f x => h.get? a = some (PySem.W.methodObj (.ref f) (.ref x))
 | .ext φ => φ h ∧ (∃ o, h.get? a = some o) ∧ ∀ h1 h2 : Heap, φ h1 → (∀ o, h1.get? a = some o → h2.get? a = some o) → φ h2
noncomputable def HOk (H : Hp) (h : Heap) : Prop := ∀ a o, H a = some o → ObjOk P w H h a o
end
section
variable {P : Program} {w : World} {H H' : Hp} {h h' : Heap} {a : Addr} {o : HO}
theorem ObjOk.lt (x : ObjOk P w H h a o) : a < h.objs.size := by
 cases o with
 | lst xs => obtain ⟨_, _, _, _, e⟩ := x; exact Heap.lt_size e
 | tup xs => obtain ⟨_, _, _, p⟩ := x; exact p.1.lt
 | dK kvs ep => obtain ⟨_, _, _, _, o, _, e, _⟩ := x; exact Heap.lt_size e
 | dT kvs => obtain ⟨_, _, _, _, o, _, _, e, _⟩ := x; exact Heap.lt_size e
 | set S n => obtain ⟨o, _, _, _, e, _⟩ := x; exact Heap.lt_size e
 | ins C dx fs => obtain ⟨_, _, _, e, _⟩ := x; exact Heap.lt_size e
 | own y => obtain ⟨_, e⟩ := x; exact Heap.lt_size e
 | xd fs => obtain ⟨_, ⟨_, _, _, e, _⟩, _⟩ := x; exact Heap.lt_size e
 | rng lo hi => obtain ⟨_, _, _, e⟩ := x; exact Heap.lt_size e
 | frz ob u => obtain ⟨e, _⟩ := x; exact Heap.lt_size e
 | tbl ps => exact Heap.lt_size (show h.get? a = some _ from x)
 | met f y => exact Heap.lt_size (show h.get? a = some _ from x)
 | ext φ => obtain ⟨_, ⟨_, e⟩, _⟩ := x; exact Heap.lt_size e
theorem Paired.mapP {α β : Type} {F G : α → β → Prop} : ∀ {l₁ : List α} {l₂ : List β}, Paired F l₁ l₂ → (∀ a b, F a b → G a b) → Paired G l₁ l₂
 | _, _, .nil, _ => .nil
 | _, _, .cons r t, f => .cons (f _ _ r) (Paired.mapP t f)
theorem ObjOk.stay (x : ObjOk P w H h a o) (k : ∀ b u, (b = a ∨ H b = some (.own a)) → h.get? b = some u → h'.get? b = some u)
  (ho : ∀ b, H b = some (.own a) → H' b = some (.own a)) (ht : ∀ b xs, H b = some (.tup xs) → H' b = some (.tup xs)) : ObjOk P w H' h' a o := by
 induction o with
 | lst xs => obtain ⟨z, its, n, r, e⟩ := x; exact ⟨z, its, n, r, k _ _ (.inl rfl) e⟩
 | tup xs => obtain ⟨z, its, r, ⟨ob, e, c⟩, nd⟩ := x; exact ⟨z, its, r, ⟨ob, k _ _ (.inl rfl) e, c⟩, fun o' e' => by rw [k _ _ (.inl rfl) e] at e'; cases e'; exact nd _ e⟩
 | dK kvs ep => obtain ⟨z, y, vs, r, ob, es, e, c⟩ := x; exact ⟨z, y, vs, r, ob, es, k _ _ (.inl rfl) e, c⟩
 | dT kvs =>
  obtain ⟨z, y, xs, r, ob, es, ep, e, c⟩ := x
  exact ⟨z, y, xs, Paired.mapP r fun p q z => ⟨z.1, ht _ _ z.2.1, z.2.2⟩, ob, es, ep, k _ _ (.inl rfl) e, c⟩
 | set S n => obtain ⟨ob, es, ep, t, e, c⟩ := x; exact ⟨ob, es, ep, t, k _ _ (.inl rfl) e, c⟩
 | ins C dx fs =>
  obtain ⟨d, z, ne, e, mA, ⟨od, es, ep, e2, c⟩, r⟩ := x
  exact ⟨ho _ d, z, ne, k _ _ (.inl rfl) e, mA, ⟨od, es, ep, k _ _ (.inr d) e2, c⟩, r⟩
 | own y => obtain ⟨ob, e⟩ := x; exact ⟨ob, k _ _ (.inl rfl) e⟩
 | xd fs => obtain ⟨mA, ⟨od, es, ep, e, c⟩, r⟩ := x; exact ⟨mA, ⟨od, es, ep, k _ _ (.inl rfl) e, c⟩, r⟩
 | rng lo hi => obtain ⟨t, u, v, e⟩ := x; exact ⟨t, u, v, k _ _ (.inl rfl) e⟩
 | frz ob u ih => obtain ⟨e, q⟩ := x; exact ⟨k _ _ (.inl rfl) e, ih q⟩
 | tbl ps =>
  have e : h.get? a = some { cls := .none, data := .fields ps } := x
  show h'.get? a = some { cls := .none, data := .fields ps }
  exact k a _ (.inl rfl) e
 | met f y =>
  have e : h.get? a = some (PySem.W.methodObj (.ref f) (.ref y)) := x
  show h'.get? a = some (PySem.W.methodObj (.ref f) (.ref y))
  exact k a _ (.inl rfl) e
 | ext φ => obtain ⟨p, ⟨o, e⟩, st⟩ := x; exact ⟨st _ _ p fun o q => k _ _ (.inl rfl) q, ⟨o, k _ _ (.inl rfl) e⟩, st⟩
theorem HOk.lt (x : HOk P w H h) (e : H a = some o) : a < h.objs.size := (x a o e).lt
theorem HOk.fresh (x : HOk P w H h) (e : h.objs.size ≤ a) : H a = none := by
 cases q : H a with
 | none => rfl
 | some u => exact absurd (Nat.lt_of_lt_of_le (x.lt q) e) (Nat.lt_irrefl _)
theorem HOk.kept (x : HOk P w H h) (k : ∀ b u, h.get? b = some u → h'.get? b = some u) : HOk P w H h' := fun a o e =>
 (x a o e).stay (fun b u _ q => k b u q) (fun _ q => q) fun _ _ q => q
theorem HOk.laid (x : HOk P w H h) (k : ∀ b u, h.get? b = some u → h'.get? b = some u) (hp : h.objs.size ≤ a) (new : ObjOk P w (upd H a o) h' a o) : HOk P w (upd H a o) h' := fun b u e => by
 have hn := x.fresh hp
 by_cases hb : b = a
 ·subst hb; rw [upd_same] at e; cases e; exact new
 ·rw [upd_ne hb] at e
  exact (x b u e).stay (fun c v _ q => k c v q) (fun c q => by rw [upd_ne (ne_of_none q hn)]; exact q) fun c xs q => by rw [upd_ne (ne_of_none q hn)]; exact q
end
noncomputable def Rd (H : Hp) (a : Addr) (u : HO) : Prop := H a = some u ∨ ∃ o, H a = some (.frz o u)
theorem Rd.of {H : Hp} {a : Addr} {u : HO} (h : H a = some u) : Rd H a u := .inl h
theorem Rd.ok {P : Program} {w : World} {H : Hp} {h : Heap} {a : Addr} {u : HO} (r : Rd H a u) (x : HOk P w H h) : ObjOk P w H h a u := by
 rcases r with r | ⟨o, r⟩
 ·exact x a u r
 ·obtain ⟨_, q⟩ := x a _ r
  exact q
noncomputable def Mut : Option HO → Prop
 | some (.lst _) => True
 | some (.dK _ _) => True
 | some (.dT _) => True
 | some (.set _ _) => True
 | some (.ins _ _ _) => True
 | some (.ext _) => True
 | _ => False
section
variable {P : Program} {w : World} {H : Hp} {h h' : Heap} {x e : Addr} {o' : HO}
theorem HOk.write (ok : HOk P w H h) (mu : Mut (H x)) (he : e = x ∨ H e = some (.own x)) (k : ∀ b u, b ≠ e → h.get? b = some u → h'.get? b = some u) (heo : ∃ u, h'.get? e = some u)
  (new : ObjOk P w (upd H x o') h' x o') : HOk P w (upd H x o') h' := fun b u q => by
 have nown : ∀ c y, H c = some (.own y) → c ≠ x := fun c y r z => by subst z; rw [r] at mu; exact mu
 have ntup : ∀ c xs, H c = some (.tup xs) → c ≠ x := fun c xs r z => by subst z; rw [r] at mu; exact mu
 by_cases hb : b = x
 ·subst hb; rw [upd_same] at q; cases q; exact new
 ·rw [upd_ne hb] at q
  by_cases hbe : b = e
  ·have q' : H b = some (.own x) := by
    rcases he with z | z
    ·exact absurd (hbe.trans z) hb
    ·rw [hbe]; exact z
   rw [q] at q'; cases q'
   obtain ⟨v, hv⟩ := heo
   exact ⟨v, by rw [hbe]; exact hv⟩
  ·refine (ok b u q).stay (fun c v hc r => k c v ?_ r) (fun c r => by rw [upd_ne (nown c b r)]; exact r) fun c xs r => by rw [upd_ne (ntup c xs r)]; exact r
   rcases hc with rfl | hc
   ·exact hbe
   ·rintro rfl
    rcases he with z | z
    ·exact nown c b hc z
    ·rw [hc] at z; cases z; exact hb rfl
end
structure Un (fs ex : List Addr) (H H' : Hp) (h h' : Heap) : Prop where
 keep : ∀ b o, h.get? b = some o → H b = none → b ∉ fs → b ∉ ex → h'.get? b = some o
 slot : ∀ b o, h.get? b = some o → H b = none → b ∈ fs → b ∉ ex → ∃ sl, h'.get? b = some { o with slots := sl }
 free : ∀ b o, h.get? b = some o → H b = none → b ∉ ex → H' b = none
 there : ∀ b o, h.get? b = some o → b ∉ ex → ∃ o', h'.get? b = some o'
 tups : ∀ b xs, H b = some (.tup xs) → H' b = some (.tup xs)
 frzs : ∀ b o u, H b = some (.frz o u) → H' b = some (.frz o u)
 tbls : ∀ b ps, H b = some (.tbl ps) → ∃ more, H' b = some (.tbl (ps ++ more))
section
variable {fs fs' ex ex' : List Addr} {H H1 H2 : Hp} {h h1 h2 h' : Heap} {a x e : Addr} {o : HO}
theorem Un.any (u : Un fs ex H H1 h h1) {b : Addr} {ob : Obj} (q : h.get? b = some ob) (n : H b = none) (hx : b ∉ ex) : ∃ sl, h1.get? b = some { ob with slots := sl } := by
 by_cases hb : b ∈ fs
 ·exact u.slot b ob q n hb hx
 ·exact ⟨ob.slots, u.keep b ob q n hb hx⟩
theorem Un.trans (a : Un fs ex H H1 h h1) (b : Un fs ex H1 H2 h1 h2) : Un fs ex H H2 h h2 where
 keep := fun c ob q n hc hx => b.keep c ob (a.keep c ob q n hc hx) (a.free c ob q n hx) hc hx
 slot := fun c ob q n hc hx => by
  obtain ⟨sl, e1⟩ := a.slot c ob q n hc hx
  obtain ⟨sl', e2⟩ := b.slot c _ e1 (a.free c ob q n hx) hc hx
  exact ⟨sl', e2⟩
 free := fun c ob q n hx => by
  obtain ⟨o', e1⟩ := a.there c ob q hx
  exact b.free c o' e1 (a.free c ob q n hx) hx
 there := fun c ob q hx => by
  obtain ⟨o', e1⟩ := a.there c ob q hx
  exact b.there c o' e1 hx
 tups := fun c xs q => b.tups c xs (a.tups c xs q)
 frzs := fun c ob xs q => b.frzs c ob xs (a.frzs c ob xs q)
 tbls := fun c ps q => by
  obtain ⟨m1, e1⟩ := a.tbls c ps q
  obtain ⟨m2, e2⟩ := b.tbls c _ e1
  exact ⟨m1 ++ m2, by rw [e2, Array.append_assoc]⟩
theorem Un.kept (k : ∀ b u, h.get? b = some u → h'.get? b = some u) : Un fs ex H H h h' :=
 ⟨fun b ob q _ _ _ => k b ob q, fun b ob q _ _ _ => ⟨ob.slots, k b ob q⟩, fun _ _ _ n _ => n, fun b ob q _ => ⟨ob, k b ob q⟩, fun _ _ q => q, fun _ _ _ q => q, fun _ ps q => ⟨#[], by rw [q]; simp⟩⟩
theorem Un.refl : Un fs ex H H h h := Un.kept fun _ _ q => q
theorem Un.laid (k : ∀ b u, h.get? b = some u → h'.get? b = some u) (hp : h.objs.size ≤ a) (hn : H a = none) : Un fs ex H (upd H a o) h h' where
 keep := fun b u q _ _ _ => k b u q
 slot := fun b u q _ _ _ => ⟨u.slots, k b u q⟩
 free := fun b u q n _ => by rw [upd_ne (Nat.ne_of_lt (Nat.lt_of_lt_of_le (Heap.lt_size q) hp))]; exact n
 there := fun b u q _ => ⟨u, k b u q⟩
 tups := fun b xs q => by rw [upd_ne (ne_of_none q hn)]; exact q
 frzs := fun b u xs q => by rw [upd_ne (ne_of_none q hn)]; exact q
 tbls := fun b ps q => ⟨#[], by rw [upd_ne (ne_of_none q hn), q]; simp⟩
theorem Un.write (mu : Mut (H x)) (he : e = x ∨ H e = some (.own x)) (k : ∀ b u, b ≠ e → h.get? b = some u → h'.get? b = some u) (heo : ∃ u, h'.get? e = some u) : Un fs ex H (upd H x o) h h' := by
 have hx : ∀ b, H b = none → b ≠ x := fun b n z => by subst z; rw [n] at mu; exact mu
 have hb : ∀ b, H b = none → b ≠ e := fun b n z => by
  subst z
  rcases he with r | r
  ·exact hx b n r
  ·rw [n] at r; cases r
 have hm : ∀ b u, H b = some u → ¬ Mut (some u) → b ≠ x := fun b u q nm z => by subst z; rw [q] at mu; exact nm mu
 refine ⟨fun b u q n _ _ => k b u (hb b n) q, fun b u q n _ _ => ⟨u.slots, k b u (hb b n) q⟩, fun b u q n _ => by rw [upd_ne (hx b n)]; exact n, fun b u q _ => ?_,
  fun b xs q => by rw [upd_ne (hm b _ q fun z => z)]; exact q, fun b u xs q => by rw [upd_ne (hm b _ q fun z => z)]; exact q, fun b ps q => ⟨#[], by rw [upd_ne (hm b _ q fun z => z), q]; simp⟩⟩
 by_cases hbe : b = e
 ·subst hbe; exact heo
 ·exact ⟨u, k b u hbe q⟩
theorem Un.mono (u : Un fs ex H H1 h h1) (hs : ∀ b ∈ fs, b ∈ fs') (hx : ∀ b ∈ ex, b ∈ ex') : Un fs' ex' H H1 h h1 :=
 ⟨fun b ob q n hb he => u.keep b ob q n (fun z => hb (hs b z)) fun z => he (hx b z), fun _ _ q n _ he => u.any q n fun z => he (hx _ z), fun b ob q n he => u.free b ob q n fun z => he (hx b z), fun b ob q he => u.there b ob q fun z => he (hx b z), u.tups, u.frzs, u.tbls⟩
end
noncomputable def trk (h : Heap) (H : Hp) : List Addr := (List.range h.objs.size).filter fun a => (H a).isSome
noncomputable def hidT (h : Heap) (H : Hp) : Heap := PySem.W.hideAll h (trk h H)
theorem hidT_size (h : Heap) (H : Hp) : (hidT h H).objs.size = h.objs.size := PySem.W.hideAll_size _ _
theorem hidT_get {h : Heap} {H : Hp} {b : Addr} {o : Obj} (e : h.get? b = some o) (n : H b = none) : (hidT h H).get? b = some o :=
 PySem.W.hideAll_get _ e fun hm => by
  have q : (H b).isSome = true := (List.mem_filter.mp hm).2
  rw [n] at q; simp at q
theorem of_hidT {h : Heap} {H : Hp} {b : Addr} {o : Obj} (e : (hidT h H).get? b = some o) : h.get? b = some o ∧ H b = none := by
 have e' : h.get? b = some o := PySem.W.of_hideAll (trk h H) e
 refine ⟨e', ?_⟩
 cases q : H b with
 | none => rfl
 | some x =>
  have hm : b ∈ trk h H := List.mem_filter.mpr ⟨List.mem_range.mpr (Heap.lt_size e'), by simp [q]⟩
  have z : (hidT h H).get? b = none := PySem.W.hideAll_none (trk h H) hm
  rw [z] at e; cases e
noncomputable def allNews (g h : Heap) (L : Addr) : List (Addr × Obj) := (List.range h.objs.size).filterMap fun a => if a = L ∨ (g.get? a).isSome = true then none else (h.get? a).map fun o => (a, o)
noncomputable def rest (g h : Heap) (L d : Addr) : List (Addr × Obj) := (allNews g h L).filter fun p => decide (p.1 ≠ d)
end L2
namespace L2
open PySem PySem.Spec PyProof.Rows
structure Mod (K : PySem.W.Frag) (mg : Str → Option Value) (base : Heap) : Prop where
 kin : K.In base
 glob : base.Ns mainGlobals mg
 blt : ∃ mb, base.Ns builtinsNs mb ∧ ∀ x : Str, x ≠ "__name__" → mb x = bootBuiltins x
 nolimit : base.NoLimit
structure Cx where
 prog : Program
 w : World
 K : PySem.W.Frag
 mg : Str → Option Value
 base : Heap
 A : Around
 N : List Str
 s₀ : Shared
 H₀ : Hp
 env : Env
 outer : List Env
 stack : List Env
 ex : List Addr
 fn : Str → Bool
 calm : Bool
 pn : List (Addr × Obj)
 xe : Value → Shared → Prop
noncomputable def frs (l : List Env) : List Addr := l.filterMap (·.frame)
noncomputable abbrev Cx.fs (X : Cx) : List Addr := frs X.outer
noncomputable def Vis (sc : Scope) (x : Str) : Prop := sc.names.lookup x = some .local ∨ sc.names.lookup x = some .cell ∨ sc.names.lookup x = some .free
noncomputable def Loc (sc : Scope) (x : Str) : Prop := sc.names.lookup x = some .local ∨ sc.names.lookup x = some .cell
noncomputable def Look (env : Env) (h : Heap) (m : Str → Option Value) (x : Str) (u : Value) : Prop :=
 (env.kindOf x = some .local ∧ m x = some u) ∨ ((env.kindOf x = some .cell ∨ env.kindOf x = some .free) ∧ ∃ c, env.cells.lookup x = some c ∧ h.IsCell c (some u))
structure Cx.Ok (X : Cx) : Prop where
 mod : Mod X.K X.mg X.base
 kind : X.env.scope.kind = .function
 glob : X.env.globals = mainGlobals
 blt : X.env.builtins = builtinsNs
 above : X.s₀.heap.objs.size ≤ X.env.locals
 inj : ∀ x y c, X.env.cells.lookup x = some c → X.env.cells.lookup y = some c → x = y
 has : ∀ x, (X.env.kindOf x = some .cell ∨ X.env.kindOf x = some .free) → ∃ c, X.env.cells.lookup x = some c
 cab : ∀ x c, X.fn x = true → X.env.cells.lookup x = some c → X.s₀.heap.objs.size ≤ c
 hd : X.calm = true → X.A.handled = none
 frames : X.A.frames = some X.stack
 stk : X.stack = X.outer ∨ (X.stack = X.env :: X.outer ∧ X.env.frame = some X.env.locals)
 exf : ∀ b ∈ X.ex, b ≠ X.env.locals ∧ ∀ x c, X.env.cells.lookup x = some c → c ≠ b
 bs : ∀ b o, X.base.get? b = some o → X.s₀.heap.get? b = some o ∧ X.H₀ b = none
 bsz : X.base.objs.size ≤ X.s₀.heap.objs.size
 noex : ∀ b o, X.base.get? b = some o → b ∉ X.ex
 exfs : ∀ b ∈ X.ex, b ∉ X.fs
 funs : X.s₀.heap.FunFrames X.base X.outer
 frf : ∀ b ∈ X.fs, X.H₀ b = none
structure Inv (X : Cx) (pins : List (Addr × Obj)) (σ : List (Option V)) (H : Hp) (s : Shared) : Prop where
 ok : X.Ok
 os : s.os = X.s₀.os
 bare : AllBare s.gens
 base : Un X.fs X.ex X.H₀ H X.s₀.heap s.heap
 loc : ∃ m, s.heap.Ns X.env.locals m ∧ ∀ (i : Nat) (x : Str) (v : V), X.N[i]? = some x → σ[i]? = some (some v) → Vis X.env.scope x → ∃ u, RelV v u ∧ Look X.env s.heap m x u
 cell : ∀ x c, X.env.cells.lookup x = some c → ∃ v, s.heap.IsCell c v
 free : H X.env.locals = none
 freeC : ∀ x c, X.env.cells.lookup x = some c → H c = none
 pin : ∀ p ∈ X.pn ++ pins, s.heap.get? p.1 = some p.2 ∧ H p.1 = none ∧ p.1 ≠ X.env.locals ∧ p.1 ∉ X.fs ∧ ∀ v, p.2.data ≠ .cell v
 hok : HOk X.prog X.w H s.heap
 len : σ.length = X.N.length
section
variable {X : Cx} {pins : List (Addr × Obj)} {σ : List (Option V)} {H H' : Hp} {s : Shared} {h' : Heap}
theorem Cx.Ok.nofr (ok : X.Ok) {b : Addr} {o : Obj} (e : X.base.get? b = some o) : b ∉ X.fs := fun hb => by
 have := (ok.funs.mem hb).1
 rw [e] at this; cases this
theorem Inv.bs (I : Inv X pins σ H s) : ∀ b o, X.base.get? b = some o → s.heap.get? b = some o ∧ H b = none := fun b o e =>
 ⟨I.base.keep b o (I.ok.bs b o e).1 (I.ok.bs b o e).2 (I.ok.nofr e) (I.ok.noex b o e), I.base.free b o (I.ok.bs b o e).1 (I.ok.bs b o e).2 (I.ok.noex b o e)⟩
theorem Inv.bk (I : Inv X pins σ H s) : ∀ b o, X.base.get? b = some o → s.heap.get? b = some o := fun b o e => (I.bs b o e).1
theorem Inv.mod (I : Inv X pins σ H s) : Mod X.K X.mg X.base := I.ok.mod
theorem Inv.kIn (I : Inv X pins σ H s) : X.K.In s.heap := I.ok.mod.kin.keeps I.bk
theorem Inv.nolimit (I : Inv X pins σ H s) : s.heap.NoLimit := I.ok.mod.nolimit.keeps I.bk
theorem Inv.fr (I : Inv X pins σ H s) : ∃ m, Fr X.base X.env.locals s.heap m :=
 let ⟨m, hn, _⟩ := I.loc
 ⟨m, hn, I.bk, Nat.le_trans I.ok.bsz I.ok.above⟩
theorem Inv.lt (I : Inv X pins σ H s) : X.env.locals < s.heap.objs.size := let ⟨_, hn, _⟩ := I.loc; hn.lt
theorem Inv.sz (I : Inv X pins σ H s) : X.s₀.heap.objs.size ≤ s.heap.objs.size := Nat.le_trans I.ok.above (Nat.le_of_lt I.lt)
theorem Inv.nofs (I : Inv X pins σ H s) {a : Addr} (h : s.heap.objs.size ≤ a) : a ∉ X.fs := fun hb => by
 obtain ⟨_, o, ho, _⟩ := I.ok.funs.mem hb
 exact absurd (Nat.lt_of_lt_of_le (Heap.lt_size ho) (Nat.le_trans I.sz h)) (Nat.lt_irrefl _)
theorem Inv.cne (I : Inv X pins σ H s) : ∀ x c, X.env.cells.lookup x = some c → c ≠ X.env.locals := fun x c e z => by
 obtain ⟨v, o, ho, hd⟩ := I.cell x c e
 obtain ⟨m, ⟨o', es, ep, ho', hd', _⟩, _⟩ := I.loc
 rw [z, ho'] at ho; cases ho; rw [hd'] at hd; cases hd
theorem Inv.funs (I : Inv X pins σ H s) : s.heap.FunFrames X.base X.outer := by
 have all : ∀ (l : List Env), (∀ b ∈ frs l, b ∈ X.fs) → X.s₀.heap.FunFrames X.base l → s.heap.FunFrames X.base l := by
  intro l
  induction l with
  | nil => intro _ _; trivial
  | cons env r ih =>
   intro hs hl
   obtain ⟨hk, ⟨L, o, hf, hn, ho, hd⟩, hr⟩ := hl
   have hL : L ∈ X.fs := hs L (by unfold frs; rw [List.filterMap_cons, hf]; exact List.mem_cons_self)
   obtain ⟨sl, e⟩ := I.base.slot L o ho (I.ok.frf L hL) hL fun z => I.ok.exfs L z hL
   exact ⟨hk, ⟨L, _, hf, hn, e, hd⟩, ih (fun b hb => hs b (by unfold frs; rw [List.filterMap_cons, hf]; exact List.mem_cons_of_mem _ hb)) hr⟩
 exact all X.outer (fun _ hb => hb) I.ok.funs
theorem Inv.stack (I : Inv X pins σ H s) : s.heap.FunFrames X.base X.stack := by
 rcases I.ok.stk with e | ⟨e, hf⟩
 ·rw [e]; exact I.funs
 ·rw [e]
  obtain ⟨m, hn, _⟩ := I.loc
  refine .cons (by rw [I.ok.kind]; decide) hf hn ?_ I.funs
  exact Heap.get?_none_of_le (Nat.le_trans I.ok.bsz I.ok.above)
theorem Inv.stkSub (I : Inv X pins σ H s) : ∀ b ∈ frs X.stack, b ∈ X.env.locals :: X.fs := fun b hb => by
 rcases I.ok.stk with e | ⟨e, hf⟩
 ·rw [e] at hb; exact List.mem_cons_of_mem _ hb
 ·rw [e] at hb
  unfold frs at hb
  rw [List.filterMap_cons, hf] at hb
  exact hb
theorem Inv.stkFree (I : Inv X pins σ H s) : ∀ b ∈ frs X.stack, H b = none := fun b hb => by
 rcases List.mem_cons.mp (I.stkSub b hb) with e | hb
 ·rw [e]; exact I.free
 ·obtain ⟨_, o, ho, _⟩ := I.ok.funs.mem hb
  exact I.base.free b o ho (I.ok.frf b hb) fun z => I.ok.exfs b z hb
theorem Inv.step {g' : Array GenState} {t' : Nat} {d' : Drawn} {ch : List Addr} (I : Inv X pins σ H s)
  (hch : ∀ b ∈ ch, (b ∈ X.ex ∨ X.s₀.heap.objs.size ≤ b) ∧ b ≠ X.env.locals ∧ (∀ x c, X.env.cells.lookup x = some c → c ≠ b) ∧ ∀ p ∈ X.pn ++ pins, p.1 ≠ b)
  (keep : ∀ b o, b ≠ X.env.locals → b ∉ X.fs → b ∉ ch → s.heap.get? b = some o → H b = none → h'.get? b = some o)
  (slot : ∀ b o, b ≠ X.env.locals → b ∈ X.fs → b ∉ ch → s.heap.get? b = some o → H b = none → ∃ sl, h'.get? b = some { o with slots := sl }) (free : ∀ b o, b ∉ ch → s.heap.get? b = some o → H b = none → H' b = none)
  (there : ∀ b o, b ∉ ch → s.heap.get? b = some o → ∃ o', h'.get? b = some o')
  (tups : ∀ b xs, H b = some (.tup xs) → H' b = some (.tup xs)) (frzs : ∀ b o u, H b = some (.frz o u) → H' b = some (.frz o u)) (tbls : ∀ b ps, H b = some (.tbl ps) → ∃ more, H' b = some (.tbl (ps ++ more)))
  (ns : ∀ m, s.heap.Ns X.env.locals m → h'.Ns X.env.locals m) (hok : HOk X.prog X.w H' h') (hg : AllBare g') :
  Inv X pins σ H' { s with heap := h', gens := g', drawn := d', toks := t' } := by
 have neL : ∀ b o, X.s₀.heap.get? b = some o → b ≠ X.env.locals := fun b o e => Nat.ne_of_lt (Nat.lt_of_lt_of_le (Heap.lt_size e) I.ok.above)
 have neC : ∀ b o, X.s₀.heap.get? b = some o → b ∉ X.ex → b ∉ ch := fun b o e hx hb => by
  rcases (hch b hb).1 with z | z
  ·exact hx z
  ·exact absurd (Nat.lt_of_lt_of_le (Heap.lt_size e) z) (Nat.lt_irrefl _)
 have cellK : ∀ x c, X.env.cells.lookup x = some c → ∀ v, s.heap.IsCell c v → h'.IsCell c v := fun x c e v ⟨o, ho, hd⟩ => by
  have nch : c ∉ ch := fun z => (hch c z).2.2.1 x c e rfl
  by_cases hc : c ∈ X.fs
  ·obtain ⟨sl, q⟩ := slot c o (I.cne x c e) hc nch ho (I.freeC x c e)
   exact ⟨_, q, hd⟩
  ·exact ⟨o, keep c o (I.cne x c e) hc nch ho (I.freeC x c e), hd⟩
 refine ⟨I.ok, I.os, hg, ⟨fun b o e n hb hx => ?_, fun b o e n hb hx => ?_, fun b o e n hx => ?_, fun b o e hx => ?_, fun b xs e => tups b xs (I.base.tups b xs e), fun b o xs e => frzs b o xs (I.base.frzs b o xs e), fun b ps e => ?_⟩, ?_, fun x c e => ?_, ?_, fun x c e => ?_, fun p hp => ?_, hok, I.len⟩
 ·exact keep b o (neL b o e) hb (neC b o e hx) (I.base.keep b o e n hb hx) (I.base.free b o e n hx)
 ·obtain ⟨sl, e1⟩ := I.base.slot b o e n hb hx
  obtain ⟨sl', e2⟩ := slot b _ (neL b o e) hb (neC b o e hx) e1 (I.base.free b o e n hx)
  exact ⟨sl', e2⟩
 ·obtain ⟨o', e1⟩ := I.base.there b o e hx
  exact free b o' (neC b o e hx) e1 (I.base.free b o e n hx)
 ·obtain ⟨o', e1⟩ := I.base.there b o e hx
  exact there b o' (neC b o e hx) e1
 ·obtain ⟨m1, e1⟩ := I.base.tbls b ps e
  obtain ⟨m2, e2⟩ := tbls b _ e1
  exact ⟨m1 ++ m2, by rw [e2, Array.append_assoc]⟩
 ·obtain ⟨m, hn, hl⟩ := I.loc
  refine ⟨m, ns m hn, fun i x v e1 e2 e3 => ?_⟩
  obtain ⟨u, r, l⟩ := hl i x v e1 e2 e3
  refine ⟨u, r, ?_⟩
  rcases l with l | ⟨k, c, e, z⟩
  ·exact .inl l
  ·exact .inr ⟨k, c, e, cellK x c e _ z⟩
 ·obtain ⟨v, z⟩ := I.cell x c e
  exact ⟨v, cellK x c e v z⟩
 ·obtain ⟨m, ⟨o, _, _, ho, _⟩, _⟩ := I.loc
  exact free _ o (fun z => (hch _ z).2.1 rfl) ho I.free
 ·obtain ⟨v, o, ho, hd⟩ := I.cell x c e
  exact free c o (fun z => (hch c z).2.2.1 x c e rfl) ho (I.freeC x c e)
 ·obtain ⟨e, n, ne, nf, d⟩ := I.pin p hp
  have nch : p.1 ∉ ch := fun z => (hch p.1 z).2.2.2 p hp rfl
  exact ⟨keep p.1 p.2 ne nf nch e n, free p.1 p.2 nch e n, ne, nf, d⟩
theorem Inv.un {t' : Nat} (I : Inv X pins σ H s) (u : Un X.fs [] H H' s.heap h') (hok : HOk X.prog X.w H' h') : Inv X pins σ H' { s with heap := h', toks := t' } := by
 obtain ⟨m, ⟨o, es, ep, ho, r⟩, _⟩ := id I.loc
 obtain ⟨sl, hL⟩ := u.any ho I.free (by simp)
 exact I.step (g' := s.gens) (d' := s.drawn) (ch := []) (fun _ z => nomatch z) (fun b o _ hb _ e n => u.keep b o e n hb (by simp)) (fun b o _ hb _ e n => u.slot b o e n hb (by simp)) (fun b o _ e n => u.free b o e n (by simp)) (fun b o _ e => u.there b o e (by simp)) u.tups u.frzs u.tbls (fun m' hm => by
  obtain ⟨o', es', ep', ho', r'⟩ := hm
  rw [ho] at ho'; cases ho'
  exact ⟨_, es', ep', hL, r'⟩) hok I.bare
theorem Inv.call {g' : Array GenState} {t' : Nat} {d' : Drawn} {ch : List Addr} (I : Inv X pins σ H s) (u : Un (frs X.stack) ch H H' s.heap h') (hok : HOk X.prog X.w H' h') (hg : AllBare g')
  (hch : ∀ b ∈ ch, (b ∈ X.ex ∨ X.s₀.heap.objs.size ≤ b) ∧ b ≠ X.env.locals ∧ (∀ x c, X.env.cells.lookup x = some c → c ≠ b) ∧ ∀ p ∈ X.pn ++ pins, p.1 ≠ b) :
  Inv X pins σ H' { s with heap := h', gens := g', drawn := d', toks := t' } := by
 obtain ⟨m, ⟨o, es, ep, ho, r⟩, _⟩ := id I.loc
 obtain ⟨sl, hL⟩ := u.any ho I.free fun z => (hch _ z).2.1 rfl
 exact I.step (ch := ch) hch (fun b o hL hb hc e n => u.keep b o e n (fun z => (List.mem_cons.mp (I.stkSub b z)).elim hL hb) hc) (fun b o _ _ hc e n => u.any e n hc) (fun b o hc e n => u.free b o e n hc) (fun b o hc e => u.there b o e hc) u.tups u.frzs u.tbls (fun m' hm => by
  obtain ⟨o', es', ep', ho', r'⟩ := hm
  rw [ho] at ho'; cases ho'
  exact ⟨_, es', ep', hL, r'⟩) hok hg
theorem Inv.turned {t' : Nat} {it : Addr} (I : Inv X pins σ H s) (k : ∀ b o, b ≠ it → s.heap.get? b = some o → h'.get? b = some o) (hn : H it = none) (hL : it ≠ X.env.locals)
  (h1 : it ∈ X.ex ∨ X.s₀.heap.objs.size ≤ it) (h2 : ∀ x c, X.env.cells.lookup x = some c → c ≠ it) (h3 : ∀ p ∈ X.pn ++ pins, p.1 ≠ it) : Inv X pins σ H { s with heap := h', toks := t' } := by
 have nit : ∀ b u, H b = some u → b ≠ it := fun b u e z => by rw [z, hn] at e; cases e
 refine I.step (g' := s.gens) (d' := s.drawn) (ch := [it]) (fun b hb => ?_) (fun b o _ _ hc e _ => k b o (fun z => hc (by simp [z])) e) (fun b o _ _ hc e _ => ⟨o.slots, k b o (fun z => hc (by simp [z])) e⟩) (fun _ _ _ _ n => n)
  (fun b o hc e => ⟨o, k b o (fun z => hc (by simp [z])) e⟩) (fun _ _ e => e) (fun _ _ _ e => e) (fun b ps e => ⟨#[], by rw [e]; simp⟩) (fun m hm => ?_) (fun b u e => ?_) I.bare
 ·have e : b = it := by simpa using hb
  subst e
  exact ⟨h1, hL, h2, h3⟩
 ·obtain ⟨o, es, ep, ho, r⟩ := hm
  exact ⟨o, es, ep, k _ o (Ne.symm hL) ho, r⟩
 ·refine (I.hok b u e).stay (fun c v hc q => k c v ?_ q) (fun _ q => q) fun _ _ q => q
  rcases hc with z | z
  ·rw [z]; exact nit b u e
  ·exact nit c _ z
theorem Inv.tok (I : Inv X pins σ H s) (t : Nat) : Inv X pins σ H { s with toks := t } := I.un (h' := s.heap) (t' := t) Un.refl I.hok
theorem Inv.kept {t' : Nat} (I : Inv X pins σ H s) (k : ∀ b u, s.heap.get? b = some u → h'.get? b = some u) : Inv X pins σ H { s with heap := h', toks := t' } := I.un (Un.kept k) (I.hok.kept k)
theorem Inv.laid {a : Addr} {o : HO} {t' : Nat} (I : Inv X pins σ H s) (k : ∀ b u, s.heap.get? b = some u → h'.get? b = some u) (hp : s.heap.objs.size ≤ a) (new : ObjOk X.prog X.w (upd H a o) h' a o) :
  Inv X pins σ (upd H a o) { s with heap := h', toks := t' } := I.un (Un.laid k hp (I.hok.fresh hp)) (I.hok.laid k hp new)
theorem Inv.write {x e : Addr} {o : HO} {t' : Nat} (I : Inv X pins σ H s) (mu : Mut (H x)) (he : e = x ∨ H e = some (.own x)) (k : ∀ b u, b ≠ e → s.heap.get? b = some u → h'.get? b = some u) (heo : ∃ u, h'.get? e = some u)
  (new : ObjOk X.prog X.w (upd H x o) h' x o) : Inv X pins σ (upd H x o) { s with heap := h', toks := t' } := I.un (Un.write mu he k heo) (I.hok.write mu he k heo new)
theorem Inv.weak {σ' : List (Option V)} (I : Inv X pins σ H s) (hl : σ'.length = σ.length) (w : ∀ (i : Nat) v, σ'[i]? = some (some v) → σ[i]? = some (some v)) : Inv X pins σ' H s :=
 ⟨I.ok, I.os, I.bare, I.base, let ⟨m, hn, hl'⟩ := I.loc; ⟨m, hn, fun i x v e1 e2 e3 => hl' i x v e1 (w i v e2) e3⟩, I.cell, I.free, I.freeC, I.pin, I.hok, hl.trans I.len⟩
theorem Inv.pins_of {pins' : List (Addr × Obj)} (I : Inv X pins σ H s) (h : ∀ p ∈ pins', s.heap.get? p.1 = some p.2 ∧ H p.1 = none ∧ p.1 ≠ X.env.locals ∧ p.1 ∉ X.fs ∧ ∀ v, p.2.data ≠ .cell v) : Inv X pins' σ H s :=
 ⟨I.ok, I.os, I.bare, I.base, I.loc, I.cell, I.free, I.freeC, fun p hp => (List.mem_append.mp hp).elim (fun z => I.pin p (List.mem_append_left _ z)) (h p), I.hok, I.len⟩
theorem nodup_ix {N : List Str} (hN : N.Nodup) {i j : Nat} {x : Str} (a : N[i]? = some x) (b : N[j]? = some x) : i = j := by
 obtain ⟨h1, e1⟩ := List.getElem?_eq_some_iff.mp a
 obtain ⟨h2, e2⟩ := List.getElem?_eq_some_iff.mp b
 exact (List.getElem_inj hN).mp (e1.trans e2.symm)
theorem store_ok2 {M : Model} {A : Around} {E : Value → Shared → Prop} {i : Nat} {x : Str} {v : V} {u : Value} {Q : Unit → Shared → Prop} (I : Inv X pins σ H s) (hN : X.N.Nodup) (hi : X.N[i]? = some x) (hx : Loc X.env.scope x) (r : RelV v u)
  (h : ∀ s', Inv X pins (σ.set i (some v)) H s' → (∃ a, Heap.SameBut a s.heap s'.heap ∧ (a = X.env.locals ∨ X.env.cells.lookup x = some a)) → Q () s') (hf : X.fn x = true ∨ X.env.scope.names.lookup x = some .local := by first | exact .inl rfl | exact .inr rfl | assumption) : wpAny M A (storeName X.env x u) Q E s := by
 obtain ⟨m, hn, hl⟩ := id I.loc
 have hcls : (X.env.scope.kind == .class || (X.env.scope.kind == .module && X.env.locals != X.env.globals)) = false := by rw [I.ok.kind]; rfl
 have hiσ : i < σ.length := by rw [I.len]; exact (List.getElem?_eq_some_iff.mp hi).1
 have cne := I.cne
 have tracked : ∀ {a : Addr} {h' : Heap}, (∃ o, s.heap.get? a = some o ∧ H a = none) → Heap.SameBut a s.heap h' → HOk X.prog X.w H h' := fun {a h'} ha hs b ob e => by
  obtain ⟨_, _, hfree⟩ := ha
  refine (I.hok b ob e).stay (fun c w' hc q => (hs.2 c ?_).trans q) (fun _ q => q) fun _ _ q => q
  rintro rfl
  rcases hc with rfl | hc
  ·rw [hfree] at e; cases e
  ·rw [hfree] at hc; cases hc
 rcases hx with hk | hk
 ·refine wpAny_storeName_local hk hn (fun h' hn' hs => ?_) hcls
  obtain ⟨oL, _, _, hoL, _⟩ := id hn
  refine h _ ⟨I.ok, I.os, I.bare, ⟨fun b o e n hb hx => ?_, fun b o e n hb hx => ?_, I.base.free, fun b o e hx => ?_, I.base.tups, I.base.frzs, I.base.tbls⟩, ⟨_, hn', fun j y v' e1 e2 e3 => ?_⟩, fun y c e => ?_, I.free, I.freeC, fun p hp => ?_, tracked ⟨oL, hoL, I.free⟩ hs, by simpa using I.len⟩ ⟨_, hs, .inl rfl⟩
  ·exact (hs.2 b (Nat.ne_of_lt (Nat.lt_of_lt_of_le (Heap.lt_size e) I.ok.above))).trans (I.base.keep b o e n hb hx)
  ·obtain ⟨sl, e1⟩ := I.base.slot b o e n hb hx
   exact ⟨sl, (hs.2 b (Nat.ne_of_lt (Nat.lt_of_lt_of_le (Heap.lt_size e) I.ok.above))).trans e1⟩
  ·obtain ⟨o', e1⟩ := I.base.there b o e hx
   exact ⟨o', (hs.2 b (Nat.ne_of_lt (Nat.lt_of_lt_of_le (Heap.lt_size e) I.ok.above))).trans e1⟩
  ·by_cases hj : j = i
   ·subst hj
    rw [hi] at e1; cases e1
    rw [List.getElem?_set_self hiσ] at e2
    cases e2
    exact ⟨u, r, .inl ⟨hk, by simp⟩⟩
   ·rw [List.getElem?_set_ne (Ne.symm hj)] at e2
    obtain ⟨u', r', q⟩ := hl j y v' e1 e2 e3
    refine ⟨u', r', ?_⟩
    rcases q with ⟨k, e⟩ | ⟨k, c, e, z⟩
    ·refine .inl ⟨k, ?_⟩
     have : y ≠ x := fun e => hj (nodup_ix hN e1 (e ▸ hi))
     simp [this, e]
    ·exact .inr ⟨k, c, e, z.sameBut hs (cne y c e)⟩
  ·obtain ⟨w', z⟩ := I.cell y c e
   exact ⟨w', z.sameBut hs (cne y c e)⟩
  ·obtain ⟨e, n, ne, nf, d⟩ := I.pin p hp
   exact ⟨(hs.2 p.1 ne).trans e, n, ne, nf, d⟩
 ·have hfn : X.fn x = true := by
   rcases hf with z | z
   ·exact z
   ·rw [z] at hk; cases hk
  obtain ⟨c, hc⟩ := I.ok.has x (.inl hk)
  obtain ⟨w', z⟩ := I.cell x c hc
  refine wpAny_storeName_cell I.ok.kind hk hc z (fun h' hc' hs => ?_)
  obtain ⟨oc, hoc, hocd⟩ := id z
  refine h { s with heap := h' } ⟨I.ok, I.os, I.bare, ⟨fun b o e n hb hx => ?_, fun b o e n hb hx => ?_, I.base.free, fun b o e hx => ?_, I.base.tups, I.base.frzs, I.base.tbls⟩, ⟨m, hn.sameBut hs (Ne.symm (cne x c hc)), fun j y v' e1 e2 e3 => ?_⟩, fun y c' e => ?_, I.free, I.freeC, fun p hp => ?_, tracked ⟨oc, hoc, I.freeC x c hc⟩ hs, by simpa using I.len⟩ ⟨c, hs, .inr hc⟩
  ·exact (hs.2 b (Nat.ne_of_lt (Nat.lt_of_lt_of_le (Heap.lt_size e) (I.ok.cab x c hfn hc)))).trans (I.base.keep b o e n hb hx)
  ·obtain ⟨sl, e1⟩ := I.base.slot b o e n hb hx
   exact ⟨sl, (hs.2 b (Nat.ne_of_lt (Nat.lt_of_lt_of_le (Heap.lt_size e) (I.ok.cab x c hfn hc)))).trans e1⟩
  ·obtain ⟨o', e1⟩ := I.base.there b o e hx
   exact ⟨o', (hs.2 b (Nat.ne_of_lt (Nat.lt_of_lt_of_le (Heap.lt_size e) (I.ok.cab x c hfn hc)))).trans e1⟩
  ·by_cases hj : j = i
   ·subst hj
    rw [hi] at e1; cases e1
    rw [List.getElem?_set_self hiσ] at e2
    cases e2
    exact ⟨u, r, .inr ⟨.inl hk, c, hc, hc'⟩⟩
   ·rw [List.getElem?_set_ne (Ne.symm hj)] at e2
    obtain ⟨u', r', q⟩ := hl j y v' e1 e2 e3
    refine ⟨u', r', ?_⟩
    rcases q with q | ⟨k, c', e, z'⟩
    ·exact .inl q
    ·refine .inr ⟨k, c', e, z'.sameBut hs ?_⟩
     rintro rfl
     exact hj (nodup_ix hN e1 (I.ok.inj _ _ _ e hc ▸ hi))
  ·by_cases hcc : c' = c
   ·subst hcc; exact ⟨_, hc'⟩
   ·obtain ⟨w2, z2⟩ := I.cell y c' e
    exact ⟨w2, z2.sameBut hs hcc⟩
  ·obtain ⟨e, n, ne, nf, d⟩ := I.pin p hp
   refine ⟨(hs.2 p.1 ?_).trans e, n, ne, nf, d⟩
   intro q
   rw [q, hoc] at e
   have q' : oc = p.2 := Option.some.inj e
   exact d w' (by rw [← q']; exact hocd)
theorem store_ok {M : Model} {A : Around} {E : Value → Shared → Prop} {i : Nat} {x : Str} {v : V} {u : Value} {Q : Unit → Shared → Prop} (I : Inv X pins σ H s) (hN : X.N.Nodup) (hi : X.N[i]? = some x) (hx : Loc X.env.scope x) (r : RelV v u)
  (h : ∀ s', Inv X pins (σ.set i (some v)) H s' → Q () s') (hf : X.fn x = true ∨ X.env.scope.names.lookup x = some .local := by first | exact .inl rfl | exact .inr rfl | assumption) : wpAny M A (storeName X.env x u) Q E s :=
 store_ok2 I hN hi hx r (fun s' I' _ => h s' I') hf
theorem Inv.call' {s' : Shared} {ch : List Addr} (I : Inv X pins σ H s) (ho : s'.os = s.os) (u : Un (frs X.stack) ch H H' s.heap s'.heap) (hok : HOk X.prog X.w H' s'.heap) (hg : AllBare s'.gens)
  (hch : ∀ b ∈ ch, (b ∈ X.ex ∨ X.s₀.heap.objs.size ≤ b) ∧ b ≠ X.env.locals ∧ (∀ x c, X.env.cells.lookup x = some c → c ≠ b) ∧ ∀ p ∈ X.pn ++ pins, p.1 ≠ b) : Inv X pins σ H' s' := by
 obtain ⟨h', g', d', t', o'⟩ := s'
 have e : o' = s.os := ho
 subst e
 exact I.call (g' := g') (t' := t') (d' := d') u hok hg hch
end
noncomputable abbrev XK := Value → Option Addr → Hp → Prop
noncomputable abbrev St := List (Option V)
noncomputable abbrev VK := V → Hp → Prop
noncomputable abbrev TE := St → Hp → VK → Prop
noncomputable abbrev TT := St → Hp → (Bool → Hp → Prop) → Prop
noncomputable abbrev TA := St → Hp → (List V → Hp → Prop) → Prop
structure Ends where
 nx : St → Hp → Prop
 rt : VK
 bk : St → Hp → Prop := fun _ _ => False
 ct : St → Hp → Prop := fun _ _ => False
noncomputable abbrev TS := Ends → St → Hp → Prop
noncomputable def EP (X : Cx) (pins : List (Addr × Obj)) (σ : St) (Q : VK) (u : Value) (s' : Shared) : Prop := ∃ v H', Inv X pins σ H' s' ∧ RelV v u ∧ Q v H'
noncomputable def TP (X : Cx) (pins : List (Addr × Obj)) (σ : St) (Q : Bool → Hp → Prop) (b : Bool) (s' : Shared) : Prop := ∃ H', Inv X pins σ H' s' ∧ Q b H'
noncomputable def AP (X : Cx) (pins : List (Addr × Obj)) (σ : St) (Q : List V → Hp → Prop) (us : List Value) (s' : Shared) : Prop := ∃ vs H', Inv X pins σ H' s' ∧ Vals vs us ∧ Q vs H'
noncomputable def SP (X : Cx) (pins : List (Addr × Obj)) (D : Ends) (f : Flow) (s' : Shared) : Prop :=
 match f with
 | .next => ∃ σ' H', Inv X pins σ' H' s' ∧ D.nx σ' H'
 | .brk => ∃ σ' H', Inv X pins σ' H' s' ∧ D.bk σ' H'
 | .cont => ∃ σ' H', Inv X pins σ' H' s' ∧ D.ct σ' H'
 | .ret u => ∃ v σ' H', Inv X pins σ' H' s' ∧ RelV v u ∧ D.rt v H'
noncomputable def PE (X : Cx) (e : Expr) (t : TE) : Prop :=
 ∀ (pins : List (Addr × Obj)) (s : Shared) (σ : St) (H : Hp) (Q : VK), Inv X pins σ H s → t σ H Q → wpAny (model X.prog X.w) X.A (eval e X.env) (EP X pins σ Q) X.xe s
noncomputable def PT (X : Cx) (e : Expr) (t : TT) : Prop :=
 ∀ (pins : List (Addr × Obj)) (s : Shared) (σ : St) (H : Hp) (Q : Bool → Hp → Prop), Inv X pins σ H s → t σ H Q → wpAny (model X.prog X.w) X.A (isTrue e X.env (eval e X.env)) (TP X pins σ Q) X.xe s
noncomputable def PW (X : Cx) (e : Expr) (t : TT) : Prop :=
 ∀ (whole : Sem Value) (pins : List (Addr × Obj)) (s : Shared) (σ : St) (H : Hp) (Q : Bool → Hp → Prop), Inv X pins σ H s → t σ H Q → wpAny (model X.prog X.w) X.A (isTrue e X.env whole) (TP X pins σ Q) X.xe s
theorem PW.pt {X : Cx} {e : Expr} {t : TT} (h : PW X e t) : PT X e t := h _
noncomputable def PA (X : Cx) (es : List Expr) (t : TA) : Prop :=
 ∀ (pos : Pos) (pins : List (Addr × Obj)) (s : Shared) (σ : St) (H : Hp) (Q : List V → Hp → Prop), Inv X pins σ H s → t σ H Q → wpAny (model X.prog X.w) X.A (spliced (backTo pos (starEach es X.env))) (AP X pins σ Q) X.xe s
noncomputable def PS (X : Cx) (st : Stmt) (t : TS) : Prop :=
 ∀ (pins : List (Addr × Obj)) (s : Shared) (σ : St) (H : Hp) (D : Ends), Inv X pins σ H s → t D σ H → wpAny (model X.prog X.w) X.A (exec st X.env) (SP X pins D) X.xe s
noncomputable def PSs (X : Cx) (st : List Stmt) (t : TS) : Prop :=
 ∀ (pins : List (Addr × Obj)) (s : Shared) (σ : St) (H : Hp) (D : Ends), Inv X pins σ H s → t D σ H → wpAny (model X.prog X.w) X.A (execs st X.env) (SP X pins D) X.xe s
theorem thn {α : Type} {t : Sem α} {Q Q' : α → Shared → Prop} {M : Model} {A : Around} {E : Value → Shared → Prop} {s : Shared} (h : wpAny M A t Q E s) (hQ : ∀ a s, Q a s → Q' a s) : wpAny M A t Q' E s := wpAny_mono h hQ fun _ _ x => x
end L2
namespace L2
open PySem PySem.Spec PyProof.Rows
section
variable {X : Cx}
noncomputable def tVar (i : Nat) : TE := fun σ H Q => ∃ v, σ[i]? = some (some v) ∧ Q v H
noncomputable def tC (v : V) : TE := fun _ H Q => Q v H
theorem pe_var {i : Nat} {x : Str} {pos : Pos} (hN : X.N[i]? = some x) (hv : Vis X.env.scope x) (hd : (x == ("__debug__" : Str)) = false := by decide) (hcd : (x == ("__classdict__" : Str)) = false := by decide) : PE X (.Name x pos) (tVar i) := by
 intro pins s σ H Q I h
 obtain ⟨v, e, h⟩ := h
 obtain ⟨m, hn, hl⟩ := I.loc
 obtain ⟨u, r, l⟩ := hl i x v hN e hv
 have fin : EP X pins σ Q u s := ⟨v, H, I, r, h⟩
 rcases l with ⟨hk, hm⟩ | ⟨hk, c, hc, hcell⟩
 ·exact wpAny_Name (wpAny_loadName_local I.ok.kind hk hn hm fin) hd
 ·rcases hk with hk | hk
  ·exact wpAny_Name (wpAny_loadName_cell I.ok.kind hk hc hcell fin) hd
  ·exact wpAny_Name (wpAny_loadName_free I.ok.kind hk hc hcell fin hcd) hd
theorem pe_int {i j pos} : PE X (.Constant (.int i) j pos) (tC (.int i)) := fun _ _ _ H _ I h => wpAny_Constant_int ⟨.int i, H, I.tok _, ⟨_, rfl⟩, h⟩
theorem pe_bl {b j pos} : PE X (.Constant (.bool b) j pos) (tC (.bl b)) := fun _ _ _ H _ I h => Constant_bool ⟨.bl b, H, I, rfl, h⟩
theorem pe_non {j pos} : PE X (.Constant .none j pos) (tC .non) := fun _ _ _ H _ I h => Constant_none ⟨.non, H, I, rfl, h⟩
theorem pe_str {x j pos} : PE X (.Constant (.str x) j pos) (tC (.str x)) := fun _ _ _ H _ I h => Calls.Constant_str ⟨.str x, H, I.tok _, ⟨_, rfl⟩, h⟩
noncomputable def Gl (X : Cx) (x : Str) : Prop := X.env.kindOf x = some .globalImplicit
theorem ld_glob {E : Value → Shared → Prop} {pins : List (Addr × Obj)} {s : Shared} {σ : St} {H : Hp} {x : Str} {u : Value} {pos : Pos} {Q : Value → Shared → Prop} (I : Inv X pins σ H s) (hg : Gl X x) (hm : X.mg x = some u) (h : Q u s)
  (hd : (x == ("__debug__" : Str)) = false := by decide) : wpAny (model X.prog X.w) X.A (eval (.Name x pos) X.env) Q E s :=
 Calls.Name_function_global I.ok.kind hg (Calls.loadGlobal_global (by rw [I.ok.glob]; exact I.mod.glob.keeps I.bk) hm h) hd
theorem ld_blt {E : Value → Shared → Prop} {pins : List (Addr × Obj)} {s : Shared} {σ : St} {H : Hp} {x : Str} {u : Value} {pos : Pos} {Q : Value → Shared → Prop} (I : Inv X pins σ H s) (hg : Gl X x) (hm : X.mg x = none) (hv : bootBuiltins x = some u) (h : Q u s)
  (hn : x ≠ "__name__" := by decide) (hd : (x == ("__debug__" : Str)) = false := by decide) : wpAny (model X.prog X.w) X.A (eval (.Name x pos) X.env) Q E s := by
 obtain ⟨mb, h1, h2⟩ := I.mod.blt
 exact Calls.Name_function_global I.ok.kind hg (Calls.loadGlobal_builtin (by rw [I.ok.glob]; exact I.mod.glob.keeps I.bk) hm (by rw [I.ok.blt]; exact h1.keeps I.bk) ((h2 x hn).trans hv) h) hd
theorem pe_glob {x : Str} {v : V} {u : Value} {pos : Pos} (hg : Gl X x) (hm : X.mg x = some u) (r : RelV v u) (hd : (x == ("__debug__" : Str)) = false := by decide) : PE X (.Name x pos) (tC v) :=
 fun _ _ _ H _ I h => ld_glob I hg hm ⟨v, H, I, r, h⟩ hd
theorem pe_bltn {x : Str} {v : V} {u : Value} {pos : Pos} (hg : Gl X x) (hm : X.mg x = none) (hv : bootBuiltins x = some u) (r : RelV v u) (hn : x ≠ "__name__" := by decide) (hd : (x == ("__debug__" : Str)) = false := by decide) : PE X (.Name x pos) (tC v) :=
 fun _ _ _ H _ I h => ld_blt I hg hm hv ⟨v, H, I, r, h⟩ hn hd
variable {a b : Expr} {ta tb : TE} {pos : Pos}
noncomputable def tB (t : TE) : TT := fun σ H Q => t σ H fun x H1 => ∃ c, x = .bl c ∧ Q c H1
theorem pt_val {e : Expr} {t : TE} (h : PE X e t) (he : ∀ whole, isTrue e X.env whole = (do let v ← whole; standAt e.pos; holding [v] (truthy v)) := by intro _; rfl) : PT X e (tB t) := by
 intro pins s σ H Q I hw
 refine isTrue_plain (thn (h pins s σ H _ I hw) fun v s1 ⟨x, H1, I1, r1, q1⟩ => ?_) (he _)
 obtain ⟨d, rfl, q⟩ := q1
 cases r1
 exact wpAny_truthy_bool ⟨H1, I1, q⟩
variable {tA tB' : TT} {rest : List Expr}
noncomputable def tAnd (t u : TT) : TT := fun σ H Q => t σ H fun c H1 => if c = true then u σ H1 Q else Q false H1
noncomputable def tOr (t u : TT) : TT := fun σ H Q => t σ H fun c H1 => if c = true then Q true H1 else u σ H1 Q
noncomputable def tNot (t : TT) : TT := fun σ H Q => t σ H fun c H1 => Q (!c) H1
theorem pw_and1 (ha : PT X a tA) : PW X (.BoolOp .And [a] pos) tA := by
 intro wh pins s σ H Q I h
 refine isTrue_and (thn (ha pins s σ H Q I h) fun c s1 e => ?_)
 cases c with
 | true => exact isTrue_and_nil e
 | false => exact e
theorem pw_or1 (ha : PT X a tA) : PW X (.BoolOp .Or [a] pos) tA := by
 intro wh pins s σ H Q I h
 refine isTrue_or (thn (ha pins s σ H Q I h) fun c s1 e => ?_)
 cases c with
 | false => exact isTrue_or_nil e
 | true => exact e
theorem pw_and (ha : PT X a tA) (hb : PW X (.BoolOp .And (b :: rest) pos) tB') : PW X (.BoolOp .And (a :: b :: rest) pos) (tAnd tA tB') := by
 intro wh pins s σ H Q I h
 refine isTrue_and (thn (ha pins s σ H _ I h) fun c s1 ⟨H1, I1, q1⟩ => ?_)
 cases c with
 | true => exact hb wh pins s1 σ H1 Q I1 q1
 | false => exact ⟨H1, I1, q1⟩
theorem pw_or (ha : PT X a tA) (hb : PW X (.BoolOp .Or (b :: rest) pos) tB') : PW X (.BoolOp .Or (a :: b :: rest) pos) (tOr tA tB') := by
 intro wh pins s σ H Q I h
 refine isTrue_or (thn (ha pins s σ H _ I h) fun c s1 ⟨H1, I1, q1⟩ => ?_)
 cases c with
 | true => exact ⟨H1, I1, q1⟩
 | false => exact hb wh pins s1 σ H1 Q I1 q1
theorem pt_not (ha : PT X a tA) : PT X (.UnaryOp .Not a pos) (tNot tA) := by
 intro pins s σ H Q I h
 exact isTrue_not (ha pins s σ H (fun c H1 => Q (!c) H1) I h)
noncomputable def tAndV (ta tb : TE) : TE := fun σ H Q => ta σ H fun x H1 => ∃ c, x = .bl c ∧ if c = true then tb σ H1 Q else Q (.bl false) H1
noncomputable def tOrV (ta tb : TE) : TE := fun σ H Q => ta σ H fun x H1 => ∃ c, x = .bl c ∧ if c = true then Q (.bl true) H1 else tb σ H1 Q
noncomputable def tNotV (ta : TE) : TE := fun σ H Q => ta σ H fun x H1 => ∃ c, x = .bl c ∧ Q (.bl (!c)) H1
theorem pe_one {op} {t : TE} (h : PE X a t) : PE X (.BoolOp op [a] pos) t := fun pins s σ H Q I hw => BoolOp_one (h pins s σ H Q I hw)
theorem pe_and (ha : PE X a ta) (hb : PE X (.BoolOp .And (b :: rest) pos) tb) : PE X (.BoolOp .And (a :: b :: rest) pos) (tAndV ta tb) := by
 intro pins s σ H Q I h
 refine BoolOp_and (thn (ha pins s σ H _ I h) fun v s1 ⟨x, H1, I1, r1, q1⟩ => ?_)
 obtain ⟨c, rfl, q1⟩ := q1
 cases r1
 refine wpAny_truthy_bool ?_
 cases c with
 | true => exact hb pins s1 σ H1 Q I1 q1
 | false => exact ⟨.bl false, H1, I1, rfl, q1⟩
theorem pe_not (ha : PE X a ta) : PE X (.UnaryOp .Not a pos) (tNotV ta) := by
 intro pins s σ H Q I h
 refine UnaryOp_ (thn (ha pins s σ H _ I h) fun v s1 ⟨x, H1, I1, r1, q1⟩ => ?_)
 obtain ⟨c, rfl, q1⟩ := q1
 cases r1
 exact not_of (wpAny_truthy_bool ⟨.bl (!c), H1, I1, rfl, q1⟩)
noncomputable def tIf (t : TT) (ta tb : TE) : TE := fun σ H Q => t σ H fun c H1 => if c = true then ta σ H1 Q else tb σ H1 Q
theorem pe_ifExp {c : Expr} (hc : PT X c tA) (ha : PE X a ta) (hb : PE X b tb) : PE X (.IfExp c a b pos) (tIf tA ta tb) := by
 intro pins s σ H Q I h
 refine wpAny_IfExp (thn (hc pins s σ H _ I h) fun d s1 ⟨H1, I1, q1⟩ => ?_)
 cases d with
 | true => exact ha pins s1 σ H1 Q I1 q1
 | false => exact hb pins s1 σ H1 Q I1 q1
end
end L2
namespace L2
open PySem PySem.Spec PyProof.Rows
noncomputable def SqL (K : PySem.W.Frag) (H : Hp) (a : Addr) (xs : List V) : Prop :=
 Rd H a (.lst xs) ∨
  ∃ (o : Obj) (its : Array Value) (n : Nat), K.lookup a = some o ∧ o.cls = .type "list" ∧ o.dict = none ∧ o.data = .seq its n ∧ its.size ≤ sizeLine ∧ Vals xs its.toList
noncomputable def SqT (K : PySem.W.Frag) (H : Hp) (a : Addr) (xs : List V) : Prop :=
 Rd H a (.tup xs) ∨
  ∃ (o : Obj) (its : Array Value) (n : Nat), K.lookup a = some o ∧ o.cls = .type "tuple" ∧ o.data = .seq its n ∧ its.size ≤ sizeLine ∧ Vals xs its.toList
noncomputable def absV : Value → Option V
 | .none => some .non
 | .bool b => some (.bl b)
 | .int i _ => some (.int i)
 | .str x _ => some (.str x)
 | .bytes b _ => some (.byt b)
 | .float b _ => some (.flt b)
 | .ref a => some (.ref a)
 | .type n => some (.ty n)
 | _ => none
theorem RelV.abs {x : V} {u : Value} (r : RelV x u) : absV u = some x := by
 cases x with
 | non => cases r; rfl
 | bl _ => cases r; rfl
 | int _ => obtain ⟨t, rfl⟩ := r; rfl
 | str _ => obtain ⟨t, rfl⟩ := r; rfl
 | byt _ => obtain ⟨t, rfl⟩ := r; rfl
 | flt _ => obtain ⟨t, rfl⟩ := r; rfl
 | ref _ => cases r; rfl
 | ty _ => cases r; rfl
theorem RelV.inj {x y : V} {u : Value} (r : RelV x u) (q : RelV y u) : x = y := Option.some.inj (r.abs.symm.trans q.abs)
theorem Vals.inj : ∀ {xs ys : List V} {us : List Value}, Vals xs us → Vals ys us → xs = ys
 | _, _, _, .nil, .nil => rfl
 | _, _, _, .cons r t, .cons r' t' => by rw [r.inj r', Vals.inj t t']
section
variable {X : Cx} {pins : List (Addr × Obj)} {σ : St} {H : Hp} {s : Shared} {a : Addr} {xs ys : List V}
theorem SqL.of {K : PySem.W.Frag} (h : H a = some (.lst xs)) : SqL K H a xs := .inl (.inl h)
theorem SqT.of {K : PySem.W.Frag} (h : H a = some (.tup xs)) : SqT K H a xs := .inl (.inl h)
theorem Inv.list (I : Inv X pins σ H s) (h : SqL X.K H a xs) : ∃ its : List Value, Vals xs its ∧ PlainL s.heap a its.toArray ∧ xs.length ≤ sizeLine := by
 rcases h with h | ⟨o, its, n, hk, hc, hd, hs, hz, r⟩
 ·obtain ⟨z, its, n, r, e⟩ := h.ok I.hok
  exact ⟨its, r, ⟨_, n, e, rfl, rfl, rfl⟩, z⟩
 ·refine ⟨its.toList, r, ⟨o, n, I.kIn a o hk, hc, hd, by simpa using hs⟩, ?_⟩
  have e := r.length
  simp only [Array.length_toList] at e
  omega
theorem Inv.tuple (I : Inv X pins σ H s) (h : SqT X.K H a xs) : ∃ its : List Value, Vals xs its ∧ IsTup s.heap a its.toArray ∧ xs.length ≤ sizeLine := by
 rcases h with h | ⟨o, its, n, hk, hc, hs, hz, r⟩
 ·obtain ⟨z, its, r, p⟩ := h.ok I.hok
  exact ⟨its, r, p.1, z⟩
 ·refine ⟨its.toList, r, ⟨o, I.kIn a o hk, hc, n, by simpa using hs⟩, ?_⟩
  have e := r.length
  simp only [Array.length_toList] at e
  omega
theorem Inv.list_inj (I : Inv X pins σ H s) (h : SqL X.K H a xs) (h' : SqL X.K H a ys) : xs = ys := by
 obtain ⟨its, r, ⟨o, n, e, _, _, d⟩, _⟩ := I.list h
 obtain ⟨its', r', ⟨o', n', e', _, _, d'⟩, _⟩ := I.list h'
 rw [e] at e'; cases e'
 rw [d] at d'
 injection d' with d1 _
 have : its = its' := by simpa using congrArg Array.toList d1
 subst this
 exact r.inj r'
theorem Inv.tuple_inj (I : Inv X pins σ H s) (h : SqT X.K H a xs) (h' : SqT X.K H a ys) : xs = ys := by
 obtain ⟨its, r, ⟨o, e, _, n, d⟩, _⟩ := I.tuple h
 obtain ⟨its', r', ⟨o', e', _, n', d'⟩, _⟩ := I.tuple h'
 rw [e] at e'; cases e'
 rw [d] at d'
 injection d' with d1 _
 have : its = its' := by simpa using congrArg Array.toList d1
 subst this
 exact r.inj r'
end
noncomputable abbrev Cx.wish (X : Cx) (E : Value → Shared → Prop) : Cx := { X with xe := E }
noncomputable abbrev Cx.nox (X : Cx) : Cx := X.wish fun _ _ => False
theorem Cx.Ok.wish {X : Cx} (ok : X.Ok) (E : Value → Shared → Prop) : (X.wish E).Ok :=
 ⟨ok.mod, ok.kind, ok.glob, ok.blt, ok.above, ok.inj, ok.has, ok.cab, ok.hd, ok.frames, ok.stk, ok.exf, ok.bs, ok.bsz, ok.noex, ok.exfs, ok.funs, ok.frf⟩
theorem Cx.Ok.unwish {X : Cx} {E : Value → Shared → Prop} (ok : (X.wish E).Ok) : X.Ok :=
 ⟨ok.mod, ok.kind, ok.glob, ok.blt, ok.above, ok.inj, ok.has, ok.cab, ok.hd, ok.frames, ok.stk, ok.exf, ok.bs, ok.bsz, ok.noex, ok.exfs, ok.funs, ok.frf⟩
section
variable {X : Cx} {pins : List (Addr × Obj)} {σ : St} {H : Hp} {s : Shared} {E : Value → Shared → Prop}
theorem Inv.wish (I : Inv X pins σ H s) (E : Value → Shared → Prop) : Inv (X.wish E) pins σ H s := ⟨I.ok.wish E, I.os, I.bare, I.base, I.loc, I.cell, I.free, I.freeC, I.pin, I.hok, I.len⟩
theorem Inv.unwish (I : Inv (X.wish E) pins σ H s) : Inv X pins σ H s := ⟨I.ok.unwish, I.os, I.bare, I.base, I.loc, I.cell, I.free, I.freeC, I.pin, I.hok, I.len⟩
theorem SP.unwish {D : Ends} {f : Flow} {s' : Shared} (h : SP (X.wish E) pins D f s') : SP X pins D f s' := by
 cases f with
 | next => obtain ⟨σ', H', I, q⟩ := h; exact ⟨σ', H', I.unwish, q⟩
 | brk => obtain ⟨σ', H', I, q⟩ := h; exact ⟨σ', H', I.unwish, q⟩
 | cont => obtain ⟨σ', H', I, q⟩ := h; exact ⟨σ', H', I.unwish, q⟩
 | ret u => obtain ⟨v, σ', H', I, r, q⟩ := h; exact ⟨v, σ', H', I.unwish, r, q⟩
theorem PE.nox {e : Expr} {t : TE} (h : PE X.nox e t) : PE X e t := fun pins s σ H Q I hw =>
 wpAny_mono (h pins s σ H Q (I.wish _) hw) (fun _ _ ⟨v, H', I', r, q⟩ => ⟨v, H', I'.unwish, r, q⟩) fun _ _ z => False.elim z
theorem PT.nox {e : Expr} {t : TT} (h : PT X.nox e t) : PT X e t := fun pins s σ H Q I hw =>
 wpAny_mono (h pins s σ H Q (I.wish _) hw) (fun _ _ ⟨H', I', q⟩ => ⟨H', I'.unwish, q⟩) fun _ _ z => False.elim z
theorem PSs.nox {st : List Stmt} {t : TS} (h : PSs X.nox st t) : PSs X st t := fun pins s σ H D I hw =>
 wpAny_mono (h pins s σ H D (I.wish _) hw) (fun _ _ q => q.unwish) fun _ _ z => False.elim z
end
section
variable {X : Cx} {st : Stmt} {rest : List Stmt} {t u : TS} {e : Expr} {te : TE} {pos : Pos}
noncomputable def tNext : TS := fun D σ H => D.nx σ H
noncomputable def tSeq (t u : TS) : TS := fun D σ H => t { D with nx := u D } σ H
theorem pss_nil : PSs X [] tNext := fun _ _ σ H _ I h => wpAny_execs_nil ⟨σ, H, I, h⟩
theorem pss_cons (h1 : PS X st t) (h2 : PSs X rest u) : PSs X (st :: rest) (tSeq t u) := by
 intro pins s σ H D I h
 refine wpAny_execs_cons (thn (h1 pins s σ H { D with nx := u D } I h) fun f s1 q => ?_)
 cases f with
 | next =>
  obtain ⟨σ', H', I', q⟩ := q
  exact h2 pins s1 σ' H' D I' q
 | ret v => exact q
 | brk => exact q
 | cont => exact q
theorem pss_one (h1 : PS X st t) : PSs X [st] t := by
 intro pins s σ H D I h
 refine wpAny_execs_cons (thn (h1 pins s σ H D I h) fun f s1 q => ?_)
 cases f with
 | next => exact wpAny_execs_nil q
 | ret v => exact q
 | brk => exact q
 | cont => exact q
noncomputable def tBreak : TS := fun D σ H => D.bk σ H
noncomputable def tCont : TS := fun D σ H => D.ct σ H
theorem Inv.quiet {pins : List (Addr × Obj)} {σ : St} {H : Hp} {s : Shared} (I : Inv X pins σ H s) : interactive X.env = false := by simp [interactive, I.ok.kind]
noncomputable def tDrop (te : TE) : TS := fun D σ H => te σ H fun _ H1 => D.nx σ H1
theorem ps_expr (he : PE X e te) (hs : swapsWith e none pos.line X.env = pure false := by rfl) : PS X (.Expr e pos) (tDrop te) := by
 intro pins s σ H D I h
 exact wpAny_Expr_any (thn (he pins s σ H _ I h) fun v s1 ⟨x, H1, I1, r1, q1⟩ => ⟨σ, H1, I1, q1⟩) I.quiet hs
noncomputable def tRet (te : TE) : TS := fun D σ H => te σ H D.rt
theorem ps_ret (he : PE X e te) : PS X (.Return (some e) pos) (tRet te) := by
 intro pins s σ H D I h
 exact wpAny_Return_some (thn (he pins s σ H _ I h) fun v s1 ⟨x, H1, I1, r1, q1⟩ => ⟨x, σ, H1, I1, r1, q1⟩)
noncomputable def tIfS (c : TT) (t u : TS) : TS := fun D σ H => c σ H fun b H1 => if b = true then t D σ H1 else u D σ H1
theorem ps_if {c : Expr} {a b : List Stmt} {tc : TT} (hc : PT X c tc) (ha : PSs X a t) (hb : PSs X b u) : PS X (.If c a b pos) (tIfS tc t u) := by
 intro pins s σ H D I h
 refine wpAny_If (thn (hc pins s σ H _ I h) fun d s1 ⟨H1, I1, q1⟩ => ?_)
 cases d with
 | true => exact ha pins s1 σ H1 D I1 q1
 | false => exact hb pins s1 σ H1 D I1 q1
noncomputable def tNever : TS := fun _ _ _ => False
theorem ps_never : PS X st tNever := fun _ _ _ _ _ _ h => h.elim
end
noncomputable abbrev TG := V → St → Hp → (St → Hp → Prop) → Prop
noncomputable abbrev TGs := List V → St → Hp → (St → Hp → Prop) → Prop
noncomputable def PG (X : Cx) (target : Expr) (t : TG) : Prop :=
 ∀ (pins : List (Addr × Obj)) (s : Shared) (σ : St) (H : Hp) (v : V) (u : Value) (Q : St → Hp → Prop), Inv X pins σ H s → RelV v u → t v σ H Q →
  wpAny (model X.prog X.w) X.A (assign target X.env u) (fun _ s' => ∃ σ' H', Inv X pins σ' H' s' ∧ Q σ' H') X.xe s
noncomputable def PGs (X : Cx) (ts : List Expr) (t : TGs) : Prop :=
 ∀ (pins : List (Addr × Obj)) (s : Shared) (σ : St) (H : Hp) (vs : List V) (us : List Value) (Q : St → Hp → Prop), Inv X pins σ H s → Vals vs us → t vs σ H Q →
  wpAny (model X.prog X.w) X.A (assignInOrder ((assignEach ts X.env).map (·.2)) us) (fun _ s' => ∃ σ' H', Inv X pins σ' H' s' ∧ Q σ' H') X.xe s
noncomputable abbrev TSet := V → V → V → Hp → (Hp → Prop) → Prop
noncomputable def PSet (X : Cx) (t : TSet) : Prop :=
 ∀ (pins : List (Addr × Obj)) (s : Shared) (σ : St) (H : Hp) (o i v : V) (ov iv u : Value) (Q : Hp → Prop), Inv X pins σ H s → RelV o ov → RelV i iv → RelV v u → t o i v H Q →
  wpAny (model X.prog X.w) X.A (setItem ov iv u) (fun _ s' => ∃ H', Inv X pins σ H' s' ∧ Q H') X.xe s
section
variable {X : Cx} {pos : Pos}
noncomputable def gName (i : Nat) : TG := fun v σ H Q => Q (σ.set i (some v)) H
theorem pg_name {i : Nat} {x : Str} (hN : X.N.Nodup) (hi : X.N[i]? = some x) (hx : Loc X.env.scope x) (hf : X.fn x = true ∨ X.env.scope.names.lookup x = some .local := by first | exact .inl rfl | exact .inr rfl | assumption) : PG X (.Name x pos) (gName i) := by
 intro pins s σ H v u Q I r h
 exact wpAny_assign_Name (store_ok I hN hi hx r (fun s' I' => ⟨_, H, I', h⟩) hf)
noncomputable def gNil : TGs := fun vs σ H Q => vs = [] ∧ Q σ H
noncomputable def gCons (t : TG) (u : TGs) : TGs := fun vs σ H Q => ∃ v r, vs = v :: r ∧ t v σ H fun σ' H' => u r σ' H' Q
theorem pgs_nil : PGs X [] gNil := by
 intro pins s σ H vs us Q I r h
 obtain ⟨e, h⟩ := h
 subst e
 cases r
 exact assignInOrder_nil ⟨σ, H, I, h⟩
theorem pgs_cons {e : Expr} {es : List Expr} {t : TG} {u : TGs} (h1 : PG X e t) (h2 : PGs X es u)
  (hs : (assignEach (e :: es) X.env).map (·.2) = assign e X.env :: (assignEach es X.env).map (·.2) := by rfl) : PGs X (e :: es) (gCons t u) := by
 intro pins s σ H vs us Q I r h
 obtain ⟨v, vr, e1, h⟩ := h
 subst e1
 cases r with
 | cons r rr =>
  rw [hs]
  refine assignInOrder_cons (thn (h1 pins s σ H _ _ _ I r h) fun _ s1 ⟨σ1, H1, I1, q1⟩ => ?_)
  exact h2 pins s1 σ1 H1 _ _ Q I1 rr q1
noncomputable def gTup (K : PySem.W.Frag) (n : Nat) (t : TGs) : TG := fun v σ H Q => ∃ a xs, v = .ref a ∧ SqT K H a xs ∧ xs.length = n ∧ t xs σ H Q
theorem pg_tup {es : List Expr} {k : Nat} {t : TGs} {n : Nat} (hc : X.calm = true) (h : PGs X es t)
  (hn : (assignEach es X.env).length = n := by rfl) (hst : (assignEach es X.env).findIdx? (·.1) = none := by rfl) : PG X (.Tuple es k pos) (gTup X.K n t) := by
 intro pins s σ H v u Q I r hw
 obtain ⟨a, xs, e1, hq, hl, hw⟩ := hw
 subst e1
 cases r
 obtain ⟨its, rv, ht, hz⟩ := I.tuple hq
 refine assign_Tuple_tuple (I.ok.hd hc) ht (by simp [hn, ← hl, rv.length]) hst fun h' hx => ?_
 have I1 : Inv X pins σ H { s with heap := h' } := I.kept (t' := s.toks) fun b o e => hx b o (Nat.ne_of_lt (Heap.lt_size e)) e
 exact h pins _ σ H xs _ Q I1 (by simpa using rv) hw
noncomputable def gSub (to ti : TE) (t : TSet) : TG := fun v σ H Q => to σ H fun o H1 => ti σ H1 fun i H2 => t o i v H2 fun H3 => Q σ H3
theorem pg_sub {o i : Expr} {to ti : TE} {t : TSet} (ho : PE X o to) (hi : PE X i ti) (hs : PSet X t)
  (ha : ∀ v, assign (.Subscript o i pos) X.env v = (do
   let ov ← holding [v] (eval o X.env)
   let iv ← holding [v, ov] (eval i X.env)
   standAt pos
   holding [v, ov, iv] (setItem ov iv v)
   release [v, ov, iv] []) := by intro _; rfl) : PG X (.Subscript o i pos) (gSub to ti t) := by
 intro pins s σ H v u Q I r h
 rw [ha]
 refine wpAny_bind (wpAny_holding (thn (ho pins s σ H _ I h) fun ov s1 ⟨x, H1, I1, r1, q1⟩ => ?_))
 refine wpAny_bind (wpAny_holding (thn (hi pins s1 σ H1 _ I1 q1) fun iv s2 ⟨y, H2, I2, r2, q2⟩ => ?_))
 refine wpAny_bind (wpAny_standAt (wpAny_bind (wpAny_holding (thn (hs pins s2 σ H2 x y v ov iv u _ I2 r1 r2 r q2) fun _ s3 ⟨H3, I3, q3⟩ => ?_))))
 exact wpAny_release ⟨σ, H3, I3, q3⟩
noncomputable def tAsg (te : TE) (g : TG) : TS := fun D σ H => te σ H fun x H1 => g x σ H1 D.nx
theorem ps_asg {tg e : Expr} {te : TE} {g : TG} (he : PE X e te) (hg : PG X tg g) (hs : swapsWithSole [tg] e pos.line X.env = pure false := by rfl) (hw : swappedStores [tg] e X.env = pure none := by rfl)
  (h1 : (assignEach [tg] X.env).map (·.2) = [assign tg X.env] := by rfl) : PS X (.Assign [tg] e pos) (tAsg te g) := by
 intro pins s σ H D I h
 refine wpAny_Assign_stores (thn (he pins s σ H _ I h) fun v s1 ⟨x, H1, I1, r1, q1⟩ => ?_) hs hw
 rw [h1]
 exact thn (hg pins s1 σ H1 x v _ I1 r1 q1) fun _ s2 q => q
theorem ps_set {i : Nat} {x : Str} {e : Expr} {te : TE} {pos' : Pos} (hN : X.N.Nodup) (hi : X.N[i]? = some x) (hx : Loc X.env.scope x) (he : PE X e te) (hs : swapsWith e (some (.Name x pos')) pos.line X.env = pure false := by rfl) (hf : X.fn x = true ∨ X.env.scope.names.lookup x = some .local := by first | exact .inl rfl | exact .inr rfl | assumption) :
  PS X (.Assign [.Name x pos'] e pos) (tAsg te (gName i)) := by
 intro pins s σ H D I h
 refine wpAny_Assign_Name (thn (he pins s σ H _ I h) fun v s1 ⟨y, H1, I1, r1, q1⟩ => ?_) hs
 exact store_ok I1 hN hi hx r1 (fun s2 I2 => ⟨_, H1, I2, q1⟩) hf
noncomputable def tPar (i j : Nat) (ta : TA) : TS := fun D σ H => ta σ H fun vs H1 => ∃ v w, vs = [v, w] ∧ D.nx ((σ.set i (some v)).set j (some w)) H1
theorem ps_par {i j : Nat} {x y : Str} {a b : Expr} {ta : TA} {px py pt : Pos} {kt k2 pt2} (hc : X.calm = true) (hN : X.N.Nodup) (hi : X.N[i]? = some x) (hj : X.N[j]? = some y) (hij : i ≠ j)
  (hx : X.env.scope.names.lookup x = some .local) (hy : X.env.scope.names.lookup y = some .local) (ha : PA X [a, b] ta)
  (hw : swappedStores [.Tuple [.Name x px, .Name y py] kt pt] (.Tuple [a, b] k2 pt2) X.env = pure (some [x, y]))
  (hs : swapsWithSole [.Tuple [.Name x px, .Name y py] kt pt] (.Tuple [a, b] k2 pt2) pos.line X.env = pure false := by rfl) :
  PS X (.Assign [.Tuple [.Name x px, .Name y py] kt pt] (.Tuple [a, b] k2 pt2) pos) (tPar i j ta) := by
 intro pins s σ H D I h
 rw [exec_Assign_arm]
 refine wpAny_bind (wpAny_standAt ?_)
 rw [hs]
 refine wpAny_bind (wpAny_pure ?_)
 rw [if_neg (by decide)]
 refine wpAny_bind (Tuple_ (thn (ha _ pins s σ H _ I h) fun us s1 ⟨vs, H1, I1, r1, q1⟩ => ?_))
 obtain ⟨v, w, e1, q1⟩ := q1
 subst e1
 obtain ⟨u1, u2, rfl, rv, rw'⟩ : ∃ u1 u2, us = [u1, u2] ∧ RelV v u1 ∧ RelV w u2 := by
  cases r1 with
  | cons p q =>
   cases q with
   | cons p' q' =>
    cases q'
    exact ⟨_, _, rfl, p, p'⟩
 refine wpAny_newObj_type ?_ (by show 2 ≤ sizeLine; decide)
 have I2 : Inv X pins σ H1 { s1 with heap := s1.heap.push { cls := .type "tuple", data := .seq [u1, u2].toArray } } := I1.kept (t' := s1.toks) fun b o e => Heap.get?_push_of_some _ e
 rw [hw]
 refine wpAny_bind (wpAny_pure ?_)
 show wpAny (model X.prog X.w) X.A (do rule "assign.swapped-stores"; let items ← unpackItems (.ref s1.heap.objs.size) 2 none; assignInOrder [fun v => bindName X.env y v, fun v => bindName X.env x v] items.reverse; pure Flow.next) _ _ _
 refine wpAny_bind (wpAny_rule (wpAny_bind (unpackItems_tuple (items := #[u1, u2]) (I.ok.hd hc) (IsTup.new s1.heap _) fun h' hx' => ?_)))
 have I3 := I2.kept (h' := h') (t' := s1.toks) fun b o e => hx' b o (Nat.ne_of_lt (Heap.lt_size e)) e
 show wpAny _ _ (assignInOrder [fun v => bindName X.env y v, fun v => bindName X.env x v] [u2, u1] >>= fun _ => pure Flow.next) _ _ _
 refine wpAny_bind (assignInOrder_cons (wpAny_bindName (store_ok I3 hN hj (.inl hy) rw' (fun s2 I4 => ?_) (.inr hy))))
 refine assignInOrder_cons (wpAny_bindName (store_ok I4 hN hi (.inl hx) rv (fun s3 I5 => assignInOrder_nil (wpAny_pure ?_)) (.inr hx)))
 rw [List.set_comm _ _ (Ne.symm hij)] at I5
 exact ⟨_, H1, I5, q1⟩
end
section
variable {X : Cx} {pos : Pos}
noncomputable def tWhile (c : TT) (tb : TS) : TS := fun D σ H => ∃ W : Nat → St → Hp → Prop, (∃ m, W m σ H) ∧ ∀ m σ H, W m σ H →
 c σ H fun b H1 => if b = true then ∃ N : St → Hp → Prop, (∀ σ' H', N σ' H' → ∃ m', m' < m ∧ W m' σ' H') ∧ tb { D with nx := N, ct := N, bk := D.nx } σ H1 else D.nx σ H1
theorem ps_while {c : Expr} {body : List Stmt} {tc : TT} {tb : TS} (hp : PassesOwn (model X.prog X.w) X.A X.env X.xe) (hc : PT X c tc) (hb : PSs X body tb) : PS X (.While c body [] pos) (tWhile tc tb) := by
 intro pins s σ H D I h
 obtain ⟨W, ⟨m0, w0⟩, turn⟩ := h
 refine wpAny_While (codeAny_whileLoop (fun n s' => ∃ σ' H', Inv X pins σ' H' s' ∧ W n σ' H') ?_ m0 ⟨σ, H, I, w0⟩)
 rintro n s1 ⟨σ1, H1, I1, w1⟩
 refine wpAny_passesOwn hp (thn (hc pins s1 σ1 H1 _ I1 (turn n σ1 H1 w1)) fun b s2 ⟨H2, I2, q2⟩ => ?_)
 cases b with
 | true =>
  obtain ⟨N, hN, q2⟩ := q2
  rw [if_pos rfl]
  refine wpAny_passesOwn hp (thn (hb pins s2 σ1 H2 _ I2 q2) fun f s3 q3 => ?_)
  cases f with
  | next =>
   obtain ⟨σ3, H3, I3, n3⟩ := q3
   obtain ⟨m', hm, w3⟩ := hN σ3 H3 n3
   exact ⟨m', hm, σ3, H3, I3, w3⟩
  | cont =>
   obtain ⟨σ3, H3, I3, n3⟩ := q3
   obtain ⟨m', hm, w3⟩ := hN σ3 H3 n3
   exact ⟨m', hm, σ3, H3, I3, w3⟩
  | brk => exact q3
  | ret v => exact q3
 | false =>
  rw [if_neg Bool.false_ne_true]
  exact wpAny_execs_nil ⟨σ1, H2, I2, q2⟩
end
structure It where
 go : Nat → Hp → Prop
 yld : Nat → Hp → V → Hp → Prop
 stop : Nat → Hp → Prop
noncomputable def FpOk (X : Cx) (pins : List (Addr × Obj)) (H : Hp) (b : Addr) : Prop :=
 H b = none ∧ b ≠ X.env.locals ∧ b ∉ X.fs ∧ (b ∈ X.ex ∨ X.s₀.heap.objs.size ≤ b) ∧ (∀ x c, X.env.cells.lookup x = some c → c ≠ b) ∧ ∀ p ∈ X.pn ++ pins, p.1 ≠ b
theorem Inv.fpOk {X : Cx} {pins : List (Addr × Obj)} {σ : St} {H H' : Hp} {s : Shared} {b : Addr} (I : Inv X pins σ H s) (hb : s.heap.objs.size ≤ b) (hn : H' b = none) : FpOk X pins H' b := by
 refine ⟨hn, Nat.ne_of_gt (Nat.lt_of_lt_of_le I.lt hb), I.nofs hb, .inr (Nat.le_trans I.sz hb), fun x c e z => ?_, fun p hp z => ?_⟩
 ·obtain ⟨v, q⟩ := I.cell x c e
  exact absurd (Nat.lt_of_lt_of_le q.lt (by rw [z]; exact hb)) (Nat.lt_irrefl _)
 ·exact absurd (Nat.lt_of_lt_of_le (Heap.lt_size (I.pin p hp).1) (by rw [z]; exact hb)) (Nat.lt_irrefl _)
structure Turn (P : Program) (w : World) (K : PySem.W.Frag) (tg : Expr) (J : It) (fp : List Addr) (it : Addr) (tn : Nat → Heap → Prop) : Prop where
 mem : it ∈ fp
 obj : ∀ i h, tn i h → ∀ b ∈ fp, ∃ o, h.get? b = some o ∧ ∀ v, o.data ≠ .cell v
 keep : ∀ i h h', tn i h → (∀ b ∈ fp, ∀ o, h.get? b = some o → h'.get? b = some o) → tn i h'
 item : ∀ (X : Cx), X.prog = P → X.w = w → X.K = K → X.calm = true → ∀ (i : Nat) (pins : List (Addr × Obj)) (s : Shared) (σ : St) (H : Hp) (E : Value → Shared → Prop), Inv X pins σ H s → (∀ b ∈ fp, FpOk X pins H b) → tn i s.heap → J.go i H →
  wpAny (model P w) X.A (pyNext (.ref it)) (fun r s1 => ∃ u, r = some u ∧
   wpAny (model P w) X.A (letOwnedTupleGo tg (.ref it) u) (fun _ s2 => ∃ x H', Inv X pins σ H' s2 ∧ RelV x u ∧ J.yld i H x H' ∧ tn (i + 1) s2.heap ∧ ∀ b ∈ fp, H' b = none) E s1) E s
 done : ∀ (X : Cx), X.prog = P → X.w = w → X.K = K → X.calm = true → ∀ (i : Nat) (pins : List (Addr × Obj)) (s : Shared) (σ : St) (H : Hp) (E : Value → Shared → Prop), Inv X pins σ H s → (∀ b ∈ fp, FpOk X pins H b) → tn i s.heap → J.stop i H →
  wpAny (model P w) X.A (pyNext (.ref it)) (fun r s1 => r = none ∧ Inv X pins σ H s1) E s
 self : ∀ (A : Around) (i : Nat) (s : Shared) (Q : Value → Shared → Prop) (E : Value → Shared → Prop), tn i s.heap → Q (.ref it) s → wpAny (model P w) A (pyIter (.ref it)) Q E s
noncomputable abbrev TI := St → Hp → (It → Hp → Prop) → Prop
noncomputable def PIE (X : Cx) (pins : List (Addr × Obj)) (σ : St) (tg : Expr) (R : It → Hp → Prop) (itv : Value) (s2 : Shared) : Prop :=
 ∃ (it : Addr) (fp : List Addr) (tn : Nat → Heap → Prop) (J : It) (H' : Hp), itv = .ref it ∧ Inv X pins σ H' s2 ∧ Turn X.prog X.w X.K tg J fp it tn ∧ tn 0 s2.heap ∧ (∀ b ∈ fp, FpOk X pins H' b) ∧ R J H'
noncomputable def PI (X : Cx) (tg iter : Expr) (wi : TI) : Prop :=
 ∀ (pins : List (Addr × Obj)) (s : Shared) (σ : St) (H : Hp) (R : It → Hp → Prop), Inv X pins σ H s → wi σ H R →
  wpAny (model X.prog X.w) X.A (eval iter X.env) (fun v s1 => wpAny (model X.prog X.w) X.A (pyIter v) (PIE X pins σ tg R) X.xe s1) X.xe s
theorem go_of {M : Model} {A : Around} {E : Value → Shared → Prop} {s : Shared} {tg : Expr} {it : Addr} {u : Value} {o : Obj} {n : String} {vs : Array Value} {Q : Unit → Shared → Prop} (ho : s.heap.get? it = some o) (hc : o.cls = .type n) (hd : o.data = .fields vs)
    (hn : ["enumerate", "zip", "dict_itemiterator", "dict_reverseitemiterator", "odict_iterator", "itertools.zip_longest", "itertools.pairwise"].contains n = false) (hQ : Q () s) : wpAny M A (letOwnedTupleGo tg (.ref it) u) Q E s := by
  unfold letOwnedTupleGo
  cases tg <;> first
    | exact wpAny_pure hQ
    | (cases u <;> first
        | exact wpAny_pure hQ
        | (refine wpAny_bind (wpAny_load ho ?_)
           rw [hc, hd]
           show wpAny M A (if (["enumerate", "zip", "dict_itemiterator", "dict_reverseitemiterator", "odict_iterator", "itertools.zip_longest", "itertools.pairwise"].contains n && vs[0]? == some (rawInt _)) = true then _ else _) Q E s
           rw [if_neg (by intro h; rw [hn, Bool.false_and] at h; cases h)]
           exact wpAny_pure hQ))
noncomputable def Itl (K : PySem.W.Frag) (a : Addr) : It :=
 ⟨fun i H => ∃ xs x, SqL K H a xs ∧ xs[i]? = some x, fun i H x H' => H' = H ∧ ∀ xs, SqL K H a xs → xs[i]? = some x, fun i H => ∃ xs, SqL K H a xs ∧ xs.length ≤ i⟩
noncomputable def Itt (K : PySem.W.Frag) (a : Addr) : It :=
 ⟨fun i H => ∃ xs x, SqT K H a xs ∧ xs[i]? = some x, fun i H x H' => H' = H ∧ ∀ xs, SqT K H a xs → xs[i]? = some x, fun i H => ∃ xs, SqT K H a xs ∧ xs.length ≤ i⟩
noncomputable def Itr (lo : Int) (n : Nat) : It := ⟨fun i _ => i < n, fun i H x H' => H' = H ∧ x = .int (lo + i), fun i _ => n ≤ i⟩
theorem turn_list {P : Program} {w : World} {K : PySem.W.Frag} {tg : Expr} (a it : Addr) : Turn P w K tg (Itl K a) [it] it (fun i h => h.IsListIter it a i) where
 mem := by simp
 obj := fun i h st b hb => by
  have e : b = it := by simpa using hb
  subst e
  obtain ⟨o, e, c, d⟩ := st
  exact ⟨o, e, fun v z => by rw [d] at z; cases z⟩
 keep := fun i h h' st k => st.at fun o e => k it (by simp) o e
 item := by
  intro X hP hw hK hc i pins s σ H E I hf st hg
  subst hP hw hK
  obtain ⟨xs, x, hq, hx⟩ := hg
  obtain ⟨its, rv, p, hz⟩ := I.list hq
  obtain ⟨u, hu, ru⟩ := rv.get hx
  obtain ⟨f0, f1, f2, f3, f4, f5⟩ := hf it (by simp)
  refine wpAny_pyNext_list_item st p.isList (x := u) (by simpa using hu) fun h' st' sb => ?_
  have I1 : Inv X pins σ H { s with heap := h' } := I.turned (t' := s.toks) (fun b o hb e => (sb.2 b hb).trans e) f0 f1 f3 f4 f5
  obtain ⟨o, e, c, d⟩ := id st'
  exact ⟨u, rfl, go_of (s := { s with heap := h' }) e c d (by decide) ⟨x, H, I1, ru, ⟨rfl, fun ys hy => by rw [I.list_inj hy hq]; exact hx⟩, st', fun b hb => (hf b hb).1⟩⟩
 done := by
  intro X hP hw hK hc i pins s σ H E I hf st hg
  subst hP hw hK
  obtain ⟨xs, hq, hx⟩ := hg
  obtain ⟨its, rv, p, hz⟩ := I.list hq
  obtain ⟨f0, f1, f2, f3, f4, f5⟩ := hf it (by simp)
  have hl := rv.length
  exact wpAny_pyNext_list_end (I.ok.hd hc) st p.isList (by simp; omega) fun h' eb => ⟨rfl, I.turned (t' := s.toks) (fun b o hb e => eb b o hb e) f0 f1 f3 f4 f5⟩
 self := fun _ _ _ _ _ st h => wpAny_pyIter_listiter st h
theorem turn_tuple {P : Program} {w : World} {K : PySem.W.Frag} {tg : Expr} (a it : Addr) : Turn P w K tg (Itt K a) [it] it (fun i h => h.IsTupleIter it a i) where
 mem := by simp
 obj := fun i h st b hb => by
  have e : b = it := by simpa using hb
  subst e
  obtain ⟨o, e, c, d⟩ := st
  exact ⟨o, e, fun v z => by rw [d] at z; cases z⟩
 keep := fun i h h' st k => st.at fun o e => k it (by simp) o e
 item := by
  intro X hP hw hK hc i pins s σ H E I hf st hg
  subst hP hw hK
  obtain ⟨xs, x, hq, hx⟩ := hg
  obtain ⟨its, rv, p, hz⟩ := I.tuple hq
  obtain ⟨u, hu, ru⟩ := rv.get hx
  obtain ⟨f0, f1, f2, f3, f4, f5⟩ := hf it (by simp)
  refine wpAny_pyNext_tuple_item st (show s.heap.IsTuple a its.toArray from p) (x := u) (by simpa using hu) fun h' st' sb => ?_
  have I1 : Inv X pins σ H { s with heap := h' } := I.turned (t' := s.toks) (fun b o hb e => (sb.2 b hb).trans e) f0 f1 f3 f4 f5
  obtain ⟨o, e, c, d⟩ := id st'
  exact ⟨u, rfl, go_of (s := { s with heap := h' }) e c d (by decide) ⟨x, H, I1, ru, ⟨rfl, fun ys hy => by rw [I.tuple_inj hy hq]; exact hx⟩, st', fun b hb => (hf b hb).1⟩⟩
 done := by
  intro X hP hw hK hc i pins s σ H E I hf st hg
  subst hP hw hK
  obtain ⟨xs, hq, hx⟩ := hg
  obtain ⟨its, rv, p, hz⟩ := I.tuple hq
  obtain ⟨f0, f1, f2, f3, f4, f5⟩ := hf it (by simp)
  have hl := rv.length
  exact wpAny_pyNext_tuple_end (I.ok.hd hc) st (show s.heap.IsTuple a its.toArray from p) (by simp; omega) fun h' eb => ⟨rfl, I.turned (t' := s.toks) (fun b o hb e => eb b o hb e) f0 f1 f3 f4 f5⟩
 self := fun _ _ _ _ _ st h => wpAny_pyIter_tupleiter st h
theorem turn_range {P : Program} {w : World} {K : PySem.W.Frag} {tg : Expr} (it : Addr) (lo : Int) (n : Nat) : Turn P w K tg (Itr lo n) [it] it (fun i h => IsRangeIter h it (lo + (i : Nat) * 1) ((n : Int) - (i : Nat)) 1) where
 mem := by simp
 obj := fun i h st b hb => by
  have e : b = it := by simpa using hb
  subst e
  exact ⟨_, st, fun v z => by
   have z' : Data.fields _ = Data.cell v := z
   cases z'⟩
 keep := fun i h h' st k => k it (by simp) _ st
 item := by
  intro X hP hw hK hc i pins s σ H E I hf st hg
  subst hP hw hK
  obtain ⟨f0, f1, f2, f3, f4, f5⟩ := hf it (by simp)
  have W := Walks.range (prog := X.prog) (w := X.w) (I.ok.hd hc) it lo 1 n
  refine W.item i s _ _ hg st fun v h' tk hv st' kk => ?_
  obtain ⟨t, rfl⟩ := hv
  have I1 : Inv X pins σ H { s with heap := h', toks := tk } := I.turned (fun b o hb e => kk b o (by simpa using hb) e) f0 f1 f3 f4 f5
  refine ⟨_, rfl, go_of (s := { s with heap := h', toks := tk }) (n := "range_iterator") st' rfl rfl (by decide) ⟨.int (lo + i), H, I1, ⟨t, ?_⟩, ⟨rfl, rfl⟩, st', fun b hb => (hf b hb).1⟩⟩
  rw [Int.mul_one]
 done := by
  intro X hP hw hK hc i pins s σ H E I hf st hg
  subst hP hw hK
  obtain ⟨f0, f1, f2, f3, f4, f5⟩ := hf it (by simp)
  exact wpAny_pyNext_range_end (I.ok.hd hc) st (by have : n ≤ i := hg; omega) fun h' eb => ⟨rfl, I.turned (t' := s.toks) (fun b o hb e => eb b o hb e) f0 f1 f3 f4 f5⟩
 self := fun _ _ _ _ _ st h => wpAny_pyIter_rangeiter st h
end L2
namespace L2
open PySem PySem.Spec PyProof.Rows
section
variable {X : Cx} {tg : Expr}
noncomputable def iList (K : PySem.W.Frag) (tl : TE) : TI := fun σ H R => tl σ H fun x H1 => ∃ a, x = .ref a ∧ (∃ xs, SqL K H1 a xs) ∧ R (Itl K a) H1
noncomputable def iTup (K : PySem.W.Frag) (tl : TE) : TI := fun σ H R => tl σ H fun x H1 => ∃ a, x = .ref a ∧ (∃ xs, SqT K H1 a xs) ∧ R (Itt K a) H1
theorem pi_list {l : Expr} {tl : TE} (hl : PE X l tl) : PI X tg l (iList X.K tl) := by
 intro pins s σ H R I h
 refine thn (hl pins s σ H _ I h) fun v s1 ⟨x, H1, I1, r1, q1⟩ => ?_
 obtain ⟨a, e, ⟨xs, hq⟩, q⟩ := q1
 subst e
 cases r1
 obtain ⟨its, rv, p, hz⟩ := I1.list hq
 refine wpAny_pyIter_list p.isList ?_
 refine ⟨s1.heap.objs.size, [s1.heap.objs.size], _, _, H1, rfl, I1.kept (t' := s1.toks) fun b o e => Heap.get?_push_of_some _ e, turn_list a _, ⟨_, Heap.get?_push_size _ rfl, rfl, rfl⟩, fun b hb => ?_, q⟩
 have e : b = s1.heap.objs.size := by simpa using hb
 subst e
 exact I1.fpOk (Nat.le_refl _) (I1.hok.fresh (Nat.le_refl _))
theorem pi_tup {l : Expr} {tl : TE} (hl : PE X l tl) : PI X tg l (iTup X.K tl) := by
 intro pins s σ H R I h
 refine thn (hl pins s σ H _ I h) fun v s1 ⟨x, H1, I1, r1, q1⟩ => ?_
 obtain ⟨a, e, ⟨xs, hq⟩, q⟩ := q1
 subst e
 cases r1
 obtain ⟨its, rv, p, hz⟩ := I1.tuple hq
 refine wpAny_pyIter_tuple (show s1.heap.IsTuple a its.toArray from p) ?_
 refine ⟨s1.heap.objs.size, [s1.heap.objs.size], _, _, H1, rfl, I1.kept (t' := s1.toks) fun b o e => Heap.get?_push_of_some _ e, turn_tuple a _, ⟨_, Heap.get?_push_size _ rfl, rfl, rfl⟩, fun b hb => ?_, q⟩
 have e : b = s1.heap.objs.size := by simpa using hb
 subst e
 exact I1.fpOk (Nat.le_refl _) (I1.hok.fresh (Nat.le_refl _))
theorem range_it {pins : List (Addr × Obj)} {σ : St} {H : Hp} {s : Shared} {R : It → Hp → Prop} {E : Value → Shared → Prop} {lo hi : Int} {t u v : Tok} {tk : Nat} (I : Inv X pins σ H s) (h1 : -(2 ^ 62) ≤ lo) (h2 : lo < 2 ^ 62) (h3 : -(2 ^ 62) ≤ hi) (h4 : hi < 2 ^ 62)
  (q : R (Itr lo (hi - lo).toNat) H) : wpAny (model X.prog X.w) X.A (pyIter (.ref s.heap.objs.size)) (PIE X pins σ tg R) E { s with heap := s.heap.push { cls := .type "range", data := .fields #[.int lo t, .int hi u, .int 1 v] }, toks := tk } := by
 refine wpAny_pyIter_range (IsRange.new ..) (small_one h1 h2 h3 h4) ?_
 have I1 : Inv X pins σ H { s with heap := s.heap.push { cls := .type "range", data := .fields #[.int lo t, .int hi u, .int 1 v] }, toks := tk } := I.kept fun b o e => Heap.get?_push_of_some _ e
 refine ⟨(s.heap.push { cls := .type "range", data := .fields #[.int lo t, .int hi u, .int 1 v] }).objs.size, [(s.heap.push { cls := .type "range", data := .fields #[.int lo t, .int hi u, .int 1 v] }).objs.size], _, _, H, rfl,
  I1.kept (t' := tk) fun b o e => Heap.get?_push_of_some _ e, turn_range _ lo (hi - lo).toNat, ?_, fun b hb => ?_, q⟩
 ·have e1 : lo + ((0 : Nat) : Int) * 1 = lo := by simp
  have e2 : (((hi - lo).toNat : Nat) : Int) - ((0 : Nat) : Int) = Builtin.Range.rangeSize lo hi 1 := by rw [rangeSize_one]; split <;> omega
  show IsRangeIter _ _ (lo + ((0 : Nat) : Int) * 1) ((((hi - lo).toNat : Nat) : Int) - ((0 : Nat) : Int)) 1
  rw [e1, e2]
  exact Heap.get?_push_size _ rfl
 ·have e : b = (s.heap.push { cls := .type "range", data := .fields #[.int lo t, .int hi u, .int 1 v] }).objs.size := by simpa using hb
  subst e
  exact I1.fpOk (Nat.le_refl _) (I1.hok.fresh (Nat.le_refl _))
noncomputable def iRng1 (ta : TA) : TI := fun σ H R => ta σ H fun vs H1 => ∃ j : Int, vs = [.int j] ∧ -(2 ^ 62) ≤ j ∧ j < 2 ^ 62 ∧ R (Itr 0 j.toNat) H1
theorem pi_range1 {a : Expr} {ta : TA} {p pos : Pos} (hg : Gl X "range") (hm : X.mg "range" = none) (ha : PA X [a] ta) (hs : starEach [a] X.env = [(false, eval a X.env)] := by rfl) : PI X tg (.Call (.Name "range" p) [a] [] pos) (iRng1 ta) := by
 intro pins s σ H R I h
 refine Call_ (ld_blt I hg hm boot_range (PyProof.Rows.callWith_type1 (thn (ha pos pins s σ H _ I h) fun us s1 ⟨vs, H1, I1, r1, q1⟩ => ?_) hs rfl))
 obtain ⟨j, e, q1, q2, q⟩ := q1
 subst e
 cases r1 with
 | cons r rr =>
  cases rr
  obtain ⟨t, rfl⟩ := r
  exact call_range_1 (range_it I1 (by omega) (by omega) q1 q2 (by simpa using q))
noncomputable def tFor (wi : TI) (g : TG) (tb : TS) : TS := fun D σ H => wi σ H fun J H1 => ∃ W : Nat → Nat → St → Hp → Prop, (∃ m, W 0 m σ H1) ∧ ∀ i m σ H, W i m σ H →
 (J.stop i H ∧ D.nx σ H) ∨ (J.go i H ∧ ∃ N : St → Hp → Prop, (∀ σ' H', N σ' H' → ∃ m', m' < m ∧ W (i + 1) m' σ' H') ∧ ∀ x H', J.yld i H x H' → g x σ H' fun σ2 H2 => tb { D with nx := N, ct := N, bk := D.nx } σ2 H2)
noncomputable def pinsAt (fp : List Addr) (h : Heap) : List (Addr × Obj) := fp.filterMap fun b => (h.get? b).map fun o => (b, o)
theorem mem_pinsAt {fp : List Addr} {h : Heap} {b : Addr} {o : Obj} (hb : b ∈ fp) (e : h.get? b = some o) : (b, o) ∈ pinsAt fp h := List.mem_filterMap.mpr ⟨b, hb, by rw [e]; rfl⟩
theorem of_pinsAt {fp : List Addr} {h : Heap} {p : Addr × Obj} (hp : p ∈ pinsAt fp h) : p.1 ∈ fp ∧ h.get? p.1 = some p.2 := by
 obtain ⟨b, hb, e⟩ := List.mem_filterMap.mp hp
 cases q : h.get? b with
 | none => rw [q] at e; cases e
 | some o =>
  rw [q] at e
  have e' : (b, o) = p := Option.some.inj e
  subst e'
  exact ⟨hb, q⟩
theorem Inv.pinned {pins : List (Addr × Obj)} {σ : St} {H : Hp} {s : Shared} {fp : List Addr} (I : Inv X pins σ H s) (hf : ∀ b ∈ fp, FpOk X pins H b) (ho : ∀ b ∈ fp, ∃ o, s.heap.get? b = some o ∧ ∀ v, o.data ≠ .cell v) : Inv X (pins ++ pinsAt fp s.heap) σ H s :=
 I.pins_of fun p hp => (List.mem_append.mp hp).elim (fun z => I.pin p (List.mem_append_right _ z)) fun z => by
  obtain ⟨hb, e⟩ := of_pinsAt z
  obtain ⟨f0, f1, f2, _⟩ := hf p.1 hb
  obtain ⟨o, e', d⟩ := ho p.1 hb
  rw [e] at e'; cases e'
  exact ⟨e, f0, f1, f2, d⟩
theorem Inv.unpinned {pins pl : List (Addr × Obj)} {σ : St} {H : Hp} {s : Shared} (I : Inv X (pins ++ pl) σ H s) : Inv X pins σ H s := I.pins_of fun p hp => I.pin p (List.mem_append_right _ (List.mem_append_left _ hp))
theorem ps_for {iter : Expr} {body : List Stmt} {wi : TI} {g : TG} {tb : TS} {pos : Pos} (hp : PassesOwn (model X.prog X.w) X.A X.env X.xe) (hc : X.calm = true) (hi : PI X tg iter wi) (hg : PG X tg g) (hb : PSs X body tb)
  (hs : ∀ x, foldedSetIterable iter X.env x = pure x := by intro _; rfl) : PS X (.For tg iter body [] pos) (tFor wi g tb) := by
 intro pins s σ H D I h
 refine wpAny_For (thn (hi pins s σ H _ I h) fun v s1 h1 => thn h1 fun itv s2 h2 => ?_) hs
 obtain ⟨it, fp, tn, J, H2, e, I2, T, st2, f2, W, ⟨m0, w0⟩, turn⟩ := h2
 subst e
 have stat : ∀ {H' : Hp}, (∀ b ∈ fp, H' b = none) → ∀ b ∈ fp, FpOk X pins H' b := fun hn b hb => ⟨hn b hb, (f2 b hb).2⟩
 refine codeAny_forLoop_any (fun n s' => ∃ i σ' H', Inv X pins σ' H' s' ∧ tn i s'.heap ∧ (∀ b ∈ fp, H' b = none) ∧ W i n σ' H') ?_ m0 ⟨0, σ, H2, I2, st2, fun b hb => (f2 b hb).1, w0⟩
 rintro n s3 ⟨i, σ3, H3, I3, st3, fr3, w3⟩
 rcases turn i n σ3 H3 w3 with ⟨stop, qn⟩ | ⟨go, N, hN, step⟩
 ·refine wpAny_passesOwn hp (thn (T.done X rfl rfl rfl hc i pins s3 σ3 H3 X.xe I3 (stat fr3) st3 stop) fun r s4 ⟨hr, I4⟩ => ?_)
  subst hr
  exact wpAny_execs_nil ⟨σ3, H3, I4, qn⟩
 ·refine wpAny_passesOwn hp (thn (T.item X rfl rfl rfl hc i pins s3 σ3 H3 X.xe I3 (stat fr3) st3 go) fun r s4 ⟨u, hr, h4⟩ => ?_)
  subst hr
  refine wpAny_passesOwn hp (thn h4 fun _ s5 ⟨x, H5, I5, r5, y5, st5, fr5⟩ => ?_)
  have I5' := I5.pinned (stat fr5) (T.obj _ _ st5)
  refine wpAny_passesOwn hp (thn (hg _ s5 σ3 H5 x u _ I5' r5 (step x H5 y5)) fun _ s6 ⟨σ6, H6, I6, q6⟩ => ?_)
  refine wpAny_passesOwn hp (thn (hb _ s6 σ6 H6 _ I6 q6) fun f s7 q7 => ?_)
  have again : ∀ {σ7 : St} {H7 : Hp}, Inv X (pins ++ pinsAt fp s5.heap) σ7 H7 s7 → N σ7 H7 → ∃ m, m < n ∧ ∃ i σ' H', Inv X pins σ' H' s7 ∧ tn i s7.heap ∧ (∀ b ∈ fp, H' b = none) ∧ W i m σ' H' := fun {σ7 H7} I7 n7 => by
   obtain ⟨m', hm, w7⟩ := hN σ7 H7 n7
   refine ⟨m', hm, i + 1, σ7, H7, I7.unpinned, T.keep _ _ _ st5 fun b hb o e => (I7.pin (b, o) (List.mem_append_right _ (List.mem_append_right _ (mem_pinsAt hb e)))).1, fun b hb => ?_, w7⟩
   obtain ⟨o, e, d⟩ := T.obj _ _ st5 b hb
   exact (I7.pin (b, o) (List.mem_append_right _ (List.mem_append_right _ (mem_pinsAt hb e)))).2.1
  cases f with
  | next => obtain ⟨σ7, H7, I7, n7⟩ := q7; exact again I7 n7
  | cont => obtain ⟨σ7, H7, I7, n7⟩ := q7; exact again I7 n7
  | brk => obtain ⟨σ7, H7, I7, q7⟩ := q7; exact ⟨σ7, H7, I7.unpinned, q7⟩
  | ret v => obtain ⟨x7, σ7, H7, I7, r7, q7⟩ := q7; exact ⟨x7, σ7, H7, I7.unpinned, r7, q7⟩
end
theorem for_list {K : PySem.W.Frag} {a : Addr} {xs : List V} {g : TG} {tb : TS} {D : Ends} {σ : St} {H : Hp} (Pv : Nat → St → Hp → Prop) (h0 : Pv 0 σ H) (hl : ∀ i σ H, i ≤ xs.length → Pv i σ H → SqL K H a xs)
  (hs : ∀ i x σ H, xs[i]? = some x → Pv i σ H → g x σ H fun σ2 H2 => tb { D with nx := Pv (i + 1), ct := Pv (i + 1), bk := D.nx } σ2 H2) (hd : ∀ σ H, Pv xs.length σ H → D.nx σ H) :
  ∃ W : Nat → Nat → St → Hp → Prop, (∃ m, W 0 m σ H) ∧ ∀ i m σ H, W i m σ H →
   ((Itl K a).stop i H ∧ D.nx σ H) ∨ ((Itl K a).go i H ∧ ∃ N : St → Hp → Prop, (∀ σ' H', N σ' H' → ∃ m', m' < m ∧ W (i + 1) m' σ' H') ∧ ∀ x H', (Itl K a).yld i H x H' → g x σ H' fun σ2 H2 => tb { D with nx := N, ct := N, bk := D.nx } σ2 H2) := by
 refine ⟨fun i m σ H => m = xs.length - i ∧ i ≤ xs.length ∧ Pv i σ H, ⟨xs.length, by simp, Nat.zero_le _, h0⟩, ?_⟩
 rintro i m σ H ⟨rfl, hi, p⟩
 have q := hl i σ H hi p
 by_cases hlt : i < xs.length
 ·refine .inr ⟨⟨xs, xs[i], q, by simp [hlt]⟩, Pv (i + 1), fun σ' H' p' => ⟨xs.length - (i + 1), by omega, rfl, hlt, p'⟩, fun x H' y => ?_⟩
  obtain ⟨e, y⟩ := y
  subst e
  exact hs i x σ _ (y xs q) p
 ·have e : i = xs.length := by omega
  subst e
  exact .inl ⟨⟨xs, q, Nat.le_refl _⟩, hd σ H p⟩
theorem for_range {lo : Int} {n : Nat} {g : TG} {tb : TS} {D : Ends} {σ : St} {H : Hp} (Pv : Nat → St → Hp → Prop) (h0 : Pv 0 σ H)
  (hs : ∀ i σ H, i < n → Pv i σ H → g (.int (lo + i)) σ H fun σ2 H2 => tb { D with nx := Pv (i + 1), ct := Pv (i + 1), bk := D.nx } σ2 H2) (hd : ∀ σ H, Pv n σ H → D.nx σ H) :
  ∃ W : Nat → Nat → St → Hp → Prop, (∃ m, W 0 m σ H) ∧ ∀ i m σ H, W i m σ H →
   ((Itr lo n).stop i H ∧ D.nx σ H) ∨ ((Itr lo n).go i H ∧ ∃ N : St → Hp → Prop, (∀ σ' H', N σ' H' → ∃ m', m' < m ∧ W (i + 1) m' σ' H') ∧ ∀ x H', (Itr lo n).yld i H x H' → g x σ H' fun σ2 H2 => tb { D with nx := N, ct := N, bk := D.nx } σ2 H2) := by
 refine ⟨fun i m σ H => m = n - i ∧ i ≤ n ∧ Pv i σ H, ⟨n, by simp, Nat.zero_le _, h0⟩, ?_⟩
 rintro i m σ H ⟨rfl, hi, p⟩
 by_cases hlt : i < n
 ·refine .inr ⟨hlt, Pv (i + 1), fun σ' H' p' => ⟨n - (i + 1), by omega, rfl, hlt, p'⟩, fun x H' y => ?_⟩
  obtain ⟨e, y⟩ := y
  subst e y
  exact hs i σ _ hlt p
 ·have e : i = n := by omega
  subst e
  exact .inl ⟨Nat.le_refl _, hd σ H p⟩
end L2
namespace L2
open PySem PySem.Spec PyProof.Rows
noncomputable abbrev R2 := V → V → Hp → VK → Prop
noncomputable def OpR (X : Cx) (f : Value → Value → Sem Value) (r : R2) : Prop :=
 ∀ (pins : List (Addr × Obj)) (s : Shared) (σ : St) (H : Hp) (x y : V) (v u : Value) (Q : VK), Inv X pins σ H s → RelV x v → RelV y u → r x y H Q →
  wpAny (model X.prog X.w) X.A (f v u) (EP X pins σ Q) X.xe s
noncomputable def UnR (X : Cx) (f : Value → Sem Value) (r : V → Hp → VK → Prop) : Prop :=
 ∀ (pins : List (Addr × Obj)) (s : Shared) (σ : St) (H : Hp) (x : V) (v : Value) (Q : VK), Inv X pins σ H s → RelV x v → r x H Q →
  wpAny (model X.prog X.w) X.A (f v) (EP X pins σ Q) X.xe s
noncomputable def CallR (X : Cx) (f : Value) (r : List V → Hp → VK → Prop) : Prop :=
 ∀ (pins : List (Addr × Obj)) (s : Shared) (σ : St) (H : Hp) (xs : List V) (us : List Value) (Q : VK), Inv X pins σ H s → Vals xs us → r xs H Q →
  wpAny (model X.prog X.w) X.A (call f us) (EP X pins σ Q) X.xe s
noncomputable def TruR (X : Cx) (r : V → Hp → (Bool → Hp → Prop) → Prop) : Prop :=
 ∀ (pins : List (Addr × Obj)) (s : Shared) (σ : St) (H : Hp) (x : V) (v : Value) (Q : Bool → Hp → Prop), Inv X pins σ H s → RelV x v → r x H Q →
  wpAny (model X.prog X.w) X.A (truthy v) (TP X pins σ Q) X.xe s
noncomputable def tOp (r : R2) (ta tb : TE) : TE := fun σ H Q => ta σ H fun x H1 => tb σ H1 fun y H2 => r x y H2 Q
noncomputable def tUn (r : V → Hp → VK → Prop) (ta : TE) : TE := fun σ H Q => ta σ H fun x H1 => r x H1 Q
noncomputable def rI (C : Int → Int → Prop) (g : Int → Int → V) : R2 := fun x y H Q => ∃ i j, x = .int i ∧ y = .int j ∧ C i j ∧ Q (g i j) H
noncomputable def rI0 (g : Int → Int → V) : R2 := fun x y H Q => ∃ i j, x = .int i ∧ y = .int j ∧ Q (g i j) H
noncomputable def rU (g : Int → V) : V → Hp → VK → Prop := fun x H Q => ∃ i, x = .int i ∧ Q (g i) H
section
variable {X : Cx} {a b c : Expr} {ta tb tc : TE} {pos : Pos}
theorem binT (ha : PE X a ta) (hb : PE X b tb) {pins : List (Addr × Obj)} {s : Shared} {σ : St} {H : Hp} {R : V → V → Hp → Prop} (I : Inv X pins σ H s)
  (h : ta σ H fun x H1 => tb σ H1 fun y H2 => R x y H2) {Q : Value → Shared → Prop} {f : Value → Value → Sem Value}
  (hf : ∀ v u s2 x y H2, Inv X pins σ H2 s2 → RelV x v → RelV y u → R x y H2 → wpAny (model X.prog X.w) X.A (f v u) Q X.xe s2) :
  wpAny (model X.prog X.w) X.A (eval a X.env) (fun v s₁ => wpAny (model X.prog X.w) X.A (eval b X.env) (fun u s₂ => wpAny (model X.prog X.w) X.A (f v u) Q X.xe s₂) X.xe s₁) X.xe s := by
 refine thn (ha pins s σ H _ I h) fun v s1 ⟨x, H1, I1, r1, q1⟩ => ?_
 refine thn (hb pins s1 σ H1 _ I1 q1) fun u s2 ⟨y, H2, I2, r2, q2⟩ => ?_
 exact hf v u s2 x y H2 I2 r1 r2 q2
theorem pe_op {op : Operator} {r : R2} (ho : OpR X (binaryOp op) r) (ha : PE X a ta) (hb : PE X b tb) : PE X (.BinOp a op b pos) (tOp r ta tb) := by
 intro pins s σ H Q I h
 exact wpAny_BinOp (binT ha hb I h fun v u s2 x y H2 I2 rx ry q => ho pins s2 σ H2 x y v u Q I2 rx ry q)
theorem pe_un {op : UnaryOp} {r : V → Hp → VK → Prop} (ho : UnR X (unaryOp op) r) (ha : PE X a ta) : PE X (.UnaryOp op a pos) (tUn r ta) := by
 intro pins s σ H Q I h
 exact UnaryOp_ (thn (ha pins s σ H _ I h) fun v s1 ⟨x, H1, I1, r1, q1⟩ => ho pins s1 σ H1 x v Q I1 r1 q1)
theorem opI {f : Value → Value → Sem Value} {C : Int → Int → Prop} {g : Int → Int → Int}
  (rule : ∀ (i j : Int) (t u : Tok) (s : Shared) (Q : Value → Shared → Prop) (E : Value → Shared → Prop), C i j → Q (.int (g i j) s.toks) { s with toks := s.toks + 1 } → wpAny (model X.prog X.w) X.A (f (.int i t) (.int j u)) Q E s) :
  OpR X f (rI C fun i j => .int (g i j)) := by
 intro pins s σ H x y v u Q I rx ry h
 obtain ⟨i, j, rfl, rfl, hc, q⟩ := h
 obtain ⟨t, rfl⟩ := rx
 obtain ⟨t', rfl⟩ := ry
 exact rule i j t t' s _ _ hc ⟨.int (g i j), H, I.tok _, ⟨_, rfl⟩, q⟩
theorem opI0 {f : Value → Value → Sem Value} {g : Int → Int → Int}
  (rule : ∀ (i j : Int) (t u : Tok) (s : Shared) (Q : Value → Shared → Prop) (E : Value → Shared → Prop), Q (.int (g i j) s.toks) { s with toks := s.toks + 1 } → wpAny (model X.prog X.w) X.A (f (.int i t) (.int j u)) Q E s) :
  OpR X f (rI0 fun i j => .int (g i j)) := by
 intro pins s σ H x y v u Q I rx ry h
 obtain ⟨i, j, rfl, rfl, q⟩ := h
 obtain ⟨t, rfl⟩ := rx
 obtain ⟨t', rfl⟩ := ry
 exact rule i j t t' s _ _ ⟨.int (g i j), H, I.tok _, ⟨_, rfl⟩, q⟩
theorem opB0 {f : Value → Value → Sem Value} {g : Int → Int → Bool}
  (rule : ∀ (i j : Int) (t u : Tok) (s : Shared) (Q : Value → Shared → Prop) (E : Value → Shared → Prop), Q (.bool (g i j)) s → wpAny (model X.prog X.w) X.A (f (.int i t) (.int j u)) Q E s) :
  OpR X f (rI0 fun i j => .bl (g i j)) := by
 intro pins s σ H x y v u Q I rx ry h
 obtain ⟨i, j, rfl, rfl, q⟩ := h
 obtain ⟨t, rfl⟩ := rx
 obtain ⟨t', rfl⟩ := ry
 exact rule i j t t' s _ _ ⟨.bl (g i j), H, I, rfl, q⟩
noncomputable def CMul (i j : Int) : Prop := (-(2 ^ 64) < i ∧ i < 2 ^ 64) ∨ (-(2 ^ 64) < j ∧ j < 2 ^ 64)
theorem CMul.ok {i j : Int} (h : CMul i j) : IntMulOk i j := by
 rcases h with ⟨h1, h2⟩ | ⟨h1, h2⟩
 ·exact .of_left (intBits_le_64 h1 h2)
 ·exact .of_right (intBits_le_64 h1 h2)
theorem op_add : OpR X (binaryOp .Add) (rI0 fun i j => .int (i + j)) := opI0 fun _ _ _ _ _ _ _ q => add_int q
theorem op_sub : OpR X (binaryOp .Sub) (rI0 fun i j => .int (i - j)) := opI0 fun _ _ _ _ _ _ _ q => sub_int q
theorem op_mul : OpR X (binaryOp .Mult) (rI CMul fun i j => .int (i * j)) := opI fun _ _ _ _ _ _ _ hc q => mul_int q hc.ok
theorem op_mod : OpR X (binaryOp .Mod) (rI (fun _ j => 0 < j) fun i j => .int (i % j)) := opI fun i j _ _ _ _ _ hc q => by
 have h1 : (0 : Int) < j := hc
 exact mod_int' (by omega) (by rw [Int.fmod_eq_emod_of_nonneg i (by omega)]; exact q)
theorem unI {f : Value → Sem Value} {g : Int → Int}
  (rule : ∀ (i : Int) (t : Tok) (s : Shared) (Q : Value → Shared → Prop) (E : Value → Shared → Prop), Q (.int (g i) s.toks) { s with toks := s.toks + 1 } → wpAny (model X.prog X.w) X.A (f (.int i t)) Q E s) :
  UnR X f (rU fun i => .int (g i)) := by
 intro pins s σ H x v Q I rx h
 obtain ⟨i, rfl, q⟩ := h
 obtain ⟨t, rfl⟩ := rx
 exact rule i t s _ _ ⟨.int (g i), H, I.tok _, ⟨_, rfl⟩, q⟩
theorem un_neg : UnR X (unaryOp .USub) (rU fun i => .int (-i)) := unI fun _ _ _ _ _ q => neg_int q
end
noncomputable def scal : V → V → Bool
 | .non, .non => true | .non, .int _ => true | .int _, .non => true | .non, .bl _ => true | .bl _, .non => true | .non, .str _ => true | .str _, .non => true
 | .int _, .int _ => true | .bl _, .bl _ => true | .str _, .str _ => true | .byt _, .byt _ => true
 | .int _, .str _ => true | .str _, .int _ => true | .bl _, .str _ => true | .str _, .bl _ => true
 | _, _ => false
noncomputable def rEq : R2 := fun x y H Q => scal x y = true ∧ Q (.bl (decide (x = y))) H
noncomputable def rNe : R2 := fun x y H Q => scal x y = true ∧ Q (.bl (!decide (x = y))) H
theorem dec_int {i j : Int} : decide (V.int i = V.int j) = (i == j) := by
 rw [Bool.eq_iff_iff]
 simp
theorem dec_bl {i j : Bool} : decide (V.bl i = V.bl j) = (i == j) := by
 rw [Bool.eq_iff_iff]
 simp
theorem dec_str {i j : Str} : decide (V.str i = V.str j) = (i == j) := by
 rw [Bool.eq_iff_iff]
 simp
theorem dec_byt {i j : Array UInt8} : decide (V.byt i = V.byt j) = (i.toList == j.toList) := by
 rw [Bool.eq_iff_iff]
 cases i
 cases j
 simp
section
variable {X : Cx} {a b c : Expr} {ta tb tc : TE} {pos : Pos}
theorem fin_bl {pins : List (Addr × Obj)} {σ : St} {H : Hp} {s : Shared} {Q : VK} {k k' : Bool} (I : Inv X pins σ H s) (q : Q (.bl k) H) (e : k = k') : EP X pins σ Q (.bool k') s := by
 subst e
 exact ⟨.bl k, H, I, rfl, q⟩
theorem op_eq : OpR X (compareOp .Eq) rEq := by
 intro pins s σ H x y v u Q I rx ry h
 obtain ⟨hs, q⟩ := h
 cases x with
 | non =>
  cases rx
  cases y with
  | non => cases ry; exact PySem.EqNone.eq_none_none (fin_bl I q (by simp))
  | bl j => cases ry; exact PySem.EqNone.eq_none_bool (fin_bl I q (by simp))
  | int j => obtain ⟨t', rfl⟩ := ry; exact PySem.EqNone.eq_none_int (fin_bl I q (by simp))
  | str j => obtain ⟨t', rfl⟩ := ry; exact PySem.EqNone.eq_none_str (fin_bl I q (by simp))
  | _ => exact absurd (show false = true from hs) Bool.false_ne_true
 | bl i =>
  cases rx
  cases y with
  | non => cases ry; exact PySem.EqNone.eq_bool_none (fin_bl I q (by simp))
  | bl j => cases ry; exact eq_bool (fin_bl I q dec_bl)
  | str j => obtain ⟨t', rfl⟩ := ry; exact PySem.EqMixed.eq_bool_str (fin_bl I q (by simp))
  | _ => exact absurd (show false = true from hs) Bool.false_ne_true
 | int i =>
  obtain ⟨t, rfl⟩ := rx
  cases y with
  | non => cases ry; exact PySem.EqNone.eq_int_none (fin_bl I q (by simp))
  | int j => obtain ⟨t', rfl⟩ := ry; exact eq_int (fin_bl I q dec_int)
  | str j => obtain ⟨t', rfl⟩ := ry; exact PySem.EqMixed.eq_int_str (fin_bl I q (by simp))
  | _ => exact absurd (show false = true from hs) Bool.false_ne_true
 | str i =>
  obtain ⟨t, rfl⟩ := rx
  cases y with
  | non => cases ry; exact PySem.EqNone.eq_str_none (fin_bl I q (by simp))
  | bl j => cases ry; exact PySem.EqMixed.eq_str_bool (fin_bl I q (by simp))
  | int j => obtain ⟨t', rfl⟩ := ry; exact PySem.EqMixed.eq_str_int (fin_bl I q (by simp))
  | str j => obtain ⟨t', rfl⟩ := ry; exact eq_str (fin_bl I q dec_str)
  | _ => exact absurd (show false = true from hs) Bool.false_ne_true
 | byt i =>
  obtain ⟨t, rfl⟩ := rx
  cases y with
  | byt j => obtain ⟨t', rfl⟩ := ry; exact PySem.W.eq_bytes (fin_bl I q dec_byt)
  | _ => exact absurd (show false = true from hs) Bool.false_ne_true
 | _ => cases y <;> exact absurd (show false = true from hs) Bool.false_ne_true
theorem op_ne : OpR X (compareOp .NotEq) rNe := by
 intro pins s σ H x y v u Q I rx ry h
 obtain ⟨hs, q⟩ := h
 cases x with
 | non =>
  cases rx
  cases y with
  | non => cases ry; exact PySem.EqNone.ne_none_none (fin_bl I q (by simp))
  | bl j => cases ry; exact PySem.EqNone.ne_none_bool (fin_bl I q (by simp))
  | int j => obtain ⟨t', rfl⟩ := ry; exact PySem.EqNone.ne_none_int (fin_bl I q (by simp))
  | str j => obtain ⟨t', rfl⟩ := ry; exact PySem.EqNone.ne_none_str (fin_bl I q (by simp))
  | _ => exact absurd (show false = true from hs) Bool.false_ne_true
 | bl i =>
  cases rx
  cases y with
  | non => cases ry; exact PySem.EqNone.ne_bool_none (fin_bl I q (by simp))
  | bl j => cases ry; exact ne_bool (fin_bl I q (congrArg not dec_bl))
  | str j => obtain ⟨t', rfl⟩ := ry; exact PySem.EqMixed.ne_bool_str (fin_bl I q (by simp))
  | _ => exact absurd (show false = true from hs) Bool.false_ne_true
 | int i =>
  obtain ⟨t, rfl⟩ := rx
  cases y with
  | non => cases ry; exact PySem.EqNone.ne_int_none (fin_bl I q (by simp))
  | int j => obtain ⟨t', rfl⟩ := ry; exact ne_int (fin_bl I q (congrArg not dec_int))
  | str j => obtain ⟨t', rfl⟩ := ry; exact PySem.EqMixed.ne_int_str (fin_bl I q (by simp))
  | _ => exact absurd (show false = true from hs) Bool.false_ne_true
 | str i =>
  obtain ⟨t, rfl⟩ := rx
  cases y with
  | non => cases ry; exact PySem.EqNone.ne_str_none (fin_bl I q (by simp))
  | bl j => cases ry; exact PySem.EqMixed.ne_str_bool (fin_bl I q (by simp))
  | int j => obtain ⟨t', rfl⟩ := ry; exact PySem.EqMixed.ne_str_int (fin_bl I q (by simp))
  | str j => obtain ⟨t', rfl⟩ := ry; exact ne_str (fin_bl I q (congrArg not dec_str))
  | _ => exact absurd (show false = true from hs) Bool.false_ne_true
 | byt i =>
  obtain ⟨t, rfl⟩ := rx
  cases y with
  | byt j => obtain ⟨t', rfl⟩ := ry; exact PySem.W.ne_bytes (fin_bl I q (congrArg not dec_byt))
  | _ => exact absurd (show false = true from hs) Bool.false_ne_true
 | _ => cases y <;> exact absurd (show false = true from hs) Bool.false_ne_true
theorem op_lt : OpR X (compareOp .Lt) (rI0 fun i j => .bl (decide (i < j))) := opB0 fun _ _ _ _ _ _ _ q => lt_int q
theorem op_le : OpR X (compareOp .LtE) (rI0 fun i j => .bl (decide (i ≤ j))) := opB0 fun _ _ _ _ _ _ _ q => le_int q
theorem op_gt : OpR X (compareOp .Gt) (rI0 fun i j => .bl (decide (j < i))) := opB0 fun _ _ _ _ _ _ _ q => gt_int q
theorem op_ge : OpR X (compareOp .GtE) (rI0 fun i j => .bl (decide (j ≤ i))) := opB0 fun _ _ _ _ _ _ _ q => ge_int q
theorem op_in_str : OpR X (compareOp .In) (fun x y H Q => ∃ i j, x = .str i ∧ y = .str j ∧ Q (.bl (!(Builtin.Str.occurrences j i 0 j.length 1).isEmpty)) H) := by
 intro pins s σ H x y v u Q I rx ry h
 obtain ⟨i, j, rfl, rfl, q⟩ := h
 obtain ⟨t, rfl⟩ := rx
 obtain ⟨t', rfl⟩ := ry
 exact in_str (fin_bl I q rfl)
theorem op_isN : OpR X (compareOp .Is) (fun x y H Q => y = .non ∧ Q (.bl (decide (x = .non))) H) := by
 intro pins s σ H x y v u Q I rx ry h
 obtain ⟨rfl, q⟩ := h
 cases ry
 refine is_none_gen (fin_bl I q ?_)
 cases x <;> first
  | (cases rx; rfl)
  | (obtain ⟨t, rfl⟩ := rx; rfl)
theorem nomark (b : Expr) {op : CmpOp} (h : op ≠ .In := by decide) (h2 : op ≠ .NotIn := by decide) : behindInMarks op b = false := by
 have e1 : (op == CmpOp.In) = false := by cases op <;> first | rfl | exact absurd rfl h
 have e2 : (op == CmpOp.NotIn) = false := by cases op <;> first | rfl | exact absurd rfl h2
 cases b <;> simp [behindInMarks, e1, e2]
theorem pe_cmpR {op : CmpOp} {r : R2} (ho : OpR X (compareOp op) r) (ha : PE X a ta) (hb : PE X b tb) (hm : behindInMarks op b = false) : PE X (.Compare a [op] [b] pos) (tOp r ta tb) := by
 intro pins s σ H Q I h
 exact wpAny_Compare1 (binT ha hb I h fun v u s2 x y H2 I2 rx ry q => ho pins s2 σ H2 x y v u Q I2 rx ry q) hm
noncomputable def tTest (t : TE) : TT := fun σ H Q => t σ H fun x H' => ∃ k, x = .bl k ∧ Q k H'
theorem pt_cmpR {op : CmpOp} {r : R2} (ho : OpR X (compareOp op) r) (ha : PE X a ta) (hb : PE X b tb) (hm : behindInMarks op b = false) : PT X (.Compare a [op] [b] pos) (tTest (tOp r ta tb)) := by
 intro pins s σ H Q I h
 refine wpAny_isTrue_Compare1 (thn (ha pins s σ H _ I h) fun v s1 ⟨x, H1, I1, r1, q1⟩ => thn (hb pins s1 σ H1 _ I1 q1) fun u s2 ⟨y, H2, I2, r2, q2⟩ =>
  thn (ho pins s2 σ H2 x y v u _ I2 r1 r2 q2) fun c s3 ⟨z, H3, I3, r3, k, e, q3⟩ => ?_) hm
 subst e
 cases r3
 exact wpAny_truthy_bool ⟨H3, I3, q3⟩
noncomputable def tChain (r r' : R2) (ta tb tc : TE) : TE := fun σ H Q => ta σ H fun x H1 => tb σ H1 fun y H2 => r x y H2 fun z H3 => ∃ k, z = .bl k ∧
 (if k = true then tc σ H3 fun w' H4 => r' y w' H4 Q else Q (.bl false) H3)
theorem pe_chain {op op' : CmpOp} {r r' : R2} (ho : OpR X (compareOp op) r) (ho' : OpR X (compareOp op') r') (ha : PE X a ta) (hb : PE X b tb) (hc : PE X c tc)
  (hm : lastMarks [op, op'] [b, c] = false := by with_unfolding_all rfl) : PE X (.Compare a [op, op'] [b, c] pos) (tChain r r' ta tb tc) := by
 intro pins s σ H Q I h
 refine Compare_chain (thn (ha pins s σ H _ I h) fun v s1 ⟨x, H1, I1, r1, q1⟩ => chain_link (thn (hb pins s1 σ H1 _ I1 q1) fun u s2 ⟨y, H2, I2, r2, q2⟩ =>
  thn (ho pins s2 σ H2 x y v u _ I2 r1 r2 q2) fun d s3 ⟨z, H3, I3, r3, k, e, q3⟩ => ?_)) hm
 subst e
 cases r3
 refine wpAny_truthy_bool ?_
 cases k with
 | false => exact ite_ff ⟨.bl false, H3, I3, rfl, q3⟩
 | true => exact ite_tt (chain_last (thn (hc pins s3 σ H3 _ I3 q3) fun w' s4 ⟨z', H4, I4, r4, q4⟩ => ho' pins s4 σ H4 y z' u w' Q I4 r2 r4 q4))
theorem pt_chain {op op' : CmpOp} {r r' : R2} (ho : OpR X (compareOp op) r) (ho' : OpR X (compareOp op') r') (ha : PE X a ta) (hb : PE X b tb) (hc : PE X c tc)
  (hm : lastMarks [op, op'] [b, c] = false := by with_unfolding_all rfl) : PT X (.Compare a [op, op'] [b, c] pos) (tTest (tChain r r' ta tb tc)) := by
 intro pins s σ H Q I h
 refine isTrue_chain (thn (ha pins s σ H _ I h) fun v s1 ⟨x, H1, I1, r1, q1⟩ => test_link (thn (hb pins s1 σ H1 _ I1 q1) fun u s2 ⟨y, H2, I2, r2, q2⟩ =>
  thn (ho pins s2 σ H2 x y v u _ I2 r1 r2 q2) fun d s3 ⟨z, H3, I3, r3, k, e, q3⟩ => ?_)) hm
 subst e
 cases r3
 refine wpAny_truthy_bool ?_
 cases k with
 | false =>
  obtain ⟨k', e', q'⟩ := q3
  cases e'
  exact ite_ff ⟨H3, I3, q'⟩
 | true =>
  refine ite_tt (test_last (thn (hc pins s3 σ H3 _ I3 q3) fun w' s4 ⟨z', H4, I4, r4, q4⟩ => thn (ho' pins s4 σ H4 y z' u w' _ I4 r2 r4 q4) fun d' s5 ⟨z2, H5, I5, r5, k2, e2, q5⟩ => ?_))
  subst e2
  cases r5
  exact wpAny_truthy_bool ⟨H5, I5, q5⟩
noncomputable def TruV (K : PySem.W.Frag) (x : V) (H : Hp) (k : Bool) : Prop :=
 match x with
 | .non => k = false
 | .bl b => k = b
 | .int i => k = (i != 0)
 | .str y => y.length ≤ sizeLine ∧ k = ((y.length : Int) != 0)
 | .byt y => y.size ≤ sizeLine ∧ k = ((y.size : Int) != 0)
 | .ref p => (∃ xs, SqL K H p xs ∧ k = !xs.isEmpty) ∨ (∃ xs, SqT K H p xs ∧ k = !xs.isEmpty) ∨ ∃ kvs ep, H p = some (.dK kvs ep) ∧ k = !kvs.isEmpty
 | _ => False
theorem isEmpty_kv {κ : Type} {kvs : List (κ × V)} {vs : List (κ × Value)} (r : KV kvs vs) : (!vs.isEmpty) = !kvs.isEmpty := by
 cases r <;> rfl
theorem isEmpty_of {xs : List V} {its : List Value} (r : Vals xs its) : (!its.toArray.isEmpty) = !xs.isEmpty := by
 cases r <;> simp
theorem line63 : (sizeLine : Nat) < 2 ^ 63 := by rw [sizeLine_eq]; decide
theorem tru_ok : TruR X (fun x H Q => ∃ k, TruV X.K x H k ∧ Q k H) := by
 intro pins s σ H x v Q I rx h
 obtain ⟨k, e, q⟩ := h
 have hl := line63
 have hs : sizeLine = 16777216 := sizeLine_eq
 cases x with
 | non =>
  cases rx
  have e' : k = false := e
  subst e'
  exact truthy_none ⟨H, I, q⟩
 | bl b =>
  cases rx
  have e' : k = b := e
  subst e'
  exact wpAny_truthy_bool ⟨H, I, q⟩
 | int i =>
  obtain ⟨t, rfl⟩ := rx
  have e' : k = (i != 0) := e
  subst e'
  exact PySem.P.truthy_int ⟨H, I, q⟩
 | str y =>
  obtain ⟨t, rfl⟩ := rx
  obtain ⟨hy, e'⟩ : y.length ≤ sizeLine ∧ k = ((y.length : Int) != 0) := e
  subst e'
  exact PySem.P.truthy_str (by omega) ⟨H, I.tok _, q⟩
 | byt y =>
  obtain ⟨t, rfl⟩ := rx
  obtain ⟨hy, e'⟩ : y.size ≤ sizeLine ∧ k = ((y.size : Int) != 0) := e
  subst e'
  exact PySem.W.truthy_bytes (by omega) ⟨H, I.tok _, q⟩
 | ref p =>
  cases rx
  have e' : (∃ xs, SqL X.K H p xs ∧ k = !xs.isEmpty) ∨ (∃ xs, SqT X.K H p xs ∧ k = !xs.isEmpty) ∨ ∃ kvs ep, H p = some (.dK kvs ep) ∧ k = !kvs.isEmpty := e
  rcases e' with ⟨xs, hx, e'⟩ | ⟨xs, hx, e'⟩ | ⟨kvs, ep, hx, e'⟩
  ·subst e'
   obtain ⟨its, r, pl, hz⟩ := I.list hx
   have hlen := r.length
   exact wpAny_truthy_list pl.isList (by simp only [List.size_toArray]; omega) ⟨H, I.tok _, by rw [isEmpty_of r]; exact q⟩
  ·subst e'
   obtain ⟨its, r, pl, hz⟩ := I.tuple hx
   have hlen := r.length
   exact truthy_tuple pl (by simp only [List.size_toArray]; omega) ⟨H, I.tok _, by rw [isEmpty_of r]; exact q⟩
  ·subst e'
   obtain ⟨hz, hS, vs, r, m⟩ : kvs.length ≤ sizeLine ∧ (p == sysModules) = false ∧ ∃ vs, KV kvs vs ∧ s.heap.DictAt (mixKind X.prog X.w) p vs ep := I.hok p _ hx
   have hlen : kvs.length = vs.length := Paired.length r
   exact wpAny_truthy_dict hS m.dictOf (by omega) ⟨H, I.tok _, by rw [isEmpty_kv r]; exact q⟩
 | _ => exact (show False from e).elim
theorem pt_truth (ha : PE X a ta) (he : ∀ whole, isTrue a X.env whole = (do let v ← whole; standAt a.pos; holding [v] (truthy v))) :
  PT X a (fun σ H Q => ta σ H fun x H' => ∃ k, TruV X.K x H' k ∧ Q k H') := by
 intro pins s σ H Q I h
 exact isTrue_plain (thn (ha pins s σ H _ I h) fun v s1 ⟨x, H1, I1, r1, q1⟩ => tru_ok pins s1 σ H1 x v Q I1 r1 q1) (he _)
theorem op_add_str : OpR X (binaryOp .Add) (fun x y H Q => ∃ i j, x = .str i ∧ y = .str j ∧ i.length + j.length ≤ sizeLine ∧ Q (.str (i ++ j)) H) := by
 intro pins s σ H x y v u Q I rx ry h
 obtain ⟨i, j, rfl, rfl, hz, q⟩ := h
 obtain ⟨t, rfl⟩ := rx
 obtain ⟨t', rfl⟩ := ry
 exact add_str (fun t' tk => ⟨.str (i ++ j), H, I.tok _, ⟨_, rfl⟩, q⟩) hz
theorem vals1 {x : V} {us : List Value} (r : Vals [x] us) : ∃ u, us = [u] ∧ RelV x u := by
 cases r with
 | cons r1 r2 => cases r2; exact ⟨_, rfl, r1⟩
theorem vals2 {x y : V} {us : List Value} (r : Vals [x, y] us) : ∃ u w', us = [u, w'] ∧ RelV x u ∧ RelV y w' := by
 cases r with
 | cons r1 r2 =>
  cases r2 with
  | cons r3 r4 => cases r4; exact ⟨_, _, rfl, r1, r3⟩
theorem call_abs : CallR X (.builtin "abs") (fun xs H Q => ∃ i, xs = [.int i] ∧ Q (.int (if i < 0 then -i else i)) H) := by
 intro pins s σ H xs us Q I r h
 obtain ⟨i, rfl, q⟩ := h
 obtain ⟨u, rfl, t, rfl⟩ := vals1 r
 exact call_abs_int fun u tk => ⟨.int (if i < 0 then -i else i), H, I.tok _, ⟨_, rfl⟩, q⟩
theorem call_max2 (hc : X.calm = true) : CallR X (.builtin "max") (fun xs H Q => ∃ i j, xs = [.int i, .int j] ∧ Q (.int (if j > i then j else i)) H) := by
 intro pins s σ H xs us Q I r h
 obtain ⟨i, j, rfl, q⟩ := h
 obtain ⟨u, w', rfl, ⟨t, rfl⟩, ⟨t', rfl⟩⟩ := vals2 r
 refine max_two_ints (I.ok.hd hc) fun h' tk k => ⟨_, H, I.kept k, ?_, q⟩
 by_cases hj : j > i
 ·rw [if_pos hj, if_pos hj]; exact ⟨_, rfl⟩
 ·rw [if_neg hj, if_neg hj]; exact ⟨_, rfl⟩
theorem call_min2 (hc : X.calm = true) : CallR X (.builtin "min") (fun xs H Q => ∃ i j, xs = [.int i, .int j] ∧ Q (.int (if j < i then j else i)) H) := by
 intro pins s σ H xs us Q I r h
 obtain ⟨i, j, rfl, q⟩ := h
 obtain ⟨u, w', rfl, ⟨t, rfl⟩, ⟨t', rfl⟩⟩ := vals2 r
 refine min_two_ints (I.ok.hd hc) fun h' tk k => ⟨_, H, I.kept k, ?_, q⟩
 by_cases hj : j < i
 ·rw [if_pos hj, if_pos hj]; exact ⟨_, rfl⟩
 ·rw [if_neg hj, if_neg hj]; exact ⟨_, rfl⟩
theorem call_str_int : CallR X (.type "str") (fun xs H Q => ∃ i, xs = [.int i] ∧ i.natAbs.log2 < 1920 ∧ Q (.str (toString i)) H) := by
 intro pins s σ H xs us Q I r h
 obtain ⟨i, rfl, hz, q⟩ := h
 obtain ⟨u, rfl, t, rfl⟩ := vals1 r
 exact PySem.P.str_of_int hz ⟨.str _, H, I.tok _, ⟨_, rfl⟩, q⟩
end
end L2
namespace L2
open PySem PySem.Spec PyProof.Rows
structure ObjM (h : Heap) (x dx C : Addr) (mA : Str → Option Value) : Prop where
 obj : h.get? x = some (PySem.W.instObj C dx)
 ns : h.Ns1 dx mA
 ne : dx ≠ x
theorem lookIn_ns {h : Heap} {dx : Addr} {mA : Str → Option Value} (n : h.Ns1 dx mA) : ∃ od, h.get? dx = some od ∧ ∀ name, PySem.W.lookIn name od = some (mA name) := by
 obtain ⟨o, es, ep, ho, hd, hk, _, hm⟩ := n
 refine ⟨o, ho, fun name => ?_⟩
 have e := hm name
 unfold nsFind findBy at e
 rw [← Array.find?_toList] at e
 unfold PySem.W.lookIn
 rw [hd]
 dsimp only
 split
 ·rename_i y q
  rw [q] at e
  exact congrArg some e
 ·rename_i q
  rw [q] at e
  have a : es.toList.any (·.refKey) = false := by
   rw [List.any_eq_false]
   intro y hy
   obtain ⟨z, t, hkey⟩ := hk y (Array.mem_toList_iff.mp hy)
   simp [DictEntry.refKey, hkey]
  have a' : ¬ es.toList.any (·.refKey) = true := by rw [a]; exact Bool.false_ne_true
  rw [if_neg a']
  exact congrArg some e
theorem ObjM.look {h : Heap} {x dx C : Addr} {mA : Str → Option Value} (I : ObjM h x dx C mA) : ∃ od, PySem.W.InstAt h x (PySem.W.instObj C dx) C (some od) ∧ ∀ name, PySem.W.lookIn name od = some (mA name) :=
 let ⟨od, ho, hl⟩ := lookIn_ns I.ns
 ⟨od, ⟨I.obj, rfl, rfl, ho⟩, hl⟩
section
variable {prog : Program} {w : World} {A : Around} {E : Value → Shared → Prop} {s : Shared} {K : PySem.W.Frag} {x dx C f : Addr} {mA : Str → Option Value} {name : Str} {v : Value}
end
section
variable {P : Program} {w : World} {H H' : Hp} {h h' : Heap} {a C dx : Addr} {fs fs' : List (Str × V)}
theorem ins_get (hok : HOk P w H h) (e : H a = some (.ins C dx fs)) : ∃ mA, ObjM h a dx C mA ∧ (∀ f, RelO (fs.lookup f) (mA f)) ∧ PySem.Within mA (fs.map (·.1)) ∧ fs.length ≤ 1000 ∧ H dx = some (.own a) := by
 obtain ⟨d, z, ne, ob, mA, n, r, q⟩ := (show ObjOk P w H h a (.ins C dx fs) from hok a _ e)
 exact ⟨mA, ⟨ob, n, ne⟩, r, q, z, d⟩
end
structure Cls (K : PySem.W.Frag) (C : Addr) : Prop where
 pg : PySem.W.plainGet K C Str.empty = true
 hd : PySem.W.hasDictIn K C = true
 po : PySem.W.plainOver K C = true
 sa : PySem.W.findIn K (.ref C) "__setattr__" = some (some (.builtin "object.__setattr__"))
theorem Cls.get {K : PySem.W.Frag} {C : Addr} (c : Cls K C) (f : Str) : PySem.W.plainGet K C f = true := c.pg
structure Con (K : PySem.W.Frag) (C : Addr) (f : Str) (v : V) (u : Value) : Prop where
 at_ : PySem.W.findIn K (.ref C) f = some (some u)
 rel : RelV v u
 get : PySem.W.specialIn K u "__get__" = some none
 cp : PySem.W.copiedNames.contains f = false
structure Meth (K : PySem.W.Frag) (C : Addr) (m : Str) (f : Addr) : Prop where
 at_ : PySem.W.findIn K (.ref C) m = some (some (.ref f))
 fn : PySem.W.isFn K (.ref f) = true
 kp : PySem.W.keepIn K (.ref f) = true
section
variable {X : Cx} {pins : List (Addr × Obj)} {σ : St} {H : Hp} {s : Shared} {a C dx : Addr} {fs : List (Str × V)} {f : Str} {v : V} {A : Around} {E : Value → Shared → Prop}
end
section
variable {X : Cx} {o e value : Expr} {f : Str} {pos pos' tpos : Pos} {ta tv : TE}
end
section
variable {X : Cx} {pins : List (Addr × Obj)} {σ : St} {H : Hp} {s : Shared} {A : Around} {E : Value → Shared → Prop} {Q : Value → Shared → Prop} {c : Value} {b : Bool}
inductive TyOf (K : PySem.W.Frag) (H : Hp) : V → Value → Prop where
 | non : TyOf K H .non (.type "NoneType")
 | bl (x : Bool) : TyOf K H (.bl x) (.type "bool")
 | int (i : Int) : TyOf K H (.int i) (.type "int")
 | str (x : Str) : TyOf K H (.str x) (.type "str")
 | flt (x : UInt64) : TyOf K H (.flt x) (.type "float")
 | lst {a : Addr} {xs : List V} (e : H a = some (.lst xs)) : TyOf K H (.ref a) (.type "list")
 | frz {a : Addr} {o : Obj} {xs : List V} (e : H a = some (.frz o (.lst xs))) : TyOf K H (.ref a) (.type "list")
 | tup {a : Addr} {xs : List V} (e : H a = some (.tup xs)) : TyOf K H (.ref a) (.type "tuple")
 | dK {a : Addr} {kvs : List (Key × V)} {ep : Nat} (e : H a = some (.dK kvs ep)) : TyOf K H (.ref a) (.type "dict")
 | dT {a : Addr} {kvs : List (List Key × V)} (e : H a = some (.dT kvs)) : TyOf K H (.ref a) (.type "dict")
 | ins {a C dx : Addr} {fs : List (Str × V)} (e : H a = some (.ins C dx fs)) (cl : Cls K C) (ha : PySem.W.findIn K (.ref C) "__class__" = some (some (.builtin "object.__class__")))
   (hn : PySem.W.specialIn K (.builtin "object.__class__") "__get__" = some (some (.builtin "getset_descriptor.__get__"))) (htk : PySem.W.takesIn K (.builtin "object.__class__") = some true)
   (hm : PySem.W.mroIn K C (.type "object") = some true) : TyOf K H (.ref a) (.ref C)
theorem isinst_ok {x : V} {u t : Value} (I : Inv X pins σ H s) (rx : RelV x u) (ty : TyOf X.K H x t) (e : PySem.W.kitOne X.K t c = some b) (h : ∀ tk, Q (.bool b) { s with toks := tk }) :
  wpAny (model X.prog X.w) A (call (.builtin "isinstance") [u, c]) Q E s := by
 cases ty with
 | non => cases (show u = Value.none from rx); exact PySem.W.kia_one PySem.W.kitx_none I.kIn True.intro e (fun z => nomatch z) h
 | bl y => cases (show u = Value.bool y from rx); exact PySem.W.kia_one PySem.W.kitx_bool I.kIn True.intro e (fun z => nomatch z) h
 | int i => obtain ⟨t, q⟩ := (show ∃ t, u = Value.int i t from rx); cases q; exact PySem.W.kia_one PySem.W.kitx_int I.kIn True.intro e (fun z => nomatch z) h
 | str y => obtain ⟨t, q⟩ := (show ∃ t, u = Value.str y t from rx); cases q; exact PySem.W.kia_one PySem.W.kitx_str I.kIn True.intro e (fun z => nomatch z) h
 | flt y => obtain ⟨t, q⟩ := (show ∃ t, u = Value.float y t from rx); cases q; exact PySem.W.kia_one PySem.W.kitx_float I.kIn True.intro e (fun z => nomatch z) h
 | @lst a xs ea =>
  cases (show u = Value.ref a from rx)
  obtain ⟨_, _, n, _, h1⟩ := (show ObjOk X.prog X.w H s.heap a (.lst xs) from I.hok a _ ea)
  exact PySem.W.kia_one PySem.W.kitx_list I.kIn ⟨_, h1, rfl⟩ e (fun z => nomatch z) h
 | @frz a ob xs ea =>
  cases (show u = Value.ref a from rx)
  obtain ⟨_, _, _, n, _, h1⟩ := (show ObjOk X.prog X.w H s.heap a (.frz ob (.lst xs)) from I.hok a _ ea)
  exact PySem.W.kia_one PySem.W.kitx_list I.kIn ⟨_, h1, rfl⟩ e (fun z => nomatch z) h
 | @tup a xs ea =>
  cases (show u = Value.ref a from rx)
  obtain ⟨_, _, _, p⟩ := (show ObjOk X.prog X.w H s.heap a (.tup xs) from I.hok a _ ea)
  obtain ⟨⟨o, h1, h2, _⟩, _⟩ := p
  exact PySem.W.kia_one PySem.W.kitx_tuple I.kIn ⟨o, h1, h2⟩ e (fun z => nomatch z) h
 | @dK a kvs ep ea =>
  cases (show u = Value.ref a from rx)
  obtain ⟨_, _, vs, _, p⟩ := (show ObjOk X.prog X.w H s.heap a (.dK kvs ep) from I.hok a _ ea)
  obtain ⟨o, es, h1, h2, _⟩ := p
  exact PySem.W.kia_one PySem.W.kitx_dict I.kIn ⟨o, h1, h2.1⟩ e (fun z => nomatch z) h
 | @dT a kvs ea =>
  cases (show u = Value.ref a from rx)
  obtain ⟨_, _, xs, _, o, es, ep, h1, h2, _⟩ := (show ObjOk X.prog X.w H s.heap a (.dT kvs) from I.hok a _ ea)
  exact PySem.W.kia_one PySem.W.kitx_dict I.kIn ⟨o, h1, h2.1⟩ e (fun z => nomatch z) h
 | @ins a C dx fs ea cl ha hn htk hm =>
  cases (show u = Value.ref a from rx)
  obtain ⟨mA, O, _⟩ := ins_get I.hok ea
  obtain ⟨od, J, _⟩ := O.look
  exact PySem.W.kia_one (PySem.W.kitx_own (cl.get _) cl.hd ha hn htk hm) I.kIn J e (fun z => nomatch z) h
end
end L2
namespace L2
open PySem PySem.Spec PyProof.Rows
structure Room (k : Nat) (A : Around) : Prop where
 hd : A.handled = none
 dp : A.depth + 3 * k + 5 < recursionLimit
 un : A.units + 16 * k + 200 < cLine
 gd : A.guards = some []
theorem Room.mono {j k : Nat} {A : Around} (r : Room k A) (h : j ≤ k) : Room j A := ⟨r.hd, by have := r.dp; omega, by have := r.un; omega, r.gd⟩
theorem Room.deeper {k : Nat} {A : Around} (r : Room (k + 1) A) (env : Env) : Room k (A.deeper env) :=
 ⟨r.hd, by have := r.dp; show A.depth + 1 + 3 * k + 5 < _; omega, by have := r.un; show A.units + 3 + 16 * k + 200 < _; omega, r.gd⟩
theorem Room.in1 {k : Nat} {A : Around} (r : Room (k + 1) A) : Room k A.in1 :=
 ⟨r.hd, by have := r.dp; show A.depth + 3 * k + 5 < _; omega, by have := r.un; show A.units + 1 + 16 * k + 200 < _; omega, r.gd⟩
theorem Room.depth {k : Nat} {A : Around} (r : Room k A) : A.depth < recursionLimit := by have := r.dp; omega
theorem Room.units {k : Nat} {A : Around} (r : Room k A) : A.units + 64 < cLine := by have := r.un; omega
theorem Room.units0 {k : Nat} {A : Around} (r : Room k A) : A.units < cLine := by have := r.un; omega
noncomputable def tNil : TA := fun _ H Q => Q [] H
noncomputable def tCons (ta : TE) (tr : TA) : TA := fun σ H Q => ta σ H fun x H1 => tr σ H1 fun xs H2 => Q (x :: xs) H2
section
variable {X : Cx} {e : Expr} {es : List Expr} {te : TE} {t : TA} {pos : Pos}
theorem pa_nil : PA X [] tNil := fun _ _ _ _ H Q I h => Calls.spliced_nil ⟨[], H, I, .nil, h⟩
theorem pa_cons (ha : PE X e te) (hr : PA X es t) (hs : starEach (e :: es) X.env = (false, eval e X.env) :: starEach es X.env := by rfl) : PA X (e :: es) (tCons te t) := by
 intro pos pins s σ H Q I h
 rw [hs]
 show wpAny _ _ (spliced ((false, eval e X.env) :: backTo pos (starEach es X.env))) _ _ s
 refine Calls.spliced_cons (thn (ha pins s σ H _ I h) fun u s1 ⟨x, H1, I1, r1, q1⟩ => ?_)
 exact thn (hr pos pins s1 σ H1 _ I1 q1) fun us s2 ⟨xs, H2, I2, r2, q2⟩ => ⟨x :: xs, H2, I2, .cons r1 r2, q2⟩
noncomputable def tTup (t : TA) : TE := fun σ H Q => t σ H fun xs H1 => xs.length ≤ sizeLine ∧ ∀ p, H1 p = none → Q (.ref p) (upd H1 p (.tup xs))
noncomputable def tLst (t : TA) : TE := fun σ H Q => t σ H fun xs H1 => xs.length ≤ sizeLine ∧ ∀ p, H1 p = none → Q (.ref p) (upd H1 p (.lst xs))
theorem pe_tup {x1} (h : PA X es t) : PE X (.Tuple es x1 pos) (tTup t) := by
 intro pins s σ H Q I hq
 refine wpAny_Tuple_spliced (thn (h pos pins s σ H _ I hq) fun us s1 ⟨xs, H1, I1, r, z, q⟩ => ⟨by rw [← r.length]; exact z, ?_⟩)
 have hf : H1 s1.heap.objs.size = none := I1.hok.fresh (Nat.le_refl _)
 refine ⟨.ref s1.heap.objs.size, upd H1 s1.heap.objs.size (.tup xs), I1.laid (t' := s1.toks) (fun b u e => Heap.get?_push_of_some _ e) (Nat.le_refl _) ?_, rfl, q _ hf⟩
 exact ⟨z, us, r, TupP.new _ _⟩
theorem pe_lst (h : PA X es t) : PE X (.List es pos) (tLst t) := by
 intro pins s σ H Q I hq
 refine wpAny_List_spliced (thn (h pos pins s σ H _ I hq) fun us s1 ⟨xs, H1, I1, r, z, q⟩ => ⟨by rw [← r.length]; exact z, ?_⟩)
 have hf : H1 s1.heap.objs.size = none := I1.hok.fresh (Nat.le_refl _)
 refine ⟨.ref s1.heap.objs.size, upd H1 s1.heap.objs.size (.lst xs), I1.laid (t' := s1.toks) (fun b u e => Heap.get?_push_of_some _ e) (Nat.le_refl _) ?_, rfl, q _ hf⟩
 exact ⟨z, us, 0, r, Heap.get?_push_size _ rfl⟩
end
noncomputable abbrev Sp := List V → Hp → VK → XK → Prop
noncomputable abbrev CXT := List Env → Hp → Shared → XK → Value → Shared → Prop
structure Env0 (P : Program) (w : World) (K : PySem.W.Frag) (mg : Str → Option Value) (base : Heap) (A : Around) (outer : List Env) (s : Shared) (H : Hp) : Prop where
 frames : A.frames = some outer
 mod : Mod K mg base
 bs : ∀ b o, base.get? b = some o → s.heap.get? b = some o ∧ H b = none
 bsz : base.objs.size ≤ s.heap.objs.size
 funs : s.heap.FunFrames base outer
 frf : ∀ b ∈ frs outer, H b = none
 hok : HOk P w H s.heap
 bare : AllBare s.gens
noncomputable def CE (outer : List Env) (P : Program) (w : World) (H : Hp) (s : Shared) (Q : VK) (u : Value) (s' : Shared) : Prop :=
 ∃ v H', s'.os = s.os ∧ AllBare s'.gens ∧ Un (frs outer) [] H H' s.heap s'.heap ∧ HOk P w H' s'.heap ∧ RelV v u ∧ Q v H'
noncomputable def CR (CX : CXT) (outer : List Env) (P : Program) (w : World) (H : Hp) (s : Shared) (Q : VK) (E : XK) (r : Result) (s' : Shared) : Prop :=
 match r with
 | .ok (.ret u) => CE outer P w H s Q u s'
 | .ok _ => False
 | .error e => CX outer H s E e s'
structure FnOk (P : Program) (w : World) (K : PySem.W.Frag) (mg : Str → Option Value) (base : Heap) (CX : CXT) (k : Nat) (f : Addr) (fd : FuncData) (ps : List Str) (sp : Sp) : Prop where
 len : ∀ vs H Q E, sp vs H Q E → vs.length = ps.length
 run : ∀ (A : Around) (outer : List Env) (s : Shared) (H : Hp) (args : Args) (us : List Value) (vs : List V) (Q : VK) (E : XK), Room k A → Env0 P w K mg base A outer s H → BindsTo s fd args (ps.zip us) → Vals vs us → sp vs H Q E →
  codeAny (model P w) A (.call (.ref f) args) (CR CX outer P w H s Q E) s
theorem FnOk.mono {P : Program} {w : World} {K : PySem.W.Frag} {mg : Str → Option Value} {base : Heap} {CX : CXT} {j k : Nat} {f : Addr} {fd : FuncData} {ps : List Str} {sp : Sp} (F : FnOk P w K mg base CX j f fd ps sp) (h : j ≤ k) :
  FnOk P w K mg base CX k f fd ps sp := ⟨F.len, fun A outer s H args us vs Q E hr => F.run A outer s H args us vs Q E (hr.mono h)⟩
theorem Env0.in1 {P : Program} {w : World} {K : PySem.W.Frag} {mg : Str → Option Value} {base : Heap} {A : Around} {outer : List Env} {s : Shared} {H : Hp} (e : Env0 P w K mg base A outer s H) :
  Env0 P w K mg base A.in1 outer s H := ⟨e.frames, e.mod, e.bs, e.bsz, e.funs, e.frf, e.hok, e.bare⟩
section
variable {X : Cx} {pins : List (Addr × Obj)} {σ : St} {H : Hp} {s s' : Shared}
theorem Inv.env0 (I : Inv X pins σ H s) : Env0 X.prog X.w X.K X.mg X.base X.A X.stack s H :=
 ⟨I.ok.frames, I.ok.mod, I.bs, Nat.le_trans I.ok.bsz I.sz, I.stack, I.stkFree, I.hok, I.bare⟩
theorem Inv.after {Q : VK} {u : Value} (I : Inv X pins σ H s) (h : CE X.stack X.prog X.w H s Q u s') : EP X pins σ Q u s' := by
 obtain ⟨v, H', os, bare, un, hok, r, q⟩ := h
 obtain ⟨hh, g, d, t, os'⟩ := s'
 obtain rfl : os' = s.os := os
 exact ⟨v, H', I.call (h' := hh) (g' := g) (d' := d) (t' := t) (ch := []) un hok bare (fun b z => absurd z (by simp)), r, q⟩
end
noncomputable def tCall (sp : Sp) (dvs : List V) (E : XK) (t : TA) : TE := fun σ H Q => t σ H fun vs H1 => sp (vs ++ dvs) H1 Q E
noncomputable def Binds (K : PySem.W.Frag) (fd : FuncData) (ps : List Str) (ds : List Value) : Prop :=
 ∀ (s : Shared) (us : List Value), K.In s.heap → (us ++ ds).length = ps.length → BindsTo s fd ⟨us, []⟩ (ps.zip (us ++ ds))
theorem Binds.all {K : PySem.W.Frag} {fd : FuncData} {ps : List Str} (h : ∀ us : List Value, us.length = ps.length → bindArgs fd ⟨us, []⟩ = pure (ps.zip us)) : Binds K fd ps [] := fun s us _ hl => by
 rw [List.append_nil] at hl ⊢
 exact .of_eq (h us hl)
noncomputable def Passes (CX : CXT) (X : Cx) (E : XK) : Prop := ∀ (pins : List (Addr × Obj)) (σ : St) (H : Hp) (s : Shared) (e : Value) (s' : Shared), Inv X pins σ H s → CX X.stack H s E e s' → X.xe e s'
section
variable {X : Cx} {CX : CXT} {k : Nat} {f C : Addr} {fd : FuncData} {ps : List Str} {sp : Sp} {dvs : List V} {ds : List Value} {E : XK} {x m : Str} {p pos apos : Pos} {e o : Expr} {es : List Expr} {ta : TE} {t : TA}
theorem run_fn {pins : List (Addr × Obj)} {σ : St} {H : Hp} {s : Shared} {Q : VK} {us : List Value} {vs : List V} (F : FnOk X.prog X.w X.K X.mg X.base CX k f fd ps sp) (hr : Room k X.A) (hb : Binds X.K fd ps ds) (hd : Vals dvs ds) (hx : Passes CX X E)
  (I : Inv X pins σ H s) (r : Vals vs us) (h : sp (vs ++ dvs) H Q E) : wpAny (model X.prog X.w) X.A (call (.ref f) us) (EP X pins σ Q) X.xe s := by
 have r2 : Vals (vs ++ dvs) (us ++ ds) := r.append hd
 have hl : (us ++ ds).length = ps.length := by rw [← r2.length]; exact F.len _ _ _ _ h
 refine wpAny_call (codeAny_mono (F.run X.A X.stack s H ⟨us, []⟩ (us ++ ds) (vs ++ dvs) Q E hr I.env0 (hb s us I.kIn hl) r2 h) fun r s' hq => ?_)
 cases r with
 | error e => exact hx pins σ H s e s' I hq
 | ok fl =>
  cases fl with
  | ret u => exact I.after hq
  | next => exact False.elim hq
  | brk => exact False.elim hq
  | cont => exact False.elim hq
theorem pe_call (F : FnOk X.prog X.w X.K X.mg X.base CX k f fd ps sp) (hr : Room k X.A) (hg : Gl X x) (hm : X.mg x = some (.ref f)) (hk : PySem.W.keepIn X.K (.ref f) = true) (hb : Binds X.K fd ps ds) (hd : Vals dvs ds) (hx : Passes CX X E)
  (ha : PA X (e :: es) t) (hdb : (x == ("__debug__" : Str)) = false := by decide) (he : starEach (e :: es) X.env = (false, eval e X.env) :: starEach es X.env := by rfl) (hpl : (backTo pos (starEach es X.env)).any (·.1) = false := by rfl) :
  PE X (.Call (.Name x p) (e :: es) [] pos) (tCall sp dvs E t) := by
 intro pins s σ H Q I h
 refine wpAny_Call_Name_kw (ld_glob I hg hm ?_ hdb)
 refine PySem.W.callWith_K (h₀ := X.base) I.ok.mod.kin hk (thn (ha pos pins s σ H _ I h) fun us s1 ⟨vs, H1, I1, r, q⟩ => ⟨I1.kIn, ?_⟩) he hpl
 exact run_fn F hr hb hd hx I1 r q
structure Mk (K : PySem.W.Frag) (C f : Addr) : Prop where
 makes : PySem.W.makesIn K C = true
 init : PySem.W.findIn K (.ref C) "__init__" = some (some (.ref f))
 fn : PySem.W.isFn K (.ref f) = true
 kp : PySem.W.keepIn K (.ref C) = true
end
section
variable {X : Cx} {CX : CXT} {k : Nat} {f C : Addr} {fd : FuncData} {ps ks : List Str} {sp : Sp} {E : XK} {x m : Str} {p pos apos kpos : Pos} {e o : Expr} {es : List Expr} {kws : List Keyword} {te ta : TE} {t tk : TA} {nm : Option Str}
structure KBinds (K : PySem.W.Frag) (fd : FuncData) (ps ks : List Str) (g : List Value → List Value → List Value) (gV : List V → List V → List V) : Prop where
 to : ∀ (s : Shared) (us ws : List Value), K.In s.heap → (g us ws).length = ps.length → BindsTo s fd ⟨us, ks.zip ws⟩ (ps.zip (g us ws))
 rel : ∀ {vs : List V} {us : List Value} {zs : List V} {ws : List Value}, Vals vs us → Vals zs ws → Vals (gV vs zs) (g us ws)
variable {g : List Value → List Value → List Value} {gV : List V → List V → List V}
end
structure FnScope (N P : List Str) (sc : Scope) : Prop where
 kind : sc.kind = .function
 co : sc.isCoroutine = false
 gen : sc.isGenerator = false
 nd : N.Nodup
 pre : N.take P.length = P
 par : ∀ x ∈ P, sc.names.lookup x = some .local ∨ sc.names.lookup x = some .cell
 nofree : ∀ y ∈ sc.names, y.2 ≠ .free
theorem bindL_out {kindOf : Str → Option NameKind} {x : Str} : ∀ {binds : List (Str × Value)} {m : Str → Option Value}, (∀ v, (x, v) ∉ binds) → bindL kindOf binds m x = m x
 | [], _, _ => rfl
 | (n, v) :: r, m, h => by
  unfold bindL
  rw [bindL_out fun w hw => h w (List.mem_cons_of_mem _ hw)]
  split
  ·have : x ≠ n := by rintro rfl; exact h v List.mem_cons_self
   simp [this]
  ·rfl
theorem bindC_out {kindOf : Str → Option NameKind} {x : Str} : ∀ {binds : List (Str × Value)} {m : Str → Option Value}, (∀ v, (x, v) ∉ binds) → bindC kindOf binds m x = m x
 | [], _, _ => rfl
 | (n, v) :: r, m, h => by
  unfold bindC
  rw [bindC_out fun w hw => h w (List.mem_cons_of_mem _ hw)]
  split
  ·rfl
  ·have : x ≠ n := by rintro rfl; exact h v List.mem_cons_self
   simp [this]
theorem bindL_get {kindOf : Str → Option NameKind} {x : Str} {v : Value} : ∀ {P : List Str} {vs : List Value} {i : Nat} {m : Str → Option Value}, P.Nodup → P[i]? = some x → vs[i]? = some v → kindOf x = some .local →
  bindL kindOf (P.zip vs) m x = some v
 | [], _, _, _, _, h, _, _ => by simp at h
 | _ :: _, [], _, _, _, _, h, _ => by simp at h
 | p :: P, w :: vs, 0, m, nd, h1, h2, hk => by
  simp at h1 h2; subst h1; subst h2
  show bindL kindOf ((p, w) :: P.zip vs) m p = _
  unfold bindL
  rw [bindL_out fun v hv => (List.nodup_cons.mp nd).1 (List.of_mem_zip hv).1, if_pos hk]
  simp
 | p :: P, w :: vs, i + 1, m, nd, h1, h2, hk => by
  show bindL kindOf ((p, w) :: P.zip vs) m x = _
  unfold bindL
  exact bindL_get (i := i) (List.nodup_cons.mp nd).2 (by simpa using h1) (by simpa using h2) hk
theorem bindC_get {kindOf : Str → Option NameKind} {x : Str} {v : Value} : ∀ {P : List Str} {vs : List Value} {i : Nat} {m : Str → Option Value}, P.Nodup → P[i]? = some x → vs[i]? = some v → kindOf x ≠ some .local →
  bindC kindOf (P.zip vs) m x = some v
 | [], _, _, _, _, h, _, _ => by simp at h
 | _ :: _, [], _, _, _, _, h, _ => by simp at h
 | p :: P, w :: vs, 0, m, nd, h1, h2, hk => by
  simp at h1 h2; subst h1; subst h2
  show bindC kindOf ((p, w) :: P.zip vs) m p = _
  unfold bindC
  rw [bindC_out fun v hv => (List.nodup_cons.mp nd).1 (List.of_mem_zip hv).1, if_neg hk]
  simp
 | p :: P, w :: vs, i + 1, m, nd, h1, h2, hk => by
  show bindC kindOf ((p, w) :: P.zip vs) m x = _
  unfold bindC
  exact bindC_get (i := i) (List.nodup_cons.mp nd).2 (by simpa using h1) (by simpa using h2) hk
noncomputable def start (N : List Str) (vs : List V) : St := vs.map some ++ List.replicate (N.length - vs.length) none
noncomputable def cxOf (CX : CXT) (P : Program) (w : World) (K : PySem.W.Frag) (mg : Str → Option Value) (base : Heap) (N : List Str) (qual : Str) (scope : Scope) (f : Addr) (cd : Value) (A : Around) (outer : List Env) (s : Shared) (H : Hp) (E : XK) : Cx where
 prog := P
 w := w
 K := K
 mg := mg
 base := base
 A := A.deeper (envOfC qual scope s.heap.objs.size f cd)
 N := N
 s₀ := s
 H₀ := H
 env := envOfC qual scope s.heap.objs.size f cd
 outer := outer
 stack := envOfC qual scope s.heap.objs.size f cd :: outer
 ex := []
 calm := true
 fn := fun _ => true
 pn := []
 xe := fun e s' => wpAny (model P w) (A.deeper (envOfC qual scope s.heap.objs.size f cd)) (leaving (envOfC qual scope s.heap.objs.size f cd) e) (fun _ s'' => CX outer H s E e s'') (fun e' s'' => CX outer H s E e' s'') s'
theorem cell_has {sc : Scope} {n : Nat} {x : Str} (h : sc.names.lookup x = some .cell) : ∃ c, (cellsFrom n sc.names []).lookup x = some c := by
 have q := PySem.W.cellsFrom_some sc.names n [] (.inl h)
 exact Option.isSome_iff_exists.mp q
theorem inv_start {CX : CXT} {P : Program} {w : World} {K : PySem.W.Frag} {mg : Str → Option Value} {base : Heap} {N ps : List Str} {qual : Str} {scope : Scope} {f : Addr} {cd : Value} {A : Around} {outer : List Env} {s s1 : Shared} {H : Hp} {E : XK} {us : List Value} {vs : List V}
  (S : FnScope N ps scope) (hd : A.handled = none) (e0 : Env0 P w K mg base A outer s H) (hl : vs.length = ps.length) (r : Vals vs us)
  (x : InCallC s s.heap.objs.size (bindL (envOfC qual scope s.heap.objs.size f cd).kindOf (ps.zip us) fun _ => none) (cellsFrom (s.heap.objs.size + 1) scope.names []) (bindC (envOfC qual scope s.heap.objs.size f cd).kindOf (ps.zip us) fun _ => none) s1) :
  Inv (cxOf CX P w K mg base N qual scope f cd A outer s H E) [] (start N vs) H s1 := by
 have hpl : ps.length ≤ N.length := by have := congrArg List.length S.pre; rw [List.length_take] at this; omega
 obtain ⟨h1, tk, rfl, hk⟩ := x.done
 have noA : ∀ b : Addr, b ∉ (cxOf CX P w K mg base N qual scope f cd A outer s H E).ex := fun b z => absurd (show b ∈ ([] : List Addr) from z) (by simp)
 refine ⟨⟨e0.mod, S.kind, rfl, rfl, Nat.le_refl _, fun y z c h1 h2 => ?_, fun y hy => ?_, fun y c _ h => ?_, fun _ => hd, Around.frames_deeper e0.frames, .inr ⟨rfl, rfl⟩, fun b z => absurd z (noA b), e0.bs, e0.bsz, fun b _ _ => noA b, fun b z => absurd z (noA b), e0.funs, e0.frf⟩,
  rfl, e0.bare, Un.kept hk, ⟨_, x.toInCall.ns, fun i y v h1 h2 h3 => ?_⟩, fun y c h => ⟨_, x.cell y c h⟩, e0.hok.fresh (Nat.le_refl _), fun y c h => ?_, fun p hp => absurd (show p ∈ ([] : List (Addr × Obj)) from hp) (by simp), e0.hok.kept hk, ?_⟩
 ·exact name_of_addr x.apart (PySem.mem_of_lookup h1) (PySem.mem_of_lookup h2)
 ·have hy : scope.names.lookup y = some .cell ∨ scope.names.lookup y = some .free := hy
  rcases hy with hy | hy
  ·exact cell_has hy
  ·exact absurd rfl (S.nofree _ (PySem.mem_of_lookup hy))
 ·exact Nat.le_of_lt (x.above y c (PySem.mem_of_lookup h))
 ·have hi : i < vs.length := by
   unfold start at h2
   by_cases hi : i < vs.length
   ·exact hi
   ·rw [List.getElem?_append_right (by simpa using hi)] at h2
    rw [List.getElem?_replicate] at h2
    split at h2 <;> cases h2
  have ha : vs[i]? = some v := by
   unfold start at h2
   rw [List.getElem?_append_left (by simpa using hi), List.getElem?_map] at h2
   cases e : vs[i]? with
   | none => rw [e] at h2; cases h2
   | some a => rw [e] at h2; cases h2; rfl
  obtain ⟨u, hu, rv⟩ := r.get ha
  have hp : ps[i]? = some y := by
   rw [← S.pre, List.getElem?_take_of_lt (by omega)]; exact h1
  have ndP : ps.Nodup := by rw [← S.pre]; exact S.nd.sublist (List.take_sublist _ _)
  refine ⟨u, rv, ?_⟩
  rcases S.par y (List.mem_of_getElem? hp) with k | k
  ·exact .inl ⟨k, bindL_get ndP hp hu k⟩
  ·obtain ⟨c, e⟩ := cell_has (n := s.heap.objs.size + 1) k
   refine .inr ⟨.inl k, c, e, ?_⟩
   have q := x.cell y c e
   rw [bindC_get ndP hp hu (by show scope.names.lookup y ≠ _; rw [k]; decide)] at q
   exact q
 ·exact e0.hok.fresh (Nat.le_of_lt (x.above y c (PySem.mem_of_lookup h)))
 ·unfold start
  show _ = N.length
  rw [List.length_append, List.length_map, List.length_replicate]
  omega
theorem fn_of {CX : CXT} {P : Program} {w : World} {K : PySem.W.Frag} {mg : Str → Option Value} {base : Heap} {k : Nat} {f : Addr} {name qual : Str} {params : Arguments} {body : List Stmt} {scope : Scope} {dV kV doc pm cdv ct oc : Value} {an od : Option Addr}
  {osl : Array (Option Value)} {N ps : List Str} {sp : Sp} (lk : K.lookup f = some ⟨oc, od, .func (PySem.W.fnOf name qual params body scope dV kV doc pm an cdv ct), osl⟩) (hcd : PySem.W.codeIn K cdv qual = true) (S : FnScope N ps scope)
  (len : ∀ vs H Q E, sp vs H Q E → vs.length = ps.length)
  (hbody : ∀ (A : Around) (outer : List Env) (s : Shared) (H : Hp) (vs : List V) (Q : VK) (E : XK), Room k (A.deeper (envOfC qual scope s.heap.objs.size f cdv)) → sp vs H Q E →
   ∃ t, PSs (cxOf CX P w K mg base N qual scope f cdv A outer s H E) body t ∧ t { nx := fun _ H' => Q .non H', rt := Q } (start N vs) H) :
  FnOk P w K mg base CX (k + 1) f (PySem.W.fnOf name qual params body scope dV kV doc pm an cdv ct) ps sp := by
 refine ⟨len, fun A outer s H args us vs Q E hr e0 hb r hsp => ?_⟩
 have hl := len _ _ _ _ hsp
 have KX : K.In s.heap := e0.mod.kin.keeps fun b o e => (e0.bs b o e).1
 have lim : s.heap.NoLimit := e0.mod.nolimit.keeps fun b o e => (e0.bs b o e).1
 have hkind : ∀ y ∈ ps.zip us, scope.names.lookup y.1 = some .local ∨ (scope.names.lookup y.1 = some .cell ∧ ((cellsFrom (s.heap.objs.size + 1) scope.names []).lookup y.1).isSome = true) := fun ⟨n, v⟩ hy => by
  rcases S.par n (List.of_mem_zip hy).1 with q | q
  ·exact .inl q
  ·exact .inr ⟨q, PySem.W.cellsFrom_some _ _ _ (.inl q)⟩
 refine codeAny_call_function hr.depth (KX _ _ lk) rfl S.co S.gen rfl (PySem.W.codeRec_of KX hcd) (hb _ _ _ _ ?_)
 refine wpAny_newFunctionEnv_cells S.kind hkind fun env he s1 x => ?_
 subst he
 refine ⟨lim.keeps x.toInCall.keep, codeAny_func ?_⟩
 obtain ⟨t, ht, hq⟩ := hbody A outer s H vs Q E (hr.deeper _) hsp
 have I : Inv (cxOf CX P w K mg base N qual scope f cdv A outer s H E) [] (start N vs) H s1 := inv_start S hr.hd e0 hl r x
 refine wpAny_mono (ht [] s1 (start N vs) H _ I hq) (fun fl s' hs => ?_) fun e s' hs => hs
 have fin : ∀ {σ' : St} {H' : Hp} {v : V} {u : Value}, Inv (cxOf CX P w K mg base N qual scope f cdv A outer s H E) [] σ' H' s' → RelV v u → Q v H' → CE outer P w H s Q u s' :=
  fun {σ' H' v u} J rv q => ⟨v, H', J.os, J.bare, J.base, J.hok, rv, q⟩
 cases fl with
 | ret u =>
  obtain ⟨v, σ', H', J, rv, q⟩ := hs
  exact fin J rv q
 | next =>
  obtain ⟨σ', H', J, q⟩ := hs
  exact fin (v := V.non) (u := Value.none) J rfl q
 | brk =>
  obtain ⟨_, _, _, q⟩ := hs
  exact False.elim q
 | cont =>
  obtain ⟨_, _, _, q⟩ := hs
  exact False.elim q
end L2
namespace L2
open PySem PySem.Spec PyProof.Rows
section
variable {X : Cx} {x : Str} {p pos : Pos} {e : Expr} {es : List Expr} {t : TA} {id T : String} {r : List V → Hp → VK → Prop}
noncomputable def tCB (r : List V → Hp → VK → Prop) (t : TA) : TE := fun σ H Q => t σ H fun vs H1 => r vs H1 Q
theorem pe_callB (hc : CallR X (.builtin id) r) (hg : Gl X x) (hm : X.mg x = none) (hv : bootBuiltins x = some (.builtin id)) (ha : PA X (e :: es) t) (hn : x ≠ "__name__" := by decide) (hdb : (x == ("__debug__" : Str)) = false := by decide)
  (he : starEach (e :: es) X.env = (false, eval e X.env) :: starEach es X.env := by rfl) (hpl : (backTo pos (starEach es X.env)).any (·.1) = false := by rfl) : PE X (.Call (.Name x p) (e :: es) [] pos) (tCB r t) := by
 intro pins s σ H Q I h
 refine wpAny_Call_Name_kw (ld_blt I hg hm hv ?_ hn hdb)
 exact PyProof.Rows.callWith_builtin1 (thn (ha pos pins s σ H _ I h) fun us s1 ⟨vs, H1, I1, r1, q1⟩ => hc pins s1 σ H1 vs us Q I1 r1 q1) he hpl
theorem pe_callTy (hc : CallR X (.type T) r) (hg : Gl X x) (hm : X.mg x = none) (hv : bootBuiltins x = some (.type T)) (ha : PA X (e :: es) t) (hn : x ≠ "__name__" := by decide) (hdb : (x == ("__debug__" : Str)) = false := by decide)
  (he : starEach (e :: es) X.env = (false, eval e X.env) :: starEach es X.env := by rfl) (hpl : (backTo pos (starEach es X.env)).any (·.1) = false := by rfl) : PE X (.Call (.Name x p) (e :: es) [] pos) (tCB r t) := by
 intro pins s σ H Q I h
 refine wpAny_Call_Name_kw (ld_blt I hg hm hv ?_ hn hdb)
 exact PyProof.Rows.callWith_type1 (thn (ha pos pins s σ H _ I h) fun us s1 ⟨vs, H1, I1, r1, q1⟩ => hc pins s1 σ H1 vs us Q I1 r1 q1) he hpl
end
end L2
namespace HT
open PySem PyProof.Rows
section
open PySem.SeqAt
open PySem.AutoSeq1 (wpAny_loadPart')
open PySem.MeetsSeq PySem.MeetsSeq2 PySem.MeetsSeq3
end
section
variable {prog : Program} {w : World} {A : Around} {E : Value → Shared → Prop} {s : Shared}
noncomputable def sIx (n d : Nat) : Option Int → Nat
 | none => d
 | some v => if v < 0 then (v + (n : Int)).toNat else min v.toNat n
end
end HT
namespace L2
open PySem PySem.Spec PyProof.Rows
noncomputable abbrev TO := St → Hp → (Option Int → Hp → Prop) → Prop
noncomputable def PO (X : Cx) (e : Option Expr) (t : TO) : Prop :=
 ∀ (pins : List (Addr × Obj)) (s : Shared) (σ : St) (H : Hp) (Q : Option Int → Hp → Prop), Inv X pins σ H s → t σ H Q →
  wpAny (model X.prog X.w) X.A (evalPart e X.env) (fun u s' => ∃ o H', Inv X pins σ H' s' ∧ IsPart u o ∧ Q o H') X.xe s
noncomputable def tNoPart : TO := fun _ H Q => Q none H
noncomputable def tPart (t : TE) : TO := fun σ H Q => t σ H fun x H1 => ∃ i, x = .int i ∧ Q (some i) H1
section
variable {X : Cx} {e : Expr} {te : TE} {lo hi : Option Expr} {tl th : TO} {pos p2 : Pos}
theorem po_none : PO X none tNoPart := by
 intro pins s σ H Q I h
 rw [evalPart_none]
 exact wpAny_pure ⟨none, H, I, .none, h⟩
theorem po_some (h : PE X e te) : PO X (some e) (tPart te) := by
 intro pins s σ H Q I hw
 rw [evalPart_some]
 refine thn (h pins s σ H _ I hw) fun u s1 ⟨x, H1, I1, r1, q1⟩ => ?_
 obtain ⟨i, rfl, q⟩ := q1
 obtain ⟨t, rfl⟩ := r1
 exact ⟨some i, H1, I1, .int i t, q⟩
noncomputable def SlR (X : Cx) (r : V → Option Int → Option Int → Hp → VK → Prop) : Prop :=
 ∀ (pins : List (Addr × Obj)) (s : Shared) (σ : St) (H : Hp) (x : V) (v vl vu : Value) (lo hi : Option Int) (sl : Addr) (Q : VK), Inv X pins σ H s → RelV x v → s.heap.IsSliceOf sl vl vu .none → IsPart vl lo → IsPart vu hi → r x lo hi H Q →
  ∃ T id, typeLookup (.type T) "__getitem__" = pure (some (.builtin id)) ∧ s.TypeIs v T ∧ wpAny (model X.prog X.w) X.A (getItem v (.ref sl)) (EP X pins σ Q) X.xe s
noncomputable def tSl (r : V → Option Int → Option Int → Hp → VK → Prop) (te : TE) (tl th : TO) : TE := fun σ H Q => te σ H fun x H1 => tl σ H1 fun l H2 => th σ H2 fun u H3 => r x l u H3 Q
theorem pe_slice {r : V → Option Int → Option Int → Hp → VK → Prop} (hr : SlR X r) (he : PE X e te) (hl : PO X lo tl) (hu : PO X hi th) : PE X (.Subscript e (.Slice lo hi none p2) pos) (tSl r te tl th) := by
 intro pins s σ H Q I h
 refine Subscript_ (thn (he pins s σ H _ I h) fun v s1 ⟨x, H1, I1, r1, q1⟩ => ?_)
 refine wpAny_Slice (thn (hl pins s1 σ H1 _ I1 q1) fun vl s2 ⟨l, H2, I2, pl, q2⟩ => thn (hu pins s2 σ H2 _ I2 q2) fun vu s3 ⟨u, H3, I3, pu, q3⟩ => ?_)
 rw [evalPart_none]
 refine wpAny_pure ?_
 have I4 : Inv X pins σ H3 { s3 with heap := s3.heap.push { cls := .type "slice", data := .fields #[vl, vu, .none] } } := I3.kept (t' := s3.toks) fun b ob q => Heap.get?_push_of_some _ q
 obtain ⟨T, id, hT, ht, hg⟩ := hr pins { s3 with heap := s3.heap.push { cls := .type "slice", data := .fields #[vl, vu, .none] } } σ H3 x v vl vu l u s3.heap.objs.size Q I4 r1 (Heap.IsSliceOf.new ..) pl pu q3
 show wpAny (model X.prog X.w) X.A (subscriptTail e (.Slice lo hi none p2) v (.ref s3.heap.objs.size)) (EP X pins σ Q) X.xe { s3 with heap := s3.heap.push { cls := .type "slice", data := .fields #[vl, vu, .none] } }
 exact tail_any (ops := [.ref s3.heap.objs.size, v]) ht hT hg (by with_unfolding_all rfl)
noncomputable def cutV (xs : List V) (lo hi : Option Int) : List V := (xs.drop (HT.sIx xs.length 0 lo)).take (HT.sIx xs.length xs.length hi - HT.sIx xs.length 0 lo)
theorem cutV_length (xs : List V) (lo hi : Option Int) : (cutV xs lo hi).length ≤ xs.length := by
 unfold cutV
 rw [List.length_take, List.length_drop]
 omega
noncomputable def rSlT (K : PySem.W.Frag) : V → Option Int → Option Int → Hp → VK → Prop := fun x lo hi H Q => ∃ a xs, x = .ref a ∧ SqT K H a xs ∧
 ¬ (HT.sIx xs.length 0 lo = 0 ∧ HT.sIx xs.length xs.length hi = xs.length) ∧ ∀ p, H p = none → Q (.ref p) (upd H p (.tup (cutV xs lo hi)))
end
end L2
namespace L2
open PySem PySem.Spec PyProof.Rows
noncomputable def ixN (n : Nat) (i : Int) : Option Nat := if 0 ≤ i then (if i < n then some i.toNat else none) else if -(n : Int) ≤ i then some (i + n).toNat else none
noncomputable def atI {α : Type} (xs : List α) (i : Int) : Option α := (ixN xs.length i).bind fun j => xs[j]?
theorem ixN_seq {n : Nat} {i : Int} {j : Nat} (h : ixN n i = some j) : seqIndex? i n = some j ∧ j < n ∧ -(n : Int) ≤ i ∧ i < n := by
 unfold ixN at h
 by_cases h0 : 0 ≤ i
 ·rw [if_pos h0] at h
  by_cases h1 : i < n
  ·rw [if_pos h1] at h
   have e : i.toNat = j := Option.some.inj h
   exact ⟨by rw [seqIndex_of h0 h1, e], by omega, by omega, h1⟩
  ·rw [if_neg h1] at h; cases h
 ·rw [if_neg h0] at h
  by_cases h1 : -(n : Int) ≤ i
  ·rw [if_pos h1] at h
   have e : (i + n).toNat = j := Option.some.inj h
   exact ⟨by rw [seqIndex_neg (by omega) h1, e], by omega, h1, by omega⟩
  ·rw [if_neg h1] at h; cases h
theorem atI_get {α : Type} {xs : List α} {i : Int} {v : α} (h : atI xs i = some v) : ∃ j, seqIndex? i xs.length = some j ∧ xs[j]? = some v ∧ j < xs.length ∧ -(xs.length : Int) ≤ i ∧ i < xs.length := by
 unfold atI at h
 cases e : ixN xs.length i with
 | none => rw [e] at h; cases h
 | some j =>
  rw [e] at h
  obtain ⟨h1, h2, h3, h4⟩ := ixN_seq e
  exact ⟨j, h1, h, h2, h3, h4⟩
theorem atI_nat {α : Type} {xs : List α} {j : Nat} {v : α} (h : xs[j]? = some v) : atI xs (j : Int) = some v := by
 have hj : j < xs.length := (List.getElem?_eq_some_iff.mp h).1
 have e : ixN xs.length (j : Int) = some j := by
  unfold ixN
  rw [if_pos (by omega), if_pos (by omega)]; simp
 unfold atI; rw [e]; exact h
theorem atI_last {α : Type} (xs : List α) (v : α) : atI (xs ++ [v]) (-1) = some v := by
 have hl : (xs ++ [v]).length = xs.length + 1 := by simp
 have e : ixN (xs ++ [v]).length (-1) = some xs.length := by
  unfold ixN
  rw [hl, if_neg (by decide), if_pos (by omega)]
  congr 1
  omega
 unfold atI
 rw [e]
 show (xs ++ [v])[xs.length]? = some v
 simp
noncomputable def PlainIx (b : Expr) : Prop := ∀ o i, subscripted b false o i = operate [o, i] (getItem o i)
noncomputable def IxR (X : Cx) (r : R2) : Prop :=
 ∀ (value slice : Expr) (pins : List (Addr × Obj)) (s : Shared) (σ : St) (H : Hp) (x y : V) (v u : Value) (Q : VK), Inv X pins σ H s → RelV x v → RelV y u → r x y H Q →
  subscripted slice false v u = operate [v, u] (getItem v u) → wpAny (model X.prog X.w) X.A (subscriptTail value slice v u) (EP X pins σ Q) X.xe s
noncomputable def MtR (X : Cx) (id : String) (r : V → List V → Hp → VK → Prop) : Prop :=
 ∀ (pins : List (Addr × Obj)) (s : Shared) (σ : St) (H : Hp) (x : V) (xs : List V) (v : Value) (us : List Value) (Q : VK), Inv X pins σ H s → RelV x v → Vals xs us → r x xs H Q →
  wpAny (model X.prog X.w) X.A (call (.builtin id) (v :: us)) (EP X pins σ Q) X.xe s
section
variable {X : Cx} {a b : Expr} {ta tb : TE} {pos : Pos}
theorem pe_ix {r : R2} (hr : IxR X r) (ha : PE X a ta) (hb : PE X b tb) (hs : PlainIx b) : PE X (.Subscript a b pos) (tOp r ta tb) := by
 intro pins s σ H Q I h
 exact Subscript_ (binT ha hb I h fun v u s2 x y H2 I2 rx ry q => hr a b pins s2 σ H2 x y v u Q I2 rx ry q (hs _ _))
noncomputable def rIxL (K : PySem.W.Frag) : R2 := fun x y H Q => ∃ p xs i v, x = .ref p ∧ y = .int i ∧ SqL K H p xs ∧ atI xs i = some v ∧ Q v H
noncomputable def rIxT (K : PySem.W.Frag) : R2 := fun x y H Q => ∃ p xs i v, x = .ref p ∧ y = .int i ∧ SqT K H p xs ∧ atI xs i = some v ∧ Q v H
noncomputable def rIxS : R2 := fun x y H Q => ∃ z i c, x = .str z ∧ y = .int i ∧ z.length ≤ sizeLine ∧ atI z.cps.toList i = some c ∧ Q (.str ⟨#[c]⟩) H
theorem ix_list : IxR X (rIxL X.K) := by
 intro value slice pins s σ H x y v u Q I rx ry h hs
 obtain ⟨p, xs, i, z, rfl, rfl, hq, he, q⟩ := h
 cases rx
 obtain ⟨t, rfl⟩ := ry
 obtain ⟨its, r, pl, hz⟩ := I.list hq
 obtain ⟨j, h1, h2, h3, h4, h5⟩ := atI_get he
 obtain ⟨w, ew, rw'⟩ := r.get h2
 have hl := r.length
 have hn := line63
 have fin : EP X pins σ Q w s := ⟨z, H, I, rw', q⟩
 by_cases h0 : 0 ≤ i
 ·have hj : i.toNat = j := by
   rw [seqIndex_of h0 h5] at h1
   exact Option.some.inj h1
  exact item_listR pl.isList h0 (by omega) (by rw [hj]; simpa using ew) fin hs
 ·have hj : (i + (its.toArray.size : Int)).toNat = j := by
   rw [seqIndex_neg (by omega) h4] at h1
   rw [List.size_toArray, ← hl]
   exact Option.some.inj h1
  exact subscriptTail_builtinR (x := w) pl.isList.typeIs slot_list_getitem.lookup
   (wpAny_getItem_list_neg (Q := fun r s' => r = w ∧ EP X pins σ Q r s') pl.isList (by omega) (by rw [List.size_toArray] <;> omega) (by omega) (by rw [hj]; simpa using ew) ⟨rfl, fin⟩) hs
theorem ix_tup : IxR X (rIxT X.K) := by
 intro value slice pins s σ H x y v u Q I rx ry h hs
 obtain ⟨p, xs, i, z, rfl, rfl, hq, he, q⟩ := h
 cases rx
 obtain ⟨t, rfl⟩ := ry
 obtain ⟨its, r, pl, hz⟩ := I.tuple hq
 obtain ⟨j, h1, h2, h3, h4, h5⟩ := atI_get he
 obtain ⟨w, ew, rw'⟩ := r.get h2
 have hl := r.length
 have hn := line63
 have fin : EP X pins σ Q w s := ⟨z, H, I, rw', q⟩
 exact subscriptTail_builtinR (x := w) pl.typeIs slot_tuple_getitem.lookup
  (getItem_tuple (j := j) (Q := fun r s' => r = w ∧ EP X pins σ Q r s') pl (by omega) (by omega) (by rw [List.size_toArray, ← hl]; exact h1) (by simpa using ew) ⟨rfl, fin⟩) hs
theorem ix_str : IxR X rIxS := by
 intro value slice pins s σ H x y v u Q I rx ry h hs
 obtain ⟨z, i, c, rfl, rfl, hz, he, q⟩ := h
 obtain ⟨t, rfl⟩ := rx
 obtain ⟨t', rfl⟩ := ry
 obtain ⟨j, h1, h2, h3, h4, h5⟩ := atI_get he
 have hl : z.cps.toList.length = z.length := by simp [Str.length]
 rw [hl] at h1 h4 h5
 have hn := line63
 exact tail_any (typeIs_str s z t) slot_str_getitem.lookup (getItem_str (c := c) (by
  have e1 : decide (i < -(2 ^ 63 : Int)) = false := decide_eq_false (by omega)
  have e2 : decide (i ≥ 2 ^ 63) = false := decide_eq_false (by omega)
  rw [e1, e2, Bool.or_false]) (by rw [h1]; simpa using h2) ⟨.str ⟨#[c]⟩, H, I.tok _, ⟨_, rfl⟩, q⟩) hs
theorem mapSeq_set (its : List Value) (n j : Nat) (u : Value) : Obj.mapSeq (·.setIfInBounds j u) { cls := .type "list", data := .seq its.toArray n } = { cls := .type "list", data := .seq (its.set j u).toArray n } := by
 simp [Obj.mapSeq]
theorem Inv.lst {pins : List (Addr × Obj)} {σ : St} {H : Hp} {s : Shared} {p : Addr} {xs : List V} (I : Inv X pins σ H s) (h : H p = some (.lst xs)) :
  ∃ (its : List Value) (n : Nat), Vals xs its ∧ s.heap.get? p = some { cls := .type "list", data := .seq its.toArray n } ∧ xs.length ≤ sizeLine := by
 obtain ⟨z, its, n, r, e⟩ := I.hok p _ h
 exact ⟨its, n, r, e, z⟩
theorem Inv.lstUpd {pins : List (Addr × Obj)} {σ : St} {H : Hp} {s : Shared} {p : Addr} {xs ys : List V} {its its' : List Value} {n n' : Nat} {f : Obj → Obj} (I : Inv X pins σ H s) (h : H p = some (.lst xs))
  (ho : s.heap.get? p = some { cls := .type "list", data := .seq its.toArray n }) (hf : f { cls := .type "list", data := .seq its.toArray n } = { cls := .type "list", data := .seq its'.toArray n' }) (r : Vals ys its') (hz : ys.length ≤ sizeLine) (t : Nat) :
  Inv X pins σ (upd H p (.lst ys)) { s with heap := s.heap.update p f, toks := t } := by
 have e : (s.heap.update p f).get? p = some { cls := .type "list", data := .seq its'.toArray n' } := by
  rw [Heap.get?_update_self f ho (by rw [hf] <;> rfl), hf]
 refine I.write (x := p) (e := p) (by rw [h]; trivial) (.inl rfl) (fun b u hb q => (Heap.get?_update_other _ _ (Ne.symm hb)).trans q) ⟨_, e⟩ ?_
 exact ⟨hz, its', n', r, e⟩
noncomputable def rSetL : V → V → V → Hp → (Hp → Prop) → Prop := fun o i v H Q => ∃ p xs k j, o = .ref p ∧ i = .int k ∧ H p = some (.lst xs) ∧ ixN xs.length k = some j ∧ Q (upd H p (.lst (xs.set j v)))
theorem set_list : PSet X rSetL := by
 intro pins s σ H o i v ov iv u Q I ro ri rv h
 obtain ⟨p, xs, k, j, rfl, rfl, hp, hj, q⟩ := h
 cases ro
 obtain ⟨t, rfl⟩ := ri
 obtain ⟨its, n, r, ho, hz⟩ := I.lst hp
 obtain ⟨h1, h2, h3, h4⟩ := ixN_seq hj
 have hl := r.length
 have hn := line63
 have I' : Inv X pins σ (upd H p (.lst (xs.set j v))) { s with heap := s.heap.update p (Obj.mapSeq (·.setIfInBounds j u)) } :=
  I.lstUpd hp ho (mapSeq_set its n j u) (r.set rv j) (by rw [List.length_set]; exact hz) s.toks
 by_cases h0 : 0 ≤ k
 ·have hk : k.toNat = j := by
   rw [seqIndex_of h0 h4] at h1
   exact Option.some.inj h1
  exact PySem.W.ki_setAt ho h0 (by omega) (by rw [List.size_toArray, ← hl]; exact h4) (by rw [hk]; exact ⟨_, I', q⟩)
 ·have hk : (k + (its.toArray.size : Int)).toNat = j := by
   rw [seqIndex_neg (by omega) h3] at h1
   rw [List.size_toArray, ← hl]
   exact Option.some.inj h1
  exact PySem.W.ki_setBack ho (by omega) (by rw [List.size_toArray, ← hl]; exact h3) (by omega) (by rw [hk]; exact ⟨_, I', q⟩)
theorem slice_bounds (lo hi : Option Int) (n : Nat) : (sliceBounds lo hi none n).1 = ((HT.sIx n 0 lo : Nat) : Int) ∧ (sliceBounds lo hi none n).2.1 = ((HT.sIx n n hi : Nat) : Int) ∧ (sliceBounds lo hi none n).2.2 = 1 := by
 refine ⟨?_, ?_, rfl⟩
 ·cases lo with
  | none => simp [sliceBounds, HT.sIx]
  | some i =>
   simp only [sliceBounds, HT.sIx, Option.getD_none, show (1 : Int) > 0 by decide, if_true]
   by_cases h : i < 0
   ·simp only [h, if_true] <;> omega
   ·simp only [h, if_false] <;> omega
 ·cases hi with
  | none => simp [sliceBounds, HT.sIx]
  | some i =>
   simp only [sliceBounds, HT.sIx, Option.getD_none, show (1 : Int) > 0 by decide, if_true]
   by_cases h : i < 0
   ·simp only [h, if_true] <;> omega
   ·simp only [h, if_false] <;> omega
theorem slicePick_cut (its : List Value) (lo hi : Option Int) : slicePick its.toArray lo hi none = ((its.drop (HT.sIx its.length 0 lo)).take (HT.sIx its.length its.length hi - HT.sIx its.length 0 lo)).toArray := by
 obtain ⟨h1, h2, h3⟩ := slice_bounds lo hi its.toArray.size
 unfold slicePick
 rw [h1, h2, h3]
 simp only [sliceRange_one, pick_run, List.size_toArray] <;> rfl
noncomputable def rSlL (K : PySem.W.Frag) : V → Option Int → Option Int → Hp → VK → Prop := fun x lo hi H Q => ∃ a xs, x = .ref a ∧ SqL K H a xs ∧ ∀ p, H p = none → Q (.ref p) (upd H p (.lst (cutV xs lo hi)))
theorem sl_list : SlR X (rSlL X.K) := by
 intro pins s σ H x v vl vu lo hi sl Q I rx hs pl pu h
 obtain ⟨a, xs, rfl, hx, q⟩ := h
 cases rx
 obtain ⟨its, r, ht, hz⟩ := I.list hx
 have hlen := r.length
 refine ⟨"list", _, slot_list_getitem.lookup, ht.isList.typeIs, ?_⟩
 refine wpAny_getItem_list_slice ht.isList hs pl pu .none (by simp) ?_ (by rw [List.size_toArray] <;> omega)
 rw [slicePick_cut, ← hlen]
 refine ⟨.ref s.heap.objs.size, _, I.laid (t' := s.toks) (o := .lst (cutV xs lo hi)) (fun b ob q => Heap.get?_push_of_some _ q) (Nat.le_refl _) ?_, rfl, q _ (I.hok.fresh (Nat.le_refl _))⟩
 exact ⟨Nat.le_trans (cutV_length xs lo hi) hz, _, 0, (r.drop (HT.sIx xs.length 0 lo)).take (HT.sIx xs.length xs.length hi - HT.sIx xs.length 0 lo), Heap.get?_push_size _ rfl⟩
noncomputable def flatV : V → Bool
 | .non => true
 | .bl _ => true
 | .int _ => true
 | .str _ => true
 | _ => false
noncomputable def eqV : V → V → Bool
 | .non, .non => true
 | .bl a, .bl b => a == b
 | .bl a, .int b => (if a then 1 else 0) == b
 | .int a, .bl b => a == (if b then 1 else 0)
 | .int a, .int b => a == b
 | .str a, .str b => a == b
 | _, _ => false
theorem eqAt_V {A : Around} {s : Shared} {y x : V} {u v : Value} (ry : RelV y u) (rx : RelV x v) (fy : flatV y = true) (fx : flatV x = true) : SeqAt.EqAt A s u v (eqV y x) := by
 cases y with
 | non =>
  cases ry
  cases x with
  | non => cases rx; exact SeqAt.EqAt.same _
  | bl b => cases rx; exact SeqAt.EqAt.none_bool b
  | int b => obtain ⟨t, rfl⟩ := rx; exact SeqAt.EqAt.none_int b t
  | str b => obtain ⟨t, rfl⟩ := rx; exact SeqAt.EqAt.none_str b t
  | _ => exact absurd (show false = true from fx) Bool.false_ne_true
 | bl a =>
  cases ry
  cases x with
  | non => cases rx; exact SeqAt.EqAt.bool_none a
  | bl b => cases rx; exact SeqAt.EqAt.bool_bool a b
  | int b => obtain ⟨t, rfl⟩ := rx; exact SeqAt.EqAt.bool_int a b t
  | str b => obtain ⟨t, rfl⟩ := rx; exact SeqAt.EqAt.bool_str a b t
  | _ => exact absurd (show false = true from fx) Bool.false_ne_true
 | int a =>
  obtain ⟨t', rfl⟩ := ry
  cases x with
  | non => cases rx; exact SeqAt.EqAt.int_none a t'
  | bl b => cases rx; exact SeqAt.EqAt.int_bool a t' b
  | int b => obtain ⟨t, rfl⟩ := rx; exact SeqAt.EqAt.int_int a t' b t
  | str b => obtain ⟨t, rfl⟩ := rx; exact SeqAt.EqAt.int_str a t' b t
  | _ => exact absurd (show false = true from fx) Bool.false_ne_true
 | str a =>
  obtain ⟨t', rfl⟩ := ry
  cases x with
  | non => cases rx; exact SeqAt.EqAt.str_none a t'
  | bl b => cases rx; exact SeqAt.EqAt.str_bool a t' b
  | int b => obtain ⟨t, rfl⟩ := rx; exact SeqAt.EqAt.str_int a t' b t
  | str b => obtain ⟨t, rfl⟩ := rx; exact SeqAt.EqAt.str_str a t' b t
  | _ => exact absurd (show false = true from fx) Bool.false_ne_true
 | _ => exact absurd (show false = true from fy) Bool.false_ne_true
noncomputable def eqU (x : V) (u : Value) : Bool := match u with
 | .none => eqV .non x
 | .bool b => eqV (.bl b) x
 | .int i _ => eqV (.int i) x
 | .str z _ => eqV (.str z) x
 | _ => false
theorem eqU_of {x y : V} {u : Value} (r : RelV y u) (f : flatV y = true) : eqU x u = eqV y x := by
 cases y with
 | non => cases r; rfl
 | bl b => cases r; rfl
 | int i => obtain ⟨t, rfl⟩ := r; rfl
 | str z => obtain ⟨t, rfl⟩ := r; rfl
 | _ => exact absurd (show false = true from f) Bool.false_ne_true
theorem any_eqU {x : V} : ∀ {xs : List V} {us : List Value}, Vals xs us → xs.all flatV = true → us.any (eqU x) = xs.any fun y => eqV y x
 | _, _, .nil, _ => rfl
 | y :: xs, u :: us, .cons r t, f => by
  rw [List.all_cons, Bool.and_eq_true] at f
  rw [List.any_cons, List.any_cons, eqU_of r f.1, any_eqU t f.2]
theorem mem_eqAt {A : Around} {s : Shared} {x : V} {v : Value} (rx : RelV x v) (fx : flatV x = true) : ∀ {xs : List V} {us : List Value}, Vals xs us → xs.all flatV = true → ∀ u ∈ us, SeqAt.EqAt A s u v (eqU x u)
 | _, _, .nil, _ => fun u hu => by cases hu
 | y :: xs, u :: us, .cons r t, f => fun u' hu => by
  rw [List.all_cons, Bool.and_eq_true] at f
  rcases List.mem_cons.mp hu with rfl | hu
  ·rw [eqU_of r f.1]; exact eqAt_V r rx f.1 fx
  ·exact mem_eqAt rx fx t f.2 u' hu
noncomputable def inV (x : V) (xs : List V) : Bool := xs.any fun y => eqV y x
noncomputable def rIn (K : PySem.W.Frag) (neg : Bool) : R2 := fun x y H Q => ∃ p xs, y = .ref p ∧ (SqL K H p xs ∨ SqT K H p xs) ∧ flatV x = true ∧ xs.all flatV = true ∧ Q (.bl (if neg then !inV x xs else inV x xs)) H
theorem op_in_seq : OpR X (compareOp .In) (rIn X.K false) := by
 intro pins s σ H x y v u Q I rx ry h
 obtain ⟨p, xs, rfl, hq, fx, fs, q⟩ := h
 cases ry
 rcases hq with hq | hq
 ·obtain ⟨its, r, pl, hz⟩ := I.list hq
  refine SeqAt.in_listAt (eqU x) pl.isList (fun w hw => mem_eqAt rx fx r fs w (by simpa using hw)) ⟨.bl _, H, I, rfl, ?_⟩
  rw [show its.toArray.any (eqU x) = its.any (eqU x) by simp, any_eqU r fs]
  exact q
 ·obtain ⟨its, r, pl, hz⟩ := I.tuple hq
  refine SeqAt.in_tupleAt (eqU x) pl (fun w hw => mem_eqAt rx fx r fs w (by simpa using hw)) ⟨.bl _, H, I, rfl, ?_⟩
  rw [show its.toArray.any (eqU x) = its.any (eqU x) by simp, any_eqU r fs]
  exact q
theorem op_notIn_seq : OpR X (compareOp .NotIn) (rIn X.K true) := by
 intro pins s σ H x y v u Q I rx ry h
 obtain ⟨p, xs, rfl, hq, fx, fs, q⟩ := h
 cases ry
 rcases hq with hq | hq
 ·obtain ⟨its, r, pl, hz⟩ := I.list hq
  refine SeqAt.notIn_listAt (eqU x) pl.isList (fun w hw => mem_eqAt rx fx r fs w (by simpa using hw)) ⟨.bl _, H, I, rfl, ?_⟩
  rw [show its.toArray.any (eqU x) = its.any (eqU x) by simp, any_eqU r fs]
  exact q
 ·obtain ⟨its, r, pl, hz⟩ := I.tuple hq
  refine SeqAt.notIn_tupleAt (eqU x) pl (fun w hw => mem_eqAt rx fx r fs w (by simpa using hw)) ⟨.bl _, H, I, rfl, ?_⟩
  rw [show its.toArray.any (eqU x) = its.any (eqU x) by simp, any_eqU r fs]
  exact q
theorem call_len_seq : CallR X (.builtin "len") (fun xs H Q => ∃ p ys, xs = [.ref p] ∧ (SqL X.K H p ys ∨ SqT X.K H p ys) ∧ Q (.int ys.length) H) := by
 intro pins s σ H xs us Q I r h
 obtain ⟨p, ys, rfl, hq, q⟩ := h
 obtain ⟨u, rfl, rx⟩ := vals1 r
 cases rx
 have hn := line63
 rcases hq with hq | hq
 ·obtain ⟨its, r', pl, hz⟩ := I.list hq
  have hlen := r'.length
  exact Calls.call_len_list pl.isList (by simp only [List.size_toArray] <;> omega) ⟨.int ys.length, H, I.tok _, ⟨s.toks + 1, by rw [List.size_toArray, hlen]⟩, q⟩
 ·obtain ⟨its, r', pl, hz⟩ := I.tuple hq
  have hlen := r'.length
  exact len_tuple pl (by simp only [List.size_toArray] <;> omega) ⟨.int ys.length, H, I.tok _, ⟨s.toks + 1, by rw [List.size_toArray, hlen]⟩, q⟩
theorem call_len_str : CallR X (.builtin "len") (fun xs H Q => ∃ z, xs = [.str z] ∧ z.length ≤ sizeLine ∧ Q (.int z.length) H) := by
 intro pins s σ H xs us Q I r h
 obtain ⟨z, rfl, hz, q⟩ := h
 obtain ⟨u, rfl, t, rfl⟩ := vals1 r
 have hn := line63
 exact len_str (by omega) ⟨.int z.length, H, I.tok _, ⟨_, rfl⟩, q⟩
theorem call_tuple_of : CallR X (.type "tuple") (fun xs H Q => ∃ p ys, xs = [.ref p] ∧ ((SqL X.K H p ys ∧ ∀ l, H l = none → Q (.ref l) (upd H l (.tup ys))) ∨ (SqT X.K H p ys ∧ Q (.ref p) H))) := by
 intro pins s σ H xs us Q I r h
 obtain ⟨p, ys, rfl, h⟩ := h
 obtain ⟨u, rfl, rx⟩ := vals1 r
 cases rx
 rcases h with ⟨hq, q⟩ | ⟨hq, q⟩
 ·obtain ⟨its, r', pl, hz⟩ := I.list hq
  have hlen := r'.length
  refine call_tuple_list pl.isList (fun h' kp => ?_) (by simp only [List.size_toArray] <;> omega)
  have I1 : Inv X pins σ H { s with heap := h' } := I.kept (t' := s.toks) kp
  have I2 : Inv X pins σ (upd H h'.objs.size (.tup ys)) { s with heap := h'.push { cls := .type "tuple", data := .seq its.toArray } } :=
   I1.laid (t' := s.toks) (fun b o e => Heap.get?_push_of_some _ e) (Nat.le_refl _) (show ObjOk X.prog X.w _ _ _ (.tup ys) from ⟨hz, its, r', TupP.new _ _⟩)
  exact ⟨.ref h'.objs.size, _, I2, rfl, q _ (I1.hok.fresh (Nat.le_refl _))⟩
 ·obtain ⟨its, r', pl, hz⟩ := I.tuple hq
  exact call_tuple_same pl ⟨.ref p, H, I, rfl, q⟩
noncomputable def tyV (K : PySem.W.Frag) (T : String) (x : V) (H : Hp) : Prop := match x with
 | .str _ => T = "str"
 | .int _ => T = "int"
 | .ref p => (T = "list" ∧ ∃ xs, SqL K H p xs) ∨ (T = "tuple" ∧ ∃ o, K.lookup p = some o ∧ o.cls = .type "tuple" ∧ o.dict = none) ∨
   (T = "dict" ∧ ((∃ kvs ep, H p = some (.dK kvs ep)) ∨ ∃ kvs, H p = some (.dT kvs))) ∨ (T = "set" ∧ ∃ S n, H p = some (.set S n))
 | _ => False
theorem tyV_is {pins : List (Addr × Obj)} {σ : St} {H : Hp} {s : Shared} {T : String} {x : V} {v : Value} (I : Inv X pins σ H s) (r : RelV x v) (ty : tyV X.K T x H) :
  s.TypeIs v T ∧ ∀ a, v = .ref a → ∃ ob, s.heap.get? a = some ob ∧ ob.dict = none := by
 cases x with
 | str z =>
  obtain ⟨t, rfl⟩ := r
  cases (show T = "str" from ty)
  exact ⟨typeIs_str s z t, fun _ e => nomatch e⟩
 | int i =>
  obtain ⟨t, rfl⟩ := r
  cases (show T = "int" from ty)
  exact ⟨typeIs_int s i t, fun _ e => nomatch e⟩
 | ref p =>
  cases r
  rcases ty with ⟨rfl, xs, hq⟩ | ⟨rfl, o, hk, hc, hd⟩ | ⟨rfl, hk⟩ | ⟨rfl, S, n, hk⟩
  ·obtain ⟨its, _, pl, _⟩ := I.list hq
   refine ⟨pl.isList.typeIs, fun a e => ?_⟩
   cases e
   obtain ⟨o, n, e, c, hd, _⟩ := pl
   exact ⟨o, e, hd⟩
  ·refine ⟨⟨o, I.kIn p o hk, hc⟩, fun a e => ?_⟩
   cases e
   exact ⟨o, I.kIn _ o hk, hd⟩
  ·have z : ∃ o, s.heap.get? p = some o ∧ o.ExactDict := by
    rcases hk with ⟨kvs, ep, hk⟩ | ⟨kvs, hk⟩
    ·obtain ⟨_, _, _, _, o, _, e, ex, _⟩ := I.hok p _ hk
     exact ⟨o, e, ex⟩
    ·obtain ⟨_, _, _, _, o, _, _, e, ex, _⟩ := I.hok p _ hk
     exact ⟨o, e, ex⟩
   obtain ⟨o, e, ex⟩ := z
   refine ⟨⟨o, e, ex.1⟩, fun a e2 => ?_⟩
   cases e2
   exact ⟨o, e, ex.2.1⟩
  ·obtain ⟨o, _, _, _, e, ex, _⟩ := I.hok p _ hk
   refine ⟨⟨o, e, ex.1⟩, fun a e2 => ?_⟩
   cases e2
   exact ⟨o, e, ex.2.1⟩
 | _ => exact False.elim ty
noncomputable def tBM0 (K : PySem.W.Frag) (T : String) (r : V → List V → Hp → VK → Prop) (to : TE) : TE := fun σ H Q => to σ H fun x H1 => tyV K T x H1 ∧ r x [] H1 Q
noncomputable def tBM (K : PySem.W.Frag) (T : String) (r : V → List V → Hp → VK → Prop) (to : TE) (t : TA) : TE := fun σ H Q => to σ H fun x H1 => tyV K T x H1 ∧ t σ H1 fun xs H2 => r x xs H2 Q
variable {o e : Expr} {es : List Expr} {to : TE} {t : TA} {name : Str} {apos cpos : Pos} {T id : String} {r : V → List V → Hp → VK → Prop}
theorem pe_bm (pa : PlainAttrs T) (slot : Slot T name id) (hty : typeOf (.builtin id) = pure (.type "method_descriptor")) (hm : MtR X id r) (ho : PE X o to) (ha : PA X (e :: es) t)
  (hbase : attributeBase o name X.env (eval o X.env) = eval o X.env := by rfl)
  (hfew : ((backTo cpos (starEach (e :: es) X.env)).all (fun x => !x.1) && (backToKw cpos (keywordEach [] X.env)).all (fun x => x.1.isSome)
   && decide ((e :: es).length + ([] : List Keyword).length + (if ([] : List Keyword).isEmpty then 0 else 1) < 30)) = true := by rfl)
  (hline : (apos.endLine == cpos.line) = true := by rfl) (hs : starEach (e :: es) X.env = (false, eval e X.env) :: starEach es X.env := by rfl) (hplain : (backTo cpos (starEach es X.env)).any (·.1) = false := by rfl) :
  PE X (.Call (.Attribute o name apos) (e :: es) [] cpos) (tBM X.K T r to t) := by
 intro pins s σ H Q I h
 refine wpAny_Call_method_late hbase hfew hline rfl (thn (ho pins s σ H _ I h) fun v s1 ⟨x, H1, I1, r1, ty, q1⟩ => ?_)
 obtain ⟨h1, h2⟩ := tyV_is I1 r1 ty
 refine ⟨T, id, pa, slot, hty, h1, h2, ?_⟩
 have hA := ha cpos pins s1 σ H1 _ I1 q1
 rw [hs] at hA ⊢
 refine Calls.callWith_builtin (by show (false || (backTo cpos (starEach es X.env)).any (·.1)) = false; rw [hplain] <;> rfl) (Calls.evalArgs_plain ?_)
 exact thn hA fun us s2 ⟨vs, H2, I2, r2, q2⟩ => hm pins s2 σ H2 x vs v us Q I2 r1 r2 q2
end
end L2
namespace L2
open PySem PySem.Spec PyProof.Rows
noncomputable def MtM (X : Cx) (id : String) (r : V → List V → Hp → VK → Prop) : Prop :=
 ∀ (pins : List (Addr × Obj)) (s : Shared) (σ : St) (H : Hp) (x : V) (xs : List V) (v : Value) (us : List Value) (Q : VK), Inv X pins σ H s → RelV x v → Vals xs us → r x xs H Q →
  wpAny (model X.prog X.w) X.A (call (.builtin id) (v :: us)) (EP X pins σ Q) X.xe s
theorem Vals.one : ∀ {x : V} {us : List Value}, Vals [x] us → ∃ u, us = [u] ∧ RelV x u
 | _, _, .cons r .nil => ⟨_, rfl, r⟩
theorem Vals.zero : ∀ {us : List Value}, Vals [] us → us = []
 | _, .nil => rfl
theorem Vals.eraseIdx : ∀ {xs : List V} {us : List Value} (i : Nat), Vals xs us → Vals (xs.eraseIdx i) (us.eraseIdx i)
 | _, _, _, .nil => .nil
 | _, _, 0, .cons _ t => t
 | _, _, i + 1, .cons r t => .cons r (Vals.eraseIdx i t)
theorem Vals.reverse {xs : List V} {us : List Value} (h : Vals xs us) : Vals xs.reverse us.reverse := by
 induction h with
 | nil => exact .nil
 | cons r t ih => rw [List.reverse_cons, List.reverse_cons]; exact Vals.append ih (.cons r .nil)
theorem Vals.rep {xs : List V} {us : List Value} (h : Vals xs us) : ∀ k : Nat, Vals (List.replicate k xs).flatten (List.replicate k us).flatten
 | 0 => .nil
 | k + 1 => by
  rw [List.replicate_succ, List.replicate_succ, List.flatten_cons, List.flatten_cons]
  exact Vals.append h (Vals.rep h k)
theorem len_erase {α : Type} : ∀ (l : List α) (i : Nat), (l.eraseIdx i).length ≤ l.length
 | [], _ => Nat.le_refl _
 | _ :: _, 0 => Nat.le_succ _
 | _ :: r, i + 1 => Nat.succ_le_succ (len_erase r i)
section
variable {X : Cx} {pins : List (Addr × Obj)} {σ : St} {H : Hp} {s : Shared} {l b : Addr} {xs ys zs : List V}
theorem Inv.lset {its its' : List Value} {n : Nat} {f : Array Value → Array Value} {t' : Nat} (I : Inv X pins σ H s) (hH : H l = some (.lst xs))
  (e : s.heap.get? l = some { cls := .type "list", data := .seq its.toArray n }) (hf : f its.toArray = its'.toArray) (hv : Vals ys its') (hz : ys.length ≤ sizeLine) :
  Inv X pins σ (upd H l (.lst ys)) { s with heap := s.heap.update l (Obj.mapSeq f), toks := t' } := by
 have q := PySem.IsL.update e f
 rw [hf] at q
 refine I.write (x := l) (e := l) (by rw [hH]; exact trivial) (.inl rfl) (fun b' u hb hu => (Heap.get?_update_other s.heap (Obj.mapSeq f) (Ne.symm hb)).trans hu) ⟨_, q⟩ ?_
 exact ⟨hz, its', _, hv, q⟩
theorem Inv.lnew {its : List Value} {t' : Nat} (I : Inv X pins σ H s) (hv : Vals ys its) (hz : ys.length ≤ sizeLine) :
  Inv X pins σ (upd H s.heap.objs.size (.lst ys)) { s with heap := s.heap.push { cls := .type "list", data := .seq its.toArray }, toks := t' } :=
 I.laid (fun _ _ q => Heap.get?_push_of_some _ q) (Nat.le_refl _) ⟨hz, its, 0, hv, Heap.get?_push_size _ rfl⟩
theorem Inv.fresh (I : Inv X pins σ H s) : H s.heap.objs.size = none := I.hok.fresh (Nat.le_refl _)
theorem Inv.lstM (I : Inv X pins σ H s) (hH : H l = some (.lst xs)) : xs.length ≤ sizeLine ∧ ∃ (its : List Value) (n : Nat), Vals xs its ∧ xs.length = its.length ∧ s.heap.get? l = some { cls := .type "list", data := .seq its.toArray n } := by
 obtain ⟨z, its, n, r, e⟩ := I.hok l _ hH
 exact ⟨z, its, n, r, r.length, e⟩
theorem notLongL {n : Nat} (h : n ≤ sizeLine) : Builtin.List.listTooLong n = false := by
 unfold Builtin.List.listTooLong
 exact decide_eq_false (by omega)
end
section
variable {X : Cx}
noncomputable def rAppend : V → List V → Hp → VK → Prop := fun x vs H Q => ∃ l xs y, x = .ref l ∧ vs = [y] ∧ H l = some (.lst xs) ∧ xs.length < sizeLine ∧ Q .non (upd H l (.lst (xs ++ [y])))
theorem mt_append : MtM X "list.append" rAppend := by
 intro pins s σ H x vs v us Q I rx rv h
 obtain ⟨l, xs, y, rfl, rfl, hH, hz, q⟩ := h
 cases rx
 obtain ⟨u, rfl, ru⟩ := rv.one
 obtain ⟨z, its, n, r, hl, e⟩ := I.lstM hH
 refine call_meets F.slot_list_append ⟨_, e, rfl⟩ F.entry_list_append (F.args_list_append_2 _ _) (PySem.list_append l its.toArray n u (by rw [List.size_toArray]; omega)) ⟨e, ?_⟩
 refine ⟨.non, _, I.lset (its' := its ++ [u]) hH e (by simp) (r.append (.cons ru .nil)) ?_, rfl, q⟩
 rw [List.length_append, List.length_singleton]
 omega
noncomputable def rPopAt : V → List V → Hp → VK → Prop := fun x vs H Q => ∃ l xs i k y, x = .ref l ∧ vs = [.int i] ∧ H l = some (.lst xs) ∧ -(2 ^ 63) ≤ i ∧ i < 2 ^ 63 ∧ seqIndex? i xs.length = some k ∧ xs[k]? = some y ∧ Q y (upd H l (.lst (xs.eraseIdx k)))
theorem mt_popAt : MtM X "list.pop" rPopAt := by
 intro pins s σ H x vs v us Q I rx rv h
 obtain ⟨l, xs, i, k, y, rfl, rfl, hH, h1, h2, hk, hy, q⟩ := h
 cases rx
 obtain ⟨u, rfl, ru⟩ := rv.one
 obtain ⟨t, rfl⟩ := ru
 obtain ⟨z, its, n, r, hl, e⟩ := I.lstM hH
 obtain ⟨w, hw, rw'⟩ := r.get hy
 refine call_meets F.slot_list_pop ⟨_, e, rfl⟩ F.entry_list_pop (F.args_list_pop_2 _ _)
  (MeetsSeq.list_pop_at l its.toArray n i t k w (fitsIndex_both h1 h2) (by rw [List.size_toArray, ← hl]; exact hk) (by rw [← Array.getElem?_toList]; exact hw) (by rw [List.size_toArray]; omega)) ⟨e, ?_⟩
 refine ⟨y, _, I.lset (its' := its.eraseIdx k) hH e ?_ (r.eraseIdx k) ?_, rw', q⟩
 ·show its.toArray.eraseIdxIfInBounds k = (its.eraseIdx k).toArray
  rw [List.eraseIdxIfInBounds_toArray]
 ·have := len_erase xs k
  omega
noncomputable def rCat : R2 := fun x y H Q => ∃ l b xs zs, x = .ref l ∧ y = .ref b ∧ H l = some (.lst xs) ∧ H b = some (.lst zs) ∧ xs.length + zs.length ≤ sizeLine ∧ ∀ p, H p = none → Q (.ref p) (upd H p (.lst (xs ++ zs)))
theorem op_cat : OpR X (binaryOp .Add) rCat := by
 intro pins s σ H x y v u Q I rx ry h
 obtain ⟨l, b, xs, zs, rfl, rfl, hH, hB, hz, q⟩ := h
 cases rx
 cases ry
 obtain ⟨z, its, n, r, hl, e⟩ := I.lstM hH
 obtain ⟨z2, its2, n2, r2, hl2, e2⟩ := I.lstM hB
 refine PySem.P.add_list e e2 ?_ (by rw [List.size_toArray, List.size_toArray]; omega)
 have ea : its.toArray ++ its2.toArray = (its ++ its2).toArray := by simp
 rw [ea]
 exact ⟨.ref _, _, I.lnew (t' := s.toks) (r.append r2) (by rw [List.length_append]; omega), rfl, q _ I.fresh⟩
end
section
variable {prog : Program} {w : World} {A : Around} {E : Value → Shared → Prop} {s : Shared}
theorem bounds_run {a c n : Nat} (hac : a ≤ c) (hc : c ≤ n) : sliceBounds (some (a : Int)) (some (c : Int)) none n = ((a : Int), (c : Int), 1) := by
 simp only [sliceBounds, Option.getD_none]
 have h1 : ¬ ((a : Int) < 0) := by omega
 have h2 : ¬ ((c : Int) < 0) := by omega
 simp only [h1, h2, if_false, show (1 : Int) > 0 by decide, if_true]
 congr 1
 ·omega
 ·congr 1; omega
set_option maxRecDepth 100000 in
theorem setItem_slice {l b sl : Addr} {items new : Array Value} {n n2 : Nat} {vl vu : Value} {a c : Nat} {Q : Unit → Shared → Prop}
    (e : s.heap.get? l = some { cls := .type "list", data := .seq items n }) (e2 : s.heap.get? b = some { cls := .type "list", data := .seq new n2 }) (hne : l ≠ b)
    (hs : s.heap.IsSliceOf sl vl vu .none) (pl : IsPart vl (some (a : Int))) (pu : IsPart vu (some (c : Int))) (hac : a ≤ c) (hc : c ≤ items.size)
    (hsz : items.size + new.size ≤ sizeLine) (h : Q () { s with heap := s.heap.update l (Obj.mapSeq fun xs => xs.extract 0 a ++ new ++ xs.extract c xs.size) }) :
    wpAny (model prog w) A (setItem (.ref l) (.ref sl) (.ref b)) Q E s := by
  have hl : s.heap.IsList l items := PySem.IsL.isList e
  have hb : s.heap.IsList b new := PySem.IsL.isList e2
  obtain ⟨os, hos, hcs, hds⟩ := id hs
  have hTs : s.TypeIs (.ref sl) "slice" := ⟨os, hos, hcs⟩
  have hstep : ¬ ((rawPart none == rawInt 0) = true) := Bool.false_ne_true
  have hsame : Builtin.List.listSameRef (.ref l) (.ref b) = false := by
    unfold Builtin.List.listSameRef
    exact beq_eq_false_iff_ne.mpr hne
  have hmax : (max (a : Int) (c : Int)).toNat = c := by omega
  have hz' : ((fun xs : Array Value => xs.extract 0 a ++ new ++ xs.extract c xs.size) items).size ≤ sizeLine + 1 := by
    simp only [Array.size_append, Array.size_extract]
    omega
  unfold setItem
  try with_reducible refine wpAny_holding ?_
  first | refine wpAny_bind (wpAny_pure ?_) | skip
  refine wpAny_bind (wpAny_sequenceKey hl.typeIs (by decide) ?_)
  refine wpAny_bind (wpAny_callSpecial?_slot (name := Str.ofString "__setitem__") hl.typeIs slot_list_setitem
    (wpAny_call_entry slot_list_setitem hl.typeIs entry_list_setitem ?_ (args_list_setitem _ _ _)))
  show wpAny _ _ (Builtin.List.listSubscript? (.ref sl) >>= _) _ _ s
  refine wpAny_bind ?_
  unfold Builtin.List.listSubscript?
  refine wpAny_bind (wpAny_specialOf hTs slice_no_index ?_)
  simp only [Option.isNone_none, if_true]
  refine wpAny_pure ?_
  show wpAny _ _ (typeOf (.ref sl) >>= _) _ _ s
  refine wpAny_bind (wpAny_typeOf hTs ?_)
  first
    | rw [if_neg (by decide)]
    | refine PySem.W.KFB.if_not (by decide) ?_
  rw [listSliceParts_eq]
  refine wpAny_bind (wpAny_bind (wpAny_field hos hds (x := .none) rfl (wpAny_bind (wpAny_listPart .none ?_))))
  rw [if_neg hstep]
  refine wpAny_bind (wpAny_field hos hds (x := vl) rfl (wpAny_bind (wpAny_listPart pl ?_)))
  refine wpAny_bind (wpAny_field hos hds (x := vu) rfl (wpAny_bind (wpAny_listPart pu (wpAny_pure ?_))))
  first
    | simp only [hsame, Bool.false_eq_true, if_false]
    | refine PySem.W.KFB.if_not hsame ?_
    | (dsimp only
       rw [if_neg (by rw [hsame]; exact Bool.false_ne_true)])
  refine wpAny_bind (m := Builtin.List.listAllItems (.ref b) "must assign iterable to extended slice") ?_
  unfold Builtin.List.listAllItems
  refine wpAny_bind (wpAny_typeOf hb.typeIs ?_)
  first
    | refine PySem.W.KFB.if_so (by decide) ?_
    | rw [if_pos (by decide)]
    | simp only [beq_self_eq_true, Bool.true_or, if_true]
  unfold Builtin.List.listItems
  refine wpAny_bind (wpAny_seqItems e2 rfl (wpAny_pure ?_))
  refine wpAny_bind (wpAny_bind (wpAny_seqItems e rfl (wpAny_pure ?_)))
  refine wpAny_bind (wpAny_of_eq ((sliceIndices_raw (some (a : Int)) (some (c : Int)) none items.size (by simp)).trans (congrArg (pure : Int × Int × Int → Sem (Int × Int × Int)) (bounds_run hac hc))) ?_)
  show wpAny _ _ (if ((1 : Int) == 1) = true then _ else _) _ _ s
  rw [if_pos (by decide)]
  refine wpAny_bind (wpAny_rule ?_)
  first
    | simp only [notLongL hsz, Bool.false_eq_true, if_false]
    | refine PySem.W.KFB.if_not (notLongL hsz) ?_
  first | refine wpAny_bind (wpAny_pure ?_) | skip
  show wpAny _ _ (updateSeq l (fun xs => xs.extract 0 ((a : Int)).toNat ++ new ++ xs.extract (max (a : Int) (c : Int)).toNat xs.size) >>= _) _ _ s
  rw [hmax, Int.toNat_natCast]
  refine wpAny_bind (wpAny_updateSeq (hz := Nat.le_trans (Nat.le_add_right _ _) hsz) (_hz' := hz') e rfl ?_)
  refine wpAny_bind (wpAny_letGo ?_)
  first
    | exact wpAny_bind (wpAny_pure (wpAny_pure ⟨.none, rfl, wpAny_pure h⟩))
    | exact wpAny_pure ⟨.none, rfl, wpAny_pure h⟩
end
section
variable {X : Cx}
end
end L2
namespace Att
open PySem PySem.W PySem.Calls PyProof.Rows
theorem ints_of_wellAll {P : Params} {h : Heap} : ∀ (ns : List Int) (vs : List Value), WellAll P h vs (ns.map WData.int) → IntsAre vs ns := by
 intro ns
 induction ns with
 | nil =>
  intro vs w
  rw [List.map_nil] at w
  cases w
  exact .nil
 | cons n ns ih =>
  intro vs w
  rw [List.map_cons] at w
  cases w with
  | cons a b =>
   cases a
   exact .cons _ _ (ih _ b)
theorem script_of {l : OpenLaw} {n : Nat} (hn : l.most = some n) {P : Params} {h : Heap} {args : List WData} {vals : List Value}
  (hpre : l.row.toRowW.claim.pre args = true) (hwl : WellAll P h vals args) :
  ∃ a vs ns, vals = [Value.ref a] ∧ args = [WData.list (ns.map WData.int)] ∧ h.get? a = some { cls := .type "list", data := .seq vs.toArray } ∧ IntsAre vs ns ∧ ns.length ≤ n := by
 have hsh : WShape.hasAll [] args [.list .int] = true := (pre_splitW hpre).1
 have hc : l.pre.holds [] { args := args } = true := (pre_splitW hpre).2
 obtain ⟨d, r, rfl, h1, h2⟩ := hasAllW_cons hsh
 obtain rfl := hasAllW_nil h2
 obtain ⟨xs, rfl, h3⟩ := hasW_list h1
 obtain ⟨ns, rfl⟩ := items_int h3
 have hlen : ns.length ≤ n := by
  unfold OpenLaw.pre at hc
  have h4 : (WTm.not (.lt (.lit (.int (n : Int))) (.len (.arg 0)))).holds [] { args := [.list (ns.map .int)] } = true := by
   have h4 := (holds_andW hc).1
   rw [hn] at h4
   exact h4
  have h5 := condW_of h4 (w_not (w_lt w_lit (w_len_list (w_arg rfl))))
  rw [List.length_map] at h5
  refine Nat.le_of_not_lt fun q => ?_
  have q' : (n : Int) < ((ns.length : Nat) : Int) := by omega
  first
   | (rw [decide_eq_true q'] at h5; exact absurd h5 (by decide))
   | (simp at h5; omega)
 cases hwl with
 | cons w1 w2 =>
  cases w2
  cases w1 with
  | list ho hall => exact ⟨_, _, ns, rfl, rfl, ho, ints_of_wellAll ns _ hall, hlen⟩
theorem post_true (l : OpenLaw) (args : List WData) : l.row.toRowW.claim.post args (.bool true) args = true :=
 postW_of (r := l.row.toRowW) (X := (true == true))
  (show WShape.has [] (.bool true) .bool = true by first | rfl | decide | simp [WShape.has, WShape.arms, WShape.armsAll])
  (show (WTm.eq .res (.lit (.bool true))).value [] { args := args, res := some (.bool true), after := args } = some (.bool (true == true)) from w_eq_bool (w_res rfl) w_lit) rfl
theorem attach_call {l : OpenLaw} {n : Nat} {q : Program} {loose : List Str} {XP : (Str → Option Value) → Heap → Prop} {YP : World → Heap → Prop} {d : DefRec}
  (hn : l.most = some n) (hdf : d.params.defaults = [])
  (call : ∀ (w : World) (s₀ s₁ : Shared) (mg mb : Str → Option Value) (fa : Addr) (o : Obj) (pm cd doc : Value) (a : Addr) (vs : List Value) (ns : List Int),
   Ground q loose [] XP w s₀ mg mb s₁.heap → YP w s₁.heap →
   s₁.heap.get? fa = some o → o.data = .func (docDef d.name d.params d.body d.scope pm cd doc) → s₁.heap.CodeRec cd d.name → mg d.name = some (.ref fa) →
   s₁.heap.get? a = some { cls := .type "list", data := .seq vs.toArray } → IntsAre vs ns → ns.length ≤ n → s₁.gens = #[] →
   codeAny (model l.prog w) callerA (.call (.ref fa) ⟨[.ref a], []⟩) (fun r s' => r = .ok (.ret (.bool true)) ∧ OldK s₁.heap s'.heap ∧ s'.os = s₁.os ∧ AllBare s'.gens) s₁) :
  WalkO q loose XP YP l.row.toRowW d [] (fun f vs => PySem.call f vs) := by
 intro w s₀ s₁ mg mb G Y fa o pm cd doc dV kV ho hd hcd hD hmg hg args vals as hpre hlay hrd hwl hlo
 obtain rfl : dV = .none := Dflts.none hD hdf
 obtain rfl : kV = .none := Dflts.noKw hD
 obtain ⟨a, vs, ns, rfl, rfl, hobj, hints, hlen⟩ := script_of hn hpre hwl
 refine enter_call (codeAny_mono (call w s₀ s₁ mg mb fa o pm cd doc a vs ns G Y ho (fd_plain hd) hcd hmg hobj hints hlen hg) fun r s' hq => ?_)
 obtain ⟨rfl, h2, h3, h4⟩ := hq
 exact ⟨.inl ⟨.bool true, .bool true, [], rfl, fun _ => rfl, .bool true, post_true l _, fun _ => ⟨List.Pairwise.nil, fun _ hm => (nomatch hm)⟩⟩, h2, h3, h4⟩
section
variable {prog : Program} {w : World} {A : Around} {E : Value → Shared → Prop} {s : Shared} {K : Frag}
end
end Att
namespace L2
open PySem PySem.Spec PyProof.Rows
theorem vals_ints : ∀ {vs : List Value} {ns : List Int}, IntsAre vs ns → Vals (ns.map V.int) vs
 | _, _, .nil => .nil
 | _, _, .cons n t h => .cons ⟨t, rfl⟩ (vals_ints h)
noncomputable def Only (H : Hp) : Prop := ∀ b, H b = none ∨ ∃ o xs, H b = some (.frz o (.lst xs))
theorem law_call {P : Program} {w : World} {K : PySem.W.Frag} {mg mb : Str → Option Value} {CX : CXT} {k : Nat} {fa a : Addr} {fd : FuncData} {x : Str} {sp : Sp} {s₁ : Shared} {vs : List Value} {ns : List Int}
  (KX : K.In s₁.heap) (hns : s₁.heap.Ns mainGlobals mg) (hb : s₁.heap.Ns builtinsNs mb) (hbb : ∀ x : Str, x ≠ "__name__" → mb x = bootBuiltins x) (hlim : s₁.heap.NoLimit) (hg : s₁.gens = #[])
  (ha : s₁.heap.get? a = some { cls := .type "list", data := .seq vs.toArray }) (hi : IntsAre vs ns) (hl : ns.length ≤ sizeLine) (hr : Room k callerA)
  (F : ∀ base : Heap, K.In base → base.Ns mainGlobals mg → FnOk P w K mg base CX k fa fd [x] sp) (hbind : ∀ (s : Shared) (u : Value), BindsTo s fd ⟨[u], []⟩ [(x, u)])
  (hsp : ∀ H : Hp, Only H → SqL K H a (ns.map V.int) → sp [.ref a] H (fun v _ => v = .bl true) fun _ _ _ => False)
  (hCX : ∀ H e s', CX [] H s₁ (fun _ _ _ => False) e s' → False) :
  codeAny (model P w) callerA (.call (.ref fa) ⟨[.ref a], []⟩) (fun r s' => r = .ok (.ret (.bool true)) ∧ OldK s₁.heap s'.heap ∧ s'.os = s₁.os ∧ AllBare s'.gens) s₁ := by
 have rv := vals_ints hi
 have lenV := hi.length
 have core : ∀ H : Hp, Only H → SqL K H a (ns.map V.int) → HOk P w H s₁.heap → (∀ b, H b ≠ none → b = a) → (H a ≠ none → K.lookup a = none) →
   codeAny (model P w) callerA (.call (.ref fa) ⟨[.ref a], []⟩) (fun r s' => r = .ok (.ret (.bool true)) ∧ OldK s₁.heap s'.heap ∧ s'.os = s₁.os ∧ AllBare s'.gens) s₁ := by
  intro H hO hS hok hA hK
  have base_of : ∀ {b : Addr} {o : Obj}, s₁.heap.get? b = some o → H b = none → (hidT s₁.heap H).get? b = some o := fun e n => hidT_get e n
  have noA : ∀ {b : Addr} {o : Obj} {es : Array DictEntry} {ep : Nat}, s₁.heap.get? b = some o → o.data = .dict es ep → H b = none := fun {b o es ep} e d => by
   cases q : H b with
   | none => rfl
   | some u =>
    have e' : b = a := hA b (by rw [q]; simp)
    subst e'
    rw [ha] at e; cases e
    have d' : Data.seq vs.toArray _ = Data.dict es ep := d
    cases d'
  have nsK : ∀ {b : Addr} {m : Str → Option Value}, s₁.heap.Ns b m → (hidT s₁.heap H).Ns b m := fun {b m} ⟨o, es, ep, e, d, r⟩ => ⟨o, es, ep, base_of e (noA e d), d, r⟩
  have hKb : K.In (hidT s₁.heap H) := fun b o e => base_of (KX b o e) (by
   cases q : H b with
   | none => rfl
   | some u =>
    have e' : b = a := hA b (by rw [q]; simp)
    subst e'
    rw [hK (by rw [q]; simp)] at e; cases e)
  have hM : Mod K mg (hidT s₁.heap H) := ⟨hKb, nsK hns, ⟨mb, nsK hb, hbb⟩, let ⟨mc, h1, h2⟩ := hlim; ⟨mc, nsK h1, h2⟩⟩
  have e0 : Env0 P w K mg (hidT s₁.heap H) callerA [] s₁ H := ⟨rfl, hM, fun b o e => of_hidT e, Nat.le_of_eq (hidT_size _ _), trivial, fun b hb => absurd (show b ∈ ([] : List Addr) from hb) (by simp), hok, .of_eq hg⟩
  refine codeAny_mono ((F _ hKb (nsK hns)).run callerA [] s₁ H ⟨[.ref a], []⟩ [.ref a] [.ref a] _ _ hr e0 (hbind s₁ (.ref a)) (.cons rfl .nil) (hsp H hO hS)) fun r s' h => ?_
  cases r with
  | error e => exact (hCX H e s' h).elim
  | ok fl =>
   cases fl with
   | next => exact False.elim h
   | brk => exact False.elim h
   | cont => exact False.elim h
   | ret u =>
    obtain ⟨v, H', os, bare, un, hok', r', q⟩ := h
    have q' : v = .bl true := q
    subst q'
    obtain rfl : u = Value.bool true := r'
    refine ⟨rfl, OldK.of_keep fun b o e => ?_, os, bare⟩
    cases q : H b with
    | none => exact un.keep b o e q (by intro z; exact absurd (show b ∈ ([] : List Addr) from z) (by simp)) (by simp)
    | some u =>
     rcases hO b with z | ⟨ob, xs, z⟩
     ·rw [q] at z; cases z
     ·have z2 := un.frzs b ob _ z
      obtain ⟨e1, _⟩ := hok b _ z
      obtain ⟨e2, _⟩ := hok' b _ z2
      rw [e] at e1; cases e1
      exact e2
 cases hk : K.lookup a with
 | some o =>
  have e := KX a o hk
  rw [ha] at e
  cases e
  refine core (fun _ => none) (fun _ => .inl rfl) (.inr ⟨_, vs.toArray, _, hk, rfl, rfl, rfl, by rw [List.size_toArray, lenV]; exact hl, by simpa using rv⟩) (fun b u z => by have z' : (none : Option HO) = some u := z; cases z') (fun b z => absurd rfl z) fun z => absurd rfl z
 | none =>
  refine core (fun b => if b = a then some (.frz { cls := .type "list", data := .seq vs.toArray } (.lst (ns.map V.int))) else none) (fun b => ?_) (.inl (.inr ⟨{ cls := .type "list", data := .seq vs.toArray }, if_pos rfl⟩)) (fun b u z => ?_) (fun b z => ?_) fun _ => hk
  ·by_cases hb : b = a
   ·exact .inr ⟨_, _, if_pos hb⟩
   ·exact .inl (if_neg hb)
  ·by_cases hb : b = a
   ·have z' := (if_pos hb).symm.trans z
    cases z'
    subst hb
    exact ⟨ha, by rw [List.length_map]; exact hl, vs, _, rv, ha⟩
   ·have z' := (if_neg hb).symm.trans z
    cases z'
  ·by_cases hb : b = a
   ·exact hb
   ·exact absurd (if_neg hb) z
end L2
namespace L2
open PySem PySem.Spec PyProof.Rows
theorem walk_of {l : PySem.W.OpenLaw} {n k : Nat} {q : Program} {loose : List Str} {XP : (Str → Option Value) → Heap → Prop} {YP : World → Heap → Prop} {d : DefRec} {K : Params → PySem.W.Frag} {CX : World → CXT} {sp : World → Sp} {x : Str}
  (hn : l.most = some n) (hn2 : n ≤ sizeLine) (hdf : d.params.defaults = []) (hr : Room k callerA)
  (hY : ∀ (w : World) (h : Heap), YP w h → (K w.params).In h)
  (F : ∀ (w : World) (mg : Str → Option Value) (fa : Addr) (h : Heap), (K w.params).In h → h.Ns mainGlobals mg → mg d.name = some (.ref fa) →
   ∃ fd : FuncData, (∀ (s : Shared) (u : Value), BindsTo s fd ⟨[u], []⟩ [(x, u)]) ∧
    ∀ base : Heap, (K w.params).In base → base.Ns mainGlobals mg → FnOk l.prog w (K w.params) mg base (CX w) k fa fd [x] (sp w))
  (hsp : ∀ (w : World) (H : Hp) (a : Addr) (ns : List Int), ns.length ≤ n → Only H → SqL (K w.params) H a (ns.map V.int) → sp w [.ref a] H (fun v _ => v = .bl true) fun _ _ _ => False)
  (hCX : ∀ (w : World) (H : Hp) (s : Shared) (e : Value) (s' : Shared), CX w [] H s (fun _ _ _ => False) e s' → False) :
  PySem.W.WalkO q loose XP YP l.row.toRowW d [] (fun f vs => PySem.call f vs) := by
 refine Att.attach_call hn hdf fun w s₀ s₁ mg mb fa o pm cd doc a vs ns G Y ho hd hcd hmg hobj hints hlen hg => ?_
 have KX := hY w _ Y
 obtain ⟨fd, hb, hF⟩ := F w mg fa _ KX G.T.g hmg
 exact law_call KX G.T.g G.T.b G.T.builtins G.T.nolimit hg hobj hints (Nat.le_trans hlen hn2) hr hF hb (fun H hO hS => hsp w H a ns hlen hO hS) fun H e s' => hCX w H s₁ e s'
end L2
namespace L2
open PySem PySem.Spec PyProof.Rows
noncomputable abbrev CX0 : CXT := fun _ _ _ _ _ _ => False
noncomputable abbrev E0 : XK := fun _ _ _ => False
theorem pass0 {X : Cx} : Passes CX0 X E0 := fun _ _ _ _ _ _ _ h => h.elim
structure Fun (K : PySem.W.Frag) (x qual : Str) (st : Stmt) (f : Addr) (fd : FuncData) : Prop where
 ex : ∃ (oc : Value) (od : Option Addr) (kV doc pm : Value) (an : Option Addr) (cdv ct : Value) (osl : Array (Option Value)),
  fd = PySem.W.fnOf x qual (defArgs st) (defBody st) (defScope st) .none kV doc pm an cdv ct ∧ K.lookup f = some ⟨oc, od, .func fd, osl⟩ ∧ PySem.W.codeIn K cdv qual = true
 kp : PySem.W.keepIn K (.ref f) = true
section
variable {P : Program} {w : World} {K : PySem.W.Frag} {mg : Str → Option Value} {base : Heap}
theorem Fun.ok {x qual : Str} {st : Stmt} {f : Addr} {fd : FuncData} {N ps : List Str} {k : Nat} {sp : Sp} (F : Fun K x qual st f fd) (S : FnScope N ps (defScope st)) (len : ∀ vs H Q E, sp vs H Q E → vs.length = ps.length)
  (hbody : ∀ (cdv : Value) (A : Around) (outer : List Env) (s : Shared) (H : Hp) (vs : List V) (Q : VK) (E : XK), Room k (A.deeper (envOfC qual (defScope st) s.heap.objs.size f cdv)) → sp vs H Q E →
   ∃ t, PSs (cxOf CX0 P w K mg base N qual (defScope st) f cdv A outer s H E).nox (defBody st) t ∧ t { nx := fun _ H' => Q .non H', rt := Q } (start N vs) H) : FnOk P w K mg base CX0 (k + 1) f fd ps sp := by
 obtain ⟨oc, od, kV, doc, pm, an, cdv, ct, osl, rfl, lk, hcd⟩ := F.ex
 refine fn_of lk hcd S len fun A outer s H vs Q E hr hsp => ?_
 obtain ⟨t, h, q⟩ := hbody cdv A outer s H vs Q E hr hsp
 exact ⟨t, h.nox, q⟩
theorem Fun.binds {x qual : Str} {st : Stmt} {f : Addr} {fd : FuncData} {ps : List Str} (F : Fun K x qual st f fd)
  (h : ∀ (kV doc pm : Value) (an : Option Addr) (cdv ct : Value) (us : List Value), us.length = ps.length → bindArgs (PySem.W.fnOf x qual (defArgs st) (defBody st) (defScope st) .none kV doc pm an cdv ct) ⟨us, []⟩ = pure (ps.zip us)) : Binds K fd ps [] := by
 obtain ⟨oc, od, kV, doc, pm, an, cdv, ct, osl, rfl, lk, hcd⟩ := F.ex
 exact .all (h kV doc pm an cdv ct)
theorem fun_mk {x qual : Str} {st : Stmt} {f : Addr} {oc : Value} {od an : Option Addr} {osl : Array (Option Value)} {kV doc pm cdv ct : Value} (l : K.lookup f = some ⟨oc, od, .func (PySem.W.fnOf x qual (defArgs st) (defBody st) (defScope st) .none kV doc pm an cdv ct), osl⟩)
  (c : PySem.W.codeIn K cdv qual = true) (k : PySem.W.keepIn K (.ref f) = true) : Fun K x qual st f (PySem.W.fnOf x qual (defArgs st) (defBody st) (defScope st) .none kV doc pm an cdv ct) := ⟨⟨oc, od, kV, doc, pm, an, cdv, ct, osl, rfl, l, c⟩, k⟩
end
section
variable {X : Cx}
theorem pv (i : Nat) {x : Str} {pos : Pos} (hN : X.N[i]? = some x := by rfl) (hv : Vis X.env.scope x := by first | exact Or.inl rfl | exact Or.inr (Or.inl rfl) | exact Or.inr (Or.inr rfl)) (hd : (x == ("__debug__" : Str)) = false := by decide)
  (hcd : (x == ("__classdict__" : Str)) = false := by decide) : PE X (.Name x pos) (tVar i) := pe_var hN hv hd hcd
end
theorem iteF {A B : Prop} (h : B) : if false = true then A else B := by
 rw [if_neg Bool.false_ne_true]
 exact h
theorem iteT {A B : Prop} (h : A) : if true = true then A else B := by
 rw [if_pos rfl]
 exact h
theorem ite2 {c A B : Prop} [Decidable c] (h1 : c → A) (h2 : ¬ c → B) : if c then A else B := by
 by_cases h : c
 ·rw [if_pos h]
  exact h1 h
 ·rw [if_neg h]
  exact h2 h
noncomputable def Same (H H' : Hp) : Prop := ∀ b o, H b = some o → H' b = some o
theorem Same.refl (H : Hp) : Same H H := fun _ _ h => h
theorem Same.trans {H H1 H2 : Hp} (a : Same H H1) (b : Same H1 H2) : Same H H2 := fun c o h => b c o (a c o h)
theorem Same.free {H H' : Hp} (e : Same H H') {l : Addr} (h : H' l = Option.none) : H l = Option.none := by
 cases q : H l with
 | none => rfl
 | some o =>
  rw [e l o q] at h
  cases h
theorem Same.seq {K : PySem.W.Frag} {H H' : Hp} {a : Addr} {xs : List V} (e : Same H H') (h : SqL K H a xs) : SqL K H' a xs := by
 rcases h with (h | ⟨o, h⟩) | h
 ·exact .inl (.inl (e _ _ h))
 ·exact .inl (.inr ⟨o, e _ _ h⟩)
 ·exact .inr h
end L2
set_option maxHeartbeats 4000000
namespace L2
open PySem PySem.Spec PyProof.Rows
theorem closure_ok {env : Env} : ∀ (names : List (Str × NameKind)) (acc : List (Str × Addr)), (∀ p ∈ names, p.2 = .free → ∃ c, env.cells.lookup p.1 = some c) →
  (∀ y c, acc.lookup y = some c → env.cells.lookup y = some c) →
  ∃ cl, (forIn names acc (fun (p : Str × NameKind) (cs : List (Str × Addr)) => if (p.2 == NameKind.free) = true then (do let a ← cellOf env p.1; pure (ForInStep.yield ((p.1, a) :: cs))) else (pure (ForInStep.yield cs) : Sem _)) : Sem _) = pure cl ∧
   (∀ y c, cl.lookup y = some c → env.cells.lookup y = some c) ∧ (∀ y, (acc.lookup y).isSome = true → (cl.lookup y).isSome = true) ∧ ∀ y, (y, NameKind.free) ∈ names → (cl.lookup y).isSome = true
 | [], acc, _, h => ⟨acc, rfl, h, fun _ z => z, fun _ z => nomatch z⟩
 | (n, k) :: r, acc, hf, h => by
  by_cases hk : k = .free
  ·subst hk
   obtain ⟨c, hc⟩ := hf (n, .free) List.mem_cons_self rfl
   obtain ⟨cl, e, h1, h2, h3⟩ := closure_ok r ((n, c) :: acc) (fun p hp => hf p (List.mem_cons_of_mem _ hp)) (fun y d hd => by
    rw [List.lookup_cons] at hd
    cases q : y == n with
    | true => rw [q] at hd; cases hd; rw [eq_of_beq q]; exact hc
    | false => rw [q] at hd; exact h y d hd)
   refine ⟨cl, ?_, h1, fun y hy => h2 y ?_, fun y hy => ?_⟩
   ·rw [List.forIn_cons]
    have e0 : cellOf env n = pure c := by unfold cellOf; rw [hc]
    simp only [beq_self_eq_true, if_true, e0, pure_bind]
    exact e
   ·rw [List.lookup_cons]
    cases q : y == n with
    | true => rfl
    | false => exact hy
   ·rcases List.mem_cons.mp hy with q | q
    ·cases q
     refine h2 n ?_
     rw [List.lookup_cons, beq_self_eq_true]
     rfl
    ·exact h3 y q
  ·obtain ⟨cl, e, h1, h2, h3⟩ := closure_ok r acc (fun p hp => hf p (List.mem_cons_of_mem _ hp)) h
   refine ⟨cl, ?_, h1, h2, fun y hy => ?_⟩
   ·rw [List.forIn_cons]
    have e0 : (k == NameKind.free) = false := by simpa using hk
    simp only [e0, Bool.false_eq_true, if_false, pure_bind]
    exact e
   ·rcases List.mem_cons.mp hy with q | q
    ·cases q; exact absurd rfl hk
    ·exact h3 y q
theorem closureFor_ok {env : Env} {scope : Scope} (hf : ∀ p ∈ scope.names, p.2 = .free → ∃ c, env.cells.lookup p.1 = some c) :
  ∃ cl, closureFor scope env = pure cl ∧ (∀ y c, cl.lookup y = some c → env.cells.lookup y = some c) ∧ ∀ y, (y, NameKind.free) ∈ scope.names → (cl.lookup y).isSome = true := by
 obtain ⟨cl, e, h1, _, h3⟩ := closure_ok (env := env) scope.names [] hf (fun y c h => by simp at h)
 refine ⟨cl, ?_, h1, h3⟩
 unfold closureFor
 have e' := congrArg (fun m : Sem (List (Str × Addr)) => m >>= fun cs => pure cs) e
 simp only [pure_bind] at e'
 rw [← e']
structure CompIn where
 cl : List (Str × Addr)
 C : Addr
 s : Shared
 H : Hp
 ex : List Addr
noncomputable def cxComp (X : Cx) (scope : Scope) (N : List Str) (c : CompIn) : Cx :=
 { X with N := N, s₀ := c.s, H₀ := c.H, env := compEnvC scope c.cl c.C X.env, outer := X.stack, stack := X.stack, ex := c.ex, fn := fun _ => false, pn := [], xe := fun _ _ => False }
noncomputable def capSt (k : Nat) (cap : List Nat) (σ : St) : St := List.replicate k none ++ cap.map fun i => (σ[i]?).getD none
noncomputable def tTrue : TT := fun _ H Q => Q true H
section
variable {prog : Program} {w : World} {A : Around} {R : Result → Shared → Prop} {s : Shared}
theorem compLoopT {elt target iter : Expr} {ifs : List Expr} {scope : Scope} {pos : Pos} {it acc : Value} {env : Env} (I : Nat → Shared → Prop)
  (turn : ∀ n s, I n s → wpAny (model prog w) A (pyNext it) (fun r s₁ => match r with
   | none => R (.ok .next) s₁
   | some v => wpAny (model prog w) A (letOwnedTupleGo target it v) (fun _ s₁' => wpAny (model prog w) A (assign target env v) (fun _ s₂ =>
     wpAny (model prog w) A (forIn ifs true fun c r => if r = true then do let ok ← isTrue c env (eval c env); pure (ForInStep.yield ok) else pure (ForInStep.yield r)) (fun ok s₃ =>
      if ok = true then wpAny (model prog w) A (eval elt env) (fun x s₄ =>
       wpAny (model prog w) A (call (.builtin "list.append") [acc, x]) (fun _ s₅ => ∃ m, m < n ∧ I m s₅) (fun _ _ => False) s₄) (fun _ _ => False) s₃
      else ∃ m, m < n ∧ I m s₃) (fun _ _ => False) s₂) (fun _ _ => False) s₁') (fun _ _ => False) s₁) (fun _ _ => False) s)
  (n : Nat) (h : I n s) :
  codeAny (model prog w) A (.compLoop (.ListComp elt [⟨target, iter, ifs, 0⟩] scope pos) 0 it acc env) R s := by
 refine codeAny_loop rfl I (fun n s hI => ?_) n h
 show wpAny _ A ((compTurn (.ListComp elt [⟨target, iter, ifs, 0⟩] scope pos) 0 it acc env).onRaise (fun x => do noteFrame x env; theTreesLotGoes x)) _ _ s
 refine wpAny_noted ?_
 refine wpAny_mono (E := fun _ _ => False) ?_ (fun _ _ q => q) (fun _ _ z => z.elim)
 rw [compTurn_list]
 refine wpAny_bind (wpAny_standAt (wpAny_bind (wpAny_mono (turn n s hI) (fun r s₁ h₁ => ?_) fun _ _ h' => h')))
 cases r with
 | none => exact wpAny_pure h₁
 | some v =>
  refine wpAny_bind (wpAny_mono h₁ (fun _ s₁' h₁' => ?_) fun _ _ h' => h')
  refine wpAny_bind (wpAny_mono h₁' (fun _ s₂ h₂ => wpAny_bind (wpAny_mono h₂ (fun ok s₃ h₃ => ?_) fun _ _ h' => h')) fun _ _ h' => h')
  cases ok with
  | false => exact wpAny_pure ⟨rfl, h₃⟩
  | true =>
   exact wpAny_bind (wpAny_bind (wpAny_mono h₃ (fun x s₄ h₄ => wpAny_bind (wpAny_mono h₄ (fun _ s₅ h₅ => wpAny_pure (wpAny_pure ⟨rfl, h₅⟩)) fun _ _ h' => h')) fun _ _ h' => h'))
end
noncomputable def PTs (X : Cx) (ifs : List Expr) (t : TT) : Prop :=
 ∀ (pins : List (Addr × Obj)) (s : Shared) (σ : St) (H : Hp) (Q : Bool → Hp → Prop), Inv X pins σ H s → t σ H Q →
  wpAny (model X.prog X.w) X.A (forIn ifs true fun c r => if r = true then do let ok ← isTrue c X.env (eval c X.env); pure (ForInStep.yield ok) else pure (ForInStep.yield r)) (TP X pins σ Q) X.xe s
theorem pts_nil {X : Cx} : PTs X [] tTrue := fun pins s σ H Q I h => wpAny_tests_nil ⟨H, I, h⟩
theorem pts_one {X : Cx} {c : Expr} {t : TT} (h : PT X c t) : PTs X [c] t := fun pins s σ H Q I hq => wpAny_tests_one (h pins s σ H Q I hq)
theorem lookup_relabel_free {env : Env} : ∀ {names : List (Str × NameKind)} {x : Str}, names.lookup x = some .free →
  (names.map fun (n, k) => if (k == NameKind.free && env.scope.kind == .function && env.kindOf n == some .cell) then (n, NameKind.cell) else (n, k)).lookup x = some .cell ∨
  (names.map fun (n, k) => if (k == NameKind.free && env.scope.kind == .function && env.kindOf n == some .cell) then (n, NameKind.cell) else (n, k)).lookup x = some .free
 | [], _, h => by simp at h
 | (n, k) :: r, x, h => by
  have ih := @lookup_relabel_free env r x
  show List.lookup x ((if (k == NameKind.free && env.scope.kind == .function && env.kindOf n == some .cell) = true then (n, NameKind.cell) else (n, k)) :: _) = _ ∨ List.lookup x ((if (k == NameKind.free && env.scope.kind == .function && env.kindOf n == some .cell) = true then (n, NameKind.cell) else (n, k)) :: _) = _
  cases hx : x == n with
  | true =>
   simp only [List.lookup_cons, hx] at h
   cases h
   by_cases hc : (NameKind.free == NameKind.free && env.scope.kind == .function && env.kindOf n == some .cell) = true
   ·rw [if_pos hc]; left; simp only [List.lookup_cons, hx]
   ·rw [if_neg hc]; right; simp only [List.lookup_cons, hx]
  | false =>
   simp only [List.lookup_cons, hx] at h
   by_cases hc : (k == NameKind.free && env.scope.kind == .function && env.kindOf n == some .cell) = true
   ·rw [if_pos hc]; simp only [List.lookup_cons, hx]; exact ih h
   ·rw [if_neg hc]; simp only [List.lookup_cons, hx]; exact ih h
theorem lookup_relabel_cf {env : Env} : ∀ {names : List (Str × NameKind)} {x : Str}, (∀ y ∈ names, y.2 ≠ .cell) →
  ((names.map fun (n, k) => if (k == NameKind.free && env.scope.kind == .function && env.kindOf n == some .cell) then (n, NameKind.cell) else (n, k)).lookup x = some .cell ∨
  (names.map fun (n, k) => if (k == NameKind.free && env.scope.kind == .function && env.kindOf n == some .cell) then (n, NameKind.cell) else (n, k)).lookup x = some .free) → (x, NameKind.free) ∈ names
 | [], _, _, h => by simp at h
 | (n, k) :: r, x, hn, h => by
  have ih := @lookup_relabel_cf env r x (fun y hy => hn y (List.mem_cons_of_mem _ hy))
  have h' : List.lookup x ((if (k == NameKind.free && env.scope.kind == .function && env.kindOf n == some .cell) = true then (n, NameKind.cell) else (n, k)) :: (r.map fun (n, k) => if (k == NameKind.free && env.scope.kind == .function && env.kindOf n == some .cell) then (n, NameKind.cell) else (n, k))) = some .cell ∨ List.lookup x ((if (k == NameKind.free && env.scope.kind == .function && env.kindOf n == some .cell) = true then (n, NameKind.cell) else (n, k)) :: (r.map fun (n, k) => if (k == NameKind.free && env.scope.kind == .function && env.kindOf n == some .cell) then (n, NameKind.cell) else (n, k))) = some .free := h
  cases hx : x == n with
  | true =>
   have e := eq_of_beq hx
   subst e
   by_cases hc : (k == NameKind.free && env.scope.kind == .function && env.kindOf x == some .cell) = true
   ·have hk : k = .free := by
     have := (Bool.and_eq_true _ _ |>.mp ((Bool.and_eq_true _ _ |>.mp hc).1)).1
     exact eq_of_beq this
    subst hk
    exact List.mem_cons_self
   ·rw [if_neg hc] at h'
    simp only [List.lookup_cons, hx] at h'
    have hk := hn (x, k) List.mem_cons_self
    rcases h' with z | z
    ·exact absurd (Option.some.inj z) hk
    ·rw [Option.some.inj z]; exact List.mem_cons_self
  | false =>
   refine List.mem_cons_of_mem _ (ih ?_)
   by_cases hc : (k == NameKind.free && env.scope.kind == .function && env.kindOf n == some .cell) = true
   ·rw [if_pos hc] at h'; simp only [List.lookup_cons, hx] at h'; exact h'
   ·rw [if_neg hc] at h'; simp only [List.lookup_cons, hx] at h'; exact h'
noncomputable def GoalW (J : It) (g : TG) (tt : TT) (te : TE) (l : Addr) (σ0 : St) (H0 : Hp) (Q : VK) : Prop :=
 ∃ W : Nat → Nat → St → Hp → Prop, (∃ m, W 0 m σ0 H0) ∧
   ∀ i m σ' H2, W i m σ' H2 → (J.stop i H2 ∧ Q (.ref l) H2) ∨ (J.go i H2 ∧ ∃ N : St → Hp → Prop, (∀ σ3 H3, N σ3 H3 → ∃ m', m' < m ∧ W (i + 1) m' σ3 H3) ∧
    ∀ x H3, J.yld i H2 x H3 → g x σ' H3 fun σ4 H4 => tt σ4 H4 fun b H5 => if b = true then te σ4 H5 fun y H6 => ∃ xs, H6 l = some (.lst xs) ∧ xs.length < sizeLine ∧ N σ4 (upd H6 l (.lst (xs ++ [y]))) else N σ4 H5)
noncomputable def tComp (wi : TI) (k : Nat) (cap : List Nat) (g : TG) (tt : TT) (te : TE) : TE := fun σ H Q => wi σ H fun J H1 => ∀ l, H1 l = none → GoalW J g tt te l (capSt k cap σ) (upd H1 l (.lst [])) Q
structure CompScope (X : Cx) (scope : Scope) (N : List Str) (k : Nat) (cap : List Nat) : Prop where
 kind : scope.kind = .function
 names : ∀ y ∈ scope.names, y.2 = .local → scope.names.lookup y.1 = some .local
 cell : ∀ y ∈ scope.names, y.2 ≠ .cell
 free : ∀ y ∈ scope.names, y.2 = .free → X.env.kindOf y.1 = some .cell ∨ X.env.kindOf y.1 = some .free
 len : N.length = k + cap.length
 cap : ∀ j i, cap[j]? = some i → ∃ y, N[k + j]? = some y ∧ X.N[i]? = some y ∧ scope.names.lookup y = some .free
theorem capSt_get {k : Nat} {cap : List Nat} {σ : St} {j : Nat} {v : V} (h : (capSt k cap σ)[j]? = some (some v)) : ∃ q i, j = k + q ∧ cap[q]? = some i ∧ σ[i]? = some (some v) := by
 unfold capSt at h
 by_cases hj : j < k
 ·rw [List.getElem?_append_left (by simpa using hj), List.getElem?_replicate] at h
  split at h <;> cases h
 ·rw [List.getElem?_append_right (by simpa using hj), List.length_replicate, List.getElem?_map] at h
  cases q : cap[j - k]? with
  | none => rw [q] at h; cases h
  | some i =>
   rw [q] at h
   have h' : (σ[i]?).getD none = some v := Option.some.inj h
   refine ⟨j - k, i, by omega, q, ?_⟩
   cases r : σ[i]? with
   | none => rw [r] at h'; cases h'
   | some o => rw [r] at h'; have : o = some v := h'; rw [this]
theorem HOk.but {P : Program} {w : World} {H : Hp} {h h' : Heap} {C : Addr} (x : HOk P w H h) (hC : H C = none) (k : ∀ b o, b ≠ C → h.get? b = some o → h'.get? b = some o) : HOk P w H h' := fun b u e => by
 have nit : ∀ b u, H b = some u → b ≠ C := fun b u e z => by rw [z, hC] at e; cases e
 refine (x b u e).stay (fun c v hc q => k c v ?_ q) (fun _ q => q) fun _ _ q => q
 rcases hc with z | z
 ·rw [z]; exact nit b u e
 ·exact nit c _ z
section
variable {X : Cx} {elt tg iter : Expr} {ifs : List Expr} {scope : Scope} {pos : Pos} {wi : TI} {g : TG} {tt : TT} {te : TE} {N : List Str} {k : Nat} {cap : List Nat}
theorem compOk {pins : List (Addr × Obj)} {σ : St} {H2 : Hp} {s2 : Shared} {cl : List (Str × Addr)} {C : Addr} {fp : List Addr} (S : CompScope X scope N k cap) (I2 : Inv X pins σ H2 s2)
  (hcl1 : ∀ y c, cl.lookup y = some c → X.env.cells.lookup y = some c) (hcl2 : ∀ y, (y, NameKind.free) ∈ scope.names → (cl.lookup y).isSome = true) (hC : s2.heap.objs.size ≤ C)
  (hf : ∀ b ∈ fp, FpOk X pins H2 b) (ho : ∀ b ∈ fp, b < s2.heap.objs.size) : (cxComp X scope N ⟨cl, C, s2, H2, fp⟩).Ok where
 mod := I2.ok.mod
 kind := S.kind
 glob := I2.ok.glob
 blt := I2.ok.blt
 above := hC
 inj := fun x y c h1 h2 => I2.ok.inj x y c (hcl1 x c h1) (hcl1 y c h2)
 has := fun x h => by
  have h' : (x, NameKind.free) ∈ scope.names := lookup_relabel_cf (env := X.env) S.cell h
  exact Option.isSome_iff_exists.mp (hcl2 x h')
 cab := fun _ _ z => by cases z
 hd := I2.ok.hd
 frames := I2.ok.frames
 stk := .inl rfl
 exf := fun b hb => ⟨Nat.ne_of_lt (Nat.lt_of_lt_of_le (ho b hb) hC), fun x c e => (hf b hb).2.2.2.2.1 x c (hcl1 x c e)⟩
 bs := I2.bs
 bsz := Nat.le_trans I2.ok.bsz I2.sz
 noex := fun b o e hb => by
  rcases (hf b hb).2.2.2.1 with z | z
  ·exact I2.ok.noex b o e z
  ·exact absurd (Nat.lt_of_lt_of_le (Heap.lt_size e) (Nat.le_trans I2.ok.bsz z)) (Nat.lt_irrefl _)
 exfs := fun b hb hb' => by
  rcases List.mem_cons.mp (I2.stkSub b hb') with z | z
  ·exact (hf b hb).2.1 z
  ·exact (hf b hb).2.2.1 z
 funs := I2.stack
 frf := I2.stkFree
theorem compInv {pins : List (Addr × Obj)} {σ : St} {H2 : Hp} {s2 : Shared} {cl : List (Str × Addr)} {C : Addr} {fp : List Addr} {h1 : Heap} {tk : Nat} {m0 : Str → Option Value} (S : CompScope X scope N k cap) (I2 : Inv X pins σ H2 s2)
  (hcl1 : ∀ y c, cl.lookup y = some c → X.env.cells.lookup y = some c) (hcl2 : ∀ y, (y, NameKind.free) ∈ scope.names → (cl.lookup y).isSome = true) (hC : C = s2.heap.objs.size + 1)
  (hf : ∀ b ∈ fp, FpOk X pins H2 b) (ho : ∀ b ∈ fp, b < s2.heap.objs.size) (hk : ∀ b o, s2.heap.get? b = some o → h1.get? b = some o) (hD : h1.get? s2.heap.objs.size = some { cls := .type "list", data := .seq #[] 0 }) (hns : h1.Ns C m0) :
  Inv (cxComp X scope N ⟨cl, C, s2, H2, fp⟩) [] (capSt k cap σ) (upd H2 s2.heap.objs.size (.lst [])) { s2 with heap := h1, toks := tk } := by
 have fr : H2 s2.heap.objs.size = none := I2.hok.fresh (Nat.le_refl _)
 have hCf : H2 C = none := I2.hok.fresh (hC ▸ Nat.le_succ _)
 refine ⟨compOk S I2 hcl1 hcl2 (hC ▸ Nat.le_succ _) hf ho, rfl, I2.bare, Un.laid hk (Nat.le_refl _) fr, ⟨m0, hns, fun i y v e1 e2 e3 => ?_⟩, fun x c e => ?_, ?_, fun x c e => ?_, fun p hp => absurd (show p ∈ ([] : List (Addr × Obj)) from hp) (by simp), I2.hok.laid hk (Nat.le_refl _) ?_, ?_⟩
 ·obtain ⟨q, j, rfl, hj, hv⟩ := capSt_get e2
  obtain ⟨z, hz1, hz2, hz3⟩ := S.cap q j hj
  have e1' : N[k + q]? = some y := e1
  rw [hz1] at e1'
  cases e1'
  obtain ⟨m, hn, hl⟩ := I2.loc
  have hfr := S.free (y, .free) (PySem.mem_of_lookup hz3) rfl
  obtain ⟨u, r, l⟩ := hl j y v hz2 hv (by rcases hfr with z | z; exact .inr (.inl z); exact .inr (.inr z))
  refine ⟨u, r, .inr ⟨lookup_relabel_free (env := X.env) hz3, ?_⟩⟩
  obtain ⟨c, hc⟩ := Option.isSome_iff_exists.mp (hcl2 y (PySem.mem_of_lookup hz3))
  rcases l with ⟨hk', _⟩ | ⟨_, c', hc', hcell⟩
  ·rcases hfr with z | z <;> (rw [hk'] at z; cases z)
  ·have e := hcl1 y c hc
   rw [hc'] at e
   cases e
   obtain ⟨o, ho', hd⟩ := hcell
   exact ⟨_, hc, o, hk _ _ ho', hd⟩
 ·obtain ⟨v, o, ho', hd⟩ := I2.cell x c (hcl1 x c e)
  exact ⟨v, o, hk _ _ ho', hd⟩
 ·show upd H2 s2.heap.objs.size (.lst []) C = none
  rw [upd_ne (Nat.ne_of_gt (hC ▸ Nat.lt_succ_self _))]
  exact hCf
 ·have e' := hcl1 x c e
  obtain ⟨v, q⟩ := I2.cell x c e'
  rw [upd_ne (Nat.ne_of_lt q.lt)]
  exact I2.freeC x c e'
 ·exact ⟨Nat.zero_le _, [], 0, .nil, hD⟩
 ·show (capSt k cap σ).length = N.length
  unfold capSt
  rw [List.length_append, List.length_replicate, List.length_map, S.len]
theorem pe_comp (hc : X.calm = true) (S : CompScope X scope N k cap) (hi : PI X tg iter wi) (hg : ∀ c, PG (cxComp X scope N c) tg g) (ht : ∀ c, PTs (cxComp X scope N c) ifs tt) (he : ∀ c, PE (cxComp X scope N c) elt te)
  (hs : ∀ x, foldedSetIterable iter X.env x = pure x := by intro _; rfl) : PE X (.ListComp elt [⟨tg, iter, ifs, 0⟩] scope pos) (tComp wi k cap g tt te) := by
 intro pins s σ H Q I h
 rw [eval_ListComp]
 obtain ⟨cl, hclos, hcl1, hcl2⟩ := closureFor_ok (scope := scope) (env := X.env) (fun p hp hf => I.ok.has p.1 (S.free p hp hf))
 refine wpAny_comprehension_free (use := none) rfl hs hclos S.kind S.names (thn (hi pins s σ H _ I h) fun v s1 h1 => thn h1 fun itv s2 h2 => ?_)
 obtain ⟨it, fp, tn, J, H2, e, I2, T, st2, f2, q2⟩ := h2
 subst e
 obtain ⟨W, ⟨m0, w0⟩, turn⟩ := q2 s2.heap.objs.size (I2.hok.fresh (Nat.le_refl _))
 have hob : ∀ b ∈ fp, b < s2.heap.objs.size := fun b hb => let ⟨o, e, _⟩ := T.obj _ _ st2 b hb; Heap.lt_size e
 refine wpAny_newObj_type (wpAny_newFunctionEnv S.cell (by intro y hy; simp at hy) (fun h₁ hns₁ hsb₁ => ?_) S.kind)
 dsimp only at hns₁ hsb₁ ⊢
 generalize hHH : s2.heap.push { cls := .type "list", dict := none, data := .seq ([] : List Value).toArray } = HH at hns₁ hsb₁ ⊢
 have hCC : HH.objs.size = s2.heap.objs.size + 1 := by rw [← hHH, Heap.size_push]
 have old : ∀ b o, s2.heap.get? b = some o → h₁.get? b = some o := fun b o e => hsb₁.extBut b o (Nat.ne_of_lt (hCC ▸ Nat.lt_succ_of_lt (Heap.lt_size e))) (Heap.get?_push_of_some _ (hHH ▸ Heap.get?_push_of_some _ e))
 have hD : h₁.get? s2.heap.objs.size = some { cls := .type "list", data := .seq #[] 0 } := hsb₁.extBut _ _ (Nat.ne_of_lt (hCC ▸ Nat.lt_succ_self _)) (Heap.get?_push_of_some _ (hHH ▸ Heap.get?_push_size _ rfl))
 have I4 := fun tk => compInv (tk := tk) S I2 hcl1 hcl2 hCC f2 hob old hD hns₁
 have X' := cxComp X scope N ⟨cl, HH.objs.size, s2, H2, fp⟩
 have stat : ∀ {H' : Hp}, (∀ b ∈ fp, H' b = none) → ∀ b ∈ fp, FpOk (cxComp X scope N ⟨cl, HH.objs.size, s2, H2, fp⟩) [] H' b := fun hn b hb =>
  ⟨hn b hb, Nat.ne_of_lt (hCC ▸ Nat.lt_succ_of_lt (hob b hb)), (compOk S I2 hcl1 hcl2 (hCC ▸ Nat.le_succ _) f2 hob).exfs b hb, .inl hb, fun x c e => (f2 b hb).2.2.2.2.1 x c (hcl1 x c e), fun p hp => absurd (show p ∈ ([] : List (Addr × Obj)) from hp) (by simp)⟩
 have loop : ∀ s₃ : Shared, s₃ = { s2 with heap := h₁, toks := s2.toks + ([] : List (Str × Value)).length } →
   codeAny (model X.prog X.w) X.A (.compLoop (.ListComp elt [⟨tg, iter, ifs, 0⟩] scope pos) 0 (.ref it) (.ref s2.heap.objs.size) (compEnvC scope cl HH.objs.size X.env))
    (compPost (model X.prog X.w) X.A X.xe none (EP X pins σ Q) (.ref s2.heap.objs.size) HH.objs.size) s₃ := by
  rintro s₃ rfl
  refine compLoopT (fun n s' => ∃ i σ' H', Inv (cxComp X scope N ⟨cl, HH.objs.size, s2, H2, fp⟩) [] σ' H' s' ∧ tn i s'.heap ∧ (∀ b ∈ fp, H' b = none) ∧ W i n σ' H') ?_ m0
   ⟨0, capSt k cap σ, _, I4 _, T.keep _ _ _ st2 fun b _ o e => old b o e, fun b hb => by rw [upd_ne (Nat.ne_of_lt (hob b hb))]; exact (f2 b hb).1, w0⟩
  rintro n s3 ⟨i, σ3, H3, I3, st3, fr3, w3⟩
  rcases turn i n σ3 H3 w3 with ⟨stop, qn⟩ | ⟨go, NN, hN, step⟩
  ·refine thn (T.done (cxComp X scope N ⟨cl, HH.objs.size, s2, H2, fp⟩) rfl rfl rfl hc i [] s3 σ3 H3 _ I3 (stat fr3) st3 stop) fun r s4 ⟨hr, J4⟩ => ?_
   subst hr
   obtain ⟨m, hn, _⟩ := J4.loc
   refine ⟨m, hn, fun h' hs' => ?_⟩
   have keepC : ∀ b o, b ≠ HH.objs.size → s4.heap.get? b = some o → h'.get? b = some o := fun b o hb e => hs'.extBut b o hb e
   have ltC : ∀ b o, s2.heap.get? b = some o → b ≠ HH.objs.size := fun b o e => Nat.ne_of_lt (hCC ▸ Nat.lt_succ_of_lt (Heap.lt_size e))
   have u := J4.base
   have u' : Un (frs X.stack) fp H2 H3 s2.heap h' := ⟨fun b o q n hb hx => keepC b o (ltC b o q) (u.keep b o q n hb hx), fun b o q n hb hx => by
     obtain ⟨sl, e⟩ := u.slot b o q n hb hx
     exact ⟨sl, keepC b _ (ltC b o q) e⟩, u.free, fun b o q hx => by
     obtain ⟨o', e⟩ := u.there b o q hx
     exact ⟨o', keepC b _ (ltC b o q) e⟩, u.tups, u.frzs, u.tbls⟩
   refine ⟨.ref s2.heap.objs.size, H3, I2.call' (ch := fp) J4.os u' (J4.hok.but J4.free keepC) J4.bare fun b hb => ?_, rfl, qn⟩
   obtain ⟨_, f1, _, f3, f4, f5⟩ := f2 b hb
   exact ⟨f3, f1, f4, f5⟩
  ·refine thn (T.item (cxComp X scope N ⟨cl, HH.objs.size, s2, H2, fp⟩) rfl rfl rfl hc i [] s3 σ3 H3 _ I3 (stat fr3) st3 go) fun r s4 ⟨u, hr, h4⟩ => ?_
   subst hr
   refine thn h4 fun _ s5 ⟨x, H5, I5, r5, y5, st5, fr5⟩ => ?_
   have I5' := I5.pinned (stat fr5) (T.obj _ _ st5)
   have again : ∀ {s7 : Shared} {σ7 : St} {H7 : Hp}, Inv (cxComp X scope N ⟨cl, HH.objs.size, s2, H2, fp⟩) ([] ++ pinsAt fp s5.heap) σ7 H7 s7 → NN σ7 H7 →
     ∃ m, m < n ∧ ∃ i σ' H', Inv (cxComp X scope N ⟨cl, HH.objs.size, s2, H2, fp⟩) [] σ' H' s7 ∧ tn i s7.heap ∧ (∀ b ∈ fp, H' b = none) ∧ W i m σ' H' := fun {s7 σ7 H7} I7 n7 => by
    obtain ⟨m', hm, w7⟩ := hN σ7 H7 n7
    refine ⟨m', hm, i + 1, σ7, H7, I7.unpinned, T.keep _ _ _ st5 fun b hb o e => (I7.pin (b, o) (List.mem_append_right _ (List.mem_append_right _ (mem_pinsAt hb e)))).1, fun b hb => ?_, w7⟩
    obtain ⟨o, e, d⟩ := T.obj _ _ st5 b hb
    exact (I7.pin (b, o) (List.mem_append_right _ (List.mem_append_right _ (mem_pinsAt hb e)))).2.1
   refine thn (hg _ _ s5 σ3 H5 x u _ I5' r5 (step x H5 y5)) fun _ s6 ⟨σ6, H6, I6, q6⟩ => ?_
   refine thn (ht _ _ s6 σ6 H6 _ I6 q6) fun b s7 ⟨H7, I7, q7⟩ => ?_
   cases b with
   | false => exact again I7 q7
   | true =>
    refine thn (he _ _ s7 σ6 H7 _ I7 q7) fun y s8 ⟨yv, H8, I8, r8, xs, hl, hz, n8⟩ => ?_
    refine thn (mt_append _ s8 σ6 H8 (.ref s2.heap.objs.size) [yv] (.ref s2.heap.objs.size) [y] (fun _ H9 => NN σ6 H9) I8 rfl (.cons r8 .nil) ⟨_, xs, yv, rfl, rfl, hl, hz, n8⟩) fun _ s9 ⟨_, H9, I9, _, q9⟩ => ?_
    exact again I9 q9
 exact codeAny_compStart_list (loop _ rfl) (T.self X.A 0 _ _ _ (T.keep _ _ _ st2 fun b _ o e => old b o e) (loop _ rfl))
end
end L2
namespace L2
open PySem PySem.Spec PyProof.Rows
noncomputable def Its (z : Str) : It := ⟨fun i _ => i < z.cps.size, fun i H x H' => H' = H ∧ ∃ c, z.cps[i]? = some c ∧ x = .str ⟨#[c]⟩, fun i _ => z.cps.size ≤ i⟩
theorem turn_strA {P : Program} {w : World} {K : PySem.W.Frag} {tg : Expr} (z : Str) (t : Tok) (it : Addr) : Turn P w K tg (Its z) [it] it (fun i h => h.IsStrIter it "str_ascii_iterator" z t i) where
 mem := by simp
 obj := fun i h st b hb => by
  have e : b = it := by simpa using hb
  subst e
  obtain ⟨o, e, c, d⟩ := st
  exact ⟨o, e, fun v z => by rw [d] at z; cases z⟩
 keep := fun i h h' st k => let ⟨o, e, r⟩ := st; ⟨o, k it (by simp) o e, r⟩
 item := by
  intro X hP hw hK hc i pins s σ H E I hf st hg
  subst hP hw hK
  obtain ⟨f0, f1, f2, f3, f4, f5⟩ := hf it (by simp)
  have hg' : i < z.cps.size := hg
  refine wpAny_pyNext_ascii_item st (c := z.cps[i]) (by simp [hg']) fun h' st' sb => ?_
  have I1 : Inv X pins σ H { s with heap := h', toks := s.toks + 1 } := I.turned (fun b o hb e => (sb.2 b hb).trans e) f0 f1 f3 f4 f5
  obtain ⟨o, e, c, d⟩ := id st'
  exact ⟨_, rfl, go_of (s := { s with heap := h', toks := s.toks + 1 }) e c d (by decide) ⟨.str ⟨#[z.cps[i]]⟩, H, I1, ⟨_, rfl⟩, ⟨rfl, _, by simp [hg'], rfl⟩, st', fun b hb => (hf b hb).1⟩⟩
 done := by
  intro X hP hw hK hc i pins s σ H E I hf st hg
  subst hP hw hK
  obtain ⟨f0, f1, f2, f3, f4, f5⟩ := hf it (by simp)
  exact wpAny_pyNext_ascii_end (I.ok.hd hc) st (Array.getElem?_eq_none hg) fun h' eb => ⟨rfl, I.turned (t' := s.toks) (fun b o hb e => eb b o hb e) f0 f1 f3 f4 f5⟩
 self := fun A i s Q E st h => by
  refine wpAny_pyIter_slot st.typeIs F.slot_str_ascii_iterator_iter (wpAny_call_entry F.slot_str_ascii_iterator_iter st.typeIs F.entry_str_ascii_iterator_iter ?_ (F.args_str_ascii_iterator_iter_1 _))
  show wpAny _ _ (ret (.ref it)) _ _ s
  exact wpAny_pure ⟨_, rfl, "str_ascii_iterator", _, st.typeIs, F.slot_str_ascii_iterator_next.lookup, h⟩
theorem turn_strW {P : Program} {w : World} {K : PySem.W.Frag} {tg : Expr} (z : Str) (t : Tok) (it : Addr) : Turn P w K tg (Its z) [it] it (fun i h => h.IsStrIter it "str_iterator" z t i) where
 mem := by simp
 obj := fun i h st b hb => by
  have e : b = it := by simpa using hb
  subst e
  obtain ⟨o, e, c, d⟩ := st
  exact ⟨o, e, fun v z => by rw [d] at z; cases z⟩
 keep := fun i h h' st k => let ⟨o, e, r⟩ := st; ⟨o, k it (by simp) o e, r⟩
 item := by
  intro X hP hw hK hc i pins s σ H E I hf st hg
  subst hP hw hK
  obtain ⟨f0, f1, f2, f3, f4, f5⟩ := hf it (by simp)
  have hg' : i < z.cps.size := hg
  refine wpAny_pyNext_wide_item st (c := z.cps[i]) (by simp [hg']) fun h' st' sb => ?_
  have I1 : Inv X pins σ H { s with heap := h', toks := s.toks + 1 } := I.turned (fun b o hb e => (sb.2 b hb).trans e) f0 f1 f3 f4 f5
  obtain ⟨o, e, c, d⟩ := id st'
  exact ⟨_, rfl, go_of (s := { s with heap := h', toks := s.toks + 1 }) e c d (by decide) ⟨.str ⟨#[z.cps[i]]⟩, H, I1, ⟨_, rfl⟩, ⟨rfl, _, by simp [hg'], rfl⟩, st', fun b hb => (hf b hb).1⟩⟩
 done := by
  intro X hP hw hK hc i pins s σ H E I hf st hg
  subst hP hw hK
  obtain ⟨f0, f1, f2, f3, f4, f5⟩ := hf it (by simp)
  exact wpAny_pyNext_wide_end (I.ok.hd hc) st (Array.getElem?_eq_none hg) fun h' eb => ⟨rfl, I.turned (t' := s.toks) (fun b o hb e => eb b o hb e) f0 f1 f3 f4 f5⟩
 self := fun A i s Q E st h => by
  refine wpAny_pyIter_slot st.typeIs F.slot_str_iterator_iter (wpAny_call_entry F.slot_str_iterator_iter st.typeIs F.entry_str_iterator_iter ?_ (F.args_str_iterator_iter_1 _))
  show wpAny _ _ (ret (.ref it)) _ _ s
  exact wpAny_pure ⟨_, rfl, "str_iterator", _, st.typeIs, F.slot_str_iterator_next.lookup, h⟩
noncomputable def iStr (tl : TE) : TI := fun σ H R => tl σ H fun x H1 => ∃ z, x = .str z ∧ R (Its z) H1
section
variable {X : Cx} {tg : Expr}
theorem pi_str {l : Expr} {tl : TE} (hl : PE X l tl) : PI X tg l (iStr tl) := by
 intro pins s σ H R I h
 refine thn (hl pins s σ H _ I h) fun v s1 ⟨x, H1, I1, r1, q1⟩ => ?_
 obtain ⟨z, e, q⟩ := q1
 subst e
 obtain ⟨t, rfl⟩ := r1
 cases ha : z.cps.all (· < 128) with
 | true =>
  refine wpAny_pyIter_ascii ha ?_
  refine ⟨s1.heap.objs.size, [s1.heap.objs.size], _, _, H1, rfl, I1.kept (t' := s1.toks) fun b o e => Heap.get?_push_of_some _ e, turn_strA z t _, ⟨_, Heap.get?_push_size _ rfl, rfl, rfl⟩, fun b hb => ?_, q⟩
  have e : b = s1.heap.objs.size := by simpa using hb
  subst e
  exact I1.fpOk (Nat.le_refl _) (I1.hok.fresh (Nat.le_refl _))
 | false =>
  refine wpAny_pyIter_wide ha ?_
  refine ⟨s1.heap.objs.size, [s1.heap.objs.size], _, _, H1, rfl, I1.kept (t' := s1.toks) fun b o e => Heap.get?_push_of_some _ e, turn_strW z t _, ⟨_, Heap.get?_push_size _ rfl, rfl, rfl⟩, fun b hb => ?_, q⟩
  have e : b = s1.heap.objs.size := by simpa using hb
  subst e
  exact I1.fpOk (Nat.le_refl _) (I1.hok.fresh (Nat.le_refl _))
end
noncomputable def isBl (bs : List Bool) : List V := bs.map V.bl
theorem bl_of {bs : List Bool} {its : List Value} (r : Vals (isBl bs) its) : ∀ i : Nat, its[i]? = (bs[i]?).map Value.bool := by
 induction bs generalizing its with
 | nil => cases r; intro i; simp
 | cons b bs ih =>
  cases r with
  | cons r rr =>
   cases r
   intro i
   cases i with
   | zero => rfl
   | succ i => exact ih rr i
theorem range_all {n : Nat} {f : Nat → Bool} {l : List Bool} (hn : l.length = n) (h : ∀ i b, l[i]? = some b → f i = b) : (List.range n).all f = l.all id := by
 induction l generalizing n f with
 | nil => subst hn; rfl
 | cons b l ih =>
  subst hn
  rw [List.length_cons, List.range_succ_eq_map, List.all_cons, List.all_map, List.all_cons, h 0 b rfl, ih (n := l.length) (f := f ∘ Nat.succ) rfl fun i b e => h (i + 1) b e]
  rfl
section
variable {X : Cx}
theorem call_all (hc : X.calm = true) : CallR X (.builtin "all") (fun xs H Q => ∃ p bs, xs = [.ref p] ∧ SqL X.K H p (isBl bs) ∧ Q (.bl (bs.all id)) H) := by
 intro pins s σ H xs us Q I r h
 obtain ⟨p, bs, rfl, hq, q⟩ := h
 obtain ⟨u, rfl, rx⟩ := vals1 r
 cases rx
 obtain ⟨its, rv, pl, hz⟩ := I.list hq
 have hg := bl_of rv
 have hlen : bs.length = its.length := by have := rv.length; simpa [isBl] using this
 refine call_all_walk (wpAny_pyIter_list pl.isList ?_)
 have hlt : p < s.heap.objs.size := let ⟨o, _, e, _⟩ := pl; Heap.lt_size e
 refine ⟨s.heap.objs.size, _, _, _, _, _, fun i => (bs[i]?).getD false, rfl, Walks.list (by exact I.ok.hd hc) s.heap.objs.size p (Nat.ne_of_lt hlt) its.toArray, ⟨⟨_, Heap.get?_push_size _ rfl, rfl, rfl⟩, pl.isList.at fun o e => Heap.get?_push_of_some _ e⟩, ?_, ?_⟩
 ·intro i v s' Q' E' hv hq'
  have hv' : its[i]? = some v := by simpa using hv
  rw [hg i] at hv'
  cases e : bs[i]? with
  | none => rw [e] at hv'; cases hv'
  | some b =>
   dsimp only at hq'
   rw [e] at hv' hq'
   cases hv'
   exact wpAny_truthy_bool hq'
 ·intro h' tk hk
  have e1 : (List.range its.toArray.size).all (fun i => (bs[i]?).getD false) = bs.all id := range_all (by simpa using hlen) (fun i b e => by rw [e]; rfl)
  rw [e1]
  have I1 : Inv X pins σ H { s with heap := s.heap.push { cls := .type "list_iterator", data := .fields #[.ref p, .int 0 0] }, toks := s.toks } := I.kept fun b o e => Heap.get?_push_of_some _ e
  have f1 := I.fpOk (H' := H) (Nat.le_refl _) (I.hok.fresh (Nat.le_refl _))
  obtain ⟨f0, f1, f2, f3, f4, f5⟩ := f1
  exact ⟨.bl _, H, I1.turned (it := s.heap.objs.size) (fun b o hb e => hk b o (by simpa using hb) e) f0 f1 f3 f4 f5, rfl, q⟩
theorem call_isi : CallR X (.builtin "isinstance") (fun xs H Q => ∃ x T t b, xs = [x, .ty T] ∧ TyOf X.K H x t ∧ PySem.W.kitOne X.K t (.type T) = some b ∧ Q (.bl b) H) := by
 intro pins s σ H xs us Q I r h
 obtain ⟨x, T, t, b, rfl, ty, e, q⟩ := h
 obtain ⟨u, v, rfl, rx, ry⟩ := vals2 r
 cases ry
 exact isinst_ok I rx ty e fun tk => ⟨.bl b, H, I.tok tk, rfl, q⟩
theorem sl_str : SlR X (fun x lo hi H Q => ∃ z, x = .str z ∧ z.length ≤ sizeLine ∧ Q (.str (Txt.slice z lo hi)) H) := by
 intro pins s σ H x v vl vu lo hi sl Q I rx hs pl pu h
 obtain ⟨z, rfl, hz, q⟩ := h
 obtain ⟨t, rfl⟩ := rx
 refine ⟨"str", _, F.slot_str_getitem.lookup, typeIs_str _ _ _, ?_⟩
 obtain ⟨o, ho, hc, hd⟩ := hs
 have fin : ∀ (t' : Tok) (k : Nat), EP X pins σ Q (.str (Txt.slice z lo hi) t') { s with toks := k } := fun t' k => ⟨.str (Txt.slice z lo hi), H, I.tok k, ⟨t', rfl⟩, q⟩
 have hle := Nat.le_trans (Txt.slice_le z lo hi) hz
 cases pl with
 | none => cases pu with
  | none => exact wpAny_getItem_str_slice (l := none) (u := none) (st := none) ⟨o, ho, hc, hd⟩ rfl (post_val_or_str ⟨hle, fun t' k => fin t' k⟩)
  | int j uj => exact wpAny_getItem_str_slice (l := none) (u := some (j, uj)) (st := none) ⟨o, ho, hc, hd⟩ rfl (post_val_or_str ⟨hle, fun t' k => fin t' k⟩)
 | int i ui => cases pu with
  | none => exact wpAny_getItem_str_slice (l := some (i, ui)) (u := none) (st := none) ⟨o, ho, hc, hd⟩ rfl (post_val_or_str ⟨hle, fun t' k => fin t' k⟩)
  | int j uj => exact wpAny_getItem_str_slice (l := some (i, ui)) (u := some (j, uj)) (st := none) ⟨o, ho, hc, hd⟩ rfl (post_val_or_str ⟨hle, fun t' k => fin t' k⟩)
theorem strs_of : ∀ {ys : List Str} {its : List Value}, Vals (ys.map V.str) its → StrsAre its ys
 | [], _, r => by cases r; exact .nil
 | y :: ys, _, r => by
  cases r with
  | cons r rr =>
   obtain ⟨t, rfl⟩ := r
   exact .cons y t (strs_of rr)
noncomputable def rJoin (K : PySem.W.Frag) : V → List V → Hp → VK → Prop := fun x vs H Q => ∃ z p ys, x = .str z ∧ vs = [.ref p] ∧ SqL K H p (ys.map V.str) ∧ (ys.map (·.length)).sum + ys.length * z.length ≤ 16777216 ∧ Q (.str (Txt.join z ys)) H
theorem mt_join : MtR X "str.join" (rJoin X.K) := by
 intro pins s σ H x vs v us Q I rx rv h
 obtain ⟨z, p, ys, rfl, rfl, hq, hz, q⟩ := h
 obtain ⟨t, rfl⟩ := rx
 obtain ⟨u, rfl, rp⟩ := vals1 rv
 cases rp
 obtain ⟨its, r, pl, _⟩ := I.list hq
 exact join_list pl.isList (by simpa using strs_of r) hz fun t' k => ⟨.str (Txt.join z ys), H, I.tok k, ⟨t', rfl⟩, q⟩
theorem op_powB : OpR X (binaryOp .Pow) (rI (fun i j => 0 ≤ j ∧ (Builtin.Int.intBits i : Int) * j ≤ 2 ^ 27) fun i j => .int (i ^ j.toNat)) := opI fun _ _ _ _ _ _ _ hc q => pow_int hc.1 hc.2 q
end
noncomputable def compChk (XN : List Str) (xs scope : Scope) (N : List Str) (k : Nat) (cap : List Nat) : Bool :=
 scope.kind == .function && (scope.names.all fun y => y.2 != .local || scope.names.lookup y.1 == some .local) && (scope.names.all fun y => y.2 != .cell) &&
 (scope.names.all fun y => y.2 != .free || xs.names.lookup y.1 == some .cell || xs.names.lookup y.1 == some .free) && N.length == k + cap.length &&
 (List.range cap.length).all fun j => match cap[j]?, N[k + j]? with
  | some i, some y => XN[i]? == some y && scope.names.lookup y == some .free
  | _, _ => false
theorem compScope_of {X : Cx} {XN : List Str} {xs scope : Scope} {N : List Str} {k : Nat} {cap : List Nat} (hN : X.N = XN) (hs : X.env.scope = xs) (h : compChk XN xs scope N k cap = true) : CompScope X scope N k cap := by
 subst hN hs
 unfold compChk at h
 simp only [Bool.and_eq_true, List.all_eq_true, Bool.or_eq_true, bne_iff_ne, ne_eq, beq_iff_eq] at h
 obtain ⟨⟨⟨⟨⟨h1, h2⟩, h3⟩, h4⟩, h5⟩, h6⟩ := h
 refine ⟨h1, fun y hy e => (h2 y hy).resolve_left (fun z => z e), h3, fun y hy e => ?_, h5, fun j i e => ?_⟩
 ·rcases h4 y hy with (z | z) | z
  ·exact absurd e z
  ·exact .inl z
  ·exact .inr z
 ·have hj : j < cap.length := (List.getElem?_eq_some_iff.mp e).1
  have q := h6 j (List.mem_range.mpr hj)
  rw [e] at q
  cases r : N[k + j]? with
  | none => rw [r] at q; cases q
  | some y =>
   rw [r] at q
   simp only [Bool.and_eq_true, beq_iff_eq] at q
   exact ⟨y, rfl, q.1, q.2⟩
section
variable {X : Cx} {elt tg iter : Expr} {ifs : List Expr} {scope : Scope} {pos : Pos} {wi : TI} {g : TG} {tt : TT} {te : TE} {N : List Str} {k : Nat} {cap : List Nat} {XN : List Str} {xs : Scope}
theorem pe_lc (N : List Str) (k : Nat) (cap : List Nat) (XN : List Str) (xs : Scope) (hc : X.calm = true) (hN : X.N = XN) (hx : X.env.scope = xs) (hi : PI X tg iter wi) (chk : compChk XN xs scope N k cap = true)
  (hg : ∀ c, PG (cxComp X scope N c) tg g) (ht : ∀ c, PTs (cxComp X scope N c) ifs tt) (he : ∀ c, PE (cxComp X scope N c) elt te)
  (hs : ∀ x, foldedSetIterable iter X.env x = pure x := by intro _; rfl) : PE X (.ListComp elt [⟨tg, iter, ifs, 0⟩] scope pos) (tComp wi k cap g tt te) := pe_comp hc (compScope_of hN hx chk) hi hg ht he hs
end
section
variable {wi : TI} {k : Nat} {cap : List Nat} {g : TG} {tt : TT} {te : TE} {σ : St} {H1 : Hp} {Q : VK} {l : Addr}
noncomputable def turnOf (g : TG) (tt : TT) (te : TE) (l : Addr) (x : V) (σ : St) (H : Hp) (N : St → Hp → Prop) : Prop :=
 g x σ H fun σ4 H4 => tt σ4 H4 fun b H5 => if b = true then te σ4 H5 fun y H6 => ∃ xs, H6 l = some (.lst xs) ∧ xs.length < sizeLine ∧ N σ4 (upd H6 l (.lst (xs ++ [y]))) else N σ4 H5
theorem comp_gen (J : It) (n : Nat) (Pv : Nat → St → Hp → Prop) (h0 : Pv 0 (capSt k cap σ) (upd H1 l (.lst [])))
  (hstop : ∀ σ H, Pv n σ H → J.stop n H) (hgo : ∀ i σ H, i < n → Pv i σ H → J.go i H)
  (hs : ∀ i σ H x H', i < n → Pv i σ H → J.yld i H x H' → turnOf g tt te l x σ H' (Pv (i + 1))) (hd : ∀ σ H, Pv n σ H → Q (.ref l) H) :
  GoalW J g tt te l (capSt k cap σ) (upd H1 l (.lst [])) Q := by
 refine ⟨fun i m σ H => m = n - i ∧ i ≤ n ∧ Pv i σ H, ⟨n, by simp, Nat.zero_le _, h0⟩, ?_⟩
 rintro i m σ H ⟨rfl, hi, p⟩
 by_cases hlt : i < n
 ·exact .inr ⟨hgo i σ H hlt p, Pv (i + 1), fun σ' H' p' => ⟨n - (i + 1), by omega, rfl, hlt, p'⟩, fun x H' y => hs i σ H x H' hlt p y⟩
 ·have e : i = n := by omega
  subst e
  exact .inl ⟨hstop σ H p, hd σ H p⟩
theorem comp_range (lo : Int) (n : Nat) (Pv : Nat → St → Hp → Prop) (h0 : Pv 0 (capSt k cap σ) (upd H1 l (.lst [])))
  (hs : ∀ i σ H, i < n → Pv i σ H → turnOf g tt te l (.int (lo + i)) σ H (Pv (i + 1))) (hd : ∀ σ H, Pv n σ H → Q (.ref l) H) :
  GoalW (Itr lo n) g tt te l (capSt k cap σ) (upd H1 l (.lst [])) Q :=
 comp_gen (Itr lo n) n Pv h0 (fun _ _ _ => Nat.le_refl n) (fun _ _ _ h _ => h) (fun i σ H x H' hi p y => by obtain ⟨e1, e2⟩ := y; subst e1 e2; exact hs i σ _ hi p) hd
end
structure Def (K : PySem.W.Frag) (mg : Str → Option Value) (x : Str) (st : Stmt) (ps : List Str) (f : Addr) (fd : FuncData) : Prop where
 F : Fun K x x st f fd
 m : mg x = some (.ref f)
 b : Binds K fd ps []
section
variable {X : Cx} {x : Str} {st : Stmt} {ps : List Str} {f : Addr} {fd : FuncData} {j k : Nat} {sp : Sp} {e : Expr} {es : List Expr} {t : TA} {p pos : Pos}
theorem pe_fn (D : Def X.K X.mg x st ps f fd) (G : FnOk X.prog X.w X.K X.mg X.base CX0 j f fd ps sp) (hr : Room k X.A) (hjk : j ≤ k) (hg : Gl X x) (ha : PA X (e :: es) t) (hdb : (x == ("__debug__" : Str)) = false := by decide)
  (he : starEach (e :: es) X.env = (false, eval e X.env) :: starEach es X.env := by rfl) (hpl : (backTo pos (starEach es X.env)).any (·.1) = false := by rfl) :
  PE X (.Call (.Name x p) (e :: es) [] pos) (tCall sp [] E0 t) := pe_call G (hr.mono hjk) hg D.m D.F.kp D.b .nil pass0 ha hdb he hpl
end
end L2
namespace L2
open PySem PySem.Spec PyProof.Rows
noncomputable def eqLV : List V → List V → Bool
 | [], [] => true
 | x :: xs, y :: ys => eqV x y && eqLV xs ys
 | _, _ => false
theorem eqLV_len : ∀ {xs ys : List V}, xs.length ≠ ys.length → eqLV xs ys = false
 | [], [], h => absurd rfl h
 | [], _ :: _, _ => rfl
 | _ :: _, [], _ => rfl
 | x :: xs, y :: ys, h => by
  unfold eqLV
  rw [eqLV_len (xs := xs) (ys := ys) (by simpa using h), Bool.and_false]
theorem eqLV_range : ∀ {xs ys : List V}, xs.length = ys.length → (List.range xs.length).all (fun j => eqV ((xs[j]?).getD .non) ((ys[j]?).getD .non)) = eqLV xs ys
 | [], [], _ => rfl
 | [], _ :: _, h => by cases h
 | _ :: _, [], h => by cases h
 | x :: xs, y :: ys, h => by
  have ih := eqLV_range (xs := xs) (ys := ys) (by simpa using h)
  rw [List.length_cons, List.range_succ_eq_map, List.all_cons, List.all_map]
  unfold eqLV
  rw [← ih]
  rfl
theorem Vals.get' : ∀ {xs : List V} {us : List Value} {i : Nat} {u : Value}, Vals xs us → us[i]? = some u → ∃ x, xs[i]? = some x ∧ RelV x u
 | _, _, _, _, .nil, h => by simp at h
 | _, _, 0, _, .cons r _, h => by simp at h; subst h; exact ⟨_, rfl, r⟩
 | _, _, i + 1, _, .cons _ t, h => Vals.get' (i := i) t (by simpa using h)
section
variable {X : Cx} {k : Nat}
theorem op_eqL (hr : Room k X.A) : OpR X (compareOp .Eq) (fun x y H Q => ∃ a b xs ys, x = .ref a ∧ y = .ref b ∧ SqL X.K H a xs ∧ SqL X.K H b ys ∧ (xs.length = ys.length → xs.all flatV = true ∧ ys.all flatV = true) ∧ Q (.bl (eqLV xs ys)) H) := by
 intro pins s σ H x y v u Q I rx ry h
 obtain ⟨a, b, xs, ys, rfl, rfl, ha, hb, hf, q⟩ := h
 cases rx
 cases ry
 obtain ⟨its, r1, p1, _⟩ := I.list ha
 obtain ⟨its2, r2, p2, _⟩ := I.list hb
 have l1 := r1.length
 have l2 := r2.length
 by_cases e : xs.length = ys.length
 ·obtain ⟨f1, f2⟩ := hf e
  refine SeqAt.eq_listAt (e := fun j => eqV ((xs[j]?).getD .non) ((ys[j]?).getD .non)) p1.isList p2.isList (by simp; omega) hr.units0 (fun j h1 h2 => ?_) ?_
  ·have g1 : its[j]? = some (its.toArray[j]) := by simp at h1 ⊢
   have g2 : its2[j]? = some (its2.toArray[j]) := by simp at h2 ⊢
   obtain ⟨x, ex, rx⟩ := r1.get' g1
   obtain ⟨y, ey, ry⟩ := r2.get' g2
   rw [ex, ey]
   exact eqAt_V rx ry (List.all_eq_true.mp f1 _ (List.mem_of_getElem? ex)) (List.all_eq_true.mp f2 _ (List.mem_of_getElem? ey))
  ·have e1 : its.toArray.size = xs.length := by simp; omega
   rw [e1, eqLV_range e]
   exact ⟨.bl _, H, I, rfl, q⟩
 ·refine SeqAt.eq_list_lengthsAt p1.isList p2.isList (by simp; omega) hr.units0 ?_
  rw [eqLV_len e] at q
  exact ⟨.bl false, H, I, rfl, q⟩
end
theorem kit_str_str {K : PySem.W.Frag} : PySem.W.kitOne K (.type "str") (.type "str") = some true := by rfl
theorem kit_tup_tup {K : PySem.W.Frag} : PySem.W.kitOne K (.type "tuple") (.type "tuple") = some true := by rfl
theorem bt_abs : bootBuiltins "abs" = some (.builtin "abs") := by decide +kernel
theorem bt_all : bootBuiltins "all" = some (.builtin "all") := by decide +kernel
theorem bt_isinstance : bootBuiltins "isinstance" = some (.builtin "isinstance") := by decide +kernel
theorem bt_len : bootBuiltins "len" = some (.builtin "len") := by decide +kernel
theorem bt_max : bootBuiltins "max" = some (.builtin "max") := by decide +kernel
theorem bt_min : bootBuiltins "min" = some (.builtin "min") := by decide +kernel
theorem bt_sorted : bootBuiltins "sorted" = some (.builtin "sorted") := by decide +kernel
theorem bt_int : bootBuiltins "int" = some (.type "int") := by decide +kernel
theorem bt_bool : bootBuiltins "bool" = some (.type "bool") := by decide +kernel
theorem bt_str : bootBuiltins "str" = some (.type "str") := by decide +kernel
theorem bt_tuple : bootBuiltins "tuple" = some (.type "tuple") := by decide +kernel
theorem bt_enumerate : bootBuiltins "enumerate" = some (.type "enumerate") := by decide +kernel
theorem bt_zip : bootBuiltins "zip" = some (.type "zip") := by decide +kernel
theorem tSeq_i {t u : TS} {D : Ends} {σ : St} {H : Hp} (h : t { D with nx := u D } σ H) : tSeq t u D σ H := h
theorem cxOf_K {CX : CXT} {P : Program} {w : World} {K : PySem.W.Frag} {mg : Str → Option Value} {base : Heap} {N : List Str} {qual : Str} {scope : Scope} {f : Addr} {cd : Value} {A : Around} {outer : List Env} {s : Shared} {H : Hp} {E : XK} : (cxOf CX P w K mg base N qual scope f cd A outer s H E).K = K := rfl
theorem cxComp_K {X : Cx} {scope : Scope} {N : List Str} {c : CompIn} : (cxComp X scope N c).K = X.K := rfl
section
variable {X : Cx}
theorem call_lenL : CallR X (.builtin "len") (fun xs H Q => ∃ p ys, xs = [.ref p] ∧ SqL X.K H p ys ∧ Q (.int ys.length) H) := by
 intro pins s σ H xs us Q I r h
 obtain ⟨p, ys, e, hq, q⟩ := h
 exact call_len_seq pins s σ H xs us Q I r ⟨p, ys, e, .inl hq, q⟩
theorem call_lenT : CallR X (.builtin "len") (fun xs H Q => ∃ p ys, xs = [.ref p] ∧ SqT X.K H p ys ∧ Q (.int ys.length) H) := by
 intro pins s σ H xs us Q I r h
 obtain ⟨p, ys, e, hq, q⟩ := h
 exact call_len_seq pins s σ H xs us Q I r ⟨p, ys, e, .inr hq, q⟩
end
end L2
namespace L2
open PySem PySem.Spec PyProof.Rows
noncomputable def But (p : Addr) (H H' : Hp) : Prop := ∀ b o, H b = some o → b ≠ p → H' b = some o
theorem But.refl {p : Addr} {H : Hp} : But p H H := fun _ _ h _ => h
theorem But.trans {p : Addr} {H H1 H2 : Hp} (a : But p H H1) (b : But p H1 H2) : But p H H2 := fun c o h n => b c o (a c o h n) n
theorem But.of {p : Addr} {H H1 : Hp} (a : Same H H1) : But p H H1 := fun c o h _ => a c o h
theorem Same.upd {H : Hp} {l : Addr} {o : HO} (h : H l = none) : Same H (upd H l o) := fun b u e => by rw [upd_ne (ne_of_none e h)]; exact e
theorem But.upd {p : Addr} {H : Hp} {o : HO} : But p H (upd H p o) := fun b u e n => by rw [upd_ne n]; exact e
theorem SqL.same {K : PySem.W.Frag} {H H' : Hp} {a : Addr} {xs : List V} (h : SqL K H a xs) (s : Same H H') : SqL K H' a xs := Same.seq s h
theorem SqT.same {K : PySem.W.Frag} {H H' : Hp} {a : Addr} {xs : List V} (h : SqT K H a xs) (s : Same H H') : SqT K H' a xs := by
 rcases h with (h | ⟨o, h⟩) | h
 ·exact .inl (.inl (s _ _ h))
 ·exact .inl (.inr ⟨o, s _ _ h⟩)
 ·exact .inr h
theorem SqL.but {K : PySem.W.Frag} {H H' : Hp} {a p : Addr} {xs : List V} (h : SqL K H a xs) (s : But p H H') (n : a ≠ p) : SqL K H' a xs := by
 rcases h with (h | ⟨o, h⟩) | h
 ·exact .inl (.inl (s _ _ h n))
 ·exact .inl (.inr ⟨o, s _ _ h n⟩)
 ·exact .inr h
theorem SqT.but {K : PySem.W.Frag} {H H' : Hp} {a p : Addr} {xs : List V} (h : SqT K H a xs) (s : But p H H') (n : a ≠ p) : SqT K H' a xs := by
 rcases h with (h | ⟨o, h⟩) | h
 ·exact .inl (.inl (s _ _ h n))
 ·exact .inl (.inr ⟨o, s _ _ h n⟩)
 ·exact .inr h
theorem szl {n : Nat} (h : n ≤ 16777216) : n ≤ sizeLine := by rw [PySem.sizeLine_eq]; exact h
theorem szt {n : Nat} (h : n < 16777216) : n < sizeLine := by rw [PySem.sizeLine_eq]; exact h
theorem len_cps (z : Str) : z.cps.toList.length = z.length := by simp [Str.length]
theorem atI_sign {z : Str} {d : Int} (h0 : 0 ≤ d) (h : d < (z.length : Int)) : ∃ c, c ∈ z.cps.toList ∧ atI z.cps.toList d = some c := by
 obtain ⟨j, rfl⟩ : ∃ j : Nat, d = (j : Int) := ⟨d.toNat, by omega⟩
 have hj : j < z.cps.toList.length := by have e := len_cps z; omega
 exact ⟨z.cps.toList[j], List.getElem_mem hj, atI_nat (by simp [hj])⟩
theorem atI_mem {α : Type} {xs : List α} {d : Int} (h0 : 0 ≤ d) (h : d < (xs.length : Int)) : ∃ c, c ∈ xs ∧ atI xs d = some c := by
 obtain ⟨j, rfl⟩ : ∃ j : Nat, d = (j : Int) := ⟨d.toNat, by omega⟩
 have hj : j < xs.length := by omega
 exact ⟨xs[j], List.getElem_mem hj, atI_nat (by simp [hj])⟩
theorem join_len {ys : List Str} (h : ∀ y ∈ ys, y.length = 1) : (ys.map (·.length)).sum = ys.length := by
 induction ys with
 | nil => rfl
 | cons y ys ih =>
  rw [List.map_cons, List.sum_cons, List.length_cons, ih fun z hz => h z (List.mem_cons_of_mem _ hz), h y List.mem_cons_self]
  omega
section
variable {k : Nat} {cap : List Nat} {g : TG} {tt : TT} {te : TE} {σ : St} {H : Hp} {Q : VK} {l : Addr}
theorem take_filter {α : Type} {p : α → Bool} {vs : List α} {i : Nat} {x : α} (h : vs[i]? = some x) : (vs.take (i + 1)).filter p = (vs.take i).filter p ++ (if p x = true then [x] else []) := by
 rw [List.take_add_one, h, List.filter_append]
 congr 1
 by_cases e : p x = true
 ·simp [e]
 ·simp [e]
theorem comp_pure (J : It) (vs : List V) (p : V → Bool) (f : V → V) (Good : St → Prop) (h0 : Good (capSt k cap σ)) (hlen : vs.length < sizeLine)
  (hstop : ∀ xs, J.stop vs.length (upd H l (.lst xs))) (hgo : ∀ i xs, i < vs.length → J.go i (upd H l (.lst xs)))
  (hyld : ∀ i xs x H', i < vs.length → J.yld i (upd H l (.lst xs)) x H' → H' = upd H l (.lst xs) ∧ vs[i]? = some x)
  (ht : ∀ x σ xs (N : St → Hp → Prop), x ∈ vs → xs.length < sizeLine → Good σ → (∀ σ', Good σ' → N σ' (upd H l (.lst (if p x = true then xs ++ [f x] else xs)))) → turnOf g tt te l x σ (upd H l (.lst xs)) N)
  (hd : Q (.ref l) (upd H l (.lst ((vs.filter p).map f)))) : GoalW J g tt te l (capSt k cap σ) (upd H l (.lst [])) Q := by
 refine comp_gen J vs.length (fun i σ' H' => i ≤ vs.length ∧ Good σ' ∧ H' = upd H l (.lst (((vs.take i).filter p).map f))) ⟨Nat.zero_le _, h0, rfl⟩ (fun σ' H' ⟨_, _, e⟩ => e ▸ hstop _) (fun i σ' H' hi ⟨_, _, e⟩ => e ▸ hgo i _ hi) (fun i σ' H' x H'' hi ⟨_, gd, e⟩ y => ?_) (fun σ' H' ⟨_, _, e⟩ => ?_)
 ·subst e
  obtain ⟨e1, e2⟩ := hyld i _ x H'' hi y
  subst e1
  refine ht x σ' _ _ (List.mem_of_getElem? e2) ?_ gd fun σ2 g2 => ⟨hi, g2, ?_⟩
  ·rw [List.length_map]
   have a1 := List.length_filter_le p (vs.take i)
   have a2 := List.length_take_le i vs
   exact Nat.lt_of_le_of_lt (Nat.le_trans a1 (by rw [List.length_take]; omega)) hlen
  ·rw [take_filter e2, List.map_append]
   by_cases e : p x = true
   ·rw [if_pos e, if_pos e]; rfl
   ·rw [if_neg e, if_neg e, List.map_nil, List.append_nil]
 ·subst e
  rw [List.take_length]
  exact hd
theorem comp_strP (z : Str) (p : V → Bool) (f : V → V) (Good : St → Prop) (h0 : Good (capSt k cap σ)) (hlen : z.length < sizeLine)
  (ht : ∀ c σ xs (N : St → Hp → Prop), c ∈ z.cps.toList → xs.length < sizeLine → Good σ → (∀ σ', Good σ' → N σ' (upd H l (.lst (if p (.str ⟨#[c]⟩) = true then xs ++ [f (.str ⟨#[c]⟩)] else xs)))) → turnOf g tt te l (.str ⟨#[c]⟩) σ (upd H l (.lst xs)) N)
  (hd : Q (.ref l) (upd H l (.lst (((z.cps.toList.map fun c => V.str ⟨#[c]⟩).filter p).map f)))) : GoalW (Its z) g tt te l (capSt k cap σ) (upd H l (.lst [])) Q := by
 have e : (z.cps.toList.map fun c => V.str ⟨#[c]⟩).length = z.cps.size := by simp
 refine comp_pure (Its z) (z.cps.toList.map fun c => V.str ⟨#[c]⟩) p f Good h0 (by rw [e]; exact hlen) (fun xs => ?_) (fun i xs hi => ?_) (fun i xs x H' hi y => ?_) (fun x σ xs N hx hz gd hN => ?_) hd
 ·rw [e]; exact Nat.le_refl _
 ·rw [e] at hi; exact hi
 ·obtain ⟨e1, c, hc, e2⟩ := y
  subst e2
  refine ⟨e1, ?_⟩
  rw [List.getElem?_map]
  have : z.cps.toList[i]? = some c := by simpa using hc
  rw [this]; rfl
 ·obtain ⟨c, hc, rfl⟩ := List.mem_map.mp hx
  exact ht c σ xs N hc hz gd hN
theorem SqL.upd' {K : PySem.W.Frag} {H : Hp} {a l : Addr} {xs : List V} {o : HO} (h : SqL K H a xs) (hl : H l = none) : SqL K (upd H l o) a xs := h.same (Same.upd hl)
theorem SqT.upd' {K : PySem.W.Frag} {H : Hp} {a l : Addr} {xs : List V} {o : HO} (h : SqT K H a xs) (hl : H l = none) : SqT K (upd H l o) a xs := h.same (Same.upd hl)
theorem comp_listP {K : PySem.W.Frag} {a : Addr} {vs : List V} (hl : H l = none) (hS : SqL K H a vs) (p : V → Bool) (f : V → V) (Good : St → Prop) (h0 : Good (capSt k cap σ)) (hlen : vs.length < sizeLine)
  (ht : ∀ x σ xs (N : St → Hp → Prop), x ∈ vs → xs.length < sizeLine → Good σ → (∀ σ', Good σ' → N σ' (upd H l (.lst (if p x = true then xs ++ [f x] else xs)))) → turnOf g tt te l x σ (upd H l (.lst xs)) N)
  (hd : Q (.ref l) (upd H l (.lst ((vs.filter p).map f)))) : GoalW (Itl K a) g tt te l (capSt k cap σ) (upd H l (.lst [])) Q :=
 comp_pure (Itl K a) vs p f Good h0 hlen (fun xs => ⟨vs, hS.upd' hl, Nat.le_refl _⟩) (fun i xs hi => ⟨vs, vs[i], hS.upd' hl, by simp [hi]⟩) (fun i xs x H' _ y => ⟨y.1, y.2 vs (hS.upd' hl)⟩) ht hd
end
theorem iteDn {c : Prop} [Decidable c] {A B : Prop} (hc : ¬ c) (h : B) : if decide c = true then A else B := by
 rw [decide_eq_false hc]; exact iteF h
theorem iteDy {c : Prop} [Decidable c] {A B : Prop} (hc : c) (h : A) : if decide c = true then A else B := by
 rw [decide_eq_true hc]; exact iteT h
theorem iteD {c : Prop} [Decidable c] {A B : Prop} (h1 : c → A) (h2 : ¬ c → B) : if decide c = true then A else B := by
 by_cases hc : c
 ·exact iteDy hc (h1 hc)
 ·exact iteDn hc (h2 hc)
theorem Same.but {H H0 H1 H2 : Hp} {p : Addr} (s : Same H H0) (n : H0 p = none) (s1 : Same H0 H1) (b : But p H1 H2) : Same H H2 := fun c o h => b c o (s1 c o (s c o h)) (ne_of_none (s c o h) n)
theorem turns {L c : Int} (hc : 1 ≤ c) : 1 ≤ (if 1 < (if L < c then L else c) then (if L < c then L else c) else 1) ∧ (if 1 < (if L < c then L else c) then (if L < c then L else c) else 1) ≤ c := by
 split <;> (try split) <;> omega
noncomputable def PotO (o : Option HO) : Prop := ∃ a b : Int, o = some (.lst [.int a, .int b]) ∧ 0 ≤ a ∧ 0 ≤ b ∧ b < 2147483647
noncomputable abbrev Pot (H : Hp) (p : Addr) : Prop := PotO (H p)
theorem Pot.same {H H' : Hp} {p : Addr} (h : Pot H p) (s : Same H H') : Pot H' p := let ⟨a, b, e, r⟩ := h; ⟨a, b, s _ _ e, r⟩
theorem Pot.ne {H : Hp} {p : Addr} (h : Pot H p) {l : Addr} (n : H l = none) : p ≠ l := let ⟨_, _, e, _⟩ := h; ne_of_none e n
noncomputable def spLaw (K : PySem.W.Frag) : Sp := fun vs H Q _ => ∃ (a : Addr) (ns : List Int), vs = [.ref a] ∧ SqL K H a (ns.map V.int) ∧ ns.length ≤ 63 ∧ ∀ H', Q (.bl true) H'
end L2
namespace PySem
open Sem (wp)
open AutoSeq1 (wpAny_loadPart')
section
variable {prog : Program} {w : World} {A : Around} {E : Value → Shared → Prop} {s : Shared}
theorem ours_nextOf_tuple_item {it t : Addr} {i : Nat} {items} {x : Value} {Q : Value → Shared → Prop} (hit : s.heap.IsTupleIter it t i)
  (ht : s.heap.IsTuple t items) (hx : items[i]? = some x)
  (hQ : ∀ h', h'.IsTupleIter it t (i + 1) → Heap.SameBut it s.heap h' → Q x { s with heap := h' }) :
  wpAny (model prog w) A (Builtin.SmallTypes.nextOf (.ref it)) Q E s := by
 obtain ⟨o, ho, hc, hd⟩ := id hit
 obtain ⟨ol, hol, _, nl, hdl⟩ := ht
 unfold Builtin.SmallTypes.nextOf
 refine wpAny_bind (wpAny_callSpecial?_slot (name := Str.ofString "__next__") hit.typeIs F.slot_tuple_iterator_next
  (wpAny_call_entry F.slot_tuple_iterator_next hit.typeIs F.entry_tuple_iterator_next ?_ (F.args_tuple_iterator_next_1 _)))
 show wpAny _ _ (field (.ref it) 0 >>= _) _ _ s
 refine wpAny_bind (wpAny_field ho hd (x := .ref t) rfl ?_)
 show wpAny _ _ (if (Value.ref t == Value.none) = true then _ else _) _ _ s
 rw [if_neg (show ¬ ((Value.ref t == Value.none) = true) from Bool.false_ne_true)]
 show wpAny _ _ (field (.ref it) 1 >>= _) _ _ s
 refine wpAny_bind (wpAny_field ho hd (x := .int i 0) rfl ?_)
 show wpAny _ _ (seqItems? (.ref t) >>= _) _ _ s
 refine wpAny_bind (wpAny_seqItems hol hdl ?_)
 simp only [Int.toNat_natCast, hx]
 refine wpAny_bind (wpAny_setField ho hd (by simp) (wpAny_pure ⟨x, rfl, wpAny_pure (hQ _ ?_ (Heap.SameBut.update ..))⟩))
 exact ⟨_, Heap.get?_update_self _ ho (Obj.isFreed_of_fields (Obj.data_mapFields hd _)), (Obj.cls_mapFields ..).trans hc, by
  rw [Obj.data_mapFields hd]; simp [rawInt]⟩
theorem ours_nextOf_tuple_end {it l : Addr} {i : Nat} {items} {Q : Value → Shared → Prop} (hh : A.handled = none)
  (hit : s.heap.IsTupleIter it l i) (hl : s.heap.IsTuple l items) (hx : items[i]? = none)
  (hE : ∀ h' e, Heap.ExtBut it s.heap h' → (∃ o, h'.get? e = some o ∧ o.cls = .type "StopIteration") → E (.ref e) { s with heap := h' }) :
  wpAny (model prog w) A (Builtin.SmallTypes.nextOf (.ref it)) Q E s := by
 obtain ⟨o, ho, hc, hd⟩ := id hit
 obtain ⟨ol, hol, _, nl, hdl⟩ := hl
 unfold Builtin.SmallTypes.nextOf
 refine wpAny_bind (wpAny_callSpecial?_slot (name := Str.ofString "__next__") hit.typeIs F.slot_tuple_iterator_next
  (wpAny_call_entry F.slot_tuple_iterator_next hit.typeIs F.entry_tuple_iterator_next ?_ (F.args_tuple_iterator_next_1 _)))
 show wpAny _ _ (field (.ref it) 0 >>= _) _ _ s
 refine wpAny_bind (wpAny_field ho hd (x := .ref l) rfl ?_)
 show wpAny _ _ (if (Value.ref l == Value.none) = true then _ else _) _ _ s
 rw [if_neg (show ¬ ((Value.ref l == Value.none) = true) from Bool.false_ne_true)]
 show wpAny _ _ (field (.ref it) 1 >>= _) _ _ s
 refine wpAny_bind (wpAny_field ho hd (x := .int i 0) rfl ?_)
 show wpAny _ _ (seqItems? (.ref l) >>= _) _ _ s
 refine wpAny_bind (wpAny_seqItems hol hdl ?_)
 simp only [Int.toNat_natCast, hx]
 refine wpAny_bind (wpAny_rule (wpAny_bind (wpAny_setField ho hd (by simp) ?_)))
 show wpAny _ _ (newExc (.type "StopIteration") [] >>= _) _ _ _
 refine wpAny_bind ?_
 simp only [newExc, newTuple]
 refine wpAny_bind (wpAny_newObj_type ?_ (by size_fits))
 refine wpAny_bind (m := firstArgMember _ _) (wpAny_of_eq (a := Value.none) (by first | rfl | (simp only [firstArgMember]; rfl)) ?_)
 refine wpAny_newObj_type ?_ (by size_fits)
 simp only [raiseNew]
 refine wpAny_bind (wpAny_handled ?_)
 first | rw [show A.in1.handled = none from hh] | rw [hh]
 refine wpAny_bind (wpAny_pure (wpAny_throw ?_))
 exact hE _ _ (((Heap.SameBut.update ..).extBut.push _).push _) ⟨_, Heap.get?_push_size _ rfl, rfl⟩
end
theorem ours_Draws_tuple {prog : Program} {w : World} {A : Around} (hh : A.handled = none) (it l : Addr) (hne : l ≠ it) (items : Array Value) :
  Draws prog w A it [it, l] items.size (fun i v => items[i]? = some v) (fun i h => h.IsTupleIter it l i ∧ h.IsTuple l items) where
 live := fun _ _ st => let ⟨o, ho, _⟩ := st.1; ⟨o, ho⟩
 frame := fun _ _ _ st hk => ⟨st.1.at fun o e => hk it (by simp) o e, let ⟨o, e, r⟩ := st.2; ⟨o, hk l (by simp) o e, r⟩⟩
 item := fun i s Q E hi st hQ => by
  refine ours_nextOf_tuple_item st.1 st.2 (x := items[i]) (by simp [hi]) fun h' hit' hs' => ?_
  exact hQ _ h' s.toks (by simp [hi]) ⟨hit', st.2.extBut hs'.extBut hne⟩ hs'
 done := fun s Q E st hE => ours_nextOf_tuple_end hh st.1 st.2 (by simp) hE
theorem ours_meets_enumerate_newT (l : Addr) (items : Array Value) (n : Nat) (dct : Option Addr) (sl : Array (Option Value)) :
  Meets (Builtin.«enumerate.__new__» ⟨[.type "enumerate", .ref l], []⟩) (fun _ R s => s.heap.get? l = some { cls := .type "tuple", dict := dct, data := .seq items n, slots := sl } ∧
   R (.ok (.ret (.ref (s.heap.push { cls := .type "tuple_iterator", data := .fields #[.ref l, .int 0 0] }).objs.size)))
    { s with heap := (s.heap.push { cls := .type "tuple_iterator", data := .fields #[.ref l, .int 0 0] }).push { cls := .type "enumerate", data := .fields #[.none, .bool false, .ref s.heap.objs.size, rawInt 0, .none, .none] } }) :=
 .of_wp fun prog w A R s h => by
  obtain ⟨hp, g, d, tk, os⟩ := s; obtain ⟨hl, h⟩ := h
  have hsub := sub_enumerate
  have hL : Heap.IsTuple (Shared.heap ⟨hp, g, d, tk, os⟩) l items := ⟨_, hl, rfl, n, rfl⟩
  wp_walk using wpAny_loadPart' hl
  refine wpAny_stack_any fun st => wpAny_pure ?_
  split
  ·rename_i c _ _ _ _ _
   cases (c == Value.type "enumerate")
   ·wp_walk using wpAny_loadPart' hl, wpAny_pyIter_tuple hL
    exact ⟨_, rfl, h⟩
   ·wp_walk using wpAny_loadPart' hl, wpAny_pyIter_tuple hL
    exact ⟨_, rfl, h⟩
  ·wp_walk using wpAny_loadPart' hl, wpAny_pyIter_tuple hL
   exact ⟨_, rfl, h⟩
section
variable {prog : Program} {w : World} {A : Around} {E : Value → Shared → Prop} {s : Shared}
theorem ours_call_enumerate_tuple {l : Addr} {items : Array Value} {Q : Value → Shared → Prop} (hL : s.heap.IsTuple l items)
  (h : ∀ h', IsEnum h' (s.heap.objs.size + 1) s.heap.objs.size 0 .none → h'.IsTupleIter s.heap.objs.size l 0 → h'.objs.size = s.heap.objs.size + 2 →
   (∀ b o, s.heap.get? b = some o → h'.get? b = some o) → Q (.ref (s.heap.objs.size + 1)) { s with heap := h' }) :
  wpAny (model prog w) A (call (.type "enumerate") [.ref l]) Q E s := by
 obtain ⟨⟨c, dct, dt, sl⟩, hl, hc, n, hd⟩ := hL
 replace hc : c = .type "tuple" := hc
 replace hd : dt = .seq items n := hd
 subst hc hd
 refine callType_new F.called_enumerate (by decide) (F.typeCall_enumerate_1 _) (F.newCall_enumerate_1 _) (fun obj => F.args_object_init_2 obj _) F.entry_enumerate_new
  (ours_meets_enumerate_newT l items n dct sl) ⟨hl, ?_⟩
 have hz : (s.heap.push { cls := .type "tuple_iterator", data := .fields #[.ref l, .int 0 0] }).objs.size = s.heap.objs.size + 1 := Heap.size_push ..
 show _ ∧ _
 rw [hz]
 have he : IsEnum ((s.heap.push { cls := .type "tuple_iterator", data := .fields #[.ref l, .int 0 0] }).push
   { cls := .type "enumerate", data := .fields #[.none, .bool false, .ref s.heap.objs.size, rawInt 0, .none, .none] }) (s.heap.objs.size + 1) s.heap.objs.size 0 .none := by
  have := Heap.get?_push_size (s.heap.push { cls := .type "tuple_iterator", data := .fields #[.ref l, .int 0 0] })
   (o := { cls := .type "enumerate", data := .fields #[.none, .bool false, .ref s.heap.objs.size, rawInt 0, .none, .none] }) rfl
  rw [hz] at this; exact this
 refine ⟨⟨_, he, rfl⟩, h _ he ⟨_, Heap.get?_push_of_some _ (Heap.get?_push_size _ rfl), rfl, rfl⟩ (by rw [Heap.size_push, hz]) fun b o x => Heap.get?_push_of_some _ (Heap.get?_push_of_some _ x)⟩
end
end PySem
namespace L2
open PySem PySem.Spec PyProof.Rows
theorem Inv.turnedL {X : Cx} {pins : List (Addr × Obj)} {σ : St} {H : Hp} {s : Shared} {h' : Heap} {t' : Nat} {fp : List Addr} (I : Inv X pins σ H s) (k : ∀ b o, b ∉ fp → s.heap.get? b = some o → h'.get? b = some o) (hf : ∀ b ∈ fp, FpOk X pins H b) :
  Inv X pins σ H { s with heap := h', toks := t' } := by
 have nit : ∀ b u, H b = some u → b ∉ fp := fun b u e z => by rw [(hf b z).1] at e; cases e
 refine I.step (g' := s.gens) (d' := s.drawn) (ch := fp) (fun b hb => ?_) (fun b o _ _ hc e _ => k b o hc e) (fun b o _ _ hc e _ => ⟨o.slots, k b o hc e⟩) (fun _ _ _ _ n => n)
  (fun b o hc e => ⟨o, k b o hc e⟩) (fun _ _ e => e) (fun _ _ _ e => e) (fun b ps e => ⟨#[], by rw [e]; simp⟩) (fun m hm => ?_) (fun b u e => ?_) I.bare
 ·obtain ⟨_, f1, _, f3, f4, f5⟩ := hf b hb
  exact ⟨f3, f1, f4, f5⟩
 ·obtain ⟨o, es, ep, ho, r⟩ := hm
  exact ⟨o, es, ep, k _ o (fun z => (hf _ z).2.1 rfl) ho, r⟩
 ·refine (I.hok b u e).stay (fun c v hc q => k c v ?_ q) (fun _ q => q) fun _ _ q => q
  rcases hc with z | z
  ·rw [z]; exact nit b u e
  ·exact nit c _ z
theorem Inv.un2 {X : Cx} {pins : List (Addr × Obj)} {σ : St} {H : Hp} {s : Shared} {h' : Heap} {t' : Nat} {fp : List Addr} {xs : List V} (I : Inv X pins σ H s) (k : ∀ b o, b ∉ fp → s.heap.get? b = some o → h'.get? b = some o) (hf : ∀ b ∈ fp, FpOk X pins H b)
  (hfr : H s.heap.objs.size = none) (hno : s.heap.objs.size ∉ fp) (new : ObjOk X.prog X.w (upd H s.heap.objs.size (.tup xs)) h' s.heap.objs.size (.tup xs)) (ht : ∀ b ∈ fp, ∀ o, s.heap.get? b = some o → ∃ o', h'.get? b = some o') :
  Inv X pins σ (upd H s.heap.objs.size (.tup xs)) { s with heap := h', toks := t' } := by
 have nit : ∀ b u, H b = some u → b ∉ fp := fun b u e z => by rw [(hf b z).1] at e; cases e
 have nT : ∀ b o, s.heap.get? b = some o → b ≠ s.heap.objs.size := fun b o e => Nat.ne_of_lt (Heap.lt_size e)
 refine I.step (g' := s.gens) (d' := s.drawn) (ch := fp) (fun b hb => ?_) (fun b o _ _ hc e _ => k b o hc e) (fun b o _ _ hc e _ => ⟨o.slots, k b o hc e⟩) (fun b o _ e n => by rw [upd_ne (nT b o e)]; exact n)
  (fun b o hc e => ⟨o, k b o hc e⟩) (fun b ys e => by rw [upd_ne (ne_of_none e hfr)]; exact e) (fun b o u e => by rw [upd_ne (ne_of_none e hfr)]; exact e) (fun b ps e => ⟨#[], by rw [upd_ne (ne_of_none e hfr), e]; simp⟩) (fun m hm => ?_) (fun b u e => ?_) I.bare
 ·obtain ⟨_, f1, _, f3, f4, f5⟩ := hf b hb
  exact ⟨f3, f1, f4, f5⟩
 ·obtain ⟨o, es, ep, ho, r⟩ := hm
  exact ⟨o, es, ep, k _ o (fun z => (hf _ z).2.1 rfl) ho, r⟩
 ·by_cases hb : b = s.heap.objs.size
  ·subst hb; rw [upd_same] at e; cases e; exact new
  ·rw [upd_ne hb] at e
   refine (I.hok b u e).stay (fun c v hc q => k c v ?_ q) (fun c q => by rw [upd_ne (ne_of_none q hfr)]; exact q) fun c ys q => by rw [upd_ne (ne_of_none q hfr)]; exact q
   rcases hc with z | z
   ·rw [z]; exact nit b u e
   ·exact nit c _ z
noncomputable def Ite (K : PySem.W.Frag) (a : Addr) : It :=
 ⟨fun i H => ∃ xs x, SqT K H a xs ∧ xs[i]? = some x, fun i H v H' => ∃ t, H t = none ∧ v = .ref t ∧ ∀ xs, SqT K H a xs → ∃ x, xs[i]? = some x ∧ H' = upd H t (.tup [.int i, x]), fun i H => ∃ xs, SqT K H a xs ∧ xs.length = i⟩
theorem turn_enumT {P : Program} {w : World} {K : PySem.W.Frag} {elts : List Expr} {x1} {pos : Pos} (a it e : Addr) (hei : e ≠ it) : Turn P w K (.Tuple elts x1 pos) (Ite K a) [e, it] e (fun i h => (∃ old, IsEnum h e it i old) ∧ h.IsTupleIter it a i) where
 mem := by simp
 obj := fun i h st b hb => by
  obtain ⟨⟨old, he⟩, o, ho, c, d⟩ := st
  rcases List.mem_cons.mp hb with z | z
  ·subst z; exact ⟨_, he, fun v z => by cases z⟩
  ·have z : b = it := by simpa using z
   subst z; exact ⟨o, ho, fun v z => by rw [d] at z; cases z⟩
 keep := fun i h h' st k => ⟨let ⟨old, he⟩ := st.1; ⟨old, k e (by simp) _ he⟩, st.2.at fun o q => k it (by simp) o q⟩
 item := by
  intro X hP hw hK hc i pins s σ H E I hf st hg
  subst hP hw hK
  obtain ⟨xs, x, hq, hx⟩ := hg
  obtain ⟨its, rv, p, hz⟩ := I.tuple hq
  obtain ⟨u, hu, ru⟩ := rv.get hx
  obtain ⟨⟨old, he⟩, ht⟩ := st
  have hne : a ≠ it := fun z => by
   obtain ⟨o, ho, c, _⟩ := ht
   obtain ⟨o', ho', c', _⟩ := p
   subst z
   rw [ho] at ho'; cases ho'
   rw [c] at c'
   exact absurd (Value.type.inj c') (by decide)
  have hae : a ≠ e := fun z => by
   obtain ⟨o', ho', c', _⟩ := p
   subst z
   rw [he] at ho'; cases ho'
   exact absurd (Value.type.inj c') (by decide)
  have hlt : i < its.toArray.size := by have := (List.getElem?_eq_some_iff.mp hu).1; simpa using this
  refine wpAny_pyNext_enum_itemD (ours_Draws_tuple (A := X.A.in1) (by exact I.ok.hd hc) it a hne its.toArray) he ⟨ht, p⟩ hlt hei (by simp [hei, Ne.symm hae]) fun v h' tk hPv ho' st' htup hsz hk => ?_
  have ev : v = u := by
   have h1 : its[i]? = some v := by simpa using hPv
   rw [hu] at h1; exact (Option.some.inj h1).symm
  subst ev
  refine ⟨_, rfl, wpAny_letOwnedTupleGo_enum (s := { s with heap := h', toks := tk + 1 }) ho' fun h2 he2 sb => ?_⟩
  have hTe : s.heap.objs.size ≠ e := fun z => by
   have := Heap.lt_size he; rw [← z] at this; exact Nat.lt_irrefl _ this
  have hTi : s.heap.objs.size ≠ it := fun z => by
   obtain ⟨o, ho, _⟩ := ht
   have := Heap.lt_size ho; rw [← z] at this; exact Nat.lt_irrefl _ this
  have hk2 : ∀ b o, b ∉ [e, it] → s.heap.get? b = some o → h2.get? b = some o := fun b o hb q =>
   sb.extBut b o (fun z => hb (by simp [z])) (hk b o (fun z => hb (by simp [z])) (fun z => hb (by simp [z])) q)
  have I1 : Inv X pins σ H { s with heap := h2, toks := tk + 1 } := I.turnedL hk2 hf
  have hfr : H s.heap.objs.size = none := I.hok.fresh (Nat.le_refl _)
  have htup2 : h2.get? s.heap.objs.size = some { cls := .type "tuple", data := .seq #[.int i tk, v] } := sb.extBut _ _ hTe htup
  have I2 : Inv X pins σ (upd H s.heap.objs.size (.tup [.int i, x])) { s with heap := h2, toks := tk + 1 } := by
   refine I.un2 hk2 hf hfr (by simp [hTe, hTi]) ⟨by show 2 ≤ sizeLine; decide, [.int i tk, v], .cons ⟨_, rfl⟩ (.cons ru .nil), TupP.of htup2⟩ (fun b hb o q => ?_)
   rcases List.mem_cons.mp hb with r | r
   ·subst r; exact ⟨_, he2⟩
   ·have r : b = it := by simpa using r
    subst r
    obtain ⟨o', ho', _⟩ := st'.1.extBut sb.extBut (Ne.symm hei)
    exact ⟨o', ho'⟩
  refine ⟨.ref s.heap.objs.size, _, I2, rfl, ⟨s.heap.objs.size, hfr, rfl, fun ys hy => ⟨x, by rw [I.tuple_inj hy hq]; exact hx, rfl⟩⟩, ⟨⟨_, he2⟩, st'.1.extBut sb.extBut (Ne.symm hei)⟩, fun b hb => ?_⟩
  have hbT : b ≠ s.heap.objs.size := fun z => by
   rcases List.mem_cons.mp hb with r | r
   ·exact hTe (z ▸ r)
   ·have r : b = it := by simpa using r
    exact hTi (z ▸ r)
  rw [upd_ne hbT]
  exact (hf b hb).1
 done := by
  intro X hP hw hK hc i pins s σ H E I hf st hg
  subst hP hw hK
  obtain ⟨xs, hq, hx⟩ := hg
  obtain ⟨its, rv, p, hz⟩ := I.tuple hq
  obtain ⟨⟨old, he⟩, ht⟩ := st
  have hl := rv.length
  have hne : a ≠ it := fun z => by
   obtain ⟨o, ho, c, _⟩ := ht
   obtain ⟨o', ho', c', _⟩ := p
   subst z
   rw [ho] at ho'; cases ho'
   rw [c] at c'
   exact absurd (Value.type.inj c') (by decide)
  have ei : (i : Nat) = its.toArray.size := by simp; omega
  subst ei
  obtain ⟨f0, f1, f2, f3, f4, f5⟩ := hf it (by simp)
  exact wpAny_pyNext_enum_endD (ours_Draws_tuple (A := X.A.in1) (by exact I.ok.hd hc) it a hne its.toArray) he ⟨ht, p⟩ fun h' eb => ⟨rfl, I.turned (t' := s.toks) (fun b o hb e => eb b o hb e) f0 f1 f3 f4 f5⟩
 self := fun _ _ _ _ _ st h => let ⟨_, he⟩ := st.1; wpAny_pyIter_enum he h
end L2
namespace L2
open PySem PySem.Spec PyProof.Rows
section
variable {X : Cx} {elts : List Expr} {x1 : Nat} {tpos : Pos}
end
section
variable {X : Cx} {elts : List Expr} {x1 : Nat} {tpos : Pos}
end
section
variable {k : Nat} {cap : List Nat} {g : TG} {tt : TT} {te : TE} {σ : St} {H : Hp} {Q : VK} {l : Addr}
theorem comp_grow (J : It) (n : Nat) (p : Nat → Bool) (f : Nat → V) (Good : St → Prop) (h0 : Good (capSt k cap σ)) (hl : H l = none) (hlen : n < sizeLine)
  (hstop : ∀ H', Same H H' → J.stop n H') (hgo : ∀ i H', i < n → Same H H' → J.go i H')
  (ht : ∀ i v σ H1 H2 ys (N : St → Hp → Prop), i < n → Good σ → Same H H1 → H1 l = some (.lst ys) → ys.length < sizeLine → J.yld i H1 v H2 →
   (∀ σ' H3, Good σ' → But l H1 H3 → H3 l = some (.lst (if p i = true then ys ++ [f i] else ys)) → N σ' H3) → turnOf g tt te l v σ H2 N)
  (hd : ∀ H', Same H H' → H' l = some (.lst (((List.range n).filter p).map f)) → Q (.ref l) H') : GoalW J g tt te l (capSt k cap σ) (upd H l (.lst [])) Q := by
 refine comp_gen J n (fun i σ' H' => Good σ' ∧ Same H H' ∧ H' l = some (.lst ((((List.range n).take i).filter p).map f))) ⟨h0, Same.upd hl, by rw [List.take_zero]; exact upd_same⟩ (fun σ' H' ⟨_, s, _⟩ => hstop H' s) (fun i σ' H' hi ⟨_, s, _⟩ => hgo i H' hi s) (fun i σ' H' x H'' hi ⟨gd, s, e⟩ y => ?_) (fun σ' H' ⟨_, s, e⟩ => ?_)
 ·have hi2 : (List.range n)[i]? = some i := by simp [hi]
  refine ht i x σ' H' H'' _ _ hi gd s e ?_ y fun σ2 H3 g2 b e3 => ⟨g2, fun c o h => b c o (s c o h) (ne_of_none h hl), ?_⟩
  ·rw [List.length_map]
   have a1 := List.length_filter_le p ((List.range n).take i)
   exact Nat.lt_of_le_of_lt (Nat.le_trans a1 (by rw [List.length_take, List.length_range]; omega)) hlen
  ·rw [e3, take_filter hi2, List.map_append]
   by_cases c : p i = true
   ·rw [if_pos c, if_pos c]; rfl
   ·rw [if_neg c, if_neg c, List.map_nil, List.append_nil]
 ·rw [List.take_of_length_le (by simp)] at e
  exact hd H' s e
end
theorem inV_str {n : Str} {row : List Str} : inV (.str n) (row.map V.str) = row.contains n := by
 unfold inV
 induction row with
 | nil => rfl
 | cons x r ih =>
  rw [List.map_cons, List.any_cons, ih, List.contains_cons]
  congr 1
  show (x == n) = (n == x)
  by_cases e : x = n
  ·subst e; simp
  ·rw [beq_eq_false_iff_ne.mpr e, beq_eq_false_iff_ne.mpr (Ne.symm e)]
theorem flat_strs {row : List Str} : (row.map V.str).all flatV = true := by
 induction row with
 | nil => rfl
 | cons x r ih => rw [List.map_cons, List.all_cons, ih]; rfl
end L2
namespace L2
open PySem PySem.Spec PyProof.Rows
section
variable {X : Cx} {k : Nat}
theorem ixL (K : PySem.W.Frag) (h : X.K = K := by rfl) : IxR X (rIxL K) := h ▸ ix_list
theorem ixT (K : PySem.W.Frag) (h : X.K = K := by rfl) : IxR X (rIxT K) := h ▸ ix_tup
theorem slL (K : PySem.W.Frag) (h : X.K = K := by rfl) : SlR X (rSlL K) := h ▸ sl_list
theorem inQ (K : PySem.W.Frag) (h : X.K = K := by rfl) : OpR X (compareOp .In) (rIn K false) := h ▸ op_in_seq
theorem notInQ (K : PySem.W.Frag) (h : X.K = K := by rfl) : OpR X (compareOp .NotIn) (rIn K true) := h ▸ op_notIn_seq
noncomputable def rEqL (K : PySem.W.Frag) : R2 := fun x y H Q => ∃ a b xs ys, x = .ref a ∧ y = .ref b ∧ SqL K H a xs ∧ SqL K H b ys ∧ (xs.length = ys.length → xs.all flatV = true ∧ ys.all flatV = true) ∧ Q (.bl (eqLV xs ys)) H
theorem eqL (K : PySem.W.Frag) (hr : Room k X.A) (h : X.K = K := by rfl) : OpR X (compareOp .Eq) (rEqL K) := h ▸ op_eqL hr
noncomputable def rLenL (K : PySem.W.Frag) : List V → Hp → VK → Prop := fun xs H Q => ∃ p ys, xs = [.ref p] ∧ SqL K H p ys ∧ Q (.int ys.length) H
noncomputable def rLenT (K : PySem.W.Frag) : List V → Hp → VK → Prop := fun xs H Q => ∃ p ys, xs = [.ref p] ∧ SqT K H p ys ∧ Q (.int ys.length) H
theorem lenL (K : PySem.W.Frag) (h : X.K = K := by rfl) : CallR X (.builtin "len") (rLenL K) := h ▸ call_lenL
theorem lenT (K : PySem.W.Frag) (h : X.K = K := by rfl) : CallR X (.builtin "len") (rLenT K) := h ▸ call_lenT
noncomputable def rAll (K : PySem.W.Frag) : List V → Hp → VK → Prop := fun xs H Q => ∃ p bs, xs = [.ref p] ∧ SqL K H p (isBl bs) ∧ Q (.bl (bs.all id)) H
noncomputable def rAny (K : PySem.W.Frag) : List V → Hp → VK → Prop := fun xs H Q => ∃ p bs, xs = [.ref p] ∧ SqL K H p (isBl bs) ∧ Q (.bl (bs.any id)) H
theorem allL (K : PySem.W.Frag) (hc : X.calm = true) (h : X.K = K := by rfl) : CallR X (.builtin "all") (rAll K) := h ▸ call_all hc
noncomputable def rMaxL (K : PySem.W.Frag) : List V → Hp → VK → Prop := fun xs H Q => ∃ (p : Addr) (ns : List Int), xs = [.ref p] ∧ SqL K H p (ns.map V.int) ∧ 0 < ns.length ∧ ∀ M, M ∈ ns → (∀ a, a ∈ ns → a ≤ M) → Q (.int M) H
noncomputable def rIsi (K : PySem.W.Frag) : List V → Hp → VK → Prop := fun xs H Q => ∃ x T t b, xs = [x, .ty T] ∧ TyOf K H x t ∧ PySem.W.kitOne K t (.type T) = some b ∧ Q (.bl b) H
theorem isiK (K : PySem.W.Frag) (h : X.K = K := by rfl) : CallR X (.builtin "isinstance") (rIsi K) := h ▸ call_isi
noncomputable def rTupL (K : PySem.W.Frag) : List V → Hp → VK → Prop := fun xs H Q => ∃ p ys, xs = [.ref p] ∧ SqL K H p ys ∧ ∀ l, H l = none → Q (.ref l) (upd H l (.tup ys))
theorem tupL (K : PySem.W.Frag) (h : X.K = K := by rfl) : CallR X (.type "tuple") (rTupL K) := by
 subst h
 intro pins s σ H xs us Q I r ⟨p, ys, e, hq, q⟩
 exact call_tuple_of pins s σ H xs us Q I r ⟨p, ys, e, .inl ⟨hq, q⟩⟩
noncomputable def rListL (K : PySem.W.Frag) : List V → Hp → VK → Prop := fun xs H Q => ∃ p ys, xs = [.ref p] ∧ (SqL K H p ys ∨ SqT K H p ys) ∧ ∀ l, H l = none → Q (.ref l) (upd H l (.lst ys))
theorem joinK (K : PySem.W.Frag) (h : X.K = K := by rfl) : MtR X "str.join" (rJoin K) := h ▸ mt_join
theorem pg_tupK (K : PySem.W.Frag) {es : List Expr} {j : Nat} {t : TGs} {n : Nat} {pos : Pos} (hc : X.calm = true) (h : PGs X es t) (hK : X.K = K := by rfl)
  (hn : (assignEach es X.env).length = n := by rfl) (hst : (assignEach es X.env).findIdx? (·.1) = none := by rfl) : PG X (.Tuple es j pos) (gTup K n t) := hK ▸ pg_tup hc h hn hst
theorem pi_lst (K : PySem.W.Frag) {tg l : Expr} {tl : TE} (hl : PE X l tl) (h : X.K = K := by rfl) : PI X tg l (iList K tl) := h ▸ pi_list hl
theorem pi_tpl (K : PySem.W.Frag) {tg l : Expr} {tl : TE} (hl : PE X l tl) (h : X.K = K := by rfl) : PI X tg l (iTup K tl) := h ▸ pi_tup hl
theorem pe_bmK (K : PySem.W.Frag) {o e : Expr} {es : List Expr} {to : TE} {t : TA} {name : Str} {apos cpos : Pos} {T id : String} {r : V → List V → Hp → VK → Prop} (pa : PlainAttrs T) (slot : Slot T name id) (hty : typeOf (.builtin id) = pure (.type "method_descriptor")) (hm : MtR X id r) (ho : PE X o to) (ha : PA X (e :: es) t) (hK : X.K = K := by rfl)
  (hbase : attributeBase o name X.env (eval o X.env) = eval o X.env := by rfl)
  (hfew : ((backTo cpos (starEach (e :: es) X.env)).all (fun x => !x.1) && (backToKw cpos (keywordEach [] X.env)).all (fun x => x.1.isSome)
   && decide ((e :: es).length + ([] : List Keyword).length + (if ([] : List Keyword).isEmpty then 0 else 1) < 30)) = true := by rfl)
  (hline : (apos.endLine == cpos.line) = true := by rfl) (hs : starEach (e :: es) X.env = (false, eval e X.env) :: starEach es X.env := by rfl) (hplain : (backTo cpos (starEach es X.env)).any (·.1) = false := by rfl) :
  PE X (.Call (.Attribute o name apos) (e :: es) [] cpos) (tBM K T r to t) := hK ▸ pe_bm pa slot hty hm ho ha hbase hfew hline hs hplain
end
end L2
namespace L2
open PySem PySem.Spec PyProof.Rows
section
variable {X : Cx}
noncomputable def rLower : V → List V → Hp → VK → Prop := fun x vs H Q => ∃ z, x = .str z ∧ vs = [] ∧ z.length ≤ 5592405 ∧ Q (.str (Txt.lower z)) H
noncomputable def rIndexS : V → List V → Hp → VK → Prop := fun x vs H Q => ∃ z y i rest, x = .str z ∧ vs = [.str y] ∧ Builtin.Str.occurrences z y 0 z.length 1 = i :: rest ∧ Q (.int i) H
theorem vals_strs : ∀ (l : List (Str × Tok)), Vals ((l.map (·.1)).map V.str) (strValues l)
 | [] => .nil
 | (x, t) :: l => .cons ⟨t, rfl⟩ (vals_strs l)
noncomputable def rSplit : V → List V → Hp → VK → Prop := fun x vs H Q => ∃ z y, x = .str z ∧ vs = [.str y] ∧ (y.length == 0) = false ∧ z.length ≤ 1000000 ∧ (Txt.split z y).length ≤ 16777216 ∧ (Builtin.Str.partsBetween z (Builtin.Str.occurrences z y 0 z.length (z.length + 1)) y.length).length ≤ sizeLine ∧
 ∀ l, H l = none → Q (.ref l) (upd H l (.lst ((Txt.split z y).map V.str)))
theorem mt_split : MtR X "str.split" rSplit := by
 intro pins s σ H xv vs v us Q I rx rv h
 obtain ⟨x, y, rfl, rfl, hy, hsz, hsp, hsz2, q⟩ := h
 obtain ⟨t, rfl⟩ := rx
 obtain ⟨w', rfl, u, rfl⟩ := vals1 rv
 have hq : ∀ (l : List (Str × Tok)) (tk : Nat), l.map (·.1) = Txt.split x y → EP X pins σ Q (.ref s.heap.objs.size) { s with heap := s.heap.push { cls := .type "list", data := .seq (strValues l).toArray }, toks := tk } := fun l tk e =>
  ⟨.ref s.heap.objs.size, _, I.lnew (ys := (Txt.split x y).map V.str) (by rw [← e]; exact vals_strs l) (szl (by rw [List.length_map]; exact hsp)), rfl, q _ (I.hok.fresh (Nat.le_refl _))⟩
 cases h1 : (decide (x.length < y.length) || decide (Builtin.Str.strKind x < Builtin.Str.strKind y))
 ·cases hf : (Builtin.Str.occurrences x y 0 x.length (x.length + 1)).isEmpty
  ·refine call_meets F.slot_str_split (typeIs_str _ _ _) F.entry_str_split (F.args_str_split_2 _ _) (meets_str_split_sep x y t u h1 hy hf (szl (by omega)) hsz2) ?_
   show wants _ _ _ { s with toks := _, heap := s.heap.push { cls := .type "list", data := .seq (strsFrom s.toks (Builtin.Str.partsBetween x (Builtin.Str.occurrences x y 0 x.length (x.length + 1)) y.length)).toArray } }
   rw [strsFrom_eq]
   exact hq (numbered s.toks _) _ ((numbered_texts _ _).trans ((if_neg (ne_true_of_eq_false h1)).trans (if_neg (ne_true_of_eq_false hf))).symm)
  ·exact call_meets F.slot_str_split (typeIs_str _ _ _) F.entry_str_split (F.args_str_split_2 _ _) (meets_str_split_not_found x y t u h1 hy hf)
    (hq [(x, t)] s.toks ((if_neg (ne_true_of_eq_false h1)).trans (if_pos hf)).symm)
 ·exact call_meets F.slot_str_split (typeIs_str _ _ _) F.entry_str_split (F.args_str_split_2 _ _) (meets_str_split_cannot_occur x y t u h1)
   (hq [(x, t)] s.toks (if_pos h1).symm)
end
end L2
namespace PM
open PySem PyProof.Rows
noncomputable def walk (sm : Nat → Nat) : List Nat → List Nat → Bool → List Nat
 | [], f, _ => f
 | c :: r, f, w => if c = 32 then walk sm r f (!f.isEmpty) else walk sm r (f ++ (if w = true then [32] else []) ++ [sm c]) false
noncomputable def step (f p : List Nat) : List Nat := if p = [] then f else f ++ (if (!f.isEmpty) = true then [32] else []) ++ p
noncomputable abbrev SP : Str := Str.ofString " "
noncomputable def W (x : Str) : Str := ⟨(walk lo1 x.cps.toList [] false).toArray⟩
theorem ext_codes {a b : Str} (h : a.cps.toList = b.cps.toList) : a = b := Str.ext' (by cases a; cases b; simp at h; exact h)
end PM
namespace L2
open PySem PySem.Spec PyProof.Rows
inductive Kd where
 | non | bl | int | str | lst | tup | dct
 deriving DecidableEq
noncomputable def Kd.nm : Kd → String
 | .non => "NoneType" | .bl => "bool" | .int => "int" | .str => "str" | .lst => "list" | .tup => "tuple" | .dct => "dict"
noncomputable def IsK (H : Hp) (v : V) : Kd → Prop
 | .non => v = .non
 | .bl => ∃ b, v = .bl b
 | .int => ∃ i, v = .int i
 | .str => ∃ x, v = .str x
 | .lst => ∃ a xs, v = .ref a ∧ H a = some (.lst xs)
 | .tup => ∃ a xs, v = .ref a ∧ H a = some (.tup xs)
 | .dct => ∃ a kvs ep, v = .ref a ∧ H a = some (.dK kvs ep)
theorem IsK.ty {K : PySem.W.Frag} {H : Hp} {v : V} {k : Kd} (h : IsK H v k) : TyOf K H v (.type k.nm) := by
 cases k with
 | non => cases (show v = .non from h); exact .non
 | bl => obtain ⟨b, rfl⟩ := h; exact .bl b
 | int => obtain ⟨b, rfl⟩ := h; exact .int b
 | str => obtain ⟨b, rfl⟩ := h; exact .str b
 | lst => obtain ⟨a, xs, rfl, e⟩ := h; exact .lst e
 | tup => obtain ⟨a, xs, rfl, e⟩ := h; exact .tup e
 | dct => obtain ⟨a, xs, ep, rfl, e⟩ := h; exact .dK e
theorem kd_str {K : PySem.W.Frag} (k : Kd) : PySem.W.kitOne K (.type k.nm) (.type "str") = some (decide (k = .str)) := by cases k <;> kernel_rfl
theorem kd_tup {K : PySem.W.Frag} (k : Kd) : PySem.W.kitOne K (.type k.nm) (.type "tuple") = some (decide (k = .tup)) := by cases k <;> kernel_rfl
theorem kd_int {K : PySem.W.Frag} (k : Kd) : PySem.W.kitOne K (.type k.nm) (.type "int") = some (decide (k = .int) || decide (k = .bl)) := by cases k <;> kernel_rfl
theorem kd_bool {K : PySem.W.Frag} (k : Kd) : PySem.W.kitOne K (.type k.nm) (.type "bool") = some (decide (k = .bl)) := by cases k <;> kernel_rfl
theorem IsK.same {H H' : Hp} {v : V} {k : Kd} (h : IsK H v k) (s : Same H H') : IsK H' v k := by
 cases k with
 | non => exact h
 | bl => exact h
 | int => exact h
 | str => exact h
 | lst => obtain ⟨a, xs, rfl, e⟩ := h; exact ⟨a, xs, rfl, s _ _ e⟩
 | tup => obtain ⟨a, xs, rfl, e⟩ := h; exact ⟨a, xs, rfl, s _ _ e⟩
 | dct => obtain ⟨a, xs, ep, rfl, e⟩ := h; exact ⟨a, xs, ep, rfl, s _ _ e⟩
theorem IsK.not_str {H : Hp} {v : V} {k : Kd} (h : IsK H v k) (n : k ≠ .str) : ∀ x, v ≠ .str x := by
 intro x e
 subst e
 cases k with
 | non => cases h
 | bl => obtain ⟨_, z⟩ := h; cases z
 | int => obtain ⟨_, z⟩ := h; cases z
 | str => exact n rfl
 | lst => obtain ⟨_, _, z, _⟩ := h; cases z
 | tup => obtain ⟨_, _, z, _⟩ := h; cases z
 | dct => obtain ⟨_, _, _, z, _⟩ := h; cases z
section
variable {X : Cx}
theorem op_le_str : OpR X (compareOp .LtE) (fun x y H Q => ∃ i j, x = .str i ∧ y = .str j ∧ Q (.bl (!decide (j.cps.toList < i.cps.toList))) H) := by
 intro pins s σ H x y v u Q I rx ry h
 obtain ⟨i, j, rfl, rfl, q⟩ := h
 obtain ⟨t, rfl⟩ := rx
 obtain ⟨t', rfl⟩ := ry
 exact PySem.P.le_str (fin_bl I q rfl)
end
theorem range_getD {xs : List V} {f : V → V} : ((List.range xs.length).filter fun _ => true).map (fun i => f ((xs[i]?).getD .non)) = xs.map f := by
 rw [List.filter_eq_self.mpr (fun _ _ => rfl)]
 induction xs with
 | nil => rfl
 | cons x xs ih =>
  rw [List.length_cons, List.range_succ_eq_map, List.map_cons, List.map_map, List.map_cons, ← ih]
  rfl
section
variable {k : Nat} {cap : List Nat} {g : TG} {tt : TT} {te : TE} {σ : St} {H : Hp} {Q : VK} {l : Addr}
theorem comp_tupG {K : PySem.W.Frag} {a : Addr} {xs : List V} (hS : SqT K H a xs) (f : V → V) (Good : St → Prop) (h0 : Good (capSt k cap σ)) (hl : H l = none) (hlen : xs.length < sizeLine)
  (ht : ∀ (i : Nat) x σ H1 ys (N : St → Hp → Prop), xs[i]? = some x → Good σ → Same H H1 → H1 l = some (.lst ys) → ys.length < sizeLine →
   (∀ σ' H3, Good σ' → But l H1 H3 → H3 l = some (.lst (ys ++ [f x])) → N σ' H3) → turnOf g tt te l x σ H1 N)
  (hd : ∀ H', Same H H' → H' l = some (.lst (xs.map f)) → Q (.ref l) H') : GoalW (Itt K a) g tt te l (capSt k cap σ) (upd H l (.lst [])) Q := by
 refine comp_grow (Itt K a) xs.length (fun _ => true) (fun i => f ((xs[i]?).getD .non)) Good h0 hl hlen (fun H' s => ⟨xs, hS.same s, Nat.le_refl _⟩) (fun i H' hi s => ⟨xs, xs[i], hS.same s, by simp [hi]⟩) (fun i v σ H1 H2 ys N hi gd s e hz y hN => ?_) (fun H' s e => hd H' s (by rw [e, range_getD]))
 obtain ⟨e1, hx⟩ := y
 subst e1
 have hx := hx xs (hS.same s)
 refine ht i v σ _ ys N hx gd s e hz fun σ' H3 g3 b e3 => hN σ' H3 g3 b ?_
 rw [e3, if_pos rfl, hx]; rfl
end
end L2
namespace HT
open PySem PySem.Spec PyProof.Rows
section
variable {prog : Program} {w : World} {A : Around} {E : Value → Shared → Prop} {s : Shared}
end
end HT
namespace L2
open PySem PySem.Spec PyProof.Rows
section
variable {X : Cx}
noncomputable def rSlW : V → Option Int → Option Int → Hp → VK → Prop := fun x lo hi H Q => ∃ a xs, x = .ref a ∧ H a = some (.tup xs) ∧ ∀ p H', Same H H' → H' p = some (.tup (cutV xs lo hi)) → Q (.ref p) H'
noncomputable def rCatW : R2 := fun x y H Q => ∃ a b xs ys, x = .ref a ∧ y = .ref b ∧ H a = some (.tup xs) ∧ H b = some (.tup ys) ∧ xs.length + ys.length ≤ sizeLine ∧ ∀ p H', Same H H' → H' p = some (.tup (xs ++ ys)) → Q (.ref p) H'
noncomputable def CDivB (i j : Int) : Prop := 0 < j ∧ j < 2 ^ 200
theorem op_fdivB : OpR X (binaryOp .FloorDiv) (rI CDivB fun i j => .int (i / j)) := opI fun i j _ _ _ _ _ hc q => by
 have h1 : (0 : Int) < j := hc.1
 have h2 : j < 2 ^ 200 := hc.2
 refine floordiv_int (by omega) (by rw [Int.fdiv_eq_ediv_of_nonneg i (by omega)]; exact q) (.inl (PyProof.noPylong_of_log2 ?_))
 have h3 : j.natAbs < 2 ^ 200 := by omega
 have h4 : j.natAbs.log2 < 200 := (Nat.log2_lt (by omega)).mpr h3
 omega
noncomputable def rMulS : R2 := fun x y H Q => ∃ z n, x = .str z ∧ y = .int n ∧ 0 ≤ n ∧ n ≤ 1000000 ∧ z.length = 1 ∧ ∀ w : Str, (w.length : Int) = n → (∀ c ∈ w.cps.toList, c ∈ z.cps.toList) → Q (.str w) H
noncomputable def rJoinT (K : PySem.W.Frag) : V → List V → Hp → VK → Prop := fun x vs H Q => ∃ z p ys, x = .str z ∧ vs = [.ref p] ∧ SqT K H p (ys.map V.str) ∧ (ys.map (·.length)).sum + ys.length * z.length ≤ 16777216 ∧ Q (.str (Txt.join z ys)) H
theorem joinT (K : PySem.W.Frag) (hK : X.K = K := by rfl) : MtR X "str.join" (rJoinT K) := by
 subst hK
 intro pins s σ H x vs v us Q I rx rv h
 obtain ⟨z, p, ys, rfl, rfl, hq, hz, q⟩ := h
 obtain ⟨t, rfl⟩ := rx
 obtain ⟨u, rfl, rp⟩ := vals1 rv
 cases rp
 obtain ⟨its, r, pl, _⟩ := I.tuple hq
 exact join_tuple pl (by simpa using strs_of r) hz fun t' k => ⟨.str (Txt.join z ys), H, I.tok k, ⟨t', rfl⟩, q⟩
end
section
variable {k : Nat} {cap : List Nat} {g : TG} {tt : TT} {te : TE} {σ : St} {H : Hp} {Q : VK} {l : Addr}
end
end L2
namespace L2
open PySem PySem.Spec PyProof.Rows
section
variable {κ : Type} [DecidableEq κ]
noncomputable def valV (kvs : List (κ × V)) (k : κ) : Option V := (kvs.find? fun kv => decide (kv.1 = k)).map (·.2)
noncomputable def putK (kvs : List (κ × V)) (k : κ) (v : V) : List (κ × V) :=
 if (kvs.any fun kv => decide (kv.1 = k)) = true then kvs.map (fun kv => if kv.1 = k then (kv.1, v) else kv) else kvs ++ [(k, v)]
noncomputable def dropK (kvs : List (κ × V)) (k : κ) : List (κ × V) := kvs.filter fun kv => decide (kv.1 ≠ k)
theorem valV_pos {p : κ × V} {r : List (κ × V)} {k : κ} (e : p.1 = k) : valV (p :: r) k = some p.2 := by simp [valV, List.find?_cons, e]
theorem valV_neg {p : κ × V} {r : List (κ × V)} {k : κ} (e : ¬ p.1 = k) : valV (p :: r) k = valV r k := by simp [valV, List.find?_cons, e]
theorem valV_any (k : κ) : ∀ kvs : List (κ × V), (kvs.any fun kv => decide (kv.1 = k)) = (valV kvs k).isSome
 | [] => rfl
 | p :: r => by
  rw [List.any_cons]
  by_cases e : p.1 = k
  ·simp only [valV_pos e, decide_eq_true e, Bool.true_or, Option.isSome_some]
  ·rw [valV_neg e, decide_eq_false e, Bool.false_or]; exact valV_any k r
theorem RelO.isSome_eq {o : Option V} {u : Option Value} (r : RelO o u) : o.isSome = u.isSome := by
 cases o with
 | none => cases u with
  | none => rfl
  | some _ => exact (show False from r).elim
 | some _ => cases u with
  | none => exact (show False from r).elim
  | some _ => rfl
theorem RelO.getD {o : Option V} {u : Option Value} {d : V} {d' : Value} (r : RelO o u) (rd : RelV d d') : RelV (o.getD d) (u.getD d') := by
 cases o with
 | none => cases u with
  | none => exact rd
  | some _ => exact (show False from r).elim
 | some _ => cases u with
  | none => exact (show False from r).elim
  | some _ => exact r
theorem KV.val {kvs : List (κ × V)} {vs : List (κ × Value)} (r : KV kvs vs) (k : κ) : RelO (valV kvs k) (valueAt vs k) := by
 unfold KV at r
 induction r with
 | nil => exact True.intro
 | @cons p q ps qs h t ih =>
  obtain ⟨h1, h2⟩ := h
  by_cases e : p.1 = k
  ·have e' : q.1 = k := h1.symm.trans e
   have b : valueAt (q :: qs) k = some q.2 := by simp [valueAt, List.find?_cons, e']
   rw [valV_pos e, b]; exact h2
  ·have e' : ¬ q.1 = k := fun z => e (h1.trans z)
   have b : valueAt (q :: qs) k = valueAt qs k := by simp [valueAt, List.find?_cons, e']
   rw [valV_neg e, b]; exact ih
theorem KV.any {kvs : List (κ × V)} {vs : List (κ × Value)} (r : KV kvs vs) (k : κ) : (kvs.any fun kv => decide (kv.1 = k)) = vs.any fun kv => decide (kv.1 = k) := by
 unfold KV at r
 induction r with
 | nil => rfl
 | cons h t ih => rw [List.any_cons, List.any_cons, ih, h.1]
theorem KV.repl {kvs : List (κ × V)} {vs : List (κ × Value)} (r : KV kvs vs) (k : κ) {y : V} {u : Value} (ry : RelV y u) :
  KV (kvs.map fun kv => if kv.1 = k then (kv.1, y) else kv) (vs.map fun kv => if kv.1 = k then (kv.1, u) else kv) := by
 unfold KV at r ⊢
 induction r with
 | nil => exact .nil
 | @cons p q ps qs h t ih =>
  rw [List.map_cons, List.map_cons]
  refine .cons ?_ ih
  obtain ⟨h1, h2⟩ := h
  by_cases e : p.1 = k
  ·rw [if_pos e, if_pos (h1.symm.trans e)]; exact ⟨h1, ry⟩
  ·rw [if_neg e, if_neg (fun z => e (h1.trans z))]; exact ⟨h1, h2⟩
theorem KV.put {kvs : List (κ × V)} {vs : List (κ × Value)} (r : KV kvs vs) (k : κ) {y : V} {u : Value} (ry : RelV y u) : KV (putK kvs k y) (stored vs k u) := by
 unfold putK stored
 rw [r.any k]
 by_cases e : (vs.any fun kv => decide (kv.1 = k)) = true
 ·rw [if_pos e, if_pos e]; exact r.repl k ry
 ·rw [if_neg e, if_neg e]; exact Paired.snoc r ⟨rfl, ry⟩
theorem KV.drop {kvs : List (κ × V)} {vs : List (κ × Value)} (r : KV kvs vs) (k : κ) : KV (dropK kvs k) (without vs k) := by
 unfold KV at r ⊢
 unfold dropK without
 induction r with
 | nil => exact .nil
 | @cons p q ps qs h t ih =>
  obtain ⟨h1, h2⟩ := h
  rw [List.filter_cons, List.filter_cons]
  by_cases e : p.1 = k
  ·have a : ¬ decide (p.1 ≠ k) = true := by simp [e]
   have b : ¬ decide (q.1 ≠ k) = true := by simp [h1.symm.trans e]
   rw [if_neg a, if_neg b]; exact ih
  ·have e' : ¬ q.1 = k := fun z => e (h1.trans z)
   have a : decide (p.1 ≠ k) = true := by simp [e]
   have b : decide (q.1 ≠ k) = true := by simp [e']
   rw [if_pos a, if_pos b]; exact .cons ⟨h1, h2⟩ ih
theorem KV.keys {kvs : List (κ × V)} {vs : List (κ × Value)} (r : KV kvs vs) : kvs.map (·.1) = vs.map (·.1) := by
 unfold KV at r
 induction r with
 | nil => rfl
 | cons h t ih => rw [List.map_cons, List.map_cons, ih, h.1]
theorem KV.length {kvs : List (κ × V)} {vs : List (κ × Value)} (r : KV kvs vs) : kvs.length = vs.length := Paired.length r
end
theorem kV_is {P : Program} {w : World} {k : Key} {u : Value} (r : RelV (kV k) u) : (mixKind P w).is k u = true := by
 cases k with
 | inl i => obtain ⟨t, e⟩ := (show ∃ t, u = Value.int i t from r); subst e; exact mixKind_int P w i t
 | inr x => obtain ⟨t, e⟩ := (show ∃ t, u = Value.str x t from r); subst e; exact mixKind_str P w x t
noncomputable abbrev KT (H : Hp) : List (List Key × V) → List (List Key × Addr × Value) → Prop := Paired fun p q => p.1 = q.1 ∧ H q.2.1 = some (.tup (p.1.map kV)) ∧ RelV p.2 q.2.2
theorem KT.val {H : Hp} {kvs : List (List Key × V)} {xs : List (List Key × Addr × Value)} (r : KT H kvs xs) (k : List Key) : RelO (valV kvs k) ((atKey xs k).map (·.2)) := by
 induction r with
 | nil => exact True.intro
 | @cons p q ps qs h t ih =>
  obtain ⟨h1, _, h2⟩ := h
  by_cases e : p.1 = k
  ·have e' : q.1 = k := h1.symm.trans e
   have b : atKey (q :: qs) k = some q.2 := by simp [atKey, List.find?_cons, e']
   rw [valV_pos e, b]; exact h2
  ·have e' : ¬ q.1 = k := fun z => e (h1.trans z)
   have b : atKey (q :: qs) k = atKey qs k := by simp [atKey, List.find?_cons, e']
   rw [valV_neg e, b]; exact ih
theorem KT.repl {H : Hp} {kvs : List (List Key × V)} {xs : List (List Key × Addr × Value)} (r : KT H kvs xs) (k : List Key) {y : V} {u : Value} (ry : RelV y u) :
  KT H (kvs.map fun kv => if kv.1 = k then (kv.1, y) else kv) (xs.map (putAt k u)) := by
 induction r with
 | nil => exact .nil
 | @cons p q ps qs h t ih =>
  rw [List.map_cons, List.map_cons]
  refine .cons ?_ ih
  obtain ⟨h1, h2, h3⟩ := h
  unfold putAt
  by_cases e : p.1 = k
  ·rw [if_pos e, if_pos (h1.symm.trans e)]; exact ⟨h1, h2, ry⟩
  ·rw [if_neg e, if_neg (fun z => e (h1.trans z))]; exact ⟨h1, h2, h3⟩
theorem KT.put {H : Hp} {kvs : List (List Key × V)} {xs : List (List Key × Addr × Value)} (r : KT H kvs xs) (k : List Key) {b : Addr} {y : V} {u : Value} (hb : H b = some (.tup (k.map kV))) (ry : RelV y u) :
  KT H (putK kvs k y) (storedH xs k b u) := by
 have e : (kvs.any fun kv => decide (kv.1 = k)) = (atKey xs k).isSome := by
  rw [valV_any, (r.val k).isSome_eq, Option.isSome_map]
 unfold putK storedH
 rw [e]
 by_cases q : (atKey xs k).isSome = true
 ·rw [if_pos q, if_pos q]; exact r.repl k ry
 ·rw [if_neg q, if_neg q]; exact Paired.snoc r ⟨rfl, hb, ry⟩
theorem KT.keeps {H H' : Hp} {kvs : List (List Key × V)} {xs : List (List Key × Addr × Value)} (r : KT H kvs xs) (ht : ∀ b ys, H b = some (.tup ys) → H' b = some (.tup ys)) : KT H' kvs xs :=
 Paired.mapP r fun _ _ z => ⟨z.1, ht _ _ z.2.1, z.2.2⟩
noncomputable def RdK (H : Hp) (a : Addr) (kvs : List (Key × V)) : Prop := ∃ ep, Rd H a (.dK kvs ep)
noncomputable def IsDK (H : Hp) (a : Addr) (kvs : List (Key × V)) : Prop := ∃ ep, H a = some (.dK kvs ep)
theorem IsDK.rd {H : Hp} {a : Addr} {kvs : List (Key × V)} (h : IsDK H a kvs) : RdK H a kvs := let ⟨ep, e⟩ := h; ⟨ep, .inl e⟩
section
variable {P : Program} {w : World} {H : Hp} {h : Heap} {a : Addr}
end
noncomputable def DGet (H : Hp) (a : Addr) (y : V) (r : Option V) : Prop :=
 (∃ kvs k, RdK H a kvs ∧ y = kV k ∧ r = valV kvs k) ∨ ∃ kvs k b, Rd H a (.dT kvs) ∧ y = .ref b ∧ H b = some (.tup (k.map kV)) ∧ r = valV kvs k
theorem DGet.k {H : Hp} {a : Addr} {kvs : List (Key × V)} {k : Key} (e : IsDK H a kvs) : DGet H a (kV k) (valV kvs k) := .inl ⟨kvs, k, e.rd, rfl, rfl⟩
theorem DGet.t {H : Hp} {a b : Addr} {kvs : List (List Key × V)} {k : List Key} (e : H a = some (.dT kvs)) (eb : H b = some (.tup (k.map kV))) : DGet H a (.ref b) (valV kvs k) := .inr ⟨kvs, k, b, .inl e, rfl, eb, rfl⟩
section
variable {X : Cx} {pins : List (Addr × Obj)} {σ : St} {H : Hp} {s : Shared} {a : Addr} {y v : V} {u r : Value} {o : Option V} {A : Around} {E : Value → Shared → Prop}
end
section
variable {X : Cx} {pins : List (Addr × Obj)} {σ : St} {H : Hp} {s : Shared} {a : Addr} {kvs : List (Key × V)} {k : Key} {u : Value} {A : Around} {E : Value → Shared → Prop}
end
section
variable {X : Cx} {o i e value : Expr} {pos pos' tpos : Pos} {td ty tv : TE}
end
noncomputable def tDNewK : TE := fun _ H Q => ∀ p, H p = none → Q (.ref p) (upd H p (.dK [] 0))
section
variable {X : Cx} {pos : Pos}
end
noncomputable def tPairs : List (TE × TE) → St → Hp → (List (V × V) → Hp → Prop) → Prop
 | [], _, H, Q => Q [] H
 | (tk, tv) :: r, σ, H, Q => tk σ H fun x H1 => tv σ H1 fun y H2 => tPairs r σ H2 fun ps H3 => Q ((x, y) :: ps) H3
noncomputable def mergeK (kvs more : List (Key × V)) : List (Key × V) := more.foldl (fun acc kv => putK acc kv.1 kv.2) kvs
noncomputable def tDisp (trs : List (TE × TE)) : TE := fun σ H Q => ∀ p, H p = none → tPairs trs σ (upd H p (.dK [] 0)) fun ps H2 => H2 p = some (.dK [] 0) ∧ ∃ kvs : List (Key × V), ps = kvs.map (fun kv => (kV kv.1, kv.2)) ∧ kvs.length ≤ 15 ∧ ∀ ep, Q (.ref p) (upd H2 p (.dK (mergeK [] kvs) ep))
structure M1 (X : Cx) (o : Expr) (m : Str) (apos : Pos) (e : Expr) (cpos : Pos) : Prop where
 base : attributeBase o m X.env (eval o X.env) = eval o X.env
 few : ((backTo cpos (starEach [e] X.env)).all (fun x => !x.1) && (backToKw cpos (keywordEach [] X.env)).all (fun x => x.1.isSome)
  && decide (([e] : List Expr).length + ([] : List Keyword).length + (if ([] : List Keyword).isEmpty then 0 else 1) < 30)) = true
 line : (apos.endLine == cpos.line) = true
 trees : backTo cpos (starEach [e] X.env) = [(false, eval e X.env)]
structure M2 (X : Cx) (o : Expr) (m : Str) (apos : Pos) (e f : Expr) (cpos : Pos) : Prop where
 base : attributeBase o m X.env (eval o X.env) = eval o X.env
 few : ((backTo cpos (starEach [e, f] X.env)).all (fun x => !x.1) && (backToKw cpos (keywordEach [] X.env)).all (fun x => x.1.isSome)
  && decide (([e, f] : List Expr).length + ([] : List Keyword).length + (if ([] : List Keyword).isEmpty then 0 else 1) < 30)) = true
 line : (apos.endLine == cpos.line) = true
 trees : backTo cpos (starEach [e, f] X.env) = [(false, eval e X.env), (false, eval f X.env)]
section
variable {X : Cx} {pins : List (Addr × Obj)} {σ : St} {H : Hp} {s : Shared} {a : Addr} {y d : V} {u r : Value} {o : Option V} {A : Around} {E : Value → Shared → Prop}
end
section
variable {X : Cx} {o e f : Expr} {apos cpos : Pos} {td ty tx : TE}
end
section
variable {X : Cx} {pins : List (Addr × Obj)} {σ : St} {H : Hp} {s : Shared} {a : Addr} {kvs : List (Key × V)} {A : Around} {E : Value → Shared → Prop}
end
section
variable {X : Cx} {pins : List (Addr × Obj)} {σ : St} {H : Hp} {s : Shared} {a : Addr} {y : V} {u : Value} {A : Around} {E : Value → Shared → Prop}
end
end L2
namespace HT
open PySem PySem.Spec PyProof.Rows
end HT
namespace L2
open PySem PySem.Spec PyProof.Rows
section
variable {X : Cx}
noncomputable def rRep1 : R2 := fun x y H Q => ∃ a v n, x = .ref a ∧ y = .int n ∧ H a = some (.tup [v]) ∧ 1 ≤ n ∧ n ≤ 1000 ∧ ∀ p H', Same H H' → H' p = some (.tup (List.replicate n.toNat v)) → Q (.ref p) H'
end
end L2
namespace L2
open PySem PySem.Spec PyProof.Rows
section
variable {k : Nat} {cap : List Nat} {g : TG} {tt : TT} {te : TE} {σ : St} {H : Hp} {Q : VK} {l : Addr}
end
noncomputable def Kp (H H' : Hp) : Prop := ∀ a o, H a = some o → H' a = some o ∨ ∃ xs ys, o = .lst xs ∧ H' a = some (.lst ys)
theorem Kp.of {H H' : Hp} (s : Same H H') : Kp H H' := fun a o h => .inl (s a o h)
theorem Kp.trans {H H1 H2 : Hp} (a : Kp H H1) (b : Kp H1 H2) : Kp H H2 := fun c o h => by
 rcases a c o h with r | ⟨xs, ys, rfl, r⟩
 ·exact b c o r
 ·rcases b c _ r with q | ⟨us, ws, e, q⟩
  ·exact .inr ⟨xs, ys, rfl, q⟩
  ·exact .inr ⟨xs, ws, rfl, q⟩
theorem Kp.but {H H' : Hp} {p : Addr} (h : Pot H p) (h' : Pot H' p) (b : But p H H') : Kp H H' := fun a o e => by
 by_cases z : a = p
 ·subst z
  obtain ⟨i, j, e1, _⟩ := h
  obtain ⟨i', j', e2, _⟩ := h'
  rw [e1] at e
  cases e
  exact .inr ⟨_, _, rfl, e2⟩
 ·exact .inl (b a o e z)
theorem Kp.lst {H : Hp} {l : Addr} {xs ys : List V} (e : H l = some (.lst xs)) : Kp H (upd H l (.lst ys)) := fun a o h => by
 by_cases z : a = l
 ·subst z; rw [e] at h; cases h; exact .inr ⟨_, _, rfl, upd_same⟩
 ·exact .inl (by rw [upd_ne z]; exact h)
theorem Kp.tup {H H' : Hp} (k : Kp H H') {a : Addr} {xs : List V} (h : H a = some (.tup xs)) : H' a = some (.tup xs) := by
 rcases k a _ h with r | ⟨_, _, e, _⟩
 ·exact r
 ·cases e
structure Tg (H : Hp) (v : V) (k : Kd) : Prop where
 is : IsK H v k
 few : ∀ x, v = .str x → x.length ≤ 1000000
theorem Tg.kp {H H' : Hp} {v : V} {k : Kd} (t : Tg H v k) (s : Kp H H') : Tg H' v k := by
 refine ⟨?_, t.few⟩
 have h := t.is
 cases k with
 | non => exact h
 | bl => exact h
 | int => exact h
 | str => exact h
 | lst =>
  obtain ⟨a, xs, rfl, e⟩ := h
  rcases s _ _ e with r | ⟨_, ys, _, r⟩
  ·exact ⟨a, xs, rfl, r⟩
  ·exact ⟨a, ys, rfl, r⟩
 | tup => obtain ⟨a, xs, rfl, e⟩ := h; exact ⟨a, xs, rfl, s.tup e⟩
 | dct =>
  obtain ⟨a, xs, ep, rfl, e⟩ := h
  rcases s _ _ e with r | ⟨_, _, z, _⟩
  ·exact ⟨a, xs, ep, rfl, r⟩
  ·cases z
theorem Tg.same {H H' : Hp} {v : V} {k : Kd} (t : Tg H v k) (s : Same H H') : Tg H' v k := t.kp (.of s)
noncomputable def tupOf (H : Hp) : V → Option (List V)
 | .ref a => match H a with | some (.tup xs) => some xs | _ => none
 | _ => none
theorem tupOf_at {H : Hp} {a : Addr} {xs : List V} (h : H a = some (.tup xs)) : tupOf H (.ref a) = some xs := by unfold tupOf; simp only [h]
theorem Tg.tup {H : Hp} {v : V} {k : Kd} (t : Tg H v k) : (k = .tup ∧ ∃ a xs, v = .ref a ∧ H a = some (.tup xs) ∧ tupOf H v = some xs) ∨ (k ≠ .tup ∧ tupOf H v = none) := by
 have h := t.is
 cases k with
 | non => cases (show v = .non from h); exact .inr ⟨(fun z => nomatch z), rfl⟩
 | bl => obtain ⟨_, rfl⟩ := h; exact .inr ⟨(fun z => nomatch z), rfl⟩
 | int => obtain ⟨_, rfl⟩ := h; exact .inr ⟨(fun z => nomatch z), rfl⟩
 | str => obtain ⟨_, rfl⟩ := h; exact .inr ⟨(fun z => nomatch z), rfl⟩
 | lst => obtain ⟨a, xs, rfl, e⟩ := h; exact .inr ⟨(fun z => nomatch z), by unfold tupOf; simp only [e]⟩
 | tup => obtain ⟨a, xs, rfl, e⟩ := h; exact .inl ⟨rfl, a, xs, rfl, e, tupOf_at e⟩
 | dct => obtain ⟨a, xs, ep, rfl, e⟩ := h; exact .inr ⟨(fun z => nomatch z), by unfold tupOf; simp only [e]⟩
theorem Tg.tup_kp {H H' : Hp} {v : V} {k : Kd} (t : Tg H v k) (s : Kp H H') : tupOf H' v = tupOf H v := by
 rcases t.tup with ⟨rfl, a, xs, rfl, e, e2⟩ | ⟨n, e⟩
 ·rw [e2]; exact tupOf_at (s.tup e)
 ·rw [e]
  rcases (t.kp s).tup with ⟨z, _⟩ | ⟨_, e'⟩
  ·exact absurd z n
  ·exact e'
noncomputable def AnyD : Nat → Hp → V → Prop
 | 0, H, v => ∃ k, Tg H v k
 | n + 1, H, v => (∃ k, Tg H v k) ∧ ∀ xs, tupOf H v = some xs → xs.length ≤ 1000 ∧ ∀ x ∈ xs, AnyD n H x
theorem AnyD.tg : ∀ {n : Nat} {H : Hp} {v : V}, AnyD n H v → ∃ k, Tg H v k
 | 0, _, _, h => h
 | _ + 1, _, _, h => h.1
theorem AnyD.kp : ∀ {n : Nat} {H H' : Hp} {v : V}, AnyD n H v → Kp H H' → AnyD n H' v
 | 0, _, _, _, ⟨k, t⟩, s => ⟨k, t.kp s⟩
 | n + 1, _, _, _, ⟨⟨k, t⟩, h⟩, s => ⟨⟨k, t.kp s⟩, fun xs e => by
   rw [t.tup_kp s] at e
   exact ⟨(h xs e).1, fun x hx => AnyD.kp ((h xs e).2 x hx) s⟩⟩
noncomputable def Any (H : Hp) (v : V) : Prop := ∀ n, AnyD n H v
theorem Any.kp {H H' : Hp} {v : V} (h : Any H v) (s : Kp H H') : Any H' v := fun n => (h n).kp s
theorem any_flat {H : Hp} {v : V} {k : Kd} (t : Tg H v k) (n : k ≠ .tup) : Any H v
 | 0 => ⟨k, t⟩
 | _ + 1 => ⟨⟨k, t⟩, fun xs e => by
   rcases t.tup with ⟨z, _⟩ | ⟨_, e'⟩
   ·exact absurd z n
   ·rw [e] at e'; cases e'⟩
theorem any_non {H : Hp} : Any H .non := any_flat (k := .non) ⟨rfl, fun _ e => nomatch e⟩ (fun z => nomatch z)
theorem any_int {H : Hp} {i : Int} : Any H (.int i) := any_flat (k := .int) ⟨⟨i, rfl⟩, fun _ e => nomatch e⟩ (fun z => nomatch z)
theorem any_str {H : Hp} {x : Str} (h : x.length ≤ 1000000) : Any H (.str x) := any_flat (k := .str) ⟨⟨x, rfl⟩, fun _ e => by cases e; exact h⟩ (fun z => nomatch z)
theorem any_tup {H : Hp} {a : Addr} {xs : List V} (h : H a = some (.tup xs)) (hl : xs.length ≤ 1000) (hx : ∀ x ∈ xs, Any H x) : Any H (.ref a)
 | 0 => ⟨.tup, ⟨a, xs, rfl, h⟩, fun _ e => nomatch e⟩
 | n + 1 => ⟨⟨.tup, ⟨a, xs, rfl, h⟩, fun _ e => nomatch e⟩, fun ys e => by
   rw [tupOf_at h] at e
   cases e
   exact ⟨hl, fun x hm => hx x hm n⟩⟩
end L2
namespace L2
open PySem PySem.Spec PyProof.Rows
section
variable {X : Cx} {es : List Expr} {te : TE} {t : TA}
theorem pa_c {a b c} (ha : PE X (.Constant a b c) te) (hr : PA X es t) : PA X (.Constant a b c :: es) (tCons te t) := pa_cons ha hr rfl
end
section
variable {X : Cx} {elt tg iter : Expr} {ifs : List Expr} {scope : Scope} {pos : Pos} {wi : TI} {g : TG} {tt : TT} {te : TE} {N : List Str} {k : Nat} {cap : List Nat}
theorem ps_comp {iy : Nat} {y : Str} {py spos : Pos} (hc : X.calm = true) (hNd : X.N.Nodup) (hiy : X.N[iy]? = some y) (hy : X.env.scope.names.lookup y = some .local)
  (S : CompScope X scope N k cap) (hi : PI X tg iter wi) (hg : ∀ c, PG (cxComp X scope N c) tg g) (ht : ∀ c, PTs (cxComp X scope N c) ifs tt) (he : ∀ c, PE (cxComp X scope N c) elt te)
  (hsw : swapsWith (.ListComp elt [⟨tg, iter, ifs, 0⟩] scope pos) (some (.Name y py)) spos.line X.env = pure true)
  (hs : ∀ x, foldedSetIterable iter X.env x = pure x := by intro _; rfl) : PS X (.Assign [.Name y py] (.ListComp elt [⟨tg, iter, ifs, 0⟩] scope pos) spos) (tAsg (tComp wi k cap g tt te) (gName iy)) := by
 intro pins s σ H D I h
 rw [exec_Assign_Name_used _ _ _ _ hsw]
 refine wpAny_bind (wpAny_standAt (wpAny_bind ?_))
 obtain ⟨cl, hclos, hcl1, hcl2⟩ := closureFor_ok (scope := scope) (env := X.env) (fun p hp hf => I.ok.has p.1 (S.free p hp hf))
 show wpAny _ X.A (do let _ ← comprehension (.ListComp elt [⟨tg, iter, ifs, 0⟩] scope pos) scope X.env _ (newList []) false (eval iter X.env) (some (assign (.Name y py) X.env))) _ _ s
 refine wpAny_bind (wpAny_mono (wpAny_comprehension_free (use := some (assign (.Name y py) X.env)) (Q := fun _ s' => SP X pins D .next s') rfl hs hclos S.kind S.names (thn (hi pins s σ H _ I h) fun v s1 h1 => thn h1 fun itv s2 h2 => ?_)) (fun _ s' hq => wpAny_pure (wpAny_pure hq)) fun _ _ e => e)
 obtain ⟨it, fp, tn, J, H2, e, I2, T, st2, f2, q2⟩ := h2
 subst e
 obtain ⟨W, ⟨m0, w0⟩, turn⟩ := q2 s2.heap.objs.size (I2.hok.fresh (Nat.le_refl _))
 have hob : ∀ b ∈ fp, b < s2.heap.objs.size := fun b hb => let ⟨o, e, _⟩ := T.obj _ _ st2 b hb; Heap.lt_size e
 refine wpAny_newObj_type (wpAny_newFunctionEnv S.cell (by intro y hy; simp at hy) (fun h₁ hns₁ hsb₁ => ?_) S.kind)
 dsimp only at hns₁ hsb₁ ⊢
 generalize hHH : s2.heap.push { cls := .type "list", dict := none, data := .seq ([] : List Value).toArray } = HH at hns₁ hsb₁ ⊢
 have hCC : HH.objs.size = s2.heap.objs.size + 1 := by rw [← hHH, Heap.size_push]
 have old : ∀ b o, s2.heap.get? b = some o → h₁.get? b = some o := fun b o e => hsb₁.extBut b o (Nat.ne_of_lt (hCC ▸ Nat.lt_succ_of_lt (Heap.lt_size e))) (Heap.get?_push_of_some _ (hHH ▸ Heap.get?_push_of_some _ e))
 have hD : h₁.get? s2.heap.objs.size = some { cls := .type "list", data := .seq #[] 0 } := hsb₁.extBut _ _ (Nat.ne_of_lt (hCC ▸ Nat.lt_succ_self _)) (Heap.get?_push_of_some _ (hHH ▸ Heap.get?_push_size _ rfl))
 have I4 := fun tk => compInv (tk := tk) S I2 hcl1 hcl2 hCC f2 hob old hD hns₁
 have X' := cxComp X scope N ⟨cl, HH.objs.size, s2, H2, fp⟩
 have stat : ∀ {H' : Hp}, (∀ b ∈ fp, H' b = none) → ∀ b ∈ fp, FpOk (cxComp X scope N ⟨cl, HH.objs.size, s2, H2, fp⟩) [] H' b := fun hn b hb =>
  ⟨hn b hb, Nat.ne_of_lt (hCC ▸ Nat.lt_succ_of_lt (hob b hb)), (compOk S I2 hcl1 hcl2 (hCC ▸ Nat.le_succ _) f2 hob).exfs b hb, .inl hb, fun x c e => (f2 b hb).2.2.2.2.1 x c (hcl1 x c e), fun p hp => absurd (show p ∈ ([] : List (Addr × Obj)) from hp) (by simp)⟩
 have loop : ∀ s₃ : Shared, s₃ = { s2 with heap := h₁, toks := s2.toks + ([] : List (Str × Value)).length } →
   codeAny (model X.prog X.w) X.A (.compLoop (.ListComp elt [⟨tg, iter, ifs, 0⟩] scope pos) 0 (.ref it) (.ref s2.heap.objs.size) (compEnvC scope cl HH.objs.size X.env))
    (compPost (model X.prog X.w) X.A X.xe (some (assign (.Name y py) X.env)) (fun _ s' => SP X pins D .next s') (.ref s2.heap.objs.size) HH.objs.size) s₃ := by
  rintro s₃ rfl
  refine compLoopT (fun n s' => ∃ i σ' H', Inv (cxComp X scope N ⟨cl, HH.objs.size, s2, H2, fp⟩) [] σ' H' s' ∧ tn i s'.heap ∧ (∀ b ∈ fp, H' b = none) ∧ W i n σ' H') ?_ m0
   ⟨0, capSt k cap σ, _, I4 _, T.keep _ _ _ st2 fun b _ o e => old b o e, fun b hb => by rw [upd_ne (Nat.ne_of_lt (hob b hb))]; exact (f2 b hb).1, w0⟩
  rintro n s3 ⟨i, σ3, H3, I3, st3, fr3, w3⟩
  rcases turn i n σ3 H3 w3 with ⟨stop, qn⟩ | ⟨go, NN, hN, step⟩
  ·refine thn (T.done (cxComp X scope N ⟨cl, HH.objs.size, s2, H2, fp⟩) rfl rfl rfl hc i [] s3 σ3 H3 _ I3 (stat fr3) st3 stop) fun r s4 ⟨hr, J4⟩ => ?_
   subst hr
   obtain ⟨m, hn, _⟩ := J4.loc
   obtain ⟨oC, es, ep, hoC, hdC, rC⟩ := hn
   have ltC : ∀ b o, s2.heap.get? b = some o → b ≠ HH.objs.size := fun b o e => Nat.ne_of_lt (hCC ▸ Nat.lt_succ_of_lt (Heap.lt_size e))
   have szC : s2.heap.objs.size ≤ HH.objs.size := hCC ▸ Nat.le_succ _
   have u := J4.base
   have I4x : Inv X pins σ H3 s4 := I2.call' (ch := fp) J4.os u J4.hok J4.bare fun b hb => by
    obtain ⟨_, f1, _, f3, f4, f5⟩ := f2 b hb
    exact ⟨f3, f1, f4, f5⟩
   have lC : HH.objs.size ≠ X.env.locals := Nat.ne_of_gt (Nat.lt_of_lt_of_le I2.lt szC)
   have I4p : Inv X ((HH.objs.size, oC) :: pins) σ H3 s4 := I4x.pins_of fun p hp => by
    rcases List.mem_cons.mp hp with r | r
    ·rw [r]
     exact ⟨hoC, J4.free, lC, I2.nofs szC, fun v z => by rw [hdC] at z; cases z⟩
    ·exact I4x.pin p (List.mem_append_right _ r)
   show wpAny _ X.A (assign (.Name y py) X.env (.ref s2.heap.objs.size)) _ _ _
   refine wpAny_assign_Name (store_ok I4p hNd hiy (.inl hy) (v := .ref s2.heap.objs.size) rfl (fun s5 I5 => ?_) (.inr hy))
   have hC5 := I5.pin (HH.objs.size, oC) (List.mem_append_right _ List.mem_cons_self)
   refine ⟨m, ⟨oC, es, ep, hC5.1, hdC, rC⟩, fun h' hs' => ⟨_, H3, ?_, qn⟩⟩
   have I6 : Inv X pins (σ.set iy (some (.ref s2.heap.objs.size))) H3 s5 := I5.pins_of fun p hp => I5.pin p (List.mem_append_right _ (List.mem_cons_of_mem _ hp))
   refine I6.turned (it := HH.objs.size) (t' := s5.toks) (fun b o hb e => hs'.extBut b o hb e) J4.free lC (.inr (Nat.le_trans I2.sz szC)) (fun x c e => ?_) (fun p hp => ?_)
   ·obtain ⟨v, q⟩ := I2.cell x c e
    exact Nat.ne_of_lt (Nat.lt_of_lt_of_le q.lt szC)
   ·exact ltC p.1 p.2 (I2.pin p hp).1
  ·refine thn (T.item (cxComp X scope N ⟨cl, HH.objs.size, s2, H2, fp⟩) rfl rfl rfl hc i [] s3 σ3 H3 _ I3 (stat fr3) st3 go) fun r s4 ⟨u, hr, h4⟩ => ?_
   subst hr
   refine thn h4 fun _ s5 ⟨x, H5, I5, r5, y5, st5, fr5⟩ => ?_
   have I5' := I5.pinned (stat fr5) (T.obj _ _ st5)
   have again : ∀ {s7 : Shared} {σ7 : St} {H7 : Hp}, Inv (cxComp X scope N ⟨cl, HH.objs.size, s2, H2, fp⟩) ([] ++ pinsAt fp s5.heap) σ7 H7 s7 → NN σ7 H7 →
     ∃ m, m < n ∧ ∃ i σ' H', Inv (cxComp X scope N ⟨cl, HH.objs.size, s2, H2, fp⟩) [] σ' H' s7 ∧ tn i s7.heap ∧ (∀ b ∈ fp, H' b = none) ∧ W i m σ' H' := fun {s7 σ7 H7} I7 n7 => by
    obtain ⟨m', hm, w7⟩ := hN σ7 H7 n7
    refine ⟨m', hm, i + 1, σ7, H7, I7.unpinned, T.keep _ _ _ st5 fun b hb o e => (I7.pin (b, o) (List.mem_append_right _ (List.mem_append_right _ (mem_pinsAt hb e)))).1, fun b hb => ?_, w7⟩
    obtain ⟨o, e, d⟩ := T.obj _ _ st5 b hb
    exact (I7.pin (b, o) (List.mem_append_right _ (List.mem_append_right _ (mem_pinsAt hb e)))).2.1
   refine thn (hg _ _ s5 σ3 H5 x u _ I5' r5 (step x H5 y5)) fun _ s6 ⟨σ6, H6, I6, q6⟩ => ?_
   refine thn (ht _ _ s6 σ6 H6 _ I6 q6) fun b s7 ⟨H7, I7, q7⟩ => ?_
   cases b with
   | false => exact again I7 q7
   | true =>
    refine thn (he _ _ s7 σ6 H7 _ I7 q7) fun y s8 ⟨yv, H8, I8, r8, xs, hl, hz, n8⟩ => ?_
    refine thn (mt_append _ s8 σ6 H8 (.ref s2.heap.objs.size) [yv] (.ref s2.heap.objs.size) [y] (fun _ H9 => NN σ6 H9) I8 rfl (.cons r8 .nil) ⟨_, xs, yv, rfl, rfl, hl, hz, n8⟩) fun _ s9 ⟨_, H9, I9, _, q9⟩ => ?_
    exact again I9 q9
 exact codeAny_compStart_list (loop _ rfl) (T.self X.A 0 _ _ _ (T.keep _ _ _ st2 fun b _ o e => old b o e) (loop _ rfl))
theorem ps_setLC {i : Nat} {y : Str} {py spos : Pos} (N : List Str) (k : Nat) (cap : List Nat) (XN : List Str) (xs : Scope) (hc : X.calm = true) (hN : X.N = XN) (hx : X.env.scope = xs) (hNd : X.N.Nodup) (hiy : X.N[i]? = some y) (hy : X.env.scope.names.lookup y = some .local)
  (hi : PI X tg iter wi) (chk : compChk XN xs scope N k cap = true) (hg : ∀ c, PG (cxComp X scope N c) tg g) (ht : ∀ c, PTs (cxComp X scope N c) ifs tt) (he : ∀ c, PE (cxComp X scope N c) elt te)
  (hsw : swapsWith (.ListComp elt [⟨tg, iter, ifs, 0⟩] scope pos) (some (.Name y py)) spos.line X.env = pure true := by rfl)
  (hs : ∀ x, foldedSetIterable iter X.env x = pure x := by intro _; rfl) : PS X (.Assign [.Name y py] (.ListComp elt [⟨tg, iter, ifs, 0⟩] scope pos) spos) (tAsg (tComp wi k cap g tt te) (gName i)) :=
 ps_comp hc hNd hiy hy (compScope_of hN hx chk) hi hg ht he hsw hs
end
section
variable {X : Cx} {es : List Expr} {e : Expr} {te tk tv : TE} {t : TA}
structure PEw (X : Cx) (e : Expr) (t : TE) : Prop where
 h : PE X e t
structure PAw (X : Cx) (es : List Expr) (t : TA) : Prop where
 h : PA X es t
theorem ew (h : PE X e te) : PEw X e te := ⟨h⟩
theorem pw_nil : PAw X [] tNil := ⟨pa_nil⟩
theorem pw_c {a b c} (ha : PEw X (.Constant a b c) te) (hr : PAw X es t) : PAw X (.Constant a b c :: es) (tCons te t) := ⟨pa_c ha.h hr.h⟩
theorem ew_l {pos : Pos} (h : PAw X es t) : PEw X (.List es pos) (tLst t) := ⟨pe_lst h.h⟩
end
section
variable {X : Cx} {es : List Expr} {te : TE} {t : TA} {st : Stmt} {rest : List Stmt} {ts us : TS}
structure PSw (X : Cx) (st : Stmt) (t : TS) : Prop where
 h : PS X st t
structure PSsw (X : Cx) (st : List Stmt) (t : TS) : Prop where
 h : PSs X st t
end
end L2
namespace L2
open PySem PySem.Spec PyProof.Rows
section
variable {X : Cx} {pos : Pos} {k : Nat} {a b e : Expr} {es rest : List Expr} {te ta tb : TE} {t : Str → TE}
theorem op_mulB : OpR X (binaryOp .Mult) (rI IntMulOk fun i j => .int (i * j)) := opI fun _ _ _ _ _ _ _ hc q => mul_int q hc
noncomputable def jNil : Str → TE := fun acc _ H Q => acc.length ≤ sizeLine ∧ Q (.str acc) H
noncomputable def jCons (te : TE) (t : Str → TE) : Str → TE := fun acc σ H Q => te σ H fun v H1 => ∃ y, v = .str y ∧ (acc ++ y).length ≤ sizeLine ∧ t (acc ++ y) σ H1 Q
noncomputable def tFS (t : Str → TE) : TE := t Str.empty
noncomputable def tFmtS (te : TE) : TE := fun σ H Q => te σ H fun v H1 => ∃ y, v = .str y ∧ y.length ≤ sizeLine ∧ Q (.str y) H1
noncomputable def tFmtI (te : TE) : TE := fun σ H Q => te σ H fun v H1 => ∃ i, v = .int i ∧ i.natAbs.log2 < 1920 ∧ Q (.str (toString i)) H1
noncomputable def tOrS (ta tb : TE) : TE := fun σ H Q => ta σ H fun x H1 => ∃ y, x = .str y ∧ y.length ≤ sizeLine ∧ if ((y.length : Int) != 0) = true then Q (.str y) H1 else tb σ H1 Q
theorem pe_orS (ha : PE X a ta) (hb : PE X (.BoolOp .Or (b :: rest) pos) tb) : PE X (.BoolOp .Or (a :: b :: rest) pos) (tOrS ta tb) := by
 intro pins s σ H Q I h
 refine BoolOp_or (thn (ha pins s σ H _ I h) fun v s1 ⟨x, H1, I1, r1, q1⟩ => ?_)
 obtain ⟨y, rfl, hz, q1⟩ := q1
 obtain ⟨t, rfl⟩ := r1
 have hl := line63
 refine PySem.P.truthy_str (by omega) ?_
 cases hc : ((y.length : Int) != 0) with
 | false => rw [hc] at q1; exact hb pins _ σ H1 Q (I1.tok _) (by simpa using q1)
 | true => rw [hc] at q1; exact ⟨.str y, H1, I1.tok _, ⟨_, rfl⟩, by simpa using q1⟩
noncomputable def rNeL (K : PySem.W.Frag) : R2 := fun x y H Q => ∃ a b xs ys, x = .ref a ∧ y = .ref b ∧ SqL K H a xs ∧ SqL K H b ys ∧ (xs.length = ys.length → xs.all flatV = true ∧ ys.all flatV = true) ∧ Q (.bl (!eqLV xs ys)) H
theorem neL (K : PySem.W.Frag) (hr : Room k X.A) (hK : X.K = K := by rfl) : OpR X (compareOp .NotEq) (rNeL K) := by
 subst hK
 intro pins s σ H x y v u Q I rx ry h
 obtain ⟨a, b, xs, ys, rfl, rfl, ha, hb, hf, q⟩ := h
 cases rx
 cases ry
 obtain ⟨its, r1, p1, _⟩ := I.list ha
 obtain ⟨its2, r2, p2, _⟩ := I.list hb
 have l1 := r1.length
 have l2 := r2.length
 by_cases e : xs.length = ys.length
 ·obtain ⟨f1, f2⟩ := hf e
  refine SeqAt.RcNeAt.lists (e := fun j => eqV ((xs[j]?).getD .non) ((ys[j]?).getD .non)) p1.isList p2.isList (by simp; omega) hr.units0 (fun j h1 h2 => ?_) _ _ _ _ ?_
  ·have g1 : its[j]? = some (its.toArray[j]) := by simp at h1 ⊢
   have g2 : its2[j]? = some (its2.toArray[j]) := by simp at h2 ⊢
   obtain ⟨x, ex, rx⟩ := r1.get' g1
   obtain ⟨y, ey, ry⟩ := r2.get' g2
   rw [ex, ey]
   exact eqAt_V rx ry (List.all_eq_true.mp f1 _ (List.mem_of_getElem? ex)) (List.all_eq_true.mp f2 _ (List.mem_of_getElem? ey))
  ·have e1 : its.toArray.size = xs.length := by simp; omega
   rw [e1, eqLV_range e]
   exact ⟨.bl _, H, I, rfl, q⟩
 ·refine SeqAt.RcNeAt.lists_lengths p1.isList p2.isList (by simp; omega) hr.units0 _ _ _ _ ?_
  rw [eqLV_len e] at q
  exact ⟨.bl true, H, I, rfl, q⟩
end
noncomputable def Pur (H : Hp) (p g : Addr) : Prop := ∃ (xs : List Int) (s c : Int), H p = some (.lst [.ref g, .int s, .int c]) ∧ H g = some (.lst (xs.map V.int)) ∧ p ≠ g
noncomputable def Fr (p g : Addr) (H H' : Hp) : Prop := ∀ b o, H b = some o → b ≠ p → b ≠ g → H' b = some o
theorem Fr.refl {p g : Addr} {H : Hp} : Fr p g H H := fun _ _ h _ _ => h
theorem Fr.trans {p g : Addr} {H H1 H2 : Hp} (a : Fr p g H H1) (b : Fr p g H1 H2) : Fr p g H H2 := fun c o h n m => b c o (a c o h n m) n m
theorem Fr.of {p g : Addr} {H H1 : Hp} (a : Same H H1) : Fr p g H H1 := fun c o h _ _ => a c o h
theorem Fr.new {p g l : Addr} {H H1 : Hp} {o : HO} (f : Fr p g H H1) (n : H1 l = none) : Fr p g H (upd H1 l o) := f.trans (.of (Same.upd n))
theorem Pur.same {H H' : Hp} {p g : Addr} (h : Pur H p g) (s : Same H H') : Pur H' p g := let ⟨xs, i, c, e1, e2, n⟩ := h; ⟨xs, i, c, s _ _ e1, s _ _ e2, n⟩
theorem Pur.upd {H : Hp} {p g l : Addr} {o : HO} (h : Pur H p g) (h1 : p ≠ l) (h2 : g ≠ l) : Pur (upd H l o) p g := let ⟨xs, i, c, e1, e2, n⟩ := h; ⟨xs, i, c, by rw [upd_ne h1]; exact e1, by rw [upd_ne h2]; exact e2, n⟩
theorem Pur.new {H : Hp} {p g l : Addr} {o : HO} (h : Pur H p g) (n : H l = none) : Pur (L2.upd H l o) p g := h.same (Same.upd n)
theorem Pur.nep {H : Hp} {p g l : Addr} (h : Pur H p g) (n : H l = none) : p ≠ l := let ⟨_, _, _, e, _, _⟩ := h; ne_of_none e n
theorem Pur.neg {H : Hp} {p g l : Addr} (h : Pur H p g) (n : H l = none) : g ≠ l := let ⟨_, _, _, _, e, _⟩ := h; ne_of_none e n
theorem Fr.kp {H H' : Hp} {p g : Addr} (h : Pur H p g) (h' : Pur H' p g) (f : Fr p g H H') : Kp H H' := fun a o e => by
 obtain ⟨xs, s, c, e1, e2, n⟩ := h
 obtain ⟨xs', s', c', e1', e2', n'⟩ := h'
 by_cases z : a = p
 ·subst z
  rw [e1] at e; cases e
  exact .inr ⟨_, _, rfl, e1'⟩
 ·by_cases z2 : a = g
  ·subst z2
   rw [e2] at e; cases e
   exact .inr ⟨_, _, rfl, e2'⟩
  ·exact .inl (f a o e z z2)
noncomputable def spPurse (K : PySem.W.Frag) : Sp := fun vs H Q _ => ∃ (a : Addr) (ns : List Int), vs = [.ref a] ∧ SqL K H a (ns.map V.int) ∧ ns.length ≤ 63 ∧ ∀ p g H', H p = none → H g = none → Pur H' p g → Same H H' → Q (.ref p) H'
noncomputable def spPick : Sp := fun vs H Q _ => ∃ (p g : Addr) (n : Int), vs = [.ref p, .int n] ∧ Pur H p g ∧ 0 < n ∧ n < 1073741824 ∧ ∀ d H', 0 ≤ d → d < n → Pur H' p g → Fr p g H H' → Q (.int d) H'
section
variable {k : Nat} {cap : List Nat} {gg : TG} {tt : TT} {te : TE} {σ : St} {H : Hp} {Q : VK} {l : Addr}
theorem comp_drawP (lo : Int) (n : Nat) (p g : Addr) (R : Hp → V → Prop) (Good : St → Prop) (h0 : Good (capSt k cap σ)) (hp : Pur H p g) (hl : H l = none) (hlen : n ≤ 1000000)
  (m : ∀ H1 H2 y, Kp H1 H2 → R H1 y → R H2 y)
  (ht : ∀ i σ H1 xs (N : St → Hp → Prop), i < n → Good σ → Pur H1 p g → H1 l = some (.lst xs) → xs.length = i → Fr p g H H1 →
   (∀ σ' y H2, Good σ' → R H2 y → Pur H2 p g → Fr p g H1 H2 → ∃ xs, H2 l = some (.lst xs) ∧ xs.length < sizeLine ∧ N σ' (upd H2 l (.lst (xs ++ [y])))) → turnOf gg tt te l (.int (lo + i)) σ H1 N)
  (hd : ∀ ys H1, ys.length = n → (∀ y ∈ ys, R H1 y) → H1 l = some (.lst ys) → Pur H1 p g → Fr p g H H1 → Q (.ref l) H1) : GoalW (Itr lo n) gg tt te l (capSt k cap σ) (upd H l (.lst [])) Q := by
 have pl : p ≠ l := hp.nep hl
 have gl : g ≠ l := hp.neg hl
 refine comp_range lo n (fun i σ' H' => Good σ' ∧ ∃ ys : List V, H' l = some (.lst ys) ∧ ys.length = i ∧ (∀ y ∈ ys, R H' y) ∧ Pur H' p g ∧ Fr p g H H') ⟨h0, [], upd_same, rfl, (fun _ h => nomatch h), hp.new hl, Fr.of (Same.upd hl)⟩
  (fun i σ' H' hi ⟨gd, ys, e, hy, hR, hp', b⟩ => ?_) (fun σ' H' ⟨_, ys, e, hy, hR, hp', b⟩ => hd ys H' hy hR e hp' b)
 refine ht i σ' H' ys _ hi gd hp' e hy b fun σ2 y H2 g2 ry p2 b2 => ?_
 have e2 : H2 l = some (.lst ys) := b2 l _ e pl.symm gl.symm
 refine ⟨ys, e2, szt (by omega), g2, ys ++ [y], upd_same, by simp [hy], fun z hz => ?_, p2.upd pl gl, fun c o h n1 n2 => ?_⟩
 ·rcases List.mem_append.mp hz with r | r
  ·exact m _ _ _ (Kp.lst e2) (m _ _ _ (b2.kp hp' p2) (hR z r))
  ·rw [List.mem_singleton.mp r]; exact m _ _ _ (Kp.lst e2) ry
 ·rw [upd_ne (ne_of_none h hl)]
  exact b2 c o (b c o h n1 n2) n1 n2
end
theorem range_all_getD {ys : List V} {n : Nat} (h : ys.length = n) : ((List.range n).filter fun _ => true).map (fun i => (ys[i]?).getD .non) = ys := by
 have e := range_getD (xs := ys) (f := id)
 rw [List.map_id, h] at e
 exact e
section
variable {k : Nat} {cap : List Nat} {g : TG} {tt : TT} {te : TE} {σ : St} {H : Hp} {Q : VK} {l : Addr}
theorem comp_tupX {K : PySem.W.Frag} {a : Addr} {xs : List V} (hS : SqT K H a xs) (ys : List V) (hy : ys.length = xs.length) (Good : St → Prop) (h0 : Good (capSt k cap σ)) (hl : H l = none) (hlen : xs.length < sizeLine)
  (ht : ∀ (i : Nat) x y σ H1 zs (N : St → Hp → Prop), xs[i]? = some x → ys[i]? = some y → Good σ → Same H H1 → H1 l = some (.lst zs) → zs.length < sizeLine →
   (∀ σ' H3, Good σ' → But l H1 H3 → H3 l = some (.lst (zs ++ [y])) → N σ' H3) → turnOf g tt te l x σ H1 N)
  (hd : ∀ H', Same H H' → H' l = some (.lst ys) → Q (.ref l) H') : GoalW (Itt K a) g tt te l (capSt k cap σ) (upd H l (.lst [])) Q := by
 refine comp_grow (Itt K a) xs.length (fun _ => true) (fun i => (ys[i]?).getD .non) Good h0 hl hlen (fun H' s => ⟨xs, hS.same s, Nat.le_refl _⟩) (fun i H' hi s => ⟨xs, xs[i], hS.same s, by simp [hi]⟩) (fun i v σ H1 H2 zs N hi gd s e hz y hN => ?_) (fun H' s e => hd H' s (by rw [e, range_all_getD hy]))
 obtain ⟨e1, hx⟩ := y
 subst e1
 have hx := hx xs (hS.same s)
 have hyi : ys[i]? = some (ys[i]'(by omega)) := by simp
 refine ht i v _ σ _ zs N hx hyi gd s e hz fun σ' H3 g3 b e3 => hN σ' H3 g3 b ?_
 rw [e3, if_pos rfl, hyi]; rfl
theorem comp_lstX {K : PySem.W.Frag} {a : Addr} {xs : List V} (hS : SqL K H a xs) (ys : List V) (hy : ys.length = xs.length) (Good : St → Prop) (h0 : Good (capSt k cap σ)) (hl : H l = none) (hlen : xs.length < sizeLine)
  (ht : ∀ (i : Nat) x y σ H1 zs (N : St → Hp → Prop), xs[i]? = some x → ys[i]? = some y → Good σ → Same H H1 → H1 l = some (.lst zs) → zs.length < sizeLine →
   (∀ σ' H3, Good σ' → But l H1 H3 → H3 l = some (.lst (zs ++ [y])) → N σ' H3) → turnOf g tt te l x σ H1 N)
  (hd : ∀ H', Same H H' → H' l = some (.lst ys) → Q (.ref l) H') : GoalW (Itl K a) g tt te l (capSt k cap σ) (upd H l (.lst [])) Q := by
 refine comp_grow (Itl K a) xs.length (fun _ => true) (fun i => (ys[i]?).getD .non) Good h0 hl hlen (fun H' s => ⟨xs, hS.same s, Nat.le_refl _⟩) (fun i H' hi s => ⟨xs, xs[i], hS.same s, by simp [hi]⟩) (fun i v σ H1 H2 zs N hi gd s e hz y hN => ?_) (fun H' s e => hd H' s (by rw [e, range_all_getD hy]))
 obtain ⟨e1, hx⟩ := y
 subst e1
 have hx := hx xs (hS.same s)
 have hyi : ys[i]? = some (ys[i]'(by omega)) := by simp
 refine ht i v _ σ _ zs N hx hyi gd s e hz fun σ' H3 g3 b e3 => hN σ' H3 g3 b ?_
 rw [e3, if_pos rfl, hyi]; rfl
end
end L2
namespace L2
open PySem PySem.Spec PyProof.Rows
noncomputable def LtAt (A : Around) (s : Shared) (x y : Value) (c : Bool) : Prop :=
 ∀ (prog : Program) (w : World) (E : Value → Shared → Prop) (Q : Value → Shared → Prop), Q (.bool c) s → wpAny (model prog w) A (richCompare .Lt x y) Q E s
inductive LexR (A : Around) (s : Shared) (fin : Bool) : List (Value × Value) → Bool → Prop
 | done : LexR A s fin [] fin
 | same {p q : Value} {r : List (Value × Value)} {c : Bool} : SeqAt.EqAt A s p q true → LexR A s fin r c → LexR A s fin ((p, q) :: r) c
 | less {p q : Value} {r : List (Value × Value)} {c : Bool} : SeqAt.EqAt A s p q false → LtAt A s p q c → LexR A s fin ((p, q) :: r) c
section
open PySem.SeqAt
open PySem.AutoSeq1 (wpAny_loadPart')
open PySem.MeetsSeq PySem.MeetsSeq2 PySem.MeetsSeq3
theorem lt_lex (l b : Addr) (us vs : Array Value) (n m : Nat) (d1 d2 : Option Addr) (k1 k2 : Array (Option Value)) (c : Bool) :
  Meets (Builtin.«tuple.__lt__» ⟨[.ref l, .ref b], []⟩) (fun A R s => s.heap.get? l = some ⟨.type "tuple", d1, .seq us n, k1⟩ ∧ s.heap.get? b = some ⟨.type "tuple", d2, .seq vs m, k2⟩ ∧
   LexR A.in1 s (decide (us.size < vs.size)) (us.toList.zip vs.toList) c ∧ R (.ok (.ret (.bool c))) s) :=
 .of_wp fun prog w A R s h => by
  obtain ⟨hp, gg, dd, tk, os⟩ := s
  obtain ⟨hl, hb, hx, hr⟩ := h
  have f2 := AutoSeq1.sub_tuple_tuple
  wp_walk using wpAny_loadPart' hl, wpAny_loadPart' hb, wpAny_forIn_list _ (fun rest acc s' => acc.1 = none ∧ s' = ⟨hp, gg, dd, tk, os⟩ ∧ LexR A.in1 ⟨hp, gg, dd, tk, os⟩ (decide (us.size < vs.size)) rest c) _
  case turn =>
   rintro ⟨y, x⟩ rest acc s' ⟨ha, rfl, hx'⟩
   cases hx' with
   | same he hrest =>
    refine wpAny_bind (he prog w _ _ ?_)
    wp_walk
    exact ⟨rfl, rfl, hrest⟩
   | less he hlt =>
    refine wpAny_bind (he prog w _ _ ?_)
    have hq := hlt prog w
    wp_walk using hq
    exact ⟨_, rfl, by simpa using hr⟩
  case fin =>
   rintro ⟨b1, b2⟩ s' ⟨ha, rfl, hx'⟩
   simp only at ha
   subst ha
   cases hx'
   wp_walk
   exact ⟨_, rfl, by simpa [Builtin.Tuple.tupleCompareSizes] using hr⟩
  case h => exact ⟨rfl, rfl, hx⟩
end
theorem lt_tup {A : Around} {s : Shared} {l b : Addr} {us vs : Array Value} {c : Bool} (hl : IsTup s.heap l us) (hb : IsTup s.heap b vs) (hu : A.units < cLine) (hx : LexR A.in1 s (decide (us.size < vs.size)) (us.toList.zip vs.toList) c) :
  LtAt A s (.ref l) (.ref b) c := by
 intro prog w E Q q
 obtain ⟨⟨c1, d1, t1, k1⟩, g1, e1, n, r1⟩ := id hl
 obtain ⟨⟨c2, d2, t2, k2⟩, g2, e2, m, r2⟩ := id hb
 simp only at e1 r1 e2 r2
 subst e1 r1 e2 r2
 exact richCompare_meets_room (op := .Lt) ⟨_, g1, rfl⟩ ⟨_, g2, rfl⟩ PySem.F.slot_tuple_lt PySem.F.entry_tuple_lt (PySem.F.args_tuple_lt_2 _ _) (lt_lex l b us vs n m d1 d2 k1 k2 c) ⟨g1, g2, hx, (fun x => nomatch x), q⟩ hu
noncomputable def CmpD (K : PySem.W.Frag) (H : Hp) : Nat → V → V → Prop
 | 0, x, y => (∃ i j, x = .str i ∧ y = .str j) ∨ ∃ i j, x = .int i ∧ y = .int j
 | n + 1, x, y => CmpD K H n x y ∨ ∃ a b xs ys, x = .ref a ∧ y = .ref b ∧ SqT K H a xs ∧ SqT K H b ys ∧ ∀ (i : Nat) u v, xs[i]? = some u → ys[i]? = some v → CmpD K H n u v
section
variable {X : Cx} {pins : List (Addr × Obj)} {σ : St} {H : Hp} {s : Shared}
end
section
open PySem.W
noncomputable def Al {α : Type} (n : Nat) (P : α → Prop) : KasT α → Prop
 | .ret a => P a
 | .ask i j k => i < n ∧ j < n ∧ ∀ b, Al n P (k b)
theorem Al.bind {α β : Type} {n : Nat} {P : α → Prop} {R : β → Prop} {f : α → KasT β} : ∀ {t : KasT α}, Al n P t → (∀ a, P a → Al n R (f a)) → Al n R (t.bind f)
 | .ret a, h, hf => hf a h
 | .ask _ _ _, h, hf => ⟨h.1, h.2.1, fun b => Al.bind (h.2.2 b) hf⟩
theorem Al.run {α : Type} {n : Nat} {P : α → Prop} {cmp : Nat → Nat → (Bool → Shared → Prop) → Shared → Prop} {G : α → Shared → Prop} {s : Shared}
  (hc : ∀ i j (C : Bool → Shared → Prop), i < n → j < n → (∀ b, C b s) → cmp i j C s) (hg : ∀ a, P a → G a s) : ∀ {t : KasT α}, Al n P t → t.kasWp cmp G s
 | .ret a, h => hg a h
 | .ask i j _, h => hc i j _ h.1 h.2.1 fun b => Al.run hc hg (h.2.2 b)
noncomputable def Rng (n : Nat) (p : Array Nat) : Prop := p.Perm (List.toArray (List.range n))
theorem Rng.lt {n : Nat} {p : Array Nat} (h0 : 0 < n) (h : Rng n p) (i : Nat) : p.getD i 0 < n := by
 by_cases hi : i < p.size
 ·have e : p.getD i 0 = p[i] := by simp [Array.getD, hi]
  rw [e]
  have hm : p[i] ∈ p := Array.getElem_mem hi
  have := (h.mem_iff).mp hm
  simpa using this
 ·have e : p.getD i 0 = 0 := by simp [Array.getD, hi]
  omega
theorem Rng.rev {n : Nat} {p : Array Nat} (h : Rng n p) (i j : Nat) : Rng n (kas_rev p i j) := (mirror_perm p i j ((j - i) / 2)).trans h
theorem Rng.bub {n : Nat} {p : Array Nat} (h : Rng n p) (i j : Nat) : Rng n (bubble p i j) := (bubble_perm p i j).trans h
theorem al_asc {n : Nat} {p : Array Nat} (h0 : 0 < n) (h : Rng n p) : ∀ f m, Al n (fun _ => True) (kas_asc p f m)
 | 0, m => trivial
 | f + 1, m => ⟨h.lt h0 _, h.lt h0 _, fun b => by
  cases b with
  | true => exact trivial
  | false => exact al_asc h0 h f (m + 1)⟩
theorem al_desc {n : Nat} (h0 : 0 < n) : ∀ f (p : Array Nat) m q, Rng n p → Al n (fun r : Array Nat × Nat × Nat => Rng n r.1) (kas_desc f p m q)
 | 0, p, m, q, h => h
 | f + 1, p, m, q, h => ⟨h.lt h0 _, h.lt h0 _, fun b => by
  cases b with
  | true =>
   show Al n _ (if q > 0 then _ else _)
   split
   ·exact al_desc h0 f _ _ _ (h.rev _ _)
   ·exact al_desc h0 f _ _ _ h
  | false =>
   refine ⟨h.lt h0 _, h.lt h0 _, fun d => ?_⟩
   cases d with
   | true => exact h
   | false => exact al_desc h0 f _ _ _ h⟩
theorem al_tail3 {n : Nat} (h0 : 0 < n) {p : Array Nat} (h : Rng n p) (m k : Nat) : Al n (fun r : Nat × Array Nat => Rng n r.2) (kas_tail3 m k p) :=
 (al_asc h0 (h.rev 0 m) _ _).bind fun _ _ => h.rev 0 m
theorem al_descPart {n : Nat} (h0 : 0 < n) {p : Array Nat} (h : Rng n p) (m k : Nat) : Al n (fun r : Nat × Array Nat => Rng n r.2) (kas_descPart m k p) := by
 refine (al_desc h0 _ _ _ _ h).bind fun r hr => ?_
 split
 ·exact al_tail3 h0 (hr.rev _ _) _ _
 ·exact al_tail3 h0 hr _ _
theorem al_count {n : Nat} (h0 : 0 < n) {p : Array Nat} (h : Rng n p) (k : Nat) : Al n (fun r : Nat × Array Nat => Rng n r.2) (kas_count k p) := by
 refine (al_asc h0 h _ _).bind fun m _ => ?_
 split
 ·exact h
 ·split
  ·refine ⟨h.lt h0 _, h.lt h0 _, fun b => ?_⟩
   cases b with
   | true => exact h
   | false => exact al_descPart h0 (h.rev _ _) _ _
  ·exact al_descPart h0 h _ _
theorem al_place {n : Nat} (h0 : 0 < n) {p : Array Nat} (h : Rng n p) (k : Nat) : ∀ f l r, Al n (fun _ => True) (kas_place p k f l r)
 | 0, _, _ => trivial
 | f + 1, l, r => by
  unfold kas_place
  split
  ·exact trivial
  ·refine ⟨h.lt h0 _, h.lt h0 _, fun b => ?_⟩
   cases b with
   | true => exact al_place h0 h k f _ _
   | false => exact al_place h0 h k f _ _
theorem al_bin {n : Nat} (h0 : 0 < n) : ∀ f (p : Array Nat) k, Rng n p → Al n (Rng n) (kas_bin f p k)
 | 0, _, _, h => h
 | f + 1, p, k, h => (al_place h0 h k _ _ _).bind fun l _ => al_bin h0 f _ _ (h.bub _ _)
theorem al_sort {n : Nat} (h0 : 0 < n) : Al n (Rng n) (kas_sort n) := by
 refine (al_count h0 (show Rng n _ from Array.Perm.refl _) n).bind fun r hr => ?_
 split
 ·exact al_bin h0 _ _ _ hr
 ·exact hr
theorem Rng.perm {vs : List Value} {p : Array Nat} (h : Rng vs.length p) : (p.toList.map fun i => vs.getD i Value.none).Perm vs := by
 have h1 : p.toList.Perm (List.range vs.length) := by simpa using Array.perm_iff_toList_perm.mp h
 have h2 := h1.map fun i => vs.getD i Value.none
 have e : (List.range vs.length).map (fun i => vs.getD i Value.none) = vs := by
  apply List.ext_getElem
  ·simp
  ·intro i a1 a2
   simp [List.getElem?_eq_getElem a2]
 rw [e] at h2
 exact h2
end
section
open PySem.W
variable {prog : Program} {w : World} {A : Around} {E : Value → Shared → Prop} {s : Shared}
end
section
open PySem.W
variable {X : Cx} {pins : List (Addr × Obj)} {σ : St} {H : Hp} {s : Shared} {k : Nat}
theorem Vals.perm {ys : List V} {us ws : List Value} (p : us.Perm ws) : ∀ {ys : List V}, Vals ys ws → ∃ zs, zs.Perm ys ∧ Vals zs us := by
 induction p with
 | nil => intro ys r; exact ⟨ys, .refl _, r⟩
 | cons x p ih =>
  intro ys r
  cases r with
  | cons r1 rr =>
   obtain ⟨zs, h1, h2⟩ := ih rr
   exact ⟨_ :: zs, h1.cons _, .cons r1 h2⟩
 | swap x y l =>
  intro ys r
  cases r with
  | cons r1 rr =>
   cases rr with
   | cons r2 r3 => exact ⟨_ :: _ :: _, .swap .., .cons r2 (.cons r1 r3)⟩
 | trans p1 p2 i1 i2 =>
  intro ys r
  obtain ⟨zs, h1, h2⟩ := i2 r
  obtain ⟨ws, h3, h4⟩ := i1 h2
  exact ⟨ws, h3.trans h1, h4⟩
noncomputable def Led (K : PySem.W.Frag) (H : Hp) (F : V → List V) (y : V) : Prop := ∃ a n us, y = .ref a ∧ F y = .str n :: us ∧ SqT K H a (.str n :: us)
noncomputable def rSorted (K : PySem.W.Frag) : List V → Hp → VK → Prop := fun xs H Q => ∃ p ys, xs = [.ref p] ∧ SqL K H p ys ∧ ys.length < 64 ∧ ∃ F : V → List V, (∀ y ∈ ys, Led K H F y) ∧
 (∀ x ∈ ys, ∀ y ∈ ys, ∀ (i : Nat) u v, (F x)[i]? = some u → (F y)[i]? = some v → CmpD K H 1 u v) ∧ ∀ l out, out.Perm ys → H l = none → Q (.ref l) (upd H l (.lst out))
noncomputable def rInC (K : PySem.W.Frag) : R2 := fun x y H Q => ∃ p ys, y = .ref p ∧ SqL K H p ys ∧ (∀ z ∈ ys, CmpD K H 2 z x) ∧ ∀ b, Q (.bl b) H
end
end L2
namespace HT
open PySem PySem.Spec PyProof.Rows
section
variable {prog : Program} {w : World} {A : Around} {E : Value → Shared → Prop} {s : Shared}
end
end HT
namespace L2
open PySem PySem.Spec PyProof.Rows
section
variable {X : Cx} {e st : Expr} {te ts : TE} {pos p2 : Pos}
noncomputable def tBack (te ts : TE) : TE := fun σ H Q => te σ H fun x H1 => ∃ a xs, x = .ref a ∧ H1 a = some (.tup xs) ∧ ts σ H1 fun k H2 => k = .int (-1) ∧ H2 a = some (.tup xs) ∧ ∀ p zs, H2 p = none → zs.length ≤ xs.length → (∀ z ∈ zs, z ∈ xs) → Q (.ref p) (upd H2 p (.tup zs))
end
end L2
namespace L2
open PySem PySem.Spec PyProof.Rows
theorem fn_never {P : Program} {w : World} {K : PySem.W.Frag} {mg : Str → Option Value} {base : Heap} {k : Nat} {f : Addr} {fd : FuncData} {ps : List Str} : FnOk P w K mg base CX0 k f fd ps (fun _ _ _ _ => False) :=
 ⟨fun _ _ _ _ h => h.elim, fun _ _ _ _ _ _ _ _ _ _ _ _ _ h => h.elim⟩
section
variable {X : Cx}
noncomputable def rSortS (K : PySem.W.Frag) : List V → Hp → VK → Prop := fun xs H Q => ∃ p ss, xs = [.ref p] ∧ SqL K H p (ss.map V.str) ∧ ss.length < 64 ∧ ∀ l out, out.Perm ss → sortedS out = true → H l = none → Q (.ref l) (upd H l (.lst (out.map V.str)))
noncomputable def rLjust : V → List V → Hp → VK → Prop := fun x vs H Q => ∃ z n f, x = .str z ∧ vs = [.int n, .str f] ∧ PadOk n = true ∧ n ≤ 1000 ∧ f.length = 1 ∧ ∀ t : Str, t.length ≤ z.length + 1000 → Q (.str t) H
end
end L2
namespace L2
open PySem PySem.Spec PyProof.Rows
noncomputable def ltV0 : V → V → Bool
 | .str a, .str b => decide (a.cps.toList < b.cps.toList)
 | .int a, .int b => decide (a < b)
 | _, _ => false
noncomputable def eqD (H : Hp) : Nat → V → V → Bool
 | 0, x, y => eqV x y
 | n + 1, x, y => match tupOf H x, tupOf H y with
  | some xs, some ys => (List.range (min xs.length ys.length)).all (fun j => eqD H n (xs.getD j .non) (ys.getD j .non)) && xs.length == ys.length
  | _, _ => eqV x y
noncomputable def lexW (fin : Bool) (eq lt : V → V → Bool) : List V → List V → Bool
 | x :: xs, y :: ys => if eq x y then lexW fin eq lt xs ys else lt x y
 | _, _ => fin
noncomputable def ltD (H : Hp) : Nat → V → V → Bool
 | 0, x, y => ltV0 x y
 | n + 1, x, y => match tupOf H x, tupOf H y with
  | some xs, some ys => lexW (decide (xs.length < ys.length)) (eqD H n) (ltD H n) xs ys
  | _, _ => ltV0 x y
noncomputable def CmpE (H : Hp) : Nat → V → V → Prop
 | 0, x, y => (∃ i j, x = .str i ∧ y = .str j) ∨ ∃ i j, x = .int i ∧ y = .int j
 | n + 1, x, y => ((∃ i j, x = .str i ∧ y = .str j) ∨ ∃ i j, x = .int i ∧ y = .int j) ∨ ∃ a b xs ys, x = .ref a ∧ y = .ref b ∧ H a = some (.tup xs) ∧ H b = some (.tup ys) ∧ ∀ (i : Nat) u v, xs[i]? = some u → ys[i]? = some v → CmpE H n u v
theorem eqD_flat {H : Hp} {n : Nat} {x y : V} (h : (∃ i j, x = .str i ∧ y = .str j) ∨ ∃ i j, x = .int i ∧ y = .int j) : eqD H n x y = eqV x y ∧ ltD H n x y = ltV0 x y := by
 cases n with
 | zero => exact ⟨rfl, rfl⟩
 | succ n =>
  rcases h with ⟨i, j, rfl, rfl⟩ | ⟨i, j, rfl, rfl⟩ <;> exact ⟨rfl, rfl⟩
section
variable {X : Cx} {pins : List (Addr × Obj)} {σ : St} {H : Hp} {s : Shared} {k : Nat}
end
theorem CmpE.kp {H H' : Hp} (s : Kp H H') : ∀ {n : Nat} {x y : V}, CmpE H n x y → CmpE H' n x y
 | 0, _, _, h => h
 | n + 1, _, _, .inl h => .inl h
 | n + 1, _, _, .inr ⟨a, b, xs, ys, e1, e2, ha, hb, k⟩ => .inr ⟨a, b, xs, ys, e1, e2, s.tup ha, s.tup hb, fun i u v h1 h2 => CmpE.kp s (k i u v h1 h2)⟩
theorem all_on {α : Type} {f g : α → Bool} : ∀ {l : List α}, (∀ j ∈ l, f j = g j) → l.all f = l.all g
 | [], _ => rfl
 | a :: l, h => by rw [List.all_cons, List.all_cons, h a List.mem_cons_self, all_on fun j hj => h j (List.mem_cons_of_mem _ hj)]
theorem lexW_congr {fin : Bool} {eq lt eq' lt' : V → V → Bool} : ∀ {xs ys : List V}, (∀ (i : Nat) u v, xs[i]? = some u → ys[i]? = some v → eq' u v = eq u v ∧ lt' u v = lt u v) → lexW fin eq' lt' xs ys = lexW fin eq lt xs ys
 | [], _, _ => by unfold lexW; rfl
 | _ :: _, [], _ => by unfold lexW; rfl
 | x :: xs, y :: ys, h => by
  unfold lexW
  rw [(h 0 x y rfl rfl).1, (h 0 x y rfl rfl).2, lexW_congr fun i u v a b => h (i + 1) u v a b]
theorem CmpE.keeps {H H' : Hp} (s : Kp H H') : ∀ {n : Nat} {x y : V}, CmpE H n x y → eqD H' n x y = eqD H n x y ∧ ltD H' n x y = ltD H n x y
 | 0, _, _, _ => ⟨rfl, rfl⟩
 | n + 1, x, y, h => by
  rcases h with h | ⟨a, b, xs, ys, rfl, rfl, ha, hb, k⟩
  ·rw [(eqD_flat h).1, (eqD_flat h).2, (eqD_flat h).1, (eqD_flat h).2]; exact ⟨rfl, rfl⟩
  ·have ih : ∀ (i : Nat) u v, xs[i]? = some u → ys[i]? = some v → eqD H' n u v = eqD H n u v ∧ ltD H' n u v = ltD H n u v := fun i u v h1 h2 => CmpE.keeps s (k i u v h1 h2)
   constructor
   ·unfold eqD
    rw [tupOf_at ha, tupOf_at hb, tupOf_at (s.tup ha), tupOf_at (s.tup hb)]
    show ((List.range (min xs.length ys.length)).all _ && xs.length == ys.length) = ((List.range (min xs.length ys.length)).all _ && xs.length == ys.length)
    congr 1
    refine all_on fun j hj => ?_
    have hj := List.mem_range.mp hj
    have h1 : j < xs.length := by omega
    have h2 : j < ys.length := by omega
    rw [List.getD_eq_getElem?_getD, List.getD_eq_getElem?_getD, List.getElem?_eq_getElem h1, List.getElem?_eq_getElem h2]
    exact (ih j _ _ (List.getElem?_eq_getElem h1) (List.getElem?_eq_getElem h2)).1
   ·unfold ltD
    rw [tupOf_at ha, tupOf_at hb, tupOf_at (s.tup ha), tupOf_at (s.tup hb)]
    exact lexW_congr ih
end L2
namespace L2
open PySem PySem.Spec PyProof.Rows
section
open PySem.W
noncomputable def AlB {α : Type} (ans : Nat → Nat → Bool) (P : α → Prop) : KasT α → Prop
 | .ret a => P a
 | .ask i j k => AlB ans P (k (ans i j))
theorem AlB.bind {α β : Type} {ans : Nat → Nat → Bool} {P : α → Prop} {R : β → Prop} {f : α → KasT β} : ∀ {t : KasT α}, AlB ans P t → (∀ a, P a → AlB ans R (f a)) → AlB ans R (t.bind f)
 | .ret a, h, hf => hf a h
 | .ask i j k, h, hf => AlB.bind (t := k (ans i j)) h hf
theorem AlB.mono {α : Type} {ans : Nat → Nat → Bool} {P R : α → Prop} (hf : ∀ a, P a → R a) : ∀ {t : KasT α}, AlB ans P t → AlB ans R t
 | .ret a, h => hf a h
 | .ask i j k, h => AlB.mono hf (t := k (ans i j)) h
theorem AlB.run {α : Type} {n : Nat} {ans : Nat → Nat → Bool} {P R : α → Prop} {cmp : Nat → Nat → (Bool → Shared → Prop) → Shared → Prop} {G : α → Shared → Prop} {s : Shared}
  (hc : ∀ i j (C : Bool → Shared → Prop), i < n → j < n → C (ans i j) s → cmp i j C s) (hg : ∀ a, P a → R a → G a s) : ∀ {t : KasT α}, Al n P t → AlB ans R t → t.kasWp cmp G s
 | .ret a, h, h' => hg a h h'
 | .ask i j _, h, h' => hc i j _ h.1 h.2.1 (AlB.run hc hg (h.2.2 _) h')
variable (O : KeyOrd) (key : Nat → O.α)
noncomputable def Ky (p : Array Nat) (i : Nat) : O.α := key (p.getD i 0)
noncomputable def Upto (p : Array Nat) (k : Nat) : Prop := ∀ i j, i ≤ j → j < k → O.kle (Ky O key p i) (Ky O key p j)
noncomputable def Downto (p : Array Nat) (k : Nat) : Prop := ∀ i j, i ≤ j → j < k → O.kle (Ky O key p j) (Ky O key p i)
noncomputable abbrev anB (i j : Nat) : Bool := O.blt (key i) (key j)
variable {O} {key}
theorem Ky_of {p q : Array Nat} {i j : Nat} (h : p[i]? = q[j]?) : Ky O key p i = Ky O key q j := by
 unfold Ky
 rw [Array.getD_eq_getD_getElem?, Array.getD_eq_getD_getElem?, h]
theorem Ky_rev {p : Array Nat} {i j : Nat} (hj : j ≤ p.size) (k : Nat) : Ky O key (kas_rev p i j) k = if i ≤ k ∧ k < j then Ky O key p (i + j - 1 - k) else Ky O key p k := by
 have e := getElem?_mirror_all (xs := p) (i := i) hj k
 split
 ·rename_i h; rw [if_pos h] at e; exact Ky_of e
 ·rename_i h; rw [if_neg h] at e; exact Ky_of e
theorem rev_size (p : Array Nat) (i j : Nat) : (kas_rev p i j).size = p.size := mirror_size ..
theorem Ky_revE {p : Array Nat} {i j : Nat} (hj : j ≤ p.size) (he : ∀ k, i ≤ k → k < j → Ky O key p k = Ky O key p (j - 1)) (k : Nat) : Ky O key (kas_rev p i j) k = Ky O key p k := by
 rw [Ky_rev hj]
 split
 ·rename_i h; rw [he _ (by omega) (by omega), he k h.1 h.2]
 ·rfl
theorem Upto.more {p : Array Nat} {x : Nat} (h : Upto O key p x) (hx : 1 ≤ x) (hl : O.kle (Ky O key p (x - 1)) (Ky O key p x)) : Upto O key p (x + 1) := by
 intro i j hij hj
 by_cases h1 : j < x
 ·exact h i j hij h1
 ·have e : j = x := by omega
  subst e
  by_cases h2 : i = j
  ·subst h2; exact KeyOrd.kle_refl _
  ·exact KeyOrd.kle_trans (h i (j - 1) (by omega) (by omega)) hl
theorem Downto.more {p : Array Nat} {x : Nat} (h : Downto O key p x) (hx : 1 ≤ x) (hl : O.kle (Ky O key p x) (Ky O key p (x - 1))) : Downto O key p (x + 1) := by
 intro i j hij hj
 by_cases h1 : j < x
 ·exact h i j hij h1
 ·have e : j = x := by omega
  subst e
  by_cases h2 : i = j
  ·subst h2; exact KeyOrd.kle_refl _
  ·exact KeyOrd.kle_trans hl (h i (j - 1) (by omega) (by omega))
theorem b_asc {p : Array Nat} : ∀ (f m : Nat), 1 ≤ m → Upto O key p m → AlB (anB O key) (fun r => m ≤ r ∧ r ≤ m + f ∧ Upto O key p r ∧ (r = m + f ∨ O.klt (Ky O key p r) (Ky O key p (r - 1)))) (kas_asc p f m)
 | 0, m, _, h => ⟨Nat.le_refl _, Nat.le_refl _, h, .inl rfl⟩
 | f + 1, m, h1, h => by
  show AlB (anB O key) _ (if O.blt (Ky O key p m) (Ky O key p (m - 1)) = true then _ else _)
  cases e : O.blt (Ky O key p m) (Ky O key p (m - 1)) with
  | true =>
   rw [if_pos rfl]
   exact ⟨Nat.le_refl _, by omega, h, .inr e⟩
  | false =>
   rw [if_neg Bool.false_ne_true]
   refine (b_asc f (m + 1) (by omega) (h.more h1 e)).mono fun r ⟨a, b, c, d⟩ => ⟨by omega, by omega, c, ?_⟩
   rcases d with d | d
   ·exact .inl (by omega)
   ·exact .inr d
noncomputable def Eqs (O : KeyOrd) (key : Nat → O.α) (p : Array Nat) (m q : Nat) : Prop := q + 1 ≤ m ∧ ∀ i, m - (q + 1) ≤ i → i < m → Ky O key p i = Ky O key p (m - 1)
theorem Eqs.none {p : Array Nat} {m : Nat} (h : 1 ≤ m) : Eqs O key p m 0 := ⟨by omega, fun i h1 h2 => by rw [show i = m - 1 by omega]⟩
theorem b_desc : ∀ (f : Nat) (p : Array Nat) (m q : Nat), 1 ≤ m → m + f ≤ p.size → Downto O key p m → Eqs O key p m q → AlB (anB O key) (fun r : Array Nat × Nat × Nat => r.1.size = p.size ∧ m ≤ r.2.1 ∧ r.2.1 ≤ m + f ∧ Downto O key r.1 r.2.1 ∧ Eqs O key r.1 r.2.1 r.2.2) (kas_desc f p m q)
 | 0, p, m, q, _, _, h, he => ⟨rfl, Nat.le_refl _, Nat.le_refl _, h, he⟩
 | f + 1, p, m, q, h1, hz, h, he => by
  show AlB (anB O key) _ (if O.blt (Ky O key p m) (Ky O key p (m - 1)) = true then (if q > 0 then kas_desc f (kas_rev p (m - (q + 1)) m) (m + 1) 0 else kas_desc f p (m + 1) 0) else _)
  cases e : O.blt (Ky O key p m) (Ky O key p (m - 1)) with
  | true =>
   rw [if_pos rfl]
   have hd := h.more h1 (KeyOrd.kle_of_klt e)
   split
   ·have ev : ∀ k, Ky O key (kas_rev p (m - (q + 1)) m) k = Ky O key p k := Ky_revE (by omega) he.2
    have hd' : Downto O key (kas_rev p (m - (q + 1)) m) (m + 1) := fun i j a b => by rw [ev, ev]; exact hd i j a b
    refine (b_desc f _ (m + 1) 0 (by omega) (by rw [rev_size]; omega) hd' (Eqs.none (by omega))).mono fun r ⟨a, b, c, d, z⟩ => ⟨by rw [a, rev_size], by omega, by omega, d, z⟩
   ·exact (b_desc f p (m + 1) 0 (by omega) (by omega) hd (Eqs.none (by omega))).mono fun r ⟨a, b, c, d, z⟩ => ⟨a, by omega, by omega, d, z⟩
  | false =>
   rw [if_neg Bool.false_ne_true]
   show AlB (anB O key) _ (if O.blt (Ky O key p (m - 1)) (Ky O key p m) = true then _ else _)
   cases e2 : O.blt (Ky O key p (m - 1)) (Ky O key p m) with
   | true =>
    rw [if_pos rfl]
    exact ⟨rfl, Nat.le_refl _, Nat.le_add_right m (f + 1), h, he⟩
   | false =>
    rw [if_neg Bool.false_ne_true]
    have eq : Ky O key p m = Ky O key p (m - 1) := KeyOrd.kle_antisymm e2 e
    refine (b_desc f p (m + 1) (q + 1) (by omega) (by omega) (h.more h1 (by rw [eq]; exact KeyOrd.kle_refl _)) ⟨by have := he.1; omega, fun i a b => ?_⟩).mono fun r ⟨a, b, c, d, z⟩ => ⟨a, by omega, by omega, d, z⟩
    rw [show m + 1 - 1 = m by omega]
    by_cases hi : i = m
    ·rw [hi]
    ·rw [eq]; exact he.2 i (by omega) (by omega)
theorem b_tail3 {p : Array Nat} {m k : Nat} (h1 : 1 ≤ m) (hk : m ≤ k) (hz : k ≤ p.size) (h : Downto O key p m) : AlB (anB O key) (fun r : Nat × Array Nat => 1 ≤ r.1 ∧ r.1 ≤ k ∧ r.2.size = p.size ∧ Upto O key r.2 r.1) (kas_tail3 m k p) := by
 have hu : Upto O key (kas_rev p 0 m) m := fun i j a b => by
  rw [Ky_rev (by omega), Ky_rev (by omega), if_pos (by omega), if_pos (by omega)]
  exact h _ _ (by omega) (by omega)
 exact (b_asc (k - m) m h1 hu).bind fun r ⟨a, b, c, _⟩ => ⟨by omega, by omega, rev_size .., c⟩
theorem b_descPart {p : Array Nat} {m k : Nat} (hk : m + 1 ≤ k) (hz : k ≤ p.size) (h : Downto O key p (m + 1)) : AlB (anB O key) (fun r : Nat × Array Nat => 1 ≤ r.1 ∧ r.1 ≤ k ∧ r.2.size = p.size ∧ Upto O key r.2 r.1) (kas_descPart m k p) := by
 refine (b_desc (k - (m + 1)) p (m + 1) 0 (by omega) (by omega) h (Eqs.none (by omega))).bind fun r ⟨a, b, c, d, z⟩ => ?_
 split
 ·have ev : ∀ i, Ky O key (kas_rev r.1 (r.2.1 - (r.2.2 + 1)) r.2.1) i = Ky O key r.1 i := Ky_revE (by omega) z.2
  refine (b_tail3 (p := kas_rev r.1 (r.2.1 - (r.2.2 + 1)) r.2.1) (by omega) (by omega) (by rw [rev_size]; omega) fun i j x y => ?_).mono fun r' ⟨x, y, w, v⟩ => ⟨x, y, by rw [w, rev_size, a], v⟩
  rw [ev, ev]; exact d i j x y
 ·exact (b_tail3 (by omega) (by omega) (by omega) d).mono fun r' ⟨x, y, w, v⟩ => ⟨x, y, by rw [w, a], v⟩
theorem b_count {p : Array Nat} {k : Nat} (h1 : 1 ≤ k) (hz : k ≤ p.size) : AlB (anB O key) (fun r : Nat × Array Nat => 1 ≤ r.1 ∧ r.1 ≤ k ∧ r.2.size = p.size ∧ Upto O key r.2 r.1) (kas_count k p) := by
 have u1 : Upto O key p 1 := fun i j a b => by rw [show i = j by omega]; exact KeyOrd.kle_refl _
 refine (b_asc (k - 1) 1 (Nat.le_refl _) u1).bind fun m ⟨a, b, c, d⟩ => ?_
 by_cases hm : m = k
 ·rw [if_pos (by simpa using hm)]
  exact ⟨a, by omega, rfl, c⟩
 ·rw [if_neg (by simpa using hm)]
  have lt : O.klt (Ky O key p m) (Ky O key p (m - 1)) := d.resolve_left (by omega)
  by_cases h2 : m > 1
  ·rw [if_pos h2]
   show AlB (anB O key) _ (if O.blt (Ky O key p 0) (Ky O key p (m - 1)) = true then _ else _)
   cases e : O.blt (Ky O key p 0) (Ky O key p (m - 1)) with
   | true =>
    rw [if_pos rfl]
    exact ⟨a, by omega, rfl, c⟩
   | false =>
    rw [if_neg Bool.false_ne_true]
    have al : ∀ i, 0 ≤ i → i < m → Ky O key p i = Ky O key p (m - 1) := fun i _ hi =>
     KeyOrd.kle_antisymm (c i (m - 1) (by omega) (by omega)) (KeyOrd.kle_trans e (c 0 i (by omega) hi))
    have ev : ∀ i, Ky O key (kas_rev p 0 m) i = Ky O key p i := Ky_revE (by omega) al
    have dm : Downto O key p m := fun i j x y => by rw [al i (by omega) (by omega), al j (by omega) y]; exact KeyOrd.kle_refl _
    have dn := dm.more a (KeyOrd.kle_of_klt lt)
    refine (b_descPart (p := kas_rev p 0 m) (by omega) (by rw [rev_size]; omega) fun i j x y => ?_).mono fun r' ⟨x, y, w, v⟩ => ⟨x, y, by rw [w, rev_size], v⟩
    rw [ev, ev]; exact dn i j x y
  ·rw [if_neg h2]
   have e1 : m = 1 := by omega
   subst e1
   have d1 : Downto O key p 1 := fun i j x y => by rw [show i = j by omega]; exact KeyOrd.kle_refl _
   exact b_descPart (by omega) hz (d1.more (Nat.le_refl _) (KeyOrd.kle_of_klt lt))
theorem b_place {p : Array Nat} {k : Nat} (h : Upto O key p k) : ∀ (f l r : Nat), l ≤ r → r ≤ k → r - l ≤ f → (∀ i, i < l → O.kle (Ky O key p i) (Ky O key p k)) → (∀ i, r ≤ i → i < k → O.klt (Ky O key p k) (Ky O key p i)) →
  AlB (anB O key) (fun l => l ≤ k ∧ (∀ i, i < l → O.kle (Ky O key p i) (Ky O key p k)) ∧ ∀ i, l ≤ i → i < k → O.klt (Ky O key p k) (Ky O key p i)) (kas_place p k f l r)
 | 0, l, r, h1, h2, h3, ha, hb => by
  have e : l = r := by omega
  subst e
  exact ⟨h2, ha, hb⟩
 | f + 1, l, r, h1, h2, h3, ha, hb => by
  unfold kas_place
  split
  ·have e : l = r := by omega
   subst e
   exact ⟨h2, ha, hb⟩
  ·show AlB (anB O key) _ (if O.blt (Ky O key p k) (Ky O key p ((l + r) / 2)) = true then _ else _)
   cases e : O.blt (Ky O key p k) (Ky O key p ((l + r) / 2)) with
   | true =>
    rw [if_pos rfl]
    exact b_place h f l ((l + r) / 2) (by omega) (by omega) (by omega) ha fun i a b => KeyOrd.klt_of_klt_of_kle e (h _ _ a b)
   | false =>
    rw [if_neg Bool.false_ne_true]
    exact b_place h f ((l + r) / 2 + 1) r (by omega) h2 (by omega) (fun i a => KeyOrd.kle_trans (h i ((l + r) / 2) (by omega) (by omega)) e) hb
theorem Ky_bub {p : Array Nat} {k d : Nat} (hk : k < p.size) (hd : d ≤ k) (i : Nat) : Ky O key (bubble p k d) i = if i = k - d then Ky O key p k else if k - d < i ∧ i ≤ k then Ky O key p (i - 1) else Ky O key p i := by
 have e := getElem?_bubble hk d hd i
 by_cases h1 : i = k - d
 ·rw [if_pos h1] at e ⊢; exact Ky_of e
 ·rw [if_neg h1] at e ⊢
  by_cases h2 : k - d < i ∧ i ≤ k
  ·rw [if_pos h2] at e ⊢; exact Ky_of e
  ·rw [if_neg h2] at e ⊢; exact Ky_of e
theorem b_bin : ∀ (f : Nat) (p : Array Nat) (k : Nat), k + f ≤ p.size → Upto O key p k → AlB (anB O key) (fun q => Upto O key q (k + f)) (kas_bin f p k)
 | 0, p, k, _, h => h
 | f + 1, p, k, hz, h => by
  refine (b_place h k 0 k (by omega) (Nat.le_refl _) (by omega) (fun i hi => by omega) (fun i a b => by omega)).bind fun l ⟨hl, ha, hb⟩ => ?_
  have hu : Upto O key (bubble p k (k - l)) (k + 1) := fun i j x y => by
   rw [Ky_bub (by omega) (by omega), Ky_bub (by omega) (by omega), show k - (k - l) = l by omega]
   by_cases j1 : j = l
   ·rw [if_pos j1]
    by_cases i1 : i = l
    ·rw [if_pos i1]; exact KeyOrd.kle_refl _
    ·rw [if_neg i1, if_neg (show ¬ (l < i ∧ i ≤ k) by omega)]; exact ha i (by omega)
   ·rw [if_neg j1]
    by_cases j2 : l < j
    ·rw [if_pos (show l < j ∧ j ≤ k from ⟨j2, by omega⟩)]
     by_cases i1 : i = l
     ·rw [if_pos i1]; exact KeyOrd.kle_of_klt (hb (j - 1) (by omega) (by omega))
     ·rw [if_neg i1]
      by_cases i2 : l < i
      ·rw [if_pos (show l < i ∧ i ≤ k from ⟨i2, by omega⟩)]; exact h _ _ (by omega) (by omega)
      ·rw [if_neg (show ¬ (l < i ∧ i ≤ k) by omega)]; exact h _ _ (by omega) (by omega)
    ·rw [if_neg (show ¬ (l < j ∧ j ≤ k) by omega), if_neg (show ¬ i = l by omega), if_neg (show ¬ (l < i ∧ i ≤ k) by omega)]; exact h _ _ x (by omega)
  have := b_bin f (bubble p k (k - l)) (k + 1) (by rw [bubble_size]; omega) hu
  rw [show k + 1 + f = k + (f + 1) by omega] at this
  exact this
theorem b_sort {n : Nat} (h1 : 1 ≤ n) : AlB (anB O key) (fun q => Upto O key q n) (kas_sort n) := by
 have hs : (List.toArray (List.range n)).size = n := by simp
 refine (b_count h1 (p := List.toArray (List.range n)) (by rw [hs]; exact Nat.le_refl _)).bind fun r ⟨a, b, c, d⟩ => ?_
 rw [hs] at c
 split
 ·have := b_bin (n - max r.1 1) r.2 (max r.1 1) (by omega) (by rw [show max r.1 1 = r.1 by omega]; exact d)
  rw [show max r.1 1 + (n - max r.1 1) = n by omega] at this
  exact this
 ·have e : r.1 = n := by omega
  rw [e] at d
  exact d
end
end L2
namespace L2
open PySem PySem.Spec PyProof.Rows
section
open PySem.W
variable {prog : Program} {w : World} {A : Around} {E : Value → Shared → Prop} {s : Shared}
theorem range_get (vs : List Value) : (List.range vs.length).map (fun i => vs.getD i Value.none) = vs := by
 apply List.ext_getElem
 ·simp
 ·intro i a1 a2
  simp [List.getElem?_eq_getElem a2]
noncomputable def RanksG (prog : Program) (w : World) (A : Around) (vs : List Value) (R : Array Nat → Prop) (s : Shared) : Prop :=
 ∃ κ : SortKind, (∀ (Q : SortKind → Shared → Prop) (E : Value → Shared → Prop), Q κ s → wpAny (model prog w) A (keyKind' vs.toArray) Q E s) ∧
  ∀ G : Array Nat → Shared → Prop, (∀ p, Rng vs.length p → R p → G p s) → (kas_sort vs.length).kasWp (kas_ask prog w A κ vs) G s
theorem sort_ranG {R : Array Nat → Prop} {a : Addr} {vs : List Value} {n : Nat} {P : PySem.Fin → Shared → Prop} (ho : s.heap.get? a = some (seqObj "list" vs.toArray n)) (h64 : vs.length < 64)
  (hk : 2 ≤ vs.length → ∀ h' : Heap, (∀ b o, b ≠ a → s.heap.get? b = some o → h'.get? b = some o) → RanksG prog w A vs R { s with heap := h' }) (hR : vs.length < 2 → R (List.range vs.length).toArray)
  (h : ∀ (out : Array Value) (p : Array Nat), Rng vs.length p → R p → out.toList = p.toList.map (fun i => vs.getD i Value.none) → P (.done (.ret .none)) { s with heap := sortedHeap s.heap a vs out }) : wpAny (model prog w) A (Builtin.«list.sort» ⟨[.ref a], []⟩) P E s := by
 have la : a < s.heap.objs.size := Heap.lt_size ho
 have small : vs.length ≤ sizeLine := by rw [sizeLine_eq]; omega
 obtain ⟨e1, k1⟩ : ∃ e1, (s.heap.update a (Obj.mapSeq fun _ => (#[] : Array Value))).get? a = some (seqObj "list" #[] e1) := ⟨_, get?_update_seq ho fun _ => #[]⟩
 generalize hU : s.heap.update a (Obj.mapSeq fun _ => (#[] : Array Value)) = U at k1
 have zU : U.objs.size = s.heap.objs.size := by rw [← hU]; exact Heap.size_update ..
 have kp : ∀ b o, b ≠ a → s.heap.get? b = some o → ((U.push (seqObj "tuple" vs.toArray 0)).push (seqObj "list" #[] 0)).get? b = some o := fun b o nb gb => by
  refine Heap.get?_push_of_some _ (Heap.get?_push_of_some _ ?_)
  rw [← hU, Heap.get?_update_ne _ _ _ _ nb]; exact gb
 have k2 : ((U.push (seqObj "tuple" vs.toArray 0)).push (seqObj "list" #[] 0)).get? a = some (seqObj "list" #[] e1) := Heap.get?_push_of_some _ (Heap.get?_push_of_some _ k1)
 rw [list_sort_plain]
 refine wpAny_bind (listItems_at ho rfl (wpAny_bind (listUpdate_at ho rfl ?_ (by simpa using small) (Nat.zero_le _))))
 have k1' := k1
 rw [← hU] at k1'
 refine wpAny_bind (seqEpoch_at k1' rfl (wpAny_bind (wpAny_newTuple (wpAny_bind (wpAny_newList (wpAny_holding ?_) (Nat.zero_le _))) (by simpa using small))))
 rw [hU]
 show wpAny (model prog w) A _ P E { s with heap := (U.push (seqObj "tuple" vs.toArray 0)).push (seqObj "list" #[] 0) }
 have fin : ∀ (out : Array Value) (p : Array Nat), Rng vs.length p → R p → out.toList = p.toList.map (fun i => vs.getD i Value.none) → P (.done (.ret .none)) { s with heap := ((U.push (seqObj "tuple" vs.toArray 0)).push (seqObj "list" #[] 0)).update a (Obj.mapSeq fun _ => out) } := fun out p h1 h2 h3 => by
  have := h out p h1 h2 h3
  unfold sortedHeap at this
  rw [hU] at this
  exact this
 dsimp only
 by_cases h2 : vs.toArray.size < 2
 ·rw [if_pos h2, if_pos h2]
  refine wpAny_bind (wpAny_pure ?_)
  rw [StateT.run_pure]
  refine wpAny_bind (wpAny_pure ?_)
  dsimp only
  have ev : ((vs.toArray.zip vs.toArray).map fun x => x.2).toList = vs := by simp [List.map_snd_zip]
  refine wpAny_bind (seqEpoch_at k2 rfl (wpAny_bind (listUpdate_at k2 rfl ?_ (Nat.zero_le _) ?_)))
  ·simp only [bne_self_eq_false, Bool.false_eq_true, if_false]
   exact wpAny_pure (fin _ (List.range vs.length).toArray (Array.Perm.refl _) (hR (by rw [List.size_toArray] at h2; exact h2)) (by rw [show (arrOf (SortSt.mk' general' (vs.toArray.zip vs.toArray) #[] 7 none)) = vs.toArray.zip vs.toArray from rfl, ev, List.toList_toArray, range_get]))
  ·rw [← Array.length_toList, show (arrOf (SortSt.mk' general' (vs.toArray.zip vs.toArray) #[] 7 none)) = vs.toArray.zip vs.toArray from rfl, ev]; exact Nat.le_succ_of_le small
 ·rw [if_neg h2, if_neg h2]
  have l2 : 2 ≤ vs.length := by rw [List.size_toArray] at h2; omega
  obtain ⟨κ, kd, ak⟩ := hk l2 _ kp
  refine wpAny_bind (kd _ _ ?_)
  refine wpAny_bind (wpAny_mono (kat_run (ks := vs) (vs := vs) (Q := fun st' s' => s' = { s with heap := (U.push (seqObj "tuple" vs.toArray 0)).push (seqObj "list" #[] 0) } ∧ ∃ p : Array Nat, (Rng vs.length p ∧ R p) ∧ arrOf st' = p.map (kas_item (vs.toArray.zip vs.toArray)) ∧ failedOf st' = none)
   (G := fun p s' => s' = { s with heap := (U.push (seqObj "tuple" vs.toArray 0)).push (seqObj "list" #[] 0) } ∧ Rng vs.length p ∧ R p) rfl l2 h64 (fun p st' s' _ ar fl g => ⟨g.1, p, g.2, ar, fl⟩) (ak _ fun p h1 h2 => ⟨rfl, h1, h2⟩)) ?_ fun _ _ e => e)
  rintro ⟨⟨⟩, st'⟩ s' ⟨rfl, p, ⟨hp, hr⟩, ar, fl⟩
  dsimp only
  have out := kat_snds rfl ar
  have pm := hp.perm
  rw [out]
  refine wpAny_bind (seqEpoch_at k2 rfl (wpAny_bind (listUpdate_at k2 rfl ?_ (Nat.zero_le _) ?_)))
  ·rw [fl]
   simp only [bne_self_eq_false, Bool.false_eq_true, if_false]
   exact wpAny_pure (fin _ p hp hr (by simp))
  ·rw [List.size_toArray, pm.length_eq]; exact Nat.le_succ_of_le small
theorem sorted_ranG {R : Array Nat → Prop} {l : Addr} {vs : List Value} {Q : Value → Shared → Prop} (hl : s.heap.IsList l vs.toArray) (h64 : vs.length < 64)
  (hk : 2 ≤ vs.length → ∀ h' : Heap, (∀ b o, s.heap.get? b = some o → h'.get? b = some o) → RanksG prog w A.in1.in1 vs R { s with heap := h' }) (hR : vs.length < 2 → R (List.range vs.length).toArray)
  (h : ∀ (out : Array Value) (p : Array Nat), Rng vs.length p → R p → out.toList = p.toList.map (fun i => vs.getD i Value.none) → Q (.ref (s.heap.objs.size + 1)) { s with heap := sortedAll s.heap vs out }) : wpAny (model prog w) A (call (.builtin "sorted") [.ref l]) Q E s := by
 have small : vs.length ≤ sizeLine := by rw [sizeLine_eq]; omega
 refine Calls.call_function_entry kind_sorted plain_sorted entry_sorted (args_sorted1 _) ?_
 unfold Builtin.«sorted»
 refine wpAny_bind (m := checkCount "sorted" 1 1 _) (wpAny_pure (wpAny_bind (collect_list hl (wpAny_bind (wpAny_newList ?_ (by simpa using small))) (by simpa using small))))
 generalize hU : (s.heap.push (seqObj "list" #[] 0)).update s.heap.objs.size (Obj.mapSeq (· ++ vs.toArray)) = U
 have zU : U.objs.size = s.heap.objs.size + 1 := by rw [← hU, Heap.size_update]; exact size_push' ..
 have kU : ∀ b o, s.heap.get? b = some o → U.get? b = some o := fun b o gb => by
  rw [← hU, Heap.get?_update_ne _ _ _ _ (Nat.ne_of_lt (Heap.lt_size gb))]
  exact Heap.get?_push_of_some _ gb
 have at' : (U.push (seqObj "list" vs.toArray 0)).get? (s.heap.objs.size + 1) = some (seqObj "list" vs.toArray 0) := by rw [← zU]; exact Heap.get?_push_size _ rfl
 show wpAny _ _ _ _ _ { s with heap := U.push (seqObj "list" vs.toArray 0) }
 rw [zU]
 refine wpAny_bind (wpAny_holding (wpAny_call_entry slot_list_sort ⟨_, at', rfl⟩ entry_list_sort ?bd (args_list_sort _)))
 case bd =>
  refine sort_ranG at' h64 (fun l2 h' kp => hk l2 h' fun b o gb => kp b o (Nat.ne_of_lt (Nat.lt_succ_of_lt (Heap.lt_size gb))) (Heap.get?_push_of_some _ (kU b o gb))) hR fun out p p1 p2 p3 => ⟨_, rfl, wpAny_pure ⟨_, rfl, ?_⟩⟩
  have := h out p p1 p2 p3
  unfold sortedAll at this
  rw [hU] at this
  exact this
end
end L2
namespace L2
open PySem PySem.Spec PyProof.Rows
section
open PySem.W
variable {X : Cx} {pins : List (Addr × Obj)} {σ : St} {H : Hp} {s : Shared} {k : Nat}
noncomputable def LedE (H : Hp) (y : V) : Prop := ∃ a n us, y = .ref a ∧ H a = some (.tup (.str n :: us))
theorem LedE.led {K : PySem.W.Frag} {y : V} (h : LedE H y) : Led K H (fun v => (tupOf H v).getD []) y := by
 obtain ⟨a, n, us, rfl, e⟩ := h
 exact ⟨a, n, us, rfl, by dsimp only; rw [tupOf_at e]; rfl, SqT.of e⟩
theorem vals_pickE {ys : List V} {vs : List Value} (r : Vals ys vs) : ∀ ps : List Nat, (∀ i ∈ ps, i < vs.length) → Vals (ps.map fun i => ys.getD i .non) (ps.map fun i => vs.getD i Value.none)
 | [], _ => .nil
 | i :: ps, h => by
  have hlen := r.length
  have hi := h i List.mem_cons_self
  obtain ⟨x, hx, rx⟩ := r.get' (show vs[i]? = some vs[i] by simp)
  refine .cons ?_ (vals_pickE r ps fun j hj => h j (List.mem_cons_of_mem _ hj))
  dsimp only
  rw [List.getD_eq_getElem?_getD, hx, List.getD_eq_getElem?_getD, List.getElem?_eq_getElem hi]
  exact rx
end
end L2
namespace L2
open PySem PySem.Spec PyProof.Rows
noncomputable def intO : KeyOrd where
 α := Int
 blt a b := decide (a < b)
 irrefl a := decide_eq_false (by omega)
 trans a b c h1 h2 := decide_eq_true (by have := of_decide_eq_true h1; have := of_decide_eq_true h2; omega)
 negTrans a b c h := by
  have h := of_decide_eq_true h
  by_cases g : a < b
  ·exact .inl (decide_eq_true g)
  ·exact .inr (decide_eq_true (by omega))
 total a b h1 h2 := by have := of_decide_eq_false h1; have := of_decide_eq_false h2; omega
theorem ko_asym {A : KeyOrd} {a b : A.α} (h : A.blt a b = true) : A.blt b a = false := KeyOrd.klt_asymm (O := A) h
theorem ko_cases {A : KeyOrd} (a b : A.α) : (A.blt a b = true ∧ A.blt b a = false) ∨ (A.blt b a = true ∧ A.blt a b = false) ∨ (a = b) := by
 cases h1 : A.blt a b with
 | true => exact .inl ⟨rfl, ko_asym h1⟩
 | false =>
  cases h2 : A.blt b a with
  | true => exact .inr (.inl ⟨rfl, rfl⟩)
  | false => exact .inr (.inr (A.total a b h1 h2))
noncomputable def stepB (A : KeyOrd) (a b : A.α) (r : Bool) : Bool := A.blt a b || (!A.blt b a && r)
theorem stepB_lt {A : KeyOrd} {a b : A.α} {r : Bool} (h : A.blt a b = true) : stepB A a b r = true := by unfold stepB; rw [h]; rfl
theorem stepB_gt {A : KeyOrd} {a b : A.α} {r : Bool} (h : A.blt b a = true) : stepB A a b r = false := by unfold stepB; rw [h, ko_asym h]; rfl
theorem stepB_eq {A : KeyOrd} {a : A.α} {r : Bool} : stepB A a a r = r := by unfold stepB; rw [A.irrefl]; rfl
theorem stepB_trans {A : KeyOrd} {a b c : A.α} {r r' r'' : Bool} (hr : r = true → r' = true → r'' = true) (h1 : stepB A a b r = true) (h2 : stepB A b c r' = true) : stepB A a c r'' = true := by
 rcases ko_cases (A := A) a b with ⟨x, _⟩ | ⟨x, _⟩ | x
 ·rcases ko_cases (A := A) b c with ⟨y, _⟩ | ⟨y, _⟩ | y
  ·exact stepB_lt (A.trans _ _ _ x y)
  ·rw [stepB_gt y] at h2; cases h2
  ·rw [← y]; exact stepB_lt x
 ·rw [stepB_gt x] at h1; cases h1
 ·subst x
  rw [stepB_eq] at h1
  rcases ko_cases (A := A) a c with ⟨y, _⟩ | ⟨y, _⟩ | y
  ·exact stepB_lt y
  ·rw [stepB_gt y] at h2; cases h2
  ·subst y
   rw [stepB_eq] at h2 ⊢
   exact hr h1 h2
theorem stepB_neg {A : KeyOrd} {a b c : A.α} {r r' r'' : Bool} (hr : r'' = true → r = true ∨ r' = true) (h : stepB A a c r'' = true) : stepB A a b r = true ∨ stepB A b c r' = true := by
 rcases ko_cases (A := A) a b with ⟨x, _⟩ | ⟨x, _⟩ | x
 ·exact .inl (stepB_lt x)
 ·right
  rcases ko_cases (A := A) a c with ⟨y, _⟩ | ⟨y, _⟩ | y
  ·exact stepB_lt (A.trans _ _ _ x y)
  ·rw [stepB_gt y] at h; cases h
  ·rw [← y]; exact stepB_lt x
 ·subst x
  rcases ko_cases (A := A) a c with ⟨y, _⟩ | ⟨y, _⟩ | y
  ·exact .inr (stepB_lt y)
  ·rw [stepB_gt y] at h; cases h
  ·subst y
   rw [stepB_eq] at h ⊢
   rw [stepB_eq]
   exact hr h
theorem stepB_total {A : KeyOrd} {a b : A.α} {r r' : Bool} (h1 : stepB A a b r = false) (h2 : stepB A b a r' = false) : a = b ∧ r = false ∧ r' = false := by
 rcases ko_cases (A := A) a b with ⟨x, _⟩ | ⟨x, _⟩ | x
 ·rw [stepB_lt x] at h1; cases h1
 ·rw [stepB_lt x] at h2; cases h2
 ·subst x
  rw [stepB_eq] at h1 h2
  exact ⟨rfl, h1, h2⟩
noncomputable def prodO (A B : KeyOrd) : KeyOrd where
 α := A.α × B.α
 blt x y := stepB A x.1 y.1 (B.blt x.2 y.2)
 irrefl a := by rw [stepB_eq]; exact B.irrefl _
 trans a b c h1 h2 := stepB_trans (fun x y => B.trans _ _ _ x y) h1 h2
 negTrans a b c h := stepB_neg (fun x => B.negTrans _ b.2 _ x) h
 total a b h1 h2 := by
  obtain ⟨x, y, z⟩ := stepB_total h1 h2
  exact Prod.ext x (B.total _ _ y z)
noncomputable def listB (A : KeyOrd) : List A.α → List A.α → Bool
 | [], [] => false
 | [], _ :: _ => true
 | _ :: _, [] => false
 | x :: xs, y :: ys => stepB A x y (listB A xs ys)
theorem listB_irr {A : KeyOrd} : ∀ xs : List A.α, listB A xs xs = false
 | [] => rfl
 | x :: xs => by unfold listB; rw [stepB_eq]; exact listB_irr xs
theorem listB_trans {A : KeyOrd} : ∀ xs ys zs : List A.α, listB A xs ys = true → listB A ys zs = true → listB A xs zs = true
 | [], [], _, h, _ => by cases h
 | [], _ :: _, [], _, h => by cases h
 | [], _ :: _, _ :: _, _, _ => rfl
 | _ :: _, [], _, h, _ => by cases h
 | _ :: _, _ :: _, [], _, h => by cases h
 | x :: xs, y :: ys, z :: zs, h1, h2 => stepB_trans (listB_trans xs ys zs) h1 h2
theorem listB_neg {A : KeyOrd} : ∀ xs ys zs : List A.α, listB A xs zs = true → listB A xs ys = true ∨ listB A ys zs = true
 | [], [], zs, h => .inr h
 | [], _ :: _, _, _ => .inl rfl
 | _ :: _, _, [], h => by cases h
 | _ :: _, [], _ :: _, _ => .inr rfl
 | x :: xs, y :: ys, z :: zs, h => stepB_neg (listB_neg xs ys zs) h
theorem listB_total {A : KeyOrd} : ∀ xs ys : List A.α, listB A xs ys = false → listB A ys xs = false → xs = ys
 | [], [], _, _ => rfl
 | [], _ :: _, h, _ => by cases h
 | _ :: _, [], _, h => by cases h
 | x :: xs, y :: ys, h1, h2 => by
  obtain ⟨a, b, c⟩ := stepB_total h1 h2
  rw [a, listB_total xs ys b c]
noncomputable def listO (A : KeyOrd) : KeyOrd := ⟨List A.α, listB A, listB_irr, listB_trans, listB_neg, listB_total⟩
noncomputable def letO : KeyOrd := prodO strKind.toKeyOrd (prodO intO (prodO strKind.toKeyOrd (listO strKind.toKeyOrd)))
end L2
namespace L2
open PySem PySem.Spec PyProof.Rows
noncomputable abbrev strO : KeyOrd := strKind.toKeyOrd
theorem str_cps {a b : Str} (h : a.cps.toList = b.cps.toList) : a = b := by
 cases a with
 | mk x =>
  cases b with
  | mk y => congr 1; exact Array.toList_inj.mp h
theorem step_str {n m : Str} {R : Bool} : (if eqV (.str n) (.str m) = true then R else ltV0 (.str n) (.str m)) = stepB strO n.cps.toList m.cps.toList R := by
 show (if (n == m) = true then R else decide (n.cps.toList < m.cps.toList)) = _
 by_cases e : n = m
 ·subst e
  rw [if_pos (beq_self_eq_true n), stepB_eq]
 ·rw [if_neg (by simpa using e)]
  rcases ko_cases (A := strO) n.cps.toList m.cps.toList with ⟨x, _⟩ | ⟨x, y⟩ | x
  ·rw [stepB_lt x]; exact x
  ·rw [stepB_gt x]; exact y
  ·exact absurd (str_cps x) e
theorem step_int {n m : Int} {R : Bool} : (if eqV (.int n) (.int m) = true then R else ltV0 (.int n) (.int m)) = stepB intO n m R := by
 show (if (n == m) = true then R else decide (n < m)) = _
 by_cases e : n = m
 ·subst e
  rw [if_pos (beq_self_eq_true n)]
  exact (stepB_eq (A := intO) (a := n)).symm
 ·rw [if_neg (by simpa using e)]
  rcases ko_cases (A := intO) n m with ⟨x, _⟩ | ⟨x, y⟩ | x
  ·rw [stepB_lt x]; exact x
  ·rw [stepB_gt x]; exact y
  ·exact absurd x e
theorem lex_strs {fin : Bool} : ∀ (rs qs : List Str), fin = decide (rs.length < qs.length) → lexW fin eqV ltV0 (rs.map V.str) (qs.map V.str) = listB strO (rs.map fun x => x.cps.toList) (qs.map fun x => x.cps.toList)
 | [], [], h => by rw [h]; rfl
 | [], _ :: _, h => by rw [h]; exact decide_eq_true (by simp)
 | _ :: _, [], h => by rw [h]; exact decide_eq_false (by simp)
 | r :: rs, q :: qs, h => by
  show (if eqV (.str r) (.str q) = true then lexW fin eqV ltV0 (rs.map V.str) (qs.map V.str) else ltV0 (.str r) (.str q)) = stepB strO r.cps.toList q.cps.toList (listB strO (rs.map fun x => x.cps.toList) (qs.map fun x => x.cps.toList))
  rw [step_str, lex_strs rs qs (by rw [h]; simp)]
theorem cps_inj : ∀ {rs qs : List Str}, rs.map (fun x => x.cps.toList) = qs.map (fun x => x.cps.toList) → rs = qs
 | [], [], _ => rfl
 | [], _ :: _, h => by cases h
 | _ :: _, [], h => by cases h
 | r :: rs, q :: qs, h => by
  rw [List.map_cons, List.map_cons] at h
  injection h with h1 h2
  rw [str_cps h1, cps_inj h2]
theorem eq_strs {H : Hp} {a b : Addr} {rs qs : List Str} (ha : H a = some (.tup (rs.map V.str))) (hb : H b = some (.tup (qs.map V.str))) : eqD H 1 (.ref a) (.ref b) = decide (rs = qs) := by
 unfold eqD
 rw [tupOf_at ha, tupOf_at hb]
 show ((List.range (min (rs.map V.str).length (qs.map V.str).length)).all (fun j => eqV ((rs.map V.str).getD j .non) ((qs.map V.str).getD j .non)) && (rs.map V.str).length == (qs.map V.str).length) = _
 rw [List.length_map, List.length_map]
 by_cases e : rs = qs
 ·subst e
  rw [decide_eq_true rfl, beq_self_eq_true, Bool.and_true, Nat.min_self]
  refine List.all_eq_true.mpr fun j hj => ?_
  have hj := List.mem_range.mp hj
  have g : (rs.map V.str).getD j .non = .str rs[j] := by rw [List.getD_eq_getElem?_getD, List.getElem?_map, List.getElem?_eq_getElem hj]; rfl
  rw [g]
  exact beq_self_eq_true rs[j]
 ·rw [decide_eq_false e]
  by_cases hl : rs.length = qs.length
  ·rw [hl, beq_self_eq_true, Bool.and_true, Nat.min_self]
   cases hh : (List.range qs.length).all (fun j => eqV ((rs.map V.str).getD j .non) ((qs.map V.str).getD j .non)) with
   | false => rfl
   | true =>
    refine absurd (List.ext_getElem hl fun j h1 h2 => ?_) e
    have h := List.all_eq_true.mp hh j (List.mem_range.mpr h2)
    have g1 : (rs.map V.str).getD j .non = .str rs[j] := by rw [List.getD_eq_getElem?_getD, List.getElem?_map, List.getElem?_eq_getElem h1]; rfl
    have g2 : (qs.map V.str).getD j .non = .str qs[j] := by rw [List.getD_eq_getElem?_getD, List.getElem?_map, List.getElem?_eq_getElem h2]; rfl
    rw [g1, g2] at h
    exact eq_of_beq (show (rs[j] == qs[j]) = true from h)
  ·rw [show (rs.length == qs.length) = false by simpa using hl, Bool.and_false]
noncomputable def letK (n : Str) (d : Int) (h : Str) (rs : List Str) : letO.α := (n.cps.toList, d, h.cps.toList, rs.map fun x => x.cps.toList)
theorem letK_inj {n n' : Str} {d d' : Int} {h h' : Str} {rs rs' : List Str} (e : letK n d h rs = letK n' d' h' rs') : n = n' ∧ d = d' ∧ h = h' ∧ rs = rs' := by
 have e1 := congrArg Prod.fst e
 have e2 := congrArg (fun z => z.2.1) e
 have e3 := congrArg (fun z => z.2.2.1) e
 have e4 := congrArg (fun z => z.2.2.2) e
 exact ⟨str_cps e1, e2, str_cps e3, cps_inj e4⟩
structure LetAt (H : Hp) (v : V) (n : Str) (d : Int) (h : Str) (rs : List Str) : Prop where
 at' : ∃ a r, v = .ref a ∧ H a = some (.tup [.str n, .int d, .str h, .ref r]) ∧ H r = some (.tup (rs.map V.str))
theorem LetAt.lt {H : Hp} {v v' : V} {n n' : Str} {d d' : Int} {h h' : Str} {rs rs' : List Str} (x : LetAt H v n d h rs) (y : LetAt H v' n' d' h' rs') :
  ltD H 2 v v' = letO.blt (letK n d h rs) (letK n' d' h' rs') := by
 obtain ⟨a, r, rfl, ha, hr⟩ := x.at'
 obtain ⟨b, q, rfl, hb, hq⟩ := y.at'
 have e : ltD H 2 (.ref a) (.ref b) = lexW (decide (4 < 4)) (eqD H 1) (ltD H 1) [.str n, .int d, .str h, .ref r] [.str n', .int d', .str h', .ref q] := by
  conv => lhs; unfold ltD
  rw [tupOf_at ha, tupOf_at hb]
  rfl
 rw [e]
 have er : ltD H 1 (.ref r) (.ref q) = listB strO (rs.map fun x => x.cps.toList) (rs'.map fun x => x.cps.toList) := by
  unfold ltD
  rw [tupOf_at hr, tupOf_at hq]
  show lexW (decide ((rs.map V.str).length < (rs'.map V.str).length)) eqV ltV0 (rs.map V.str) (rs'.map V.str) = _
  exact lex_strs rs rs' (by rw [List.length_map, List.length_map])
 show (if eqV (.str n) (.str n') = true then (if eqV (.int d) (.int d') = true then (if eqV (.str h) (.str h') = true then (if eqD H 1 (.ref r) (.ref q) = true then decide (4 < 4) else ltD H 1 (.ref r) (.ref q)) else ltV0 (.str h) (.str h')) else ltV0 (.int d) (.int d')) else ltV0 (.str n) (.str n')) =
  stepB strO n.cps.toList n'.cps.toList (stepB intO d d' (stepB strO h.cps.toList h'.cps.toList (listB strO (rs.map fun x => x.cps.toList) (rs'.map fun x => x.cps.toList))))
 rw [step_str, step_int, step_str]
 congr 3
 rw [eq_strs hr hq, er]
 by_cases e : rs = rs'
 ·subst e
  rw [decide_eq_true rfl, if_pos rfl, listB_irr]
  rfl
 ·rw [decide_eq_false e, if_neg Bool.false_ne_true]
theorem LetAt.eq {H : Hp} {v v' : V} {n n' : Str} {d d' : Int} {h h' : Str} {rs rs' : List Str} (x : LetAt H v n d h rs) (y : LetAt H v' n' d' h' rs') (hk : eqD H 2 v v' = false) :
  letK n d h rs ≠ letK n' d' h' rs' := by
 intro e
 obtain ⟨rfl, rfl, rfl, rfl⟩ := letK_inj e
 obtain ⟨a, r, rfl, ha, hr⟩ := x.at'
 obtain ⟨b, q, rfl, hb, hq⟩ := y.at'
 unfold eqD at hk
 rw [tupOf_at ha, tupOf_at hb] at hk
 have h2 : ((eqD H 1 (.str n) (.str n) && (eqD H 1 (.int d) (.int d) && (eqD H 1 (.str h) (.str h) && (eqD H 1 (.ref r) (.ref q) && true)))) && (4 == 4)) = false := hk
 have e1 : eqD H 1 (.str n) (.str n) = true := beq_self_eq_true n
 have e2 : eqD H 1 (.int d) (.int d) = true := beq_self_eq_true d
 have e3 : eqD H 1 (.str h) (.str h) = true := beq_self_eq_true h
 rw [e1, e2, e3, eq_strs hr hq, decide_eq_true rfl] at h2
 cases h2
section
variable {X : Cx} {pins : List (Addr × Obj)} {σ : St} {H : Hp} {s : Shared} {k : Nat}
end
noncomputable def kvL (H : Hp) (v : V) : letO.α := match tupOf H v with
 | some [.str n, .int d, .str h, .ref r] => (n.cps.toList, d, h.cps.toList, ((tupOf H (.ref r)).getD []).map fun z => match z with | .str x => x.cps.toList | _ => [])
 | _ => ([], (0 : Int), [], [])
theorem LetAt.key {H : Hp} {v : V} {n : Str} {d : Int} {h : Str} {rs : List Str} (x : LetAt H v n d h rs) : kvL H v = letK n d h rs := by
 obtain ⟨a, r, rfl, ha, hr⟩ := x.at'
 unfold kvL letK
 rw [tupOf_at ha]
 dsimp only
 rw [tupOf_at hr]
 show (_, _, _, ((rs.map V.str).map _)) = _
 rw [List.map_map]
 rfl
end L2
namespace Mr
open PySem L2
inductive PV where
 | non | bl (b : Bool) | int (i : Int) | str (x : Str) | ty (n : String)
 | tup (xs : List PV) | lst (xs : List PV) | dct (kvs : List (Key × PV))
noncomputable abbrev ASet := Addr → Prop
noncomputable def uni (A B : ASet) : ASet := fun a => A a ∨ B a
noncomputable def one (l : Addr) : ASet := fun a => a = l
noncomputable def noA : ASet := fun _ => False
structure WS where
 w : Nat → ASet
 old : ASet
instance : CoeFun WS (fun _ => Nat → ASet) := ⟨WS.w⟩
noncomputable def aw (W : WS) : ASet := fun a => ∃ i, W i a
noncomputable def TupAt (K : PySem.W.Frag) (H : Hp) (a : Addr) (xs : List V) : Prop := H a = some (.tup xs) ∨
  ∃ (o : Obj) (its : Array Value) (n : Nat), K.lookup a = some o ∧ o.cls = .type "tuple" ∧ o.dict = none ∧ o.data = .seq its n ∧ its.size ≤ sizeLine ∧ Vals xs its.toList
noncomputable def KLst (K : PySem.W.Frag) (a : Addr) (xs : List V) : Prop :=
  ∃ (o : Obj) (its : Array Value) (n : Nat), K.lookup a = some o ∧ o.cls = .type "list" ∧ o.dict = none ∧ o.data = .seq its n ∧ its.size ≤ sizeLine ∧ Vals xs its.toList
theorem TupAt.sq {K : PySem.W.Frag} {H : Hp} {a : Addr} {xs : List V} (h : TupAt K H a xs) : SqT K H a xs := h.elim SqT.of fun ⟨o, its, n, a, b, _, c⟩ => .inr ⟨o, its, n, a, b, c⟩
mutual
inductive Rep (K : PySem.W.Frag) (Z : ASet) (H : Hp) : PV → V → Prop
 | non : Rep K Z H .non .non
 | bl (b : Bool) : Rep K Z H (.bl b) (.bl b)
 | int (i : Int) : Rep K Z H (.int i) (.int i)
 | str (x : Str) : Rep K Z H (.str x) (.str x)
 | ty (n : String) : Rep K Z H (.ty n) (.ty n)
 | tup {a : Addr} {xs : List V} {ps : List PV} : TupAt K H a xs → RepL K Z H ps xs → Rep K Z H (.tup ps) (.ref a)
 | lst {a : Addr} {xs : List V} {ps : List PV} : Rd H a (.lst xs) → ¬ Z a → RepL K Z H ps xs → Rep K Z H (.lst ps) (.ref a)
 | dct {a : Addr} {ep : Nat} {ys : List (Key × V)} {kvs : List (Key × PV)} : Rd H a (.dK ys ep) → ¬ Z a → ys.map (·.1) = kvs.map (·.1) → RepL K Z H (kvs.map (·.2)) (ys.map (·.2)) → Rep K Z H (.dct kvs) (.ref a)
inductive RepL (K : PySem.W.Frag) (Z : ASet) (H : Hp) : List PV → List V → Prop
 | nil : RepL K Z H [] []
 | cons {p : PV} {v : V} {ps : List PV} {vs : List V} : Rep K Z H p v → RepL K Z H ps vs → RepL K Z H (p :: ps) (v :: vs)
end
structure Stay (Z Z' : ASet) (H H' : Hp) : Prop where
 tup : ∀ a xs, H a = some (.tup xs) → H' a = some (.tup xs)
 obj : ∀ a o, H a = some o → ¬ Z a → H' a = some o ∧ ¬ Z' a
theorem Stay.rd {Z Z' : ASet} {H H' : Hp} (k : Stay Z Z' H H') {a : Addr} {o : HO} (h : Rd H a o) (n : ¬ Z a) : Rd H' a o ∧ ¬ Z' a := by
 rcases h with h | ⟨u, h⟩
 ·exact ⟨.inl (k.obj _ _ h n).1, (k.obj _ _ h n).2⟩
 ·exact ⟨.inr ⟨u, (k.obj _ _ h n).1⟩, (k.obj _ _ h n).2⟩
mutual
theorem Rep.stay {K : PySem.W.Frag} {Z Z' : ASet} {H H' : Hp} (k : Stay Z Z' H H') : ∀ {p : PV} {v : V}, Rep K Z H p v → Rep K Z' H' p v
 | _, _, .non => .non
 | _, _, .bl b => .bl b
 | _, _, .int b => .int b
 | _, _, .str b => .str b
 | _, _, .ty b => .ty b
 | _, _, .tup h r => .tup (h.elim (fun h => .inl (k.tup _ _ h)) .inr) (RepL.stay k r)
 | _, _, .lst h n r => .lst (k.rd h n).1 (k.rd h n).2 (RepL.stay k r)
 | _, _, .dct h n e r => .dct (k.rd h n).1 (k.rd h n).2 e (RepL.stay k r)
theorem RepL.stay {K : PySem.W.Frag} {Z Z' : ASet} {H H' : Hp} (k : Stay Z Z' H H') : ∀ {p : List PV} {v : List V}, RepL K Z H p v → RepL K Z' H' p v
 | _, _, .nil => .nil
 | _, _, .cons h r => .cons (Rep.stay k h) (RepL.stay k r)
end
theorem Stay.refl {Z : ASet} {H : Hp} : Stay Z Z H H := ⟨fun _ _ h => h, fun _ _ h n => ⟨h, n⟩⟩
theorem Stay.same {Z : ASet} {H H' : Hp} (s : Same H H') : Stay Z Z H H' := ⟨fun _ _ h => s _ _ h, fun _ _ h n => ⟨s _ _ h, n⟩⟩
theorem Stay.less {Z Z' : ASet} {H : Hp} (h : ∀ a, Z' a → Z a) : Stay Z Z' H H := ⟨fun _ _ h => h, fun _ _ e n => ⟨e, fun z => n (h _ z)⟩⟩
theorem Stay.new {Z : ASet} {H H' : Hp} {l : Addr} (s : Same H H') (hl : H l = none) : Stay Z (uni Z (one l)) H H' :=
 ⟨fun _ _ h => s _ _ h, fun a o h n => ⟨s _ _ h, fun z => z.elim n fun e => by rw [show a = l from e, hl] at h; cases h⟩⟩
theorem RepL.length {K : PySem.W.Frag} {Z : ASet} {H : Hp} : ∀ {ps : List PV} {vs : List V}, RepL K Z H ps vs → ps.length = vs.length
 | _, _, .nil => rfl
 | _, _, .cons _ r => by rw [List.length_cons, List.length_cons, RepL.length r]
theorem RepL.get {K : PySem.W.Frag} {Z : ASet} {H : Hp} : ∀ {ps : List PV} {vs : List V} {i : Nat} {p : PV}, RepL K Z H ps vs → ps[i]? = some p → ∃ v, vs[i]? = some v ∧ Rep K Z H p v
 | _, _, _, _, .nil, h => by simp at h
 | _, _, 0, _, .cons h _, e => by simp at e; subst e; exact ⟨_, rfl, h⟩
 | _, _, i + 1, _, .cons _ r, e => by
  obtain ⟨v, h1, h2⟩ := RepL.get (i := i) r (by simpa using e)
  exact ⟨v, by simpa using h1, h2⟩
theorem RepL.get' {K : PySem.W.Frag} {Z : ASet} {H : Hp} : ∀ {ps : List PV} {vs : List V} {i : Nat} {v : V}, RepL K Z H ps vs → vs[i]? = some v → ∃ p, ps[i]? = some p ∧ Rep K Z H p v
 | _, _, _, _, .nil, h => by simp at h
 | _, _, 0, _, .cons h _, e => by simp at e; subst e; exact ⟨_, rfl, h⟩
 | _, _, i + 1, _, .cons _ r, e => by
  obtain ⟨v, h1, h2⟩ := RepL.get' (i := i) r (by simpa using e)
  exact ⟨v, by simpa using h1, h2⟩
theorem RepL.app {K : PySem.W.Frag} {Z : ASet} {H : Hp} : ∀ {ps qs : List PV} {vs ws : List V}, RepL K Z H ps vs → RepL K Z H qs ws → RepL K Z H (ps ++ qs) (vs ++ ws)
 | _, _, _, _, .nil, s => s
 | _, _, _, _, .cons h r, s => .cons h (RepL.app r s)
theorem RepL.drop {K : PySem.W.Frag} {Z : ASet} {H : Hp} : ∀ {ps : List PV} {vs : List V} (n : Nat), RepL K Z H ps vs → RepL K Z H (ps.drop n) (vs.drop n)
 | _, _, 0, h => h
 | _, _, _ + 1, .nil => .nil
 | _, _, n + 1, .cons _ r => RepL.drop n r
theorem RepL.take {K : PySem.W.Frag} {Z : ASet} {H : Hp} : ∀ {ps : List PV} {vs : List V} (n : Nat), RepL K Z H ps vs → RepL K Z H (ps.take n) (vs.take n)
 | _, _, 0, _ => .nil
 | _, _, _ + 1, .nil => .nil
 | _, _, n + 1, .cons h r => .cons h (RepL.take n r)
theorem RepL.set {K : PySem.W.Frag} {Z : ASet} {H : Hp} {p : PV} {v : V} (h : Rep K Z H p v) : ∀ {ps : List PV} {vs : List V} (n : Nat), RepL K Z H ps vs → RepL K Z H (ps.set n p) (vs.set n v)
 | _, _, _, .nil => .nil
 | _, _, 0, .cons _ r => .cons h r
 | _, _, n + 1, .cons q r => .cons q (RepL.set h n r)
noncomputable def LstAt (K : PySem.W.Frag) (H : Hp) (a : Addr) (xs : List V) : Prop := Rd H a (.lst xs) ∨ KLst K a xs
theorem LstAt.sq {K : PySem.W.Frag} {H : Hp} {a : Addr} {xs : List V} (h : LstAt K H a xs) : SqL K H a xs := h
inductive Red (K : PySem.W.Frag) (Z : ASet) (H : Hp) : PV → V → Prop
 | rep {p : PV} {v : V} : Rep K Z H p v → Red K Z H p v
 | lst {a : Addr} {xs : List V} {ps : List PV} : LstAt K H a xs → RepL K Z H ps xs → Red K Z H (.lst ps) (.ref a)
 | dct {a : Addr} {ep : Nat} {ys : List (Key × V)} {kvs : List (Key × PV)} : Rd H a (.dK ys ep) → ys.map (·.1) = kvs.map (·.1) → RepL K Z H (kvs.map (·.2)) (ys.map (·.2)) → Red K Z H (.dct kvs) (.ref a)
section
variable {K : PySem.W.Frag} {Z : ASet} {H : Hp} {v : V}
theorem Red.int {i : Int} (h : Red K Z H (.int i) v) : v = .int i := by cases h with | rep h => cases h; rfl
theorem Red.str {i : Str} (h : Red K Z H (.str i) v) : v = .str i := by cases h with | rep h => cases h; rfl
theorem Red.bl {i : Bool} (h : Red K Z H (.bl i) v) : v = .bl i := by cases h with | rep h => cases h; rfl
theorem Red.non (h : Red K Z H .non v) : v = .non := by cases h with | rep h => cases h; rfl
theorem Red.ty {n : String} (h : Red K Z H (.ty n) v) : v = .ty n := by cases h with | rep h => cases h; rfl
theorem Red.tup {ps : List PV} (h : Red K Z H (.tup ps) v) : ∃ a xs, v = .ref a ∧ TupAt K H a xs ∧ RepL K Z H ps xs := by
 cases h with | rep h => cases h with | tup h r => exact ⟨_, _, rfl, h, r⟩
end
inductive Sl where
 | val (p : PV) | own (p : PV) | loc (p : PV) | bor (p : PV)
noncomputable def Sl.pv : Sl → PV
 | .val p => p | .own p => p | .loc p => p | .bor p => p
noncomputable def Sl.mine : Sl → Bool
 | .own _ => true | .loc _ => true | _ => false
noncomputable abbrev En := List (Option Sl)
inductive Cont (K : PySem.W.Frag) (Z : ASet) (H : Hp) (a : Addr) : PV → Prop
 | lst {xs : List V} {ps : List PV} : H a = some (.lst xs) → RepL K Z H ps xs → Cont K Z H a (.lst ps)
 | dct {ep : Nat} {ys : List (Key × V)} {kvs : List (Key × PV)} : H a = some (.dK ys ep) → ys.map (·.1) = kvs.map (·.1) → RepL K Z H (kvs.map (·.2)) (ys.map (·.2)) → Cont K Z H a (.dct kvs)
theorem Cont.red {K : PySem.W.Frag} {Z : ASet} {H : Hp} {a : Addr} {p : PV} (h : Cont K Z H a p) : Red K Z H p (.ref a) := by
 cases h with
 | lst e r => exact .lst (.inl (.inl e)) r
 | dct e k r => exact .dct (.inl e) k r
theorem Cont.rep {K : PySem.W.Frag} {Z : ASet} {H : Hp} {a : Addr} {p : PV} (h : Cont K Z H a p) (n : ¬ Z a) : Rep K Z H p (.ref a) := by
 cases h with
 | lst e r => exact .lst (.inl e) n r
 | dct e k r => exact .dct (.inl e) n k r
theorem Cont.there {K : PySem.W.Frag} {Z : ASet} {H : Hp} {a : Addr} {p : PV} (h : Cont K Z H a p) : ∃ o, H a = some o ∧ ∀ xs, o ≠ .tup xs := by
 cases h with
 | lst e r => exact ⟨_, e, fun _ z => nomatch z⟩
 | dct e k r => exact ⟨_, e, fun _ z => nomatch z⟩
theorem Cont.stay {K : PySem.W.Frag} {Z Z' : ASet} {H H' : Hp} {a : Addr} {p : PV} (k : Stay Z Z' H H') (e : ∀ o, H a = some o → H' a = some o) (h : Cont K Z H a p) : Cont K Z' H' a p := by
 cases h with
 | lst h r => exact .lst (e _ h) (r.stay k)
 | dct h q r => exact .dct (e _ h) q (r.stay k)
inductive Lent (K : PySem.W.Frag) (Z : ASet) (W : WS) (L : ASet) (H : Hp) (a : Addr) : PV → Prop
 | lst {xs : List V} {ps : List PV} : Rd H a (.lst xs) → W.old a → ¬ aw W a → ¬ L a → RepL K Z H ps xs → Lent K Z W L H a (.lst ps)
 | klst {xs : List V} {ps : List PV} : KLst K a xs → RepL K Z H ps xs → Lent K Z W L H a (.lst ps)
 | dct {ep : Nat} {ys : List (Key × V)} {kvs : List (Key × PV)} : Rd H a (.dK ys ep) → W.old a → ¬ aw W a → ¬ L a → ys.map (·.1) = kvs.map (·.1) → RepL K Z H (kvs.map (·.2)) (ys.map (·.2)) → Lent K Z W L H a (.dct kvs)
theorem Lent.red {K : PySem.W.Frag} {Z L : ASet} {W : WS} {H : Hp} {a : Addr} {p : PV} (h : Lent K Z W L H a p) : Red K Z H p (.ref a) := by
 cases h with
 | lst e _ _ _ r => exact .lst (.inl e) r
 | klst e r => exact .lst (.inr e) r
 | dct e _ _ _ k r => exact .dct e k r
noncomputable def SlRep (K : PySem.W.Frag) (Z : ASet) (W : WS) (L : ASet) (H : Hp) (i : Nat) (v : V) : Sl → Prop
 | .val p => Rep K Z H p v
 | .own p => ∃ a, v = .ref a ∧ W i a ∧ Cont K Z H a p
 | .loc p => ∃ a, v = .ref a ∧ L a ∧ Cont K Z H a p
 | .bor p => ∃ a, v = .ref a ∧ Lent K Z W L H a p
theorem SlRep.red {K : PySem.W.Frag} {Z L : ASet} {W : WS} {H : Hp} {i : Nat} {v : V} {s : Sl} (h : SlRep K Z W L H i v s) : Red K Z H s.pv v := by
 cases s with
 | val p => exact .rep h
 | own p => obtain ⟨a, rfl, _, c⟩ := h; exact c.red
 | loc p => obtain ⟨a, rfl, _, c⟩ := h; exact c.red
 | bor p => obtain ⟨a, rfl, c⟩ := h; exact c.red
structure EnRep (K : PySem.W.Frag) (Z : ASet) (W : WS) (L : ASet) (H : Hp) (σ : St) (e : En) : Prop where
 len : e.length = σ.length
 at' : ∀ (i : Nat) s, e[i]? = some (some s) → ∃ v, σ[i]? = some (some v) ∧ SlRep K Z W L H i v s
 dis : ∀ (i j : Nat) s t, i ≠ j → e[i]? = some (some s) → e[j]? = some (some t) → s.mine = true → t.mine = true → σ[i]? ≠ σ[j]?
structure Okc (O M : ASet) (W : WS) (L : ASet) (H : Hp) : Prop where
 old : ∀ a, O a → H a ≠ none
 mo : ∀ a, M a → O a
 wm : ∀ i a, W i a → M a
 loc : ∀ a, L a → H a ≠ none ∧ ¬ O a
structure Keep (W : WS) (L : ASet) (H H' : Hp) : Prop where
 obj : ∀ a o, H a = some o → ¬ aw W a → ¬ L a → H' a = some o
 tup : ∀ a xs, H a = some (.tup xs) → H' a = some (.tup xs)
 dom : ∀ a, H a ≠ none → H' a ≠ none
theorem Keep.refl {W : WS} {L : ASet} {H : Hp} : Keep W L H H := ⟨fun _ _ h _ _ => h, fun _ _ h => h, fun _ h => h⟩
theorem Keep.trans {W : WS} {L : ASet} {H H1 H2 : Hp} (a : Keep W L H H1) (b : Keep W L H1 H2) : Keep W L H H2 := ⟨fun c o h n m => b.obj c o (a.obj c o h n m) n m, fun c o h => b.tup c o (a.tup c o h), fun c h => b.dom c (a.dom c h)⟩
theorem Keep.same {W : WS} {L : ASet} {H H' : Hp} (s : Same H H') : Keep W L H H' := ⟨fun _ _ h _ _ => s _ _ h, fun _ _ h => s _ _ h, fun a h => by
 cases e : H a with
 | none => exact absurd e h
 | some o => rw [s _ _ e]; exact fun z => nomatch z⟩
theorem Okc.keep {O M L : ASet} {W : WS} {H H' : Hp} (o : Okc O M W L H) (d : ∀ a, H a ≠ none → H' a ≠ none) : Okc O M W L H' := ⟨fun a h => d a (o.old a h), o.mo, o.wm, fun a h => ⟨d a (o.loc a h).1, (o.loc a h).2⟩⟩
theorem Keep.stay {O M L : ASet} {W : WS} {H H' : Hp} (o : Okc O M W L H) (k : Keep W L H H') : Stay (uni M L) (uni M L) H H' :=
 ⟨k.tup, fun a u h n => ⟨k.obj a u h (fun ⟨i, z⟩ => n (.inl (o.wm i a z))) fun z => n (.inr z), n⟩⟩
theorem EnRep.stay {K : PySem.W.Frag} {Z Z' L : ASet} {W : WS} {H H' : Hp} {σ : St} {e : En} (h : EnRep K Z W L H σ e) (k : Stay Z Z' H H') (ow : ∀ a o, aw W a ∨ L a → H a = some o → H' a = some o) (bo : ∀ a o, H a = some o → ¬ aw W a → ¬ L a → H' a = some o) : EnRep K Z' W L H' σ e :=
 ⟨h.len, fun i s q => by
  obtain ⟨v, h1, h2⟩ := h.at' i s q
  refine ⟨v, h1, ?_⟩
  cases s with
  | val p => exact Rep.stay k h2
  | own p => obtain ⟨a, e, w, c⟩ := h2; exact ⟨a, e, w, c.stay k fun o q => ow a o (.inl ⟨_, w⟩) q⟩
  | loc p => obtain ⟨a, e, w, c⟩ := h2; exact ⟨a, e, w, c.stay k fun o q => ow a o (.inr w) q⟩
  | bor p =>
   obtain ⟨a, e, c⟩ := h2
   refine ⟨a, e, ?_⟩
   cases c with
   | lst e od n m r => exact .lst (e.elim (fun e => .inl (bo _ _ e n m)) fun ⟨u, e⟩ => .inr ⟨u, bo _ _ e n m⟩) od n m (r.stay k)
   | klst e r => exact .klst e (r.stay k)
   | dct e od n m kk r => exact .dct (e.elim (fun e => .inl (bo _ _ e n m)) fun ⟨u, e⟩ => .inr ⟨u, bo _ _ e n m⟩) od n m kk (r.stay k), h.dis⟩
theorem EnRep.same {K : PySem.W.Frag} {Z L : ASet} {W : WS} {H H' : Hp} {σ : St} {e : En} (h : EnRep K Z W L H σ e) (s : Same H H') : EnRep K Z W L H' σ e := h.stay (.same s) (fun a o _ q => s a o q) fun a o q _ _ => s a o q
noncomputable def Free (σ : St) (e : En) (a : Addr) : Prop := ∀ (i : Nat) s, e[i]? = some (some s) → s.mine = true → σ[i]? ≠ some (some (.ref a))
theorem Rd.ne {H : Hp} {a l : Addr} {o : HO} (h : Rd H a o) (hl : H l = none) : a ≠ l := by
 rintro rfl
 rcases h with h | ⟨_, h⟩ <;> (rw [hl] at h; cases h)
theorem EnRep.new {K : PySem.W.Frag} {M L : ASet} {W : WS} {H H' : Hp} {σ : St} {e : En} {l : Addr} (h : EnRep K (uni M L) W L H σ e) (s : Same H H') (hl : H l = none) : EnRep K (uni M (uni L (one l))) W (uni L (one l)) H' σ e ∧ Free σ e l := by
 have k : Stay (uni M L) (uni M (uni L (one l))) H H' := ⟨fun _ _ h => s _ _ h, fun a o h n => ⟨s _ _ h, fun z => by
  rcases z with z | z | z
  ·exact n (.inl z)
  ·exact n (.inr z)
  ·rw [show a = l from z, hl] at h; cases h⟩⟩
 refine ⟨⟨h.len, fun i sl q => ?_, h.dis⟩, fun i sl q hm e => ?_⟩
 ·obtain ⟨v, h1, h2⟩ := h.at' i sl q
  refine ⟨v, h1, ?_⟩
  cases sl with
  | val p => exact Rep.stay k h2
  | own p => obtain ⟨a, e, w, c⟩ := h2; exact ⟨a, e, w, c.stay k fun o q => s _ _ q⟩
  | loc p => obtain ⟨a, e, w, c⟩ := h2; exact ⟨a, e, .inl w, c.stay k fun o q => s _ _ q⟩
  | bor p =>
   obtain ⟨a, e, c⟩ := h2
   refine ⟨a, e, ?_⟩
   cases c with
   | lst e od n m r => exact .lst (e.elim (fun e => .inl (s _ _ e)) fun ⟨u, e⟩ => .inr ⟨u, s _ _ e⟩) od n (fun z => z.elim m (Rd.ne e hl)) (r.stay k)
   | klst e r => exact .klst e (r.stay k)
   | dct e od n m kk r => exact .dct (e.elim (fun e => .inl (s _ _ e)) fun ⟨u, e⟩ => .inr ⟨u, s _ _ e⟩) od n (fun z => z.elim m (Rd.ne e hl)) kk (r.stay k)
 ·obtain ⟨v, h1, h2⟩ := h.at' i sl q
  rw [h1] at e
  cases e
  cases sl with
  | val p => cases hm
  | bor p => cases hm
  | own p => obtain ⟨a, e, w, c⟩ := h2; cases e; obtain ⟨o, e, _⟩ := c.there; rw [hl] at e; cases e
  | loc p => obtain ⟨a, e, w, c⟩ := h2; cases e; obtain ⟨o, e, _⟩ := c.there; rw [hl] at e; cases e
theorem EnRep.unnew {K : PySem.W.Frag} {M L : ASet} {W : WS} {H : Hp} {σ : St} {e : En} {l : Addr} (h : EnRep K (uni M (uni L (one l))) W (uni L (one l)) H σ e) (f : Free σ e l) : EnRep K (uni M L) W L H σ e := by
 have k : Stay (uni M (uni L (one l))) (uni M L) H H := .less fun a z => z.elim .inl fun z => .inr (.inl z)
 refine ⟨h.len, fun i sl q => ?_, h.dis⟩
 obtain ⟨v, h1, h2⟩ := h.at' i sl q
 refine ⟨v, h1, ?_⟩
 cases sl with
 | val p => exact Rep.stay k h2
 | own p => obtain ⟨a, e, w, c⟩ := h2; exact ⟨a, e, w, c.stay k fun o q => q⟩
 | loc p =>
  obtain ⟨a, e, w, c⟩ := h2
  refine ⟨a, e, w.elim id fun z => ?_, c.stay k fun o q => q⟩
  exfalso
  have z : a = l := z
  subst z e
  exact f i _ q rfl h1
 | bor p =>
  obtain ⟨a, e, c⟩ := h2
  refine ⟨a, e, ?_⟩
  cases c with
  | lst e od n m r => exact .lst e od n (fun z => m (.inl z)) (r.stay k)
  | klst e r => exact .klst e (r.stay k)
  | dct e od n m kk r => exact .dct e od n (fun z => m (.inl z)) kk (r.stay k)
theorem EnRep.less {K : PySem.W.Frag} {Z Z' L : ASet} {W : WS} {H : Hp} {σ : St} {e : En} (h : EnRep K Z W L H σ e) (l : ∀ a, Z' a → Z a) : EnRep K Z' W L H σ e := h.stay (.less l) (fun a o _ q => q) fun a o q _ _ => q
inductive Bv where
 | val (p : PV) | slot (i : Nat) | new (p : PV)
noncomputable def rd (e : En) (i : Nat) : Option PV := match e[i]? with
 | some (some s) => some s.pv
 | _ => none
noncomputable def Bv.get (e : En) : Bv → Option PV
 | .val p => some p
 | .new p => some p
 | .slot i => rd e i
noncomputable def Bv.weak : Bv → Bv
 | .new p => .val p
 | b => b
noncomputable def Bv.put : Bv → Option PV
 | .val p => some p
 | .new p => some p
 | .slot _ => none
noncomputable def RB (K : PySem.W.Frag) (O M : ASet) (W : WS) (L : ASet) (H : Hp) (σ : St) (e : En) (v : V) : Bv → Prop
 | .val p => EnRep K (uni M L) W L H σ e ∧ Rep K (uni M L) H p v
 | .slot i => EnRep K (uni M L) W L H σ e ∧ σ[i]? = some (some v)
 | .new p => ∃ a, v = .ref a ∧ ¬ O a ∧ ¬ L a ∧ EnRep K (uni M (uni L (one a))) W (uni L (one a)) H σ e ∧ Free σ e a ∧ Cont K (uni M (uni L (one a))) H a p
theorem RB.weak {K : PySem.W.Frag} {O M L : ASet} {W : WS} {H : Hp} {σ : St} {e : En} {v : V} {b : Bv} (o : Okc O M W L H) (h : RB K O M W L H σ e v b) : RB K O M W L H σ e v b.weak := by
 cases b with
 | val p => exact h
 | slot i => exact h
 | new p =>
  obtain ⟨a, rfl, n1, n2, h1, hf, h2⟩ := h
  exact ⟨h1.unnew hf, (h2.stay (.less fun _ z => z.elim .inl fun z => .inr (.inl z)) fun _ q => q).rep fun z => z.elim (fun z => n1 (o.mo _ z)) n2⟩
theorem RB.en {K : PySem.W.Frag} {O M L : ASet} {W : WS} {H : Hp} {σ : St} {e : En} {v : V} {b : Bv} (o : Okc O M W L H) (h : RB K O M W L H σ e v b) : EnRep K (uni M L) W L H σ e := by
 cases b with
 | val p => exact h.1
 | slot i => exact h.1
 | new p => exact (RB.weak (b := .new p) o h).1
noncomputable def RV (K : PySem.W.Frag) (Z : ASet) (H : Hp) (σ : St) (v : V) : Bv → Prop
 | .val p => Rep K Z H p v
 | .slot i => σ[i]? = some (some v)
 | .new _ => False
theorem RB.rv {K : PySem.W.Frag} {O M L : ASet} {W : WS} {H : Hp} {σ : St} {e : En} {v : V} {b : Bv} (o : Okc O M W L H) (h : RB K O M W L H σ e v b) : RV K (uni M L) H σ v b.weak := by
 have h := h.weak o
 cases b with
 | val p => exact h.2
 | slot i => exact h.2
 | new p => exact h.2
theorem RV.keep {K : PySem.W.Frag} {O M L : ASet} {W : WS} {H H' : Hp} {σ : St} {v : V} {b : Bv} (o : Okc O M W L H) (k : Keep W L H H') (h : RV K (uni M L) H σ v b) : RV K (uni M L) H' σ v b := by
 cases b with
 | val p => exact Rep.stay (k.stay o) h
 | slot i => exact h
 | new p => exact h
theorem EnRep.rd {K : PySem.W.Frag} {Z L : ASet} {W : WS} {H : Hp} {σ : St} {e : En} {i : Nat} {p : PV} {v : V} (h : EnRep K Z W L H σ e) (g : rd e i = some p) (hv : σ[i]? = some (some v)) : Red K Z H p v := by
 unfold Mr.rd at g
 cases q : e[i]? with
 | none => rw [q] at g; cases g
 | some s =>
  cases s with
  | none => rw [q] at g; cases g
  | some s =>
   rw [q] at g
   cases g
   obtain ⟨w, h1, h2⟩ := h.at' i s q
   rw [hv] at h1
   cases h1
   exact h2.red
theorem RV.red {K : PySem.W.Frag} {Z L : ASet} {W : WS} {H : Hp} {σ : St} {e : En} {v : V} {b : Bv} {p : PV} (h : RV K Z H σ v b) (he : EnRep K Z W L H σ e) (g : b.get e = some p) : Red K Z H p v := by
 cases b with
 | val q => cases g; exact .rep h
 | slot i => exact he.rd g h
 | new q => exact h.elim
noncomputable abbrev FE := En → Option (Bv × En)
noncomputable def Fr (H : Hp) (v : V) : Bv → Prop
 | .new _ => ∀ a, v = .ref a → H a = none
 | _ => True
theorem Fr.back {H H1 : Hp} {v : V} {b : Bv} (d : ∀ a, H a ≠ none → H1 a ≠ none) (h : Fr H1 v b) : Fr H v b := by
 cases b with
 | val p => trivial
 | slot i => trivial
 | new p =>
  intro a e
  cases z : H a with
  | none => rfl
  | some o => exact absurd (h a e) (d a (by rw [z]; exact fun z => nomatch z))
inductive RVs (K : PySem.W.Frag) (Z : ASet) (H : Hp) (σ : St) : List Bv → List V → Prop
 | nil : RVs K Z H σ [] []
 | cons {b : Bv} {v : V} {bs : List Bv} {vs : List V} : RV K Z H σ v b → RVs K Z H σ bs vs → RVs K Z H σ (b :: bs) (v :: vs)
theorem RVs.keep {K : PySem.W.Frag} {O M L : ASet} {W : WS} {H H' : Hp} {σ : St} (o : Okc O M W L H) (k : Keep W L H H') : ∀ {bs : List Bv} {vs : List V}, RVs K (uni M L) H σ bs vs → RVs K (uni M L) H' σ bs vs
 | _, _, .nil => .nil
 | _, _, .cons h r => .cons (h.keep o k) (RVs.keep o k r)
end Mr
namespace Mr
open PySem L2
noncomputable def bO {α β : Type} (r : Option α) (k : α → Option β) : Option β := match r with
 | some a => k a
 | none => none
theorem bO_some {α β : Type} {r : Option α} {k : α → Option β} {b : β} (h : bO r k = some b) : ∃ a, r = some a ∧ k a = some b := by
 cases r with
 | none => cases h
 | some x => exact ⟨x, rfl, h⟩
noncomputable def RN (K : PySem.W.Frag) (Z : ASet) (H H' : Hp) (v : V) : Bv → Prop
 | .val p => Rep K Z H' p v
 | .new p => ∃ a, v = .ref a ∧ H a = none ∧ Cont K (uni Z (one a)) H' a p
 | .slot _ => False
theorem RN.fr {K : PySem.W.Frag} {Z : ASet} {H0 H H' : Hp} {v : V} {b : Bv} (d : ∀ a, H0 a ≠ none → H a ≠ none) (h : RN K Z H H' v b) : Fr H0 v b := by
 refine Fr.back d ?_
 cases b with
 | val p => trivial
 | slot i => trivial
 | new p =>
  obtain ⟨a, rfl, n, c⟩ := h
  intro a' e
  cases e
  exact n
inductive RedL (K : PySem.W.Frag) (Z : ASet) (H : Hp) : List PV → List V → Prop
 | nil : RedL K Z H [] []
 | cons {p : PV} {v : V} {ps : List PV} {vs : List V} : Red K Z H p v → RedL K Z H ps vs → RedL K Z H (p :: ps) (v :: vs)
noncomputable def getL (e : En) : List Bv → Option (List PV)
 | [] => some []
 | b :: bs => bO (b.get e) fun p => bO (getL e bs) fun ps => some (p :: ps)
theorem RVs.red {K : PySem.W.Frag} {Z L : ASet} {W : WS} {H : Hp} {σ : St} {e : En} (he : EnRep K Z W L H σ e) : ∀ {bs : List Bv} {vs : List V} {ps : List PV}, RVs K Z H σ bs vs → getL e bs = some ps → RedL K Z H ps vs
 | _, _, _, .nil, g => by cases g; exact .nil
 | _, _, _, .cons h r, g => by
  obtain ⟨p, g1, g⟩ := bO_some g
  obtain ⟨ps, g2, g⟩ := bO_some g
  cases g
  exact .cons (h.red he g1) (RVs.red he r g2)
section
variable {K : PySem.W.Frag}
noncomputable def putL : List Bv → Option (List PV)
 | [] => some []
 | b :: bs => bO b.put fun p => bO (putL bs) fun ps => some (p :: ps)
theorem RVs.put {Z : ASet} {H : Hp} {σ : St} : ∀ {bs : List Bv} {vs : List V} {ps : List PV}, RVs K Z H σ bs vs → putL bs = some ps → RepL K Z H ps vs
 | _, _, _, .nil, g => by cases g; exact .nil
 | b :: _, _, _, .cons h r, g => by
  obtain ⟨p, g1, g⟩ := bO_some g
  obtain ⟨ps, g2, g⟩ := bO_some g
  cases g
  cases b with
  | val p => cases g1; exact .cons h (RVs.put r g2)
  | slot i => cases g1
  | new p => exact h.elim
end
end Mr
namespace Mr
open PySem L2
inductive Out where
 | nx (e : En) | rt (b : Bv) (e : En) | bk (e : En) | ct (e : En)
structure Grow (W : WS) (L L' : ASet) (H H' : Hp) : Prop where
 obj : ∀ a o, H a = some o → ¬ aw W a → ¬ L a → H' a = some o
 tup : ∀ a xs, H a = some (.tup xs) → H' a = some (.tup xs)
 dom : ∀ a, H a ≠ none → H' a ≠ none
 new : ∀ a, L' a → L a ∨ H a = none
theorem Grow.refl {W : WS} {L : ASet} {H : Hp} : Grow W L L H H := ⟨fun _ _ h _ _ => h, fun _ _ h => h, fun _ h => h, fun _ h => .inl h⟩
theorem Grow.keep {W : WS} {L : ASet} {H H' : Hp} (k : Keep W L H H') : Grow W L L H H' := ⟨k.obj, k.tup, k.dom, fun _ h => .inl h⟩
theorem Grow.trans {W : WS} {L L1 L2 : ASet} {H H1 H2 : Hp} (a : Grow W L L1 H H1) (b : Grow W L1 L2 H1 H2) : Grow W L L2 H H2 :=
 ⟨fun c o h n m => b.obj c o (a.obj c o h n m) n fun z => (a.new c z).elim m fun z => (by rw [h] at z; cases z), fun c xs h => b.tup c xs (a.tup c xs h), fun c h => b.dom c (a.dom c h), fun c h => by
  rcases b.new c h with z | z
  ·exact a.new c z
  ·refine .inr ?_
   cases e : H c with
   | none => rfl
   | some o => exact absurd z (a.dom c (by rw [e]; exact fun z => nomatch z))⟩
section
variable {K : PySem.W.Frag}
theorem set_get {α : Type} {l : List α} {i j : Nat} {x y : α} (h : (l.set i x)[j]? = some y) : (i = j ∧ i < l.length ∧ x = y) ∨ (i ≠ j ∧ l[j]? = some y) := by
 by_cases e : i = j
 ·subst e
  have hl : i < l.length := by
   have := (List.getElem?_eq_some_iff.mp h).1
   simpa using this
  rw [List.getElem?_set_self hl] at h
  exact .inl ⟨rfl, hl, Option.some.inj h⟩
 ·rw [List.getElem?_set_ne e] at h
  exact .inr ⟨e, h⟩
theorem EnRep.put {Z L : ASet} {W : WS} {H : Hp} {σ : St} {e : En} {i : Nat} {s : Sl} {v : V} (h : EnRep K Z W L H σ e) (hm : s.mine = false) (hs : SlRep K Z W L H i v s) : EnRep K Z W L H (σ.set i (some v)) (e.set i (some s)) := by
 refine ⟨by rw [List.length_set, List.length_set]; exact h.len, fun j t q => ?_, fun j k s1 s2 hjk q1 q2 m1 m2 => ?_⟩
 ·rcases set_get q with ⟨rfl, hl, e⟩ | ⟨hn, q⟩
  ·cases e
   exact ⟨v, by rw [List.getElem?_set_self (by rw [← h.len]; exact hl)], hs⟩
  ·rw [List.getElem?_set_ne hn]
   exact h.at' j t q
 ·rcases set_get q1 with ⟨rfl, hl, e⟩ | ⟨hn1, q1⟩
  ·cases e; rw [hm] at m1; cases m1
  ·rcases set_get q2 with ⟨rfl, hl, e⟩ | ⟨hn2, q2⟩
   ·cases e; rw [hm] at m2; cases m2
   ·rw [List.getElem?_set_ne hn1, List.getElem?_set_ne hn2]
    exact h.dis j k s1 s2 hjk q1 q2 m1 m2
theorem EnRep.putL {M L : ASet} {W : WS} {H : Hp} {σ : St} {e : En} {i : Nat} {p : PV} {a : Addr} (h : EnRep K (uni M (uni L (one a))) W (uni L (one a)) H σ e) (hf : Free σ e a) (hc : Cont K (uni M (uni L (one a))) H a p) :
  EnRep K (uni M (uni L (one a))) W (uni L (one a)) H (σ.set i (some (.ref a))) (e.set i (some (.loc p))) := by
 refine ⟨by rw [List.length_set, List.length_set]; exact h.len, fun j t q => ?_, fun j k s1 s2 hjk q1 q2 m1 m2 => ?_⟩
 ·rcases set_get q with ⟨rfl, hl, e⟩ | ⟨hn, q⟩
  ·cases e
   exact ⟨_, by rw [List.getElem?_set_self (by rw [← h.len]; exact hl)], a, rfl, .inr rfl, hc⟩
  ·rw [List.getElem?_set_ne hn]
   exact h.at' j t q
 ·rcases set_get q1 with ⟨rfl, hl, e⟩ | ⟨hn1, q1⟩
  ·rcases set_get q2 with ⟨rfl, hl, e⟩ | ⟨hn2, q2⟩
   ·exact absurd rfl hjk
   ·rw [List.getElem?_set_ne hn2, List.getElem?_set_self (by rw [← h.len]; exact hl)]
    exact fun z => hf k s2 q2 m2 z.symm
  ·rcases set_get q2 with ⟨rfl, hl, e⟩ | ⟨hn2, q2⟩
   ·rw [List.getElem?_set_ne hn1, List.getElem?_set_self (by rw [← h.len]; exact hl)]
    exact fun z => hf j s1 q1 m1 z
   ·rw [List.getElem?_set_ne hn1, List.getElem?_set_ne hn2]
    exact h.dis j k s1 s2 hjk q1 q2 m1 m2
noncomputable def rel (i : Nat) (e : En) : Option En := match e[i]? with
 | some (some (.loc p)) => some (e.set i (some (.val p)))
 | some (some (.val p)) => some e
 | _ => none
theorem EnRep.rel {O M L : ASet} {W : WS} {H : Hp} {σ : St} {e : En} {i : Nat} {p : PV} (o : Okc O M W L H) (h : EnRep K (uni M L) W L H σ e) (hi : e[i]? = some (some (.loc p))) : ∃ L', (∀ a, L' a → L a) ∧ EnRep K (uni M L') W L' H σ (e.set i (some (.val p))) := by
 obtain ⟨v, h1, a, rfl, la, c⟩ := h.at' i _ hi
 refine ⟨fun b => L b ∧ b ≠ a, fun b z => z.1, by rw [List.length_set]; exact h.len, fun j t q => ?_, fun j k s1 s2 hjk q1 q2 m1 m2 => ?_⟩
 ·have k : Stay (uni M L) (uni M fun b => L b ∧ b ≠ a) H H := .less fun b z => z.elim .inl fun z => .inr z.1
  rcases set_get q with ⟨rfl, hl, e⟩ | ⟨hn, q⟩
  ·cases e
   refine ⟨_, h1, (c.stay k fun _ q => q).rep fun z => ?_⟩
   rcases z with z | z
   ·exact (o.loc a la).2 (o.mo a z)
   ·exact z.2 rfl
  ·obtain ⟨v, g1, g2⟩ := h.at' j t q
   refine ⟨v, g1, ?_⟩
   cases t with
   | val p => exact Rep.stay k g2
   | own p => obtain ⟨b, e, w, c⟩ := g2; exact ⟨b, e, w, c.stay k fun o q => q⟩
   | loc p =>
    obtain ⟨b, e, w, c⟩ := g2
    refine ⟨b, e, ⟨w, fun z => ?_⟩, c.stay k fun o q => q⟩
    subst z
    subst e
    exact h.dis i j _ _ hn hi q rfl rfl (h1.trans g1.symm)
   | bor p =>
    obtain ⟨b, e, c⟩ := g2
    refine ⟨b, e, ?_⟩
    cases c with
    | lst e od n m r => exact .lst e od n (fun z => m z.1) (r.stay k)
    | klst e r => exact .klst e (r.stay k)
    | dct e od n m kk r => exact .dct e od n (fun z => m z.1) kk (r.stay k)
 ·rcases set_get q1 with ⟨rfl, hl, e⟩ | ⟨hn1, q1⟩
  ·cases e; cases m1
  ·rcases set_get q2 with ⟨rfl, hl, e⟩ | ⟨hn2, q2⟩
   ·cases e; cases m2
   ·exact h.dis j k s1 s2 hjk q1 q2 m1 m2
noncomputable def setOwn (e : En) (i : Nat) (p : PV) : En := match e[i]? with
 | some (some (.own _)) => e.set i (some (.own p))
 | _ => e.set i (some (.loc p))
noncomputable def ownAt (e : En) (i : Nat) : Option PV := match e[i]? with
 | some (some (.own p)) => some p
 | some (some (.loc p)) => some p
 | _ => none
theorem ownAt_some {e : En} {i : Nat} {p : PV} (h : ownAt e i = some p) : (e[i]? = some (some (.own p)) ∨ e[i]? = some (some (.loc p))) := by
 unfold ownAt at h
 split at h
 ·cases h; exact .inl (by assumption)
 ·cases h; exact .inr (by assumption)
 ·cases h
theorem EnRep.own {Z L : ASet} {W : WS} {H : Hp} {σ : St} {e : En} {i : Nat} {p : PV} (h : EnRep K Z W L H σ e) (g : ownAt e i = some p) : ∃ a, σ[i]? = some (some (.ref a)) ∧ (aw W a ∨ L a) ∧ Cont K Z H a p := by
 rcases ownAt_some g with g | g
 ·obtain ⟨v, h1, a, rfl, w, c⟩ := h.at' i _ g
  exact ⟨a, h1, .inl ⟨i, w⟩, c⟩
 ·obtain ⟨v, h1, a, rfl, w, c⟩ := h.at' i _ g
  exact ⟨a, h1, .inr w, c⟩
theorem Stay.write {Z : ASet} {H : Hp} {a : Addr} {o ob : HO} (z : Z a) (h : H a = some ob) (nt : ∀ xs, ob ≠ .tup xs) : Stay Z Z H (upd H a o) :=
 ⟨fun b xs e => by rw [upd_ne (ne_of e h fun z => nt _ z.symm)]; exact e, fun b u e n => ⟨by rw [upd_ne (fun q : b = a => n (by rw [q]; exact z))]; exact e, n⟩⟩
theorem EnRep.write {M L : ASet} {W : WS} {H : Hp} {σ : St} {e : En} {i : Nat} {p q : PV} {a : Addr} {ob : HO} (wm : ∀ i a, W i a → M a) (h : EnRep K (uni M L) W L H σ e) (g : ownAt e i = some p) (ha : σ[i]? = some (some (.ref a))) (c : Cont K (uni M L) (upd H a ob) a q) :
  EnRep K (uni M L) W L (upd H a ob) σ (setOwn e i q) := by
 obtain ⟨a', h1, hz, c0⟩ := h.own g
 rw [ha] at h1
 cases h1
 have za : uni M L a := hz.elim (fun ⟨i, w⟩ => .inl (wm i a w)) .inr
 obtain ⟨o0, e0, nt⟩ := c0.there
 have k : Stay (uni M L) (uni M L) H (upd H a ob) := .write za e0 nt
 have hl : i < e.length := by
  rcases ownAt_some g with g | g <;> exact (List.getElem?_eq_some_iff.mp g).1
 have hm : ∃ s, e[i]? = some (some s) ∧ s.mine = true := by
  rcases ownAt_some g with g | g <;> exact ⟨_, g, rfl⟩
 obtain ⟨s0, hs0, hm0⟩ := hm
 have key : ∀ s', (setOwn e i q)[i]? = some (some s') → ∃ v, σ[i]? = some (some v) ∧ SlRep K (uni M L) W L (upd H a ob) i v s' := fun s' z => by
  unfold setOwn at z
  rcases ownAt_some g with g | g
  ·rw [g] at z
   rw [List.getElem?_set_self hl] at z
   cases z
   obtain ⟨v, h1, a', rfl, w, _⟩ := h.at' i _ g
   rw [ha] at h1; cases h1
   exact ⟨_, ha, a, rfl, w, c⟩
  ·rw [g] at z
   rw [List.getElem?_set_self hl] at z
   cases z
   obtain ⟨v, h1, a', rfl, w, _⟩ := h.at' i _ g
   rw [ha] at h1; cases h1
   exact ⟨_, ha, a, rfl, w, c⟩
 have oth : ∀ j, i ≠ j → (setOwn e i q)[j]? = e[j]? := fun j hj => by
  unfold setOwn
  rcases ownAt_some g with g | g <;> (rw [g]; exact List.getElem?_set_ne hj)
 refine ⟨?_, fun j t z => ?_, fun j l s1 s2 hjk q1 q2 m1 m2 => ?_⟩
 ·rw [← h.len]; unfold setOwn; rcases ownAt_some g with g | g <;> (rw [g]; exact List.length_set)
 ·by_cases hj : i = j
  ·subst hj; exact key t z
  ·rw [oth j hj] at z
   obtain ⟨v, g1, g2⟩ := h.at' j t z
   refine ⟨v, g1, ?_⟩
   cases t with
   | val p => exact Rep.stay k g2
   | own p =>
    obtain ⟨b, e', w, c⟩ := g2
    subst e'
    have hb : b ≠ a := fun z' => h.dis i j s0 _ hj hs0 z hm0 rfl (by rw [ha, g1, z'])
    exact ⟨b, rfl, w, c.stay k fun o q => by rw [upd_ne hb]; exact q⟩
   | loc p =>
    obtain ⟨b, e', w, c⟩ := g2
    subst e'
    have hb : b ≠ a := fun z' => h.dis i j s0 _ hj hs0 z hm0 rfl (by rw [ha, g1, z'])
    exact ⟨b, rfl, w, c.stay k fun o q => by rw [upd_ne hb]; exact q⟩
   | bor p =>
    obtain ⟨b, e', c⟩ := g2
    refine ⟨b, e', ?_⟩
    cases c with
    | lst e od n m r =>
     have hb : b ≠ a := fun z' => hz.elim (fun w => n (z' ▸ w)) fun w => m (z' ▸ w)
     exact .lst (e.elim (fun e => .inl (by rw [upd_ne hb]; exact e)) fun ⟨u, e⟩ => .inr ⟨u, by rw [upd_ne hb]; exact e⟩) od n m (r.stay k)
    | klst e r => exact .klst e (r.stay k)
    | dct e od n m kk r =>
     have hb : b ≠ a := fun z' => hz.elim (fun w => n (z' ▸ w)) fun w => m (z' ▸ w)
     exact .dct (e.elim (fun e => .inl (by rw [upd_ne hb]; exact e)) fun ⟨u, e⟩ => .inr ⟨u, by rw [upd_ne hb]; exact e⟩) od n m kk (r.stay k)
 ·have mine : ∀ (j : Nat) (s : Sl), (setOwn e i q)[j]? = some (some s) → s.mine = true → ∃ s' : Sl, e[j]? = some (some s') ∧ s'.mine = true := fun j s z m => by
   by_cases hj : i = j
   ·subst hj; exact ⟨s0, hs0, hm0⟩
   ·rw [oth j hj] at z; exact ⟨s, z, m⟩
  obtain ⟨t1, w1, n1⟩ := mine j s1 q1 m1
  obtain ⟨t2, w2, n2⟩ := mine l s2 q2 m2
  exact h.dis j l t1 t2 hjk w1 w2 n1 n2
theorem Keep.write {W : WS} {L : ASet} {H : Hp} {a : Addr} {ob o : HO} (hz : aw W a ∨ L a) (h : H a = some ob) (nt : ∀ xs, ob ≠ .tup xs) : Keep W L H (upd H a o) :=
 ⟨fun b u e n m => by rw [upd_ne (fun q : b = a => hz.elim (fun z => n (by rw [q]; exact z)) fun z => m (by rw [q]; exact z))]; exact e, fun b xs e => by rw [upd_ne (ne_of e h fun z => nt _ z.symm)]; exact e, fun b e => by
  by_cases hb : b = a
  ·subst hb; rw [upd_same]; exact fun z => nomatch z
  ·rw [upd_ne hb]; exact e⟩
theorem RB.put {O M L : ASet} {W : WS} {H : Hp} {σ : St} {e : En} {v : V} {b : Bv} {p : PV} (o : Okc O M W L H) (h : RB K O M W L H σ e v b) (g : b.put = some p) : EnRep K (uni M L) W L H σ e ∧ Rep K (uni M L) H p v := by
 have h := h.weak o
 cases b with
 | val q => cases g; exact h
 | new q => cases g; exact h
 | slot i => cases g
end
end Mr
namespace Mr
open PySem L2
noncomputable def valP (kvs : List (Key × PV)) (k : Key) : Option PV := (kvs.find? fun kv => decide (kv.1 = k)).map (·.2)
noncomputable def putP (kvs : List (Key × PV)) (k : Key) (v : PV) : List (Key × PV) :=
 if (kvs.any fun kv => decide (kv.1 = k)) = true then kvs.map (fun kv => if kv.1 = k then (kv.1, v) else kv) else kvs ++ [(k, v)]
section
variable {K : PySem.W.Frag} {Z : ASet} {H : Hp}
noncomputable def RepD (K : PySem.W.Frag) (Z : ASet) (H : Hp) (kvs : List (Key × PV)) (ys : List (Key × V)) : Prop := ys.map (·.1) = kvs.map (·.1) ∧ RepL K Z H (kvs.map (·.2)) (ys.map (·.2))
theorem RepD.cases {kvs : List (Key × PV)} {ys : List (Key × V)} (h : RepD K Z H kvs ys) : (kvs = [] ∧ ys = []) ∨ ∃ k p v r s, kvs = (k, p) :: r ∧ ys = (k, v) :: s ∧ Rep K Z H p v ∧ RepD K Z H r s := by
 obtain ⟨h1, h2⟩ := h
 cases kvs with
 | nil =>
  cases ys with
  | nil => exact .inl ⟨rfl, rfl⟩
  | cons y ys => cases h1
 | cons x kvs =>
  cases ys with
  | nil => cases h1
  | cons y ys =>
   obtain ⟨a, p⟩ := x
   obtain ⟨b, v⟩ := y
   rw [List.map_cons, List.map_cons] at h1
   have h1' := List.cons.inj h1
   have e : b = a := h1'.1
   subst e
   cases h2 with
   | cons h2 r2 => exact .inr ⟨b, p, v, kvs, ys, rfl, rfl, h2, h1'.2, r2⟩
theorem RepD.cons {k : Key} {p : PV} {v : V} {r : List (Key × PV)} {s : List (Key × V)} (h : Rep K Z H p v) (hr : RepD K Z H r s) : RepD K Z H ((k, p) :: r) ((k, v) :: s) :=
 ⟨by rw [List.map_cons, List.map_cons, hr.1], .cons h hr.2⟩
theorem RepD.val : ∀ {kvs : List (Key × PV)} {ys : List (Key × V)} (k : Key), RepD K Z H kvs ys → (valP kvs k = none ∧ valV ys k = none) ∨ ∃ p v, valP kvs k = some p ∧ valV ys k = some v ∧ Rep K Z H p v
 | [], ys, k, h => by
  rcases h.cases with ⟨_, rfl⟩ | ⟨_, _, _, _, _, e, _⟩
  ·exact .inl ⟨rfl, rfl⟩
  ·cases e
 | x :: kvs, ys, k, h => by
  rcases h.cases with ⟨e, _⟩ | ⟨j, p, v, r, s, e, e', hp, hr⟩
  ·cases e
  ·cases e
   subst e'
   by_cases hj : j = k
   ·exact .inr ⟨p, v, by simp [valP, List.find?_cons, hj], by simp [valV, List.find?_cons, hj], hp⟩
   ·have a : valP ((j, p) :: kvs) k = valP kvs k := by simp [valP, List.find?_cons, hj]
    have b : valV ((j, v) :: s) k = valV s k := by simp [valV, List.find?_cons, hj]
    rw [a, b]
    exact RepD.val k hr
theorem RepD.any {kvs : List (Key × PV)} {ys : List (Key × V)} (k : Key) (h : RepD K Z H kvs ys) : (kvs.any fun kv => decide (kv.1 = k)) = ys.any fun kv => decide (kv.1 = k) := by
 have e1 : (kvs.any fun kv => decide (kv.1 = k)) = (kvs.map (·.1)).any fun j => decide (j = k) := by rw [List.any_map]; rfl
 have e2 : (ys.any fun kv => decide (kv.1 = k)) = (ys.map (·.1)).any fun j => decide (j = k) := by rw [List.any_map]; rfl
 rw [e1, e2, h.1]
theorem RepD.repl {p : PV} {v : V} (hp : Rep K Z H p v) (k : Key) : ∀ {kvs : List (Key × PV)} {ys : List (Key × V)}, RepD K Z H kvs ys → RepD K Z H (kvs.map fun kv => if kv.1 = k then (kv.1, p) else kv) (ys.map fun kv => if kv.1 = k then (kv.1, v) else kv)
 | [], ys, h => by
  rcases h.cases with ⟨_, rfl⟩ | ⟨_, _, _, _, _, e, _⟩
  ·exact h
  ·cases e
 | x :: kvs, ys, h => by
  rcases h.cases with ⟨e, _⟩ | ⟨j, q, u, r, s, e, e', hq, hr⟩
  ·cases e
  ·cases e
   subst e'
   rw [List.map_cons, List.map_cons]
   by_cases hj : j = k
   ·rw [if_pos hj, if_pos hj]; exact .cons hp (RepD.repl hp k hr)
   ·rw [if_neg hj, if_neg hj]; exact .cons hq (RepD.repl hp k hr)
theorem RepD.put {kvs : List (Key × PV)} {ys : List (Key × V)} {p : PV} {v : V} (k : Key) (h : RepD K Z H kvs ys) (hp : Rep K Z H p v) : RepD K Z H (putP kvs k p) (putK ys k v) := by
 unfold putP putK
 rw [h.any k]
 split
 ·exact h.repl hp k
 ·exact ⟨by rw [List.map_append, List.map_append, h.1]; rfl, by rw [List.map_append, List.map_append]; exact h.2.app (.cons hp .nil)⟩
end
noncomputable def keyOf : PV → Option Key
 | .int i => some (.inl i)
 | .str x => some (.inr x)
 | _ => none
section
variable {K : PySem.W.Frag}
theorem Red.key {Z : ASet} {H : Hp} {p : PV} {v : V} {k : Key} (h : Red K Z H p v) (g : keyOf p = some k) : v = kV k := by
 cases p with
 | int i => cases g; exact h.int
 | str i => cases g; exact h.str
 | _ => cases g
end
end Mr
namespace Mr
open PySem L2
structure EnPend (K : PySem.W.Frag) (Z : ASet) (W : WS) (L : ASet) (H : Hp) (σ : St) (T : Nat → Prop) (e : En) : Prop where
 len : e.length = σ.length
 at' : ∀ (i : Nat) s, e[i]? = some (some s) → ∃ v, σ[i]? = some (some v) ∧ ((¬ T i ∨ s.mine = false) → SlRep K Z W L H i v s) ∧ (s.mine = true → ∃ a, v = .ref a ∧ ((∃ p, s = .own p ∧ W i a) ∨ ∃ p, s = .loc p ∧ L a))
 dis : ∀ (i j : Nat) s t, i ≠ j → e[i]? = some (some s) → e[j]? = some (some t) → s.mine = true → t.mine = true → σ[i]? ≠ σ[j]?
section
variable {K : PySem.W.Frag}
section
variable {O M L : ASet} {W : WS} {σ : St} {H1 : Hp} {e1 : En} {l : Addr} {ms : List (Nat × Nat)} {k : Nat} {cap : List Nat} {ob0 : HO}
end
end
end Mr
namespace Mr
open PySem L2
inductive Kd where
 | v | b | m
 deriving DecidableEq
noncomputable def slOf : Kd → PV → Sl
 | .v, p => .val p
 | .m, p => .own p
 | .b, .lst ps => .bor (.lst ps)
 | .b, .dct ps => .bor (.dct ps)
 | .b, p => .val p
noncomputable def env0 : List Kd → List PV → En
 | k :: ks, p :: ps => some (slOf k p) :: env0 ks ps
 | _, _ => []
section
variable {K : PySem.W.Frag}
theorem SlRep.noA {M L : ASet} {W : WS} {H : Hp} {i : Nat} {v : V} {s : Sl} (h : SlRep K M W L H i v s) : SlRep K (uni M noA) W L H i v s := by
 have k : Stay M (uni M Mr.noA) H H := .less fun a z => z.elim id fun z => z.elim
 cases s with
 | val p => exact Rep.stay k h
 | own p => obtain ⟨a, e, w, c⟩ := h; exact ⟨a, e, w, c.stay k fun _ h => h⟩
 | loc p => obtain ⟨a, e, w, c⟩ := h; exact ⟨a, e, w, c.stay k fun _ h => h⟩
 | bor p =>
  obtain ⟨a, e, c⟩ := h
  refine ⟨a, e, ?_⟩
  cases c with
  | lst e od n m r => exact .lst e od n m (r.stay k)
  | klst e r => exact .klst e (r.stay k)
  | dct e od n m kk r => exact .dct e od n m kk (r.stay k)
theorem RVs.get {Z : ASet} {H : Hp} {σ : St} : ∀ {bs : List Bv} {vs : List V} {i : Nat} {v : V}, RVs K Z H σ bs vs → vs[i]? = some v → ∃ b, bs[i]? = some b ∧ RV K Z H σ v b
 | _, _, _, _, .nil, h => by simp at h
 | _, _, 0, _, .cons h _, e => by simp at e; subst e; exact ⟨_, rfl, h⟩
 | _, _, i + 1, _, .cons _ r, e => by
  obtain ⟨b, h1, h2⟩ := RVs.get (i := i) r (by simpa using e)
  exact ⟨b, by simpa using h1, h2⟩
theorem RVs.length {Z : ASet} {H : Hp} {σ : St} : ∀ {bs : List Bv} {vs : List V}, RVs K Z H σ bs vs → bs.length = vs.length
 | _, _, .nil => rfl
 | _, _, .cons _ r => by rw [List.length_cons, List.length_cons, RVs.length r]
end
end Mr
namespace Mr
open PySem PySem.Spec L2 PyProof.Rows
mutual
inductive Lies (h : Heap) : PV → Value → Prop
 | non : Lies h .non .none
 | bl (b : Bool) : Lies h (.bl b) (.bool b)
 | int (i : Int) (t : Tok) : Lies h (.int i) (.int i t)
 | str (x : Str) (t : Tok) : Lies h (.str x) (.str x t)
 | tup {a : Addr} {its : List Value} {ps : List PV} : IsTup h a its.toArray → LiesL h ps its → Lies h (.tup ps) (.ref a)
 | lst {a : Addr} {its : List Value} {ps : List PV} : h.IsList a its.toArray → LiesL h ps its → Lies h (.lst ps) (.ref a)
inductive LiesL (h : Heap) : List PV → List Value → Prop
 | nil : LiesL h [] []
 | cons {p : PV} {v : Value} {ps : List PV} {vs : List Value} : Lies h p v → LiesL h ps vs → LiesL h (p :: ps) (v :: vs)
end
noncomputable def okP : Nat → PV → Bool
 | _, .non => true
 | _, .bl _ => true
 | _, .int _ => true
 | _, .str _ => true
 | n + 1, .tup ps => ps.all (okP n)
 | n + 1, .lst ps => ps.all (okP n)
 | _, _ => false
section
variable {X : Cx} {pins : List (Addr × Obj)} {σ : L2.St} {H : Hp} {s : Shared}
theorem Rep.lies {Z : ASet} (I : Inv X pins σ H s) : ∀ {n : Nat} {p : PV} {x : V} {v : Value}, okP n p = true → Rep X.K Z H p x → RelV x v → Lies s.heap p v
 | n, .non, x, v, ok, h, r => by cases h; cases r; exact .non
 | n, .bl b, x, v, ok, h, r => by cases h; cases r; exact .bl b
 | n, .int b, x, v, ok, h, r => by cases h; obtain ⟨t, rfl⟩ := r; exact .int b t
 | n, .str b, x, v, ok, h, r => by cases h; obtain ⟨t, rfl⟩ := r; exact .str b t
 | n, .ty b, x, v, ok, h, r => by cases n <;> cases ok
 | n, .dct b, x, v, ok, h, r => by cases n <;> cases ok
 | 0, .tup ps, x, v, ok, h, r => by cases ok
 | 0, .lst ps, x, v, ok, h, r => by cases ok
 | n + 1, .tup ps, x, v, ok, h, r => by
  cases h with
  | tup h rl =>
   cases r
   obtain ⟨its, rv, pl, _⟩ := I.tuple h.sq
   have key : ∀ (ps : List PV) (xs : List V) (its : List Value), ps.all (okP n) = true → RepL X.K Z H ps xs → Vals xs its → LiesL s.heap ps its := fun ps => by
    induction ps with
    | nil => intro xs its _ h1 h2; cases h1; cases h2; exact .nil
    | cons p ps ih =>
     intro xs its ha h1 h2
     rw [List.all_cons, Bool.and_eq_true] at ha
     cases h1 with
     | cons h1 r1 =>
      cases h2 with
      | cons h2 r2 => exact .cons (Rep.lies I (n := n) ha.1 h1 h2) (ih _ _ ha.2 r1 r2)
   exact .tup pl (key ps _ its ok rl rv)
 | n + 1, .lst ps, x, v, ok, h, r => by
  cases h with
  | lst h nz rl =>
   cases r
   obtain ⟨its, rv, pl, _⟩ := I.list (show SqL X.K H _ _ from .inl h)
   have key : ∀ (ps : List PV) (xs : List V) (its : List Value), ps.all (okP n) = true → RepL X.K Z H ps xs → Vals xs its → LiesL s.heap ps its := fun ps => by
    induction ps with
    | nil => intro xs its _ h1 h2; cases h1; cases h2; exact .nil
    | cons p ps ih =>
     intro xs its ha h1 h2
     rw [List.all_cons, Bool.and_eq_true] at ha
     cases h1 with
     | cons h1 r1 =>
      cases h2 with
      | cons h2 r2 => exact .cons (Rep.lies I (n := n) ha.1 h1 h2) (ih _ _ ha.2 r1 r2)
   exact .lst pl.isList (key ps _ its ok rl rv)
theorem RepL.lies {Z : ASet} (I : Inv X pins σ H s) {n : Nat} : ∀ {ps : List PV} {xs : List V} {its : List Value}, ps.all (okP n) = true → RepL X.K Z H ps xs → Vals xs its → LiesL s.heap ps its
 | [], _, _, _, h1, h2 => by cases h1; cases h2; exact .nil
 | p :: ps, _, _, ha, h1, h2 => by
  rw [List.all_cons, Bool.and_eq_true] at ha
  cases h1 with
  | cons h1 r1 =>
   cases h2 with
   | cons h2 r2 => exact .cons (Rep.lies I (n := n) ha.1 h1 h2) (RepL.lies I ha.2 r1 r2)
theorem Red.lies {Z : ASet} (I : Inv X pins σ H s) {n : Nat} {p : PV} {x : V} {v : Value} (ok : okP n p = true) (h : Red X.K Z H p x) (r : RelV x v) : Lies s.heap p v := by
 cases h with
 | rep h => exact h.lies I ok r
 | lst h rl =>
  cases r
  cases n with
  | zero => cases ok
  | succ n =>
   obtain ⟨its, rv, pl, _⟩ := I.list h.sq
   exact .lst pl.isList (RepL.lies I (n := n) ok rl rv)
 | dct h e r => cases n <;> cases ok
end
mutual
noncomputable def eqP : PV → PV → Bool
 | .non, .non => true
 | .bl a, .bl b => a == b
 | .bl a, .int b => (if a then 1 else 0) == b
 | .int a, .bl b => a == (if b then 1 else 0)
 | .int a, .int b => a == b
 | .str a, .str b => a == b
 | .tup xs, .tup ys => eqPL xs ys
 | .lst xs, .lst ys => eqPL xs ys
 | _, _ => false
noncomputable def eqPL : List PV → List PV → Bool
 | [], [] => true
 | x :: xs, y :: ys => eqP x y && eqPL xs ys
 | _, _ => false
end
theorem eqP_tup {xs ys : List PV} : eqP (.tup xs) (.tup ys) = eqPL xs ys := by rw [eqP]
theorem eqP_lst {xs ys : List PV} : eqP (.lst xs) (.lst ys) = eqPL xs ys := by rw [eqP]
theorem LiesL.length {h : Heap} : ∀ {ps : List PV} {vs : List Value}, LiesL h ps vs → ps.length = vs.length
 | _, _, .nil => rfl
 | _, _, .cons _ r => by rw [List.length_cons, List.length_cons, LiesL.length r]
theorem LiesL.get {h : Heap} : ∀ {ps : List PV} {vs : List Value} {i : Nat} {v : Value}, LiesL h ps vs → vs[i]? = some v → ∃ p, ps[i]? = some p ∧ Lies h p v
 | _, _, _, _, .nil, e => by simp at e
 | _, _, 0, _, .cons q _, e => by simp at e; subst e; exact ⟨_, rfl, q⟩
 | _, _, i + 1, _, .cons _ r, e => by
  obtain ⟨v, h1, h2⟩ := LiesL.get (i := i) r (by simpa using e)
  exact ⟨v, by simpa using h1, h2⟩
theorem tup_one {h : Heap} {a : Addr} {xs ys : Array Value} (h1 : IsTup h a xs) (h2 : IsTup h a ys) : xs = ys := by
 obtain ⟨o, g, _, n, d⟩ := h1
 obtain ⟨o', g', _, n', d'⟩ := h2
 rw [g] at g'
 cases g'
 rw [d] at d'
 injection d'
theorem lst_one {h : Heap} {a : Addr} {xs ys : Array Value} (h1 : h.IsList a xs) (h2 : h.IsList a ys) : xs = ys := by
 obtain ⟨o, g, _, n, d⟩ := h1
 obtain ⟨o', g', _, n', d'⟩ := h2
 rw [g] at g'
 cases g'
 rw [d] at d'
 injection d'
theorem tup_lst {h : Heap} {a : Addr} {xs ys : Array Value} (h1 : IsTup h a xs) (h2 : h.IsList a ys) : False := by
 obtain ⟨o, g, c, n, d⟩ := h1
 obtain ⟨o', g', c', n', d'⟩ := h2
 rw [g] at g'
 cases g'
 rw [c] at c'
 exact absurd c' (by decide)
mutual
theorem Lies.same {h : Heap} : ∀ {p : PV} {v : Value}, Lies h p v → ∀ {q : PV}, Lies h q v → eqP p q = true
 | _, _, .non, q, k => by cases k; rfl
 | _, _, .bl b, q, k => by cases k; exact beq_self_eq_true b
 | _, _, .int i t, q, k => by cases k; exact beq_self_eq_true i
 | _, _, .str i t, q, k => by cases k; exact beq_self_eq_true i
 | _, _, .tup ht r, q, k => by
  cases k with
  | tup ht' r' =>
   have e : _ = _ := tup_one ht ht'
   have e := congrArg Array.toList e
   simp only [List.toList_toArray] at e
   subst e
   unfold eqP
   exact LiesL.same r r'
  | lst hl r' => exact (tup_lst ht hl).elim
 | _, _, .lst ht r, q, k => by
  cases k with
  | tup ht' r' => exact (tup_lst ht' ht).elim
  | lst hl r' =>
   have e := congrArg Array.toList (lst_one ht hl)
   simp only [List.toList_toArray] at e
   subst e
   unfold eqP
   exact LiesL.same r r'
theorem LiesL.same {h : Heap} : ∀ {p : List PV} {v : List Value}, LiesL h p v → ∀ {q : List PV}, LiesL h q v → eqPL p q = true
 | _, _, .nil, q, k => by cases k; rfl
 | _, _, .cons h1 r1, q, k => by
  cases k with
  | cons h2 r2 => unfold eqPL; rw [Lies.same h1 h2, LiesL.same r1 r2]; rfl
end
mutual
theorem Lies.fn {h : Heap} : ∀ {p : PV} {v : Value}, Lies h p v → ∀ {q : PV}, Lies h q v → p = q
 | _, _, .non, q, k => by cases k; rfl
 | _, _, .bl b, q, k => by cases k; rfl
 | _, _, .int i t, q, k => by cases k; rfl
 | _, _, .str i t, q, k => by cases k; rfl
 | _, _, .tup ht r, q, k => by
  cases k with
  | tup ht' r' =>
   have e := congrArg Array.toList (tup_one ht ht')
   simp only [List.toList_toArray] at e
   subst e
   rw [LiesL.fn r r']
  | lst hl r' => exact (tup_lst ht hl).elim
 | _, _, .lst ht r, q, k => by
  cases k with
  | tup ht' r' => exact (tup_lst ht' ht).elim
  | lst hl r' =>
   have e := congrArg Array.toList (lst_one ht hl)
   simp only [List.toList_toArray] at e
   subst e
   rw [LiesL.fn r r']
theorem LiesL.fn {h : Heap} : ∀ {p : List PV} {v : List Value}, LiesL h p v → ∀ {q : List PV}, LiesL h q v → p = q
 | _, _, .nil, q, k => by cases k; rfl
 | _, _, .cons h1 r1, q, k => by
  cases k with
  | cons h2 r2 => rw [Lies.fn h1 h2, LiesL.fn r1 r2]
end
theorem eqPL_range : ∀ {ps qs : List PV}, ((List.range (min ps.length qs.length)).all (fun j => eqP (ps.getD j .non) (qs.getD j .non)) && ps.length == qs.length) = eqPL ps qs
 | [], [] => rfl
 | [], _ :: _ => by unfold eqPL; simp
 | _ :: _, [] => by unfold eqPL; simp
 | p :: ps, q :: qs => by
  have ih := eqPL_range (ps := ps) (qs := qs)
  unfold eqPL
  rw [← ih]
  have e : min (p :: ps).length (q :: qs).length = min ps.length qs.length + 1 := by simp only [List.length_cons]; omega
  rw [e, List.range_succ_eq_map, List.all_cons, List.all_map]
  have e2 : ((p :: ps).length == (q :: qs).length) = (ps.length == qs.length) := by
   rw [Bool.eq_iff_iff]; simp
  rw [e2, Bool.and_assoc]
  rfl
section
variable {A : Around} {s : Shared}
theorem toArr {vs : List Value} {j : Nat} (h : j < vs.toArray.size) : vs[j]? = some (vs.toArray[j]) := by simp at h ⊢
theorem eqAt_P : ∀ (n : Nat) (A : Around) {p q : PV} {v u : Value}, A.units + n < cLine → okP n p = true → okP n q = true → Lies s.heap p v → Lies s.heap q u → SeqAt.EqAt A s v u (eqP p q) := by
 intro n
 induction n with
 | zero =>
  intro A p q v u hu o1 o2 h1 h2
  cases h1 with
  | tup _ _ => cases o1
  | lst _ _ => cases o1
  | non =>
   cases h2 with
   | tup _ _ => cases o2
   | lst _ _ => cases o2
   | non => exact .same _
   | bl b => exact .none_bool b
   | int b t => exact .none_int b t
   | str b t => exact .none_str b t
  | bl a =>
   cases h2 with
   | tup _ _ => cases o2
   | lst _ _ => cases o2
   | non => exact .bool_none a
   | bl b => exact .bool_bool a b
   | int b t => exact .bool_int a b t
   | str b t => exact .bool_str a b t
  | int a t' =>
   cases h2 with
   | tup _ _ => cases o2
   | lst _ _ => cases o2
   | non => exact .int_none a t'
   | bl b => exact .int_bool a t' b
   | int b t => exact .int_int a t' b t
   | str b t => exact .int_str a t' b t
  | str a t' =>
   cases h2 with
   | tup _ _ => cases o2
   | lst _ _ => cases o2
   | non => exact .str_none a t'
   | bl b => exact .str_bool a t' b
   | int b t => exact .str_int a t' b t
   | str b t => exact .str_str a t' b t
 | succ n ih =>
  intro A p q v u hu o1 o2 h1 h2
  have hu0 : A.units < cLine := by omega
  have hin : A.in1.units = A.units + 1 := rfl
  have els : ∀ {ps qs : List PV} {vs us : List Value}, ps.all (okP n) = true → qs.all (okP n) = true → LiesL s.heap ps vs → LiesL s.heap qs us → ∀ (j : Nat) (g1 : j < vs.toArray.size) (g2 : j < us.toArray.size), SeqAt.EqAt A.in1 s vs.toArray[j] us.toArray[j] (eqP (ps.getD j .non) (qs.getD j .non)) := fun {ps qs vs us} a1 a2 l1 l2 j g1 g2 => by
   obtain ⟨x, ex, rx⟩ := l1.get (toArr g1)
   obtain ⟨y, ey, ry⟩ := l2.get (toArr g2)
   rw [List.getD_eq_getElem?_getD, List.getD_eq_getElem?_getD, ex, ey]
   exact ih A.in1 (by omega) (List.all_eq_true.mp a1 _ (List.mem_of_getElem? ex)) (List.all_eq_true.mp a2 _ (List.mem_of_getElem? ey)) rx ry
  cases h1 with
  | tup ht r =>
   cases h2 with
   | tup ht' r' =>
    rename_i a its ps a' its' ps'
    by_cases hab : a = a'
    ·subst hab
     rw [Lies.same (.tup ht r) (.tup ht' r')]
     exact .same _
    ·refine .of_refs hab ?_
     have e : eqP (.tup ps) (.tup ps') = ((List.range (min its.toArray.size its'.toArray.size)).all (fun j => eqP (ps.getD j .non) (ps'.getD j .non)) && its.toArray.size == its'.toArray.size) := by
      rw [eqP_tup, ← eqPL_range, r.length, r'.length, List.size_toArray, List.size_toArray]
     rw [e]
     exact SeqAt.RcAt.tuples (e := fun j => eqP (ps.getD j .non) (ps'.getD j .non)) ht ht' hu0 (els o1 o2 r r')
   | lst hl r' => exact .tuple_list ht hl hu0
   | non => exact .tuple_none ht hu0
   | bl b => exact .tuple_bool b ht hu0
   | int b t => exact .tuple_int b t ht hu0
   | str b t => exact .tuple_str b t ht hu0
  | lst ht r =>
   cases h2 with
   | tup ht' r' => exact .list_tuple ht ht' hu0
   | lst ht' r' =>
    rename_i a its ps a' its' ps'
    by_cases hab : a = a'
    ·subst hab
     rw [Lies.same (.lst ht r) (.lst ht' r')]
     exact .same _
    ·refine .of_refs hab ?_
     by_cases hsz : its.length = its'.length
     ·have e : eqP (.lst ps) (.lst ps') = (List.range its.toArray.size).all (fun j => eqP (ps.getD j .non) (ps'.getD j .non)) := by
       rw [eqP_lst, ← eqPL_range, r.length, r'.length, List.size_toArray, ← hsz, Nat.min_self, beq_self_eq_true, Bool.and_true]
      rw [e]
      exact SeqAt.RcAt.lists (e := fun j => eqP (ps.getD j .non) (ps'.getD j .non)) ht ht' (by simp [hsz]) hu0 (els o1 o2 r r')
     ·have e : eqP (.lst ps) (.lst ps') = false := by
       rw [eqP_lst, ← eqPL_range, r.length, r'.length, show (its.length == its'.length) = false by simp [hsz], Bool.and_false]
      rw [e]
      exact SeqAt.RcAt.lists_lengths ht ht' (by simp [hsz]) hu0
   | non => exact .list_none ht hu0
   | bl b => exact .list_bool b ht hu0
   | int b t => exact .list_int b t ht hu0
   | str b t => exact .list_str b t ht hu0
  | non =>
   cases h2 with
   | tup ht' r' => exact .none_tuple ht' hu0
   | lst hl r' => exact .none_list hl hu0
   | non => exact .same _
   | bl b => exact .none_bool b
   | int b t => exact .none_int b t
   | str b t => exact .none_str b t
  | bl a =>
   cases h2 with
   | tup ht' r' => exact .bool_tuple a ht' hu0
   | lst hl r' => exact .bool_list a hl hu0
   | non => exact .bool_none a
   | bl b => exact .bool_bool a b
   | int b t => exact .bool_int a b t
   | str b t => exact .bool_str a b t
  | int a t' =>
   cases h2 with
   | tup ht' r' => exact .int_tuple a t' ht' hu0
   | lst hl r' => exact .int_list a t' hl hu0
   | non => exact .int_none a t'
   | bl b => exact .int_bool a t' b
   | int b t => exact .int_int a t' b t
   | str b t => exact .int_str a t' b t
  | str a t' =>
   cases h2 with
   | tup ht' r' => exact .str_tuple a t' ht' hu0
   | lst hl r' => exact .str_list a t' hl hu0
   | non => exact .str_none a t'
   | bl b => exact .str_bool a t' b
   | int b t => exact .str_int a t' b t
   | str b t => exact .str_str a t' b t
end
noncomputable def itemsP : PV → Option (List PV)
 | .lst ps => some ps
 | .tup ps => some ps
 | _ => none
noncomputable def rInP (K : PySem.W.Frag) (neg : Bool) : R2 := fun x y H Q => ∃ p q ps, Red K noA H p x ∧ Red K noA H q y ∧ itemsP q = some ps ∧ okP 8 p = true ∧ ps.all (okP 8) = true ∧ Q (.bl (if neg then !ps.any (fun z => eqP z p) else ps.any fun z => eqP z p)) H
section
variable {X : Cx} {k : Nat}
theorem LiesL.any {h : Heap} {e : Value → Bool} {f : PV → Bool} (he : ∀ {q : PV} {y : Value}, Lies h q y → e y = f q) : ∀ {ps : List PV} {its : List Value}, LiesL h ps its → its.any e = ps.any f
 | _, _, .nil => rfl
 | _, _, .cons h r => by rw [List.any_cons, List.any_cons, he h, LiesL.any he r]
theorem in_any {s : Shared} {A : Around} {p : PV} {u : Value} (hu : A.units + 8 < cLine) (op : okP 8 p = true) (hp : Lies s.heap p u) {ps : List PV} {its : List Value} (ops : ps.all (okP 8) = true) (hl : LiesL s.heap ps its) :
  ∃ e : Value → Bool, (∀ y, y ∈ its.toArray → SeqAt.EqAt A s y u (e y)) ∧ its.toArray.any e = ps.any fun z => eqP z p := by
 classical
 let e : Value → Bool := fun y => if c : ∃ q, Lies s.heap q y then eqP c.choose p else false
 have he : ∀ {q : PV} {y : Value}, Lies s.heap q y → e y = eqP q p := fun {q y} h => by
  have c : ∃ q, Lies s.heap q y := ⟨q, h⟩
  show (if c : ∃ q, Lies s.heap q y then eqP c.choose p else false) = _
  rw [dif_pos c, Lies.fn c.choose_spec h]
 refine ⟨e, fun y hy => ?_, ?_⟩
 ·obtain ⟨j, hj⟩ := List.getElem?_of_mem (show y ∈ its by simpa using hy)
  obtain ⟨q, h1, h2⟩ := hl.get hj
  rw [he h2]
  exact eqAt_P 8 A hu (List.all_eq_true.mp ops _ (List.mem_of_getElem? h1)) op h2 hp
 ·rw [List.any_toArray]
  exact LiesL.any (fun h => he h) hl
theorem notInPX (K : PySem.W.Frag) (hr : Room k X.A) (hK : X.K = K := by rfl) : OpR X (compareOp .NotIn) (rInP K true) := by
 subst hK
 intro pins s σ H x y v u Q I rx ry h
 obtain ⟨p, q, ps, h1, h2, hi, o1, o2, hQ⟩ := h
 have hu : X.A.in1.units + 8 < cLine := by have := hr.un; show X.A.units + 1 + 8 < _; omega
 have lp := h1.lies I o1 rx
 cases q with
 | lst qs =>
  cases hi
  cases h2.lies I (n := 9) (p := .lst _) o2 ry with
  | lst hl r =>
   obtain ⟨e, e1, e2⟩ := in_any hu o1 lp o2 r
   exact SeqAt.notIn_listAt e hl e1 (by rw [e2]; exact fin_bl I hQ rfl)
 | tup qs =>
  cases hi
  cases h2.lies I (n := 9) (p := .tup _) o2 ry with
  | tup hl r =>
   obtain ⟨e, e1, e2⟩ := in_any hu o1 lp o2 r
   exact SeqAt.notIn_tupleAt e hl e1 (by rw [e2]; exact fin_bl I hQ rfl)
 | _ => cases hi
end
end Mr
namespace Mr
open PySem PySem.Spec L2 PyProof.Rows
section
variable {K : PySem.W.Frag}
noncomputable def gI0 (g : Int → Int → PV) : PV → PV → Option Bv
 | .int i, .int j => some (.val (g i j))
 | _, _ => none
noncomputable def gSub : PV → PV → Option Bv := gI0 fun i j => .int (i - j)
theorem Red.any {Z : ASet} {H : Hp} {p : PV} {v : V} (h : Red K Z H p v) : Red K noA H p v := by
 have k : Stay Z noA H H := .less fun a z => z.elim
 cases h with
 | rep h => exact .rep (h.stay k)
 | lst h r => exact .lst h (r.stay k)
 | dct h e r => exact .dct h e (r.stay k)
theorem RepL.atI {Z : ASet} {H : Hp} {ps : List PV} {xs : List V} {i : Int} {p : PV} (r : RepL K Z H ps xs) (h : L2.atI ps i = some p) : ∃ v, L2.atI xs i = some v ∧ Rep K Z H p v := by
 unfold L2.atI at h ⊢
 rw [← r.length]
 cases c : ixN ps.length i with
 | none => rw [c] at h; cases h
 | some j => rw [c] at h; exact r.get h
theorem RedL.one {Z : ASet} {H : Hp} {p : PV} {vs : List V} (h : RedL K Z H [p] vs) : ∃ v, vs = [v] ∧ Red K Z H p v := by
 cases h with | cons h r => cases r; exact ⟨_, rfl, h⟩
theorem RepL.strs {Z : ASet} {H : Hp} : ∀ {xs : List Str} {vs : List V}, RepL K Z H (xs.map PV.str) vs → vs = xs.map V.str
 | [], vs, h => by cases h; rfl
 | x :: xs, vs, h => by cases h with | cons h r => cases h; rw [RepL.strs r]; rfl
end
end Mr
namespace Mr
open PySem PySem.Spec L2 PyProof.Rows
section
variable {K : PySem.W.Frag}
noncomputable def rPart : V → List V → Hp → VK → Prop := fun x vs H Q => ∃ z y, x = .str z ∧ vs = [.str y] ∧ (y.length == 0) = false ∧ z.length ≤ sizeLine ∧ ∀ p, H p = none → Q (.ref p) (upd H p (.tup [.str (Txt.partition z y).1, .str (Txt.partition z y).2.1, .str (Txt.partition z y).2.2]))
theorem mt_partition {X : Cx} : MtR X "str.partition" rPart := by
 intro pins s σ H x vs v us Q I rx rv h
 obtain ⟨z, y, rfl, rfl, hy, hz, q⟩ := h
 obtain ⟨t, rfl⟩ := rx
 obtain ⟨u, rfl, t', rfl⟩ := vals1 rv
 refine call_meets F.slot_str_partition (typeIs_str _ _ _) F.entry_str_partition (F.args_str_partition_2 _ _) (meets_str_partition z y t t' hy hz) ?_
 have fin : ∀ (a b c : Str) (ta tb tc : Tok) (tk : Nat), (a, b, c) = Txt.partition z y → EP X pins σ Q (.ref s.heap.objs.size) { s with toks := tk, heap := s.heap.push { cls := .type "tuple", data := .seq [.str a ta, .str b tb, .str c tc].toArray } } := fun a b c ta tb tc tk e => by
  refine ⟨.ref s.heap.objs.size, _, I.laid (t' := tk) (o := .tup [.str a, .str b, .str c]) (fun b ob q => Heap.get?_push_of_some _ q) (Nat.le_refl _) ?_, rfl, ?_⟩
  ·exact ⟨by show 3 ≤ sizeLine; decide, [.str a ta, .str b tb, .str c tc], .cons ⟨_, rfl⟩ (.cons ⟨_, rfl⟩ (.cons ⟨_, rfl⟩ .nil)), TupP.new _ _⟩
  ·have := q s.heap.objs.size (I.hok.fresh (Nat.le_refl _))
   rw [← e] at this
   exact this
 show wants _ _ _ _
 cases ho : Builtin.Str.occurrences z y 0 z.length 1 with
 | nil => exact fin _ _ _ _ _ _ _ (by unfold Txt.partition; rw [ho])
 | cons i r => exact fin _ _ _ _ _ _ _ (by unfold Txt.partition; rw [ho])
theorem RepL.empty {Z : ASet} {H : Hp} {ps : List PV} {xs : List V} (r : RepL K Z H ps xs) : ps.isEmpty = xs.isEmpty := by cases r <;> rfl
end
end Mr
namespace Mr
open PySem PySem.Spec L2 PyProof.Rows
end Mr
namespace Mr
open PySem PySem.Spec L2 PyProof.Rows
end Mr
namespace L2
open PySem PySem.Spec PyProof.Rows
noncomputable def IteL (K : PySem.W.Frag) (a : Addr) : It :=
 ⟨fun i H => ∃ xs x, SqL K H a xs ∧ xs[i]? = some x, fun i H v H' => ∃ t, H t = none ∧ v = .ref t ∧ ∀ xs, SqL K H a xs → ∃ x, xs[i]? = some x ∧ H' = upd H t (.tup [.int i, x]), fun i H => ∃ xs, SqL K H a xs ∧ xs.length = i⟩
theorem turn_enumL {P : Program} {w : World} {K : PySem.W.Frag} {elts : List Expr} {x1} {pos : Pos} (a it e : Addr) (hei : e ≠ it) : Turn P w K (.Tuple elts x1 pos) (IteL K a) [e, it] e (fun i h => (∃ old, IsEnum h e it i old) ∧ h.IsListIter it a i) where
 mem := by simp
 obj := fun i h st b hb => by
  obtain ⟨⟨old, he⟩, o, ho, c, d⟩ := st
  rcases List.mem_cons.mp hb with z | z
  ·subst z; exact ⟨_, he, fun v z => by cases z⟩
  ·have z : b = it := by simpa using z
   subst z; exact ⟨o, ho, fun v z => by rw [d] at z; cases z⟩
 keep := fun i h h' st k => ⟨let ⟨old, he⟩ := st.1; ⟨old, k e (by simp) _ he⟩, st.2.at fun o q => k it (by simp) o q⟩
 item := by
  intro X hP hw hK hc i pins s σ H E I hf st hg
  subst hP hw hK
  obtain ⟨xs, x, hq, hx⟩ := hg
  obtain ⟨its, rv, p, hz⟩ := I.list hq
  obtain ⟨u, hu, ru⟩ := rv.get hx
  obtain ⟨⟨old, he⟩, ht⟩ := st
  have hne : a ≠ it := fun z => by
   obtain ⟨o, ho, c, _⟩ := ht
   obtain ⟨o', _, ho', c', _, _⟩ := p
   subst z
   rw [ho] at ho'; cases ho'
   rw [c] at c'
   exact absurd (Value.type.inj c') (by decide)
  have hae : a ≠ e := fun z => by
   obtain ⟨o', _, ho', c', _, _⟩ := p
   subst z
   rw [he] at ho'; cases ho'
   exact absurd (Value.type.inj c') (by decide)
  have hlt : i < its.toArray.size := by have := (List.getElem?_eq_some_iff.mp hu).1; simpa using this
  refine wpAny_pyNext_enum_itemD (Draws.list (A := X.A.in1) (by exact I.ok.hd hc) it a hne its.toArray) he ⟨ht, p.isList⟩ hlt hei (by simp [hei, Ne.symm hae]) fun v h' tk hPv ho' st' htup hsz hk => ?_
  have ev : v = u := by
   have h1 : its[i]? = some v := by simpa using hPv
   rw [hu] at h1; exact (Option.some.inj h1).symm
  subst ev
  refine ⟨_, rfl, wpAny_letOwnedTupleGo_enum (s := { s with heap := h', toks := tk + 1 }) ho' fun h2 he2 sb => ?_⟩
  have hTe : s.heap.objs.size ≠ e := fun z => by
   have := Heap.lt_size he; rw [← z] at this; exact Nat.lt_irrefl _ this
  have hTi : s.heap.objs.size ≠ it := fun z => by
   obtain ⟨o, ho, _⟩ := ht
   have := Heap.lt_size ho; rw [← z] at this; exact Nat.lt_irrefl _ this
  have hk2 : ∀ b o, b ∉ [e, it] → s.heap.get? b = some o → h2.get? b = some o := fun b o hb q =>
   sb.extBut b o (fun z => hb (by simp [z])) (hk b o (fun z => hb (by simp [z])) (fun z => hb (by simp [z])) q)
  have I1 : Inv X pins σ H { s with heap := h2, toks := tk + 1 } := I.turnedL hk2 hf
  have hfr : H s.heap.objs.size = none := I.hok.fresh (Nat.le_refl _)
  have htup2 : h2.get? s.heap.objs.size = some { cls := .type "tuple", data := .seq #[.int i tk, v] } := sb.extBut _ _ hTe htup
  have I2 : Inv X pins σ (upd H s.heap.objs.size (.tup [.int i, x])) { s with heap := h2, toks := tk + 1 } := by
   refine I.un2 hk2 hf hfr (by simp [hTe, hTi]) ⟨by show 2 ≤ sizeLine; decide, [.int i tk, v], .cons ⟨_, rfl⟩ (.cons ru .nil), TupP.of htup2⟩ (fun b hb o q => ?_)
   rcases List.mem_cons.mp hb with r | r
   ·subst r; exact ⟨_, he2⟩
   ·have r : b = it := by simpa using r
    subst r
    obtain ⟨o', ho', _⟩ := st'.1.extBut sb.extBut (Ne.symm hei)
    exact ⟨o', ho'⟩
  refine ⟨.ref s.heap.objs.size, _, I2, rfl, ⟨s.heap.objs.size, hfr, rfl, fun ys hy => ⟨x, by rw [I.list_inj hy hq]; exact hx, rfl⟩⟩, ⟨⟨_, he2⟩, st'.1.extBut sb.extBut (Ne.symm hei)⟩, fun b hb => ?_⟩
  have hbT : b ≠ s.heap.objs.size := fun z => by
   rcases List.mem_cons.mp hb with r | r
   ·exact hTe (z ▸ r)
   ·have r : b = it := by simpa using r
    exact hTi (z ▸ r)
  rw [upd_ne hbT]
  exact (hf b hb).1
 done := by
  intro X hP hw hK hc i pins s σ H E I hf st hg
  subst hP hw hK
  obtain ⟨xs, hq, hx⟩ := hg
  obtain ⟨its, rv, p, hz⟩ := I.list hq
  obtain ⟨⟨old, he⟩, ht⟩ := st
  have hl := rv.length
  have hne : a ≠ it := fun z => by
   obtain ⟨o, ho, c, _⟩ := ht
   obtain ⟨o', _, ho', c', _, _⟩ := p
   subst z
   rw [ho] at ho'; cases ho'
   rw [c] at c'
   exact absurd (Value.type.inj c') (by decide)
  have ei : (i : Nat) = its.toArray.size := by simp; omega
  subst ei
  obtain ⟨f0, f1, f2, f3, f4, f5⟩ := hf it (by simp)
  exact wpAny_pyNext_enum_endD (Draws.list (A := X.A.in1) (by exact I.ok.hd hc) it a hne its.toArray) he ⟨ht, p.isList⟩ fun h' eb => ⟨rfl, I.turned (t' := s.toks) (fun b o hb e => eb b o hb e) f0 f1 f3 f4 f5⟩
 self := fun _ _ _ _ _ st h => let ⟨_, he⟩ := st.1; wpAny_pyIter_enum he h
section
variable {X : Cx} {elts : List Expr} {x1 : Nat} {tpos : Pos}
noncomputable def iEnumA (K : PySem.W.Frag) (ta : TA) : TI := fun σ H R => ta σ H fun vs H1 => (∃ a xs, vs = [.ref a] ∧ SqT K H1 a xs ∧ R (Ite K a) H1) ∨ ∃ a xs, vs = [.ref a] ∧ SqL K H1 a xs ∧ R (IteL K a) H1
theorem pi_enumA {a : Expr} {ta : TA} {p pos : Pos} (hg : Gl X "enumerate") (hm : X.mg "enumerate" = none) (ha : PA X [a] ta) (hs : starEach [a] X.env = [(false, eval a X.env)] := by rfl) : PI X (.Tuple elts x1 tpos) (.Call (.Name "enumerate" p) [a] [] pos) (iEnumA X.K ta) := by
 intro pins s σ H R I h
 refine Call_ (ld_blt I hg hm bt_enumerate (PyProof.Rows.callWith_type1 (thn (ha pos pins s σ H _ I h) fun us s1 ⟨vs, H1, I1, r1, q1⟩ => ?_) hs rfl))
 rcases q1 with ⟨t, xs, e, hq, q⟩ | ⟨t, xs, e, hq, q⟩
 ·subst e
  obtain ⟨u, rfl, rx⟩ := vals1 r1
  cases rx
  obtain ⟨its, rv, pt, hz⟩ := I1.tuple hq
  refine ours_call_enumerate_tuple (show s1.heap.IsTuple t its.toArray from pt) fun h' he ht hsz hk => ?_
  have I2 : Inv X pins σ H1 { s1 with heap := h' } := I1.kept (t' := s1.toks) hk
  refine wpAny_pyIter_enum (s := { s1 with heap := h' }) he ?_
  refine ⟨s1.heap.objs.size + 1, [s1.heap.objs.size + 1, s1.heap.objs.size], _, _, H1, rfl, I2, turn_enumT t s1.heap.objs.size (s1.heap.objs.size + 1) (Nat.succ_ne_self _), ⟨⟨_, he⟩, ht⟩, fun b hb => ?_, q⟩
  rcases List.mem_cons.mp hb with r | r
  ·subst r; exact I1.fpOk (Nat.le_succ _) (I1.hok.fresh (Nat.le_succ _))
  ·have r : b = s1.heap.objs.size := by simpa using r
   subst r; exact I1.fpOk (Nat.le_refl _) (I1.hok.fresh (Nat.le_refl _))
 ·subst e
  obtain ⟨u, rfl, rx⟩ := vals1 r1
  cases rx
  obtain ⟨its, rv, pt, hz⟩ := I1.list hq
  refine call_enumerate_list pt.isList fun h' he ht hsz hk => ?_
  have I2 : Inv X pins σ H1 { s1 with heap := h' } := I1.kept (t' := s1.toks) hk
  refine wpAny_pyIter_enum (s := { s1 with heap := h' }) he ?_
  refine ⟨s1.heap.objs.size + 1, [s1.heap.objs.size + 1, s1.heap.objs.size], _, _, H1, rfl, I2, turn_enumL t s1.heap.objs.size (s1.heap.objs.size + 1) (Nat.succ_ne_self _), ⟨⟨_, he⟩, ht⟩, fun b hb => ?_, q⟩
  rcases List.mem_cons.mp hb with r | r
  ·subst r; exact I1.fpOk (Nat.le_succ _) (I1.hok.fresh (Nat.le_succ _))
  ·have r : b = s1.heap.objs.size := by simpa using r
   subst r; exact I1.fpOk (Nat.le_refl _) (I1.hok.fresh (Nat.le_refl _))
theorem pi_enmA (K : PySem.W.Frag) {a : Expr} {ta : TA} {p pos : Pos} (hg : Gl X "enumerate") (hm : X.mg "enumerate" = none) (ha : PA X [a] ta) (h : X.K = K := by rfl) (hs : starEach [a] X.env = [(false, eval a X.env)] := by rfl) :
  PI X (.Tuple elts x1 tpos) (.Call (.Name "enumerate" p) [a] [] pos) (iEnumA K ta) := h ▸ pi_enumA hg hm ha hs
end
end L2
namespace Mr
open PySem PySem.Spec L2 PyProof.Rows
section
variable {K : PySem.W.Frag}
end
end Mr
namespace L2
open PySem PySem.Spec PyProof.Rows
section
variable {X : Cx} {e st : Expr} {te ts : TE} {pos p2 : Pos}
end
end L2
namespace Mr
open PySem PySem.Spec L2 PyProof.Rows
section
variable {K : PySem.W.Frag}
theorem RepL.rev {Z : ASet} {H : Hp} : ∀ {ps : List PV} {xs : List V}, RepL K Z H ps xs → RepL K Z H ps.reverse xs.reverse
 | _, _, .nil => .nil
 | _, _, .cons a r => by rw [List.reverse_cons, List.reverse_cons]; exact RepL.app (RepL.rev r) (.cons a .nil)
end
end Mr
namespace Mr
open PySem PySem.Spec L2 PyProof.Rows
section
variable {K : PySem.W.Frag}
end
end Mr
namespace Mr
open PySem PySem.Spec L2 PyProof.Rows
section
variable {K : PySem.W.Frag}
end
end Mr
namespace Mr
open PySem L2
structure Mark {α : Type} (Q : α → Prop) : Type where
noncomputable def Wp {α : Type} (r : Option α) (Q : α → Prop) (u : Mark Q := ⟨⟩) : Prop := ∃ a, r = some a ∧ Q a
section
variable {α β : Type} {Q : β → Prop}
theorem at0 {x : α} {xs : List α} : atI (x :: xs) 0 = some x := atI_nat (j := 0) rfl
theorem Wp.mono {r : Option β} {Q Q' : β → Prop} (h : Wp r Q) (k : ∀ b, Q b → Q' b) : Wp r Q' := let ⟨b, e, q⟩ := h; ⟨b, e, k b q⟩
theorem Wp.eq {r : Option β} {b : β} (h : Wp r fun x => x = b) : r = some b := let ⟨_, e, q⟩ := h; q ▸ e
end
end Mr
namespace L2
open PySem PySem.Spec PyProof.Rows PySem.W
section
variable {prog : Program} {w : World} {A : Around} {E : Value → Shared → Prop} {s : Shared} {T : String} {r d : Addr} {n : Nat} {Pz : Nat → Value → Prop} {OKh : Heap → Prop}
noncomputable def Grew (s s' : Shared) : Prop := ∃ h' tk dr, s' = { s with heap := h', toks := tk, drawn := dr } ∧ s.heap.objs.size ≤ h'.objs.size ∧ ∀ b o, s.heap.get? b = some o → h'.get? b = some o
theorem Grew.size {s s' : Shared} (g : Grew s s') : s.heap.objs.size ≤ s'.heap.objs.size := by
 obtain ⟨h', tk, dr, rfl, k, _⟩ := g
 exact k
end
section
variable {X : Cx} {pins : List (Addr × Obj)} {σ : St} {H : Hp} {s s' : Shared}
theorem Grew.push (g : Grew s s') (o : Obj) : Grew s { s' with heap := s'.heap.push o } := by
 obtain ⟨h', tk, dr, rfl, gz, k⟩ := g
 exact ⟨h'.push o, tk, dr, rfl, by rw [size_push']; exact Nat.le_succ_of_le gz, fun b u e => Heap.get?_push_of_some _ (k b u e)⟩
end
end L2
namespace L2
open PySem PySem.Spec PyProof.Rows PySem.W
theorem Rd.upd {H : Hp} {a l : Addr} {o u : HO} (h : Rd H a o) (hl : H l = none) : Rd (upd H l u) a o := by
 have ne : a ≠ l := by
  rintro rfl
  rcases h with h | ⟨_, h⟩ <;> (rw [hl] at h; cases h)
 rcases h with h | ⟨x, h⟩
 ·exact .inl (by rw [upd_ne ne]; exact h)
 ·exact .inr ⟨x, by rw [upd_ne ne]; exact h⟩
theorem KV.vals {kvs : List (Key × V)} {vs : List (Key × Value)} (r : KV kvs vs) : Vals (kvs.map (·.2)) (vs.map (·.2)) := by
 unfold KV at r
 induction r with
 | nil => exact .nil
 | cons h t ih => exact .cons h.2 ih
theorem KV.len {kvs : List (Key × V)} {vs : List (Key × Value)} (r : KV kvs vs) : kvs.length = vs.length := by
 have := congrArg List.length r.keys
 simpa using this
theorem RdK.upd {H : Hp} {a l : Addr} {kvs : List (Key × V)} {u : HO} (h : RdK H a kvs) (hl : H l = none) : RdK (upd H l u) a kvs := let ⟨ep, e⟩ := h; ⟨ep, Rd.upd e hl⟩
section
variable {X : Cx}
end
end L2
namespace L2
open PySem PySem.Spec PyProof.Rows PySem.W
section
theorem lay_led (t : SetTable) (es : Array (Int × Value)) (h : Int) (x : Value) : (layNew t es h x).2.1.led = t.led := by
 unfold layNew
 split
 ·dsimp only
  generalize hp : SetTable.put t _ = z
  have hz : z.1.led = t.led := by rw [← hp]; rfl
  unfold SetTable.orStandIn
  split
  ·exact hz
  ·exact hz
 ·rfl
theorem relay_lp (t : SetTable) (es : Array (Int × Value)) (n : Nat) : (relayAll t es n).2.1.led = t.led ∧ (t.plain = false → (relayAll t es n).2.1.plain = false) := by
 unfold relayAll
 split
 ·rename_i t' order e
  have k : t'.led = t.led ∧ t'.plain = t.plain := by
   unfold SetTable.relaid SetTable.laid at e
   cases c : SetTable.layClean (SetTable.sizeAbove n - 1) (es.map (·.1)) with
   | none => rw [c] at e; cases e
   | some o => rw [c] at e; cases e; exact ⟨rfl, rfl⟩
  dsimp only
  split
  ·exact ⟨k.1, fun z => k.2.trans z⟩
  ·exact ⟨rfl, fun _ => rfl⟩
 ·exact ⟨rfl, fun _ => rfl⟩
variable (prog : Program) (w : World)
noncomputable abbrev byT : Bool := w.params.followText "set-order"
noncomputable def SetAt (h : Heap) (a : Addr) (ks : List Str) (es : Array (Int × Value)) (ep : Nat) (t : SetTable) : Prop :=
 ∃ o, h.get? a = some o ∧ o.ExactSet ∧ o.data = .set es ep t ∧ ElemsOf (PySem.strKind prog w) es.toList ∧ (∃ us, StrsAre (es.toList.map (·.2)) us ∧ us.Perm ks) ∧ es.size < scanBound ∧ t.fits es.size = true ∧ t.led = !byT w ∧ (es.size = 0 ∨ t.plain = false)
noncomputable def StrSet (h : Heap) (a : Addr) (ks : List Str) : Prop := ∃ es ep t, SetAt prog w h a ks es ep t
variable {prog w}
theorem SetAt.at' {h h' : Heap} {a : Addr} {ks : List Str} {es : Array (Int × Value)} {ep : Nat} {t : SetTable} (x : SetAt prog w h a ks es ep t) (k : ∀ o, h.get? a = some o → h'.get? a = some o) : SetAt prog w h' a ks es ep t := let ⟨o, e, r⟩ := x; ⟨o, k o e, r⟩
theorem StrSet.at' {h h' : Heap} {a : Addr} {ks : List Str} (x : StrSet prog w h a ks) (k : ∀ o, h.get? a = some o → h'.get? a = some o) : StrSet prog w h' a ks := let ⟨es, ep, t, r⟩ := x; ⟨es, ep, t, r.at' k⟩
noncomputable def addS (ks : List Str) (x : Str) : List Str := if x ∈ ks then ks else ks ++ [x]
theorem is_str {k x : Str} {t : Tok} : (PySem.strKind prog w).is k (.str x t) = decide (k = x) := KeyKind.is_eq_decide (strKind_is _ _ _ _) k
theorem mem_strs : ∀ {vs : List Value} {us : List Str}, StrsAre vs us → ∀ k, (∃ v ∈ vs, (PySem.strKind prog w).is k v = true) ↔ k ∈ us
 | _, _, .nil, k => by simp
 | _, _, .cons x t r, k => by
  have ih := mem_strs r k
  rw [List.mem_cons, ← ih]
  constructor
  ·rintro ⟨v, hv, h⟩
   rcases List.mem_cons.mp hv with rfl | hv
   ·rw [is_str] at h; exact .inl (of_decide_eq_true h)
   ·exact .inr ⟨v, hv, h⟩
  ·rintro (rfl | ⟨v, hv, h⟩)
   ·exact ⟨_, List.mem_cons_self, by rw [is_str]; exact decide_eq_true rfl⟩
   ·exact ⟨v, List.mem_cons_of_mem _ hv, h⟩
theorem strs_perm : ∀ {vs vs' : List Value} {us : List Str}, vs'.Perm vs → StrsAre vs us → ∃ us', StrsAre vs' us' ∧ us'.Perm us := by
 intro vs vs' us p h
 have e : ∀ {l : List Value} {m : List Str}, StrsAre l m → m = l.map strOf ∧ ∀ v ∈ l, ∃ x t, v = .str x t := fun q => ⟨q.strs.symm, q.all⟩
 obtain ⟨e1, e2⟩ := e h
 refine ⟨vs'.map strOf, strsAre_map _ fun v hv => e2 v (p.mem_iff.mp hv), ?_⟩
 rw [e1]
 exact p.map strOf
variable {A : Around} {E : Value → Shared → Prop} {s : Shared}
theorem SetAt.put {h : Heap} {a : Addr} {o : Obj} {es es' : Array (Int × Value)} {ep : Nat} {t t' : SetTable} {ks' : List Str} (ho : h.get? a = some o) (hex : o.ExactSet) (hd : o.data = .set es ep t)
  (hel : ElemsOf (PySem.strKind prog w) es'.toList) (hu : ∃ us, StrsAre (es'.toList.map (·.2)) us ∧ us.Perm ks') (hb : es'.size < scanBound) (hf : t'.fits es'.size = true) (hl : t'.led = !byT w) (hp : t'.plain = false) :
  ∃ o', (h.update a (Obj.putSet es' t')).get? a = some o' ∧ o'.ExactSet ∧ o'.data = .set es' (ep + 1) t' ∧ SetAt prog w (h.update a (Obj.putSet es' t')) a ks' es' (ep + 1) t' := by
 have g : (h.update a (Obj.putSet es' t')).get? a = some { o with data := .set es' (ep + 1) t' } := by
  have := Heap.get?_update_self (Obj.putSet es' t') ho (by rw [putSet_of es' t' hd]; rfl)
  rw [putSet_of es' t' hd] at this
  exact this
 exact ⟨_, g, hex, rfl, _, g, hex, rfl, hel, hu, hb, hf, hl, .inr hp⟩
theorem elems_strs {l l' : List (Int × Value)} {us : List Str} (p : l'.Perm l) (h : StrsAre (l.map (·.2)) us) : ∃ us', StrsAre (l'.map (·.2)) us' ∧ us'.Perm us := strs_perm (p.map _) h
theorem add_str {a : Addr} {ks : List Str} {x : Str} {tk : Tok} {Q : Bool → Shared → Prop} (hS : StrSet prog w s.heap a ks) (hroom : ks.length + 1 < scanBound)
  (h : ∀ h' b, Heap.SameBut a s.heap h' → StrSet prog w h' a (addS ks x) → Q b { s with heap := h' }) : wpAny (model prog w) A (setAddHashed a (.str x tk) ((PySem.strKind prog w).hash x)) Q E s := by
 obtain ⟨es, ep, t, o, ho, hex, hd, hel, ⟨us, hus, hpm⟩, hb, hf, hled, hpl⟩ := hS
 have hn : es.size = ks.length := by
  have := hus.length
  rw [List.length_map, Array.length_toList, hpm.length_eq] at this
  exact this
 have hkey : (PySem.strKind prog w).is x (.str x tk) = true := strKind_is _ _ _ _
 have hmem : (∃ e ∈ es.toList, (PySem.strKind prog w).is x e.2 = true) ↔ x ∈ ks := by
  rw [← hpm.mem_iff, ← mem_strs (prog := prog) (w := w) hus x]
  constructor
  ·rintro ⟨e, he, q⟩; exact ⟨e.2, List.mem_map.mpr ⟨e, he, rfl⟩, q⟩
  ·rintro ⟨v, hv, q⟩
   obtain ⟨e, he, rfl⟩ := List.mem_map.mp hv
   exact ⟨e, he, q⟩
 unfold setAddHashed setAddHashedIn
 refine wpAny_holding (wpAny_bind (wpAny_setState_of ho hd hf ?_))
 dsimp only
 rw [byScan_of (x := .str x tk) rfl hb hel]
 simp only [↓reduceIte]
 unfold setAddByScan
 refine wpAny_bind (wpAny_bind (wpAny_rule (wpAny_bind (wpAny_setScan_of hkey ho hd hf hel ?_))))
 cases hr : List.findIdx? (fun e => (PySem.strKind prog w).is x e.2) es.toList with
 | some j =>
  dsimp only
  obtain ⟨hj, hpj, _⟩ := List.findIdx?_eq_some_iff_getElem.mp hr
  have hx : x ∈ ks := hmem.mp ⟨_, List.getElem_mem hj, hpj⟩
  refine wpAny_pure (wpAny_pure ?_)
  have := h s.heap false (Heap.SameBut.refl a s.heap) (by unfold addS; rw [if_pos hx]; exact ⟨es, ep, t, o, ho, hex, hd, hel, ⟨us, hus, hpm⟩, hb, hf, hled, hpl⟩)
  exact this
 | none =>
  dsimp only
  have hx : x ∉ ks := fun z => by
   obtain ⟨e, he, q⟩ := hmem.mpr z
   have := List.findIdx?_eq_none_iff.mp hr e he
   rw [q] at this
   cases this
  have gw : ∀ (b : Bool) {s₁ : Shared} {Q' : Unit → Shared → Prop}, Q' () s₁ → wpAny (model prog w) A (match b with | true => rule "set.scan.the-table-gave-way" | false => pure ()) Q' E s₁ :=
   fun b s₁ Q' hq => by
    cases b
    ·exact wpAny_pure hq
    ·exact wpAny_rule hq
  have p1 := layNew_perm t es ((PySem.strKind prog w).hash x) (.str x tk)
  have f1 := layNew_fits t es ((PySem.strKind prog w).hash x) (.str x tk)
  have l1 := lay_led t es ((PySem.strKind prog w).hash x) (.str x tk)
  generalize layNew t es ((PySem.strKind prog w).hash x) (.str x tk) = Z at p1 f1 l1 ⊢
  obtain ⟨es1, t1, dum, gave⟩ := Z
  dsimp only at p1 f1 l1 ⊢
  rw [Array.toList_push] at p1
  have el1 : ElemsOf (PySem.strKind prog w) es1.toList := (hel.push hkey rfl).perm p1
  have z1 : es1.size = ks.length + 1 := by rw [← Array.length_toList, p1.length_eq, List.length_append, Array.length_toList, hn]; rfl
  have b1 : es1.size < scanBound := by rw [z1]; exact hroom
  have u1 : ∃ us', StrsAre (es1.toList.map (·.2)) us' ∧ us'.Perm (addS ks x) := by
   have q : StrsAre ((es.toList ++ [((PySem.strKind prog w).hash x, Value.str x tk)]).map (·.2)) (us ++ [x]) := by
    rw [List.map_append]
    have app : ∀ {l : List Value} {m : List Str}, StrsAre l m → StrsAre (l ++ [.str x tk]) (m ++ [x]) := by
     intro l m hl
     induction hl with
     | nil => exact .cons x tk .nil
     | cons y t r ih => exact .cons y t ih
    exact app hus
   obtain ⟨us', a1, a2⟩ := elems_strs p1 q
   exact ⟨us', a1, by unfold addS; rw [if_neg hx]; exact a2.trans (hpm.append_right [x])⟩
  refine wpAny_bind (gw _ ?_)
  have tail : ∀ t2 : SetTable, t2.fits es1.size = true → t2.led = !byT w → t2.plain = false → wpAny (model prog w) A (do
    storeSet a es1 t2
    if (!dum && t2.tooFull) = true then do
      let (es, t, gave) := relayAll t2 es1 (SetTable.grown es1.size)
      (match gave with | true => rule "set.scan.the-table-gave-way" | false => pure ())
      storeSet a es t
      return some true
     else return some true) (fun r s' => wpAny (model prog w) A (match r with | some added => pure added | none => setAddHashedIn a (.str x tk) ((PySem.strKind prog w).hash x) 99999) Q E s') E s := fun t2 f2 l2 pl2 => by
   refine wpAny_bind (wpAny_storeSet_of ho hd ?_ (fits_of_scanBound b1))
   obtain ⟨o2, ho2, hex2, hd2, hS2⟩ := SetAt.put ho hex hd el1 u1 b1 f2 l2 pl2
   have sb := Heap.SameBut.update s.heap a (Obj.putSet es1 t2)
   split
   ·have p3 := relayAll_perm t2 es1 (SetTable.grown es1.size)
    have f3 := relayAll_fits t2 es1 (SetTable.grown es1.size)
    obtain ⟨l3, pl3⟩ := relay_lp t2 es1 (SetTable.grown es1.size)
    generalize relayAll t2 es1 (SetTable.grown es1.size) = Y at p3 f3 l3 pl3 ⊢
    obtain ⟨es3, t3, g3⟩ := Y
    dsimp only at p3 f3 l3 pl3 ⊢
    have z3 : es3.size = es1.size := by rw [← Array.length_toList, p3.length_eq, Array.length_toList]
    have b3 : es3.size < scanBound := by rw [z3]; exact b1
    refine wpAny_bind (gw _ (wpAny_bind (wpAny_storeSet_of ho2 hd2 ?_ (fits_of_scanBound b3))))
    obtain ⟨us1, c1, c2⟩ := u1
    obtain ⟨us3, c3, c4⟩ := elems_strs p3 c1
    obtain ⟨_, _, _, _, hS3⟩ := SetAt.put ho2 hex2 hd2 (el1.perm p3) ⟨us3, c3, c4.trans c2⟩ b3 f3 (l3.trans l2) (pl3 pl2)
    exact wpAny_pure (wpAny_pure (h _ true (sb.trans (Heap.SameBut.update _ a _)) ⟨_, _, _, hS3⟩))
   ·exact wpAny_pure (wpAny_pure (h _ true sb ⟨_, _, _, hS2⟩))
  cases hp1 : t1.plain with
  | true =>
   simp only [if_true]
   refine wpAny_bind ?_
   rw [hashByValue_scannable 8 (x := .str x tk) rfl]
   refine wpAny_pure ?_
   exact tail { t1 with plain := false } (SetTable.fits_plain_off f1) (l1.trans hled) rfl
  | false =>
   simp only [Bool.false_eq_true, if_false]
   refine wpAny_bind (wpAny_pure ?_)
   simp only [if_true]
   exact tail t1 f1 (l1.trans hled) hp1
end
end L2
namespace L2
open PySem PySem.Spec PyProof.Rows PySem.W
section
variable {prog : Program} {w : World} {A : Around} {E : Value → Shared → Prop} {s : Shared}
end
end L2
namespace L2
open PySem PySem.Spec PyProof.Rows PySem.W
section
variable {prog : Program} {w : World} {A : Around} {E : Value → Shared → Prop} {s : Shared}
end
end L2
namespace L2
open PySem PySem.Spec PyProof.Rows PySem.W
section
variable {prog : Program} {w : World} {A : Around} {E : Value → Shared → Prop} {s : Shared}
end
end L2
namespace L2
open PySem PySem.Spec PyProof.Rows PySem.W
section
variable {prog : Program} {w : World} {A : Around} {E : Value → Shared → Prop} {s : Shared}
noncomputable def SetIt (h : Heap) (I a : Addr) (first : Value) (i n ep : Nat) : Prop := ∃ o, h.get? I = some o ∧ o.cls = .type "set_iterator" ∧ o.data = .fields #[first, rawInt (i : Int), .ref a, rawInt (n : Int), rawInt (ep : Int)]
theorem SetIt.typeIs {I a : Addr} {first : Value} {i n ep : Nat} (x : SetIt s.heap I a first i n ep) : s.TypeIs (.ref I) "set_iterator" := let ⟨o, ho, hc, _⟩ := x; ⟨o, ho, hc⟩
inductive OrdI (w : World) (h : Heap) (es : Array (Int × Value)) (t : SetTable) (a : Addr) (ep : Nat) (ord : List Value) (T : Addr) : Value → Nat → Prop
 | drawn {ps : List Nat} {o : Obj} (i : Nat) (ho : h.get? T = some o) (hd : o.data = .seq (ps.map fun i : Nat => rawInt i).toArray 0) (hc : o.cls = .type "tuple") (he : ∀ j : Nat, (ps[j]?.bind fun p => (es[p]?).map (·.2)) = ord[j]?) (hl : ∀ (j : Nat) p, ps[j]? = some p → p < es.size) (hn : ps.length = es.size) : OrdI w h es t a ep ord T (.ref T) i
 | text (k i : Nat) (hb : byT w = true) (he : ord = (pickOrder (w.params.setOrder a ep) es).toList.map (·.2)) : OrdI w h es t a ep ord T (rawInt (k : Int)) i
 | none (k : Nat) (hb : byT w = false) (hn : es.size = 0) (he : ord = []) : OrdI w h es t a ep ord T (rawInt (k : Int)) 0
 | one0 {x : Int × Value} {p : Nat} (hb : byT w = false) (hn : es = #[x]) (hp : t.place = #[p]) (he : ord = [x.2]) : OrdI w h es t a ep ord T (rawInt 0) 0
 | one1 {x : Int × Value} {p : Nat} (hb : byT w = false) (hn : es = #[x]) (hp : t.place = #[p]) (he : ord = [x.2]) : OrdI w h es t a ep ord T (rawInt ((p + 1 : Nat) : Int)) 1
theorem OrdI.at' {h h' : Heap} {es : Array (Int × Value)} {t : SetTable} {a : Addr} {ep : Nat} {ord : List Value} {T : Addr} {f : Value} {i : Nat} (x : OrdI w h es t a ep ord T f i) (k : ∀ o, h.get? T = some o → h'.get? T = some o) : OrdI w h' es t a ep ord T f i := by
 cases x with
 | drawn i ho hd hc he hl hn => exact .drawn i (k _ ho) hd hc he hl hn
 | text k i hb he => exact .text k i hb he
 | none k hb hn he => exact .none k hb hn he
 | one0 hb hn hp he => exact .one0 hb hn hp he
 | one1 hb hn hp he => exact .one1 hb hn hp he
end
end L2
namespace L2
open PySem PySem.Spec PyProof.Rows PySem.W
section
variable {prog : Program} {w : World} {A : Around} {E : Value → Shared → Prop} {s : Shared}
theorem SetIt.put {I a : Addr} {f : Value} {i n ep k : Nat} {x : Value} {h : Heap} (hit : SetIt h I a f i n ep) (hk : k < 5) :
  ∃ o, (h.update I (Obj.mapFields (·.setIfInBounds k x))).get? I = some o ∧ o.cls = .type "set_iterator" ∧ o.data = .fields (#[f, rawInt (i : Int), .ref a, rawInt (n : Int), rawInt (ep : Int)].setIfInBounds k x) := by
 obtain ⟨o, ho, hc, hd⟩ := hit
 exact ⟨_, Heap.get?_update_self _ ho (Obj.isFreed_of_fields (Obj.data_mapFields hd _)), (Obj.cls_mapFields ..).trans hc, Obj.data_mapFields hd _⟩
end
end L2
namespace L2
open PySem PySem.Spec PyProof.Rows PySem.W
section
variable {prog : Program} {w : World} {A : Around} {E : Value → Shared → Prop} {s : Shared}
end
end L2
namespace L2
open PySem PySem.Spec PyProof.Rows PySem.W
section
variable {X : Cx}
end
end L2
namespace Mr
open PySem PySem.Spec L2 PyProof.Rows
section
variable {K : PySem.W.Frag}
end
end Mr
namespace Mr
open PySem PySem.Spec L2 PyProof.Rows PySem.W
noncomputable def lexP (lt : PV → PV → Option Bool) : List PV → List PV → Option Bool
 | [], [] => some false
 | [], _ :: _ => some true
 | _ :: _, [] => some false
 | x :: xs, y :: ys => if eqP x y = true then lexP lt xs ys else lt x y
noncomputable def ltP : Nat → PV → PV → Option Bool
 | _, .str a, .str b => some (decide (a.cps.toList < b.cps.toList))
 | _, .int a, .int b => some (decide (a < b))
 | n + 1, .tup xs, .tup ys => lexP (ltP n) xs ys
 | _, _, _ => none
section
variable {s : Shared}
theorem lexR_P {A : Around} {lt : PV → PV → Option Bool} : ∀ {xs ys : List PV} {us vs : List Value} {c : Bool} {fin : Bool}, LiesL s.heap xs us → LiesL s.heap ys vs → (∀ x ∈ xs, ∀ y ∈ ys, ∀ u v, Lies s.heap x u → Lies s.heap y v → SeqAt.EqAt A s u v (eqP x y) ∧ ∀ b, lt x y = some b → LtAt A s u v b) →
  fin = decide (us.length < vs.length) → lexP lt xs ys = some c → LexR A s fin (us.zip vs) c := by
 intro xs
 induction xs with
 | nil =>
  intro ys us vs c fin h1 h2 hk hf h
  cases h1
  cases h2 <;> (cases h; rw [hf]; exact .done)
 | cons x xs ih =>
  intro ys us vs c fin h1 h2 hk hf h
  cases h1 with
  | cons r1 rr1 =>
   cases h2 with
   | nil => cases h; rw [hf]; exact .done
   | @cons y _ ys _ r2 rr2 =>
    obtain ⟨he, hl⟩ := hk x List.mem_cons_self y List.mem_cons_self _ _ r1 r2
    unfold lexP at h
    cases e : eqP x y with
    | true =>
     rw [e] at he
     rw [if_pos e] at h
     exact .same he (ih rr1 rr2 (fun a ha b hb => hk a (List.mem_cons_of_mem _ ha) b (List.mem_cons_of_mem _ hb)) (by rw [hf]; simp) h)
    | false =>
     rw [e] at he
     rw [if_neg (by rw [e]; exact Bool.false_ne_true)] at h
     exact .less he (hl c h)
theorem ltAt_P : ∀ (n : Nat) (A : Around) {p q : PV} {v u : Value} {b : Bool}, A.units + n < cLine → okP n p = true → okP n q = true → Lies s.heap p v → Lies s.heap q u → ltP n p q = some b → LtAt A s v u b := by
 intro n
 induction n with
 | zero =>
  intro A p q v u b hu o1 o2 h1 h2 h
  cases p with
  | str x =>
   cases q with
   | str y => cases h; cases h1; cases h2; exact fun prog w E Q q => PySem.P.lt_str q
   | _ => cases h
  | int x =>
   cases q with
   | int y => cases h; cases h1; cases h2; exact fun prog w E Q q => PyProof.Rows.lt_int q
   | _ => cases h
  | _ => cases q <;> cases h
 | succ n ih =>
  intro A p q v u b hu o1 o2 h1 h2 h
  cases p with
  | str x =>
   cases q with
   | str y => cases h; cases h1; cases h2; exact fun prog w E Q q => PySem.P.lt_str q
   | _ => cases h
  | int x =>
   cases q with
   | int y => cases h; cases h1; cases h2; exact fun prog w E Q q => PyProof.Rows.lt_int q
   | _ => cases h
  | tup xs =>
   cases q with
   | tup ys =>
    cases h1 with
    | tup t1 l1 =>
     cases h2 with
     | tup t2 l2 =>
      have hin : A.in1.units = A.units + 1 := rfl
      have o1 : xs.all (okP n) = true := o1
      have o2 : ys.all (okP n) = true := o2
      refine lt_tup t1 t2 (by omega) ?_
      simpa using lexR_P (A := A.in1) (s := s) l1 l2 (fun x hx y hy u v a b => ⟨eqAt_P n A.in1 (by omega) (List.all_eq_true.mp o1 x hx) (List.all_eq_true.mp o2 y hy) a b, fun c hc => ih A.in1 (by omega) (List.all_eq_true.mp o1 x hx) (List.all_eq_true.mp o2 y hy) a b hc⟩) rfl h
   | _ => cases h
  | _ => cases q <;> cases h
theorem kl_restP {prog : Program} {w : World} {A : Around} {fin : Bool} {lt : PV → PV → Option Bool} {C : Bool → Shared → Prop} : ∀ {xs ys : List PV} {us vs : List Value} {c : Bool} (i : Nat), 1 ≤ i → LiesL s.heap xs us → LiesL s.heap ys vs →
  (∀ x ∈ xs, ∀ y ∈ ys, ∀ u v, Lies s.heap x u → Lies s.heap y v → SeqAt.EqAt A s u v (eqP x y) ∧ ∀ b, lt x y = some b → LtAt A s u v b) → fin = decide (us.length < vs.length) → lexP lt xs ys = some c → C c s → KatLex prog w A true fin C (us.zip vs) i s := by
 intro xs
 induction xs with
 | nil =>
  intro ys us vs c i hi h1 h2 hk hf h hC
  cases h1
  cases h2 <;> (cases h; exact kat_nil (by rw [hf]; exact hC))
 | cons x xs ih =>
  intro ys us vs c i hi h1 h2 hk hf h hC
  cases h1 with
  | cons r1 rr1 =>
   cases h2 with
   | nil => cases h; exact kat_nil (by rw [hf]; exact hC)
   | @cons y _ ys _ r2 rr2 =>
    obtain ⟨he, hl⟩ := hk x List.mem_cons_self y List.mem_cons_self _ _ r1 r2
    refine kat_cons (he prog w _ _ ?_)
    unfold lexP at h
    cases e : eqP x y with
    | true =>
     rw [if_pos e] at h
     exact kat_yes (ih (i + 1) (by omega) rr1 rr2 (fun a ha b hb => hk a (List.mem_cons_of_mem _ ha) b (List.mem_cons_of_mem _ hb)) (by rw [hf]; simp) h hC)
    | false =>
     rw [if_neg (by rw [e]; exact Bool.false_ne_true)] at h
     refine kat_no ?_
     have e0 : (true && i == 0) = false := by simp; omega
     rw [e0]
     exact kat_one _ _ (hl c h prog w _ _ hC)
noncomputable def ledP (b : Bool) : PV → Bool
 | .tup (.str _ :: _) => b
 | .tup (.int _ :: _) => !b
 | _ => false
noncomputable def ledT (b : Bool) : String := if b then "str" else "int"
theorem askP {prog : Program} {w : World} {A : Around} {b : Bool} {n : Nat} {ps : List PV} {vs : List Value} (hl : LiesL s.heap ps vs) (hu : A.units + n < cLine) (led : ∀ p ∈ ps, ledP b p = true) (ok : ∀ p ∈ ps, okP (n + 1) p = true)
  {i j : Nat} {c : Bool} {C : Bool → Shared → Prop} {p q : PV} (hp : ps[i]? = some p) (hq : ps[j]? = some q) (hc : ltP (n + 1) p q = some c) (hC : C c s) : kas_ask prog w A (tuples' (Value.type (ledT b) != Value.type "tuple")) vs i j C s := by
 have kt : (Value.type (ledT b) != Value.type "tuple") = true := by cases b <;> decide
 obtain ⟨u, hu1, lu⟩ : ∃ u, vs[i]? = some u ∧ Lies s.heap p u := by
  have hlt : i < vs.length := by rw [← hl.length]; exact (List.getElem?_eq_some_iff.mp hp).1
  obtain ⟨p', e, l⟩ := hl.get (List.getElem?_eq_getElem hlt)
  rw [hp] at e; cases e
  exact ⟨_, List.getElem?_eq_getElem hlt, l⟩
 obtain ⟨v, hv1, lv⟩ : ∃ v, vs[j]? = some v ∧ Lies s.heap q v := by
  have hlt : j < vs.length := by rw [← hl.length]; exact (List.getElem?_eq_some_iff.mp hq).1
  obtain ⟨p', e, l⟩ := hl.get (List.getElem?_eq_getElem hlt)
  rw [hq] at e; cases e
  exact ⟨_, List.getElem?_eq_getElem hlt, l⟩
 have l1 := led p (List.mem_of_getElem? hp)
 have l2 := led q (List.mem_of_getElem? hq)
 have o1 := ok p (List.mem_of_getElem? hp)
 have o2 := ok q (List.mem_of_getElem? hq)
 show wpAny _ _ (keyLt' _ (vs.getD i Value.none) (vs.getD j Value.none)) C _ s
 rw [List.getD_eq_getElem?_getD, hu1, List.getD_eq_getElem?_getD, hv1, kt]
 cases lu with
 | @tup _ us xs t1 r1 =>
  cases lv with
  | @tup _ vs' ys t2 r2 =>
   obtain ⟨oa, ga, _, na, da⟩ := t1
   obtain ⟨ob, gb, _, nb, db⟩ := t2
   refine kat_lt ga da gb db ?_
   have o1 : xs.all (okP n) = true := o1
   have o2 : ys.all (okP n) = true := o2
   have key : ∀ x ∈ xs, ∀ y ∈ ys, ∀ u v, Lies s.heap x u → Lies s.heap y v → SeqAt.EqAt A s u v (eqP x y) ∧ ∀ b, ltP n x y = some b → LtAt A s u v b := fun x hx y hy u v a b =>
    ⟨eqAt_P n A hu (List.all_eq_true.mp o1 x hx) (List.all_eq_true.mp o2 y hy) a b, fun c hc => ltAt_P n A hu (List.all_eq_true.mp o1 x hx) (List.all_eq_true.mp o2 y hy) a b hc⟩
   have hc : lexP (ltP n) xs ys = some c := hc
   cases r1 with
   | nil => cases l1
   | @cons x u0 xs us a1 a2 =>
    cases r2 with
    | nil => cases l2
    | @cons y v0 ys vs' b1 b2 =>
     obtain ⟨he, _⟩ := key x List.mem_cons_self y List.mem_cons_self _ _ a1 b1
     refine kat_cons (he prog w _ _ ?_)
     unfold lexP at hc
     cases e : eqP x y with
     | true =>
      rw [if_pos e] at hc
      exact kat_yes (kl_restP 1 (Nat.le_refl _) a2 b2 (fun a ha b hb => key a (List.mem_cons_of_mem _ ha) b (List.mem_cons_of_mem _ hb)) (by simp) hc hC)
     | false =>
      rw [if_neg (by rw [e]; exact Bool.false_ne_true)] at hc
      refine kat_no ?_
      cases x with
      | str x =>
       cases y with
       | str y =>
        have hc : some (decide (x.cps.toList < y.cps.toList)) = some c := by cases n <;> exact hc
        cases hc
        cases a1
        cases b1
        exact oneLt_str hC
       | int y => cases b <;> cases l1 <;> cases l2
       | _ => cases l2
      | int x =>
       cases y with
       | int y =>
        have hc : some (decide (x < y)) = some c := by cases n <;> exact hc
        cases hc
        cases a1
        cases b1
        exact oneLt_int hC
       | str y => cases b <;> cases l1 <;> cases l2
       | _ => cases l2
      | _ => cases l1
  | _ => cases l2
 | _ => cases l1
end
end Mr
namespace Mr
open PySem PySem.Spec L2 PyProof.Rows PySem.W
noncomputable def plP : Nat → PV → Bool
 | _, .non => true
 | _, .int _ => true
 | _, .str _ => true
 | n + 1, .tup ps => ps.all (plP n)
 | _, _ => false
theorem plP_ok : ∀ {n : Nat} {p : PV}, plP n p = true → okP n p = true := by
 intro n
 induction n with
 | zero => intro p h; cases p <;> first | rfl | cases h
 | succ n ih =>
  intro p h
  cases p with
  | tup ps => exact List.all_eq_true.mpr fun x hx => ih (List.all_eq_true.mp h x hx)
  | lst ps => cases h
  | dct ps => cases h
  | ty x => cases h
  | bl x => cases h
  | _ => rfl
theorem eqPL_eq {n : Nat} (ih : ∀ {p q : PV}, plP n p = true → plP n q = true → eqP p q = true → p = q) : ∀ {xs ys : List PV}, xs.all (plP n) = true → ys.all (plP n) = true → eqPL xs ys = true → xs = ys
 | [], [], _, _, _ => rfl
 | [], _ :: _, _, _, h => by simp [eqPL] at h
 | _ :: _, [], _, _, h => by simp [eqPL] at h
 | x :: xs, y :: ys, h1, h2, h => by
  simp only [eqPL, Bool.and_eq_true] at h
  rw [List.all_cons, Bool.and_eq_true] at h1 h2
  rw [ih h1.1 h2.1 h.1, eqPL_eq ih h1.2 h2.2 h.2]
theorem eqP_eq : ∀ {n : Nat} {p q : PV}, plP n p = true → plP n q = true → eqP p q = true → p = q := by
 intro n
 induction n with
 | zero =>
  intro p q h1 h2 h
  cases p <;> cases q <;> first | rfl | (cases h1; done) | (cases h2; done) | (simp [eqP] at h; try subst h; try rfl)
 | succ n ih =>
  intro p q h1 h2 h
  cases p with
  | tup xs =>
   cases q with
   | tup ys => rw [eqP_tup] at h; rw [eqPL_eq ih h1 h2 h]
   | _ => simp [eqP] at h
  | lst xs => cases h1
  | dct xs => cases h1
  | ty xs => cases h1
  | bl xs => cases h1
  | non => cases q <;> first | rfl | (simp [eqP] at h)
  | int i => cases q <;> first | (cases h2; done) | (simp [eqP] at h; try subst h; try rfl)
  | str i => cases q <;> first | (cases h2; done) | (simp [eqP] at h; try subst h; try rfl)
theorem eqPL_refl {n : Nat} (ih : ∀ {p : PV}, plP n p = true → eqP p p = true) : ∀ {xs : List PV}, xs.all (plP n) = true → eqPL xs xs = true
 | [], _ => by simp [eqPL]
 | x :: xs, h => by
  rw [List.all_cons, Bool.and_eq_true] at h
  simp only [eqPL, Bool.and_eq_true]
  exact ⟨ih h.1, eqPL_refl ih h.2⟩
theorem eqP_refl : ∀ {n : Nat} {p : PV}, plP n p = true → eqP p p = true := by
 intro n
 induction n with
 | zero => intro p h; cases p <;> first | (simp [eqP]; done) | cases h
 | succ n ih =>
  intro p h
  cases p with
  | tup xs => rw [eqP_tup]; exact eqPL_refl ih h
  | lst xs => cases h
  | dct xs => cases h
  | ty xs => cases h
  | bl xs => cases h
  | _ => simp [eqP]
noncomputable def code : Nat → PV → List Int
 | _, .str x => x.cps.toList.map (fun c : Nat => (c : Int) + 1) ++ [0]
 | _, .int i => [i]
 | n + 1, .tup xs => xs.flatMap (fun x => 1 :: code n x) ++ [0]
 | _, _ => [0]
noncomputable abbrev ltC : List Int → List Int → Bool := listB intO
theorem ltC_pre (a r r' : List Int) : ltC (a ++ r) (a ++ r') = ltC r r' := by
 induction a with
 | nil => rfl
 | cons x a ih =>
  show stepB intO x x (ltC (a ++ r) (a ++ r')) = _
  exact (stepB_eq (A := intO) (a := x)).trans ih
theorem ltC_cons {x y : Int} {r r' : List Int} : ltC (x :: r) (y :: r') = if x = y then ltC r r' else decide (x < y) := by
 show stepB intO x y (ltC r r') = _
 rcases ko_cases (A := intO) x y with ⟨a, b⟩ | ⟨a, b⟩ | a
 ·rw [stepB_lt a]
  have a := of_decide_eq_true a
  rw [if_neg (by omega), decide_eq_true a]
 ·rw [stepB_gt a]
  have a := of_decide_eq_true a
  rw [if_neg (by omega), decide_eq_false (by omega)]
 ·subst a
  rw [if_pos rfl]
  exact stepB_eq (A := intO) (a := x)
theorem ltC_str : ∀ (a b : List Nat) (r r' : List Int), ltC ((a.map fun c : Nat => (c : Int) + 1) ++ [0] ++ r) ((b.map fun c : Nat => (c : Int) + 1) ++ [0] ++ r') = if a = b then ltC r r' else decide (a < b)
 | [], [], r, r' => by
  rw [if_pos rfl]
  exact ltC_pre [0] r r'
 | [], y :: b, r, r' => by
  rw [if_neg (by simp)]
  show ltC (0 :: r) (((y : Int) + 1) :: _) = _
  rw [ltC_cons, if_neg (by omega), decide_eq_true (by omega)]
  exact (decide_eq_true (by simp)).symm
 | x :: a, [], r, r' => by
  rw [if_neg (by simp)]
  show ltC (((x : Int) + 1) :: _) (0 :: r') = _
  rw [ltC_cons, if_neg (by omega), decide_eq_false (by omega)]
  exact (decide_eq_false (by simp)).symm
 | x :: a, y :: b, r, r' => by
  show ltC (((x : Int) + 1) :: ((a.map fun c : Nat => (c : Int) + 1) ++ [0] ++ r)) (((y : Int) + 1) :: ((b.map fun c : Nat => (c : Int) + 1) ++ [0] ++ r')) = _
  rw [ltC_cons, ltC_str a b r r']
  by_cases e : x = y
  ·subst e
   rw [if_pos rfl]
   by_cases e2 : a = b
   ·subst e2; rw [if_pos rfl, if_pos rfl]
   ·rw [if_neg e2, if_neg (by simpa using e2)]
    congr 1
    simp [List.cons_lt_cons_iff]
  ·rw [if_neg (by omega), if_neg (by intro z; exact e (List.cons.inj z).1)]
   by_cases h : x < y
   ·rw [decide_eq_true (show (x : Int) + 1 < y + 1 by omega)]
    exact (decide_eq_true (List.cons_lt_cons_iff.mpr (.inl h))).symm
   ·rw [decide_eq_false (show ¬ (x : Int) + 1 < y + 1 by omega)]
    refine (decide_eq_false fun z => ?_).symm
    rcases List.cons_lt_cons_iff.mp z with z | z
    ·exact h z
    ·exact e z.1
theorem code_lex {n : Nat} (ih : ∀ {p q : PV} {b : Bool} (r r' : List Int), plP n p = true → plP n q = true → ltP n p q = some b → ltC (code n p ++ r) (code n q ++ r') = if eqP p q = true then ltC r r' else b) :
  ∀ {xs ys : List PV} {b : Bool} (r r' : List Int), xs.all (plP n) = true → ys.all (plP n) = true → lexP (ltP n) xs ys = some b →
   ltC (xs.flatMap (fun x => 1 :: code n x) ++ [0] ++ r) (ys.flatMap (fun x => 1 :: code n x) ++ [0] ++ r') = if eqPL xs ys = true then ltC r r' else b
 | [], [], b, r, r', _, _, h => by
  rw [if_pos (by simp [eqPL])]
  exact ltC_pre [0] r r'
 | [], y :: ys, b, r, r', _, _, h => by
  cases h
  rw [if_neg (by simp [eqPL])]
  show ltC (0 :: r) (1 :: _) = _
  rw [ltC_cons]; rfl
 | x :: xs, [], b, r, r', _, _, h => by
  cases h
  rw [if_neg (by simp [eqPL])]
  show ltC (1 :: _) (0 :: r') = _
  rw [ltC_cons]; rfl
 | x :: xs, y :: ys, b, r, r', h1, h2, h => by
  rw [List.all_cons, Bool.and_eq_true] at h1 h2
  have e1 : ∀ (z : PV) (zs : List PV) (w : List Int), (z :: zs).flatMap (fun x => 1 :: code n x) ++ [0] ++ w = 1 :: (code n z ++ (zs.flatMap (fun x => 1 :: code n x) ++ [0] ++ w)) := fun z zs w => by simp
  rw [e1, e1, ltC_cons, if_pos rfl]
  unfold lexP at h
  cases e : eqP x y with
  | true =>
   rw [if_pos e] at h
   have exy := eqP_eq h1.1 h2.1 e
   subst exy
   rw [ltC_pre, code_lex ih r r' h1.2 h2.2 h]
   simp only [eqPL, e, Bool.true_and]
  | false =>
   rw [if_neg (by rw [e]; exact Bool.false_ne_true)] at h
   rw [ih _ _ h1.1 h2.1 h, if_neg (by rw [e]; exact Bool.false_ne_true), if_neg (by simp [eqPL, e])]
theorem code_lt : ∀ {n : Nat} {p q : PV} {b : Bool} (r r' : List Int), plP n p = true → plP n q = true → ltP n p q = some b → ltC (code n p ++ r) (code n q ++ r') = if eqP p q = true then ltC r r' else b := by
 have str : ∀ {n : Nat} {x y : Str} {b : Bool} (r r' : List Int), ltP n (.str x) (.str y) = some b → ltC (code n (.str x) ++ r) (code n (.str y) ++ r') = if eqP (.str x) (.str y) = true then ltC r r' else b := fun {n x y b} r r' h => by
  have h : some (decide (x.cps.toList < y.cps.toList)) = some b := by cases n <;> exact h
  cases h
  have e1 : ∀ z : Str, code n (.str z) = z.cps.toList.map (fun c : Nat => (c : Int) + 1) ++ [0] := fun z => by cases n <;> rfl
  rw [e1, e1, ltC_str]
  by_cases e : x = y
  ·subst e; rw [if_pos rfl, if_pos (by simp [eqP])]
  ·rw [if_neg (fun z => e (str_cps z)), if_neg (by simpa [eqP] using e)]
 have int : ∀ {n : Nat} {x y : Int} {b : Bool} (r r' : List Int), ltP n (.int x) (.int y) = some b → ltC (code n (.int x) ++ r) (code n (.int y) ++ r') = if eqP (.int x) (.int y) = true then ltC r r' else b := fun {n x y b} r r' h => by
  have h : some (decide (x < y)) = some b := by cases n <;> exact h
  cases h
  have e1 : ∀ z : Int, code n (.int z) = [z] := fun z => by cases n <;> rfl
  rw [e1, e1]
  show ltC (x :: r) (y :: r') = _
  rw [ltC_cons]
  by_cases e : x = y
  ·subst e; rw [if_pos rfl, if_pos (by simp [eqP])]
  ·rw [if_neg e, if_neg (by simpa [eqP] using e)]
 intro n
 induction n with
 | zero =>
  intro p q b r r' h1 h2 h
  cases p with
  | str x => cases q with
   | str y => exact str r r' h
   | _ => cases h
  | int x => cases q with
   | int y => exact int r r' h
   | _ => cases h
  | _ => cases q <;> cases h
 | succ n ih =>
  intro p q b r r' h1 h2 h
  cases p with
  | str x => cases q with
   | str y => exact str r r' h
   | _ => cases h
  | int x => cases q with
   | int y => exact int r r' h
   | _ => cases h
  | tup xs => cases q with
   | tup ys =>
    rw [eqP_tup]
    exact code_lex ih r r' h1 h2 h
   | _ => cases h
  | _ => cases q <;> cases h
end Mr
namespace Mr
open PySem PySem.Spec L2 PyProof.Rows PySem.W
theorem tri_lex {n : Nat} (ih : ∀ {p q : PV}, ltP n p q = some false → ltP n q p = some false → eqP p q = true) (sym : ∀ p q : PV, eqP p q = eqP q p) : ∀ {xs ys : List PV}, lexP (ltP n) xs ys = some false → lexP (ltP n) ys xs = some false → eqPL xs ys = true
 | [], [], _, _ => by simp [eqPL]
 | [], _ :: _, h, _ => by cases h
 | _ :: _, [], _, h => by cases h
 | x :: xs, y :: ys, h, h' => by
  unfold lexP at h h'
  rw [sym y x] at h'
  cases e : eqP x y with
  | true =>
   rw [if_pos e] at h h'
   simp only [eqPL, e, Bool.true_and]
   exact tri_lex ih sym h h'
  | false =>
   rw [if_neg (by rw [e]; exact Bool.false_ne_true)] at h h'
   rw [ih h h'] at e
   cases e
mutual
theorem eqP_sym : ∀ p q : PV, eqP p q = eqP q p
 | .non, q => by cases q <;> simp [eqP]
 | .bl a, q => by cases q <;> simp only [eqP] <;> (rw [Bool.eq_iff_iff, beq_iff_eq, beq_iff_eq]; exact eq_comm)
 | .int a, q => by cases q <;> simp only [eqP] <;> (rw [Bool.eq_iff_iff, beq_iff_eq, beq_iff_eq]; exact eq_comm)
 | .str a, q => by cases q <;> simp only [eqP] <;> (rw [Bool.eq_iff_iff, beq_iff_eq, beq_iff_eq]; exact eq_comm)
 | .ty a, q => by cases q <;> simp [eqP]
 | .dct a, q => by cases q <;> simp [eqP]
 | .tup xs, q => by
  cases q with
  | tup ys => simp only [eqP]; exact eqPL_sym xs ys
  | _ => simp [eqP]
 | .lst xs, q => by
  cases q with
  | lst ys => simp only [eqP]; exact eqPL_sym xs ys
  | _ => simp [eqP]
theorem eqPL_sym : ∀ xs ys : List PV, eqPL xs ys = eqPL ys xs
 | [], ys => by cases ys <;> simp [eqPL]
 | x :: xs, [] => by simp [eqPL]
 | x :: xs, y :: ys => by simp only [eqPL]; rw [eqP_sym x y, eqPL_sym xs ys]
end
theorem tri : ∀ {n : Nat} {p q : PV}, ltP n p q = some false → ltP n q p = some false → eqP p q = true := by
 have str : ∀ {x y : Str}, ¬ x.cps.toList < y.cps.toList → ¬ y.cps.toList < x.cps.toList → eqP (.str x) (.str y) = true := fun h h' => by
  have e := List.le_antisymm (List.not_lt.mp h') (List.not_lt.mp h)
  rw [str_cps e]
  simp [eqP]
 have int : ∀ {x y : Int}, ¬ x < y → ¬ y < x → eqP (.int x) (.int y) = true := fun h h' => by
  have e : _ = _ := Int.le_antisymm (Int.not_lt.mp h') (Int.not_lt.mp h)
  rw [e]
  simp [eqP]
 intro n
 induction n with
 | zero =>
  intro p q h h'
  cases p with
  | str x => cases q with
   | str y => exact str (of_decide_eq_false (Option.some.inj h)) (of_decide_eq_false (Option.some.inj h'))
   | _ => cases h
  | int x => cases q with
   | int y => exact int (of_decide_eq_false (Option.some.inj h)) (of_decide_eq_false (Option.some.inj h'))
   | _ => cases h
  | _ => cases q <;> cases h
 | succ n ih =>
  intro p q h h'
  cases p with
  | str x => cases q with
   | str y => exact str (of_decide_eq_false (Option.some.inj h)) (of_decide_eq_false (Option.some.inj h'))
   | _ => cases h
  | int x => cases q with
   | int y => exact int (of_decide_eq_false (Option.some.inj h)) (of_decide_eq_false (Option.some.inj h'))
   | _ => cases h
  | tup xs => cases q with
   | tup ys => rw [eqP_tup]; exact tri_lex ih eqP_sym h h'
   | _ => cases h
  | _ => cases q <;> cases h
noncomputable def cmpAll (n : Nat) (ps : List PV) : Bool := ps.all fun p => plP n p && ps.all fun q => (ltP n p q).isSome
noncomputable abbrev codO : KeyOrd := listO intO
noncomputable def leC (n : Nat) (a b : PV) : Bool := !ltC (code n b) (code n a)
noncomputable def sortT (n : Nat) (ps : List PV) : List PV := ps.mergeSort (leC n)
theorem leC_trans {n : Nat} (a b c : PV) (h1 : leC n a b = true) (h2 : leC n b c = true) : leC n a c = true := by
 unfold leC at *
 rw [Bool.not_eq_true'] at *
 exact KeyOrd.kle_trans (O := codO) h1 h2
theorem leC_total {n : Nat} (a b : PV) : (leC n a b || leC n b a) = true := by
 unfold leC
 rcases ko_cases (A := codO) (code n a) (code n b) with ⟨x, y⟩ | ⟨x, y⟩ | x
 ·rw [show ltC (code n b) (code n a) = false from y]; rfl
 ·rw [show ltC (code n a) (code n b) = false from y]; simp
 ·rw [x, show ltC (code n b) (code n b) = false from codO.irrefl _]; rfl
theorem sortT_perm (n : Nat) (ps : List PV) : (sortT n ps).Perm ps := List.mergeSort_perm ps (leC n)
theorem sortT_sorted (n : Nat) (ps : List PV) : (sortT n ps).Pairwise fun a b => leC n a b = true := List.pairwise_mergeSort leC_trans leC_total ps
theorem sorted_oneP {n : Nat} : ∀ {a b : List PV}, a.Pairwise (fun x y => leC n x y = true) → b.Pairwise (fun x y => leC n x y = true) → a.Perm b → (∀ x ∈ a, ∀ y ∈ a, leC n x y = true → leC n y x = true → x = y) → a = b
 | [], b, _, _, p, _ => List.Perm.nil_eq p
 | x :: a, [], _, _, p, _ => absurd p.symm.nil_eq (by simp)
 | x :: a, y :: b, ha, hb, p, an => by
  have hx := (List.pairwise_cons.mp ha).1
  have hy := (List.pairwise_cons.mp hb).1
  have e : x = y := by
   rcases List.mem_cons.mp (p.mem_iff.mp List.mem_cons_self) with z | z
   ·exact z
   ·rcases List.mem_cons.mp (p.mem_iff.mpr List.mem_cons_self) with w | w
    ·exact w.symm
    ·exact an x List.mem_cons_self y (List.mem_cons_of_mem _ w) (hx y w) (hy x z)
  subst e
  rw [sorted_oneP (List.pairwise_cons.mp ha).2 (List.pairwise_cons.mp hb).2 p.cons_inv fun u hu v hv => an u (List.mem_cons_of_mem _ hu) v (List.mem_cons_of_mem _ hv)]
theorem cmp_blt {n : Nat} {ps : List PV} (h : cmpAll n ps = true) {p q : PV} (hp : p ∈ ps) (hq : q ∈ ps) : ltP n p q = some (ltC (code n p) (code n q)) := by
 have a := List.all_eq_true.mp h p hp
 have b := List.all_eq_true.mp h q hq
 rw [Bool.and_eq_true] at a b
 have c := List.all_eq_true.mp a.2 q hq
 obtain ⟨v, e⟩ := Option.isSome_iff_exists.mp c
 have c' := List.all_eq_true.mp b.2 p hp
 obtain ⟨v', e'⟩ := Option.isSome_iff_exists.mp c'
 have k := code_lt [] [] a.1 b.1 e
 rw [List.append_nil, List.append_nil] at k
 rw [e, k]
 cases z : eqP p q with
 | false => rw [if_neg Bool.false_ne_true]
 | true =>
  rw [if_pos rfl]
  have epq := eqP_eq a.1 b.1 z
  subst epq
  rw [e] at e'
  cases e'
  show some v = some false
  have irr : ∀ {m : Nat} {p : PV} {v : Bool}, plP m p = true → ltP m p p = some v → v = false := by
   intro m p v hp h
   cases v with
   | false => rfl
   | true =>
    exfalso
    cases m with
    | zero =>
     cases p with
     | str x => exact absurd (of_decide_eq_true (Option.some.inj h)) (List.lt_irrefl _)
     | int x => exact absurd (of_decide_eq_true (Option.some.inj h)) (by omega)
     | _ => cases h
    | succ m =>
     cases p with
     | str x => exact absurd (of_decide_eq_true (Option.some.inj h)) (List.lt_irrefl _)
     | int x => exact absurd (of_decide_eq_true (Option.some.inj h)) (by omega)
     | tup xs =>
      have key : ∀ {l : List PV}, l.all (plP m) = true → lexP (ltP m) l l = some false := by
       intro l
       induction l with
       | nil => intro _; rfl
       | cons x l ih =>
        intro hl
        rw [List.all_cons, Bool.and_eq_true] at hl
        unfold lexP
        rw [if_pos (eqP_refl hl.1)]
        exact ih hl.2
      have := key (show xs.all (plP m) = true from hp)
      rw [show lexP (ltP m) xs xs = some true from h] at this
      cases this
     | _ => cases h
  rw [irr a.1 e]
theorem cmp_anti {n : Nat} {ps : List PV} (h : cmpAll n ps = true) {p q : PV} (hp : p ∈ ps) (hq : q ∈ ps) (h1 : leC n p q = true) (h2 : leC n q p = true) : p = q := by
 have a := List.all_eq_true.mp h p hp
 have b := List.all_eq_true.mp h q hq
 rw [Bool.and_eq_true] at a b
 unfold leC at h1 h2
 rw [Bool.not_eq_true'] at h1 h2
 refine eqP_eq a.1 b.1 (tri (n := n) ?_ ?_)
 ·rw [cmp_blt h hp hq, h2]
 ·rw [cmp_blt h hq hp, h1]
section
variable {X : Cx} {k : Nat}
noncomputable def rSortP (K : PySem.W.Frag) : List V → Hp → VK → Prop := fun xs H Q => ∃ p ys ps b, xs = [.ref p] ∧ SqL K H p ys ∧ RepL K noA H ps ys ∧ ys.length < 64 ∧ (∀ x ∈ ps, ledP b x = true) ∧ cmpAll 3 ps = true ∧
 ∀ l (ix : List Nat), ix.Perm (List.range ps.length) → (ix.map fun i => ps.getD i .non).Pairwise (fun a b => leC 3 a b = true) → H l = none → Q (.ref l) (upd H l (.lst (ix.map fun i => ys.getD i .non)))
theorem firsts_of {s : Shared} {b : Bool} : ∀ {ps : List PV} {vs : List Value}, LiesL s.heap ps vs → (∀ x ∈ ps, ledP b x = true) → ∃ fs, KatTups s.heap vs fs ∧ fs.length = vs.length ∧ ∀ v ∈ fs, (∃ x t, b = true ∧ v = .str x t) ∨ ∃ x t, b = false ∧ v = .int x t
 | [], _, .nil, _ => ⟨[], .nil, rfl, fun _ h => nomatch h⟩
 | p :: ps, _, .cons l r, h => by
  obtain ⟨fs, h1, h2, h3⟩ := firsts_of r fun z hz => h z (List.mem_cons_of_mem _ hz)
  have hp := h p List.mem_cons_self
  cases l with
  | tup t1 r1 =>
   obtain ⟨o, g1, g2, m, g3⟩ := t1
   cases r1 with
   | nil => cases hp
   | cons a1 a2 =>
    cases a1 with
    | str x t =>
     refine ⟨.str x t :: fs, .cons g1 g2 g3 (by simp) h1, by rw [List.length_cons, List.length_cons, h2], fun v hv => ?_⟩
     rcases List.mem_cons.mp hv with e | e
     ·exact .inl ⟨x, t, hp, e⟩
     ·exact h3 v e
    | int x t =>
     refine ⟨.int x t :: fs, .cons g1 g2 g3 (by simp) h1, by rw [List.length_cons, List.length_cons, h2], fun v hv => ?_⟩
     rcases List.mem_cons.mp hv with e | e
     ·exact .inr ⟨x, t, by simpa [ledP] using hp, e⟩
     ·exact h3 v e
    | _ => cases hp
  | _ => cases hp
theorem ranksP {P : Program} {w : World} {A : Around} {s : Shared} {b : Bool} {ps : List PV} {vs : List Value} (hL : LiesL s.heap ps vs) (hu : A.units + 2 < cLine) (led : ∀ x ∈ ps, ledP b x = true) (ok : ∀ x ∈ ps, okP 3 x = true) (cmp : cmpAll 3 ps = true) (h2 : 2 ≤ vs.length) :
  RanksG P w A vs (fun p => Upto codO (fun i => code 3 (ps.getD i .non)) p vs.length) s := by
 have hl := hL.length
 obtain ⟨fs, k1, k2, k3⟩ := firsts_of hL led
 refine ⟨tuples' (Value.type (ledT b) != Value.type "tuple"), fun Q E q => kat_kind k1 (by omega) (fun v hv => ?_) (by cases b <;> decide) q, fun G hG => AlB.run (n := vs.length) (ans := anB codO (fun i => code 3 (ps.getD i .non))) (fun i j C hi hj hC => ?_) (fun p h1 h2 => hG p h1 h2) (al_sort (by omega)) (b_sort (by omega))⟩
 ·rcases k3 v hv with ⟨x, t, rfl, rfl⟩ | ⟨x, t, rfl, rfl⟩
  ·exact Looks.of_pure rfl
  ·exact Looks.of_pure rfl
 ·have e1 : ps[i]? = some ps[i] := List.getElem?_eq_getElem (by omega)
  have e2 : ps[j]? = some ps[j] := List.getElem?_eq_getElem (by omega)
  refine askP (n := 2) hL hu led ok e1 e2 (cmp_blt cmp (List.getElem_mem _) (List.getElem_mem _)) ?_
  have hC : C (codO.blt (code 3 (ps.getD i .non)) (code 3 (ps.getD j .non))) _ := hC
  rw [List.getD_eq_getElem?_getD, e1, List.getD_eq_getElem?_getD, e2] at hC
  exact hC
theorem uptoP {ps : List PV} {p : Array Nat} {m : Nat} (h : Upto codO (fun i => code 3 (ps.getD i .non)) p m) (hm : p.toList.length = m) : (p.toList.map fun i => ps.getD i .non).Pairwise (fun a b => leC 3 a b = true) := by
 rw [List.pairwise_iff_getElem]
 intro i j hi hj hij
 rw [List.length_map] at hi hj
 have h := h i j (by omega) (by omega)
 rw [List.getElem_map, List.getElem_map]
 have ky : ∀ (i : Nat) (hi : i < p.toList.length), Ky codO (fun i => code 3 (ps.getD i .non)) p i = code 3 (ps.getD p.toList[i] .non) := fun i hi => by
  unfold Ky
  rw [Array.getD_eq_getD_getElem?, ← Array.getElem?_toList, List.getElem?_eq_getElem hi]
  rfl
 rw [ky i hi, ky j hj] at h
 show (!ltC _ _) = true
 rw [Bool.not_eq_true']
 exact h
theorem sortPX (K : PySem.W.Frag) (hr : Room k X.A) (hK : X.K = K := by rfl) : CallR X (.builtin "sorted") (rSortP K) := by
 subst hK
 intro pins s σ H xs us Q I r ⟨p, ys, ps, b, e, hq, rp, h64, led, cmp, q⟩
 subst e
 obtain ⟨u, rfl, rx⟩ := vals1 r
 cases rx
 obtain ⟨vs, rv, pl, hz⟩ := I.list hq
 have hlen := rv.length
 have hpl := rp.length
 have ok : ∀ x ∈ ps, okP 3 x = true := fun x hx => by
  have := List.all_eq_true.mp cmp x hx
  rw [Bool.and_eq_true] at this
  exact plP_ok this.1
 refine sorted_ranG (R := fun p => Upto codO (fun i => code 3 (ps.getD i .non)) p vs.length) pl.isList (by omega) (fun l2 h' kp => ?_) (fun h2 i j a b => ?_) fun out p h1 h2 h3 => ?_
 ·have I' := I.kept (t' := s.toks) kp
  have hL : LiesL h' ps vs := RepL.lies I' (n := 3) (List.all_eq_true.mpr ok) rp rv
  exact ranksP (s := { s with heap := h' }) hL (by have := hr.un; show X.A.units + 1 + 1 + 2 < _; omega) led ok cmp l2
 ·rw [show i = j by omega]; exact KeyOrd.kle_refl _
 ·have hp : p.toList.Perm (List.range vs.length) := by simpa using Array.perm_iff_toList_perm.mp h1
  have hlt : ∀ i ∈ p.toList, i < vs.length := fun i hi => List.mem_range.mp (hp.mem_iff.mp hi)
  have z2 := vals_pickE rv p.toList hlt
  rw [← h3] at z2
  have hpz : p.toList.length = vs.length := by rw [hp.length_eq, List.length_range]
  obtain ⟨c, hat⟩ := sortedAll_at s.heap vs out
  refine ⟨.ref (s.heap.objs.size + 1), _, I.laid (t' := s.toks) (o := .lst (p.toList.map fun i => ys.getD i .non)) (fun b o e => sortedAll_old e) (Nat.le_succ _) ⟨by rw [List.length_map, hpz, ← hlen]; exact hz, out.toList, c, z2, hat⟩, rfl, q _ _ (by rw [hpl, hlen]; exact hp) (uptoP h2 hpz) (I.hok.fresh (Nat.le_succ _))⟩
end
section
variable {K : PySem.W.Frag}
end
end Mr
namespace L2
open PySem PySem.Spec PyProof.Rows
inductive NK where
 | k (x : Key)
 | t (xs : List NK)
noncomputable instance : DecidableEq NK := fun a b => Classical.propDecidable _
mutual
inductive IsN (h : Heap) : NK → Value → Prop
 | k {x : Key} {v : Value} : keyIs x v = true → IsN h (.k x) v
 | t {xs : List NK} {a : Addr} {us : List Value} : IsTup h a us.toArray → IsL h xs us → IsN h (.t xs) (.ref a)
inductive IsL (h : Heap) : List NK → List Value → Prop
 | nil : IsL h [] []
 | cons {x : NK} {v : Value} {xs : List NK} {vs : List Value} : IsN h x v → IsL h xs vs → IsL h (x :: xs) (v :: vs)
end
mutual
noncomputable def dpN : NK → Nat
 | .k _ => 0
 | .t xs => dpL xs + 1
noncomputable def dpL : List NK → Nat
 | [] => 0
 | x :: xs => max (dpN x) (dpL xs)
end
mutual
noncomputable def hashN (w : World) : NK → Int
 | .k x => keyH w x
 | .t xs => reduceHash (Builtin.Tuple.tupleHashOf (hashL w xs))
noncomputable def hashL (w : World) : List NK → List Int
 | [] => []
 | x :: xs => hashN w x :: hashL w xs
end
mutual
noncomputable def drN : NK → Nat
 | .k _ => 1
 | .t xs => drL xs + 1
noncomputable def drL : List NK → Nat
 | [] => 0
 | x :: xs => drN x + drL xs
end
theorem IsL.length {h : Heap} : ∀ {xs : List NK} {vs : List Value}, IsL h xs vs → xs.length = vs.length
 | _, _, .nil => rfl
 | _, _, .cons _ r => by rw [List.length_cons, List.length_cons, r.length]
theorem IsL.get {h : Heap} : ∀ {xs : List NK} {vs : List Value} {j : Nat} {v : Value}, IsL h xs vs → vs[j]? = some v → ∃ x, xs[j]? = some x ∧ IsN h x v
 | _, _, _, _, .nil, e => by simp at e
 | _, _, 0, _, .cons i _, e => by simp at e; subst e; exact ⟨_, rfl, i⟩
 | _, _, j + 1, _, .cons _ r, e => by simpa using r.get (j := j) (by simpa using e)
theorem tup_data {h : Heap} {a : Addr} {us vs : List Value} (x : IsTup h a us.toArray) (y : IsTup h a vs.toArray) : us = vs := by
 obtain ⟨o, e, c, n, d⟩ := x
 obtain ⟨o', e', c', n', d'⟩ := y
 rw [e] at e'; cases e'
 rw [d] at d'; cases d'; rfl
theorem key_inj {a b : Key} {v : Value} (ha : keyIs a v = true) (hb : keyIs b v = true) : a = b := by
 rcases keyIs_shape ha with ⟨i, t, rfl, rfl⟩ | ⟨x, t, rfl, rfl⟩ <;> rcases keyIs_shape hb with ⟨j, u, rfl, e⟩ | ⟨y, u, rfl, e⟩ <;> cases e <;> rfl
theorem key_noref {a : Key} {l : Addr} (h : keyIs a (.ref l) = true) : False := by rcases keyIs_shape h with ⟨_, _, _, e⟩ | ⟨_, _, _, e⟩ <;> cases e
theorem IsN.inj {h : Heap} : ∀ {n : Nat} {x y : NK} {v : Value}, dpN x ≤ n → IsN h x v → IsN h y v → x = y := by
 intro n
 induction n with
 | zero =>
  intro x y v hd hx hy
  cases hx with
  | k hk =>
   cases hy with
   | k hk' => rw [key_inj hk hk']
   | t _ _ => exact (key_noref hk).elim
  | t p l => unfold dpN at hd; omega
 | succ n ih =>
  intro x y v hd hx hy
  cases hx with
  | k hk =>
   cases hy with
   | k hk' => rw [key_inj hk hk']
   | t _ _ => exact (key_noref hk).elim
  | @t xs a us p l =>
   cases hy with
   | k hk => exact (key_noref hk).elim
   | @t ys _ vs p' l' =>
    obtain rfl := tup_data p p'
    have hd' : dpL xs ≤ n := by unfold dpN at hd; omega
    have key : ∀ {xs ys : List NK} {us : List Value}, dpL xs ≤ n → IsL h xs us → IsL h ys us → xs = ys := by
     intro xs
     induction xs with
     | nil => intro ys us _ l1 l2; cases l1; cases l2; rfl
     | cons x xs ihx =>
      intro ys us hd l1 l2
      cases l1 with
      | cons i1 r1 =>
       cases l2 with
       | cons i2 r2 =>
        unfold dpL at hd
        rw [ih (by omega) i1 i2, ihx (by omega) r1 r2]
    rw [key hd' l l']
section
variable {prog : Program} {w : World}
end
end L2
namespace L2
open PySem PySem.Spec PyProof.Rows
section
variable {prog : Program} {w : World}
mutual
theorem IsN.keeps {h h' : Heap} (k : ∀ a us, IsTup h a us → IsTup h' a us) : ∀ {x : NK} {v : Value}, IsN h x v → IsN h' x v
 | _, _, .k e => .k e
 | _, _, .t p l => .t (k _ _ p) (l.keeps k)
theorem IsL.keeps {h h' : Heap} (k : ∀ a us, IsTup h a us → IsTup h' a us) : ∀ {xs : List NK} {vs : List Value}, IsL h xs vs → IsL h' xs vs
 | _, _, .nil => .nil
 | _, _, .cons i r => .cons (i.keeps k) (r.keeps k)
end
end
mutual
inductive NkV (H : Hp) : NK → V → Prop
 | k {x : Key} : NkV H (.k x) (kV x)
 | t {xs : List NK} {a : Addr} {us : List V} : H a = some (.tup us) → NkL H xs us → NkV H (.t xs) (.ref a)
inductive NkL (H : Hp) : List NK → List V → Prop
 | nil : NkL H [] []
 | cons {x : NK} {v : V} {xs : List NK} {vs : List V} : NkV H x v → NkL H xs vs → NkL H (x :: xs) (v :: vs)
end
mutual
theorem NkV.kp {H H' : Hp} (k : ∀ a us, H a = some (.tup us) → H' a = some (.tup us)) : ∀ {x : NK} {v : V}, NkV H x v → NkV H' x v
 | _, _, .k => .k
 | _, _, .t p l => .t (k _ _ p) (l.kp k)
theorem NkL.kp {H H' : Hp} (k : ∀ a us, H a = some (.tup us) → H' a = some (.tup us)) : ∀ {xs : List NK} {vs : List V}, NkL H xs vs → NkL H' xs vs
 | _, _, .nil => .nil
 | _, _, .cons i r => .cons (i.kp k) (r.kp k)
end
section
variable {P : Program} {w : World} {H : Hp} {h : Heap}
mutual
theorem NkV.is (ok : HOk P w H h) : ∀ {x : NK} {v : V} {u : Value}, NkV H x v → RelV v u → IsN h x u
 | _, _, _, .k, r => .k (kV_is (P := P) (w := w) r)
 | _, _, _, .t p l, r => by
  obtain ⟨_, its, rs, q, _⟩ := (show ObjOk P w H h _ (.tup _) from ok _ _ p)
  cases (show _ = Value.ref _ from r)
  exact .t q (l.is ok rs)
theorem NkL.is (ok : HOk P w H h) : ∀ {xs : List NK} {vs : List V} {us : List Value}, NkL H xs vs → Vals vs us → IsL h xs us
 | _, _, _, .nil, .nil => .nil
 | _, _, _, .cons i r, .cons a b => .cons (i.is ok a) (r.is ok b)
end
end
noncomputable abbrev NE := List NK × Addr × V
noncomputable abbrev KN : List NE → List (List NK × Addr × Value) → Prop := Paired fun p q => p.1 = q.1 ∧ p.2.1 = q.2.1 ∧ RelV p.2.2 q.2.2
noncomputable def lkN (kvs : List NE) (k : List NK) : Option V := (kvs.find? fun x => decide (x.1 = k)).map (·.2.2)
noncomputable def putN (kvs : List NE) (k : List NK) (b : Addr) (v : V) : List NE := if (lkN kvs k).isSome then kvs.map (fun x => if x.1 = k then (x.1, x.2.1, v) else x) else kvs ++ [(k, b, v)]
theorem KN.val {kvs : List NE} {xs : List (List NK × Addr × Value)} (r : KN kvs xs) (k : List NK) : RelO (lkN kvs k) ((atKey xs k).map (·.2)) := by
 induction r with
 | nil => exact True.intro
 | @cons p q ps qs h t ih =>
  obtain ⟨h1, _, h2⟩ := h
  by_cases e : p.1 = k
  ·have e' : q.1 = k := h1.symm.trans e
   have b : atKey (q :: qs) k = some q.2 := by simp [atKey, List.find?_cons, e']
   have b2 : lkN (p :: ps) k = some p.2.2 := by simp [lkN, List.find?_cons, e]
   rw [b2, b]; exact h2
  ·have e' : ¬ q.1 = k := fun z => e (h1.trans z)
   have b : atKey (q :: qs) k = atKey qs k := by simp [atKey, List.find?_cons, e']
   have b2 : lkN (p :: ps) k = lkN ps k := by simp [lkN, List.find?_cons, e]
   rw [b2, b]; exact ih
theorem KN.put {kvs : List NE} {xs : List (List NK × Addr × Value)} (r : KN kvs xs) (k : List NK) (b : Addr) {y : V} {u : Value} (ry : RelV y u) : KN (putN kvs k b y) (storedH xs k b u) := by
 have e : (lkN kvs k).isSome = (atKey xs k).isSome := by rw [(r.val k).isSome_eq, Option.isSome_map]
 unfold putN storedH
 rw [e]
 by_cases q : (atKey xs k).isSome = true
 ·rw [if_pos q, if_pos q]
  clear e q
  induction r with
  | nil => exact .nil
  | @cons p q ps qs h t ih =>
   rw [List.map_cons, List.map_cons]
   refine .cons ?_ ih
   obtain ⟨h1, h2, h3⟩ := h
   unfold putAt
   by_cases e : p.1 = k
   ·rw [if_pos e, if_pos (h1.symm.trans e)]; exact ⟨h1, h2, ry⟩
   ·rw [if_neg e, if_neg (fun z => e (h1.trans z))]; exact ⟨h1, h2, h3⟩
 ·rw [if_neg q, if_neg q]; exact Paired.snoc r ⟨rfl, rfl, ry⟩
section
variable {P : Program} {w : World} {H : Hp} {h : Heap} {a : Addr} {kvs : List NE} {ep : Nat}
end
section
variable {X : Cx} {pins : List (Addr × Obj)} {σ : St} {H : Hp} {s : Shared} {a : Addr} {y v : V} {u r : Value} {A : Around} {E : Value → Shared → Prop}
end
section
variable {X : Cx} {o i value : Expr} {pos pos' : Pos} {td ty tv : TE} {k : Nat}
end
end L2
namespace L2
open PySem PySem.Spec PyProof.Rows
section
variable {prog : Program} {w : World} {A : Around} {E : Value → Shared → Prop} {s : Shared}
end
section
variable {X : Cx}
end
end L2
namespace L2
open PySem PySem.Spec PyProof.Rows
mutual
inductive DtV (H : Hp) : PyData → V → Prop
 | non : DtV H .none .non
 | int (i : Int) : DtV H (.int i) (.int i)
 | str (x : Str) : DtV H (.str x) (.str x)
 | tup {a : Addr} {us : List V} {ds : List PyData} : H a = some (.tup us) → DtL H ds us → DtV H (.tuple ds) (.ref a)
inductive DtL (H : Hp) : List PyData → List V → Prop
 | nil : DtL H [] []
 | cons {d : PyData} {v : V} {ds : List PyData} {vs : List V} : DtV H d v → DtL H ds vs → DtL H (d :: ds) (v :: vs)
end
mutual
theorem DtV.kp {H H' : Hp} (k : ∀ a us, H a = some (.tup us) → H' a = some (.tup us)) : ∀ {d : PyData} {v : V}, DtV H d v → DtV H' d v
 | _, _, .non => .non
 | _, _, .int i => .int i
 | _, _, .str x => .str x
 | _, _, .tup p l => .tup (k _ _ p) (l.kp k)
theorem DtL.kp {H H' : Hp} (k : ∀ a us, H a = some (.tup us) → H' a = some (.tup us)) : ∀ {ds : List PyData} {vs : List V}, DtL H ds vs → DtL H' ds vs
 | _, _, .nil => .nil
 | _, _, .cons i r => .cons (i.kp k) (r.kp k)
end
theorem DtL.of {H : Hp} {f : V → PyData} : ∀ {vs : List V}, (∀ v ∈ vs, DtV H (f v) v) → DtL H (vs.map f) vs
 | [], _ => .nil
 | v :: vs, h => .cons (h v List.mem_cons_self) (DtL.of fun u hu => h u (List.mem_cons_of_mem _ hu))
theorem DtL.map {α : Type} {H : Hp} {f : α → PyData} {g : α → V} : ∀ {xs : List α}, (∀ x ∈ xs, DtV H (f x) (g x)) → DtL H (xs.map f) (xs.map g)
 | [], _ => .nil
 | x :: xs, h => .cons (h x List.mem_cons_self) (DtL.map fun u hu => h u (List.mem_cons_of_mem _ hu))
section
variable {P : Program} {w : World} {H : Hp} {h : Heap}
mutual
theorem DtV.reads (ok : HOk P w H h) : ∀ {d : PyData} {v : V} {u : Value}, DtV H d v → RelV v u → ∃ as, Reads h u d as
 | _, _, _, .non, r => by cases (show _ = Value.none from r); exact ⟨_, .none⟩
 | _, _, _, .int i, r => by obtain ⟨t, e⟩ := (show ∃ t, _ = Value.int i t from r); subst e; exact ⟨_, .int i t⟩
 | _, _, _, .str x, r => by obtain ⟨t, e⟩ := (show ∃ t, _ = Value.str x t from r); subst e; exact ⟨_, .str x t⟩
 | _, _, _, .tup p l, r => by
  obtain ⟨_, its, rs, ⟨o, h1, h2, n, h3⟩, _⟩ := (show ObjOk P w H h _ (.tup _) from ok _ _ p)
  cases (show _ = Value.ref _ from r)
  obtain ⟨as, q⟩ := l.reads ok rs
  exact ⟨as, .tuple h1 h2 h3 (by simpa using q)⟩
theorem DtL.reads (ok : HOk P w H h) : ∀ {ds : List PyData} {vs : List V} {us : List Value}, DtL H ds vs → Vals vs us → ∃ as, ReadsAll h us ds as
 | _, _, _, .nil, .nil => ⟨_, .nil⟩
 | _, _, _, .cons i r, .cons a b => let ⟨_, q⟩ := i.reads ok a; let ⟨_, q2⟩ := r.reads ok b; ⟨_, .cons q q2⟩
end
end
structure Sm (n k : Nat) (d : PyData) : Prop where
 len : d.shown.length ≤ n
 sh : d.showable = true
 nd : d.hasDict = false
 dp : d.depth ≤ k
theorem Sm.mono {n m k j : Nat} {d : PyData} (h : Sm n k d) (a : n ≤ m) (b : k ≤ j) : Sm m j d := ⟨Nat.le_trans h.len a, h.sh, h.nd, Nat.le_trans h.dp b⟩
theorem Sm.non : Sm 4 0 .none := ⟨by simp only [PyData.shown]; decide, by simp [PyData.showable], by simp only [PyData.hasDict], by simp only [PyData.depth, Nat.le_refl]⟩
theorem Sm.str {x : Str} {n : Nat} (h : ∀ c ∈ x.cps.toList, c < 16 ^ 8) (hl : x.length ≤ n) : Sm (10 * n + 2) 0 (.str x) := by
 refine ⟨?_, by simp [PyData.showable], by simp only [PyData.hasDict], by simp only [PyData.depth, Nat.le_refl]⟩
 simp only [PyData.shown]
 have := StrLaws.reprText_len x h
 omega
theorem all_len {n k : Nat} : ∀ {ds : List PyData}, (∀ d ∈ ds, Sm n k d) → (PyData.showableAll ds = true ∧ PyData.hasDictAll ds = false ∧ PyData.depthAll ds ≤ k) ∧ (Str.join ", " (PyData.shownAll ds)).length ≤ ds.length * (n + 2)
 | [], _ => by
  refine ⟨⟨by simp [PyData.showableAll], by simp only [PyData.hasDictAll], by simp only [PyData.depthAll, Nat.zero_le]⟩, ?_⟩
  simp only [PyData.shownAll, List.length_nil, Nat.zero_mul]
  show (Str.join ", " []).length ≤ 0
  decide
 | d :: ds, h => by
  have h1 := h d List.mem_cons_self
  obtain ⟨⟨a, b, c⟩, e⟩ := all_len fun x hx => h x (List.mem_cons_of_mem _ hx)
  have h3 := h1.dp
  refine ⟨⟨by simp [PyData.showableAll, h1.sh, a], by simp only [PyData.hasDictAll, h1.nd, b, Bool.or_self], by simp only [PyData.depthAll]; omega⟩, ?_⟩
  have h2 := h1.len
  cases ds with
  | nil =>
   simp only [PyData.shownAll, List.length_cons, List.length_nil]
   show d.shown.length ≤ _
   omega
  | cons d2 ds =>
   simp only [PyData.shownAll] at e ⊢
   show (d.shown ++ ", " ++ Str.join ", " (d2.shown :: PyData.shownAll ds)).length ≤ _
   rw [strLen_append, strLen_append]
   have e3 : (", " : Str).length = 2 := by decide
   rw [e3, List.length_cons, Nat.succ_mul]
   simp only [List.length_cons] at e ⊢
   omega
theorem Sm.tup {ds : List PyData} {n k m : Nat} (h : ∀ d ∈ ds, Sm n k d) (hl : ds.length ≤ m) : Sm (m * (n + 2) + 3) (k + 1) (.tuple ds) := by
 obtain ⟨⟨a, b, c⟩, e⟩ := all_len h
 refine ⟨?_, by simpa [PyData.showable] using a, by simpa only [PyData.hasDict] using b, by simp only [PyData.depth]; omega⟩
 simp only [PyData.shown]
 unfold tupleText
 rw [strLen_append, strLen_append]
 have h1 : ("(" : Str).length = 1 := by decide
 have h2 : (if ((PyData.shownAll ds).length == 1) = true then (",)" : String) else ")" : String).length ≤ 2 := by split <;> decide
 have h3 : ds.length * (n + 2) ≤ m * (n + 2) := Nat.mul_le_mul_right _ hl
 have h4 : (Str.ofString (if ((PyData.shownAll ds).length == 1) = true then (",)" : String) else ")" : String)).length ≤ 2 := by split <;> decide
 have h5 : ((if ((PyData.shownAll ds).length == 1) = true then (",)" : String) else ")" : String) : Str).length ≤ 2 := h4
 omega
end L2
namespace L2
open PySem PySem.Spec PyProof.Rows
noncomputable def KpT (H H' : Hp) : Prop := ∀ a us, H a = some (.tup us) → H' a = some (.tup us)
theorem Same.kt {H H' : Hp} (s : Same H H') : KpT H H' := fun a us e => s a _ e
theorem KpT.trans {H H1 H2 : Hp} (a : KpT H H1) (b : KpT H1 H2) : KpT H H2 := fun c us e => b c us (a c us e)
theorem KpT.upd {H : Hp} {l : Addr} {xs ys : List V} (e : H l = some (.lst xs)) : KpT H (upd H l (.lst ys)) := fun a us h => by rw [upd_ne (ne_of h e (fun z => nomatch z))]; exact h
section
variable {k : Nat} {cap : List Nat} {g : TG} {tt : TT} {te : TE} {σ : St} {H : Hp} {Q : VK} {l : Addr}
theorem comp_ents {α : Type} (J : It) (es : List α) (x : α → V) (p : α → Bool) (R : Hp → α → V → Prop) (Good : St → Prop) (h0 : Good (capSt k cap σ)) (hl : H l = none) (hlen : es.length < sizeLine)
  (hstop : ∀ H', Same H H' → J.stop es.length H') (hgo : ∀ i H', i < es.length → Same H H' → J.go i H')
  (hyld : ∀ i H1 v H2, i < es.length → Same H H1 → J.yld i H1 v H2 → H2 = H1 ∧ ∃ e, es[i]? = some e ∧ v = x e)
  (m : ∀ H1 H2 e v, KpT H1 H2 → R H1 e v → R H2 e v)
  (ht : ∀ e σ H1 ys (N : St → Hp → Prop), e ∈ es → Good σ → Same H H1 → H1 l = some (.lst ys) → ys.length < sizeLine → (p e = false → ∀ σ', Good σ' → N σ' H1) →
   (p e = true → ∀ σ' v H2, Good σ' → Same H1 H2 → R H2 e v → N σ' (upd H2 l (.lst (ys ++ [v])))) → turnOf g tt te l (x e) σ H1 N)
  (hd : ∀ H' ys, Same H H' → Paired (R H') (es.filter p) ys → H' l = some (.lst ys) → Q (.ref l) H') : GoalW J g tt te l (capSt k cap σ) (upd H l (.lst [])) Q := by
 refine comp_gen J es.length (fun i σ' H' => i ≤ es.length ∧ Good σ' ∧ Same H H' ∧ ∃ ys, Paired (R H') ((es.take i).filter p) ys ∧ H' l = some (.lst ys)) ⟨Nat.zero_le _, h0, Same.upd hl, [], .nil, upd_same⟩
  (fun σ' H' ⟨_, _, s, _⟩ => hstop H' s) (fun i σ' H' hi ⟨_, _, s, _⟩ => hgo i H' hi s) (fun i σ' H' v H'' hi ⟨_, gd, s, ys, py, e⟩ y => ?_) (fun σ' H' ⟨_, _, s, ys, py, e⟩ => ?_)
 ·obtain ⟨e1, en, he, ev⟩ := hyld i H' v H'' hi s y
  subst e1 ev
  have hz : ys.length < sizeLine := by
   rw [← Paired.length py]
   have a1 := List.length_filter_le p (es.take i)
   rw [List.length_take] at a1
   omega
  refine ht en σ' _ ys _ (List.mem_of_getElem? he) gd s e hz (fun hp σ2 g2 => ⟨hi, g2, s, ys, ?_, e⟩) (fun hp σ2 v H2 g2 s2 r => ⟨hi, g2, fun b o hb => ?_, ys ++ [v], ?_, upd_same⟩)
  ·rw [take_filter he, if_neg (by rw [hp]; exact Bool.false_ne_true), List.append_nil]; exact py
  ·rw [upd_ne (ne_of_none hb hl)]; exact s2 _ _ (s _ _ hb)
  ·rw [take_filter he, if_pos hp]
   have k2 := KpT.upd (ys := ys ++ [v]) (s2 _ _ e)
   exact Paired.snoc (Paired.mapP py fun a b r => m _ _ a b (s2.kt.trans k2) r) (m _ _ _ _ k2 r)
 ·rw [List.take_length] at py
  exact hd H' ys s py e
end
theorem for_enumL {K : PySem.W.Frag} {a : Addr} {xs : List V} {g : TG} {tb : TS} {D : Ends} {σ : St} {H : Hp} (Pv : Nat → St → Hp → Prop) (h0 : Pv 0 σ H) (hl : ∀ i σ H, i ≤ xs.length → Pv i σ H → SqL K H a xs)
  (hs : ∀ i x t σ H, xs[i]? = some x → H t = none → Pv i σ H → g (.ref t) σ (upd H t (.tup [.int i, x])) fun σ2 H2 => tb { D with nx := Pv (i + 1), ct := Pv (i + 1), bk := D.nx } σ2 H2) (hd : ∀ σ H, Pv xs.length σ H → D.nx σ H) :
  ∃ W : Nat → Nat → St → Hp → Prop, (∃ m, W 0 m σ H) ∧ ∀ i m σ H, W i m σ H →
   ((IteL K a).stop i H ∧ D.nx σ H) ∨ ((IteL K a).go i H ∧ ∃ N : St → Hp → Prop, (∀ σ' H', N σ' H' → ∃ m', m' < m ∧ W (i + 1) m' σ' H') ∧ ∀ x H', (IteL K a).yld i H x H' → g x σ H' fun σ2 H2 => tb { D with nx := N, ct := N, bk := D.nx } σ2 H2) := by
 refine ⟨fun i m σ H => m = xs.length - i ∧ i ≤ xs.length ∧ Pv i σ H, ⟨xs.length, by simp, Nat.zero_le _, h0⟩, ?_⟩
 rintro i m σ H ⟨rfl, hi, p⟩
 have q := hl i σ H hi p
 by_cases hlt : i < xs.length
 ·refine .inr ⟨⟨xs, xs[i], q, by simp [hlt]⟩, Pv (i + 1), fun σ' H' p' => ⟨xs.length - (i + 1), by omega, rfl, hlt, p'⟩, fun x H' y => ?_⟩
  obtain ⟨t, ht, rfl, y⟩ := y
  obtain ⟨x, hx, rfl⟩ := y xs q
  exact hs i x t σ H hx ht p
 ·have e : i = xs.length := by omega
  subst e
  exact .inl ⟨⟨xs, q, rfl⟩, hd σ H p⟩
end L2
namespace L2
open PySem PySem.Spec PyProof.Rows Mr
mutual
inductive Tr (H : Hp) : PV → V → Prop
 | non : Tr H .non .non
 | bl (b : Bool) : Tr H (.bl b) (.bl b)
 | int (i : Int) : Tr H (.int i) (.int i)
 | str (x : Str) : Tr H (.str x) (.str x)
 | tup {a : Addr} {us : List V} {ps : List PV} : H a = some (.tup us) → TrL H ps us → Tr H (.tup ps) (.ref a)
inductive TrL (H : Hp) : List PV → List V → Prop
 | nil : TrL H [] []
 | cons {p : PV} {v : V} {ps : List PV} {vs : List V} : Tr H p v → TrL H ps vs → TrL H (p :: ps) (v :: vs)
end
mutual
theorem Tr.kp {H H' : Hp} (k : KpT H H') : ∀ {p : PV} {v : V}, Tr H p v → Tr H' p v
 | _, _, .non => .non
 | _, _, .bl b => .bl b
 | _, _, .int b => .int b
 | _, _, .str b => .str b
 | _, _, .tup h r => .tup (k _ _ h) (r.kp k)
theorem TrL.kp {H H' : Hp} (k : KpT H H') : ∀ {p : List PV} {v : List V}, TrL H p v → TrL H' p v
 | _, _, .nil => .nil
 | _, _, .cons h r => .cons (h.kp k) (r.kp k)
end
mutual
theorem Tr.rep {K : PySem.W.Frag} {Z : ASet} {H : Hp} : ∀ {p : PV} {v : V}, Tr H p v → Rep K Z H p v
 | _, _, .non => .non
 | _, _, .bl b => .bl b
 | _, _, .int b => .int b
 | _, _, .str b => .str b
 | _, _, .tup h r => .tup (.inl h) r.rep
theorem TrL.rep {K : PySem.W.Frag} {Z : ASet} {H : Hp} : ∀ {p : List PV} {v : List V}, TrL H p v → RepL K Z H p v
 | _, _, .nil => .nil
 | _, _, .cons h r => .cons h.rep r.rep
end
theorem Tr.tup' {H : Hp} {ps : List PV} {v : V} (h : Tr H (.tup ps) v) : ∃ a us, v = .ref a ∧ H a = some (.tup us) ∧ TrL H ps us := by
 cases h with | tup h r => exact ⟨_, _, rfl, h, r⟩
theorem TrL.length {H : Hp} : ∀ {ps : List PV} {vs : List V}, TrL H ps vs → ps.length = vs.length
 | _, _, .nil => rfl
 | _, _, .cons _ r => by rw [List.length_cons, List.length_cons, r.length]
theorem TrL.get {H : Hp} : ∀ {ps : List PV} {vs : List V} {i : Nat} {v : V}, TrL H ps vs → vs[i]? = some v → ∃ p, ps[i]? = some p ∧ Tr H p v
 | _, _, _, _, .nil, e => by simp at e
 | _, _, 0, _, .cons h _, e => by simp at e; subst e; exact ⟨_, rfl, h⟩
 | _, _, i + 1, v, .cons _ r, e => by
  obtain ⟨p, h1, h2⟩ := r.get (i := i) (v := v) (by simpa using e)
  exact ⟨p, by simpa using h1, h2⟩
theorem TrL.get' {H : Hp} : ∀ {ps : List PV} {vs : List V} {i : Nat} {p : PV}, TrL H ps vs → ps[i]? = some p → ∃ v, vs[i]? = some v ∧ Tr H p v
 | _, _, _, _, .nil, e => by simp at e
 | _, _, 0, _, .cons h _, e => by simp at e; subst e; exact ⟨_, rfl, h⟩
 | _, _, i + 1, p, .cons _ r, e => by
  obtain ⟨v, h1, h2⟩ := r.get' (i := i) (p := p) (by simpa using e)
  exact ⟨v, by simpa using h1, h2⟩
theorem TrL.app {H : Hp} : ∀ {ps qs : List PV} {vs us : List V}, TrL H ps vs → TrL H qs us → TrL H (ps ++ qs) (vs ++ us)
 | _, _, _, _, .nil, s => s
 | _, _, _, _, .cons h r, s => .cons h (r.app s)
theorem TrL.strs {H : Hp} : ∀ {xs : List Str}, TrL H (xs.map PV.str) (xs.map V.str)
 | [] => .nil
 | x :: xs => .cons (.str x) TrL.strs
theorem TrL.paired {α : Type} {H : Hp} {f : α → PV} : ∀ {xs : List α} {vs : List V}, Paired (fun a v => Tr H (f a) v) xs vs → TrL H (xs.map f) vs
 | _, _, .nil => .nil
 | _, _, .cons h r => .cons h (TrL.paired r)
mutual
noncomputable def keyP : PV → NK
 | .str x => .k (.inr x)
 | .int i => .k (.inl i)
 | .tup ps => .t (keyPL ps)
 | _ => .k (.inl 0)
noncomputable def keyPL : List PV → List NK
 | [] => []
 | p :: ps => keyP p :: keyPL ps
end
mutual
noncomputable def keyed : PV → Bool
 | .str _ => true
 | .int _ => true
 | .tup ps => keyedL ps
 | _ => false
noncomputable def keyedL : List PV → Bool
 | [] => true
 | p :: ps => keyed p && keyedL ps
end
mutual
theorem Tr.nk {H : Hp} : ∀ {p : PV} {v : V}, Tr H p v → keyed p = true → NkV H (keyP p) v
 | _, _, .non, h => by simp [keyed] at h
 | _, _, .bl b, h => by simp [keyed] at h
 | _, _, .int i, _ => by simp only [keyP]; exact .k (x := .inl i)
 | _, _, .str x, _ => by simp only [keyP]; exact .k (x := .inr x)
 | _, _, .tup h r, q => by simp only [keyP]; exact .t h (r.nk (by simpa [keyed] using q))
theorem TrL.nk {H : Hp} : ∀ {p : List PV} {v : List V}, TrL H p v → keyedL p = true → NkL H (keyPL p) v
 | _, _, .nil, _ => by simp only [keyPL]; exact .nil
 | _, _, .cons h r, q => by
  simp only [keyedL, Bool.and_eq_true] at q
  simp only [keyPL]
  exact .cons (h.nk q.1) (r.nk q.2)
end
mutual
theorem keyP_inj : ∀ {p q : PV}, keyed p = true → keyed q = true → keyP p = keyP q → p = q
 | .str x, .str y, _, _, e => by simp [keyP] at e; rw [e]
 | .str x, .int y, _, _, e => by simp [keyP] at e
 | .str x, .tup y, _, _, e => by simp [keyP] at e
 | .int x, .str y, _, _, e => by simp [keyP] at e
 | .int x, .int y, _, _, e => by simp [keyP] at e; rw [e]
 | .int x, .tup y, _, _, e => by simp [keyP] at e
 | .tup x, .str y, _, _, e => by simp [keyP] at e
 | .tup x, .int y, _, _, e => by simp [keyP] at e
 | .tup x, .tup y, h1, h2, e => by
  simp only [keyP, NK.t.injEq] at e
  rw [keyPL_inj (by simpa [keyed] using h1) (by simpa [keyed] using h2) e]
 | .non, _, h, _, _ => by simp [keyed] at h
 | .bl _, _, h, _, _ => by simp [keyed] at h
 | .ty _, _, h, _, _ => by simp [keyed] at h
 | .lst _, _, h, _, _ => by simp [keyed] at h
 | .dct _, _, h, _, _ => by simp [keyed] at h
 | .str _, .non, _, h, _ => by simp [keyed] at h
 | .str _, .bl _, _, h, _ => by simp [keyed] at h
 | .str _, .ty _, _, h, _ => by simp [keyed] at h
 | .str _, .lst _, _, h, _ => by simp [keyed] at h
 | .str _, .dct _, _, h, _ => by simp [keyed] at h
 | .int _, .non, _, h, _ => by simp [keyed] at h
 | .int _, .bl _, _, h, _ => by simp [keyed] at h
 | .int _, .ty _, _, h, _ => by simp [keyed] at h
 | .int _, .lst _, _, h, _ => by simp [keyed] at h
 | .int _, .dct _, _, h, _ => by simp [keyed] at h
 | .tup _, .non, _, h, _ => by simp [keyed] at h
 | .tup _, .bl _, _, h, _ => by simp [keyed] at h
 | .tup _, .ty _, _, h, _ => by simp [keyed] at h
 | .tup _, .lst _, _, h, _ => by simp [keyed] at h
 | .tup _, .dct _, _, h, _ => by simp [keyed] at h
theorem keyPL_inj : ∀ {p q : List PV}, keyedL p = true → keyedL q = true → keyPL p = keyPL q → p = q
 | [], [], _, _, _ => rfl
 | [], _ :: _, _, _, e => by simp [keyPL] at e
 | _ :: _, [], _, _, e => by simp [keyPL] at e
 | p :: ps, q :: qs, h1, h2, e => by
  have h1 : keyed p = true ∧ keyedL ps = true := by simpa [keyedL] using h1
  have h2 : keyed q = true ∧ keyedL qs = true := by simpa [keyedL] using h2
  simp only [keyPL, List.cons.injEq] at e
  rw [keyP_inj h1.1 h2.1 e.1, keyPL_inj h1.2 h2.2 e.2]
end
mutual
noncomputable def datP : PV → PyData
 | .str x => .str x
 | .int i => .int i
 | .tup ps => .tuple (datPL ps)
 | _ => .none
noncomputable def datPL : List PV → List PyData
 | [] => []
 | p :: ps => datP p :: datPL ps
end
mutual
noncomputable def shows : PV → Bool
 | .str _ => true
 | .int _ => true
 | .non => true
 | .tup ps => showsL ps
 | _ => false
noncomputable def showsL : List PV → Bool
 | [] => true
 | p :: ps => shows p && showsL ps
end
mutual
theorem Tr.dt {H : Hp} : ∀ {p : PV} {v : V}, Tr H p v → shows p = true → DtV H (datP p) v
 | _, _, .non, h => by simp only [datP]; exact .non
 | _, _, .bl b, h => by simp [shows] at h
 | _, _, .int i, _ => by simp only [datP]; exact .int i
 | _, _, .str x, _ => by simp only [datP]; exact .str x
 | _, _, .tup h r, q => by simp only [datP]; exact .tup h (r.dt (by simpa [shows] using q))
theorem TrL.dt {H : Hp} : ∀ {p : List PV} {v : List V}, TrL H p v → showsL p = true → DtL H (datPL p) v
 | _, _, .nil, _ => by simp only [datPL]; exact .nil
 | _, _, .cons h r, q => by
  simp only [showsL, Bool.and_eq_true] at q
  simp only [datPL]
  exact .cons (h.dt q.1) (r.dt q.2)
end
theorem datPL_map : ∀ ps : List PV, datPL ps = ps.map datP
 | [] => by simp only [datPL, List.map_nil]
 | p :: ps => by simp only [datPL, List.map_cons, datPL_map ps]
theorem showsL_all : ∀ ps : List PV, showsL ps = ps.all shows
 | [] => by simp only [showsL, List.all_nil]
 | p :: ps => by simp only [showsL, List.all_cons, showsL_all ps]
noncomputable def Sh (n k : Nat) (p : PV) : Prop := shows p = true ∧ Sm n k (datP p)
theorem Sh.mono {n m k j : Nat} {p : PV} (h : Sh n k p) (a : n ≤ m) (b : k ≤ j) : Sh m j p := ⟨h.1, h.2.mono a b⟩
theorem Sh.tup {ps : List PV} {n k m : Nat} (h : ∀ p ∈ ps, Sh n k p) (hl : ps.length ≤ m) : Sh (m * (n + 2) + 3) (k + 1) (.tup ps) := by
 refine ⟨by simp only [shows]; rw [showsL_all]; exact List.all_eq_true.mpr fun p hp => (h p hp).1, ?_⟩
 simp only [datP]
 rw [datPL_map]
 refine Sm.tup (fun d hd => ?_) (by rw [List.length_map]; exact hl)
 obtain ⟨p, hp, rfl⟩ := List.mem_map.mp hd
 exact (h p hp).2
theorem Sh.non : Sh 4 0 .non := ⟨by simp only [shows], by simp only [datP]; exact Sm.non⟩
theorem Sh.str {x : Str} {n : Nat} (h : ∀ c ∈ x.cps.toList, c < 16 ^ 8) (hl : x.length ≤ n) : Sh (10 * n + 2) 0 (.str x) := ⟨by simp only [shows], by simp only [datP]; exact Sm.str h hl⟩
noncomputable def rSortQ (K : PySem.W.Frag) : List V → Hp → VK → Prop := fun xs H Q => ∃ p ys ps, xs = [.ref p] ∧ SqL K H p ys ∧ TrL H ps ys ∧ ys.length < 64 ∧ (∀ x ∈ ps, ledP true x = true) ∧ cmpAll 3 ps = true ∧
 ∀ l zs, TrL H (sortT 3 ps) zs → H l = none → Q (.ref l) (upd H l (.lst zs))
theorem TrL.pick {H : Hp} {ps : List PV} {ys : List V} (r : TrL H ps ys) : ∀ {ix : List Nat}, (∀ i ∈ ix, i < ps.length) → TrL H (ix.map fun i => ps.getD i .non) (ix.map fun i => ys.getD i .non)
 | [], _ => .nil
 | i :: ix, h => by
  have hi := h i List.mem_cons_self
  have e := List.getElem?_eq_getElem hi
  obtain ⟨v, ev, rv⟩ := r.get' e
  refine .cons ?_ (TrL.pick r fun j hj => h j (List.mem_cons_of_mem _ hj))
  dsimp only
  rw [List.getD_eq_getElem?_getD, List.getD_eq_getElem?_getD, e, ev]
  exact rv
theorem sortQ {X : Cx} {k : Nat} (K : PySem.W.Frag) (hr : Room k X.A) (hK : X.K = K := by rfl) : CallR X (.builtin "sorted") (rSortQ K) := by
 intro pins s σ H xs us Q I r ⟨p, ys, ps, e, hq, rp, h64, led, cmp, q⟩
 refine sortPX K hr hK pins s σ H xs us Q I r ⟨p, ys, ps, true, e, hq, rp.rep, h64, led, cmp, fun l ix h1 h2 hl => q l _ ?_ hl⟩
 have hix : ∀ i ∈ ix, i < ps.length := fun i hi => List.mem_range.mp (h1.mem_iff.mp hi)
 have pm : (ix.map fun i => ps.getD i .non).Perm ps := by
  have := h1.map fun i => ps.getD i PV.non
  have e : (List.range ps.length).map (fun i => ps.getD i PV.non) = ps := by
   apply List.ext_getElem
   ·simp
   ·intro i a1 a2
    simp [List.getElem?_eq_getElem a2]
  rw [e] at this
  exact this
 have es : sortT 3 ps = ix.map fun i => ps.getD i .non :=
  sorted_oneP (sortT_sorted 3 ps) h2 ((sortT_perm 3 ps).trans pm.symm) fun x hx y hy => cmp_anti cmp ((sortT_perm 3 ps).mem_iff.mp hx) ((sortT_perm 3 ps).mem_iff.mp hy)
 rw [es]
 exact rp.pick hix
end L2
namespace L2
open PySem PySem.Spec PyProof.Rows
section
variable {X : Cx} {pos : Pos}
noncomputable def tLstC (vs : List V) : TE := fun _ H Q => vs.length ≤ sizeLine ∧ ∀ p, H p = none → Q (.ref p) (upd H p (.lst vs))
end
end L2
namespace L2
open PySem PySem.Spec PyProof.Rows
section
variable {X : Cx} {e st : Expr} {te ts : TE} {pos p2 : Pos}
end
end L2
namespace My
open PySem L2 Mr PyProof.Rows PySem.Builtin.Str
noncomputable abbrev S (l : List Nat) : Str := ⟨l.toArray⟩
theorem S_codes (l : List Nat) : (S l).cps.toList = l := rfl
theorem S_self (x : Str) : S x.cps.toList = x := by cases x; simp [S]
theorem S_len (l : List Nat) : (S l).length = l.length := by show l.toArray.size = _; simp
theorem S_app (a b : List Nat) : S a ++ S b = S (a ++ b) := PM.ext_codes (by rw [Str.cps_append, Array.toList_append])
theorem S_inj {a b : List Nat} : S a = S b ↔ a = b := ⟨fun h => congrArg (fun s : Str => s.cps.toList) h, fun h => by rw [h]⟩
theorem ix_clip (i j n : Nat) : strSliceIndices (some (i : Int)) (some (j : Int)) 1 n = strSliceIndices (some ((min i n : Nat) : Int)) (some ((max (min i n) (min j n) : Nat) : Int)) 1 n := by
 unfold strSliceIndices sliceRange
 simp only [show (1 : Int) > 0 by decide, if_true, show ¬ ((i : Int) < 0) by omega, show ¬ ((j : Int) < 0) by omega, show ¬ (((min i n : Nat) : Int) < 0) by omega, show ¬ (((max (min i n) (min j n) : Nat) : Int) < 0) by omega, if_false]
 have e1 : max (0 : Int) (min (i : Int) n) = ((min i n : Nat) : Int) := by omega
 have e2 : max (0 : Int) (min (j : Int) n) = ((min j n : Nat) : Int) := by omega
 have e3 : max (0 : Int) (min ((min i n : Nat) : Int) n) = ((min i n : Nat) : Int) := by omega
 have e4 : max (0 : Int) (min ((max (min i n) (min j n) : Nat) : Int) n) = ((max (min i n) (min j n) : Nat) : Int) := by omega
 rw [e1, e2, e3, e4]
 congr 2
 split <;> split <;> simp only [Int.ediv_one] <;> omega
theorem sl_ij (l : List Nat) (i j : Nat) : Txt.slice (S l) (some (i : Int)) (some (j : Int)) = S ((l.drop i).take (j - i)) := by
 have e : Txt.slice (S l) (some (i : Int)) (some (j : Int)) = Txt.slice (S l) (some ((min i l.length : Nat) : Int)) (some ((max (min i l.length) (min j l.length) : Nat) : Int)) := by
  unfold Txt.slice
  rw [S_len, ix_clip]
 rw [e, beq_iff_eq.mp (slice_closes (x := S l) ⟨by omega, by omega, by rw [S_codes]; omega⟩), S_codes]
 refine S_inj.mpr ?_
 by_cases h : i ≤ l.length
 ·rw [show ((min i l.length : Nat) : Int).toNat = i by omega]
  by_cases h2 : j ≤ l.length
  ·congr 1; omega
  ·rw [List.take_of_length_le (by rw [List.length_drop]; omega), List.take_of_length_le (by rw [List.length_drop]; omega)]
 ·rw [List.drop_of_length_le (by omega), List.drop_of_length_le (by omega)]; simp
theorem sl_from (l : List Nat) (i : Nat) : Txt.slice (S l) (some (i : Int)) none = S (l.drop i) := by
 by_cases h : i ≤ l.length
 ·rw [slice_from_eq (x := S l) (b := l.length) (by omega) (by rw [S_len]; omega) (by rw [S_len]), S_codes]
  refine S_inj.mpr ?_
  rw [Int.toNat_natCast, List.take_of_length_le (by rw [List.length_drop]; omega)]
 ·rw [slice_beyond (by rw [S_len]; omega), List.drop_of_length_le (by omega)]; rfl
theorem sl_to (l : List Nat) (j : Nat) : Txt.slice (S l) none (some (j : Int)) = S (l.take j) := by
 have e : Txt.slice (S l) none (some (j : Int)) = Txt.slice (S l) (some ((0 : Nat) : Int)) (some (j : Int)) := by
  unfold Txt.slice
  have : strSliceIndices none (some (j : Int)) 1 (S l).length = strSliceIndices (some ((0 : Nat) : Int)) (some (j : Int)) 1 (S l).length := by
   unfold strSliceIndices
   simp only [show (1 : Int) > 0 by decide, if_true, show ¬ (((0 : Nat) : Int) < 0) by omega, if_false]
   congr 1
  rw [this]
 rw [e, sl_ij, List.drop_zero, Nat.sub_zero]
theorem sub_at (l p : List Nat) (i : Nat) : Builtin.Str.subAt (S l) (S p) i = decide ((l.drop i).take p.length = p) := by
 unfold Builtin.Str.subAt
 rw [S_len]
 show (l.toArray.extract i (i + p.length) == p.toArray) = _
 rw [Bool.eq_iff_iff, beq_iff_eq, decide_eq_true_eq, ← Array.toList_inj]
 simp [List.extract_eq_take_drop]
theorem at_iff (l p : List Nat) (i : Nat) : StrLaws.At (S l) (S p) (S l).length i ↔ (i + p.length ≤ l.length ∧ (l.drop i).take p.length = p) := by
 unfold StrLaws.At
 rw [sub_at, S_len, S_len, decide_eq_true_eq]
theorem strSub_S (l : List Nat) (i j : Nat) : Builtin.Str.strSub (S l) i j = S ((l.drop i).take (j - i)) := by
 refine PM.ext_codes ?_
 show (l.toArray.extract i j).toList = _
 simp [List.extract_eq_take_drop]
end My
namespace My
open PySem L2 Mr PyProof.Rows PySem.Builtin.Str
theorem split_ne (x y : Str) : Txt.split x y ≠ [] := by
 unfold Txt.split
 split
 ·simp
 ·split
  ·simp
  ·intro h
   have := congrArg List.length h
   rw [length_partsBetween] at this
   simp at this
end My
namespace L2
open PySem PySem.Spec PyProof.Rows Mr My PySem.StrLaws PySem.Builtin.Str
theorem chainG_uniq {x y : Str} {hi : Nat} : ∀ {cuts cuts' : List Nat} {a f f' : Nat}, ChainG x y hi a cuts f → (∀ k, f ≤ k → ¬ At x y hi k) → ChainG x y hi a cuts' f' → (∀ k, f' ≤ k → ¬ At x y hi k) → cuts = cuts'
 | [], [], _, _, _, _, _, _, _ => rfl
 | [], c :: r, _, _, _, h, n, h', _ => by
  have e : _ = _ := h
  subst e
  exact absurd h'.2.1 (n c h'.1)
 | c :: r, [], _, _, _, h, _, h', n' => by
  have e : _ = _ := h'
  subst e
  exact absurd h.2.1 (n' c h.1)
 | c :: r, c' :: r', a, f, f', h, n, h', n' => by
  have e : c = c' := by
   rcases Nat.lt_trichotomy c c' with g | g | g
   ·exact absurd h.2.1 (h'.2.2.1 c h.1 g)
   ·exact g
   ·exact absurd h'.2.1 (h.2.2.1 c' h'.1 g)
  subst e
  rw [chainG_uniq h.2.2.2 n h'.2.2.2 n']
theorem at_shift (p b y : List Nat) (i : Nat) : At (S (p ++ b)) (S y) (S (p ++ b)).length (p.length + i) ↔ At (S b) (S y) (S b).length i := by
 rw [at_iff, at_iff, List.length_append, ← List.drop_drop, List.drop_left]
 constructor
 ·exact fun h => ⟨by omega, h.2⟩
 ·exact fun h => ⟨by omega, h.2⟩
theorem chainG_shift (p b y : List Nat) : ∀ {cuts : List Nat} {a f : Nat}, ChainG (S b) (S y) (S b).length a cuts f → ChainG (S (p ++ b)) (S y) (S (p ++ b)).length (p.length + a) (cuts.map (p.length + ·)) (p.length + f)
 | [], _, _, h => by
  have e : _ = _ := h
  subst e
  rfl
 | c :: r, a, f, h => by
  refine ⟨Nat.add_le_add_left h.1 _, (at_shift p b y c).mpr h.2.1, fun k h1 h2 hA => ?_, ?_⟩
  ·have e : k = p.length + (k - p.length) := by omega
   rw [e, at_shift] at hA
   exact h.2.2.1 _ (by omega) (by dsimp only at h2; omega) hA
  ·rw [Nat.add_assoc]
   exact chainG_shift p b y h.2.2.2
theorem partsFrom_shift (p b : List Nat) (w : Nat) : ∀ (cuts : List Nat) (a : Nat), partsFrom (S (p ++ b)) w (p.length + a) (cuts.map (p.length + ·)) = partsFrom (S b) w a cuts
 | [], a => by
  show [strSub _ _ _] = [strSub _ _ _]
  rw [strSub_S, strSub_S, S_len, S_len, List.length_append, ← List.drop_drop, List.drop_left, Nat.add_sub_add_left]
 | c :: r, a => by
  show strSub _ _ _ :: partsFrom _ _ _ _ = strSub _ _ _ :: _
  rw [strSub_S, strSub_S, ← List.drop_drop, List.drop_left, Nat.add_sub_add_left, Nat.add_assoc, partsFrom_shift p b w r (c + w)]
theorem kind_low {y : Str} (h : ∀ c ∈ y.cps.toList, c < 128) (x : Str) : ¬ Builtin.Str.strKind x < Builtin.Str.strKind y := by
 have : y.cps.all (· < 256) = true := by
  rw [← Array.all_toList, List.all_eq_true]
  exact fun c hc => decide_eq_true (by have := h c hc; omega)
 have e : Builtin.Str.strKind y = 1 := by unfold Builtin.Str.strKind; rw [if_pos this]
 rw [e]
 unfold Builtin.Str.strKind
 split
 ·omega
 ·split <;> omega
theorem split_cuts {x y : Str} (hy : 1 ≤ y.length) (ha : ∀ c ∈ y.cps.toList, c < 128) {cuts : List Nat} {f : Nat} (h : ChainG x y x.length 0 cuts f) (n : ∀ k, f ≤ k → ¬ At x y x.length k) : Txt.split x y = partsFrom x y.length 0 cuts := by
 obtain ⟨g, h1, h2⟩ := occ_tight x y hy
 have e := chainG_uniq h1 h2 h n
 unfold Txt.split
 rw [e]
 have k := kind_low ha x
 cases cuts with
 | nil =>
  rw [show partsFrom x y.length 0 [] = [x] by show [strSub x 0 x.length] = _; rw [sub_whole]]
  split <;> rfl
 | cons c r =>
  have hc : c + y.length ≤ x.length := h.2.1.1
  rw [if_neg (by simp only [Bool.or_eq_true, decide_eq_true_eq]; omega), if_neg (by simp), partsBetween_eq]
theorem split_app {a y b : List Nat} (hy : 1 ≤ y.length) (ha : ∀ c ∈ y, c < 128) (hn : ∀ k, k < a.length → ¬ At (S (a ++ y ++ b)) (S y) (S (a ++ y ++ b)).length k) : Txt.split (S (a ++ y ++ b)) (S y) = S a :: Txt.split (S b) (S y) := by
 have hyl : (S y).length = y.length := S_len y
 obtain ⟨g, h1, h2⟩ := occ_tight (S b) (S y) (by omega)
 have e := split_cuts (x := S b) (y := S y) (by omega) ha h1 h2
 have hc := chainG_shift (a ++ y) b y h1
 have hA : At (S (a ++ y ++ b)) (S y) (S (a ++ y ++ b)).length a.length := by
  rw [at_iff]
  refine ⟨by simp only [List.length_append]; omega, ?_⟩
  rw [List.append_assoc, List.drop_left, List.take_left]
 have hc2 : ChainG (S (a ++ y ++ b)) (S y) (S (a ++ y ++ b)).length 0 (a.length :: (occurrences (S b) (S y) 0 (S b).length ((S b).length + 1)).map ((a ++ y).length + ·)) ((a ++ y).length + g) := by
  refine ⟨Nat.zero_le _, hA, fun k _ hk => hn k hk, ?_⟩
  rw [hyl, show a.length + y.length = (a ++ y).length + 0 by rw [List.length_append, Nat.add_zero]]
  exact hc
 rw [split_cuts (x := S (a ++ y ++ b)) (y := S y) (by omega) ha hc2 fun k hk hB => by
  have e : k = (a ++ y).length + (k - (a ++ y).length) := by omega
  rw [e, at_shift] at hB
  exact h2 _ (by omega) hB, e]
 show strSub _ _ _ :: partsFrom _ _ _ _ = _
 rw [strSub_S, List.append_assoc, List.drop_zero, Nat.sub_zero, List.take_left, ← List.append_assoc]
 rw [hyl, show a.length + y.length = (a ++ y).length + 0 by rw [List.length_append, Nat.add_zero], partsFrom_shift]
theorem split_all {x y : Str} (hy : 1 ≤ y.length) (ha : ∀ c ∈ y.cps.toList, c < 128) (hn : ∀ k, ¬ At x y x.length k) : Txt.split x y = [x] := by
 rw [split_cuts hy ha (cuts := []) (f := 0) rfl (fun k _ => hn k)]
 show [strSub x 0 x.length] = _
 rw [sub_whole]
theorem no_at {l y : List Nat} {c : Nat} {k : Nat} (hy : y.head? = some c) (h : ∀ d, l[k]? = some d → d ≠ c) : ¬ At (S l) (S y) (S l).length k := by
 rw [at_iff]
 rintro ⟨h1, h2⟩
 cases y with
 | nil => cases hy
 | cons d y =>
  cases hy
  have e : ((l.drop k).take (c :: y).length)[0]? = some c := by rw [h2]; rfl
  rw [List.getElem?_take_of_lt (by simp), List.getElem?_drop, Nat.add_zero] at e
  exact h c e rfl
theorem split_cons {a y b : List Nat} {c : Nat} (hy : y.head? = some c) (ha : ∀ c ∈ y, c < 128) (hc : c ∉ a) : Txt.split (S (a ++ y ++ b)) (S y) = S a :: Txt.split (S b) (S y) := by
 refine split_app (by cases y with | nil => cases hy | cons _ _ => simp) ha fun k hk => no_at hy fun d hd e => ?_
 rw [List.append_assoc, List.getElem?_append_left hk] at hd
 exact hc (e ▸ List.mem_of_getElem? hd)
theorem split_one {a y : List Nat} {c : Nat} (hy : y.head? = some c) (ha : ∀ c ∈ y, c < 128) (hc : c ∉ a) : Txt.split (S a) (S y) = [S a] := by
 refine split_all (by rw [S_len]; cases y with | nil => cases hy | cons _ _ => simp) ha fun k => no_at hy fun d hd e => hc (e ▸ List.mem_of_getElem? hd)
noncomputable def grd (P : Nat → Prop) [DecidablePred P] (w : Nat) : List Nat → Nat → Nat → List Nat
 | [], _, _ => []
 | _ :: _, _, 0 => []
 | i :: l, free, r + 1 => if free ≤ i ∧ P i then i :: grd P w l (i + w) r else grd P w l free (r + 1)
theorem grd_zero (P : Nat → Prop) [DecidablePred P] (w : Nat) (l : List Nat) (free : Nat) : grd P w l free 0 = [] := by cases l <;> rfl
theorem grd_take (P : Nat → Prop) [DecidablePred P] (w : Nat) : ∀ (l : List Nat) (free k r : Nat), k ≤ r → grd P w l free k = (grd P w l free r).take k
 | [], _, _, _, _ => by simp [grd]
 | i :: l, free, 0, r, _ => by rw [grd_zero, List.take_zero]
 | i :: l, free, k + 1, 0, h => by omega
 | i :: l, free, k + 1, r + 1, h => by
  unfold grd
  split
  ·rw [grd_take P w l (i + w) k r (by omega)]; rfl
  ·exact grd_take P w l free (k + 1) (r + 1) h
theorem occ_grd (s sub : Str) (hi limit : Nat) : ∀ (l : List Nat) (st : Array Nat × Nat), st.fst.size ≤ limit →
  (forIn l st (occBody s sub hi limit)).run.fst.toList = st.fst.toList ++ grd (fun i => i + sub.length ≤ hi ∧ subAt s sub i = true) sub.length l st.snd (limit - st.fst.size)
 | [], st, _ => by simp [grd]
 | i :: l, st, h => by
  rw [List.forIn_cons]
  unfold occBody
  split
  ·rename_i hc
   have e := occ_grd s sub hi limit l (st.fst.push i, i + sub.length) (by show (st.fst.push i).size ≤ _; rw [Array.size_push]; omega)
   refine e.trans ?_
   rw [show limit - st.fst.size = (limit - (st.fst.size + 1)) + 1 by omega]
   conv => rhs; unfold grd
   rw [if_pos ⟨hc.1.1.2, hc.1.2, hc.2⟩]
   dsimp only
   rw [Array.size_push, Array.toList_push, List.append_assoc]
   rfl
  ·rename_i hc
   have e := occ_grd s sub hi limit l (st.fst, st.snd) h
   refine e.trans ?_
   dsimp only
   cases hr : limit - st.fst.size with
   | zero => rw [grd_zero, grd_zero]
   | succ r =>
    conv => rhs; unfold grd
    rw [if_neg (fun g => hc ⟨⟨⟨by omega, g.1⟩, g.2.1⟩, g.2.2⟩)]
theorem occ_take (x y : Str) {k r : Nat} (h : k ≤ r) : occurrences x y 0 x.length k = (occurrences x y 0 x.length r).take k := by
 rw [occ_eq, occ_eq, occ_grd _ _ _ _ _ _ (by simp), occ_grd _ _ _ _ _ _ (by simp)]
 simpa using grd_take _ _ _ _ _ _ h
theorem parts_take {x y : Str} : ∀ {k : Nat} {cuts : List Nat} {a f : Nat}, ChainTo x y x.length a cuts f → k < cuts.length → partsFrom x y.length a (cuts.take k) = (partsFrom x y.length a cuts).take k ++ [Str.join y ((partsFrom x y.length a cuts).drop k)]
 | 0, cuts, a, f, h, _ => by
  rw [List.take_zero, List.take_zero, List.drop_zero, join_partsFrom x y cuts a f h]
  rfl
 | k + 1, [], a, f, h, hk => by simp at hk
 | k + 1, c :: r, a, f, h, hk => by
  show strSub x a c :: partsFrom x y.length (c + y.length) (r.take k) = strSub x a c :: _
  rw [parts_take (k := k) (f := f) h.2.2 (by simpa using hk)]
  rfl
theorem partsFrom_len (x : Str) (w : Nat) : ∀ (cuts : List Nat) (a : Nat), (partsFrom x w a cuts).length = cuts.length + 1
 | [], _ => rfl
 | c :: r, a => by show _ + 1 = _; rw [partsFrom_len x w r]; rfl
noncomputable def splitN (x y : Str) (k : Nat) : List Str := if (Txt.split x y).length ≤ k then Txt.split x y else (Txt.split x y).take k ++ [Str.join y ((Txt.split x y).drop k)]
theorem splitN_eq {x y : Str} {k : Nat} (hy : 1 ≤ y.length) (hk : 1 ≤ k) : (if (decide (x.length < y.length) || decide (Builtin.Str.strKind x < Builtin.Str.strKind y)) = true then [x] else
  if (occurrences x y 0 x.length k).isEmpty = true then [x] else partsBetween x (occurrences x y 0 x.length k) y.length) = splitN x y k := by
 unfold splitN
 have hsp : Txt.split x y = if (decide (x.length < y.length) || decide (Builtin.Str.strKind x < Builtin.Str.strKind y)) = true then [x] else
  if (occurrences x y 0 x.length (x.length + 1)).isEmpty = true then [x] else partsBetween x (occurrences x y 0 x.length (x.length + 1)) y.length := rfl
 by_cases h1 : (decide (x.length < y.length) || decide (Builtin.Str.strKind x < Builtin.Str.strKind y)) = true
 ·rw [if_pos h1] at hsp ⊢
  rw [hsp, if_pos (show [x].length ≤ k from hk)]
 ·rw [if_neg h1] at hsp ⊢
  have ho : occurrences x y 0 x.length k = (occurrences x y 0 x.length (x.length + 1)).take k := by
   by_cases g : k ≤ x.length + 1
   ·exact occ_take x y g
   ·have hl := occ_length_le_len x y 0 x.length k
    have hl2 := occ_take x y (show x.length + 1 ≤ k by omega)
    rw [List.take_of_length_le (by omega)] at hl2
    rw [hl2, List.take_of_length_le (by omega)]
  obtain ⟨f, hch⟩ := occ_chain x y (x.length + 1)
  rw [ho]
  generalize occurrences x y 0 x.length (x.length + 1) = cuts at hsp hch
  cases cuts with
  | nil =>
   rw [show List.take k ([] : List Nat) = [] by simp]
   rw [if_pos (by rfl)] at hsp ⊢
   rw [hsp, if_pos (show [x].length ≤ k from hk)]
  | cons c r =>
   rw [if_neg (by simp)] at hsp
   rw [if_neg (by cases k with | zero => omega | succ k => simp)]
   rw [hsp, partsBetween_eq, partsBetween_eq, partsFrom_len]
   by_cases g : (c :: r).length + 1 ≤ k
   ·rw [if_pos g, List.take_of_length_le (by omega)]
   ·rw [if_neg g]
    by_cases g2 : k < (c :: r).length
    ·exact parts_take hch g2
    ·have e : k = (c :: r).length := by omega
     subst e
     rw [List.take_length]
     have hl := partsFrom_len x y.length (c :: r) 0
     generalize partsFrom x y.length 0 (c :: r) = P at hl
     have : P.drop (c :: r).length = [P[(c :: r).length]'(by omega)] := by
      rw [List.drop_eq_getElem_cons (by omega), List.drop_of_length_le (by omega)]
     have e2 : [Str.join y (P.drop (c :: r).length)] = P.drop (c :: r).length := by rw [this]; rfl
     rw [e2, List.take_append_drop]
noncomputable def partP (x y : Str) : List Str := match Txt.split x y with
 | a :: b :: r => [a, y, Str.join y (b :: r)]
 | _ => [x, Str.empty, Str.empty]
theorem partP_eq {x y : Str} (hy : 1 ≤ y.length) (hx : ¬ (decide (x.length < y.length) || decide (Builtin.Str.strKind x < Builtin.Str.strKind y)) = true) : (match occurrences x y 0 x.length 1 with
  | i :: _ => [strSub x 0 i, y, strSub x (i + y.length) x.length]
  | [] => [x, Str.empty, Str.empty]) = partP x y := by
 unfold partP
 have hsp : Txt.split x y = if (decide (x.length < y.length) || decide (Builtin.Str.strKind x < Builtin.Str.strKind y)) = true then [x] else
  if (occurrences x y 0 x.length (x.length + 1)).isEmpty = true then [x] else partsBetween x (occurrences x y 0 x.length (x.length + 1)) y.length := rfl
 rw [if_neg hx] at hsp
 have ho : occurrences x y 0 x.length 1 = (occurrences x y 0 x.length (x.length + 1)).take 1 := occ_take x y (by omega)
 obtain ⟨f, hch⟩ := occ_chain x y (x.length + 1)
 rw [ho, hsp]
 generalize occurrences x y 0 x.length (x.length + 1) = cuts at hch
 cases cuts with
 | nil => rfl
 | cons c r =>
  rw [if_neg (by simp), partsBetween_eq]
  obtain ⟨p, q, e⟩ := partsFrom_ne x y.length (c + y.length) r
  show [strSub x 0 c, y, strSub x (c + y.length) x.length] = match strSub x 0 c :: partsFrom x y.length (c + y.length) r with
   | a :: b :: r => [a, y, Str.join y (b :: r)]
   | _ => [x, Str.empty, Str.empty]
  rw [← join_partsFrom x y r (c + y.length) f hch.2.2, e]
theorem splitN_len (x y : Str) (k : Nat) : (splitN x y k).length ≤ k + 1 := by
 unfold splitN
 split
 ·omega
 ·rw [List.length_append, List.length_take]; show _ + 1 ≤ _; omega
end L2
namespace L2
open PySem PySem.Spec PyProof.Rows Mr
section
variable {X : Cx}
theorem split_sep_max_any (x y : Str) (k : Nat) (t u v : Tok) (hk : k ≤ 100) (h1 : 1 ≤ k) (hy : 1 ≤ y.length) (hx : x.length ≤ 1000000) : Meets (Builtin.«str.split» ⟨[.str x t, .str y u, .int k v], []⟩) (fun _ R s =>
  ∀ l tk, l.map (·.1) = splitN x y k → R (.ok (.ret (.ref s.heap.objs.size))) { s with toks := tk, heap := s.heap.push { cls := .type "list", data := .seq (strValues l).toArray } }) := by
 have hk' : (decide ((k : Int) < -(2 ^ 63 : Int)) || decide ((k : Int) ≥ 2 ^ 63)) = false := by
  rw [Bool.or_eq_false_iff, decide_eq_false_iff_not, decide_eq_false_iff_not]; omega
 have hlim : limitOf x (k : Int) = k := by unfold limitOf; rw [if_neg (by omega)]; rfl
 have key := splitN_eq (x := x) hy h1
 have hyn : (y.length == 0) = false := by rw [beq_eq_false_iff_ne]; omega
 cases hc : (decide (x.length < y.length) || decide (Builtin.Str.strKind x < Builtin.Str.strKind y)) with
 | true =>
  rw [if_pos hc] at key
  obtain ⟨raising, htree⟩ := split_sep_max_tree x y k t u v hk'
  refine .of_wp fun prog w A R s h => ?_
  rw [htree, hc]
  exact wpAny_bind (wpAny_rule (wpAny_bind (wpAny_newList (wpAny_pure ⟨_, rfl, h [(x, t)] s.toks key⟩) (by show 1 ≤ sizeLine; decide))))
 | false =>
  rw [if_neg (ne_true_of_eq_false hc)] at key
  cases hf : (Builtin.Str.occurrences x y 0 x.length k).isEmpty with
  | true =>
   rw [if_pos hf] at key
   obtain ⟨raising, htree⟩ := split_sep_max_tree x y k t u v hk'
   refine .of_wp fun prog w A R s h => ?_
   rw [htree, hc, hyn, hlim, hf]
   exact wpAny_bind (wpAny_rule (wpAny_bind (wpAny_newList (wpAny_pure ⟨_, rfl, h [(x, t)] s.toks key⟩) (by show 1 ≤ sizeLine; decide))))
  | false =>
   rw [if_neg (ne_true_of_eq_false hf)] at key
   have hl : (Builtin.Str.partsBetween x (Builtin.Str.occurrences x y 0 x.length k) y.length).length ≤ sizeLine := szl (by rw [key]; have := splitN_len x y k; omega)
   intro prog w A R s h
   have m := meets_str_split_sep_max x y k t u v hk' hc hyn (by rw [hlim]; exact hf) (szl (by omega)) (by rw [hlim]; exact hl)
   rw [hlim] at m
   refine m prog w A R s ?_
   dsimp only
   rw [strsFrom_eq]
   exact h (numbered s.toks _) _ ((numbered_texts _ _).trans key)
noncomputable def rSplitN : V → List V → Hp → VK → Prop := fun x vs H Q => ∃ (z y : Str) (k : Nat), x = .str z ∧ vs = [.str y, .int k] ∧ k ≤ 100 ∧ 1 ≤ k ∧ 1 ≤ y.length ∧ z.length ≤ 1000000 ∧ ∀ l, H l = none → Q (.ref l) (upd H l (.lst ((splitN z y k).map V.str)))
theorem mt_splitN : MtR X "str.split" rSplitN := by
 intro pins s σ H xv vs v us Q I rx rv h
 obtain ⟨x, y, k, rfl, rfl, hk, h1, hy, hx, q⟩ := h
 obtain ⟨t, rfl⟩ := rx
 obtain ⟨u, w', rfl, ⟨t1, rfl⟩, ⟨t2, rfl⟩⟩ := vals2 rv
 refine call_meets F.slot_str_split (typeIs_str _ _ _) F.entry_str_split (F.args_str_split_3 _ _ _) (split_sep_max_any x y k t t1 t2 hk h1 hy hx) fun l tk e => ?_
 exact ⟨.ref s.heap.objs.size, _, I.lnew (ys := (splitN x y k).map V.str) (by rw [← e]; exact vals_strs l) (szl (by rw [List.length_map]; have := splitN_len x y k; omega)), rfl, q _ (I.hok.fresh (Nat.le_refl _))⟩
theorem call_intS : CallR X (.type "int") (fun xs H Q => ∃ z n, xs = [.str z] ∧ z.length ≤ 640 ∧ PySem.intText? z = some n ∧ Q (.int n) H) := by
 intro pins s σ H xs us Q I r h
 obtain ⟨z, n, rfl, hl, hn, q⟩ := h
 obtain ⟨u, rfl, t, rfl⟩ := vals1 r
 exact PySem.W.KIN.call_text hn hl ⟨.int n, H, I.tok _, ⟨_, rfl⟩, q⟩
end
noncomputable def LeAt (A : Around) (s : Shared) (x y : Value) (c : Bool) : Prop :=
 ∀ (prog : Program) (w : World) (E : Value → Shared → Prop) (Q : Value → Shared → Prop), Q (.bool c) s → wpAny (model prog w) A (richCompare .LtE x y) Q E s
inductive LexE (A : Around) (s : Shared) (fin : Bool) : List (Value × Value) → Bool → Prop
 | done : LexE A s fin [] fin
 | same {p q : Value} {r : List (Value × Value)} {c : Bool} : SeqAt.EqAt A s p q true → LexE A s fin r c → LexE A s fin ((p, q) :: r) c
 | less {p q : Value} {r : List (Value × Value)} {c : Bool} : SeqAt.EqAt A s p q false → LeAt A s p q c → LexE A s fin ((p, q) :: r) c
section
open PySem.SeqAt
open PySem.AutoSeq1 (wpAny_loadPart')
open PySem.MeetsSeq PySem.MeetsSeq2 PySem.MeetsSeq3
theorem le_lex (l b : Addr) (us vs : Array Value) (n m : Nat) (d1 d2 : Option Addr) (k1 k2 : Array (Option Value)) (c : Bool) :
  Meets (Builtin.«tuple.__le__» ⟨[.ref l, .ref b], []⟩) (fun A R s => s.heap.get? l = some ⟨.type "tuple", d1, .seq us n, k1⟩ ∧ s.heap.get? b = some ⟨.type "tuple", d2, .seq vs m, k2⟩ ∧
   LexE A.in1 s (decide (us.size ≤ vs.size)) (us.toList.zip vs.toList) c ∧ R (.ok (.ret (.bool c))) s) :=
 .of_wp fun prog w A R s h => by
  obtain ⟨hp, gg, dd, tk, os⟩ := s
  obtain ⟨hl, hb, hx, hr⟩ := h
  have f2 := AutoSeq1.sub_tuple_tuple
  wp_walk using wpAny_loadPart' hl, wpAny_loadPart' hb, wpAny_forIn_list _ (fun rest acc s' => acc.1 = none ∧ s' = ⟨hp, gg, dd, tk, os⟩ ∧ LexE A.in1 ⟨hp, gg, dd, tk, os⟩ (decide (us.size ≤ vs.size)) rest c) _
  case turn =>
   rintro ⟨y, x⟩ rest acc s' ⟨ha, rfl, hx'⟩
   cases hx' with
   | same he hrest =>
    refine wpAny_bind (he prog w _ _ ?_)
    wp_walk
    exact ⟨rfl, rfl, hrest⟩
   | less he hlt =>
    refine wpAny_bind (he prog w _ _ ?_)
    have hq := hlt prog w
    wp_walk using hq
    exact ⟨_, rfl, by simpa using hr⟩
  case fin =>
   rintro ⟨b1, b2⟩ s' ⟨ha, rfl, hx'⟩
   simp only at ha
   subst ha
   cases hx'
   wp_walk
   exact ⟨_, rfl, by simpa [Builtin.Tuple.tupleCompareSizes] using hr⟩
  case h => exact ⟨rfl, rfl, hx⟩
end
theorem le_tup {A : Around} {s : Shared} {l b : Addr} {us vs : Array Value} {c : Bool} (hl : IsTup s.heap l us) (hb : IsTup s.heap b vs) (hu : A.units < cLine) (hx : LexE A.in1 s (decide (us.size ≤ vs.size)) (us.toList.zip vs.toList) c) :
  LeAt A s (.ref l) (.ref b) c := by
 intro prog w E Q q
 obtain ⟨⟨c1, d1, t1, k1⟩, g1, e1, n, r1⟩ := id hl
 obtain ⟨⟨c2, d2, t2, k2⟩, g2, e2, m, r2⟩ := id hb
 simp only at e1 r1 e2 r2
 subst e1 r1 e2 r2
 exact richCompare_meets_room (op := .LtE) ⟨_, g1, rfl⟩ ⟨_, g2, rfl⟩ PySem.F.slot_tuple_le PySem.F.entry_tuple_le (PySem.F.args_tuple_le_2 _ _) (le_lex l b us vs n m d1 d2 k1 k2 c) ⟨g1, g2, hx, (fun x => nomatch x), q⟩ hu
section
variable {s : Shared}
theorem lexE_P {A : Around} {lt : PV → PV → Option Bool} {n : Nat} : ∀ {xs ys : List PV} {us vs : List Value} {c : Bool} {fin : Bool}, LiesL s.heap xs us → LiesL s.heap ys vs → (∀ x ∈ xs, plP n x = true) → (∀ x ∈ ys, plP n x = true) → (∀ x ∈ xs, ∀ y ∈ ys, ∀ u v, Lies s.heap x u → Lies s.heap y v → SeqAt.EqAt A s u v (eqP x y) ∧ ∀ b, lt y x = some b → LeAt A s u v (!b)) →
  fin = decide (us.length ≤ vs.length) → lexP lt ys xs = some c → LexE A s fin (us.zip vs) (!c) := by
 intro xs
 induction xs with
 | nil =>
  intro ys us vs c fin h1 h2 p1 p2 hk hf h
  cases h1
  cases h2 <;> (cases h; rw [hf]; exact .done)
 | cons x xs ih =>
  intro ys us vs c fin h1 h2 p1 p2 hk hf h
  cases h1 with
  | cons r1 rr1 =>
   cases h2 with
   | nil => cases h; rw [hf]; exact .done
   | @cons y _ ys _ r2 rr2 =>
    obtain ⟨he, hl⟩ := hk x List.mem_cons_self y List.mem_cons_self _ _ r1 r2
    have px := p1 x List.mem_cons_self
    have py := p2 y List.mem_cons_self
    unfold lexP at h
    cases e : eqP x y with
    | true =>
     rw [e] at he
     have exy := eqP_eq px py e
     subst exy
     rw [if_pos e] at h
     exact .same he (ih rr1 rr2 (fun a ha => p1 a (List.mem_cons_of_mem _ ha)) (fun a ha => p2 a (List.mem_cons_of_mem _ ha)) (fun a ha b hb => hk a (List.mem_cons_of_mem _ ha) b (List.mem_cons_of_mem _ hb)) (by rw [hf]; simp) h)
    | false =>
     rw [e] at he
     have e' : ¬ eqP y x = true := fun z => by
      have := eqP_eq py px z
      subst this
      rw [z] at e
      cases e
     rw [if_neg e'] at h
     exact .less he (hl c h)
theorem leAt_P : ∀ (n : Nat) (A : Around) {p q : PV} {v u : Value} {b : Bool}, A.units + n < cLine → plP n p = true → plP n q = true → Lies s.heap p v → Lies s.heap q u → ltP n q p = some b → LeAt A s v u (!b) := by
 have hs : ∀ (A : Around) {p q : PV} {v u : Value} {b : Bool} (x y : Str), p = .str x → q = .str y → Lies s.heap p v → Lies s.heap q u → some (decide (y.cps.toList < x.cps.toList)) = some b → LeAt A s v u (!b) := by
  rintro A p q v u b x y rfl rfl h1 h2 h; cases h; cases h1; cases h2; exact fun prog w E Q q => PySem.P.le_str q
 have hi : ∀ (A : Around) {p q : PV} {v u : Value} {b : Bool} (x y : Int), p = .int x → q = .int y → Lies s.heap p v → Lies s.heap q u → some (decide (y < x)) = some b → LeAt A s v u (!b) := by
  rintro A p q v u b x y rfl rfl h1 h2 h; cases h; cases h1; cases h2
  exact fun prog w E Q q => PyProof.Rows.le_int (by rw [show decide (x ≤ y) = !decide (y < x) by rw [← decide_not]; exact decide_eq_decide.mpr (by omega)]; exact q)
 intro n
 induction n with
 | zero =>
  intro A p q v u b hu o1 o2 h1 h2 h
  cases p with
  | str x =>
   cases q with
   | str y => exact hs A x y rfl rfl h1 h2 h
   | _ => cases h
  | int x =>
   cases q with
   | int y => exact hi A x y rfl rfl h1 h2 h
   | _ => cases h
  | _ => cases q <;> cases h
 | succ n ih =>
  intro A p q v u b hu o1 o2 h1 h2 h
  cases p with
  | str x =>
   cases q with
   | str y => exact hs A x y rfl rfl h1 h2 h
   | _ => cases h
  | int x =>
   cases q with
   | int y => exact hi A x y rfl rfl h1 h2 h
   | _ => cases h
  | tup xs =>
   cases q with
   | tup ys =>
    cases h1 with
    | tup t1 l1 =>
     cases h2 with
     | tup t2 l2 =>
      have hin : A.in1.units = A.units + 1 := rfl
      have o1 : xs.all (plP n) = true := o1
      have o2 : ys.all (plP n) = true := o2
      refine le_tup t1 t2 (by omega) ?_
      simpa using lexE_P (A := A.in1) (s := s) l1 l2 (List.all_eq_true.mp o1) (List.all_eq_true.mp o2) (fun x hx y hy u v a b => ⟨eqAt_P n A.in1 (by omega) (plP_ok (List.all_eq_true.mp o1 x hx)) (plP_ok (List.all_eq_true.mp o2 y hy)) a b, fun c hc => ih A.in1 (by omega) (List.all_eq_true.mp o1 x hx) (List.all_eq_true.mp o2 y hy) a b hc⟩) rfl h
   | _ => cases h
  | _ => cases q <;> cases h
end
section
variable {X : Cx} {k : Nat}
noncomputable def rLeQ : R2 := fun x y H Q => ∃ p q b, Tr H p x ∧ Tr H q y ∧ plP 3 p = true ∧ plP 3 q = true ∧ ltP 3 q p = some b ∧ Q (.bl (!b)) H
theorem op_leQ (hr : Room k X.A) : OpR X (compareOp .LtE) rLeQ := by
 intro pins s σ H x y v u Q I rx ry h
 obtain ⟨p, q, b, h1, h2, o1, o2, hb, hQ⟩ := h
 exact leAt_P 3 X.A (by have := hr.un; omega) o1 o2 ((Red.rep (h1.rep (K := X.K) (Z := noA))).lies I (plP_ok o1) rx) ((Red.rep (h2.rep (K := X.K) (Z := noA))).lies I (plP_ok o2) ry) hb _ _ _ _ (fin_bl I hQ rfl)
end
end L2
namespace My
open PySem L2
noncomputable abbrev ABC : Str := Str.ofString "abcdefghijklmnopqrstuvwxyz0123456789"
noncomputable def inS (c : Nat) : Bool := !(Builtin.Str.occurrences ABC ⟨#[c]⟩ 0 ABC.length 1).isEmpty
noncomputable def nameB (x : Str) : Bool := decide (1 ≤ (x.length : Int)) && decide ((x.length : Int) ≤ 12) && x.cps.toList.all inS
noncomputable def nameV : V → Bool
 | .str x => nameB x
 | _ => false
theorem nameV_no {v : V} (h : ∀ x, v ≠ .str x) : nameV v = false := by
 cases v <;> first | rfl | exact absurd rfl (h _)
noncomputable def spNameV : Sp := fun vs H Q _ => ∃ v k, vs = [v] ∧ Tg H v k ∧ ∀ H', Same H H' → Q (.bl (nameV v)) H'
noncomputable def dayV : V → Bool
 | .int i => decide (0 ≤ i) && decide (i ≤ 99999999)
 | _ => false
noncomputable def spWhole : Sp := fun vs H Q _ => ∃ v k, vs = [v] ∧ Tg H v k ∧ Q (.bl (decide (k = .int))) H
noncomputable def spDayV : Sp := fun vs H Q _ => ∃ v k, vs = [v] ∧ Tg H v k ∧ Q (.bl (dayV v)) H
theorem dayV_no {H : Hp} {v : V} {k : Kd} (h : IsK H v k) (n : k ≠ .int) : dayV v = false := by
 cases k with
 | non => cases (show v = .non from h); rfl
 | bl => obtain ⟨_, rfl⟩ := h; rfl
 | int => exact absurd rfl n
 | str => obtain ⟨_, rfl⟩ := h; rfl
 | lst => obtain ⟨_, _, rfl, _⟩ := h; rfl
 | tup => obtain ⟨_, _, rfl, _⟩ := h; rfl
 | dct => obtain ⟨_, _, _, rfl, _⟩ := h; rfl
noncomputable def okC (c : Nat) : Bool := (!decide ((⟨#[c]⟩ : Str).cps.toList < (Str.ofString " ").cps.toList)) && (!decide ((Str.ofString "~").cps.toList < (⟨#[c]⟩ : Str).cps.toList))
noncomputable def headV : V → Bool
 | .str x => !decide (60 < (x.length : Int)) && x.cps.toList.all okC
 | _ => false
theorem headV_no {v : V} (h : ∀ x, v ≠ .str x) : headV v = false := by
 cases v <;> first | rfl | exact absurd rfl (h _)
noncomputable def spHeadV : Sp := fun vs H Q _ => ∃ v k, vs = [v] ∧ Tg H v k ∧ ∀ H', Same H H' → Q (.bl (headV v)) H'
theorem all_ok (z : Str) : List.all (List.map (fun c => okC c) z.cps.toList) id = z.cps.toList.all okC := by
 rw [List.all_map]; rfl
theorem all_name (z : Str) : List.all (List.map (fun c => inS c) z.cps.toList) id = z.cps.toList.all inS := by
 rw [List.all_map]; rfl
theorem notnot {A B : Prop} (h : A) : if (!false) = true then A else B := by rw [if_pos (show (!false) = true from rfl)]; exact h
theorem notyes {A B : Prop} (h : B) : if (!true) = true then A else B := by rw [if_neg (show ¬ (!true) = true from Bool.false_ne_true)]; exact h
noncomputable def rowV (H : Hp) (v : V) : Bool := match tupOf H v with
 | some xs => !decide (9 < (xs.length : Int)) && xs.all nameV
 | none => false
noncomputable def letterL (H : Hp) : List V → Bool
 | [n, d, h, r] => nameV n && (dayV d && (headV h && rowV H r))
 | _ => false
noncomputable def letterV (H : Hp) (v : V) : Bool := match tupOf H v with
 | some xs => letterL H xs
 | none => false
noncomputable def LW : List Str := [Str.ofString "come", Str.ofString "go"]
noncomputable def NW : List Str := [Str.ofString "split", Str.ofString "free", Str.ofString "read", Str.ofString "unread"]
noncomputable abbrev JW : Str := Str.ofString "join"
noncomputable def deedL (H : Hp) : List V → Bool
 | [.str a, b] => if LW.contains a = true then letterV H b else NW.contains a && nameV b
 | [.str a, b, c] => decide (a = JW) && (nameV b && (nameV c && !decide (b = c)))
 | _ => false
noncomputable def deedV (H : Hp) (v : V) : Bool := match tupOf H v with
 | some xs => deedL H xs
 | none => false
theorem letterL_no {H : Hp} {xs : List V} (h : xs.length ≠ 4) : letterL H xs = false := by
 match xs, h with
 | [], _ => rfl
 | [_], _ => rfl
 | [_, _], _ => rfl
 | [_, _, _], _ => rfl
 | [_, _, _, _], h => exact absurd rfl h
 | _ :: _ :: _ :: _ :: _ :: _, _ => rfl
theorem deedL_no {H : Hp} {xs : List V} (h : ¬ (xs.length = 2 ∨ xs.length = 3)) : deedL H xs = false := by
 match xs, h with
 | [], _ => rfl
 | [a], _ => cases a <;> rfl
 | [_, _], h => exact absurd (.inl rfl) h
 | [_, _, _], h => exact absurd (.inr rfl) h
 | a :: _ :: _ :: _ :: _, _ => cases a <;> rfl
theorem deedL_no0 {H : Hp} {a : V} {xs : List V} (h : ∀ x, a ≠ .str x) : deedL H (a :: xs) = false := by
 cases a with
 | str x => exact absurd rfl (h x)
 | _ => cases xs with
  | nil => rfl
  | cons b r => cases r with
   | nil => rfl
   | cons c r => cases r <;> rfl
theorem rowV_kp {H H' : Hp} {v : V} (t : AnyD 0 H v) (s : Kp H H') : rowV H' v = rowV H v := by obtain ⟨k, t⟩ := t; unfold rowV; rw [t.tup_kp s]
theorem at0 {c : V} {r : List V} : atI (c :: r) 0 = some c := atI_nat (j := 0) rfl
theorem nameV_str {v : V} (h : nameV v = true) : ∃ x, v = .str x := by
 cases v <;> first | exact ⟨_, rfl⟩ | cases h
theorem str_dec {u w : Str} : (!decide (V.str u = V.str w)) = !decide (u = w) := by
 by_cases e : u = w
 ·rw [decide_eq_true e, decide_eq_true (by rw [e])]
 ·rw [decide_eq_false e, decide_eq_false (by intro z; cases z; exact e rfl)]
theorem AnyD.less : ∀ {n : Nat} {H : Hp} {v : V}, AnyD (n + 1) H v → AnyD n H v
 | 0, _, _, h => h.1
 | n + 1, _, _, h => ⟨h.1, fun xs e => ⟨(h.2 xs e).1, fun x hx => AnyD.less ((h.2 xs e).2 x hx)⟩⟩
noncomputable def spP (f : Hp → V → Bool) (n : Nat) : Sp := fun vs H Q _ => ∃ v, vs = [v] ∧ AnyD n H v ∧ ∀ H', Same H H' → Q (.bl (f H v)) H'
noncomputable abbrev ABZ : Str := Str.ofString "abcdefghijklmnopqrstuvwxyz"
noncomputable def KS : List Str := [Str.ofString "ahead", Str.ofString "behind", Str.ofString "label"]
noncomputable def inW (c : Nat) : Bool := !(Builtin.Str.occurrences ABZ ⟨#[c]⟩ 0 ABZ.length 1).isEmpty
noncomputable def wordB (x : Str) : Bool := decide (1 ≤ (x.length : Int)) && decide ((x.length : Int) ≤ 8) && x.cps.toList.all inW
noncomputable def wordV : V → Bool
 | .str x => wordB x
 | _ => false
noncomputable def kindV : V → Bool
 | .str x => KS.contains x
 | _ => false
theorem wordV_no {v : V} (h : ∀ x, v ≠ .str x) : wordV v = false := by
 cases v <;> first | rfl | exact absurd rfl (h _)
theorem kindV_no {v : V} (h : ∀ x, v ≠ .str x) : kindV v = false := by
 cases v <;> first | rfl | exact absurd rfl (h _)
noncomputable def ruleL : List V → Bool
 | [a, b] => kindV a && wordV b
 | _ => false
noncomputable def ruleV (H : Hp) (v : V) : Bool := match tupOf H v with
 | some xs => ruleL xs
 | none => false
noncomputable def rulesV (H : Hp) (v : V) : Bool := match tupOf H v with
 | some xs => !decide (6 < (xs.length : Int)) && xs.all (ruleV H)
 | none => false
theorem ruleL_no {xs : List V} (h : xs.length ≠ 2) : ruleL xs = false := by
 match xs, h with
 | [], _ => rfl
 | [_], _ => rfl
 | [_, _], h => exact absurd rfl h
 | _ :: _ :: _ :: _, _ => rfl
theorem ruleV_kp {H H' : Hp} {v : V} {k : Kd} (t : Tg H v k) (s : Kp H H') : ruleV H' v = ruleV H v := by unfold ruleV; rw [t.tup_kp s]
noncomputable def spWordV : Sp := fun vs H Q _ => ∃ v k, vs = [v] ∧ Tg H v k ∧ ∀ H', Same H H' → Q (.bl (wordV v)) H'
noncomputable def spKindV : Sp := fun vs H Q _ => ∃ v k, vs = [v] ∧ Tg H v k ∧ ∀ H', Same H H' → Q (.bl (kindV v)) H'
noncomputable def spRuleV : Sp := fun vs H Q _ => ∃ v, vs = [v] ∧ AnyD 1 H v ∧ ∀ H', Same H H' → Q (.bl (ruleV H v)) H'
noncomputable def spRulesV : Sp := fun vs H Q _ => ∃ v, vs = [v] ∧ AnyD 2 H v ∧ ∀ H', Same H H' → Q (.bl (rulesV H v)) H'
theorem all_word (z : Str) : List.all (List.map (fun c => inW c) z.cps.toList) id = z.cps.toList.all inW := by
 rw [List.all_map]; rfl
theorem wordB_len {x : Str} (h : wordB x = true) : 1 ≤ x.length ∧ x.length ≤ 8 := by
 unfold wordB at h
 rw [Bool.and_eq_true, Bool.and_eq_true] at h
 have h1 := of_decide_eq_true h.1.1
 have h2 := of_decide_eq_true h.1.2
 omega
theorem abz_in {c : Nat} (h : c ∈ ABZ.cps.toList) : inW c = true := by
 unfold inW
 rw [StrLaws.found_one]
 simpa using h
end My
namespace My
open PySem L2 Mr PySem.NumText
noncomputable abbrev BL : Str := Str.ofString " "
noncomputable abbrev CM : Str := Str.ofString ","
noncomputable abbrev CB : Str := Str.ofString ", "
noncomputable abbrev DSH : Str := Str.ofString "-"
noncomputable abbrev NL : Str := Str.ofString "\n"
noncomputable abbrev FIG : Str := Str.ofString "0123456789"
structure Lt where
 n : Str
 d : Int
 h : Str
 row : List Str
noncomputable def Lt.P (x : Lt) : PV := .tup [.str x.n, .int x.d, .str x.h, .tup (x.row.map .str)]
noncomputable def Lt.ok (x : Lt) : Bool := nameB x.n && (dayV (.int x.d) && (headV (.str x.h) && (!decide (9 < (x.row.length : Int)) && x.row.all nameB)))
noncomputable def inF (c : Nat) : Bool := !(Builtin.Str.occurrences FIG ⟨#[c]⟩ 0 FIG.length 1).isEmpty
noncomputable def cntB (z : Str) : Bool := !decide (z = Str.ofString "") && z.cps.toList.all inF
noncomputable def zeroB (z : Str) : Bool := decide (z.cps.toList.head? = some 48) && !decide (z = Str.ofString "0")
noncomputable def numP (z : Str) : Option Int := if (decide (9 < (z.length : Int)) || !cntB z) = true then none else if zeroB z = true then none else intText? z
noncomputable def rowP (s : Str) : List Str := if s = DSH then [] else Txt.split s CM
noncomputable def letW : List Str → Option Lt
 | n :: d :: r :: h :: hs => match numP d with
  | some k => if Lt.ok ⟨n, k, Txt.join BL (h :: hs), rowP r⟩ = true then some ⟨n, k, Txt.join BL (h :: hs), rowP r⟩ else none
  | none => none
 | _ => none
noncomputable def letP (z : Str) : Option Lt := letW (Txt.split z BL)
inductive Dd where
 | lt (w : Str) (x : Lt)
 | ws (l : List Str)
noncomputable def Dd.P : Dd → PV
 | .lt w x => .tup [.str w, x.P]
 | .ws l => .tup (l.map .str)
noncomputable def wsOk : List Str → Bool
 | [a, b] => if LW.contains a = true then false else NW.contains a && nameB b
 | [a, b, c] => decide (a = JW) && (nameB b && (nameB c && !decide (b = c)))
 | _ => false
noncomputable def dedW (ws : List Str) : Option Dd := match ws with
 | [] => none
 | w :: r => if LW.contains w = true then (match letP (Txt.join BL r) with | some x => some (.lt w x) | none => none) else if wsOk (w :: r) = true then some (.ws (w :: r)) else none
noncomputable def dedP (z : Str) : Option Dd := dedW (Txt.split z BL)
noncomputable abbrev PL : Str := Str.ofString "+ "
noncomputable abbrev MN : Str := Str.ofString "- "
noncomputable def entP (z : Str) : Option (Dd × Bool) := match dedP (Txt.slice z (some 2) none) with
 | some d => if [PL, MN].contains (Txt.slice z none (some 2)) = true then some (d, decide (Txt.slice z none (some 2) = PL)) else none
 | none => none
noncomputable def entV (e : Dd × Bool) : PV := .tup [e.1.P, .bl e.2]
noncomputable def ruleOk : List Str → Bool
 | [a, b] => KS.contains a && wordB b
 | _ => false
noncomputable def rulesOk (rs : List (List Str)) : Bool := !decide (6 < (rs.length : Int)) && rs.all ruleOk
noncomputable def rulesPV (rs : List (List Str)) : PV := .tup (rs.map fun r => .tup (r.map .str))
noncomputable def rulP (z : Str) : Option (List (List Str)) := if z = Str.ofString "" then some [] else if rulesOk ((Txt.split z CB).map fun p => Txt.split p BL) = true then some ((Txt.split z CB).map fun p => Txt.split p BL) else none
noncomputable def rowT (row : List Str) : Str := if row.isEmpty = true then Str.ofString "-" else Txt.join (Str.ofString ",") row
noncomputable def ltT (n : Str) (d : Int) (h : Str) (row : List Str) : Str := n ++ Str.ofString " " ++ Str.ofString (toString d) ++ Str.ofString " " ++ rowT row ++ Str.ofString " " ++ h
noncomputable def Lt.T (x : Lt) : Str := ltT x.n x.d x.h x.row
noncomputable def Dd.T : Dd → Str
 | .lt w x => w ++ Str.ofString " " ++ x.T
 | .ws l => Txt.join (Str.ofString " ") l
noncomputable def Dd.ok : Dd → Bool
 | .lt w x => LW.contains w && x.ok
 | .ws l => wsOk l
noncomputable def entT (e : Dd × Bool) : Str := (if e.2 = true then Str.ofString "+ " else Str.ofString "- ") ++ e.1.T
theorem bl_codes : BL.cps.toList = [32] := by decide +kernel
theorem cm_codes : CM.cps.toList = [44] := by decide +kernel
theorem cb_codes : CB.cps.toList = [44, 32] := by decide +kernel
theorem nl_codes : NL.cps.toList = [10] := by decide +kernel
theorem inS_iff (c : Nat) : inS c = true ↔ c ∈ ABC.cps.toList := by unfold inS; rw [StrLaws.found_one]; exact decide_eq_true_iff
theorem inF_iff (c : Nat) : inF c = true ↔ c ∈ FIG.cps.toList := by unfold inF; rw [StrLaws.found_one]; exact decide_eq_true_iff
theorem inW_iff (c : Nat) : inW c = true ↔ c ∈ ABZ.cps.toList := by unfold inW; rw [StrLaws.found_one]; exact decide_eq_true_iff
theorem abc_no : ∀ c ∈ ABC.cps.toList, c ≠ 32 ∧ c ≠ 44 ∧ c ≠ 10 ∧ c ≠ 45 ∧ 32 ≤ c ∧ c ≤ 126 := by decide +kernel
theorem fig_codes : FIG.cps.toList = [48, 49, 50, 51, 52, 53, 54, 55, 56, 57] := by decide +kernel
theorem nameB_no {x : Str} (h : nameB x = true) : ∀ c ∈ x.cps.toList, c ≠ 32 ∧ c ≠ 44 ∧ c ≠ 10 ∧ c ≠ 45 ∧ 32 ≤ c ∧ c ≤ 126 := by
 unfold nameB at h
 rw [Bool.and_eq_true, List.all_eq_true] at h
 exact fun c hc => abc_no c ((inS_iff c).mp (h.2 c hc))
theorem nameB_len {x : Str} (h : nameB x = true) : 1 ≤ x.length ∧ x.length ≤ 12 := by
 unfold nameB at h
 rw [Bool.and_eq_true, Bool.and_eq_true] at h
 have h1 := of_decide_eq_true h.1.1
 have h2 := of_decide_eq_true h.1.2
 omega
theorem nameB_of {x : Str} (h1 : 1 ≤ x.length) (h2 : x.length ≤ 12) (h : ∀ c ∈ x.cps.toList, c ∈ ABC.cps.toList) : nameB x = true := by
 unfold nameB
 rw [Bool.and_eq_true, Bool.and_eq_true, List.all_eq_true]
 exact ⟨⟨decide_eq_true (by omega), decide_eq_true (by omega)⟩, fun c hc => (inS_iff c).mpr (h c hc)⟩
theorem okC_iff (c : Nat) : okC c = true ↔ 32 ≤ c ∧ c ≤ 126 := by
 unfold okC
 rw [show (Str.ofString " ").cps.toList = [32] by decide +kernel, show (Str.ofString "~").cps.toList = [126] by decide +kernel]
 simp only [Bool.and_eq_true, Bool.not_eq_true', decide_eq_false_iff_not]
 show (¬ [c] < [32]) ∧ (¬ [126] < [c]) ↔ _
 rw [List.cons_lt_cons_iff, List.cons_lt_cons_iff]
 simp
theorem app_assoc (a b c : Str) : a ++ b ++ c = a ++ (b ++ c) := by
 apply PM.ext_codes
 simp [Str.cps_append, Array.toList_append, List.append_assoc]
theorem split_consS {a b y : Str} {c : Nat} {r : List Nat} (hy : y.cps.toList = c :: r) (ha : ∀ c ∈ y.cps.toList, c < 128) (hc : c ∉ a.cps.toList) : Txt.split (a ++ y ++ b) y = a :: Txt.split b y := by
 have h := split_cons (a := a.cps.toList) (y := y.cps.toList) (b := b.cps.toList) (c := c) (by rw [hy]; rfl) ha hc
 rw [← S_app, ← S_app, S_self, S_self, S_self] at h
 exact h
theorem split_oneS {a y : Str} {c : Nat} {r : List Nat} (hy : y.cps.toList = c :: r) (ha : ∀ c ∈ y.cps.toList, c < 128) (hc : c ∉ a.cps.toList) : Txt.split a y = [a] := by
 have h := split_one (a := a.cps.toList) (y := y.cps.toList) (c := c) (by rw [hy]; rfl) ha hc
 rw [S_self, S_self] at h
 exact h
theorem joinT_eq (y : Str) (ps : List Str) : Txt.join y ps = Str.join y ps := by
 show Builtin.Str.glued _ ps = _
 rw [StrLaws.glued_eq_join]
theorem split_joinS {y : Str} {c : Nat} {r : List Nat} (hy : y.cps.toList = c :: r) (ha : ∀ c ∈ y.cps.toList, c < 128) : ∀ {ps : List Str}, ps ≠ [] → (∀ p ∈ ps, c ∉ p.cps.toList) → Txt.split (Txt.join y ps) y = ps
 | [], h, _ => absurd rfl h
 | [p], _, h => by rw [joinT_eq]; exact split_oneS hy ha (h p List.mem_cons_self)
 | p :: q :: r', _, h => by
  have ih := split_joinS hy ha (ps := q :: r') (by simp) fun z hz => h z (List.mem_cons_of_mem _ hz)
  rw [joinT_eq] at ih ⊢
  show Txt.split (p ++ y ++ Str.join y (q :: r')) y = _
  rw [split_consS hy ha (h p List.mem_cons_self), ih]
theorem bl_low : ∀ c ∈ BL.cps.toList, c < 128 := by decide +kernel
theorem cm_low : ∀ c ∈ CM.cps.toList, c < 128 := by decide +kernel
theorem cb_low : ∀ c ∈ CB.cps.toList, c < 128 := by decide +kernel
theorem nl_low : ∀ c ∈ NL.cps.toList, c < 128 := by decide +kernel
theorem day_digits {d : Int} (h0 : 0 ≤ d) : AllDigits (Str.ofString (toString d)).cps.toList ∧ (Str.ofString (toString d)).cps.toList ≠ [] := by
 obtain ⟨m, rfl⟩ := Int.eq_ofNat_of_zero_le h0
 constructor
 ·intro c hc
  rw [PySem.W.KIN.signs_num] at hc
  obtain ⟨ch, hch, e⟩ := List.mem_map.mp hc
  have r := PyProof.Rows.digit_range (Nat.isDigit_of_mem_toDigits (by decide) (by decide) hch)
  rw [← e]
  exact r
 ·rw [PySem.W.KIN.signs_num]
  intro e
  have h := PySem.toDigits_len_ge 10 m
  rw [List.map_eq_nil_iff.mp e] at h
  exact absurd h (by decide)
theorem digs_fig {c : Nat} (h : 48 ≤ c ∧ c ≤ 57) : inF c = true := by
 rw [inF_iff, fig_codes]
 simp only [List.mem_cons, List.mem_nil_iff, or_false]
 omega
theorem day_zero {d : Int} (h0 : 0 ≤ d) : zeroB (Str.ofString (toString d)) = false := by
 obtain ⟨hd, hne⟩ := day_digits h0
 obtain ⟨m, rfl⟩ := Int.eq_ofNat_of_zero_le h0
 have e := toDigits_all _ hd
 have hv : digitsVal (Str.ofString (toString ((m : Nat) : Int))).cps.toList = m := by rw [PySem.W.KIN.signs_num]; exact PySem.W.KIN.val_back m
 rw [hv] at e
 have hl := congrArg List.length (PySem.W.KIN.signs_num m)
 rw [List.length_map] at hl
 unfold zeroB
 generalize hz : Str.ofString (toString ((m : Nat) : Int)) = z at *
 rw [Bool.and_eq_false_iff]
 by_cases hh : z.cps.toList.head? = some 48
 ·right
  rw [Bool.not_eq_false', decide_eq_true_iff]
  cases ez : z.cps.toList with
  | nil => rw [ez] at hh; cases hh
  | cons c r =>
   rw [ez] at hh e hl
   cases hh
   cases r with
   | nil => exact PM.ext_codes (by rw [ez]; decide +kernel)
   | cons c' r =>
    exfalso
    rw [e, List.dropWhile_cons_of_pos (by rfl)] at hl
    have h2 : ((c' :: r).dropWhile (· == 48)).length ≤ (c' :: r).length := len_dropWhile _ _
    split at hl
    ·simp at hl
    ·rename_i hq
     rw [hq] at h2
     simp only [List.length_map, List.length_cons] at hl h2
     omega
 ·left
  exact decide_eq_false hh
theorem numP_day {d : Int} (h0 : 0 ≤ d) (h1 : d ≤ 99999999) : numP (Str.ofString (toString d)) = some d := by
 obtain ⟨hd, hne⟩ := day_digits h0
 have hl : (Str.ofString (toString d)).length ≤ 9 := PyProof.Rows.toString_length_le h0 (by decide) (by omega)
 have hc : cntB (Str.ofString (toString d)) = true := by
  unfold cntB
  rw [Bool.and_eq_true, List.all_eq_true]
  refine ⟨?_, fun c hc => digs_fig (hd c hc)⟩
  rw [Bool.not_eq_true', decide_eq_false_iff_not]
  intro e
  rw [e] at hne
  exact hne (by decide +kernel)
 unfold numP
 rw [hc, day_zero h0, decide_eq_false (by omega)]
 exact PySem.W.KIN.num_reads h0 (by omega)
end My
namespace My
open PySem L2 Mr PySem.NumText
theorem codes_app (a b : Str) : (a ++ b).cps.toList = a.cps.toList ++ b.cps.toList := by rw [Str.cps_append, Array.toList_append]
structure Lt.Ok (x : Lt) : Prop where
 nm : nameB x.n = true
 d0 : 0 ≤ x.d
 d1 : x.d ≤ 99999999
 hd : x.h.length ≤ 60 ∧ ∀ c ∈ x.h.cps.toList, 32 ≤ c ∧ c ≤ 126
 lr : x.row.length ≤ 9
 rw' : ∀ z ∈ x.row, nameB z = true
theorem Lt.ok_iff (x : Lt) : x.ok = true ↔ x.Ok := by
 unfold Lt.ok
 simp only [Bool.and_eq_true]
 constructor
 ·rintro ⟨h1, h2, h3, h4, h5⟩
  simp only [dayV, headV, Bool.and_eq_true, decide_eq_true_eq, Bool.not_eq_true', decide_eq_false_iff_not, List.all_eq_true] at h2 h3 h4 h5
  exact ⟨h1, h2.1, h2.2, ⟨by omega, fun c hc => (okC_iff c).mp (h3.2 c hc)⟩, by omega, h5⟩
 ·intro h
  simp only [dayV, headV, Bool.and_eq_true, decide_eq_true_eq, Bool.not_eq_true', decide_eq_false_iff_not, List.all_eq_true]
  exact ⟨h.nm, ⟨h.d0, h.d1⟩, ⟨by have := h.hd.1; omega, fun c hc => (okC_iff c).mpr (h.hd.2 c hc)⟩, by have := h.lr; omega, h.rw'⟩
theorem join_nil' (y : Str) : Txt.join y [] = Str.empty := by rw [joinT_eq]; rfl
theorem mem_join {y : Str} {c : Nat} : ∀ {ps : List Str}, c ∈ (Txt.join y ps).cps.toList → c ∈ y.cps.toList ∨ ∃ p ∈ ps, c ∈ p.cps.toList
 | [], h => by rw [join_nil'] at h; cases h
 | [p], h => by rw [joinT_eq] at h; exact .inr ⟨p, List.mem_cons_self, h⟩
 | p :: q :: r, h => by
  have ih := mem_join (y := y) (c := c) (ps := q :: r)
  rw [joinT_eq] at h ih
  have h : c ∈ (p ++ y ++ Str.join y (q :: r)).cps.toList := h
  rw [codes_app, codes_app, List.mem_append, List.mem_append] at h
  rcases h with (h | h) | h
  ·exact .inr ⟨p, List.mem_cons_self, h⟩
  ·exact .inl h
  ·rcases ih h with h | ⟨z, h1, h2⟩
   ·exact .inl h
   ·exact .inr ⟨z, List.mem_cons_of_mem _ h1, h2⟩
theorem rowT_no {row : List Str} (h : ∀ z ∈ row, nameB z = true) : ∀ c ∈ (rowT row).cps.toList, c ≠ 32 ∧ c ≠ 10 ∧ 32 ≤ c ∧ c ≤ 126 := by
 intro c hc
 unfold rowT at hc
 split at hc
 ·rw [show (Str.ofString "-").cps.toList = [45] by decide +kernel] at hc
  simp at hc
  omega
 ·rcases mem_join hc with hc | ⟨z, hz, hc⟩
  ·rw [cm_codes] at hc
   simp at hc
   omega
  ·have := nameB_no (h z hz) c hc
   omega
theorem split_join_self (z y : Str) : Txt.join y (Txt.split z y) = z := by rw [joinT_eq]; exact StrLaws.join_split z y
theorem split_ne' (z y : Str) : ∃ a r, Txt.split z y = a :: r := by
 cases e : Txt.split z y with
 | nil => exact absurd e (split_ne z y)
 | cons a r => exact ⟨a, r, rfl⟩
theorem ltT_split {n h : Str} {d : Int} {row : List Str} (hn : nameB n = true) (h0 : 0 ≤ d) (hr : ∀ z ∈ row, nameB z = true) : Txt.split (ltT n d h row) BL = n :: Str.ofString (toString d) :: rowT row :: Txt.split h BL := by
 unfold ltT
 have e : n ++ Str.ofString " " ++ Str.ofString (toString d) ++ Str.ofString " " ++ rowT row ++ Str.ofString " " ++ h = n ++ BL ++ (Str.ofString (toString d) ++ BL ++ (rowT row ++ BL ++ h)) := by simp only [app_assoc]
 rw [e]
 rw [split_consS bl_codes bl_low (fun hc => (nameB_no hn 32 hc).1 rfl)]
 rw [split_consS bl_codes bl_low (fun hc => by have := (day_digits h0).1 32 hc; omega)]
 rw [split_consS bl_codes bl_low (fun hc => (rowT_no hr 32 hc).1 rfl)]
theorem rowP_T {row : List Str} (h : ∀ z ∈ row, nameB z = true) : rowP (rowT row) = row := by
 unfold rowP rowT
 cases row with
 | nil => rfl
 | cons a r =>
  rw [if_neg (show ¬ (a :: r).isEmpty = true by simp), split_joinS cm_codes cm_low (by simp) fun p hp hc => (nameB_no (h p hp) 44 hc).2.1 rfl]
  refine if_neg fun e => ?_
  have ha := nameB_len (h a List.mem_cons_self)
  have e2 := congrArg (fun z : Str => z.cps.toList) e
  rw [show (DSH).cps.toList = [45] by decide +kernel] at e2
  have hm : 45 ∈ (Txt.join (Str.ofString ",") (a :: r)).cps.toList := by rw [e2]; simp
  rcases mem_join hm with hc | ⟨z, hz, hc⟩
  ·rw [cm_codes] at hc; simp at hc
  ·exact (nameB_no (h z hz) 45 hc).2.2.2.1 rfl
theorem letP_T {x : Lt} (o : x.ok = true) : letP x.T = some x := by
 have h := (x.ok_iff).mp o
 unfold letP Lt.T
 rw [ltT_split h.nm h.d0 h.rw']
 obtain ⟨a, r, e⟩ := split_ne' x.h BL
 have ej := split_join_self x.h BL
 rw [e] at ej ⊢
 unfold letW
 simp only [numP_day h.d0 h.d1, rowP_T h.rw', ej]
 exact if_pos o
theorem ltT_signs {x : Lt} (h : x.Ok) : ∀ c ∈ x.T.cps.toList, 32 ≤ c ∧ c ≤ 126 := by
 intro c hc
 unfold Lt.T ltT at hc
 simp only [codes_app, List.mem_append, bl_codes, List.mem_singleton] at hc
 rcases hc with (((((hc | hc) | hc) | hc) | hc) | hc) | hc
 ·have := nameB_no h.nm c hc; omega
 ·omega
 ·have := (day_digits h.d0).1 c hc; omega
 ·omega
 ·have := rowT_no h.rw' c hc; omega
 ·omega
 ·exact h.hd.2 c hc
theorem lw_no : ∀ w ∈ LW, ∀ c ∈ w.cps.toList, 32 < c ∧ c ≤ 126 := by decide +kernel
theorem nw_no : ∀ w ∈ NW, ∀ c ∈ w.cps.toList, 32 < c ∧ c ≤ 126 := by decide +kernel
theorem jw_no : ∀ c ∈ JW.cps.toList, 32 < c ∧ c ≤ 126 := by decide +kernel
theorem ks_no : ∀ w ∈ KS, ∀ c ∈ w.cps.toList, 44 < c ∧ c ≤ 126 := by decide +kernel
theorem jw_lw : LW.contains JW = false := by decide +kernel
theorem wsOk_no {l : List Str} (h : wsOk l = true) : l ≠ [] ∧ l.length ≤ 3 ∧ (∀ p ∈ l, ∀ c ∈ p.cps.toList, 32 < c ∧ c ≤ 126) ∧ LW.contains (l.headD Str.empty) = false := by
 match l, h with
 | [a, b], h =>
  have h : (if LW.contains a = true then false else NW.contains a && nameB b) = true := h
  cases e : LW.contains a with
  | true => rw [if_pos e] at h; cases h
  | false =>
   rw [if_neg (by rw [e]; exact Bool.false_ne_true), Bool.and_eq_true] at h
   refine ⟨by simp, by simp, fun p hp c hc => ?_, e⟩
   simp only [List.mem_cons, List.mem_nil_iff, or_false] at hp
   rcases hp with rfl | rfl
   ·exact nw_no p (List.contains_iff_mem.mp h.1) c hc
   ·have := nameB_no h.2 c hc; omega
 | [a, b, c], h =>
  have h : (decide (a = JW) && (nameB b && (nameB c && !decide (b = c)))) = true := h
  simp only [Bool.and_eq_true, decide_eq_true_eq] at h
  refine ⟨by simp, by simp, fun p hp d hd => ?_, by rw [h.1]; exact jw_lw⟩
  simp only [List.mem_cons, List.mem_nil_iff, or_false] at hp
  rcases hp with rfl | rfl | rfl
  ·rw [h.1] at hd; exact jw_no d hd
  ·have := nameB_no h.2.1 d hd; omega
  ·have := nameB_no h.2.2.1 d hd; omega
theorem dedP_T {x : Dd} (o : x.ok = true) : dedP x.T = some x := by
 unfold dedP
 cases x with
 | lt w x =>
  have o : (LW.contains w && x.ok) = true := o
  rw [Bool.and_eq_true] at o
  show dedW (Txt.split (w ++ BL ++ x.T) BL) = _
  rw [split_consS bl_codes bl_low fun hc => by have := lw_no w (List.contains_iff_mem.mp o.1) 32 hc; omega]
  obtain ⟨a, r, e⟩ := split_ne' x.T BL
  have ej := split_join_self x.T BL
  unfold dedW
  simp only [ej, letP_T o.2]
  rw [if_pos o.1]
 | ws l =>
  have o : wsOk l = true := o
  obtain ⟨h1, h2, h3, h4⟩ := wsOk_no o
  show dedW (Txt.split (Txt.join BL l) BL) = _
  rw [split_joinS bl_codes bl_low h1 fun p hp hc => by have := h3 p hp 32 hc; omega]
  cases l with
  | nil => exact absurd rfl h1
  | cons w r =>
   have h4 : LW.contains w = false := h4
   unfold dedW
   simp only [h4, o]
   rfl
theorem ddT_signs {x : Dd} (o : x.ok = true) : ∀ c ∈ x.T.cps.toList, 32 ≤ c ∧ c ≤ 126 := by
 intro c hc
 cases x with
 | lt w x =>
  have o : (LW.contains w && x.ok) = true := o
  rw [Bool.and_eq_true] at o
  have hc : c ∈ (w ++ BL ++ x.T).cps.toList := hc
  simp only [codes_app, List.mem_append, bl_codes, List.mem_singleton] at hc
  rcases hc with (hc | hc) | hc
  ·have := lw_no w (List.contains_iff_mem.mp o.1) c hc; omega
  ·omega
  ·exact ltT_signs ((x.ok_iff).mp o.2) c hc
 | ws l =>
  obtain ⟨h1, h2, h3, h4⟩ := wsOk_no (show wsOk l = true from o)
  rcases mem_join (show c ∈ (Txt.join BL l).cps.toList from hc) with h | ⟨p, hp, h⟩
  ·rw [bl_codes] at h; simp at h; omega
  ·have := h3 p hp c h; omega
theorem slice2 {a b : Str} (h : a.length = 2) : Txt.slice (a ++ b) none (some 2) = a ∧ Txt.slice (a ++ b) (some 2) none = b := by
 have e : a ++ b = S (a.cps.toList ++ b.cps.toList) := by rw [← S_app, S_self, S_self]
 have hl : a.cps.toList.length = 2 := by rw [← h]; simp [Str.length]
 rw [e]
 constructor
 ·rw [show (some (2 : Int)) = some ((2 : Nat) : Int) from rfl, sl_to, List.take_left' hl, S_self]
 ·rw [show (some (2 : Int)) = some ((2 : Nat) : Int) from rfl, sl_from, List.drop_left' hl, S_self]
theorem entP_T {e : Dd × Bool} (o : e.1.ok = true) : entP (entT e) = some e := by
 obtain ⟨d, b⟩ := e
 have hp : PL.length = 2 := by decide +kernel
 have hm : MN.length = 2 := by decide +kernel
 have hne : ¬ MN = PL := by decide +kernel
 unfold entP entT
 cases b with
 | true =>
  rw [if_pos rfl, (slice2 hp).1, (slice2 hp).2]
  simp only [dedP_T o]
  rw [if_pos (by decide +kernel)]
  rfl
 | false =>
  rw [if_neg Bool.false_ne_true, (slice2 hm).1, (slice2 hm).2]
  simp only [dedP_T o]
  rw [if_pos (by decide +kernel), decide_eq_false hne]
theorem entT_signs {e : Dd × Bool} (o : e.1.ok = true) : ∀ c ∈ (entT e).cps.toList, 32 ≤ c ∧ c ≤ 126 := by
  intro c hc
  unfold entT at hc
  rw [codes_app, List.mem_append] at hc
  rcases hc with hc | hc
  · revert hc
    cases e.2
    · exact fun hc => by have h : ∀ c ∈ (Str.ofString "- ").cps.toList, 32 ≤ c ∧ c ≤ 126 := by decide +kernel
                         exact h c hc
    · exact fun hc => by have h : ∀ c ∈ (Str.ofString "+ ").cps.toList, 32 ≤ c ∧ c ≤ 126 := by decide +kernel
                         exact h c hc
  · exact ddT_signs o c hc
noncomputable def rlT (r : List Str) : Str := Txt.join BL r
theorem ruleOk_no {r : List Str} (h : ruleOk r = true) : ∃ a b, r = [a, b] ∧ KS.contains a = true ∧ wordB b = true ∧ (∀ c ∈ a.cps.toList, 44 < c ∧ c ≤ 126) ∧ ∀ c ∈ b.cps.toList, 44 < c ∧ c ≤ 126 := by
 match r, h with
 | [a, b], h =>
  have h : (KS.contains a && wordB b) = true := h
  rw [Bool.and_eq_true] at h
  refine ⟨a, b, rfl, h.1, h.2, fun c hc => ks_no a (List.contains_iff_mem.mp h.1) c hc, fun c hc => ?_⟩
  have h2 := h.2
  unfold wordB at h2
  rw [Bool.and_eq_true, List.all_eq_true] at h2
  have : ∀ c ∈ ABZ.cps.toList, 44 < c ∧ c ≤ 126 := by decide +kernel
  exact this c ((inW_iff c).mp (h2.2 c hc))
theorem rlT_no {r : List Str} (h : ruleOk r = true) : 44 ∉ (rlT r).cps.toList := by
 obtain ⟨a, b, rfl, _, _, h1, h2⟩ := ruleOk_no h
 intro hc
 rcases mem_join hc with hd | ⟨p, hp, hd⟩
 ·rw [bl_codes] at hd; simp at hd
 ·simp only [List.mem_cons, List.mem_nil_iff, or_false] at hp
  rcases hp with rfl | rfl
  ·have := h1 44 hd; omega
  ·have := h2 44 hd; omega
theorem rlT_split {r : List Str} (h : ruleOk r = true) : Txt.split (rlT r) BL = r := by
 obtain ⟨a, b, rfl, _, _, h1, h2⟩ := ruleOk_no h
 refine split_joinS bl_codes bl_low (by simp) fun p hp hc => ?_
 simp only [List.mem_cons, List.mem_nil_iff, or_false] at hp
 rcases hp with rfl | rfl
 ·have := h1 32 hc; omega
 ·have := h2 32 hc; omega
theorem em_eq : Str.ofString "" = Str.empty := by decide +kernel
theorem rulP_T {rs : List (List Str)} (o : rulesOk rs = true) : rulP (Txt.join CB (rs.map rlT)) = some rs := by
 have h : ∀ r ∈ rs, ruleOk r = true := by
  unfold rulesOk at o
  rw [Bool.and_eq_true, List.all_eq_true] at o
  exact o.2
 unfold rulP
 cases rs with
 | nil =>
  rw [List.map_nil, join_nil', if_pos em_eq.symm]
 | cons r rs =>
  have e : Txt.split (Txt.join CB ((r :: rs).map rlT)) CB = (r :: rs).map rlT := split_joinS cb_codes cb_low (by simp) fun p hp => by
   obtain ⟨q, hq, rfl⟩ := List.mem_map.mp hp
   exact rlT_no (h q hq)
  have e2 : ((r :: rs).map rlT).map (fun p => Txt.split p BL) = r :: rs := by
   rw [List.map_map]
   conv => rhs; rw [← List.map_id (r :: rs)]
   exact List.map_congr_left fun q hq => rlT_split (h q hq)
  rw [e, e2, if_pos o, if_neg]
  intro z
  have z2 := congrArg (fun w : Str => Txt.split w CB) z
  rw [e] at z2
  have : Txt.split (Str.ofString "") CB = [Str.ofString ""] := split_oneS cb_codes cb_low (by decide +kernel)
  rw [this] at z2
  obtain ⟨a, b, rfl, _, _, h1, h2⟩ := ruleOk_no (h r List.mem_cons_self)
  have z3 : rlT [a, b] = Str.ofString "" := by
   have := congrArg List.head? z2
   simpa using this
  have hm : 32 ∈ (rlT [a, b]).cps.toList := by
   unfold rlT
   rw [joinT_eq]
   show 32 ∈ (a ++ BL ++ b).cps.toList
   simp [codes_app, bl_codes]
  rw [z3] at hm
  revert hm
  decide +kernel
end My
namespace L2
open PySem PySem.Spec PyProof.Rows
section
variable {P : Program} {w : World} {B : Around} {FE : Value → Shared → Prop} {s : Shared}
theorem zt_item {z p q r t m n : Addr} {i j : Nat} {us vs : Array Value} {u v a b : Value} {R : Value → Shared → Prop} (D : ZipApart z p q r t m n)
  (gz : IsZip s.heap z p q .none) (gp : IsPair s.heap p (.ref r) (.ref t)) (gq : IsPair s.heap q a b)
  (g1 : s.heap.IsTupleIter r m i) (g2 : s.heap.IsTupleIter t n j) (gm : s.heap.IsTuple m us) (gn : s.heap.IsTuple n vs) (eu : us[i]? = some u) (ev : vs[j]? = some v)
  (k : ∀ h', IsZip h' z p q (rawInt s.heap.objs.size) → IsPair h' q u v → h'.IsTupleIter r m (i + 1) → h'.IsTupleIter t n (j + 1) → IsPair h' s.heap.objs.size u v → h'.objs.size = s.heap.objs.size + 1 →
   (∀ c o, c ≠ z → c ≠ q → c ≠ r → c ≠ t → s.heap.get? c = some o → h'.get? c = some o) → R (.ref s.heap.objs.size) { s with heap := h' }) :
  wpAny (model P w) B (Builtin.«zip.__next__» ⟨[.ref z], []⟩) (fun fin s' => ∃ v, fin = .done (.ret v) ∧ R v s') FE s := by
 show wpAny _ _ (field (.ref z) 2 >>= _) _ _ _
 refine wpAny_bind (wpAny_field gz rfl (x := .bool false) rfl ?_)
 show wpAny _ _ (field (.ref z) 3 >>= _) _ _ _
 refine wpAny_bind (wpAny_field gz rfl (x := .ref p) rfl ?_)
 refine wpAny_bind (wpAny_seqItems gp rfl ?_)
 show wpAny _ _ (Builtin.SmallTypes.ownedTupleIsFree (.ref z) >>= _) _ _ _
 refine wpAny_bind ?_
 unfold Builtin.SmallTypes.ownedTupleIsFree
 refine wpAny_bind (wpAny_field gz rfl (x := .none) rfl (wpAny_pure ?_))
 simp only [if_true]
 refine wpAny_bind (wpAny_rule ?_)
 refine wpAny_bind (wpAny_field gz rfl (x := .ref q) rfl ?_)
 refine wpAny_bind (wpAny_setField_rec gz (by simp) fun h1 z1 s1 => ?_)
 replace z1 : IsZip h1 z p q .ellipsis := z1
 refine wpAny_bind ?_
 simp only [List.zipIdx_cons, List.zipIdx_nil, List.forIn_cons, List.forIn_nil]
 refine wpAny_bind (wpAny_bind (wpAny_onRaise ?_))
 show wpAny _ _ (Builtin.SmallTypes.nextOf (.ref r) >>= _) _ _ _
 refine wpAny_bind (ours_nextOf_tuple_item (g1.extBut s1.extBut D.i1z) (gm.extBut s1.extBut D.l1z) eu fun h2 y2 s2 => wpAny_pure ?_)
 have q2 : IsPair h2 q a b := s2.extBut _ _ D.TOi1 (s1.extBut _ _ D.TOz gq)
 refine wpAny_bind (wpAny_seqItems q2 rfl ?_)
 refine wpAny_bind (wpAny_updateSeq_pair q2 fun h3 q3 s3 => ?_)
 replace q3 : IsPair h3 q u b := q3
 refine wpAny_bind (wpAny_letGo (wpAny_pure ?_))
 refine wpAny_bind (wpAny_bind (wpAny_onRaise ?_))
 show wpAny _ _ (Builtin.SmallTypes.nextOf (.ref t) >>= _) _ _ _
 refine wpAny_bind (ours_nextOf_tuple_item (((g2.extBut s1.extBut D.i2z).extBut s2.extBut D.i12.symm).extBut s3.extBut D.TOi2.symm)
  (((gn.extBut s1.extBut D.l2z).extBut s2.extBut D.l2i1).extBut s3.extBut D.l2TO) ev fun h4 y4 s4 => wpAny_pure ?_)
 have q4 : IsPair h4 q u b := s4.extBut _ _ D.TOi2 q3
 refine wpAny_bind (wpAny_seqItems q4 rfl ?_)
 refine wpAny_bind (wpAny_updateSeq_pair q4 fun h5 q5 s5 => ?_)
 replace q5 : IsPair h5 q u v := q5
 refine wpAny_bind (wpAny_letGo (wpAny_pure (wpAny_pure ?_)))
 refine wpAny_bind (wpAny_seqItems q5 rfl ?_)
 refine wpAny_bind (wpAny_newTuple ?_)
 have esz : h5.objs.size = s.heap.objs.size := by rw [s5.1, s4.1, s3.1, s2.1, s1.1]
 have z5 : IsZip h5 z p q .ellipsis := s5.extBut _ _ D.TOz.symm (s4.extBut _ _ D.i2z.symm (s3.extBut _ _ D.TOz.symm (s2.extBut _ _ D.i1z.symm z1)))
 have k5 : ∀ c o, c ≠ z → c ≠ q → c ≠ r → c ≠ t → s.heap.get? c = some o → h5.get? c = some o := fun c o c1 c2 c3 c4 e =>
  s5.extBut _ _ c2 (s4.extBut _ _ c4 (s3.extBut _ _ c2 (s2.extBut _ _ c3 (s1.extBut _ _ c1 e))))
 have i5 : h5.IsTupleIter r m (i + 1) := ((y2.extBut s3.extBut D.TOi1.symm).extBut s4.extBut D.i12).extBut s5.extBut D.TOi1.symm
 have j5 : h5.IsTupleIter t n (j + 1) := y4.extBut s5.extBut D.TOi2.symm
 have zlt : z < h5.objs.size := Heap.lt_size z5
 show wpAny _ _ (Builtin.SmallTypes.ownedTupleHandOut (.ref z) (.ref h5.objs.size) >>= _) _ _ _
 refine wpAny_bind ?_
 unfold Builtin.SmallTypes.ownedTupleHandOut
 have z6 : IsZip (h5.push { cls := .type "tuple", data := .seq #[u, v] }) z p q .ellipsis := Heap.get?_push_of_some _ z5
 refine wpAny_bind (wpAny_setField_rec z6 (by simp) fun h7 z7 s7 => ?_)
 replace z7 : IsZip h7 z p q (rawInt h5.objs.size) := z7
 refine wpAny_setField_rec z7 (by simp) fun h8 z8 s8 => ?_
 replace z8 : IsZip h8 z p q (rawInt h5.objs.size) := z8
 have up : ∀ c o, c ≠ z → h5.get? c = some o → h8.get? c = some o := fun c o c1 e => s8.extBut _ _ c1 (s7.extBut _ _ c1 (Heap.get?_push_of_some _ e))
 have t8 : IsPair h8 h5.objs.size u v := s8.extBut _ _ (Nat.ne_of_gt zlt) (s7.extBut _ _ (Nat.ne_of_gt zlt) (Heap.get?_push_size _ rfl))
 have e8 : h8.objs.size = h5.objs.size + 1 := by rw [s8.1, s7.1, Heap.size_push]
 rw [esz] at z8 t8 e8
 refine wpAny_pure ⟨_, rfl, ?_⟩
 show R (.ref h5.objs.size) _
 rw [esz]
 exact k h8 z8 (up _ _ D.TOz q5) (i5.at fun o e => up _ o D.i1z e) (j5.at fun o e => up _ o D.i2z e) t8 e8 fun c o c1 c2 c3 c4 e => up c o c1 (k5 c o c1 c2 c3 c4 e)
theorem zt_end {z p q r t m n : Addr} {i j : Nat} {us vs : Array Value} {a b : Value} {R : Fin → Shared → Prop} (hh : B.handled = none) (D : ZipApart z p q r t m n)
  (gz : IsZip s.heap z p q .none) (gp : IsPair s.heap p (.ref r) (.ref t)) (gq : IsPair s.heap q a b)
  (g1 : s.heap.IsTupleIter r m i) (gm : s.heap.IsTuple m us) (eu : us[i]? = none)
  (k : ∀ h' e, (∀ c o, c ≠ z → c ≠ q → c ≠ r → c ≠ t → s.heap.get? c = some o → h'.get? c = some o) → (∃ o, h'.get? e = some o ∧ o.cls = .type "StopIteration") → FE (.ref e) { s with heap := h' }) :
  wpAny (model P w) B (Builtin.«zip.__next__» ⟨[.ref z], []⟩) R FE s := by
 show wpAny _ _ (field (.ref z) 2 >>= _) _ _ _
 refine wpAny_bind (wpAny_field gz rfl (x := .bool false) rfl ?_)
 show wpAny _ _ (field (.ref z) 3 >>= _) _ _ _
 refine wpAny_bind (wpAny_field gz rfl (x := .ref p) rfl ?_)
 refine wpAny_bind (wpAny_seqItems gp rfl ?_)
 show wpAny _ _ (Builtin.SmallTypes.ownedTupleIsFree (.ref z) >>= _) _ _ _
 refine wpAny_bind ?_
 unfold Builtin.SmallTypes.ownedTupleIsFree
 refine wpAny_bind (wpAny_field gz rfl (x := .none) rfl (wpAny_pure ?_))
 simp only [if_true]
 refine wpAny_bind (wpAny_rule ?_)
 refine wpAny_bind (wpAny_field gz rfl (x := .ref q) rfl ?_)
 refine wpAny_bind (wpAny_setField_rec gz (by simp) fun h1 z1 s1 => ?_)
 replace z1 : IsZip h1 z p q .ellipsis := z1
 refine wpAny_bind ?_
 simp only [List.zipIdx_cons, List.zipIdx_nil, List.forIn_cons, List.forIn_nil]
 refine wpAny_bind (wpAny_bind (wpAny_onRaise ?_))
 show wpAny _ _ (Builtin.SmallTypes.nextOf (.ref r) >>= _) _ _ _
 refine wpAny_bind (ours_nextOf_tuple_end hh (g1.extBut s1.extBut D.i1z) (gm.extBut s1.extBut D.l1z) eu fun h2 e s2 he => ?_)
 obtain ⟨oe, g, ce⟩ := he
 have z2 : IsZip h2 z p q .ellipsis := s2 _ _ D.i1z.symm z1
 have ez : e ≠ z := fun x => by subst x; rw [z2] at g; cases g; simp at ce
 refine wpAny_setField_rec z2 (by simp) fun h3 _ s3 => k h3 e (fun c o c1 _ c3 _ x => s3.extBut _ _ c1 (s2 _ _ c3 (s1.extBut _ _ c1 x))) ⟨oe, s3.extBut _ _ ez g, ce⟩
theorem zt_next {z p q r t m n : Addr} {i j : Nat} {us vs : Array Value} {u v a b : Value} {R : Option Value → Shared → Prop} (D : ZipApart z p q r t m n)
  (gz : IsZip s.heap z p q .none) (gp : IsPair s.heap p (.ref r) (.ref t)) (gq : IsPair s.heap q a b)
  (g1 : s.heap.IsTupleIter r m i) (g2 : s.heap.IsTupleIter t n j) (gm : s.heap.IsTuple m us) (gn : s.heap.IsTuple n vs) (eu : us[i]? = some u) (ev : vs[j]? = some v)
  (k : ∀ h', IsZip h' z p q (rawInt s.heap.objs.size) → IsPair h' q u v → h'.IsTupleIter r m (i + 1) → h'.IsTupleIter t n (j + 1) → IsPair h' s.heap.objs.size u v → h'.objs.size = s.heap.objs.size + 1 →
   (∀ c o, c ≠ z → c ≠ q → c ≠ r → c ≠ t → s.heap.get? c = some o → h'.get? c = some o) → R (some (.ref s.heap.objs.size)) { s with heap := h' }) :
  wpAny (model P w) B (pyNext (.ref z)) R FE s := by
 have T : s.TypeIs (.ref z) "zip" := ⟨_, gz, rfl⟩
 unfold pyNext
 exact wpAny_bind (wpAny_attempt (wpAny_callSpecial?_slot (name := Str.ofString "__next__") T F.slot_zip_next
  (wpAny_call_entry F.slot_zip_next T F.entry_zip_next
   (zt_item D gz gp gq g1 g2 gm gn eu ev fun h' a1 a2 a3 a4 a5 a6 a7 => wpAny_pure (k h' a1 a2 a3 a4 a5 a6 a7)) (F.args_zip_next_1 _))))
theorem zt_stop {z p q r t m n : Addr} {i j : Nat} {us vs : Array Value} {a b : Value} {R : Option Value → Shared → Prop} (hh : B.handled = none) (D : ZipApart z p q r t m n)
  (gz : IsZip s.heap z p q .none) (gp : IsPair s.heap p (.ref r) (.ref t)) (gq : IsPair s.heap q a b)
  (g1 : s.heap.IsTupleIter r m i) (gm : s.heap.IsTuple m us) (eu : us[i]? = none)
  (k : ∀ h', (∀ c o, c ≠ z → c ≠ q → c ≠ r → c ≠ t → s.heap.get? c = some o → h'.get? c = some o) → R none { s with heap := h' }) : wpAny (model P w) B (pyNext (.ref z)) R FE s := by
 have T : s.TypeIs (.ref z) "zip" := ⟨_, gz, rfl⟩
 unfold pyNext
 refine wpAny_bind (wpAny_attempt (wpAny_callSpecial?_slot (name := Str.ofString "__next__") T F.slot_zip_next
  (wpAny_call_entry F.slot_zip_next T F.entry_zip_next (zt_end (j := j) (n := n) (vs := vs) hh D gz gp gq g1 gm eu fun h' e hk he => ?_) (F.args_zip_next_1 _))))
 obtain ⟨o, ho, hc⟩ := he
 refine wpAny_bind (wpAny_isInstance (T := "StopIteration") (b := true) ⟨o, ho, hc⟩ isSubtype_stop ?_)
 exact wpAny_pure (k _ hk)
end
theorem zt_new (m n : Addr) (us vs : Array Value) :
  Meets (Builtin.«zip.__new__» ⟨[.type "zip", .ref m, .ref n], []⟩) (fun _ R s => s.heap.IsTuple m us ∧ s.heap.IsTuple n vs ∧
   ∀ h', IsZip h' (s.heap.objs.size + 4) (s.heap.objs.size + 2) (s.heap.objs.size + 3) .none → IsPair h' (s.heap.objs.size + 2) (.ref s.heap.objs.size) (.ref (s.heap.objs.size + 1)) →
    IsPair h' (s.heap.objs.size + 3) .none .none → h'.IsTupleIter s.heap.objs.size m 0 → h'.IsTupleIter (s.heap.objs.size + 1) n 0 →
    (∀ c o, s.heap.get? c = some o → h'.get? c = some o) → R (.ok (.ret (.ref (s.heap.objs.size + 4)))) { s with heap := h' }) :=
 .of_wp fun prog w A R s h => by
  obtain ⟨hp, g, d, tk, os⟩ := s; obtain ⟨gm, gn, h⟩ := h
  have hsub := sub_zip
  have L1 : Heap.IsTuple (Shared.heap ⟨hp, g, d, tk, os⟩) m us := gm
  have L2 : Heap.IsTuple (Shared.heap ⟨hp.push { cls := .type "tuple_iterator", data := .fields #[.ref m, .int 0 0] }, g, d, tk, os⟩) n vs := let ⟨o, e, r⟩ := gn; ⟨o, Heap.get?_push_of_some _ e, r⟩
  dsimp only at h
  let h1 := hp.push { cls := .type "tuple_iterator", data := .fields #[.ref m, .int 0 0] }
  let h2 := h1.push { cls := .type "tuple_iterator", data := .fields #[.ref n, .int 0 0] }
  let h3 := h2.push { cls := .type "tuple", data := .seq #[.ref hp.objs.size, .ref h1.objs.size] }
  let h4 := h3.push { cls := .type "tuple", data := .seq #[.none, .none] }
  let h5 := h4.push { cls := .type "zip", data := .fields #[.none, .bool false, .bool false, .ref h2.objs.size, .ref h3.objs.size] }
  have z1 : h1.objs.size = hp.objs.size + 1 := Heap.size_push ..
  have z2 : h2.objs.size = hp.objs.size + 2 := by rw [Heap.size_push, z1]
  have z3 : h3.objs.size = hp.objs.size + 3 := by rw [Heap.size_push, z2]
  have z4 : h4.objs.size = hp.objs.size + 4 := by rw [Heap.size_push, z3]
  have a1 : h1.get? hp.objs.size = some _ := Heap.get?_push_size _ rfl
  have a2 : h2.get? h1.objs.size = some _ := Heap.get?_push_size _ rfl
  have a3 : h3.get? h2.objs.size = some _ := Heap.get?_push_size _ rfl
  have a4 : h4.get? h3.objs.size = some _ := Heap.get?_push_size _ rfl
  have a5 : h5.get? h4.objs.size = some _ := Heap.get?_push_size _ rfl
  have u1 : ∀ c o, hp.get? c = some o → h1.get? c = some o := fun c o e => Heap.get?_push_of_some _ e
  have u2 : ∀ c o, h1.get? c = some o → h2.get? c = some o := fun c o e => Heap.get?_push_of_some _ e
  have u3 : ∀ c o, h2.get? c = some o → h3.get? c = some o := fun c o e => Heap.get?_push_of_some _ e
  have u4 : ∀ c o, h3.get? c = some o → h4.get? c = some o := fun c o e => Heap.get?_push_of_some _ e
  have u5 : ∀ c o, h4.get? c = some o → h5.get? c = some o := fun c o e => Heap.get?_push_of_some _ e
  rw [z1] at a2 a3
  rw [z2] at a3 a5
  rw [z3] at a4 a5
  have fin : R (.ok (.ret (.ref h4.objs.size))) ⟨h5, g, d, tk, os⟩ := by
   rw [z4] at a5 ⊢
   exact h h5 a5 (u5 _ _ (u4 _ _ a3)) (u5 _ _ a4) ⟨_, u5 _ _ (u4 _ _ (u3 _ _ (u2 _ _ a1))), rfl, rfl⟩ ⟨_, u5 _ _ (u4 _ _ (u3 _ _ a2)), rfl, rfl⟩ fun c o e => u5 _ _ (u4 _ _ (u3 _ _ (u2 _ _ (u1 _ _ e))))
  wp_walk using wpAny_pyIter_tuple L1, wpAny_pyIter_tuple L2
  exact ⟨_, rfl, fin⟩
section
variable {P : Program} {w : World} {B : Around} {FE : Value → Shared → Prop} {s : Shared}
theorem zt_call {m n : Addr} {us vs : Array Value} {R : Value → Shared → Prop} (gm : s.heap.IsTuple m us) (gn : s.heap.IsTuple n vs)
  (h : ∀ h', IsZip h' (s.heap.objs.size + 4) (s.heap.objs.size + 2) (s.heap.objs.size + 3) .none → IsPair h' (s.heap.objs.size + 2) (.ref s.heap.objs.size) (.ref (s.heap.objs.size + 1)) →
   IsPair h' (s.heap.objs.size + 3) .none .none → h'.IsTupleIter s.heap.objs.size m 0 → h'.IsTupleIter (s.heap.objs.size + 1) n 0 →
   (∀ c o, s.heap.get? c = some o → h'.get? c = some o) → R (.ref (s.heap.objs.size + 4)) { s with heap := h' }) :
  wpAny (model P w) B (call (.type "zip") [.ref m, .ref n]) R FE s := by
 refine callType_new F.called_zip (by decide) (F.typeCall_zip_2 _ _) (F.newCall_zip_2 _ _) (fun obj => F.args_object_init_3 obj _ _) F.entry_zip_new
  (zt_new m n us vs) ⟨gm, gn, fun h' a1 a2 a3 a4 a5 a6 => ?_⟩
 exact ⟨⟨_, a1, rfl⟩, h h' a1 a2 a3 a4 a5 a6⟩
end
noncomputable def ItzT (K : PySem.W.Frag) (a b : Addr) : It :=
  ⟨fun i H => ∃ xs ys x y, SqT K H a xs ∧ SqT K H b ys ∧ xs[i]? = some x ∧ ys[i]? = some y,
   fun i H v H' => ∃ t, H t = none ∧ v = .ref t ∧ ∀ xs ys, SqT K H a xs → SqT K H b ys → ∃ x y, xs[i]? = some x ∧ ys[i]? = some y ∧ H' = upd H t (.tup [x, y]),
   fun i H => ∃ xs, SqT K H a xs ∧ xs.length ≤ i⟩
theorem turn_zipT {P : Program} {w : World} {K : PySem.W.Frag} {elts : List Expr} {x1} {pos : Pos} (a b z p q r t : Addr) (nd : [z, p, q, r, t].Nodup) (na : a ≠ q) (nb : b ≠ q) :
  Turn P w K (.Tuple elts x1 pos) (ItzT K a b) [z, p, q, r, t] z (fun i h => IsZip h z p q .none ∧ IsPair h p (.ref r) (.ref t) ∧ (∃ u v, IsPair h q u v) ∧ h.IsTupleIter r a i ∧ h.IsTupleIter t b i) := by
 have nd' := nd
 simp only [List.nodup_cons, List.mem_cons, List.not_mem_nil, or_false, not_or, List.nodup_nil, not_false_eq_true, and_true] at nd'
 obtain ⟨⟨zp, zq, zr, zt⟩, ⟨pq, pr, pt⟩, ⟨qr, qt⟩, rt⟩ := nd'
 have apart : ∀ {s : Shared} {i : Nat} {ua ub : Array Value} {u v : Value}, IsZip s.heap z p q .none → s.heap.IsTupleIter r a i → s.heap.IsTupleIter t b i → s.heap.IsTuple a ua → s.heap.IsTuple b ub → ZipApart z p q r t a b := by
  intro s i ua ub u v hz ⟨o1, e1, c1, _⟩ ⟨o2, e2, c2, _⟩ ⟨oa, ea, ca, _⟩ ⟨ob, eb, cb, _⟩
  have key : ∀ (r : Addr) (o : Obj) (n : String) (l : Addr) (ol : Obj), s.heap.get? r = some o → o.cls = .type n → n ≠ "tuple" → s.heap.get? l = some ol → ol.cls = .type "tuple" → l ≠ r := fun r o n l ol hr cr hn hl cl zz => by
   subst zz
   rw [hr] at hl; cases hl
   rw [cr] at cl
   exact hn (Value.type.inj cl)
  exact ⟨Ne.symm zp, Ne.symm zq, Ne.symm zr, Ne.symm zt, pq, pr, pt, qr, qt, rt, key z _ _ a oa hz rfl (by decide) ea ca, na, key r _ _ a oa e1 c1 (by decide) ea ca, key t _ _ a oa e2 c2 (by decide) ea ca,
   key z _ _ b ob hz rfl (by decide) eb cb, nb, key r _ _ b ob e1 c1 (by decide) eb cb, key t _ _ b ob e2 c2 (by decide) eb cb⟩
 exact {
  mem := by simp
  obj := fun i h st c hb => by
   obtain ⟨hz, hp, ⟨u, v, hq⟩, ⟨o1, h1, _, e1⟩, ⟨o2, h2, _, e2⟩⟩ := st
   simp only [List.mem_cons, List.not_mem_nil, or_false] at hb
   rcases hb with r | r | r | r | r
   ·subst r; exact ⟨_, hz, fun v z => by cases z⟩
   ·subst r; exact ⟨_, hp, fun v z => by cases z⟩
   ·subst r; exact ⟨_, hq, fun v z => by cases z⟩
   ·subst r; exact ⟨o1, h1, fun v z => by rw [e1] at z; cases z⟩
   ·subst r; exact ⟨o2, h2, fun v z => by rw [e2] at z; cases z⟩
  keep := fun i h h' st k => by
   obtain ⟨hz, hp, ⟨u, v, hq⟩, h1, h2⟩ := st
   exact ⟨k z (by simp) _ hz, k p (by simp) _ hp, ⟨u, v, k q (by simp) _ hq⟩, h1.at fun o e => k r (by simp) o e, h2.at fun o e => k t (by simp) o e⟩
  item := by
   intro X hP hw hK hc i pins s σ H E I hf st hg
   subst hP hw hK
   obtain ⟨xs, ys, x, y, hqa, hqb, hx, hy⟩ := hg
   obtain ⟨ia, rva, pa, _⟩ := I.tuple hqa
   obtain ⟨ib, rvb, pb, _⟩ := I.tuple hqb
   obtain ⟨u, hu, ru⟩ := rva.get hx
   obtain ⟨v, hv, rv⟩ := rvb.get hy
   obtain ⟨hz, hp, ⟨c1, c2, hq⟩, h1, h2⟩ := st
   have D := apart (u := u) (v := v) hz h1 h2 pa pb
   have lt : ∀ (r : Addr) (o : Obj), s.heap.get? r = some o → s.heap.objs.size ≠ r := fun r o e zz => by
    have := Heap.lt_size e; rw [← zz] at this; exact Nat.lt_irrefl _ this
   have n0 : s.heap.objs.size ∉ [z, p, q, r, t] := by
    simp only [List.mem_cons, List.not_mem_nil, or_false, not_or]
    exact ⟨lt z _ hz, lt p _ hp, lt q _ hq, let ⟨o, e, _⟩ := h1; lt r o e, let ⟨o, e, _⟩ := h2; lt t o e⟩
   refine zt_next D hz hp hq h1 h2 pa pb (u := u) (v := v) (by simpa using hu) (by simpa using hv) fun h' hz' hq' h1' h2' hT hsz hk => ?_
   refine ⟨_, rfl, wpAny_letOwnedTupleGo_zip (s := { s with heap := h' }) hz' fun hh2 hz2 sb => ?_⟩
   have hk2 : ∀ c o, c ∉ [z, p, q, r, t] → s.heap.get? c = some o → hh2.get? c = some o := fun c o hb e => by
    simp only [List.mem_cons, List.not_mem_nil, or_false, not_or] at hb
    exact sb.extBut c o hb.1 (hk c o hb.1 hb.2.2.1 hb.2.2.2.1 hb.2.2.2.2 e)
   have hfr : H s.heap.objs.size = none := I.hok.fresh (Nat.le_refl _)
   have hT2 : hh2.get? s.heap.objs.size = some { cls := .type "tuple", data := .seq #[u, v] } := sb.extBut _ _ (lt z _ hz) hT
   have hp2 : IsPair hh2 p (.ref r) (.ref t) := sb.extBut _ _ (Ne.symm zp) (hk p _ (Ne.symm zp) pq pr pt hp)
   have hq2 : IsPair hh2 q u v := sb.extBut _ _ (Ne.symm zq) hq'
   have h12 := h1'.extBut sb.extBut (Ne.symm zr)
   have h22 := h2'.extBut sb.extBut (Ne.symm zt)
   have I2 : Inv X pins σ (upd H s.heap.objs.size (.tup [x, y])) { s with heap := hh2, toks := s.toks } := by
    refine I.un2 hk2 hf hfr n0 ⟨by show 2 ≤ sizeLine; decide, [u, v], .cons ru (.cons rv .nil), TupP.of hT2⟩ (fun c hb o e => ?_)
    simp only [List.mem_cons, List.not_mem_nil, or_false] at hb
    rcases hb with g | g | g | g | g
    ·subst g; exact ⟨_, hz2⟩
    ·subst g; exact ⟨_, hp2⟩
    ·subst g; exact ⟨_, hq2⟩
    ·subst g; exact let ⟨o, e, _⟩ := h12; ⟨o, e⟩
    ·subst g; exact let ⟨o, e, _⟩ := h22; ⟨o, e⟩
   refine ⟨.ref s.heap.objs.size, _, I2, rfl, ⟨s.heap.objs.size, hfr, rfl, fun xs' ys' hx' hy' => ⟨x, y, by rw [I.tuple_inj hx' hqa]; exact hx, by rw [I.tuple_inj hy' hqb]; exact hy, rfl⟩⟩, ⟨hz2, hp2, ⟨u, v, hq2⟩, h12, h22⟩, fun c hb => ?_⟩
   rw [upd_ne fun zz => n0 (by rw [← zz]; exact hb)]
   exact (hf c hb).1
  done := by
   intro X hP hw hK hc i pins s σ H E I hf st hg
   subst hP hw hK
   obtain ⟨xs, hqa, hend⟩ := hg
   obtain ⟨ia, rva, pa, _⟩ := I.tuple hqa
   obtain ⟨hz, hp, ⟨c1, c2, hq⟩, h1, h2⟩ := st
   have l1 := rva.length
   obtain ⟨o1, e1, cc1, _⟩ := id h1
   obtain ⟨o2, e2, cc2, _⟩ := id h2
   obtain ⟨oa, ea, ca, _⟩ := id pa
   have key : ∀ (r : Addr) (o : Obj) (n : String) (l : Addr) (ol : Obj), s.heap.get? r = some o → o.cls = .type n → n ≠ "tuple" → s.heap.get? l = some ol → ol.cls = .type "tuple" → l ≠ r := fun r o n l ol hr cr hn hl cl zz => by
    subst zz
    rw [hr] at hl; cases hl
    rw [cr] at cl
    exact hn (Value.type.inj cl)
   have D : ZipApart z p q r t a a := ⟨Ne.symm zp, Ne.symm zq, Ne.symm zr, Ne.symm zt, pq, pr, pt, qr, qt, rt, key z _ _ a oa hz rfl (by decide) ea ca, na, key r _ _ a oa e1 cc1 (by decide) ea ca, key t _ _ a oa e2 cc2 (by decide) ea ca,
    key z _ _ a oa hz rfl (by decide) ea ca, na, key r _ _ a oa e1 cc1 (by decide) ea ca, key t _ _ a oa e2 cc2 (by decide) ea ca⟩
   refine zt_stop (j := 0) (vs := #[]) (I.ok.hd hc) D hz hp hq h1 pa (by simp; omega) fun h' hk => ⟨rfl, I.turnedL (t' := s.toks) (fun c o hb e => ?_) hf⟩
   simp only [List.mem_cons, List.not_mem_nil, or_false, not_or] at hb
   exact hk c o hb.1 hb.2.2.1 hb.2.2.2.1 hb.2.2.2.2 e
  self := fun _ _ _ _ _ st h => wpAny_pyIter_zip st.1 h }
section
variable {X : Cx} {elts : List Expr} {x1 : Nat} {tpos : Pos}
noncomputable def iZipT (K : PySem.W.Frag) (ta : TA) : TI := fun σ H R => ta σ H fun vs H1 => ∃ a b xs ys, vs = [.ref a, .ref b] ∧ SqT K H1 a xs ∧ SqT K H1 b ys ∧ R (ItzT K a b) H1
theorem pi_zpT (K : PySem.W.Frag) {a b : Expr} {ta : TA} {p pos : Pos} (hg : Gl X "zip") (hm : X.mg "zip" = none) (ha : PA X [a, b] ta) (hK : X.K = K := by rfl) (hs : starEach [a, b] X.env = [(false, eval a X.env), (false, eval b X.env)] := by rfl) (hs2 : starEach [b] X.env = [(false, eval b X.env)] := by rfl) :
  PI X (.Tuple elts x1 tpos) (.Call (.Name "zip" p) [a, b] [] pos) (iZipT K ta) := by
 subst hK
 intro pins s σ H R I h
 refine Call_ (ld_blt I hg hm bt_zip (PyProof.Rows.callWith_type1 (thn (ha pos pins s σ H _ I h) fun us s1 ⟨vs, H1, I1, r1, q1⟩ => ?_) (by rw [hs, hs2]) (by rw [hs2]; rfl)))
 obtain ⟨l1, l2, xs, ys, e, hqa, hqb, q⟩ := q1
 subst e
 obtain ⟨u, v, rfl, rx, ry⟩ := vals2 r1
 cases rx
 cases ry
 obtain ⟨ia, rva, pa, _⟩ := I1.tuple hqa
 obtain ⟨ib, rvb, pb, _⟩ := I1.tuple hqb
 have lta : l1 < s1.heap.objs.size := let ⟨_, e, _⟩ := pa; Heap.lt_size e
 have ltb : l2 < s1.heap.objs.size := let ⟨_, e, _⟩ := pb; Heap.lt_size e
 refine zt_call pa pb fun h' hz hp hq h1 h2 hk => ?_
 have I2 : Inv X pins σ H1 { s1 with heap := h' } := I1.kept (t' := s1.toks) hk
 refine wpAny_pyIter_zip (s := { s1 with heap := h' }) hz ?_
 refine ⟨s1.heap.objs.size + 4, [s1.heap.objs.size + 4, s1.heap.objs.size + 2, s1.heap.objs.size + 3, s1.heap.objs.size, s1.heap.objs.size + 1], _, _, H1, rfl, I2, turn_zipT l1 l2 _ _ _ _ _ (by simp) (Nat.ne_of_lt (Nat.lt_of_lt_of_le lta (Nat.le_add_right _ 3))) (Nat.ne_of_lt (Nat.lt_of_lt_of_le ltb (Nat.le_add_right _ 3))), ⟨hz, hp, ⟨_, _, hq⟩, h1, h2⟩, fun c hb => ?_, q⟩
 have hc : s1.heap.objs.size ≤ c := by
  simp only [List.mem_cons, List.not_mem_nil, or_false] at hb
  rcases hb with r | r | r | r | r <;> (rw [r]; first | exact Nat.le_refl _ | exact Nat.le_add_right _ _)
 exact I1.fpOk hc (I1.hok.fresh hc)
end
section
variable {k : Nat} {cap : List Nat} {g : TG} {tt : TT} {te : TE} {σ : St} {H : Hp} {Q : VK} {l : Addr}
theorem comp_zipT {K : PySem.W.Frag} {a b : Addr} {xs ys : List V} (hA : SqT K H a xs) (hB : SqT K H b ys) (hxy : xs.length = ys.length) (f : Nat → V) (Good : St → Prop) (h0 : Good (capSt k cap σ)) (hl : H l = none) (hlen : xs.length < sizeLine)
  (ht : ∀ (i : Nat) x y t σ H1 zs (N : St → Hp → Prop), xs[i]? = some x → ys[i]? = some y → Good σ → Same H H1 → H1 t = none → (upd H1 t (.tup [x, y])) l = some (.lst zs) → zs.length < sizeLine → t ≠ l →
   (∀ σ' H3, Good σ' → But l (upd H1 t (.tup [x, y])) H3 → H3 l = some (.lst (zs ++ [f i])) → N σ' H3) → turnOf g tt te l (.ref t) σ (upd H1 t (.tup [x, y])) N)
  (hd : ∀ H', Same H H' → H' l = some (.lst ((List.range xs.length).map f)) → Q (.ref l) H') : GoalW (ItzT K a b) g tt te l (capSt k cap σ) (upd H l (.lst [])) Q := by
 refine comp_grow (ItzT K a b) xs.length (fun _ => true) f Good h0 hl hlen (fun H' s => ⟨xs, hA.same s, Nat.le_refl _⟩) (fun i H' hi s => ⟨xs, ys, xs[i], ys[i]'(by omega), hA.same s, hB.same s, by simp [hi], by simp⟩) (fun i v σ H1 H2 zs N hi gd s e hz y hN => ?_)
  (fun H' s e => hd H' s (by rw [e, List.filter_eq_self.mpr fun _ _ => rfl]))
 obtain ⟨t, ht0, rfl, hq⟩ := y
 obtain ⟨x, y, hx, hy, rfl⟩ := hq xs ys (hA.same s) (hB.same s)
 have tl : t ≠ l := fun z => by rw [z, e] at ht0; cases ht0
 refine ht i x y t σ H1 zs N hx hy gd s ht0 (by rw [upd_ne (Ne.symm tl)]; exact e) hz tl fun σ' H3 g3 b e3 => hN σ' H3 g3 (fun c o h1 h2 => b c o (Same.upd ht0 c o h1) h2) ?_
 rw [e3, if_pos rfl]
end
end L2
namespace L2
open PySem PySem.Spec PyProof.Rows
section
variable {P : Program} {w : World} {B : Around} {FE : Value → Shared → Prop}
theorem ul_draw {it l : Addr} {us : Array Value} (ne : l ≠ it) : ∀ (n i : Nat) (s : Shared) (R : List Value → Shared → Prop), s.heap.IsListIter it l i → s.heap.IsList l us → i + n ≤ us.size →
  (∀ h', h'.IsListIter it l (i + n) → Heap.SameBut it s.heap h' → R ((us.toList.drop i).take n) { s with heap := h' }) → wpAny (model P w) B (draw (.ref it) n) R FE s
 | 0, i, s, R, g, _, _, k => by
  show wpAny _ _ (pure []) R FE s
  exact wpAny_pure (by simpa using k s.heap g (Heap.SameBut.refl ..))
 | n + 1, i, s, R, g, gl, le, k => by
  have lt : i < us.size := by omega
  show wpAny _ _ (pyNext (.ref it) >>= _) R FE s
  refine wpAny_bind (wpAny_pyNext_list_item g gl (x := us[i]) (by simp [lt]) fun h1 g1 s1 => ?_)
  refine wpAny_bind (wpAny_holding (ul_draw ne n (i + 1) _ _ g1 (gl.extBut s1.extBut ne) (by omega) fun h2 g2 s2 => wpAny_pure ?_))
  have e : us.toList.drop i = us[i] :: us.toList.drop (i + 1) := by simp [List.drop_eq_getElem_cons, lt]
  have z := k h2 (by rw [show i + (n + 1) = i + 1 + n by omega]; exact g2) (s1.trans s2)
  rw [e, List.take_succ_cons] at z
  exact z
theorem ul_items {s : Shared} {l : Addr} {us : Array Value} {R : List Value → Shared → Prop} (hh : B.handled = none) (gl : s.heap.IsList l us)
  (k : ∀ h', Heap.ExtBut s.heap.objs.size s.heap h' → R us.toList { s with heap := h' }) : wpAny (model P w) B (unpackItems (.ref l) us.size none) R FE s := by
 have ne : l ≠ s.heap.objs.size := by obtain ⟨o, ho, _⟩ := gl; exact Nat.ne_of_lt (Heap.lt_size ho)
 unfold unpackItems
 refine wpAny_bind ?_
 ·unfold notIterableAtAll
  refine wpAny_bind (wpAny_specialOf gl.typeIs slot_list_iter.lookup ?_)
  refine wpAny_pure ?_
  simp only [Bool.false_eq_true, if_false]
  refine wpAny_bind (wpAny_holding (wpAny_pyIter_list gl ?_))
  refine wpAny_bind (wpAny_holding (ul_draw ne us.size 0 _ _ ⟨_, Heap.get?_push_size _ rfl, rfl, rfl⟩ (gl.push _) (by omega) fun h1 g1 s1 => ?_))
  have all : List.take us.size (List.drop 0 us.toList) = us.toList := by
   rw [List.drop_zero]; exact List.take_of_length_le (by simp)
  rw [all]
  rw [if_neg (by simp)]
  have gl1 : h1.IsList l us := (gl.push _).extBut s1.extBut ne
  refine wpAny_bind (wpAny_holding (wpAny_pyNext_list_end hh g1 gl1 (by simp) fun h2 e2 => ?_))
  simp only [Option.isSome_none, Bool.false_eq_true, if_false]
  exact wpAny_pure (k h2 fun b o hb e => e2 b o hb (s1.extBut b o hb (Heap.get?_push_of_some _ e)))
theorem ul_assign {s : Shared} {env : Env} {elts : List Expr} {x1} {pos : Pos} {l : Addr} {us : Array Value} {R : Unit → Shared → Prop} (hh : B.handled = none) (gl : s.heap.IsList l us)
  (hn : (assignEach elts env).length = us.size) (hst : (assignEach elts env).findIdx? (·.1) = none)
  (k : ∀ h', Heap.ExtBut s.heap.objs.size s.heap h' → wpAny (model P w) B (assignInOrder ((assignEach elts env).map (·.2)) us.toList) R FE { s with heap := h' }) :
  wpAny (model P w) B (assign (.Tuple elts x1 pos) env (.ref l)) R FE s := by
 rw [arm_assign_Tuple]
 refine wpAny_bind (wpAny_standAt ?_)
 unfold unpack
 rw [hn, hst]
 exact wpAny_bind (wpAny_holding (ul_items hh gl k))
end
section
variable {X : Cx} {pos : Pos}
noncomputable def gLst (K : PySem.W.Frag) (n : Nat) (t : TGs) : TG := fun v σ H Q => ∃ a xs, v = .ref a ∧ SqL K H a xs ∧ xs.length = n ∧ t xs σ H Q
theorem pg_lstK (K : PySem.W.Frag) {es : List Expr} {k : Nat} {t : TGs} {n : Nat} (hc : X.calm = true) (h : PGs X es t) (hK : X.K = K := by rfl)
  (hn : (assignEach es X.env).length = n := by rfl) (hst : (assignEach es X.env).findIdx? (·.1) = none := by rfl) : PG X (.Tuple es k pos) (gLst K n t) := by
 subst hK
 intro pins s σ H v u Q I r hw
 obtain ⟨a, xs, e1, hq, hl, hw⟩ := hw
 subst e1
 cases r
 obtain ⟨its, rv, pl, hz⟩ := I.list hq
 refine ul_assign (I.ok.hd hc) pl.isList (by simp [hn, ← hl, rv.length]) hst fun h' hx => ?_
 have I1 : Inv X pins σ H { s with heap := h' } := I.kept (t' := s.toks) fun b o e => hx b o (Nat.ne_of_lt (Heap.lt_size e)) e
 exact h pins _ σ H xs _ Q I1 (by simpa using rv) hw
end
section
variable {k : Nat} {cap : List Nat} {g : TG} {tt : TT} {te : TE} {σ : St} {H : Hp} {Q : VK} {l : Addr}
theorem comp_enumL {K : PySem.W.Frag} {a : Addr} {xs : List V} (hS : SqL K H a xs) (R : Hp → Nat → V → Prop) (Good : St → Prop) (h0 : Good (capSt k cap σ)) (hl : H l = none) (hlen : xs.length < sizeLine)
  (m : ∀ H1 H2 i v, KpT H1 H2 → R H1 i v → R H2 i v)
  (ht : ∀ (i : Nat) x t σ H1 ys (N : St → Hp → Prop), xs[i]? = some x → Good σ → Same H H1 → H1 t = none → (upd H1 t (.tup [.int i, x])) l = some (.lst ys) → ys.length < sizeLine →
   (∀ σ' v H2, Good σ' → Same (upd H1 t (.tup [.int i, x])) H2 → R H2 i v → N σ' (upd H2 l (.lst (ys ++ [v])))) → turnOf g tt te l (.ref t) σ (upd H1 t (.tup [.int i, x])) N)
  (hd : ∀ H' ys, Same H H' → ys.length = xs.length → (∀ i v, ys[i]? = some v → R H' i v) → H' l = some (.lst ys) → Q (.ref l) H') : GoalW (IteL K a) g tt te l (capSt k cap σ) (upd H l (.lst [])) Q := by
 refine comp_gen (IteL K a) xs.length (fun i σ' H' => i ≤ xs.length ∧ Good σ' ∧ Same H H' ∧ ∃ ys, ys.length = i ∧ (∀ j v, ys[j]? = some v → R H' j v) ∧ H' l = some (.lst ys)) ⟨Nat.zero_le _, h0, Same.upd hl, [], rfl, (fun _ _ h => by simp at h), upd_same⟩
  (fun σ' H' ⟨_, _, s, _⟩ => ⟨xs, hS.same s, rfl⟩) (fun i σ' H' hi ⟨_, _, s, _⟩ => ⟨xs, xs[i], hS.same s, by simp [hi]⟩) (fun i σ' H' v H'' hi ⟨_, gd, s, ys, yl, yr, e⟩ y => ?_) (fun σ' H' ⟨_, _, s, ys, yl, yr, e⟩ => hd H' ys s yl yr e)
 obtain ⟨t, ht0, rfl, hy⟩ := y
 obtain ⟨x, hx, rfl⟩ := hy xs (hS.same s)
 have tl : l ≠ t := fun z => by rw [← z, e] at ht0; cases ht0
 refine ht i x t σ' H' ys _ hx gd s ht0 (by rw [upd_ne tl]; exact e) (by omega) fun σ2 v H2 g2 s2 r => ?_
 have el2 := s2 l _ (by rw [upd_ne tl]; exact e)
 have k2 := KpT.upd (ys := ys ++ [v]) el2
 have sA : Same H' H2 := (Same.upd ht0).trans s2
 refine ⟨hi, g2, fun b o hb => ?_, ys ++ [v], by rw [List.length_append, yl]; rfl, fun j u hj => ?_, upd_same⟩
 ·rw [upd_ne (ne_of_none hb hl)]
  exact sA b o (s b o hb)
 ·by_cases hji : j < ys.length
  ·rw [List.getElem?_append_left hji] at hj
   exact m _ _ _ _ (sA.kt.trans k2) (yr j u hj)
  ·rw [List.getElem?_append_right (by omega)] at hj
   have : j - ys.length = 0 := by
    have := (List.getElem?_eq_some_iff.mp hj).1
    simp at this
    omega
   rw [this] at hj
   have ej : j = i := by omega
   cases hj
   rw [ej]
   exact m _ _ _ _ k2 r
end
end L2
namespace My
open PySem L2 Mr
theorem kpt_of {H H' : Hp} (k : Kp H H') : KpT H H' := fun _ _ e => k.tup e
noncomputable def rNotT (K : PySem.W.Frag) : R2 := fun x y H Q => ∃ a ys ps p, y = .ref a ∧ H a = some (.lst ys) ∧ TrL H ps ys ∧ Tr H p x ∧ okP 8 p = true ∧ ps.all (okP 8) = true ∧ Q (.bl (!ps.any fun z => eqP z p)) H
theorem notinT {X : Cx} {k : Nat} (K : PySem.W.Frag) (hr : Room k X.A) (hK : X.K = K := by rfl) : OpR X (compareOp .NotIn) (rNotT K) := by
 intro pins s σ H x y v u Q I rx ry ⟨a, ys, ps, p, e, h, t1, t2, o1, o2, q⟩
 subst e
 exact notInPX K hr hK pins s σ H x _ v u Q I rx ry ⟨p, .lst ps, ps, Red.rep t2.rep, Red.rep (.lst (.inl h) (fun z => z) t1.rep), rfl, o1, o2, q⟩
noncomputable abbrev AB5 : Str := Str.ofString "abz09"
noncomputable abbrev EM : Str := Str.ofString ""
theorem ab5_abc : ∀ c ∈ AB5.cps.toList, c ∈ ABC.cps.toList := by decide +kernel
theorem em_codes : EM.cps.toList = [] := by decide +kernel
structure Nm (H : Hp) (p g l : Addr) (zs : List Str) : Prop where
 el : H l = some (.lst (zs.map V.str))
 np : l ≠ p
 ng : l ≠ g
 lo : 1 ≤ zs.length
 hi : zs.length ≤ 6
 nm : ∀ z ∈ zs, nameB z = true
theorem Nm.fr {H H' : Hp} {p g l : Addr} {zs : List Str} (h : Nm H p g l zs) (f : Fr p g H H') : Nm H' p g l zs := ⟨f _ _ h.el h.np h.ng, h.np, h.ng, h.lo, h.hi, h.nm⟩
theorem Nm.upd {H : Hp} {p g l m : Addr} {o : HO} {zs : List Str} (h : Nm H p g l zs) (n : H m = none) : Nm (upd H m o) p g l zs := h.fr (Fr.of (Same.upd n))
noncomputable def spName : Sp := fun vs H Q _ => ∃ p g : Addr, vs = [.ref p] ∧ Pur H p g ∧ ∀ (x : Str) H', nameB x = true → Pur H' p g → Fr p g H H' → Q (.str x) H'
noncomputable def spNames : Sp := fun vs H Q _ => ∃ p g : Addr, vs = [.ref p, .int 6] ∧ Pur H p g ∧ ∀ (l : Addr) (zs : List Str) H', H l = none → Nm H' p g l zs → Pur H' p g → Fr p g H H' → Q (.ref l) H'
noncomputable def spDay : Sp := fun vs H Q _ => ∃ p g : Addr, vs = [.ref p] ∧ Pur H p g ∧ ∀ (d : Int) H', 0 ≤ d → d ≤ 99999999 → Pur H' p g → Fr p g H H' → Q (.int d) H'
noncomputable def headS (x : Str) : Prop := x.length = 1 ∧ ∀ c ∈ x.cps.toList, 32 ≤ c ∧ c ≤ 126
noncomputable def spSign : Sp := fun vs H Q _ => ∃ p g : Addr, vs = [.ref p] ∧ Pur H p g ∧ ∀ (x : Str) H', headS x → Pur H' p g → Fr p g H H' → Q (.str x) H'
structure LtV (H : Hp) (v : V) (x : Lt) : Prop where
 tr : Tr H x.P v
 ok : x.Ok
theorem LtV.kp {H H' : Hp} {v : V} {x : Lt} (h : LtV H v x) (k : KpT H H') : LtV H' v x := ⟨h.tr.kp k, h.ok⟩
structure DdV (H : Hp) (v : V) (x : Dd) : Prop where
 tr : Tr H x.P v
 ok : x.ok = true
theorem DdV.kp {H H' : Hp} {v : V} {x : Dd} (h : DdV H v x) (k : KpT H H') : DdV H' v x := ⟨h.tr.kp k, h.ok⟩
structure EtV (H : Hp) (v : V) (x : Dd × Bool) : Prop where
 tr : Tr H (entV x) v
 ok : x.1.ok = true
theorem EtV.kp {H H' : Hp} {v : V} {x : Dd × Bool} (h : EtV H v x) (k : KpT H H') : EtV H' v x := ⟨h.tr.kp k, h.ok⟩
noncomputable def rlP (r : List Str) : PV := .tup (r.map .str)
structure RlV (H : Hp) (v : V) (r : List Str) : Prop where
 tr : Tr H (rlP r) v
 ok : ruleOk r = true
theorem RlV.kp {H H' : Hp} {v : V} {x : List Str} (h : RlV H v x) (k : KpT H H') : RlV H' v x := ⟨h.tr.kp k, h.ok⟩
structure TpV {α : Type} (P : α → PV) (ok : α → Prop) (m : Nat) (H : Hp) (v : V) (xs : List α) : Prop where
 tr : Tr H (.tup (xs.map P)) v
 ok : ∀ x ∈ xs, ok x
 few : xs.length ≤ m
theorem TpV.kp {α : Type} {P : α → PV} {ok : α → Prop} {m : Nat} {H H' : Hp} {v : V} {xs : List α} (h : TpV P ok m H v xs) (k : KpT H H') : TpV P ok m H' v xs := ⟨h.tr.kp k, h.ok, h.few⟩
noncomputable abbrev LogV (H : Hp) (v : V) (xs : List (Dd × Bool)) : Prop := TpV entV (fun e => e.1.ok = true) 9 H v xs
noncomputable abbrev RlsV (H : Hp) (v : V) (xs : List (List Str)) : Prop := TpV rlP (fun r => ruleOk r = true) 6 H v xs
structure PkV (H : Hp) (v : V) (xs : List Lt) : Prop where
 tp : TpV Lt.P Lt.Ok 9 H v xs
 up : (xs.map Lt.P).Pairwise fun a b => ltP 3 a b = some true
theorem PkV.kp {H H' : Hp} {v : V} {xs : List Lt} (h : PkV H v xs) (k : KpT H H') : PkV H' v xs := ⟨h.tp.kp k, h.up⟩
noncomputable def spDraw {α : Type} (R : Hp → V → α → Prop) : Sp := fun vs H Q _ => ∃ (p g l : Addr) (zs : List Str), vs = [.ref p, .ref l] ∧ Pur H p g ∧ Nm H p g l zs ∧ ∀ (v : V) (x : α) H', R H' v x → Pur H' p g → Fr p g H H' → Q v H'
noncomputable def spRules : Sp := fun vs H Q _ => ∃ (p g : Addr), vs = [.ref p] ∧ Pur H p g ∧ ∀ (v : V) rs H', RlsV H' v rs → Pur H' p g → Fr p g H H' → Q v H'
noncomputable def spTx {α : Type} (R : Hp → V → α → Prop) (T : α → Str) : Sp := fun vs H Q _ => ∃ (v : V) (x : α), vs = [v] ∧ R H v x ∧ ∀ H', Same H H' → Q (.str (T x)) H'
noncomputable def packT (xs : List Lt) : Str := Txt.join NL (xs.map Lt.T)
noncomputable def rulesT (xs : List (List Str)) : Str := Txt.join CB (xs.map rlT)
noncomputable def logT (xs : List (Dd × Bool)) : Str := Txt.join NL (xs.map entT)
theorem trl_strs {H : Hp} : ∀ {row : List Str} {vs : List V}, TrL H (row.map PV.str) vs → vs = row.map V.str
 | [], _, .nil => rfl
 | x :: xs, _, .cons h r => by cases h; rw [trl_strs r]; rfl
theorem LtV.at' {H : Hp} {v : V} {x : Lt} (h : LtV H v x) : ∃ a r, v = .ref a ∧ H a = some (.tup [.str x.n, .int x.d, .str x.h, .ref r]) ∧ H r = some (.tup (x.row.map V.str)) := by
 obtain ⟨a, us, e, ha, hu⟩ := h.tr.tup'
 cases hu with
 | cons h1 hu => cases hu with
  | cons h2 hu => cases hu with
   | cons h3 hu => cases hu with
    | cons h4 hu =>
     cases hu
     cases h1; cases h2; cases h3
     obtain ⟨r, ws, e2, hr, hw⟩ := h4.tup'
     subst e2
     rw [trl_strs hw] at hr
     exact ⟨a, r, e, ha, hr⟩
theorem LtV.of {H : Hp} {a r : Addr} {x : Lt} (ha : H a = some (.tup [.str x.n, .int x.d, .str x.h, .ref r])) (hr : H r = some (.tup (x.row.map V.str))) (ok : x.Ok) : LtV H (.ref a) x :=
 ⟨.tup ha (.cons (.str _) (.cons (.int _) (.cons (.str _) (.cons (.tup hr TrL.strs) .nil)))), ok⟩
theorem s1 : BL.length = 1 := by decide +kernel
theorem s1c : CM.length = 1 := by decide +kernel
theorem s1d : DSH.length = 1 := by decide +kernel
theorem s1n : NL.length = 1 := by decide +kernel
theorem s2c : CB.length = 2 := by decide +kernel
theorem s0 : EM.length = 0 := by decide +kernel
theorem lenA (a b : Str) : (a ++ b).length = a.length + b.length := strLen_append a b
theorem sum_le {ys : List Str} {c : Nat} (h : ∀ y ∈ ys, y.length ≤ c) : (ys.map (·.length)).sum ≤ ys.length * c := by
 induction ys with
 | nil => simp
 | cons y ys ih =>
  have h1 := ih fun z hz => h z (List.mem_cons_of_mem _ hz)
  have h2 := h y List.mem_cons_self
  rw [List.map_cons, List.sum_cons, List.length_cons, Nat.succ_mul]
  omega
theorem join_le (z : Str) (ys : List Str) : (Txt.join z ys).length ≤ (ys.map (·.length)).sum + ys.length * z.length := by
 rw [joinT_eq]
 exact StrLaws.join_length_le z ys
theorem join_pos {z : Str} {ys : List Str} (h : ys ≠ []) (h1 : ∀ y ∈ ys, 1 ≤ y.length) : 1 ≤ (Txt.join z ys).length := by
 rw [joinT_eq]
 match ys, h, h1 with
 | [x], _, h1 => exact h1 x List.mem_cons_self
 | x :: y :: r, _, h1 =>
  show 1 ≤ (x ++ z ++ Str.join z (y :: r)).length
  rw [lenA, lenA]
  have := h1 x List.mem_cons_self
  omega
theorem row_le {row : List Str} (lr : row.length ≤ 9) (nm : ∀ z ∈ row, nameB z = true) : (row.map (·.length)).sum + row.length * (Str.ofString ",").length ≤ 117 := by
 have h := sum_le (c := 12) fun z hz => (nameB_len (nm z hz)).2
 rw [s1c]
 omega
theorem rowT_le {row : List Str} (lr : row.length ≤ 9) (nm : ∀ z ∈ row, nameB z = true) : (rowT row).length ≤ 117 := by
 unfold rowT
 split
 ·rw [s1d]; omega
 ·exact Nat.le_trans (join_le _ _) (row_le lr nm)
theorem day_le {d : Int} (d0 : 0 ≤ d) (d1 : d ≤ 99999999) : (Str.ofString (toString d)).length ≤ 9 := PyProof.Rows.toString_length_le d0 (by decide) (by omega)
theorem day_log {d : Int} (d0 : 0 ≤ d) (d1 : d ≤ 99999999) : d.natAbs.log2 < 1920 := by
 by_cases h : d.natAbs = 0
 ·rw [h]; decide
 ·refine Nat.lt_of_lt_of_le ((Nat.log2_lt h).mpr (show d.natAbs < 2 ^ 30 by omega)) (by decide)
theorem ltT_le {x : Lt} (o : x.Ok) : x.T.length ≤ 300 := by
 unfold Lt.T ltT
 rw [lenA, lenA, lenA, lenA, lenA, lenA, s1]
 have h1 := day_le o.d0 o.d1
 have h2 := rowT_le o.lr o.rw'
 have h3 := nameB_len o.nm
 have h4 := o.hd.1
 omega
theorem lw_len {w : Str} (h : LW.contains w = true) : w.length ≤ 4 := by
 rw [List.contains_iff_mem] at h
 simp only [LW, List.mem_cons, List.mem_nil_iff, or_false] at h
 rcases h with rfl | rfl <;> decide +kernel
theorem nw_len {w : Str} (h : NW.contains w = true) : w.length ≤ 12 := by
 rw [List.contains_iff_mem] at h
 simp only [NW, List.mem_cons, List.mem_nil_iff, or_false] at h
 rcases h with rfl | rfl | rfl | rfl <;> decide +kernel
theorem ks_len {w : Str} (h : KS.contains w = true) : w.length ≤ 12 := by
 rw [List.contains_iff_mem] at h
 simp only [KS, List.mem_cons, List.mem_nil_iff, or_false] at h
 rcases h with rfl | rfl | rfl <;> decide +kernel
theorem jw_len : JW.length ≤ 12 := by decide +kernel
theorem wsOk_len {l : List Str} (h : wsOk l = true) : l.length ≤ 3 ∧ ∀ p ∈ l, p.length ≤ 12 := by
 refine ⟨(wsOk_no h).2.1, ?_⟩
 match l, h with
 | [a, b], h =>
  have h : (if LW.contains a = true then false else NW.contains a && nameB b) = true := h
  cases e : LW.contains a with
  | true => rw [if_pos e] at h; cases h
  | false =>
   rw [if_neg (by rw [e]; exact Bool.false_ne_true), Bool.and_eq_true] at h
   intro p hp
   simp only [List.mem_cons, List.mem_nil_iff, or_false] at hp
   rcases hp with rfl | rfl
   ·exact nw_len h.1
   ·exact (nameB_len h.2).2
 | [a, b, c], h =>
  have h : (decide (a = JW) && (nameB b && (nameB c && !decide (b = c)))) = true := h
  simp only [Bool.and_eq_true, decide_eq_true_eq] at h
  intro p hp
  simp only [List.mem_cons, List.mem_nil_iff, or_false] at hp
  rcases hp with rfl | rfl | rfl
  ·rw [h.1]; exact jw_len
  ·exact (nameB_len h.2.1).2
  ·exact (nameB_len h.2.2.1).2
theorem ddT_le {x : Dd} (o : x.ok = true) : x.T.length ≤ 400 := by
 cases x with
 | lt w x =>
  have o : (LW.contains w && x.ok) = true := o
  rw [Bool.and_eq_true] at o
  show (w ++ BL ++ x.T).length ≤ _
  rw [lenA, lenA, s1]
  have h1 := lw_len o.1
  have h2 := ltT_le ((x.ok_iff).mp o.2)
  omega
 | ws l =>
  obtain ⟨h1, h2⟩ := wsOk_len (show wsOk l = true from o)
  have a := join_le BL l
  have b := sum_le h2
  show (Txt.join BL l).length ≤ _
  rw [s1] at a
  omega
theorem entT_le {e : Dd × Bool} (o : e.1.ok = true) : (entT e).length ≤ 402 := by
 unfold entT
 have h := ddT_le o
 have hp : (Str.ofString "+ ").length = 2 := by decide +kernel
 have hm : (Str.ofString "- ").length = 2 := by decide +kernel
 rw [lenA]
 split <;> omega
theorem rlT_le {r : List Str} (o : ruleOk r = true) : (rlT r).length ≤ 30 := by
 obtain ⟨a, b, rfl, h1, h2, _⟩ := ruleOk_no o
 have h1 := ks_len h1
 have h2 := (wordB_len h2).2
 have a' := join_le BL [a, b]
 unfold rlT
 rw [s1] at a'
 simp at a'
 omega
theorem rows_le {α : Type} {T : α → Str} {xs : List α} {c m : Nat} {z : Str} (h : ∀ x ∈ xs, (T x).length ≤ c) (hl : xs.length ≤ m) (hz : z.length ≤ 2) : ((xs.map T).map (·.length)).sum + (xs.map T).length * z.length ≤ m * (c + 2) := by
 have a := sum_le (ys := xs.map T) (c := c) fun y hy => by obtain ⟨x, hx, rfl⟩ := List.mem_map.mp hy; exact h x hx
 rw [List.length_map] at a ⊢
 have b : xs.length * z.length ≤ xs.length * 2 := Nat.mul_le_mul_left _ hz
 have c' : xs.length * (c + 2) ≤ m * (c + 2) := Nat.mul_le_mul_right _ hl
 rw [Nat.mul_add] at c'
 omega
theorem draw_Z {p g : Addr} {H : Hp} {l : Addr} {Z : Str} {k : Nat} {cap : List Nat} {σ : St} {QQ : VK} (n : Nat) (hσ : capSt k cap σ = [none, some (.str Z), some (.ref p)]) (hp : Pur H p g) (hl : H l = none) (hn : n ≤ 1000) (hm : 0 < Z.length) (hZ : Z.length ≤ 1000)
  (hQ : ∀ (zs : List Str) (H' : Hp), H' l = some (.lst (zs.map V.str)) → (∀ z ∈ zs, z.length = 1 ∧ ∀ c ∈ z.cps.toList, c ∈ Z.cps.toList) → zs.length = n → Pur H' p g → Fr p g H H' → QQ (.ref l) H') :
  GoalW (Itr 0 n) (gName 0) tTrue (tOp rIxS (tVar 1) (tCall spPick [] E0 (tCons (tVar 2) (tCons (tCB (fun xs H Q => ∃ z, xs = [.str z] ∧ z.length ≤ sizeLine ∧ Q (.int z.length) H) (tCons (tVar 1) tNil)) tNil)))) l (capSt k cap σ) (upd H l (.lst [])) QQ := by
 refine comp_drawP 0 n p g (fun _ v => ∃ x : Str, v = .str x ∧ x.length = 1 ∧ ∀ c ∈ x.cps.toList, c ∈ Z.cps.toList) (fun σ => ∃ o, σ = [o, some (V.str Z), some (.ref p)]) ⟨_, hσ⟩ hp hl (by omega) (fun _ _ _ _ h => h) ?_ ?_
 ·rintro i σ H4 xs N hi ⟨o, rfl⟩ hp4 hx hxl b4 hN
  unfold turnOf
  simp only [tPar, tAsg, tOp, tUn, tC, tVar, rI, rI0, rU, tCB, tCons, tNil, gName, tCall, tTrue, rIxS, cxOf_K, cxComp_K, List.getElem?_cons_zero, List.getElem?_cons_succ, List.set_cons_zero, List.set_cons_succ, Option.some.injEq, V.int.injEq, V.str.injEq, V.ref.injEq, List.cons.injEq, and_true, true_and, exists_eq_left, exists_eq_left', exists_eq_right, exists_and_left, exists_and_right, if_true, and_assoc, reduceCtorEq, false_and, exists_false]
  refine ⟨szl (by omega), p, g, _, rfl, hp4, by omega, by omega, fun d H5 d0 d1 hp5 b5 => ?_⟩
  obtain ⟨c, hcm, hc⟩ := atI_sign (z := Z) d0 d1
  exact ⟨_, rfl, szl (by omega), _, hc, hN _ _ _ ⟨_, rfl⟩ ⟨_, rfl, rfl, fun c' h' => by simp at h'; rw [h']; exact hcm⟩ hp5 b5⟩
 ·intro ys H4 hyl hR hy hp4 b4
  have back : ∀ {ys : List V}, (∀ y ∈ ys, ∃ x : Str, y = .str x ∧ x.length = 1 ∧ ∀ c ∈ x.cps.toList, c ∈ Z.cps.toList) → ∃ zs : List Str, ys = zs.map V.str ∧ (∀ z ∈ zs, z.length = 1 ∧ ∀ c ∈ z.cps.toList, c ∈ Z.cps.toList) := by
   intro ys
   induction ys with
   | nil => exact fun _ => ⟨[], rfl, fun _ h => nomatch h⟩
   | cons y ys ih =>
    intro h
    obtain ⟨zs, e, hz⟩ := ih fun z hz => h z (List.mem_cons_of_mem _ hz)
    obtain ⟨x, rfl, hx⟩ := h y List.mem_cons_self
    refine ⟨x :: zs, by rw [e]; rfl, fun z hz' => ?_⟩
    rcases List.mem_cons.mp hz' with r | r
    ·rw [r]; exact hx
    ·exact hz z r
  obtain ⟨zs, e, hz⟩ := back hR
  subst e
  rw [List.length_map] at hyl
  exact hQ zs H4 hy hz hyl hp4 b4
theorem strs_of' {Pr : Str → Prop} : ∀ {ys : List V}, (∀ y ∈ ys, ∃ x : Str, y = .str x ∧ Pr x) → ∃ zs : List Str, ys = zs.map V.str ∧ (∀ z ∈ zs, Pr z)
 | [], _ => ⟨[], rfl, fun _ h => nomatch h⟩
 | y :: ys, h => by
  obtain ⟨zs, e, hz⟩ := strs_of' (ys := ys) fun z hz => h z (List.mem_cons_of_mem _ hz)
  obtain ⟨x, rfl, hx⟩ := h y List.mem_cons_self
  refine ⟨x :: zs, by rw [e]; rfl, fun z hz' => ?_⟩
  rcases List.mem_cons.mp hz' with r | r
  ·rw [r]; exact hx
  ·exact hz z r
theorem name_join {Z : Str} {zs : List Str} (hZ : ∀ c ∈ Z.cps.toList, c ∈ ABC.cps.toList) (hz : ∀ z ∈ zs, z.length = 1 ∧ ∀ c ∈ z.cps.toList, c ∈ Z.cps.toList) (h0 : 1 ≤ zs.length) (h1 : zs.length ≤ 12) : nameB (Txt.join EM zs) = true := by
 refine nameB_of (join_pos (by intro z; rw [z] at h0; simp at h0) fun y hy => by rw [(hz y hy).1]; exact Nat.le_refl _) ?_ fun c hc => ?_
 ·have h := join_le EM zs
  rw [join_len fun y hy => (hz y hy).1, s0] at h
  omega
 ·rcases mem_join hc with h | ⟨q, hq, h⟩
  ·rw [em_codes] at h; cases h
  ·exact hZ c ((hz q hq).2 c h)
theorem pick_of {K : PySem.W.Frag} {p g : Addr} {H : Hp} {xs : List V} {m : Nat} {n : Int} {R : V → Hp → Prop} (hp : Pur H p g) (hm : xs.length = m) (hn : (m : Int) = n) (h0 : 0 < m) (hb : m ≤ 1000) (h : ∀ v H2, v ∈ xs → Pur H2 p g → Fr p g H H2 → R v H2) :
  m ≤ sizeLine ∧ ∀ l, H l = none → spPick [.ref p, .int n] (upd H l (.lst xs)) (fun y H2 => ∃ x x_1, y = .int x_1 ∧ SqL K H2 l x ∧ ∃ x_2, atI x x_1 = some x_2 ∧ R x_2 H2) E0 := by
 subst hm hn
 refine ⟨szl (by omega), fun l hl => ⟨p, g, _, rfl, hp.new hl, by omega, by omega, fun d H1 d0 d1 hp1 f1 => ?_⟩⟩
 have hl1 := f1 l _ upd_same (hp.nep hl).symm (hp.neg hl).symm
 obtain ⟨v, hv1, hv2⟩ := atI_mem d0 d1
 exact ⟨_, _, rfl, SqL.of hl1, _, hv2, h v H1 hv1 hp1 ((Fr.of (Same.upd hl)).trans f1)⟩
theorem pickL_of {K : PySem.W.Frag} {p g l : Addr} {H : Hp} {xs : List V} {R : V → Hp → Prop} (hp : Pur H p g) (hl : H l = some (.lst xs)) (np : l ≠ p) (ng : l ≠ g) (h0 : 0 < xs.length) (hb : xs.length ≤ 1000) (h : ∀ v H2, v ∈ xs → Pur H2 p g → Fr p g H H2 → R v H2) :
  ∃ x, SqL K H l x ∧ spPick [.ref p, .int x.length] H (fun y H2 => ∃ x x_1, y = .int x_1 ∧ SqL K H2 l x ∧ ∃ x_2, atI x x_1 = some x_2 ∧ R x_2 H2) E0 := by
 refine ⟨_, SqL.of hl, p, g, _, rfl, hp, by omega, by omega, fun d H1 d0 d1 hp1 f1 => ?_⟩
 obtain ⟨v, hv1, hv2⟩ := atI_mem d0 d1
 exact ⟨_, _, rfl, SqL.of (f1 _ _ hl np ng), _, hv2, h v H1 hv1 hp1 f1⟩
theorem name_of {K : PySem.W.Frag} {p g l : Addr} {H : Hp} {zs : List Str} {R : V → Hp → Prop} (hN : Nm H p g l zs) (hp : Pur H p g) (h : ∀ z H2, z ∈ zs → Pur H2 p g → Nm H2 p g l zs → Fr p g H H2 → R (.str z) H2) :
  ∃ x, SqL K H l x ∧ spPick [.ref p, .int x.length] H (fun y H2 => ∃ x x_1, y = .int x_1 ∧ SqL K H2 l x ∧ ∃ x_2, atI x x_1 = some x_2 ∧ R x_2 H2) E0 := by
 have h1 := hN.lo
 have h2 := hN.hi
 refine ⟨_, SqL.of hN.el, p, g, _, rfl, hp, by rw [List.length_map]; omega, by rw [List.length_map]; omega, fun d H1 d0 d1 hp1 f1 => ?_⟩
 obtain ⟨v, hv1, hv2⟩ := atI_mem d0 d1
 obtain ⟨z, hz, rfl⟩ := List.mem_map.mp hv1
 have hN1 := hN.fr f1
 exact ⟨_, _, rfl, SqL.of hN1.el, _, hv2, h z H1 hz hp1 hN1 f1⟩
theorem mul60 : IntMulOk (10 ^ Int.toNat 60) (10 ^ Int.toNat 60) := by unfold IntMulOk; decide +kernel
theorem eqLV_nilr {xs : List V} : eqLV xs [] = xs.isEmpty := by cases xs <;> rfl
theorem flat_ints {ns : List Int} : (ns.map V.int).all flatV = true := by simp [List.all_map, flatV]
theorem ix0 {n : Nat} : ixN (n + 1) 0 = some 0 := by unfold ixN; simp
theorem seq0 {n : Nat} : seqIndex? 0 (n + 1) = some 0 := by unfold seqIndex?; simp
theorem cut_ints {ns : List Int} {lo hi : Option Int} : ∃ ms : List Int, cutV (ns.map V.int) lo hi = ms.map V.int ∧ ms.length ≤ ns.length := by
 unfold cutV
 rw [List.length_map]
 refine ⟨_, by rw [← List.map_drop, ← List.map_take], ?_⟩
 rw [List.length_take, List.length_drop]
 omega
theorem strAt {row : List Str} {i : Nat} {x : V} (h : (row.map V.str)[i]? = some x) : ∃ n, row[i]? = some n ∧ x = .str n := by
 rw [List.getElem?_map] at h
 cases e : row[i]? with
 | none => rw [e] at h; cases h
 | some n => rw [e] at h; exact ⟨n, rfl, (Option.some.inj h).symm⟩
theorem slice11 {x : Str} (h : nameB x = true) : (Txt.slice x none (some 11)).length ≤ 11 ∧ ∀ c ∈ (Txt.slice x none (some 11)).cps.toList, c ∈ ABC.cps.toList := by
 have e : Txt.slice x none (some 11) = S (x.cps.toList.take 11) := by
  have := sl_to x.cps.toList 11
  rw [S_self] at this
  exact this
 rw [e]
 refine ⟨by rw [S_len, List.length_take]; omega, fun c hc => ?_⟩
 unfold nameB at h
 rw [Bool.and_eq_true, List.all_eq_true] at h
 have hc' : c ∈ x.cps.toList.take 11 := by simpa [S] using hc
 exact (inS_iff c).mp (h.2 c (List.mem_of_mem_take hc'))
theorem lP_ok {x : Lt} : plP 3 x.P = true ∧ okP 8 x.P = true := by
 have h : ∀ n, plP (n + 2) x.P = true := fun n => by
  show ([PV.str x.n, PV.int x.d, PV.str x.h, PV.tup (x.row.map PV.str)]).all (plP (n + 1)) = true
  have hr : plP (n + 1) (PV.tup (x.row.map PV.str)) = true := List.all_eq_true.mpr fun p hp => by obtain ⟨z, _, rfl⟩ := List.mem_map.mp hp; cases n <;> rfl
  simp only [List.all_cons, List.all_nil, hr, Bool.and_true]
  rfl
 exact ⟨h 1, plP_ok (h 6)⟩
theorem lex_strs_some (n : Nat) : ∀ xs ys : List Str, (lexP (ltP n) (xs.map PV.str) (ys.map PV.str)).isSome = true
 | [], [] => rfl
 | [], _ :: _ => rfl
 | _ :: _, [] => rfl
 | x :: xs, y :: ys => by
  rw [List.map_cons, List.map_cons]
  unfold lexP
  split
  ·exact lex_strs_some n xs ys
  ·cases n <;> rfl
theorem lP_lt (l k : Lt) : (ltP 3 l.P k.P).isSome = true := by
 show (lexP (ltP 2) [PV.str l.n, PV.int l.d, PV.str l.h, PV.tup (l.row.map PV.str)] [PV.str k.n, PV.int k.d, PV.str k.h, PV.tup (k.row.map PV.str)]).isSome = true
 unfold lexP
 split
 ·unfold lexP
  split
  ·unfold lexP
   split
   ·unfold lexP
    split
    ·rfl
    ·exact lex_strs_some 1 _ _
   ·rfl
  ·rfl
 ·rfl
theorem lets_cmp (ls : List Lt) : cmpAll 3 (ls.map Lt.P) = true := List.all_eq_true.mpr fun p hp => by
 obtain ⟨l, _, rfl⟩ := List.mem_map.mp hp
 rw [Bool.and_eq_true]
 refine ⟨lP_ok.1, List.all_eq_true.mpr fun q hq => ?_⟩
 obtain ⟨k, _, rfl⟩ := List.mem_map.mp hq
 exact lP_lt l k
theorem lets_perm : ∀ {ps : List PV} {ls : List Lt}, ps.Perm (ls.map Lt.P) → ∃ ks : List Lt, ks.Perm ls ∧ ps = ks.map Lt.P
 | [], ls, h => by have := h.nil_eq; rw [List.eq_nil_of_map_eq_nil this.symm]; exact ⟨[], .refl _, rfl⟩
 | p :: ps, ls, h => by
  obtain ⟨a, l, b, e⟩ : ∃ a l b, ls = a ++ l :: b ∧ l.P = p := by
   obtain ⟨l, hl, e⟩ := List.mem_map.mp (h.mem_iff.mp List.mem_cons_self)
   obtain ⟨a, b, e2⟩ := List.append_of_mem hl
   exact ⟨a, l, b, e2, e⟩
  obtain ⟨e, rfl⟩ := e
  have hp : ls.Perm (l :: (a ++ b)) := by rw [e]; exact List.perm_middle
  obtain ⟨ks, k1, k2⟩ := lets_perm (ps := ps) (ls := a ++ b) ((h.trans (hp.map _)).cons_inv)
  exact ⟨l :: ks, (k1.cons l).trans hp.symm, by rw [k2]; rfl⟩
theorem sorted_lets {ls : List Lt} (nd : (ls.map Lt.P).Nodup) : ∃ ks : List Lt, ks.Perm ls ∧ sortT 3 (ls.map Lt.P) = ks.map Lt.P ∧ (ks.map Lt.P).Pairwise fun a b => ltP 3 a b = some true := by
 obtain ⟨ks, k1, k2⟩ := lets_perm (sortT_perm 3 (ls.map Lt.P))
 refine ⟨ks, k1, k2, ?_⟩
 have cm := lets_cmp ks
 have s := sortT_sorted 3 (ls.map Lt.P)
 rw [k2] at s
 have nd2 : (ks.map Lt.P).Nodup := ((k1.map _).nodup_iff).mpr nd
 have key : ∀ {ps : List PV}, (∀ p ∈ ps, p ∈ ks.map Lt.P) → ps.Pairwise (fun a b => leC 3 a b = true) → ps.Nodup → ps.Pairwise fun a b => ltP 3 a b = some true := by
  intro ps
  induction ps with
  | nil => exact fun _ _ _ => .nil
  | cons p ps ih =>
   intro hm hs hn
   have hs := List.pairwise_cons.mp hs
   have hn := List.nodup_cons.mp hn
   refine List.pairwise_cons.mpr ⟨fun q hq => ?_, ih (fun z hz => hm z (List.mem_cons_of_mem _ hz)) hs.2 hn.2⟩
   have hp := hm p List.mem_cons_self
   have hq' := hm q (List.mem_cons_of_mem _ hq)
   rw [cmp_blt cm hp hq']
   cases e : ltC (code 3 p) (code 3 q) with
   | true => rfl
   | false =>
    have l1 : leC 3 q p = true := by unfold leC; rw [e]; rfl
    exact absurd (cmp_anti cm hp hq' (hs.1 q hq) l1) fun z => hn.1 (z ▸ hq)
 exact key (fun _ h => h) s nd2
noncomputable def alike : Nat → PV → Bool
 | _, .int _ => true
 | _, .str _ => true
 | _, .bl _ => true
 | _, .non => true
 | n + 1, .tup ps => decide (ps.length ≤ 100) && ps.all (alike n)
 | _, _ => false
noncomputable def spSame (n : Nat) : Sp := fun vs H Q _ => ∃ (u v : V) (p : PV), vs = [u, v] ∧ Tr H p u ∧ Tr H p v ∧ alike n p = true ∧ ∀ H', Same H H' → Q (.bl true) H'
theorem alike_strs {n : Nat} {row : List Str} (h : row.length ≤ 100) : alike (n + 1) (.tup (row.map PV.str)) = true := by
 unfold alike
 rw [Bool.and_eq_true, List.all_eq_true, List.length_map]
 refine ⟨decide_eq_true h, fun p hp => ?_⟩
 obtain ⟨z, _, rfl⟩ := List.mem_map.mp hp
 cases n <;> rfl
theorem alike_lt {n : Nat} {x : Lt} (o : x.Ok) : alike (n + 2) x.P = true := by
 show (decide (_ ≤ 100) && [PV.str x.n, PV.int x.d, PV.str x.h, PV.tup (x.row.map PV.str)].all (alike (n + 1))) = true
 have := o.lr
 simp only [List.all_cons, List.all_nil, alike_strs (n := n) (row := x.row) (by omega), Bool.and_true]
 rfl
theorem alike_dd {n : Nat} {x : Dd} (o : x.ok = true) : alike (n + 3) x.P = true := by
 cases x with
 | lt w x =>
  have o : (LW.contains w && x.ok) = true := o
  rw [Bool.and_eq_true] at o
  show (decide (_ ≤ 100) && [PV.str w, x.P].all (alike (n + 2))) = true
  simp only [List.all_cons, List.all_nil, alike_lt (n := n) ((x.ok_iff).mp o.2), Bool.and_true]
  rfl
 | ws l =>
  have := (wsOk_len (show wsOk l = true from o)).1
  exact alike_strs (n := n + 2) (by omega)
theorem alike_et {n : Nat} {x : Dd × Bool} (o : x.1.ok = true) : alike (n + 4) (entV x) = true := by
 show (decide (_ ≤ 100) && [x.1.P, PV.bl x.2].all (alike (n + 3))) = true
 simp only [List.all_cons, List.all_nil, alike_dd (n := n) o, Bool.and_true]
 rfl
theorem alike_tup {α : Type} {P : α → PV} {n : Nat} {xs : List α} (h : ∀ x ∈ xs, alike n (P x) = true) (hl : xs.length ≤ 100) : alike (n + 1) (.tup (xs.map P)) = true := by
 unfold alike
 rw [Bool.and_eq_true, List.all_eq_true, List.length_map]
 refine ⟨decide_eq_true hl, fun p hp => ?_⟩
 obtain ⟨z, hz, rfl⟩ := List.mem_map.mp hp
 exact h z hz
theorem alike_mono : ∀ {n : Nat} {p : PV}, alike n p = true → alike (n + 1) p = true
 | n, .int _, _ => rfl
 | n, .str _, _ => rfl
 | n, .bl _, _ => rfl
 | n, .non, _ => rfl
 | 0, .tup _, h => by cases h
 | n + 1, .tup ps, h => by
  have h : (decide (ps.length ≤ 100) && ps.all (alike n)) = true := h
  show (decide (ps.length ≤ 100) && ps.all (alike (n + 1))) = true
  rw [Bool.and_eq_true, List.all_eq_true] at h ⊢
  exact ⟨h.1, fun p hp => alike_mono (h.2 p hp)⟩
 | n, .ty _, h => by cases n <;> cases h
 | n, .lst _, h => by cases n <;> cases h
 | n, .dct _, h => by cases n <;> cases h
theorem alike_up {n m : Nat} {p : PV} (h : alike n p = true) (le : n ≤ m) : alike m p = true := by
 induction le with
 | refl => exact h
 | step _ ih => exact alike_mono ih
noncomputable def OptR {α : Type} (P : α → PV) (H : Hp) (v : V) : Option α → Prop
 | some x => Tr H (P x) v
 | none => v = .non
theorem OptR.kp {α : Type} {P : α → PV} {H H' : Hp} {v : V} {o : Option α} (h : OptR P H v o) (k : KpT H H') : OptR P H' v o := by
 cases o with
 | none => exact h
 | some x => exact Tr.kp k h
noncomputable def spIn {α : Type} (f : Str → Option α) (P : α → PV) : Sp := fun vs H Q _ => ∃ z, vs = [.str z] ∧ z.length ≤ 900 ∧ ∀ v H', Same H H' → OptR P H' v (f z) → Q v H'
noncomputable def spNum : Sp := fun vs H Q _ => ∃ z, vs = [.str z] ∧ z.length ≤ 100000 ∧ ∀ H', Same H H' → Q (match numP z with | some n => .int n | none => .non) H'
noncomputable def spCnt : Sp := fun vs H Q _ => ∃ z, vs = [.str z] ∧ z.length ≤ 100000 ∧ ∀ H', Same H H' → Q (.bl (cntB z)) H'
noncomputable def spChk : Sp := fun vs H Q _ => ∃ z, vs = [.str z] ∧ Q (.str z) H
noncomputable def rowsP (z : Str) : List Str := if Txt.split z NL = [EM] then [] else Txt.split z NL
noncomputable def spRows : Sp := fun vs H Q _ => ∃ z, vs = [.str z] ∧ z.length ≤ 100000 ∧ ∀ l H', H l = none → Same H H' → H' l = some (.lst ((rowsP z).map V.str)) → Q (.ref l) H'
noncomputable def spNeed : Sp := fun vs H Q _ => ∃ v u, vs = [v, u] ∧ v ≠ .non ∧ Q v H
noncomputable def spRd {α : Type} (f : Str → Option α) (P : α → PV) : Sp := fun vs H Q _ => ∃ z x, vs = [.str z] ∧ z.length ≤ 900 ∧ f z = some x ∧ ∀ v H', Same H H' → Tr H' (P x) v → Q v H'
noncomputable def spRdP : Sp := fun vs H Q _ => ∃ (z : Str) (xs : List Lt), vs = [.str z] ∧ z.length ≤ 100000 ∧ (rowsP z).map letP = xs.map some ∧ (∀ r ∈ rowsP z, r.length ≤ 900) ∧ (rowsP z).length ≤ 1000 ∧ (xs.map Lt.P).Pairwise (fun a b => ltP 3 a b = some true) ∧ ∀ v H', Same H H' → Tr H' (.tup (xs.map Lt.P)) v → Q v H'
noncomputable def spRdL : Sp := fun vs H Q _ => ∃ (z : Str) (xs : List (Dd × Bool)), vs = [.str z] ∧ z.length ≤ 100000 ∧ (rowsP z).map entP = xs.map some ∧ (∀ r ∈ rowsP z, r.length ≤ 900) ∧ (rowsP z).length ≤ 1000 ∧ ∀ v H', Same H H' → Tr H' (.tup (xs.map entV)) v → Q v H'
theorem rows_of {ps : List Str} (h : ∀ p ∈ ps, 10 ∉ p.cps.toList) (h1 : ∀ p ∈ ps, 1 ≤ p.length) : rowsP (Txt.join NL ps) = ps := by
 unfold rowsP
 cases ps with
 | nil =>
  rw [join_nil', ← em_eq]
  exact if_pos (split_oneS nl_codes nl_low (by decide +kernel))
 | cons p ps =>
  rw [split_joinS nl_codes nl_low (by simp) h, if_neg]
  intro e
  have e1 : p = EM := by injection e
  have := h1 p List.mem_cons_self
  rw [e1, s0] at this
  omega
theorem rows_nil : rowsP EM = [] := if_pos (split_oneS nl_codes nl_low (by decide +kernel))
theorem ltT_pos {x : Lt} (o : x.Ok) : 1 ≤ x.T.length := by
 unfold Lt.T ltT
 rw [lenA, lenA, lenA, lenA, lenA, lenA]
 have := (nameB_len o.nm).1
 omega
theorem entT_pos {e : Dd × Bool} : 1 ≤ (entT e).length := by
 unfold entT
 have hp : (Str.ofString "+ ").length = 2 := by decide +kernel
 have hm : (Str.ofString "- ").length = 2 := by decide +kernel
 rw [lenA]
 split <;> omega
theorem pack_rows {xs : List Lt} (o : ∀ x ∈ xs, x.Ok) : rowsP (packT xs) = xs.map Lt.T ∧ (rowsP (packT xs)).map letP = xs.map some := by
 have e : rowsP (packT xs) = xs.map Lt.T := rows_of (fun p hp hc => by obtain ⟨x, hx, rfl⟩ := List.mem_map.mp hp; have := ltT_signs (o x hx) 10 hc; omega) fun p hp => by obtain ⟨x, hx, rfl⟩ := List.mem_map.mp hp; exact ltT_pos (o x hx)
 refine ⟨e, ?_⟩
 rw [e, List.map_map]
 exact List.map_congr_left fun x hx => letP_T ((x.ok_iff).mpr (o x hx))
theorem log_rows {xs : List (Dd × Bool)} (o : ∀ x ∈ xs, x.1.ok = true) : rowsP (logT xs) = xs.map entT ∧ (rowsP (logT xs)).map entP = xs.map some := by
 have e : rowsP (logT xs) = xs.map entT := rows_of (fun p hp hc => by obtain ⟨x, hx, rfl⟩ := List.mem_map.mp hp; have := entT_signs (o x hx) 10 hc; omega) fun p hp => by obtain ⟨x, hx, rfl⟩ := List.mem_map.mp hp; exact entT_pos
 refine ⟨e, ?_⟩
 rw [e, List.map_map]
 exact List.map_congr_left fun x hx => entP_T (o x hx)
open PySem.StrLaws PySem.Builtin.Str in
theorem split_few (z y : Str) (hy : 1 ≤ y.length) : (Txt.split z y).length ≤ z.length + 2 := by
 unfold Txt.split
 split
 ·simp
 ·split
  ·simp
  ·rw [partsBetween_eq, partsFrom_len]
   have := occ_length_le_len z y 0 z.length (z.length + 1)
   omega
theorem split_part (z y : Str) : ∀ p ∈ Txt.split z y, p.length ≤ z.length := by
 intro p hp
 have e := split_join_self z y
 rw [joinT_eq] at e
 have key : ∀ (ps : List Str), p ∈ ps → p.length ≤ (Str.join y ps).length := by
  intro ps
  induction ps with
  | nil => intro h; cases h
  | cons a r ih =>
   intro h
   cases r with
   | nil => rw [List.mem_singleton.mp h]; exact Nat.le_refl _
   | cons b r =>
    show p.length ≤ (a ++ y ++ Str.join y (b :: r)).length
    rw [lenA, lenA]
    rcases List.mem_cons.mp h with h | h
    ·rw [h]; omega
    ·have := ih h; omega
 have := key _ hp
 rw [e] at this
 exact this
end My
namespace My
open PySem L2 Mr
theorem letterV_at {H : Hp} {a r : Addr} {n h : Str} {dv : V} {row : List Str} (ha : H a = some (.tup [.str n, dv, .str h, .ref r])) (hr : H r = some (.tup (row.map V.str))) :
  letterV H (.ref a) = (nameB n && (dayV dv && (headV (.str h) && (!decide (9 < (row.length : Int)) && row.all nameB)))) := by
 unfold letterV
 rw [tupOf_at ha]
 show (nameV _ && (_ && (_ && rowV H (.ref r)))) = _
 unfold rowV
 rw [tupOf_at hr]
 dsimp only
 rw [List.length_map, List.all_map]
 rfl
theorem deedV_ws {H : Hp} {a : Addr} {ws : List Str} (ha : H a = some (.tup (ws.map V.str))) : deedV H (.ref a) = wsOk ws := by
 unfold deedV
 rw [tupOf_at ha]
 match ws with
 | [] => rfl
 | [_] => rfl
 | [x, y] => rfl
 | [x, y, z] =>
  show (decide (x = JW) && (nameB y && (nameB z && !decide (V.str y = V.str z)))) = (decide (x = JW) && (nameB y && (nameB z && !decide (y = z))))
  rw [str_dec]
 | _ :: _ :: _ :: _ :: _ => rfl
theorem deedV_lt {H : Hp} {a : Addr} {w : Str} {v : V} (ha : H a = some (.tup [.str w, v])) (hw : LW.contains w = true) : deedV H (.ref a) = letterV H v := by
 unfold deedV
 rw [tupOf_at ha]
 show (if LW.contains w = true then letterV H v else _) = _
 rw [if_pos hw]
theorem splitN_big {z : Str} {n d r h : Str} {hs : List Str} (e : Txt.split z BL = n :: d :: r :: h :: hs) : splitN z BL 3 = [n, d, r, Txt.join BL (h :: hs)] := by
 unfold splitN
 rw [e, if_neg (by simp)]
 rw [joinT_eq]
 rfl
theorem splitN_few {z : Str} (h : (Txt.split z BL).length < 4) : splitN z BL 3 = Txt.split z BL := by
 unfold splitN
 rw [if_pos (by omega)]
theorem letP_few {z : Str} (h : (Txt.split z BL).length < 4) : letP z = none := by
 unfold letP
 generalize Txt.split z BL = l at h
 match l, h with
 | [], _ => rfl
 | [_], _ => rfl
 | [_, _], _ => rfl
 | [_, _, _], _ => rfl
 | _ :: _ :: _ :: _ :: r, h => simp at h; omega
open PySem.StrLaws PySem.Builtin.Str in
theorem part_BL (z : Str) : [(Txt.partition z BL).1, (Txt.partition z BL).2.1, (Txt.partition z BL).2.2] = partP z BL := by
 have e : [(Txt.partition z BL).1, (Txt.partition z BL).2.1, (Txt.partition z BL).2.2] = (match occurrences z BL 0 z.length 1 with
  | i :: _ => [strSub z 0 i, BL, strSub z (i + BL.length) z.length]
  | [] => [z, Str.empty, Str.empty]) := by
  unfold Txt.partition
  cases occurrences z BL 0 z.length 1 <;> rfl
 rw [e]
 by_cases hz : z.length = 0
 ·have h1 : (occurrences z BL 0 z.length 1) = [] := by
   have hz2 : z = Str.empty := PM.ext_codes (by
    have : z.cps.toList.length = 0 := hz
    rw [List.length_eq_zero_iff.mp this]; rfl)
   rw [hz2]
   decide +kernel
  rw [h1]
  unfold partP
  have hz2 : z = Str.empty := PM.ext_codes (by
    have : z.cps.toList.length = 0 := hz
    rw [List.length_eq_zero_iff.mp this]; rfl)
  rw [hz2, show Txt.split Str.empty BL = [Str.empty] from split_oneS bl_codes bl_low (by decide)]
 ·refine partP_eq (by rw [s1]; decide) ?_
  rw [s1, decide_eq_false (by omega), decide_eq_false (kind_low bl_low z)]
  decide
theorem part_cases (z : Str) : (∃ a b r, Txt.split z BL = a :: b :: r ∧ partP z BL = [a, BL, Txt.join BL (b :: r)]) ∨ (Txt.split z BL = [z] ∧ partP z BL = [z, Str.empty, Str.empty]) := by
 obtain ⟨a, r, e⟩ := split_ne' z BL
 cases r with
 | nil =>
  right
  have ej := split_join_self z BL
  rw [e] at ej
  have ea : a = z := ej
  refine ⟨by rw [e, ea], ?_⟩
  unfold partP
  rw [e]
 | cons b r =>
  left
  refine ⟨a, b, r, e, ?_⟩
  unfold partP
  rw [e]
  dsimp only
  rw [joinT_eq]
theorem dedW_ws {w : Str} {r : List Str} (hw : LW.contains w = false) : dedW (w :: r) = if wsOk (w :: r) = true then some (.ws (w :: r)) else none := by
 unfold dedW
 simp only [hw]
 rfl
theorem cnt_int {z : Str} (h : cntB z = true) (hl : z.length ≤ 9) : ∃ n, intText? z = some n := by
 unfold cntB at h
 rw [Bool.and_eq_true, List.all_eq_true, Bool.not_eq_true', decide_eq_false_iff_not] at h
 refine ⟨_, PySem.intText_digits (fun c hc => ?_) (fun e => h.1 ?_) (by omega)⟩
 ·have := (inF_iff c).mp (h.2 c hc)
  rw [fig_codes] at this
  simp only [List.mem_cons, List.mem_nil_iff, or_false] at this
  show 48 ≤ c ∧ c ≤ 57
  omega
 ·exact PM.ext_codes (by rw [e]; decide +kernel)
theorem all_fig (z : Str) : List.all (List.map (fun c => inF c) z.cps.toList) id = z.cps.toList.all inF := by
 rw [List.all_map]; rfl
theorem ps_two {a b : PV} {H : Hp} {v : V} (h : Tr H (.tup [a, b]) v) : ∃ l x y, v = .ref l ∧ H l = some (.tup [x, y]) ∧ Tr H a x ∧ Tr H b y := by
 obtain ⟨l, us, e, ha, hu⟩ := h.tup'
 cases hu with
 | cons h1 hu => cases hu with
  | cons h2 hu => cases hu; exact ⟨l, _, _, e, ha, h1, h2⟩
noncomputable def spSameN : Nat → Sp
 | 0 => fun _ _ _ _ => False
 | n + 1 => spSame n
theorem paired_some {α : Type} {f : Str → Option α} {P : α → PV} {H : Hp} : ∀ {rows : List Str} {xs : List α} {ys : List V}, rows.map f = xs.map some → ys.length = rows.length → (∀ (i : Nat) v, ys[i]? = some v → ∀ x, xs[i]? = some x → Tr H (P x) v) → TrL H (xs.map P) ys
 | [], [], [], _, _, _ => .nil
 | [], [], _ :: _, _, h, _ => by simp at h
 | [], _ :: _, _, h, _, _ => by simp at h
 | _ :: _, [], _, h, _, _ => by simp at h
 | r :: rows, x :: xs, [], _, h, _ => by simp at h
 | r :: rows, x :: xs, y :: ys, e, h, q => by
  refine .cons (q 0 y rfl x rfl) (paired_some (rows := rows) (f := f) ?_ (by simpa using h) fun i v hv z hz => q (i + 1) v (by simpa using hv) z (by simpa using hz))
  simp at e ⊢
  exact e.2
open PySem.StrLaws PySem.Builtin.Str in
theorem rSplit_of {z y : Str} {H : Hp} {Q : VK} (hy : 1 ≤ y.length) (hz : z.length ≤ 100000) (h : ∀ l, H l = none → Q (.ref l) (upd H l (.lst ((Txt.split z y).map V.str)))) : rSplit (.str z) [.str y] H Q := by
 have h1 := split_few z y hy
 refine ⟨z, y, rfl, rfl, by rw [beq_eq_false_iff_ne]; omega, by omega, by omega, szl ?_, h⟩
 rw [partsBetween_eq, partsFrom_len]
 have := occ_length_le_len z y 0 z.length (z.length + 1)
 omega
theorem eqLV_strs : ∀ {a b : List Str}, eqLV (a.map V.str) (b.map V.str) = decide (a = b)
 | [], [] => rfl
 | [], _ :: _ => rfl
 | _ :: _, [] => rfl
 | x :: a, y :: b => by
  show (eqV (.str x) (.str y) && eqLV (a.map V.str) (b.map V.str)) = _
  rw [eqLV_strs]
  by_cases e : x = y
  ·subst e
   rw [show eqV (.str x) (.str x) = true from beq_self_eq_true x]
   simp
  ·rw [show eqV (.str x) (.str y) = false from beq_eq_false_iff_ne.mpr e]
   simp [e]
theorem split_in {K : PySem.W.Frag} {te : TE} {y : Str} {σ : St} {H : Hp} {Q : VK} (h : te σ H fun x H1 => tyV K "str" x H1 ∧ rSplit x [.str y] H1 Q) : tBM K "str" rSplit te (tCons (tC (.str y)) tNil) σ H Q := h
theorem slice_few (z : Str) : (Txt.slice z (some 2) none).length ≤ z.length := by
 have e := sl_from z.cps.toList 2
 rw [S_self] at e
 rw [show (some (2 : Int)) = some ((2 : Nat) : Int) from rfl, e, S_len, List.length_drop]
 have : z.cps.toList.length = z.length := by simp [Str.length]
 omega
theorem part_fst (x : Str) : ∃ w r, Txt.split x BL = w :: r ∧ (Txt.partition x BL).1 = w ∧ (Txt.partition x BL).2.2 = Txt.join BL r := by
 have pb := part_BL x
 rcases part_cases x with ⟨a, b, r, e, e2⟩ | ⟨e, e2⟩
 ·rw [e2] at pb
  injection pb with p1 pb
  injection pb with p2 pb
  injection pb with p3 _
  exact ⟨a, b :: r, e, p1, p3⟩
 ·rw [e2] at pb
  injection pb with p1 pb
  injection pb with p2 pb
  injection pb with p3 _
  exact ⟨x, [], e, p1, by rw [p3, join_nil']⟩
theorem strs_any {H : Hp} {a : Addr} {ws : List Str} (h : H a = some (.tup (ws.map V.str))) (h1 : ws.length ≤ 1000) (h2 : ∀ z ∈ ws, z.length ≤ 900) : Any H (.ref a) :=
 any_tup h (by rw [List.length_map]; exact h1) fun y hy => by
  obtain ⟨z, hz, rfl⟩ := List.mem_map.mp hy
  exact any_str (by have := h2 z hz; omega)
theorem LtV.any {H : Hp} {v : V} {x : Lt} (h : LtV H v x) : Any H v := by
 obtain ⟨a, r, rfl, ha, hr⟩ := h.at'
 refine any_tup ha (by show 4 ≤ 1000; decide) fun y hy => ?_
 simp only [List.mem_cons, List.mem_nil_iff, or_false] at hy
 rcases hy with rfl | rfl | rfl | rfl
 ·exact any_str (by have := (nameB_len h.ok.nm).2; omega)
 ·exact any_int
 ·exact any_str (by have := h.ok.hd.1; omega)
 ·exact strs_any hr (by have := h.ok.lr; omega) fun z hz => by have := (nameB_len (h.ok.rw' z hz)).2; omega
theorem LtV.yes {H : Hp} {v : V} {x : Lt} (h : LtV H v x) : letterV H v = true := by
 obtain ⟨a, r, rfl, ha, hr⟩ := h.at'
 rw [letterV_at ha hr]
 exact (x.ok_iff).mpr h.ok
theorem letP_ok {z : Str} {x : Lt} (h : letP z = some x) : x.ok = true := by
 unfold letP at h
 generalize Txt.split z BL = l at h
 match l, h with
 | [], h => cases h
 | [_], h => cases h
 | [_, _], h => cases h
 | [_, _, _], h => cases h
 | n :: d :: r :: h :: hs, e =>
  unfold letW at e
  dsimp only at e
  split at e
  ·split at e
   ·rename_i ho
    cases e
    exact ho
   ·cases e
  ·cases e
theorem ruleV_tr {H : Hp} {v : V} {ws : List Str} (h : Tr H (rlP ws) v) : ruleV H v = ruleOk ws := by
 obtain ⟨a, us, rfl, ha, hu⟩ := h.tup'
 rw [trl_strs hu] at ha
 unfold ruleV
 rw [tupOf_at ha]
 match ws with
 | [] => rfl
 | [_] => rfl
 | [_, _] => rfl
 | _ :: _ :: _ :: _ => rfl
theorem rules_all {H : Hp} : ∀ {pss : List (List Str)} {ys : List V}, TrL H (pss.map rlP) ys → ys.all (ruleV H) = pss.all ruleOk
 | [], _, .nil => rfl
 | p :: ps, _, .cons h r => by
  rw [List.all_cons, List.all_cons, ruleV_tr h, rules_all r]
theorem rulesV_tr {H : Hp} {a : Addr} {pss : List (List Str)} {ys : List V} (ha : H a = some (.tup ys)) (h : TrL H (pss.map rlP) ys) : rulesV H (.ref a) = rulesOk pss := by
 unfold rulesV
 rw [tupOf_at ha]
 dsimp only
 rw [rules_all h, ← h.length, List.length_map]
 rfl
theorem entP_em {x : Str} {d : Dd} (h : dedP (Txt.slice x (some 2) none) = some d) : entP x = if [PL, MN].contains (Txt.slice x none (some 2)) = true then some (d, decide (Txt.slice x none (some 2) = PL)) else none := by
 unfold entP
 rw [h]
theorem entP_no {x : Str} (h : dedP (Txt.slice x (some 2) none) = none) : entP x = none := by
 unfold entP
 rw [h]
theorem dedW_lt {w : Str} {r : List Str} (hw : LW.contains w = true) : dedW (w :: r) = match letP (Txt.join BL r) with | some x => some (.lt w x) | none => none := by
 unfold dedW
 exact (if_pos hw).trans (by cases letP (Txt.join BL r) <;> rfl)
theorem join_few (x : Str) {w : Str} {r : List Str} (e : Txt.split x BL = w :: r) : (Txt.join BL r).length ≤ x.length := by
 have ej := congrArg Str.length (split_join_self x BL)
 rw [e, joinT_eq] at ej
 rw [joinT_eq]
 cases r with
 | nil => exact Nat.zero_le _
 | cons b r =>
  have e4 : (w ++ BL ++ Str.join BL (b :: r)).length = x.length := ej
  rw [lenA, lenA] at e4
  omega
theorem lt_come {x : Lt} (o : x.Ok) : (Dd.lt (Str.ofString "come") x).ok = true := by
 show (LW.contains (Str.ofString "come") && x.ok) = true
 rw [(x.ok_iff).mpr o]; decide +kernel
theorem lt_go {x : Lt} (o : x.Ok) : (Dd.lt (Str.ofString "go") x).ok = true := by
 show (LW.contains (Str.ofString "go") && x.ok) = true
 rw [(x.ok_iff).mpr o]; decide +kernel
theorem rules_ok {H : Hp} {v : V} {xs : List (List Str)} (h : RlsV H v xs) : rulesOk xs = true := by
 have := h.few
 unfold rulesOk
 rw [Bool.and_eq_true, List.all_eq_true, Bool.not_eq_true', decide_eq_false_iff_not]
 exact ⟨by omega, h.ok⟩
theorem alike_rl {r : List Str} (o : ruleOk r = true) : alike 1 (rlP r) = true := by
 obtain ⟨a, b, rfl, _⟩ := ruleOk_no o
 exact alike_strs (n := 0) (row := [a, b]) (by simp)
end My
namespace My
open PySem L2
local macro_rules | `(tactic| walk_at "vc0") => `(tactic| simp only [tPar, tAsg, tOp, tUn, tC, tVar, rI, rI0, rU, tCB, tCons, tNil, tRet, tLst, tTup, gName, tIfS, tTest, tNext, tBreak, tCont, tDrop, tCall, tIf, tNot, tAnd, tOr, tB, tAndV, tOrV, tNotV, tChain, tSl, tPart, tNoPart, tBM, tBM0, rIxL, rIxT, rIxS, rSlT, rSlL, rIn, rCat, rEqL, rLenL, rLenT, rAll, rAny, rMaxL, rIsi, rTupL, rListL, rLower, rSplit, rIndexS, rEq, rNe, rJoin, rJoinT, rSlW, rCatW, rMulS, rRep1, jNil, jCons, tFS, tFmtS, tFmtI, tOrS, rNeL, rPopAt, rSorted, rInC, tBack, rSortS, rLjust, tDNewK, tDisp, tPairs, tNever, rAppend, rSetL, gSub, gTup, gCons, gNil, tyV, L2.start, cxOf_K, cxComp_K, gt_iff_lt, ge_iff_le, List.map_cons, List.map_nil, List.cons_append, List.nil_append, List.length_cons, List.length_nil, List.replicate, List.getElem?_cons_zero, List.getElem?_cons_succ, List.set_cons_zero, List.set_cons_succ, Option.some.injEq, V.int.injEq, V.str.injEq, V.bl.injEq, V.ref.injEq, V.ty.injEq, List.cons.injEq, and_true, true_and, exists_eq_left, exists_eq_left', exists_eq_right, exists_and_left, exists_and_right, exists_eq_or_imp, exists_const, Nat.reduceAdd, Nat.reduceSub, ite_true, ite_false, Bool.false_eq_true, if_true, if_false, and_assoc, Bool.not_true, Bool.not_false, Bool.true_and, Bool.false_and, decide_true, decide_false, reduceCtorEq, false_and, exists_false, or_false, false_or, rSortQ, iEnumA, tLstC, rSplitN, Mr.rPart, rLeQ, rNotT, iZipT, gLst])
local macro_rules | `(tactic| walk_at "vc1") => `(tactic| simp only [tPar, tAsg, tOp, tUn, tC, tVar, rI, rI0, rU, tCB, tCons, tNil, tRet, tLst, tTup, gName, tIfS, tTest, tNext, tBreak, tCont, tDrop, tCall, tIf, tNot, tAnd, tOr, tB, tAndV, tOrV, tNotV, tChain, tSl, tPart, tNoPart, tBM0, rIxL, rIxT, rIxS, rSlT, rSlL, rIn, rCat, rEqL, rLenL, rLenT, rAll, rAny, rMaxL, rIsi, rTupL, rListL, rLower, rSplit, rIndexS, rEq, rNe, rJoin, rJoinT, rSlW, rCatW, rMulS, rRep1, jNil, jCons, tFS, tFmtS, tFmtI, tOrS, rNeL, rPopAt, rSorted, rInC, tBack, rSortS, rLjust, tDNewK, tDisp, tPairs, tNever, rAppend, rSetL, gSub, gTup, gCons, gNil, tyV, L2.start, cxOf_K, cxComp_K, gt_iff_lt, ge_iff_le, List.map_cons, List.map_nil, List.cons_append, List.nil_append, List.length_cons, List.length_nil, List.replicate, List.getElem?_cons_zero, List.getElem?_cons_succ, List.set_cons_zero, List.set_cons_succ, Option.some.injEq, V.int.injEq, V.str.injEq, V.bl.injEq, V.ref.injEq, V.ty.injEq, List.cons.injEq, and_true, true_and, exists_eq_left, exists_eq_left', exists_eq_right, exists_and_left, exists_and_right, exists_eq_or_imp, exists_const, Nat.reduceAdd, Nat.reduceSub, ite_true, ite_false, Bool.false_eq_true, if_true, if_false, and_assoc, Bool.not_true, Bool.not_false, Bool.true_and, Bool.false_and, decide_true, decide_false, reduceCtorEq, false_and, exists_false, or_false, false_or, rSortQ, iEnumA, tLstC, rSplitN, Mr.rPart, rLeQ, rNotT, iZipT, gLst])
local macro_rules | `(tactic| walk_at "vc2") => `(tactic| simp only [tPar, tAsg, tOp, tUn, tC, tVar, rI, rI0, rU, tCB, tCons, tNil, tRet, tLst, tTup, gName, tIfS, tTest, tNext, tBreak, tCont, tDrop, tCall, tIf, tNot, tAnd, tOr, tB, tAndV, tOrV, tNotV, tChain, tSl, tPart, tNoPart, tBM, tBM0, rIxL, rIxT, rIxS, rSlT, rSlL, rIn, rCat, rEqL, rLenL, rLenT, rAll, rAny, rMaxL, rIsi, rTupL, rListL, rLower, rSplit, rIndexS, rEq, rNe, rJoin, rJoinT, rSlW, rCatW, rMulS, rRep1, jNil, jCons, tFS, tFmtS, tFmtI, tOrS, rNeL, rPopAt, rSorted, rInC, tBack, rSortS, rLjust, tDNewK, tDisp, tPairs, tNever, rAppend, rSetL, gSub, gTup, gCons, gNil, tyV, L2.start, cxOf_K, cxComp_K, gt_iff_lt, ge_iff_le, List.map_cons, List.map_nil, List.cons_append, List.nil_append, List.length_cons, List.length_nil, List.replicate, List.getElem?_cons_zero, List.getElem?_cons_succ, List.set_cons_zero, List.set_cons_succ, Option.some.injEq, V.int.injEq, V.str.injEq, V.bl.injEq, V.ref.injEq, V.ty.injEq, List.cons.injEq, and_true, true_and, exists_eq_left, exists_eq_left', exists_eq_right, exists_and_left, exists_and_right, exists_eq_or_imp, exists_const, Nat.reduceAdd, Nat.reduceSub, ite_true, ite_false, Bool.false_eq_true, if_true, if_false, and_assoc, Bool.not_true, Bool.not_false, Bool.true_and, Bool.false_and, decide_true, decide_false, reduceCtorEq, false_and, exists_false, or_false, false_or, rSortQ, iEnumA, tLstC, rSplitN, Mr.rPart, rLeQ, rNotT, iZipT, gLst, tTrue])
local macro_rules | `(tactic| walk_at "vc3") => `(tactic| simp only [tPar, tAsg, tOp, tUn, tC, tVar, rI, rI0, rU, tCB, tCons, tNil, tRet, tLst, tTup, gName, tIfS, tTest, tNext, tBreak, tCont, tDrop, tCall, tIf, tNot, tAnd, tOr, tB, tAndV, tOrV, tNotV, tChain, tSl, tPart, tNoPart, tBM0, rIxL, rIxT, rIxS, rSlT, rSlL, rIn, rCat, rEqL, rLenL, rLenT, rAll, rAny, rMaxL, rIsi, rTupL, rListL, rLower, rSplit, rIndexS, rEq, rNe, rJoin, rJoinT, rSlW, rCatW, rMulS, rRep1, jNil, jCons, tFS, tFmtS, tFmtI, tOrS, rNeL, rPopAt, rSorted, rInC, tBack, rSortS, rLjust, tDNewK, tDisp, tPairs, tNever, rAppend, rSetL, gSub, gTup, gCons, gNil, tyV, L2.start, cxOf_K, cxComp_K, gt_iff_lt, ge_iff_le, List.map_cons, List.map_nil, List.cons_append, List.nil_append, List.length_cons, List.length_nil, List.replicate, List.getElem?_cons_zero, List.getElem?_cons_succ, List.set_cons_zero, List.set_cons_succ, Option.some.injEq, V.int.injEq, V.str.injEq, V.bl.injEq, V.ref.injEq, V.ty.injEq, List.cons.injEq, and_true, true_and, exists_eq_left, exists_eq_left', exists_eq_right, exists_and_left, exists_and_right, exists_eq_or_imp, exists_const, Nat.reduceAdd, Nat.reduceSub, ite_true, ite_false, Bool.false_eq_true, if_true, if_false, and_assoc, Bool.not_true, Bool.not_false, Bool.true_and, Bool.false_and, decide_true, decide_false, reduceCtorEq, false_and, exists_false, or_false, false_or, rSortQ, iEnumA, tLstC, rSplitN, Mr.rPart, rLeQ, rNotT, iZipT, gLst, tTrue])
noncomputable def top (i : Nat) : Stmt := PySem.Challenge.pw_answertrees_k65_read_as_written.main.body.getD i (.Pass ⟨0, 0, 0, 0⟩)
noncomputable abbrev s_is_name : Stmt := top 6
noncomputable abbrev s_is_whole : Stmt := top 7
noncomputable abbrev s_is_day : Stmt := top 8
noncomputable abbrev s_is_head : Stmt := top 9
noncomputable abbrev s_is_row : Stmt := top 10
noncomputable abbrev s_is_letter : Stmt := top 11
noncomputable abbrev s_is_deed : Stmt := top 15
noncomputable abbrev s_is_kind : Stmt := top 24
noncomputable abbrev s_is_word : Stmt := top 25
noncomputable abbrev s_is_rule : Stmt := top 26
noncomputable abbrev s_is_rules : Stmt := top 27
noncomputable abbrev s_is_count : Stmt := top 30
noncomputable abbrev s_number_in : Stmt := top 33
noncomputable abbrev s_checked : Stmt := top 34
noncomputable abbrev s_rows_in : Stmt := top 35
noncomputable abbrev s_needed : Stmt := top 36
noncomputable abbrev s_letter_in : Stmt := top 38
noncomputable abbrev s_rules_in : Stmt := top 39
noncomputable abbrev s_deed_in : Stmt := top 40
noncomputable abbrev s_entry_in : Stmt := top 41
noncomputable abbrev s_read_letter : Stmt := top 42
noncomputable abbrev s_read_pack : Stmt := top 43
noncomputable abbrev s_read_rules : Stmt := top 44
noncomputable abbrev s_read_deed : Stmt := top 45
noncomputable abbrev s_read_log : Stmt := top 46
noncomputable abbrev s_law_purse : Stmt := top 48
noncomputable abbrev s_law_pick : Stmt := top 49
noncomputable abbrev s_law_name : Stmt := top 50
noncomputable abbrev s_law_names : Stmt := top 51
noncomputable abbrev s_law_day : Stmt := top 52
noncomputable abbrev s_law_sign : Stmt := top 53
noncomputable abbrev s_law_letter : Stmt := top 54
noncomputable abbrev s_law_pack : Stmt := top 55
noncomputable abbrev s_law_rules : Stmt := top 56
noncomputable abbrev s_law_deed : Stmt := top 57
noncomputable abbrev s_law_log : Stmt := top 58
noncomputable abbrev s_law_written : Stmt := top 59
noncomputable abbrev s_law_rules_written : Stmt := top 60
noncomputable abbrev s_law_deed_written : Stmt := top 61
noncomputable abbrev s_law_log_written : Stmt := top 62
noncomputable abbrev s_law_same : Stmt := top 63
noncomputable abbrev s_law : Stmt := top 64
structure Txt (K : PySem.W.Frag) (mg : Str → Option Value) (fs : Nat → Addr) (fds : Nat → FuncData) (tc : Nat → Addr) (u : Nat → Value) : Prop where
 d_is_name : Def K mg "is_name" s_is_name ["thing"] (fs 0) (fds 0)
 d_is_whole : Def K mg "is_whole" s_is_whole ["thing"] (fs 1) (fds 1)
 d_is_day : Def K mg "is_day" s_is_day ["thing"] (fs 2) (fds 2)
 d_is_head : Def K mg "is_head" s_is_head ["thing"] (fs 3) (fds 3)
 d_is_row : Def K mg "is_row" s_is_row ["thing"] (fs 4) (fds 4)
 d_is_letter : Def K mg "is_letter" s_is_letter ["thing"] (fs 5) (fds 5)
 d_is_deed : Def K mg "is_deed" s_is_deed ["thing"] (fs 6) (fds 6)
 d_is_kind : Def K mg "is_kind" s_is_kind ["thing"] (fs 7) (fds 7)
 d_is_word : Def K mg "is_word" s_is_word ["thing"] (fs 8) (fds 8)
 d_is_rule : Def K mg "is_rule" s_is_rule ["thing"] (fs 9) (fds 9)
 d_is_rules : Def K mg "is_rules" s_is_rules ["thing"] (fs 10) (fds 10)
 d_is_count : Def K mg "is_count" s_is_count ["text"] (fs 11) (fds 11)
 d_number_in : Def K mg "number_in" s_number_in ["text"] (fs 12) (fds 12)
 d_checked : Def K mg "checked" s_checked ["text"] (fs 13) (fds 13)
 d_rows_in : Def K mg "rows_in" s_rows_in ["text"] (fs 14) (fds 14)
 d_needed : Def K mg "needed" s_needed ["thing", "row"] (fs 15) (fds 15)
 d_letter_in : Def K mg "letter_in" s_letter_in ["text"] (fs 16) (fds 16)
 d_rules_in : Def K mg "rules_in" s_rules_in ["text"] (fs 17) (fds 17)
 d_deed_in : Def K mg "deed_in" s_deed_in ["text"] (fs 18) (fds 18)
 d_entry_in : Def K mg "entry_in" s_entry_in ["text"] (fs 19) (fds 19)
 d_read_letter : Def K mg "read_letter" s_read_letter ["text"] (fs 20) (fds 20)
 d_read_pack : Def K mg "read_pack" s_read_pack ["text"] (fs 21) (fds 21)
 d_read_rules : Def K mg "read_rules" s_read_rules ["text"] (fs 22) (fds 22)
 d_read_deed : Def K mg "read_deed" s_read_deed ["text"] (fs 23) (fds 23)
 d_read_log : Def K mg "read_log" s_read_log ["text"] (fs 24) (fds 24)
 d_law_purse : Def K mg "_law_purse" s_law_purse ["_law_script"] (fs 25) (fds 25)
 d_law_pick : Def K mg "_law_pick" s_law_pick ["_law_purse_here", "_law_many"] (fs 26) (fds 26)
 d_law_name : Def K mg "_law_name" s_law_name ["_law_purse_here"] (fs 27) (fds 27)
 d_law_names : Def K mg "_law_names" s_law_names ["_law_purse_here", "_law_many"] (fs 28) (fds 28)
 d_law_day : Def K mg "_law_day" s_law_day ["_law_purse_here"] (fs 29) (fds 29)
 d_law_sign : Def K mg "_law_sign" s_law_sign ["_law_purse_here"] (fs 30) (fds 30)
 d_law_letter : Def K mg "_law_letter" s_law_letter ["_law_purse_here", "_law_names_here"] (fs 31) (fds 31)
 d_law_pack : Def K mg "_law_pack" s_law_pack ["_law_purse_here", "_law_names_here"] (fs 32) (fds 32)
 d_law_rules : Def K mg "_law_rules" s_law_rules ["_law_purse_here"] (fs 33) (fds 33)
 d_law_deed : Def K mg "_law_deed" s_law_deed ["_law_purse_here", "_law_names_here"] (fs 34) (fds 34)
 d_law_log : Def K mg "_law_log" s_law_log ["_law_purse_here", "_law_names_here"] (fs 35) (fds 35)
 d_law_written : Def K mg "_law_written" s_law_written ["_law_letter_here"] (fs 36) (fds 36)
 d_law_rules_written : Def K mg "_law_rules_written" s_law_rules_written ["_law_rules_here"] (fs 37) (fds 37)
 d_law_deed_written : Def K mg "_law_deed_written" s_law_deed_written ["_law_deed_here"] (fs 38) (fds 38)
 d_law_log_written : Def K mg "_law_log_written" s_law_log_written ["_law_log_here"] (fs 39) (fds 39)
 d_law_same : Def K mg "_law_same" s_law_same ["_law_found", "_law_due"] (fs 40) (fds 40)
 d_law : Def K mg "law" s_law ["_law_script"] (fs 41) (fds 41)
 z_len : mg "len" = none
 z_isinstance : mg "isinstance" = none
 z_str : mg "str" = none
 z_all : mg "all" = none
 z_bool : mg "bool" = none
 z_int : mg "int" = none
 z_abs : mg "abs" = none
 z_tuple : mg "tuple" = none
 z_range : mg "range" = none
 z_sorted : mg "sorted" = none
 z_enumerate : mg "enumerate" = none
 z_zip : mg "zip" = none
 z_max : mg "max" = none
 z_min : mg "min" = none
 c_NAME_SIGNS : mg "NAME_SIGNS" = some (u 0)
 r_NAME_SIGNS : RelV (.str "abcdefghijklmnopqrstuvwxyz0123456789") (u 0)
 c_LONGEST_NAME : mg "LONGEST_NAME" = some (u 1)
 r_LONGEST_NAME : RelV (.int 12) (u 1)
 c_LAST_DAY : mg "LAST_DAY" = some (u 2)
 r_LAST_DAY : RelV (.int 99999999) (u 2)
 c_LONGEST_HEAD : mg "LONGEST_HEAD" = some (u 3)
 r_LONGEST_HEAD : RelV (.int 60) (u 3)
 c_LONGEST_ROW : mg "LONGEST_ROW" = some (u 4)
 r_LONGEST_ROW : RelV (.int 9) (u 4)
 c_LETTER_WORDS : mg "LETTER_WORDS" = some (u 5)
 r_LETTER_WORDS : RelV (.ref (tc 5)) (u 5)
 q_LETTER_WORDS : ∀ H, SqT K H (tc 5) [V.str (Str.ofString "come"), V.str (Str.ofString "go")]
 c_NAME_WORDS : mg "NAME_WORDS" = some (u 6)
 r_NAME_WORDS : RelV (.ref (tc 6)) (u 6)
 q_NAME_WORDS : ∀ H, SqT K H (tc 6) [V.str (Str.ofString "split"), V.str (Str.ofString "free"), V.str (Str.ofString "read"), V.str (Str.ofString "unread")]
 c_KINDS : mg "KINDS" = some (u 7)
 r_KINDS : RelV (.ref (tc 7)) (u 7)
 q_KINDS : ∀ H, SqT K H (tc 7) [V.str (Str.ofString "ahead"), V.str (Str.ofString "behind"), V.str (Str.ofString "label")]
 c_WORD_SIGNS : mg "WORD_SIGNS" = some (u 8)
 r_WORD_SIGNS : RelV (.str "abcdefghijklmnopqrstuvwxyz") (u 8)
 c_LONGEST_WORD : mg "LONGEST_WORD" = some (u 9)
 r_LONGEST_WORD : RelV (.int 8) (u 9)
 c_MOST_RULES : mg "MOST_RULES" = some (u 10)
 r_MOST_RULES : RelV (.int 6) (u 10)
 c_FIGURES : mg "FIGURES" = some (u 11)
 r_FIGURES : RelV (.str "0123456789") (u 11)
 c_MOST_FIGURES : mg "MOST_FIGURES" = some (u 12)
 r_MOST_FIGURES : RelV (.int 9) (u 12)
theorem pick_loop {K : PySem.W.Frag} {p g : Addr} {H : Hp} {D : Ends} {σ : St} (h0 : σ[0]? = some (some (.ref p))) (hp : Pur H p g) (rest : ∀ H1, Pur H1 p g → Fr p g H H1 → D.nx σ H1) :
  tWhile (tAnd (tTest (tOp (rNeL K) (tOp (rIxL K) (tVar 0) (tC (V.int 0))) (tLst tNil))) (tTest (tOp rEq (tOp (rIxL K) (tOp (rIxL K) (tVar 0) (tC (V.int 0))) (tC (V.int 0))) (tC (V.int 0)))))
   (tDrop (tBM K "list" rPopAt (tOp (rIxL K) (tVar 0) (tC (V.int 0))) (tCons (tC (V.int 0)) tNil))) D σ H := by
 refine ⟨fun m σ' H' => σ' = σ ∧ Fr p g H H' ∧ ∃ (xs : List Int) (s c : Int), H' p = some (.lst [.ref g, .int s, .int c]) ∧ H' g = some (.lst (xs.map V.int)) ∧ p ≠ g ∧ xs.length = m, ?_, ?_⟩
 ·obtain ⟨xs, s, c, e1, e2, n⟩ := hp
  exact ⟨xs.length, rfl, Fr.refl, xs, s, c, e1, e2, n, rfl⟩
 ·rintro m σ' H' ⟨rfl, f, xs, s, c, e1, e2, n, hm⟩
  walk_at "vc0"
  refine ⟨_, h0, p, rfl, _, SqL.of e1, _, rfl, Nat.zero_le _, fun l hl => ?_⟩
  have e1' : upd H' l (.lst []) p = some (.lst [.ref g, .int s, .int c]) := by rw [upd_ne (ne_of_none e1 hl)]; exact e1
  have e2' : upd H' l (.lst []) g = some (.lst (xs.map V.int)) := by rw [upd_ne (ne_of_none e2 hl)]; exact e2
  have f' : Fr p g H (upd H' l (.lst [])) := f.new hl
  refine ⟨g, rfl, _, SqL.of e2', _, SqL.of upd_same, fun _ => ⟨flat_ints, rfl⟩, ?_⟩
  rw [eqLV_nilr]
  have hp' : Pur (upd H' l (.lst [])) p g := ⟨xs, s, c, e1', e2', n⟩
  cases xs with
  | nil => exact iteF (rest _ hp' f')
  | cons x xs =>
   refine iteT ⟨_, h0, p, rfl, _, SqL.of e1', _, rfl, g, rfl, _, SqL.of e2', V.int x, at0, rfl, iteD (fun hz => ?_) (fun hz => rest _ hp' f')⟩
   refine ⟨fun σ2 H2 => σ2 = σ' ∧ H2 = upd (upd H' l (.lst [])) g (.lst (xs.map V.int)), ?_, _, h0, p, rfl, _, SqL.of e1', _, rfl, .inl ⟨_, SqL.of e2'⟩, g, rfl, _, e2', by decide, by decide, 0, seq0, ⟨_, rfl⟩, rfl, rfl⟩
   rintro σ2 H2 ⟨rfl, rfl⟩
   refine ⟨xs.length, by rw [← hm]; exact Nat.lt_succ_self _, rfl, fun b o hb n1 n2 => ?_, ⟨s, c, ?_⟩, xs, upd_same, n, rfl⟩
   ·rw [upd_ne n2]; exact f' b o hb n1 n2
   ·rw [upd_ne n]; exact e1'
theorem row_asg {K : PySem.W.Frag} {σ : St} {H : Hp} {D : Ends} {r : Str} (h4 : σ[4]? = some (some (.str r))) (hl : r.length ≤ 900) (k : ∀ t H2, Same H H2 → H2 t = some (.tup ((rowP r).map V.str)) → D.nx (σ.set 6 (some (.ref t))) H2) :
  tAsg (tIf (tTest (tOp rEq (tVar 4) (tC (V.str (Str.ofString "-"))))) (tTup tNil) (tCB (rTupL K) (tCons (tBM K "str" rSplit (tVar 4) (tCons (tC (V.str (Str.ofString ","))) tNil)) tNil))) (gName 6) D σ H := by
 walk_at "vc1"
 refine ⟨_, h4, rfl, iteD (fun e => ⟨Nat.zero_le _, fun t ht => k t _ (Same.upd ht) ?_⟩) (fun e => ?_)⟩
 ·unfold rowP
  rw [if_pos (V.str.inj e), upd_same]
  rfl
 ·refine split_in ⟨_, h4, rfl, rSplit_of (by rw [s1c]; decide) (by omega) fun l hl2 => ⟨l, rfl, _, SqL.of upd_same, fun t ht => k t _ ((Same.upd hl2).trans (Same.upd ht)) ?_⟩⟩
  rw [upd_same]
  unfold rowP
  rw [if_neg (fun z => e (by rw [z]))]
section
variable {P : Program} {w : World} {K : PySem.W.Frag} {mg : Str → Option Value} {base : Heap} {fs : Nat → Addr} {fds : Nat → FuncData} {tc : Nat → Addr} {u : Nat → Value}
theorem sc_is_name : FnScope ["thing"] ["thing"] (defScope s_is_name) := ⟨rfl, rfl, rfl, by decide +kernel, rfl, by decide +kernel, by decide +kernel⟩
set_option maxHeartbeats 4000000 in
theorem ok_is_name (T : Txt K mg fs fds tc u)  : FnOk P w K mg base CX0 1 (fs 0) (fds 0) ["thing"] spNameV := by
 refine T.d_is_name.F.ok sc_is_name (fun vs H Q E h => ?_) (fun cdv A outer s H vs Q E hr h => ?_)
 ·obtain ⟨v, k, rfl, hT, q⟩ := h
  rfl
 ·obtain ⟨v, k, rfl, hT, q⟩ := h
  refine ⟨_, (pss_cons (ps_if (PW.pt (pw_or (pt_not (pt_val (pe_callB (isiK K) (by rfl) T.z_isinstance bt_isinstance (pa_cons (pv 0) (pa_cons (pe_bltn (v := .ty "str") rfl T.z_str bt_str rfl) pa_nil))))) (pw_or1 (pt_not (pt_chain op_le op_le pe_int (pe_callB call_len_str (by rfl) T.z_len bt_len (pa_cons (pv 0) pa_nil)) (pe_glob (v := .int 12) rfl T.c_LONGEST_NAME T.r_LONGEST_NAME)))))) (pss_one (ps_ret pe_bl)) pss_nil)
   (pss_one (ps_ret (pe_callB (allL K rfl) (by rfl) T.z_all bt_all (pa_cons (pe_lc ["sign"] 1 [] ["thing"] (defScope s_is_name) rfl rfl rfl (pi_str (pv 0)) (by decide +kernel) (fun _ => (pg_name (i := 0) (show (["sign"] : List Str).Nodup by decide +kernel) rfl (Or.inl rfl))) (fun _ => pts_nil) (fun _ => (pe_cmpR op_in_str (pv 0) (pe_glob (v := .str "abcdefghijklmnopqrstuvwxyz0123456789") rfl T.c_NAME_SIGNS T.r_NAME_SIGNS) (by rfl)))) pa_nil))))), ?_⟩
  refine tSeq_i ?_; walk_at "vc0"
  refine ⟨_, hT.is.ty, _, kd_str k, ?_⟩
  by_cases e : k = .str
  ·subst e
   obtain ⟨x, rfl⟩ := hT.is
   have hx := hT.few x rfl
   rw [decide_eq_true rfl]
   refine notyes ?_
   walk_at "vc0"
   refine ⟨szl (by omega), ?_⟩
   refine iteD (fun g1 => ?_) (fun g1 => ?_)
   ·refine ite2 (fun g2 => ?_) (fun g2 => ?_)
    ·have e : nameV (.str x) = false := by show nameB x = false; unfold nameB; rw [(by simpa using g2 : decide ((x.length : Int) ≤ 12) = false), Bool.and_false]; rfl
     rw [← e]
     exact q _ (Same.refl _)
    ·have g2 : decide ((x.length : Int) ≤ 12) = true := by simpa using g2
     refine ⟨_, rfl, x, rfl, fun l hl => comp_strP x (fun _ => true) (fun v => match v with | .str z => .bl (!(Builtin.Str.occurrences ABC z 0 ABC.length 1).isEmpty) | v => v) (fun σ => ∃ o, σ = [o]) ⟨_, rfl⟩ (szt (by omega)) ?_ ?_⟩
     ·rintro c σ xs N hc hz ⟨o, rfl⟩ hN
      unfold turnOf
      walk_at "vc2"
      exact ⟨_, upd_same, hz, by rw [upd_upd]; exact hN _ ⟨_, rfl⟩⟩
     ·refine ⟨l, rfl, x.cps.toList.map fun c => inS c, SqL.of ?_, ?_⟩
      ·rw [upd_same]
       refine congrArg (fun z => some (HO.lst z)) ?_
       rw [List.filter_eq_self.mpr (fun _ _ => rfl), List.map_map]
       unfold isBl
       rw [List.map_map]
       rfl
      ·rw [all_name]
       have e : nameV (.str x) = x.cps.toList.all inS := by show nameB x = _; unfold nameB; rw [decide_eq_true g1, g2]; rfl
       rw [← e]
       exact q _ (Same.upd hl)
   ·have e : nameV (.str x) = false := by show nameB x = false; unfold nameB; rw [decide_eq_false g1]; rfl
    rw [← e]
    exact q _ (Same.refl _)
  ·rw [decide_eq_false e]
   refine notnot ?_
   have en := nameV_no (hT.is.not_str e)
   rw [← en]
   exact q H (Same.refl _)
theorem sc_is_whole : FnScope ["thing"] ["thing"] (defScope s_is_whole) := ⟨rfl, rfl, rfl, by decide +kernel, rfl, by decide +kernel, by decide +kernel⟩
set_option maxHeartbeats 4000000 in
theorem ok_is_whole (T : Txt K mg fs fds tc u)  : FnOk P w K mg base CX0 1 (fs 1) (fds 1) ["thing"] spWhole := by
 refine T.d_is_whole.F.ok sc_is_whole (fun vs H Q E h => ?_) (fun cdv A outer s H vs Q E hr h => ?_)
 ·obtain ⟨v, k, rfl, hT, q⟩ := h
  rfl
 ·obtain ⟨v, k, rfl, hT, q⟩ := h
  refine ⟨_, (pss_one (ps_ret (pe_and (pe_callB (isiK K) (by rfl) T.z_isinstance bt_isinstance (pa_cons (pv 0) (pa_cons (pe_bltn (v := .ty "int") rfl T.z_int bt_int rfl) pa_nil))) (pe_one (pe_not (pe_callB (isiK K) (by rfl) T.z_isinstance bt_isinstance (pa_cons (pv 0) (pa_cons (pe_bltn (v := .ty "bool") rfl T.z_bool bt_bool rfl) pa_nil)))))))), ?_⟩
  walk_at "vc0"
  refine ⟨_, hT.is.ty, _, kd_int k, ?_⟩
  have hty := hT.is.ty (K := K)
  by_cases e : k = .int
  ·subst e
   rw [decide_eq_true rfl, Bool.true_or]
   refine iteT ⟨_, hty, _, kd_bool .int, ?_⟩
   exact q
  ·rw [decide_eq_false e] at q
   by_cases e2 : k = .bl
   ·subst e2
    rw [decide_eq_true (show Kd.bl = Kd.bl from rfl), Bool.or_true]
    exact iteT ⟨_, hty, _, kd_bool .bl, q⟩
   ·rw [decide_eq_false e, decide_eq_false e2]
    exact iteF q
theorem sc_is_head : FnScope ["thing"] ["thing"] (defScope s_is_head) := ⟨rfl, rfl, rfl, by decide +kernel, rfl, by decide +kernel, by decide +kernel⟩
set_option maxHeartbeats 4000000 in
theorem ok_is_head (T : Txt K mg fs fds tc u)  : FnOk P w K mg base CX0 1 (fs 3) (fds 3) ["thing"] spHeadV := by
 refine T.d_is_head.F.ok sc_is_head (fun vs H Q E h => ?_) (fun cdv A outer s H vs Q E hr h => ?_)
 ·obtain ⟨v, k, rfl, hT, q⟩ := h
  rfl
 ·obtain ⟨v, k, rfl, hT, q⟩ := h
  refine ⟨_, (pss_cons (ps_if (PW.pt (pw_or (pt_not (pt_val (pe_callB (isiK K) (by rfl) T.z_isinstance bt_isinstance (pa_cons (pv 0) (pa_cons (pe_bltn (v := .ty "str") rfl T.z_str bt_str rfl) pa_nil))))) (pw_or1 (pt_cmpR op_gt (pe_callB call_len_str (by rfl) T.z_len bt_len (pa_cons (pv 0) pa_nil)) (pe_glob (v := .int 60) rfl T.c_LONGEST_HEAD T.r_LONGEST_HEAD) (nomark _))))) (pss_one (ps_ret pe_bl)) pss_nil)
   (pss_one (ps_ret (pe_callB (allL K rfl) (by rfl) T.z_all bt_all (pa_cons (pe_lc ["sign"] 1 [] ["thing"] (defScope s_is_head) rfl rfl rfl (pi_str (pv 0)) (by decide +kernel) (fun _ => (pg_name (i := 0) (show (["sign"] : List Str).Nodup by decide +kernel) rfl (Or.inl rfl))) (fun _ => pts_nil) (fun _ => (pe_chain op_le_str op_le_str pe_str (pv 0) pe_str))) pa_nil))))), ?_⟩
  refine tSeq_i ?_; walk_at "vc0"
  refine ⟨_, hT.is.ty, _, kd_str k, ?_⟩
  by_cases e : k = .str
  ·subst e
   obtain ⟨x, rfl⟩ := hT.is
   have hx := hT.few x rfl
   rw [decide_eq_true rfl]
   refine notyes ?_
   walk_at "vc0"
   refine ⟨szl (by omega), ?_⟩
   refine iteD (fun g1 => ?_) (fun g1 => ?_)
   ·have e : headV (.str x) = false := by show (!decide (60 < (x.length : Int)) && _) = false; rw [decide_eq_true g1]; rfl
    rw [← e]
    exact q _ (Same.refl _)
   ·refine ⟨_, rfl, x, rfl, fun l hl => comp_strP x (fun _ => true) (fun v => match v with | .str z => .bl ((!decide (z.cps.toList < (Str.ofString " ").cps.toList)) && (!decide ((Str.ofString "~").cps.toList < z.cps.toList))) | v => v) (fun σ => ∃ o, σ = [o]) ⟨_, rfl⟩ (szt (by omega)) ?_ ?_⟩
    ·rintro c σ xs N hc hz ⟨o, rfl⟩ hN
     have h := hN [some (.str ⟨#[c]⟩)] ⟨_, rfl⟩
     dsimp only at h
     rw [if_pos rfl] at h
     unfold turnOf
     walk_at "vc2"
     refine ite2 (fun g => ⟨xs, upd_same, hz, ?_⟩) (fun g => ⟨xs, upd_same, hz, ?_⟩)
     ·rw [upd_upd]; rw [g, Bool.true_and] at h; exact h
     ·rw [upd_upd]; rw [Bool.not_eq_true] at g; rw [g, Bool.false_and] at h; exact h
    ·refine ⟨l, rfl, x.cps.toList.map fun c => okC c, SqL.of ?_, ?_⟩
     ·rw [upd_same]
      refine congrArg (fun z => some (HO.lst z)) ?_
      rw [List.filter_eq_self.mpr (fun _ _ => rfl), List.map_map]
      unfold isBl
      rw [List.map_map]
      rfl
     ·rw [all_ok]
      have e : headV (.str x) = x.cps.toList.all okC := by show (!decide (60 < (x.length : Int)) && _) = _; rw [decide_eq_false g1]; rfl
      rw [← e]
      exact q _ (Same.upd hl)
  ·rw [decide_eq_false e]
   refine notnot ?_
   have en := headV_no (hT.is.not_str e)
   rw [← en]
   exact q H (Same.refl _)
theorem sc_is_kind : FnScope ["thing"] ["thing"] (defScope s_is_kind) := ⟨rfl, rfl, rfl, by decide +kernel, rfl, by decide +kernel, by decide +kernel⟩
set_option maxHeartbeats 4000000 in
theorem ok_is_kind (T : Txt K mg fs fds tc u)  : FnOk P w K mg base CX0 1 (fs 7) (fds 7) ["thing"] spKindV := by
 refine T.d_is_kind.F.ok sc_is_kind (fun vs H Q E h => ?_) (fun cdv A outer s H vs Q E hr h => ?_)
 ·obtain ⟨v, k, rfl, hT, q⟩ := h
  rfl
 ·obtain ⟨v, k, rfl, hT, q⟩ := h
  refine ⟨_, (pss_one (ps_ret (pe_and (pe_callB (isiK K) (by rfl) T.z_isinstance bt_isinstance (pa_cons (pv 0) (pa_cons (pe_bltn (v := .ty "str") rfl T.z_str bt_str rfl) pa_nil))) (pe_one (pe_cmpR (inQ K) (pv 0) (pe_glob (v := .ref (tc 7)) rfl T.c_KINDS T.r_KINDS) (by rfl)))))), ?_⟩
  walk_at "vc0"
  refine ⟨_, hT.is.ty, _, kd_str k, ?_⟩
  by_cases e : k = .str
  ·subst e
   obtain ⟨x, rfl⟩ := hT.is
   rw [decide_eq_true rfl]
   refine iteT ⟨_, .inr (T.q_KINDS H), rfl, flat_strs (row := KS), ?_⟩
   rw [show inV (.str x) [V.str (Str.ofString "ahead"), V.str (Str.ofString "behind"), V.str (Str.ofString "label")] = kindV (.str x) from inV_str (row := KS)]
   exact q H (Same.refl _)
  ·rw [kindV_no (hT.is.not_str e)] at q
   rw [decide_eq_false e]
   exact iteF (q H (Same.refl _))
theorem sc_is_word : FnScope ["thing"] ["thing"] (defScope s_is_word) := ⟨rfl, rfl, rfl, by decide +kernel, rfl, by decide +kernel, by decide +kernel⟩
set_option maxHeartbeats 4000000 in
theorem ok_is_word (T : Txt K mg fs fds tc u)  : FnOk P w K mg base CX0 1 (fs 8) (fds 8) ["thing"] spWordV := by
 refine T.d_is_word.F.ok sc_is_word (fun vs H Q E h => ?_) (fun cdv A outer s H vs Q E hr h => ?_)
 ·obtain ⟨v, k, rfl, hT, q⟩ := h
  rfl
 ·obtain ⟨v, k, rfl, hT, q⟩ := h
  refine ⟨_, (pss_cons (ps_if (PW.pt (pw_or (pt_not (pt_val (pe_callB (isiK K) (by rfl) T.z_isinstance bt_isinstance (pa_cons (pv 0) (pa_cons (pe_bltn (v := .ty "str") rfl T.z_str bt_str rfl) pa_nil))))) (pw_or1 (pt_not (pt_chain op_le op_le pe_int (pe_callB call_len_str (by rfl) T.z_len bt_len (pa_cons (pv 0) pa_nil)) (pe_glob (v := .int 8) rfl T.c_LONGEST_WORD T.r_LONGEST_WORD)))))) (pss_one (ps_ret pe_bl)) pss_nil)
   (pss_one (ps_ret (pe_callB (allL K rfl) (by rfl) T.z_all bt_all (pa_cons (pe_lc ["sign"] 1 [] ["thing"] (defScope s_is_word) rfl rfl rfl (pi_str (pv 0)) (by decide +kernel) (fun _ => (pg_name (i := 0) (show (["sign"] : List Str).Nodup by decide +kernel) rfl (Or.inl rfl))) (fun _ => pts_nil) (fun _ => (pe_cmpR op_in_str (pv 0) (pe_glob (v := .str "abcdefghijklmnopqrstuvwxyz") rfl T.c_WORD_SIGNS T.r_WORD_SIGNS) (by rfl)))) pa_nil))))), ?_⟩
  refine tSeq_i ?_; walk_at "vc0"
  refine ⟨_, hT.is.ty, _, kd_str k, ?_⟩
  by_cases e : k = .str
  ·subst e
   obtain ⟨x, rfl⟩ := hT.is
   have hx := hT.few x rfl
   rw [decide_eq_true rfl]
   refine notyes ?_
   walk_at "vc0"
   refine ⟨szl (by omega), ?_⟩
   refine iteD (fun g1 => ?_) (fun g1 => ?_)
   ·refine ite2 (fun g2 => ?_) (fun g2 => ?_)
    ·have e : wordV (.str x) = false := by show wordB x = false; unfold wordB; rw [(by simpa using g2 : decide ((x.length : Int) ≤ 8) = false), Bool.and_false]; rfl
     rw [← e]
     exact q _ (Same.refl _)
    ·have g2 : decide ((x.length : Int) ≤ 8) = true := by simpa using g2
     refine ⟨_, rfl, x, rfl, fun l hl => comp_strP x (fun _ => true) (fun v => match v with | .str z => .bl (!(Builtin.Str.occurrences ABZ z 0 ABZ.length 1).isEmpty) | v => v) (fun σ => ∃ o, σ = [o]) ⟨_, rfl⟩ (szt (by omega)) ?_ ?_⟩
     ·rintro c σ xs N hc hz ⟨o, rfl⟩ hN
      unfold turnOf
      walk_at "vc2"
      exact ⟨_, upd_same, hz, by rw [upd_upd]; exact hN _ ⟨_, rfl⟩⟩
     ·refine ⟨l, rfl, x.cps.toList.map fun c => inW c, SqL.of ?_, ?_⟩
      ·rw [upd_same]
       refine congrArg (fun z => some (HO.lst z)) ?_
       rw [List.filter_eq_self.mpr (fun _ _ => rfl), List.map_map]
       unfold isBl
       rw [List.map_map]
       rfl
      ·rw [all_word]
       have e : wordV (.str x) = x.cps.toList.all inW := by show wordB x = _; unfold wordB; rw [decide_eq_true g1, g2]; rfl
       rw [← e]
       exact q _ (Same.upd hl)
   ·have e : wordV (.str x) = false := by show wordB x = false; unfold wordB; rw [decide_eq_false g1]; rfl
    rw [← e]
    exact q _ (Same.refl _)
  ·rw [decide_eq_false e]
   refine notnot ?_
   have en := wordV_no (hT.is.not_str e)
   rw [← en]
   exact q H (Same.refl _)
theorem sc_is_count : FnScope ["text"] ["text"] (defScope s_is_count) := ⟨rfl, rfl, rfl, by decide +kernel, rfl, by decide +kernel, by decide +kernel⟩
set_option maxHeartbeats 4000000 in
theorem ok_is_count (T : Txt K mg fs fds tc u)  : FnOk P w K mg base CX0 1 (fs 11) (fds 11) ["text"] spCnt := by
 refine T.d_is_count.F.ok sc_is_count (fun vs H Q E h => ?_) (fun cdv A outer s H vs Q E hr h => ?_)
 ·obtain ⟨x, rfl, hx, q⟩ := h
  rfl
 ·obtain ⟨x, rfl, hx, q⟩ := h
  refine ⟨_, (pss_one (ps_ret (pe_and (pe_cmpR op_ne (pv 0) pe_str (nomark _)) (pe_one (pe_callB (allL K rfl) (by rfl) T.z_all bt_all (pa_cons (pe_lc ["sign"] 1 [] ["text"] (defScope s_is_count) rfl rfl rfl (pi_str (pv 0)) (by decide +kernel) (fun _ => (pg_name (i := 0) (show (["sign"] : List Str).Nodup by decide +kernel) rfl (Or.inl rfl))) (fun _ => pts_nil) (fun _ => (pe_cmpR op_in_str (pv 0) (pe_glob (v := .str "0123456789") rfl T.c_FIGURES T.r_FIGURES) (by rfl)))) pa_nil)))))), ?_⟩
  walk_at "vc0"
  refine ⟨rfl, ?_⟩
  by_cases e : x = Str.ofString ""
  ·rw [decide_eq_true e]
   refine notyes ?_
   have e2 : cntB x = false := by unfold cntB; rw [decide_eq_true e]; rfl
   rw [← e2]
   exact q _ (Same.refl _)
  ·rw [decide_eq_false e]
   refine notnot ?_
   refine ⟨_, rfl, x, rfl, fun l hl => comp_strP x (fun _ => true) (fun v => match v with | .str z => .bl (!(Builtin.Str.occurrences FIG z 0 FIG.length 1).isEmpty) | v => v) (fun σ => ∃ o, σ = [o]) ⟨_, rfl⟩ (szt (by omega)) ?_ ?_⟩
   ·rintro c σ xs N hc hz ⟨o, rfl⟩ hN
    unfold turnOf
    walk_at "vc2"
    exact ⟨_, upd_same, hz, by rw [upd_upd]; exact hN _ ⟨_, rfl⟩⟩
   ·refine ⟨l, rfl, x.cps.toList.map fun c => inF c, SqL.of ?_, ?_⟩
    ·rw [upd_same]
     refine congrArg (fun z => some (HO.lst z)) ?_
     rw [List.filter_eq_self.mpr (fun _ _ => rfl), List.map_map]
     unfold isBl
     rw [List.map_map]
     rfl
    ·rw [all_fig]
     have e2 : cntB x = x.cps.toList.all inF := by unfold cntB; rw [decide_eq_false e]; rfl
     rw [← e2]
     exact q _ (Same.upd hl)
theorem sc_checked : FnScope ["text"] ["text"] (defScope s_checked) := ⟨rfl, rfl, rfl, by decide +kernel, rfl, by decide +kernel, by decide +kernel⟩
set_option maxHeartbeats 4000000 in
theorem ok_checked (T : Txt K mg fs fds tc u)  : FnOk P w K mg base CX0 1 (fs 13) (fds 13) ["text"] spChk := by
 refine T.d_checked.F.ok sc_checked (fun vs H Q E h => ?_) (fun cdv A outer s H vs Q E hr h => ?_)
 ·obtain ⟨x, rfl, q⟩ := h
  rfl
 ·obtain ⟨x, rfl, q⟩ := h
  refine ⟨_, (pss_cons (ps_if (pt_not (pt_val (pe_callB (isiK K) (by rfl) T.z_isinstance bt_isinstance (pa_cons (pv 0) (pa_cons (pe_bltn (v := .ty "str") rfl T.z_str bt_str rfl) pa_nil))))) (pss_one ps_never) pss_nil)
   (pss_one (ps_ret (pv 0)))), ?_⟩
  refine tSeq_i ?_; walk_at "vc0"
  refine ⟨_, .str _, _, kit_str_str, ?_⟩
  exact notyes q
theorem sc_needed : FnScope ["thing", "row"] ["thing", "row"] (defScope s_needed) := ⟨rfl, rfl, rfl, by decide +kernel, rfl, by decide +kernel, by decide +kernel⟩
set_option maxHeartbeats 4000000 in
theorem ok_needed (T : Txt K mg fs fds tc u)  : FnOk P w K mg base CX0 1 (fs 15) (fds 15) ["thing", "row"] spNeed := by
 refine T.d_needed.F.ok sc_needed (fun vs H Q E h => ?_) (fun cdv A outer s H vs Q E hr h => ?_)
 ·obtain ⟨v, u, rfl, n, q⟩ := h
  rfl
 ·obtain ⟨v, u, rfl, n, q⟩ := h
  refine ⟨_, (pss_cons (ps_if (pt_cmpR op_isN (pv 0) pe_non (nomark _)) (pss_one ps_never) pss_nil)
   (pss_one (ps_ret (pv 0)))), ?_⟩
  refine tSeq_i ?_; walk_at "vc0"
  exact iteDn n q
theorem sc_law_purse : FnScope ["_law_script", "_law_seed", "_law_great", "_law_cell"] ["_law_script"] (defScope s_law_purse) := ⟨rfl, rfl, rfl, by decide +kernel, rfl, by decide +kernel, by decide +kernel⟩
set_option maxHeartbeats 4000000 in
theorem ok_law_purse (T : Txt K mg fs fds tc u)  : FnOk P w K mg base CX0 1 (fs 25) (fds 25) ["_law_script"] (spPurse K) := by
 refine T.d_law_purse.F.ok sc_law_purse (fun vs H Q E h => ?_) (fun cdv A outer s H vs Q E hr h => ?_)
 ·obtain ⟨a, ns, rfl, hS, hlen, q⟩ := h
  rfl
 ·obtain ⟨a, ns, rfl, hS, hlen, q⟩ := h
  refine ⟨_, (pss_cons (ps_par (i := 1) (j := 2) rfl sc_law_purse.nd rfl rfl (by decide) rfl rfl (pa_cons pe_int (pa_cons (pe_lst pa_nil) pa_nil)) rfl)
   (pss_cons (ps_for PassesOwn.never rfl (pi_lst K (pe_slice (slL K) (pv 0) po_none (po_some pe_int))) (pg_name (i := 3) sc_law_purse.nd rfl (Or.inl rfl)) (pss_cons (ps_set (i := 1) sc_law_purse.nd rfl (Or.inl rfl) (pe_op op_mod (pe_op op_add (pe_op op_add (pe_op op_mul (pv 1) pe_int) (pe_op op_mod (pv 3) pe_int)) pe_int) pe_int))
   (pss_one (ps_if (pt_cmpR op_ge (pe_callB call_abs (by rfl) T.z_abs bt_abs (pa_cons (pv 3) pa_nil)) (pe_op op_powB pe_int pe_int) (nomark _)) (pss_one (ps_expr (pe_bmK K PySem.F.plainAttrs_list PySem.F.slot_list_append PySem.F.type_list_append mt_append (pv 2) (pa_cons (pe_op op_mod (pe_callB call_abs (by rfl) T.z_abs bt_abs (pa_cons (pv 3) pa_nil)) (pe_op op_mulB (pe_op op_powB pe_int pe_int) (pe_op op_powB pe_int pe_int))) pa_nil)))) pss_nil))))
   (pss_one (ps_ret (pe_lst (pa_cons (pv 2) (pa_cons (pv 1) (pa_cons pe_int pa_nil)))))))), ?_⟩
  refine tSeq_i ?_; walk_at "vc0"
  refine ⟨Nat.zero_le _, fun g hg => ?_⟩
  have hS1 := hS.upd' (o := .lst []) hg
  refine tSeq_i ⟨_, rfl, 63, rfl, a, _, rfl, hS1, fun l hl => ⟨l, rfl, ⟨_, SqL.of upd_same⟩, ?_⟩⟩
  obtain ⟨ms, em, hml⟩ := cut_ints (ns := ns) (lo := none) (hi := some 63)
  rw [em]
  have gl : g ≠ l := ne_of_none (upd_same (H := H) (o := .lst [])) hl
  refine for_list (K := K) (a := l) (xs := ms.map V.int) (fun i σ H' => Same H H' ∧ H' l = some (.lst (ms.map V.int)) ∧ ∃ (xs : List Int) (sd : Int) (v3 : Option V), H' g = some (.lst (xs.map V.int)) ∧ xs.length ≤ i ∧ 0 ≤ sd ∧ sd < 2305843009213693951 ∧ σ = [some (.ref a), some (.int sd), some (.ref g), v3]) ?_ ?_ ?_ ?_
  ·exact ⟨(Same.upd hg).trans (Same.upd hl), upd_same, [], 7, none, by rw [upd_ne gl]; exact upd_same, Nat.le_refl _, by decide, by decide, rfl⟩
  ·rintro i σ H' _ ⟨_, h, _⟩
   exact SqL.of h
  ·rintro i v σ H1 hv ⟨s1, h1, xs, sd, v3, h3, hx, hd0, hd1, rfl⟩
   obtain ⟨c, _, rfl⟩ := List.mem_map.mp (List.mem_of_getElem? hv)
   have hi := (List.getElem?_eq_some_iff.mp hv).1
   rw [List.length_map] at hi
   refine tSeq_i ?_; walk_at "vc0"
   have m0 : 0 ≤ (sd * 1000003 + c % 2305843009213693951 + 12345) % 2305843009213693951 := Int.emod_nonneg _ (by decide)
   have m1 : (sd * 1000003 + c % 2305843009213693951 + 12345) % 2305843009213693951 < 2305843009213693951 := Int.emod_lt_of_pos _ (by decide)
   refine ⟨.inl ⟨by omega, by omega⟩, by decide, by decide, by decide, by decide +kernel, iteD (fun _ => ?_) (fun _ => ?_)⟩
   ·refine ⟨.inl ⟨_, SqL.of h3⟩, by decide, by decide +kernel, by decide, by decide +kernel, mul60, by decide +kernel, _, h3, szt (by rw [List.length_map]; omega), ?_⟩
    refine ⟨fun b o hb => by rw [upd_ne (ne_of_none hb hg)]; exact s1 b o hb, by rw [upd_ne gl.symm]; exact h1, xs ++ [_], by rw [upd_same, List.map_append, List.map_singleton], by rw [List.length_append]; show _ + 1 ≤ _; omega, _, m0, m1, rfl, _, rfl⟩
   ·exact ⟨s1, h1, xs, h3, by omega, _, m0, m1, rfl, _, rfl⟩
  ·rintro σ H1 ⟨s1, h1, xs, sd, v3, h3, hx, hd0, hd1, rfl⟩
   walk_at "vc0"
   refine ⟨by decide, fun p hp => q p g _ ?_ hg ⟨xs, sd, 0, upd_same, ?_, ?_⟩ (s1.trans (Same.upd hp))⟩
   ·cases e : H p with
    | none => rfl
    | some o => rw [s1 _ _ e] at hp; cases hp
   ·rw [upd_ne (ne_of_none h3 hp)]; exact h3
   ·exact (ne_of_none h3 hp).symm
theorem sc_law_pick : FnScope ["_law_purse_here", "_law_many", "_law_digit", "_law_turn", "_law_prime", "_law_once", "_law_mixed"] ["_law_purse_here", "_law_many"] (defScope s_law_pick) := ⟨rfl, rfl, rfl, by decide +kernel, rfl, by decide +kernel, by decide +kernel⟩
set_option maxHeartbeats 4000000 in
theorem ok_law_pick (T : Txt K mg fs fds tc u)  : FnOk P w K mg base CX0 1 (fs 26) (fds 26) ["_law_purse_here", "_law_many"] spPick := by
 refine T.d_law_pick.F.ok sc_law_pick (fun vs H Q E h => ?_) (fun cdv A outer s H vs Q E hr h => ?_)
 ·obtain ⟨p, g, n, rfl, hp, hn0, hn, q⟩ := h
  rfl
 ·obtain ⟨p, g, n, rfl, hp, hn0, hn, q⟩ := h
  refine ⟨_, (pss_cons (ps_while PassesOwn.never (PW.pt (pw_and (pt_cmpR (neL K hr) (pe_ix (ixL K) (pv 0) pe_int (fun _ _ => rfl)) (pe_lst pa_nil) (nomark _)) (pw_and1 (pt_cmpR op_eq (pe_ix (ixL K) (pe_ix (ixL K) (pv 0) pe_int (fun _ _ => rfl)) pe_int (fun _ _ => rfl)) pe_int (nomark _))))) (pss_one (ps_expr (pe_bmK K PySem.F.plainAttrs_list PySem.F.slot_list_pop PySem.F.type_list_pop mt_popAt (pe_ix (ixL K) (pv 0) pe_int (fun _ _ => rfl)) (pa_cons pe_int pa_nil)))))
   (pss_cons (ps_if (pt_cmpR (neL K hr) (pe_ix (ixL K) (pv 0) pe_int (fun _ _ => rfl)) (pe_lst pa_nil) (nomark _)) (pss_cons (ps_set (i := 2) sc_law_pick.nd rfl (Or.inl rfl) (pe_op op_mod (pe_ix (ixL K) (pe_ix (ixL K) (pv 0) pe_int (fun _ _ => rfl)) pe_int (fun _ _ => rfl)) (pv 1)))
   (pss_cons (ps_asg (pe_op op_fdivB (pe_ix (ixL K) (pe_ix (ixL K) (pv 0) pe_int (fun _ _ => rfl)) pe_int (fun _ _ => rfl)) (pv 1)) (pg_sub (pe_ix (ixL K) (pv 0) pe_int (fun _ _ => rfl)) pe_int set_list))
   (pss_one (ps_ret (pv 2))))) pss_nil)
   (pss_cons (ps_asg (pe_op op_add (pe_ix (ixL K) (pv 0) pe_int (fun _ _ => rfl)) pe_int) (pg_sub (pv 0) pe_int set_list))
   (pss_cons (ps_set (i := 3) sc_law_pick.nd rfl (Or.inl rfl) (pe_ix (ixL K) (pv 0) pe_int (fun _ _ => rfl)))
   (pss_cons (ps_set (i := 4) sc_law_pick.nd rfl (Or.inl rfl) (pe_ix (ixL K) (ew_l (pw_c (ew pe_int) (pw_c (ew pe_int) (pw_c (ew pe_int) (pw_c (ew pe_int) (pw_c (ew pe_int) (pw_c (ew pe_int) (pw_c (ew pe_int) pw_nil)))))))).h (pe_op op_mod (pv 3) pe_int) (fun _ _ => rfl)))
   (pss_cons (ps_set (i := 5) sc_law_pick.nd rfl (Or.inl rfl) (pe_op op_mod (pe_op op_add (pe_ix (ixL K) (pv 0) pe_int (fun _ _ => rfl)) (pe_op op_mul pe_int (pv 3))) pe_int))
   (pss_cons (ps_set (i := 6) sc_law_pick.nd rfl (Or.inl rfl) (pe_op op_mul (pe_op op_mod (pe_op op_powB (pv 5) pe_int) pe_int) (pe_op op_add (pe_op op_mul pe_int (pv 3)) pe_int)))
   (pss_one (ps_ret (pe_op op_mod (pe_op op_fdivB (pe_op op_mod (pe_op op_add (pv 6) (pe_op op_fdivB (pe_ix (ixL K) (pv 0) pe_int (fun _ _ => rfl)) pe_int)) (pv 4)) pe_int) (pv 1))))))))))), ?_⟩
  refine tSeq_i (pick_loop (σ := [some (.ref p), some (.int n), none, none, none, none, none]) rfl hp fun H1 hp1 f1 => ?_)
  obtain ⟨xs, sd, c, e1, e2, ne⟩ := id hp1
  dsimp only
  refine tSeq_i ?_; walk_at "vc0"
  refine ⟨_, SqL.of e1, _, rfl, Nat.zero_le _, fun l hl => ?_⟩
  have e1' : upd H1 l (.lst []) p = some (.lst [.ref g, .int sd, .int c]) := by rw [upd_ne (ne_of_none e1 hl)]; exact e1
  have e2' : upd H1 l (.lst []) g = some (.lst (xs.map V.int)) := by rw [upd_ne (ne_of_none e2 hl)]; exact e2
  have f' : Fr p g H (upd H1 l (.lst [])) := f1.new hl
  refine ⟨g, rfl, _, SqL.of e2', _, SqL.of upd_same, fun _ => ⟨flat_ints, rfl⟩, ?_⟩
  rw [eqLV_nilr]
  cases xs with
  | cons x xs =>
   refine iteT ?_
   refine tSeq_i ?_; walk_at "vc0"
   refine ⟨_, SqL.of e1', _, rfl, g, rfl, _, SqL.of e2', V.int x, at0, x, rfl, hn0, ?_⟩
   refine tSeq_i ?_; walk_at "vc0"
   refine ⟨_, SqL.of e1', _, rfl, g, rfl, _, SqL.of e2', V.int x, at0, x, rfl, ⟨hn0, by omega⟩, _, SqL.of e1', _, rfl, g, rfl, _, e2', 0, ix0, ?_⟩
   refine q _ _ (Int.emod_nonneg _ (by omega)) (Int.emod_lt_of_pos _ hn0) ⟨x / n :: xs, sd, c, ?_, upd_same, ne⟩ (fun b o hb n1 n2 => ?_)
   ·rw [upd_ne ne]; exact e1'
   ·rw [upd_ne n2]; exact f' b o hb n1 n2
  | nil =>
   refine iteF ?_
   refine tSeq_i ?_; walk_at "vc0"
   refine ⟨_, SqL.of e1', _, rfl, _, rfl, _, e1', _, rfl, ?_⟩
   generalize hH2 : upd (upd H1 l (.lst [])) p _ = H2
   have e1'' : H2 p = some (.lst [.ref g, .int sd, .int (c + 1)]) := by rw [← hH2]; exact upd_same
   have e2'' : H2 g = some (.lst (([] : List Int).map V.int)) := by rw [← hH2, upd_ne ne.symm]; exact e2'
   have f2 : Fr p g H H2 := fun b o hb n1 n2 => by rw [← hH2, upd_ne n1]; exact f' b o hb n1 n2
   refine tSeq_i ?_; walk_at "vc0"
   refine ⟨_, SqL.of e1'', _, rfl, ?_⟩
   refine tSeq_i ?_; walk_at "vc0"
   refine ⟨by decide, fun l2 hl2 => ⟨by decide, _, SqL.of upd_same, ?_⟩⟩
   have m0 : 0 ≤ (c + 1) % 7 := Int.emod_nonneg _ (by decide)
   have m1 : (c + 1) % 7 < 7 := Int.emod_lt_of_pos _ (by decide)
   obtain ⟨v, hv1, hv2⟩ := atI_mem (xs := [V.int 2147483629, V.int 2147483587, V.int 2147483579, V.int 2147483563, V.int 2147483549, V.int 2147483543, V.int 2147483497]) m0 m1
   obtain ⟨pr, rfl, hpr⟩ : ∃ pr : Int, v = .int pr ∧ 0 < pr := by
    simp only [List.mem_cons, List.mem_nil_iff, or_false] at hv1
    rcases hv1 with h | h | h | h | h | h | h <;> exact ⟨_, h, by decide⟩
   refine ⟨_, hv2, ?_⟩
   have e1n : upd H2 l2 (.lst [V.int 2147483629, V.int 2147483587, V.int 2147483579, V.int 2147483563, V.int 2147483549, V.int 2147483543, V.int 2147483497]) p = some (.lst [.ref g, .int sd, .int (c + 1)]) := by rw [upd_ne (ne_of_none e1'' hl2)]; exact e1''
   have e2n : upd H2 l2 (.lst [V.int 2147483629, V.int 2147483587, V.int 2147483579, V.int 2147483563, V.int 2147483549, V.int 2147483543, V.int 2147483497]) g = some (.lst (([] : List Int).map V.int)) := by rw [upd_ne (ne_of_none e2'' hl2)]; exact e2''
   have f3 := f2.new (o := .lst [V.int 2147483629, V.int 2147483587, V.int 2147483579, V.int 2147483563, V.int 2147483549, V.int 2147483543, V.int 2147483497]) hl2
   generalize upd H2 l2 (.lst [V.int 2147483629, V.int 2147483587, V.int 2147483579, V.int 2147483563, V.int 2147483549, V.int 2147483543, V.int 2147483497]) = H3 at e1n e2n f3
   refine tSeq_i ?_; walk_at "vc0"
   refine ⟨_, SqL.of e1n, _, rfl, .inl ⟨by decide, by decide⟩, _, rfl, by decide, ?_⟩
   have o0 : 0 ≤ (sd + 65537 * (c + 1)) % 2147483647 := Int.emod_nonneg _ (by decide)
   have o1 : (sd + 65537 * (c + 1)) % 2147483647 < 2147483647 := Int.emod_lt_of_pos _ (by decide)
   generalize (sd + 65537 * (c + 1)) % 2147483647 = on at o0 o1
   refine tSeq_i ?_; walk_at "vc0"
   have b1 := intBits_le_64 (k := on) (by omega) (by omega)
   have w0 : 0 ≤ on ^ Int.toNat 5 % 2147483647 := Int.emod_nonneg _ (by decide)
   have w1 : on ^ Int.toNat 5 % 2147483647 < 2147483647 := Int.emod_lt_of_pos _ (by decide)
   refine ⟨by decide, by omega, by decide, .inl ⟨by decide, by decide⟩, .inl ⟨by omega, by omega⟩, ?_⟩
   refine ⟨_, SqL.of e1n, _, rfl, _, rfl, ⟨by decide, by decide⟩, hpr, ⟨by decide, by decide⟩, hn0, ?_⟩
   exact q _ _ (Int.emod_nonneg _ (by omega)) (Int.emod_lt_of_pos _ hn0) ⟨[], sd, c + 1, e1n, e2n, ne⟩ f3
theorem sc_law_written : FnScope ["_law_letter_here"] ["_law_letter_here"] (defScope s_law_written) := ⟨rfl, rfl, rfl, by decide +kernel, rfl, by decide +kernel, by decide +kernel⟩
set_option maxHeartbeats 4000000 in
theorem ok_law_written (T : Txt K mg fs fds tc u)  : FnOk P w K mg base CX0 1 (fs 36) (fds 36) ["_law_letter_here"] (spTx LtV Lt.T) := by
 refine T.d_law_written.F.ok sc_law_written (fun vs H Q E h => ?_) (fun cdv A outer s H vs Q E hr h => ?_)
 ·obtain ⟨v, x, rfl, hR, q⟩ := h
  rfl
 ·obtain ⟨v, x, rfl, hR, q⟩ := h
  refine ⟨_, (pss_one (ps_ret (pe_op op_add_str (pe_op op_add_str (pe_op op_add_str (pe_op op_add_str (pe_op op_add_str (pe_op op_add_str (pe_ix (ixT K) (pv 0) pe_int (fun _ _ => rfl)) pe_str) (pe_callTy call_str_int (by rfl) T.z_str bt_str (pa_cons (pe_ix (ixT K) (pv 0) pe_int (fun _ _ => rfl)) pa_nil))) pe_str) (pe_orS (pe_bmK K PySem.F.plainAttrs_str PySem.F.slot_str_join PySem.F.type_str_join (joinT K) pe_str (pa_cons (pe_ix (ixT K) (pv 0) pe_int (fun _ _ => rfl)) pa_nil)) (pe_one pe_str))) pe_str) (pe_ix (ixT K) (pv 0) pe_int (fun _ _ => rfl))))), ?_⟩
  obtain ⟨n, d, h, row⟩ := x
  obtain ⟨a, r, rfl, ha, hr2⟩ := hR.at'
  have ok := hR.ok
  dsimp only at ha hr2
  walk_at "vc0"
  have h1 := day_le (show (0 : Int) ≤ d from ok.d0) ok.d1
  have h2 : (row.map (·.length)).sum + row.length * (Str.ofString ",").length ≤ 117 := row_le ok.lr ok.rw'
  have h3 := Nat.le_trans (join_le (Str.ofString ",") row) h2
  have h4 : n.length ≤ 12 := (nameB_len ok.nm).2
  have h5 : h.length ≤ 60 := ok.hd.1
  have ht := SqT.of (K := K) ha
  have q' : ∀ H', Same H H' → Q (.str (ltT n d h row)) H' := q
  refine ⟨_, ht, _, rfl, _, rfl, szl (by rw [s1]; omega), _, ht, _, rfl, _, rfl, day_log ok.d0 ok.d1, ?_⟩
  simp only [lenA, s1, s1d]
  refine ⟨szl (by omega), szl (by omega), _, ht, _, rfl, _, rfl, row, SqT.of hr2, by omega, szl (by omega), ?_⟩
  cases row with
  | nil =>
   rw [join_nil']
   refine iteF ⟨szl (by omega), szl (by omega), _, ht, _, rfl, _, rfl, szl (by omega), q' H (Same.refl _)⟩
  | cons z zs =>
   have hpos := join_pos (z := Str.ofString ",") (ys := z :: zs) (by simp) fun y hy => (nameB_len (ok.rw' y hy)).1
   rw [show (((Txt.join (Str.ofString ",") (z :: zs)).length : Int) != 0) = true by simp; omega]
   refine iteT ⟨szl (by omega), szl (by omega), _, ht, _, rfl, _, rfl, szl (by omega), q' H (Same.refl _)⟩
theorem sc_law_rules_written : FnScope ["_law_rules_here"] ["_law_rules_here"] (defScope s_law_rules_written) := ⟨rfl, rfl, rfl, by decide +kernel, rfl, by decide +kernel, by decide +kernel⟩
set_option maxHeartbeats 4000000 in
theorem ok_law_rules_written (T : Txt K mg fs fds tc u)  : FnOk P w K mg base CX0 1 (fs 37) (fds 37) ["_law_rules_here"] (spTx RlsV rulesT) := by
 refine T.d_law_rules_written.F.ok sc_law_rules_written (fun vs H Q E h => ?_) (fun cdv A outer s H vs Q E hr h => ?_)
 ·obtain ⟨v, xs, rfl, hR, q⟩ := h
  rfl
 ·obtain ⟨v, xs, rfl, hR, q⟩ := h
  refine ⟨_, (pss_one (ps_ret (pe_bmK K PySem.F.plainAttrs_str PySem.F.slot_str_join PySem.F.type_str_join (joinK K) pe_str (pa_cons (pe_lc ["_law_kind", "_law_word"] 2 [] ["_law_rules_here"] (defScope s_law_rules_written) rfl rfl rfl (pi_tpl K (pv 0)) (by decide +kernel) (fun _ => (pg_tupK (n := 2) K rfl (pgs_cons (pg_name (i := 0) (show (["_law_kind", "_law_word"] : List Str).Nodup by decide +kernel) rfl (Or.inl rfl)) (pgs_cons (pg_name (i := 1) (show (["_law_kind", "_law_word"] : List Str).Nodup by decide +kernel) rfl (Or.inl rfl)) pgs_nil)))) (fun _ => pts_nil) (fun _ => (pe_op op_add_str (pe_op op_add_str (pv 0) pe_str) (pv 1)))) pa_nil)))), ?_⟩
  obtain ⟨a, vs, rfl, ha, hA⟩ := hR.tr.tup'
  have lv := hA.length
  rw [List.length_map] at lv
  have few := hR.few
  walk_at "vc1"
  refine ⟨rfl, _, rfl, a, rfl, ⟨_, SqT.of ha⟩, fun l hl => comp_tupX (SqT.of ha) ((xs.map rlT).map V.str) (by rw [List.length_map, List.length_map]; exact lv) (fun σ => ∃ o o2, σ = [o, o2]) ⟨_, _, rfl⟩ hl (szt (by omega)) ?_ ?_⟩
  ·rintro i y u σ H1 zs N hx hy ⟨o, o2, rfl⟩ s1' e1 hz hN
   obtain ⟨t, ht, rfl⟩ := strAt hy
   rw [List.getElem?_map] at ht
   obtain ⟨x, hxx, rfl⟩ := Option.map_eq_some_iff.mp ht
   obtain ⟨p, hp, tr⟩ := hA.get hx
   rw [List.getElem?_map, hxx] at hp
   have hp := (Option.some.inj hp).symm
   subst hp
   have ok := hR.ok x (List.mem_of_getElem? hxx)
   have tr := tr.kp s1'.kt
   unfold turnOf
   obtain ⟨c, w', rfl, hk, hw, _⟩ := ruleOk_no ok
   obtain ⟨a', d, b, rfl, ha', hd, hb⟩ := ps_two (show Tr H1 (.tup [.str c, .str w']) y from tr)
   cases hd
   cases hb
   have h1 := ks_len hk
   have h2 := (wordB_len hw).2
   walk_at "vc2"
   refine ⟨_, SqT.of ha', rfl, _, _, rfl, _, _, rfl, rfl, ?_⟩
   simp only [lenA, s1]
   have et : rlT [c, w'] = c ++ BL ++ w' := by unfold rlT; rw [joinT_eq]; rfl
   rw [et] at hN
   exact ⟨c, rfl, szl (by omega), w', rfl, szl (by omega), zs, e1, hz, hN _ _ ⟨_, _, rfl⟩ (fun b o h n => by rw [upd_ne n]; exact h) upd_same⟩
  ·intro H1 s1' e1
   refine ⟨_, l, _, rfl, rfl, SqL.of e1, ?_, q H1 s1'⟩
   have h := rows_le (T := rlT) (z := CB) (c := 402) (m := 6) (fun x hx => Nat.le_trans (rlT_le (hR.ok x hx)) (by decide)) few (by rw [s2c]; decide)
   exact Nat.le_trans h (by decide)
theorem sc_is_day : FnScope ["thing"] ["thing"] (defScope s_is_day) := ⟨rfl, rfl, rfl, by decide +kernel, rfl, by decide +kernel, by decide +kernel⟩
set_option maxHeartbeats 4000000 in
theorem ok_is_day (T : Txt K mg fs fds tc u) (G_is_whole : FnOk P w K mg base CX0 1 (fs 1) (fds 1) ["thing"] spWhole) : FnOk P w K mg base CX0 2 (fs 2) (fds 2) ["thing"] spDayV := by
 refine T.d_is_day.F.ok sc_is_day (fun vs H Q E h => ?_) (fun cdv A outer s H vs Q E hr h => ?_)
 ·obtain ⟨v, k, rfl, hT, q⟩ := h
  rfl
 ·obtain ⟨v, k, rfl, hT, q⟩ := h
  refine ⟨_, (pss_one (ps_ret (pe_and (pe_fn T.d_is_whole G_is_whole hr (by decide) rfl (pa_cons (pv 0) pa_nil)) (pe_one (pe_chain op_le op_le pe_int (pv 0) (pe_glob (v := .int 99999999) rfl T.c_LAST_DAY T.r_LAST_DAY)))))), ?_⟩
  walk_at "vc0"
  refine ⟨v, k, rfl, hT, _, rfl, ?_⟩
  by_cases e : k = .int
  ·subst e
   obtain ⟨i, rfl⟩ := hT.is
   rw [decide_eq_true rfl]
   refine iteT ⟨_, rfl, iteD (fun g => ⟨_, rfl, ?_⟩) (fun g => ?_)⟩
   ·have e : dayV (.int i) = decide (i ≤ 99999999) := by show (decide (0 ≤ i) && decide (i ≤ 99999999)) = _; rw [decide_eq_true g, Bool.true_and]
    rw [← e]; exact q
   ·have e : dayV (.int i) = false := by show (decide (0 ≤ i) && decide (i ≤ 99999999)) = _; rw [decide_eq_false g, Bool.false_and]
    rw [← e]; exact q
  ·rw [dayV_no hT.is e] at q
   rw [decide_eq_false e]
   exact iteF q
theorem sc_is_row : FnScope ["thing"] ["thing"] (defScope s_is_row) := ⟨rfl, rfl, rfl, by decide +kernel, rfl, by decide +kernel, by decide +kernel⟩
set_option maxHeartbeats 4000000 in
theorem ok_is_row (T : Txt K mg fs fds tc u) (G_is_name : FnOk P w K mg base CX0 1 (fs 0) (fds 0) ["thing"] spNameV) : FnOk P w K mg base CX0 2 (fs 4) (fds 4) ["thing"] (spP rowV 1) := by
 refine T.d_is_row.F.ok sc_is_row (fun vs H Q E h => ?_) (fun cdv A outer s H vs Q E hr h => ?_)
 ·obtain ⟨v, rfl, hA, q⟩ := h
  rfl
 ·obtain ⟨v, rfl, hA, q⟩ := h
  refine ⟨_, (pss_cons (ps_if (PW.pt (pw_or (pt_not (pt_val (pe_callB (isiK K) (by rfl) T.z_isinstance bt_isinstance (pa_cons (pv 0) (pa_cons (pe_bltn (v := .ty "tuple") rfl T.z_tuple bt_tuple rfl) pa_nil))))) (pw_or1 (pt_cmpR op_gt (pe_callB (lenT K) (by rfl) T.z_len bt_len (pa_cons (pv 0) pa_nil)) (pe_glob (v := .int 9) rfl T.c_LONGEST_ROW T.r_LONGEST_ROW) (nomark _))))) (pss_one (ps_ret pe_bl)) pss_nil)
   (pss_one (ps_ret (pe_callB (allL K rfl) (by rfl) T.z_all bt_all (pa_cons (pe_lc ["part"] 1 [] ["thing"] (defScope s_is_row) rfl rfl rfl (pi_tpl K (pv 0)) (by decide +kernel) (fun _ => (pg_name (i := 0) (show (["part"] : List Str).Nodup by decide +kernel) rfl (Or.inl rfl))) (fun _ => pts_nil) (fun _ => (pe_fn T.d_is_name G_is_name hr (by decide) rfl (pa_cons (pv 0) pa_nil)))) pa_nil))))), ?_⟩
  obtain ⟨⟨k, hT⟩, hx⟩ := hA
  refine tSeq_i ?_; walk_at "vc0"
  refine ⟨_, hT.is.ty, _, kd_tup k, ?_⟩
  rcases hT.tup with ⟨rfl, a, xs, rfl, ha, et⟩ | ⟨n, et⟩
  ·rw [decide_eq_true rfl]
   refine notyes ?_
   have hx := hx xs et
   have hxl := hx.1
   have eq : rowV H (.ref a) = (!decide (9 < (xs.length : Int)) && xs.all nameV) := by unfold rowV; rw [et]
   rw [eq] at q
   walk_at "vc0"
   refine ⟨_, SqT.of ha, iteD (fun g1 => ?_) (fun g1 => ?_)⟩
   ·rw [decide_eq_true g1] at q
    exact q _ (Same.refl _)
   ·rw [decide_eq_false g1] at q
    refine ⟨_, rfl, a, rfl, ⟨_, SqT.of ha⟩, fun l hl0 => comp_tupG (SqT.of ha) (fun v => .bl (nameV v)) (fun σ => ∃ o, σ = [o]) ⟨_, rfl⟩ hl0 (szt (by omega)) ?_ ?_⟩
    ·rintro i x σ H1 ys N hxi ⟨o, rfl⟩ s1 e1 hz hN
     obtain ⟨k', hk'⟩ := hx.2 x (List.mem_of_getElem? hxi)
     unfold turnOf
     walk_at "vc2"
     exact ⟨x, k', rfl, hk'.same s1, fun H2 s2 => ⟨ys, s2 _ _ e1, hz, hN _ _ ⟨_, rfl⟩ (fun b o h n => by rw [upd_ne n]; exact s2 b o h) upd_same⟩⟩
    ·intro H1 s1 e1
     refine ⟨l, rfl, xs.map nameV, SqL.of (by rw [e1]; unfold isBl; rw [List.map_map]; rfl), ?_⟩
     rw [show (xs.map nameV).all id = (!false && xs.all nameV) from by rw [List.all_map]; rfl]
     exact q _ s1
  ·have eq : rowV H v = false := by unfold rowV; rw [et]
   rw [eq] at q
   rw [decide_eq_false n]
   exact notnot (q H (Same.refl _))
theorem sc_is_rule : FnScope ["thing"] ["thing"] (defScope s_is_rule) := ⟨rfl, rfl, rfl, by decide +kernel, rfl, by decide +kernel, by decide +kernel⟩
set_option maxHeartbeats 4000000 in
theorem ok_is_rule (T : Txt K mg fs fds tc u) (G_is_kind : FnOk P w K mg base CX0 1 (fs 7) (fds 7) ["thing"] spKindV) (G_is_word : FnOk P w K mg base CX0 1 (fs 8) (fds 8) ["thing"] spWordV) : FnOk P w K mg base CX0 2 (fs 9) (fds 9) ["thing"] spRuleV := by
 refine T.d_is_rule.F.ok sc_is_rule (fun vs H Q E h => ?_) (fun cdv A outer s H vs Q E hr h => ?_)
 ·obtain ⟨v, rfl, hA, q⟩ := h
  rfl
 ·obtain ⟨v, rfl, hA, q⟩ := h
  refine ⟨_, (pss_cons (ps_if (PW.pt (pw_or (pt_not (pt_val (pe_callB (isiK K) (by rfl) T.z_isinstance bt_isinstance (pa_cons (pv 0) (pa_cons (pe_bltn (v := .ty "tuple") rfl T.z_tuple bt_tuple rfl) pa_nil))))) (pw_or1 (pt_cmpR op_ne (pe_callB (lenT K) (by rfl) T.z_len bt_len (pa_cons (pv 0) pa_nil)) pe_int (nomark _))))) (pss_one (ps_ret pe_bl)) pss_nil)
   (pss_one (ps_ret (pe_and (pe_fn T.d_is_kind G_is_kind hr (by decide) rfl (pa_cons (pe_ix (ixT K) (pv 0) pe_int (fun _ _ => rfl)) pa_nil)) (pe_one (pe_fn T.d_is_word G_is_word hr (by decide) rfl (pa_cons (pe_ix (ixT K) (pv 0) pe_int (fun _ _ => rfl)) pa_nil))))))), ?_⟩
  obtain ⟨⟨k, hT⟩, hx⟩ := hA
  refine tSeq_i ?_; walk_at "vc0"
  refine ⟨_, hT.is.ty, _, kd_tup k, ?_⟩
  rcases hT.tup with ⟨rfl, a, xs, rfl, ha, et⟩ | ⟨n, et⟩
  ·rw [decide_eq_true rfl]
   refine notyes ?_
   have hx := hx xs et
   walk_at "vc0"
   refine ⟨_, SqT.of ha, rfl, ?_⟩
   by_cases h2 : xs.length = 2
   ·match xs, h2 with
    | [c, d], _ =>
     have eq : ruleV H (.ref a) = (kindV c && wordV d) := by unfold ruleV; rw [et]; rfl
     rw [eq] at q
     obtain ⟨kc, tc'⟩ := hx.2 c (by simp)
     obtain ⟨kd, td⟩ := hx.2 d (by simp)
     rw [decide_eq_true (show (([c, d] : List V).length : Int) = 2 from rfl)]
     refine notyes ⟨_, SqT.of ha, _, rfl, c, kc, rfl, tc', fun H1 s1 => ⟨_, rfl, ?_⟩⟩
     cases e1 : kindV c with
     | false => rw [e1] at q; exact iteF (q H1 s1)
     | true =>
      rw [e1, Bool.true_and] at q
      exact iteT ⟨_, (SqT.of ha).same s1, _, rfl, d, kd, rfl, td.same s1, fun H2 s2 => q H2 (s1.trans s2)⟩
   ·have eq : ruleV H (.ref a) = false := by unfold ruleV; rw [et]; exact ruleL_no h2
    rw [eq] at q
    rw [decide_eq_false (show ¬ (xs.length : Int) = 2 by omega)]
    exact notnot (q H (Same.refl _))
  ·have eq : ruleV H v = false := by unfold ruleV; rw [et]
   rw [eq] at q
   rw [decide_eq_false n]
   exact notnot (q H (Same.refl _))
theorem sc_number_in : FnScope ["text"] ["text"] (defScope s_number_in) := ⟨rfl, rfl, rfl, by decide +kernel, rfl, by decide +kernel, by decide +kernel⟩
set_option maxHeartbeats 4000000 in
theorem ok_number_in (T : Txt K mg fs fds tc u) (G_is_count : FnOk P w K mg base CX0 1 (fs 11) (fds 11) ["text"] spCnt) : FnOk P w K mg base CX0 2 (fs 12) (fds 12) ["text"] spNum := by
 refine T.d_number_in.F.ok sc_number_in (fun vs H Q E h => ?_) (fun cdv A outer s H vs Q E hr h => ?_)
 ·obtain ⟨x, rfl, hx, q⟩ := h
  rfl
 ·obtain ⟨x, rfl, hx, q⟩ := h
  refine ⟨_, (pss_cons (ps_if (PW.pt (pw_or (pt_cmpR op_gt (pe_callB call_len_str (by rfl) T.z_len bt_len (pa_cons (pv 0) pa_nil)) (pe_glob (v := .int 9) rfl T.c_MOST_FIGURES T.r_MOST_FIGURES) (nomark _)) (pw_or1 (pt_not (pt_val (pe_fn T.d_is_count G_is_count hr (by decide) rfl (pa_cons (pv 0) pa_nil))))))) (pss_one (ps_ret pe_non)) pss_nil)
   (pss_cons (ps_if (PW.pt (pw_and (pt_cmpR op_eq (pe_ix ix_str (pv 0) pe_int (fun _ _ => rfl)) pe_str (nomark _)) (pw_and1 (pt_cmpR op_ne (pv 0) pe_str (nomark _))))) (pss_one (ps_ret pe_non)) pss_nil)
   (pss_one (ps_ret (pe_callTy call_intS (by rfl) T.z_int bt_int (pa_cons (pv 0) pa_nil)))))), ?_⟩
  refine tSeq_i ?_; walk_at "vc0"
  refine ⟨szl (by omega), iteD (fun g => ?_) (fun g => ?_)⟩
  ·have e : numP x = none := by unfold numP; rw [decide_eq_true g]; rfl
   rw [e] at q
   exact q H (Same.refl _)
  refine ⟨x, rfl, hx, fun H1 s1 => ⟨_, rfl, ?_⟩⟩
  have hl : x.length ≤ 9 := by omega
  cases ec : cntB x with
  | false =>
   have e : numP x = none := by unfold numP; rw [ec, Bool.not_false, Bool.or_true]; rfl
   rw [e] at q
   exact notnot (q H1 s1)
  | true =>
   refine notyes ?_
   have h0 : x ≠ Str.ofString "" := by
    intro z
    rw [z] at ec
    exact absurd ec (by decide +kernel)
   obtain ⟨c, r, hc⟩ : ∃ c r, x.cps.toList = c :: r := by
    cases e : x.cps.toList with
    | nil => exact absurd (PM.ext_codes (by rw [e]; decide +kernel)) h0
    | cons c r => exact ⟨c, r, rfl⟩
   have h1 : atI x.cps.toList 0 = some c := by rw [hc]; exact atI_nat (j := 0) rfl
   have ez : decide ((⟨#[c]⟩ : Str) = Str.ofString "0") = decide (x.cps.toList.head? = some 48) := by
    rw [hc, show Str.ofString "0" = ⟨#[48]⟩ from by decide +kernel]
    by_cases e : c = 48
    ·rw [e]; rfl
    ·rw [decide_eq_false (by intro z; cases z; exact e rfl), decide_eq_false (by intro z; cases z; exact e rfl)]
   have nm : numP x = if zeroB x = true then none else intText? x := by
    unfold numP
    rw [ec, decide_eq_false g]
    rfl
   obtain ⟨n, hn⟩ := cnt_int ec hl
   refine tSeq_i ?_; walk_at "vc0"
   refine ⟨szl (by omega), c, h1, rfl, ?_⟩
   rw [ez]
   have fin : zeroB x = false → Q (.int n) H1 := fun z => by
    rw [nm, z, if_neg Bool.false_ne_true, hn] at q
    exact q H1 s1
   cases e1 : decide (x.cps.toList.head? = some 48) with
   | false =>
    refine iteF ⟨by omega, n, hn, fin ?_⟩
    unfold zeroB
    rw [e1]; rfl
   | true =>
    refine iteT ⟨rfl, ?_⟩
    by_cases e2 : x = Str.ofString "0"
    ·rw [decide_eq_true e2]
     refine notyes ⟨by omega, n, hn, fin ?_⟩
     unfold zeroB
     rw [e1, decide_eq_true e2]; rfl
    ·rw [decide_eq_false e2]
     refine notnot ?_
     have z : zeroB x = true := by unfold zeroB; rw [e1, decide_eq_false e2]; rfl
     rw [nm, z, if_pos rfl] at q
     exact q H1 s1
theorem sc_rows_in : FnScope ["text", "rows"] ["text"] (defScope s_rows_in) := ⟨rfl, rfl, rfl, by decide +kernel, rfl, by decide +kernel, by decide +kernel⟩
set_option maxHeartbeats 4000000 in
theorem ok_rows_in (T : Txt K mg fs fds tc u) (G_checked : FnOk P w K mg base CX0 1 (fs 13) (fds 13) ["text"] spChk) : FnOk P w K mg base CX0 2 (fs 14) (fds 14) ["text"] spRows := by
 refine T.d_rows_in.F.ok sc_rows_in (fun vs H Q E h => ?_) (fun cdv A outer s H vs Q E hr h => ?_)
 ·obtain ⟨x, rfl, hx, q⟩ := h
  rfl
 ·obtain ⟨x, rfl, hx, q⟩ := h
  refine ⟨_, (pss_cons (ps_set (i := 1) sc_rows_in.nd rfl (Or.inl rfl) (pe_bmK K PySem.F.plainAttrs_str PySem.F.slot_str_split PySem.F.type_str_split mt_split (pe_fn T.d_checked G_checked hr (by decide) rfl (pa_cons (pv 0) pa_nil)) (pa_cons pe_str pa_nil)))
   (pss_one (ps_ret (pe_ifExp (pt_cmpR (eqL K hr) (pv 1) (ew_l (pw_c (ew pe_str) pw_nil)).h (nomark _)) (pe_lst pa_nil) (pv 1))))), ?_⟩
  refine tSeq_i ?_; walk_at "vc1"
  refine split_in ⟨_, rfl, x, rfl, rfl, rSplit_of (by rw [s1n]; decide) hx fun l hl => ⟨by decide, fun p hp => ?_⟩⟩
  have el : upd H l (.lst ((Txt.split x NL).map V.str)) l = some (.lst ((Txt.split x NL).map V.str)) := upd_same
  have el2 : upd (upd H l (.lst ((Txt.split x NL).map V.str))) p (.lst ([EM].map V.str)) l = some (.lst ((Txt.split x NL).map V.str)) := by rw [upd_ne (ne_of_none el hp)]; exact el
  have s2 : Same H (upd (upd H l (.lst ((Txt.split x NL).map V.str))) p (.lst ([EM].map V.str))) := (Same.upd hl).trans (Same.upd hp)
  refine ⟨l, rfl, (Txt.split x NL).map V.str, SqL.of el2, [EM].map V.str, SqL.of upd_same, fun _ => ⟨flat_strs, flat_strs⟩, ?_⟩
  rw [eqLV_strs]
  refine iteD (fun e => ⟨Nat.zero_le _, fun r hr => ?_⟩) (fun e => ?_)
  ·refine q r _ ?_ (s2.trans (Same.upd hr)) (by unfold rowsP; rw [if_pos e]; exact upd_same)
   cases e2 : H r with
   | none => rfl
   | some o => exact nomatch (hr.symm.trans (s2 _ _ e2))
  ·exact q l _ hl s2 (by unfold rowsP; rw [if_neg e]; exact el2)
theorem sc_law_name : FnScope ["_law_purse_here", "_law_signs", "_law_size"] ["_law_purse_here"] (defScope s_law_name) := ⟨rfl, rfl, rfl, by decide +kernel, rfl, by decide +kernel, by decide +kernel⟩
set_option maxHeartbeats 4000000 in
theorem ok_law_name (T : Txt K mg fs fds tc u) (G_law_pick : FnOk P w K mg base CX0 1 (fs 26) (fds 26) ["_law_purse_here", "_law_many"] spPick) : FnOk P w K mg base CX0 2 (fs 27) (fds 27) ["_law_purse_here"] spName := by
 refine T.d_law_name.F.ok sc_law_name (fun vs H Q E h => ?_) (fun cdv A outer s H vs Q E hr h => ?_)
 ·obtain ⟨p, g, rfl, hp, q⟩ := h
  rfl
 ·obtain ⟨p, g, rfl, hp, q⟩ := h
  refine ⟨_, (pss_cons (ps_set (i := 1) sc_law_name.nd rfl (Or.inr rfl) (pe_ix (ixL K) (ew_l (pw_c (ew pe_str) (pw_c (ew pe_str) pw_nil))).h (pe_op op_fdivB (pe_fn T.d_law_pick G_law_pick hr (by decide) rfl (pa_cons (pv 0) (pa_cons pe_int pa_nil))) pe_int) (fun _ _ => rfl)))
   (pss_cons (ps_set (i := 2) sc_law_name.nd rfl (Or.inl rfl) (pe_ix (ixL K) (ew_l (pw_c (ew pe_int) (pw_c (ew pe_int) (pw_c (ew pe_int) (pw_c (ew pe_int) (pw_c (ew pe_int) (pw_c (ew pe_int) pw_nil))))))).h (pe_fn T.d_law_pick G_law_pick hr (by decide) rfl (pa_cons (pv 0) (pa_cons pe_int pa_nil))) (fun _ _ => rfl)))
   (pss_one (ps_ret (pe_bmK K PySem.F.plainAttrs_str PySem.F.slot_str_join PySem.F.type_str_join (joinK K) pe_str (pa_cons (pe_lc ["_law_k", "_law_signs", "_law_purse_here"] 1 [1, 0] ["_law_purse_here", "_law_signs", "_law_size"] (defScope s_law_name) rfl rfl rfl (pi_range1 rfl T.z_range (pa_cons (pv 2) pa_nil)) (by decide +kernel) (fun _ => (pg_name (i := 0) (show (["_law_k", "_law_signs", "_law_purse_here"] : List Str).Nodup by decide +kernel) rfl (Or.inl rfl))) (fun _ => pts_nil) (fun _ => (pe_ix ix_str (pv 1) (pe_fn T.d_law_pick G_law_pick hr (by decide) rfl (pa_cons (pv 2) (pa_cons (pe_callB call_len_str (by rfl) T.z_len bt_len (pa_cons (pv 1) pa_nil)) pa_nil))) (fun _ _ => rfl)))) pa_nil)))))), ?_⟩
  have e36 : ABC.length = 36 := by decide +kernel
  have e5 : AB5.length = 5 := by decide +kernel
  refine tSeq_i ?_; walk_at "vc0"
  refine ⟨by decide, fun l hl => ⟨p, g, 3, rfl, hp.new hl, by decide, by decide, fun d H1 d0 d1 hp1 f1 => ⟨d, rfl, ⟨by decide, by decide⟩, ?_⟩⟩⟩
  have hl1 := f1 l _ upd_same (hp.nep hl).symm (hp.neg hl).symm
  obtain ⟨Z, hZ, hz0, hz1, hzA⟩ : ∃ Z : Str, atI [V.str (Str.ofString "abz09"), V.str (Str.ofString "abcdefghijklmnopqrstuvwxyz0123456789")] (d / 2) = some (.str Z) ∧ 0 < Z.length ∧ Z.length ≤ 1000 ∧ ∀ c ∈ Z.cps.toList, c ∈ ABC.cps.toList := by
   have hd : d / 2 = 0 ∨ d / 2 = 1 := by omega
   rcases hd with h | h <;> rw [h]
   ·exact ⟨_, rfl, by rw [e5]; decide, by rw [e5]; decide, ab5_abc⟩
   ·exact ⟨_, rfl, by rw [e36]; decide, by rw [e36]; decide, fun _ h => h⟩
  refine ⟨_, SqL.of hl1, _, hZ, ?_⟩
  refine tSeq_i ?_; walk_at "vc1"
  refine pick_of (xs := [V.int 1, V.int 2, V.int 2, V.int 3, V.int 5, V.int 12]) hp1 rfl rfl (by decide) (by decide) fun v H2 hv hp2 f2 => ?_
  obtain ⟨m, rfl, hm0, hm1⟩ : ∃ m : Int, v = .int m ∧ 1 ≤ m ∧ m ≤ 12 := by
   simp only [List.mem_cons, List.mem_nil_iff, or_false] at hv
   rcases hv with h | h | h | h | h | h <;> exact ⟨_, h, by decide, by decide⟩
  refine ⟨rfl, _, rfl, _, rfl, by omega, by omega, fun l4 hl4 => draw_Z (Z := Z) _ rfl hp2 hl4 (by omega) hz0 hz1 fun zs H4 e hz hn hp4 b4 => ?_⟩
  have hzn : (zs.length : Int) = m := by omega
  refine ⟨_, l4, zs, rfl, rfl, SqL.of e, by rw [s0, join_len fun y hy => (hz y hy).1]; omega, q _ H4 (name_join hzA hz (by omega) (by omega)) hp4 ?_⟩
  exact (((Fr.of (Same.upd hl)).trans f1).trans f2).trans b4
theorem sc_law_day : FnScope ["_law_purse_here", "_law_lot"] ["_law_purse_here"] (defScope s_law_day) := ⟨rfl, rfl, rfl, by decide +kernel, rfl, by decide +kernel, by decide +kernel⟩
set_option maxHeartbeats 4000000 in
theorem ok_law_day (T : Txt K mg fs fds tc u) (G_law_pick : FnOk P w K mg base CX0 1 (fs 26) (fds 26) ["_law_purse_here", "_law_many"] spPick) : FnOk P w K mg base CX0 2 (fs 29) (fds 29) ["_law_purse_here"] spDay := by
 refine T.d_law_day.F.ok sc_law_day (fun vs H Q E h => ?_) (fun cdv A outer s H vs Q E hr h => ?_)
 ·obtain ⟨p, g, rfl, hp, q⟩ := h
  rfl
 ·obtain ⟨p, g, rfl, hp, q⟩ := h
  refine ⟨_, (pss_cons (ps_set (i := 1) sc_law_day.nd rfl (Or.inl rfl) (pe_fn T.d_law_pick G_law_pick hr (by decide) rfl (pa_cons (pv 0) (pa_cons pe_int pa_nil))))
   (pss_cons (ps_if (pt_cmpR op_lt (pv 1) pe_int (nomark _)) (pss_one (ps_ret (pe_op op_add pe_int (pv 1)))) pss_nil)
   (pss_cons (ps_if (pt_cmpR op_lt (pv 1) pe_int (nomark _)) (pss_one (ps_ret (pe_op op_mul (pe_op op_sub (pv 1) pe_int) pe_int))) pss_nil)
   (pss_one (ps_ret (pe_fn T.d_law_pick G_law_pick hr (by decide) rfl (pa_cons (pv 0) (pa_cons pe_int pa_nil)))))))), ?_⟩
  refine tSeq_i ?_; walk_at "vc0"
  refine ⟨p, g, 8, rfl, hp, by decide, by decide, fun d H1 d0 d1 hp1 f1 => ?_⟩
  refine tSeq_i ?_; walk_at "vc0"
  refine iteD (fun g1 => ?_) (fun g1 => ?_)
  ·exact q _ H1 (by omega) (by omega) hp1 f1
  refine tSeq_i ?_; walk_at "vc0"
  refine iteD (fun g2 => ?_) (fun g2 => ?_)
  ·exact ⟨.inr ⟨by decide, by decide⟩, q _ H1 (by omega) (by omega) hp1 f1⟩
  ·exact ⟨p, g, _, rfl, hp1, by decide, by decide, fun d2 H2 e0 e1 hp2 f2 => q _ H2 e0 (by omega) hp2 (f1.trans f2)⟩
theorem sc_law_sign : FnScope ["_law_purse_here", "_law_signs", "_law_few"] ["_law_purse_here"] (defScope s_law_sign) := ⟨rfl, rfl, rfl, by decide +kernel, rfl, by decide +kernel, by decide +kernel⟩
set_option maxHeartbeats 4000000 in
theorem ok_law_sign (T : Txt K mg fs fds tc u) (G_law_pick : FnOk P w K mg base CX0 1 (fs 26) (fds 26) ["_law_purse_here", "_law_many"] spPick) : FnOk P w K mg base CX0 2 (fs 30) (fds 30) ["_law_purse_here"] spSign := by
 refine T.d_law_sign.F.ok sc_law_sign (fun vs H Q E h => ?_) (fun cdv A outer s H vs Q E hr h => ?_)
 ·obtain ⟨p, g, rfl, hp, q⟩ := h
  rfl
 ·obtain ⟨p, g, rfl, hp, q⟩ := h
  refine ⟨_, (pss_cons (ps_set (i := 1) sc_law_sign.nd rfl (Or.inl rfl) pe_str)
   (pss_cons (ps_set (i := 2) sc_law_sign.nd rfl (Or.inl rfl) (pe_fn T.d_law_pick G_law_pick hr (by decide) rfl (pa_cons (pv 0) (pa_cons pe_int pa_nil))))
   (pss_one (ps_ret (pe_ifExp (pt_cmpR op_eq (pv 2) pe_int (nomark _)) (pe_ix ix_str pe_str (pe_fn T.d_law_pick G_law_pick hr (by decide) rfl (pa_cons (pv 0) (pa_cons pe_int pa_nil))) (fun _ _ => rfl)) (pe_ix ix_str (pv 1) (pe_fn T.d_law_pick G_law_pick hr (by decide) rfl (pa_cons (pv 0) (pa_cons pe_int pa_nil))) (fun _ _ => rfl))))))), ?_⟩
  have r8 : ∀ c ∈ (Str.ofString " -,:+a0?").cps.toList, 32 ≤ c ∧ c ≤ 126 := by decide +kernel
  have r94 : ∀ c ∈ (Str.ofString " !\"#$&'()*+,-./0123456789:;<=>?@ABCDEFGHIJKLMNOPQRSTUVWXYZ[\\]^_`abcdefghijklmnopqrstuvwxyz{|}~").cps.toList, 32 ≤ c ∧ c ≤ 126 := by decide +kernel
  have e8 : (Str.ofString " -,:+a0?").length = 8 := by decide +kernel
  have e94 : (Str.ofString " !\"#$&'()*+,-./0123456789:;<=>?@ABCDEFGHIJKLMNOPQRSTUVWXYZ[\\]^_`abcdefghijklmnopqrstuvwxyz{|}~").length = 94 := by decide +kernel
  refine tSeq_i ?_; walk_at "vc0"
  refine tSeq_i ?_; walk_at "vc0"
  refine ⟨p, g, _, rfl, hp, by decide, by decide, fun d H1 d0 d1 hp1 f1 => ⟨rfl, iteD (fun g1 => ?_) (fun g1 => ?_)⟩⟩
  ·refine ⟨p, g, _, rfl, hp1, by decide, by decide, fun d2 H2 e0 e1 hp2 f2 => ?_⟩
   obtain ⟨c, hcm, hc⟩ := atI_sign (z := Str.ofString " -,:+a0?") e0 (by rw [e8]; exact e1)
   exact ⟨_, rfl, szl (by rw [e8]; decide), _, hc, q _ H2 ⟨rfl, fun d hd => by simp at hd; rw [hd]; exact r8 c hcm⟩ hp2 (f1.trans f2)⟩
  ·refine ⟨p, g, _, rfl, hp1, by decide, by decide, fun d2 H2 e0 e1 hp2 f2 => ?_⟩
   obtain ⟨c, hcm, hc⟩ := atI_sign (z := Str.ofString " !\"#$&'()*+,-./0123456789:;<=>?@ABCDEFGHIJKLMNOPQRSTUVWXYZ[\\]^_`abcdefghijklmnopqrstuvwxyz{|}~") e0 (by rw [e94]; exact e1)
   exact ⟨_, rfl, szl (by rw [e94]; decide), _, hc, q _ H2 ⟨rfl, fun d hd => by simp at hd; rw [hd]; exact r94 c hcm⟩ hp2 (f1.trans f2)⟩
theorem sc_law_rules : FnScope ["_law_purse_here", "_law_found", "_law_k", "_law_kind", "_law_size", "_law_word"] ["_law_purse_here"] (defScope s_law_rules) := ⟨rfl, rfl, rfl, by decide +kernel, rfl, by decide +kernel, by decide +kernel⟩
set_option maxHeartbeats 4000000 in
theorem ok_law_rules (T : Txt K mg fs fds tc u) (G_law_pick : FnOk P w K mg base CX0 1 (fs 26) (fds 26) ["_law_purse_here", "_law_many"] spPick) : FnOk P w K mg base CX0 2 (fs 33) (fds 33) ["_law_purse_here"] spRules := by
 refine T.d_law_rules.F.ok sc_law_rules (fun vs H Q E h => ?_) (fun cdv A outer s H vs Q E hr h => ?_)
 ·obtain ⟨p, g, rfl, hp, q⟩ := h
  rfl
 ·obtain ⟨p, g, rfl, hp, q⟩ := h
  refine ⟨_, (pss_cons (ps_set (i := 1) sc_law_rules.nd rfl (Or.inl rfl) (pe_lst pa_nil))
   (pss_cons (ps_for PassesOwn.never rfl (pi_range1 rfl T.z_range (pa_cons (pe_fn T.d_law_pick G_law_pick hr (by decide) rfl (pa_cons (pv 0) (pa_cons pe_int pa_nil))) pa_nil)) (pg_name (i := 2) sc_law_rules.nd rfl (Or.inl rfl)) (pss_cons (ps_par (i := 3) (j := 4) rfl sc_law_rules.nd rfl rfl (by decide) rfl rfl (pa_cons (pe_ix (ixL K) (ew_l (pw_c (ew pe_str) (pw_c (ew pe_str) (pw_c (ew pe_str) pw_nil)))).h (pe_fn T.d_law_pick G_law_pick hr (by decide) rfl (pa_cons (pv 0) (pa_cons pe_int pa_nil))) (fun _ _ => rfl)) (pa_cons (pe_ix (ixL K) (ew_l (pw_c (ew pe_int) (pw_c (ew pe_int) (pw_c (ew pe_int) (pw_c (ew pe_int) pw_nil))))).h (pe_fn T.d_law_pick G_law_pick hr (by decide) rfl (pa_cons (pv 0) (pa_cons pe_int pa_nil))) (fun _ _ => rfl)) pa_nil)) rfl)
   (pss_cons (ps_setLC (i := 5) ["_law_sign_here", "_law_purse_here"] 1 [0] ["_law_purse_here", "_law_found", "_law_k", "_law_kind", "_law_size", "_law_word"] (defScope s_law_rules) rfl rfl rfl sc_law_rules.nd rfl rfl (pi_range1 rfl T.z_range (pa_cons (pv 4) pa_nil)) (by decide +kernel) (fun _ => (pg_name (i := 0) (show (["_law_sign_here", "_law_purse_here"] : List Str).Nodup by decide +kernel) rfl (Or.inl rfl))) (fun _ => pts_nil) (fun _ => (pe_ix ix_str pe_str (pe_fn T.d_law_pick G_law_pick hr (by decide) rfl (pa_cons (pv 1) (pa_cons pe_int pa_nil))) (fun _ _ => rfl))))
   (pss_one (ps_expr (pe_bmK K PySem.F.plainAttrs_list PySem.F.slot_list_append PySem.F.type_list_append mt_append (pv 1) (pa_cons (pe_tup (pa_cons (pv 3) (pa_cons (pe_bmK K PySem.F.plainAttrs_str PySem.F.slot_str_join PySem.F.type_str_join (joinK K) pe_str (pa_cons (pv 5) pa_nil)) pa_nil))) pa_nil)))))))
   (pss_one (ps_ret (pe_callTy (tupL K) (by rfl) T.z_tuple bt_tuple (pa_cons (pv 1) pa_nil)))))), ?_⟩
  have e26 : (Str.ofString "abcdefghijklmnopqrstuvwxyz").length = 26 := by decide +kernel
  refine tSeq_i ?_; walk_at "vc0"
  refine ⟨Nat.zero_le _, fun l hl => ?_⟩
  have np : l ≠ p := (hp.nep hl).symm
  have ng : l ≠ g := (hp.neg hl).symm
  refine tSeq_i ⟨_, rfl, p, g, 7, rfl, hp.new hl, by decide, by decide, fun m H1 m0 m1 hp1 f1 => ⟨_, rfl, by omega, by omega, for_range (fun i σ H' => Pur H' p g ∧ Fr p g H H' ∧ (∃ (vs : List V) (rs : List (List Str)), H' l = some (.lst vs) ∧ rs.length ≤ i ∧ TrL H' (rs.map rlP) vs ∧ ∀ r ∈ rs, ruleOk r = true) ∧ ∃ v2 v3 v4 v5, σ = [some (.ref p), some (.ref l), v2, v3, v4, v5]) ?_ ?_ ?_⟩⟩
  ·exact ⟨hp1, (Fr.of (Same.upd hl)).trans f1, ⟨[], [], f1 l _ upd_same np ng, Nat.le_refl _, .nil, fun _ h => nomatch h⟩, _, _, _, _, rfl⟩
  ·rintro i σ H2 hi ⟨hp2, f2, ⟨vs, rs, hv, hvl, htr, hok⟩, v2, v3, v4, v5, rfl⟩
   show tSeq _ _ _ _ _
   refine tSeq_i ?_; walk_at "vc0"
   refine pick_of (xs := [V.str (Str.ofString "ahead"), V.str (Str.ofString "behind"), V.str (Str.ofString "label")]) hp2 rfl rfl (by decide) (by decide) fun v H3 hm hp3 f3 => ?_
   obtain ⟨kd, rfl, hkd⟩ : ∃ m : Str, v = .str m ∧ KS.contains m = true := by
    simp only [List.mem_cons, List.mem_nil_iff, or_false] at hm
    rcases hm with h | h | h <;> exact ⟨_, h, by decide +kernel⟩
   refine pick_of (xs := [V.int 1, V.int 2, V.int 3, V.int 8]) hp3 rfl rfl (by decide) (by decide) fun v H4 hm hp4 f4 => ?_
   obtain ⟨sz, rfl, hs0, hs1⟩ : ∃ m : Int, v = .int m ∧ 1 ≤ m ∧ m ≤ 8 := by
    simp only [List.mem_cons, List.mem_nil_iff, or_false] at hm
    rcases hm with h | h | h | h <;> exact ⟨_, h, by decide, by decide⟩
   refine tSeq_i ⟨_, rfl, _, rfl, by omega, by omega, fun l5 hl5 => comp_drawP 0 _ p g (fun _ v => ∃ x : Str, v = .str x ∧ x.length = 1 ∧ ∀ c ∈ x.cps.toList, c ∈ ABZ.cps.toList) (fun σ => ∃ o, σ = [o, some (.ref p)]) ⟨_, rfl⟩ hp4 hl5 (by omega) (fun _ _ _ _ h => h) ?_ ?_⟩
   ·rintro i σ H5 xs N hi ⟨o, rfl⟩ hp5 hx hxl f5 hNN
    unfold turnOf
    walk_at "vc2"
    refine ⟨p, g, _, rfl, hp5, by decide, by decide, fun d H6 d0 d1 hp6 f6 => ?_⟩
    obtain ⟨c, hcm, hc⟩ := atI_sign (z := Str.ofString "abcdefghijklmnopqrstuvwxyz") d0 (by rw [e26]; exact d1)
    exact ⟨_, rfl, szl (by rw [e26]; decide), _, hc, hNN _ _ _ ⟨_, rfl⟩ ⟨_, rfl, rfl, fun d hd => by simp at hd; rw [hd]; exact hcm⟩ hp6 f6⟩
   ·intro ys H5 hyl hR hy hp5 f5
    obtain ⟨hs, e, hhs⟩ := strs_of' hR
    subst e
    rw [List.length_map] at hyl
    have hjl := join_le (Str.ofString "") hs
    rw [join_len fun y hy => (hhs y hy).1, s0] at hjl
    have hv5 := f5 l _ (f4 l _ (f3 l _ hv np ng) np ng) np ng
    have k5 := (((f3.trans f4).trans f5).kp hp2 hp5)
    dsimp only [gName, List.set_cons_succ, List.set_cons_zero]
    walk_at "vc0"
    refine ⟨.inl ⟨_, SqL.of hv5⟩, hs, SqL.of hy, by rw [s0, join_len fun y hy => (hhs y hy).1]; omega, by decide, fun t ht => ⟨_, by rw [upd_ne (ne_of_none hv5 ht)]; exact hv5, szt (by have := htr.length; rw [List.length_map] at this; omega), ?_⟩⟩
    have e6 : upd H5 t (.tup [V.str kd, V.str (Txt.join (Str.ofString "") hs)]) l = some (.lst vs) := by rw [upd_ne (ne_of_none hv5 ht)]; exact hv5
    have tl : t ≠ l := fun z => by rw [z, hv5] at ht; cases ht
    have k6 : Kp H5 (upd (upd H5 t (.tup [V.str kd, V.str (Txt.join (Str.ofString "") hs)])) l (.lst (vs ++ [V.ref t]))) := (Kp.of (Same.upd ht)).trans (Kp.lst e6)
    have hw : wordB (Txt.join (Str.ofString "") hs) = true := by
     unfold wordB
     rw [Bool.and_eq_true, Bool.and_eq_true, List.all_eq_true]
     have h1 := join_pos (z := Str.ofString "") (ys := hs) (by intro z; rw [z] at hyl; simp at hyl; omega) fun y hy => by rw [(hhs y hy).1]; exact Nat.le_refl _
     refine ⟨⟨decide_eq_true (by omega), decide_eq_true (by omega)⟩, fun c hc => abz_in ?_⟩
     rcases mem_join hc with h | ⟨y, hy, h⟩
     ·exact absurd h (by rw [show (Str.ofString "").cps.toList = [] from em_codes]; exact List.not_mem_nil)
     ·exact (hhs y hy).2 c h
    have hr : ruleOk [kd, Txt.join (Str.ofString "") hs] = true := by
     show (KS.contains kd && wordB _) = true
     rw [hkd, hw]; rfl
    have lx := htr.length
    rw [List.length_map] at lx
    refine ⟨(hp5.new ht).upd np.symm ng.symm, fun b o hb n1 n2 => ?_, ⟨vs ++ [.ref t], upd_same, rs ++ [[kd, Txt.join (Str.ofString "") hs]], ?_, ?_, fun r hr' => ?_⟩, _, rfl⟩
    ·rw [upd_ne (ne_of_none hb hl)]
     exact Same.upd ht b o (f5 b o (f4 b o (f3 b o (f2 b o hb n1 n2) n1 n2) n1 n2) n1 n2)
    ·rw [List.length_append]; show _ + 1 ≤ _; omega
    ·rw [List.map_append]
     exact (htr.kp (kpt_of (k5.trans k6))).app (.cons (.tup (by rw [upd_ne tl]; exact upd_same) (.cons (.str _) (.cons (.str _) .nil))) .nil)
    ·rcases List.mem_append.mp hr' with h | h
     ·exact hok r h
     ·rw [List.mem_singleton.mp h]; exact hr
  ·rintro σ H2 ⟨hp2, f2, ⟨vs, rs, hv, hvl, htr, hok⟩, v2, v3, v4, v5, rfl⟩
   walk_at "vc0"
   refine ⟨_, SqL.of hv, fun t ht => q _ rs _ ⟨.tup upd_same (htr.kp (Same.upd ht).kt), hok, by omega⟩ (hp2.new ht) (f2.new ht)⟩
theorem sc_law_deed_written : FnScope ["_law_deed_here"] ["_law_deed_here"] (defScope s_law_deed_written) := ⟨rfl, rfl, rfl, by decide +kernel, rfl, by decide +kernel, by decide +kernel⟩
set_option maxHeartbeats 4000000 in
theorem ok_law_deed_written (T : Txt K mg fs fds tc u) (G_law_written : FnOk P w K mg base CX0 1 (fs 36) (fds 36) ["_law_letter_here"] (spTx LtV Lt.T)) : FnOk P w K mg base CX0 2 (fs 38) (fds 38) ["_law_deed_here"] (spTx DdV Dd.T) := by
 refine T.d_law_deed_written.F.ok sc_law_deed_written (fun vs H Q E h => ?_) (fun cdv A outer s H vs Q E hr h => ?_)
 ·obtain ⟨v, x, rfl, hR, q⟩ := h
  rfl
 ·obtain ⟨v, x, rfl, hR, q⟩ := h
  refine ⟨_, (pss_cons (ps_if (PW.pt (pw_or (pt_cmpR op_eq (pe_ix (ixT K) (pv 0) pe_int (fun _ _ => rfl)) pe_str (nomark _)) (pw_or1 (pt_cmpR op_eq (pe_ix (ixT K) (pv 0) pe_int (fun _ _ => rfl)) pe_str (nomark _))))) (pss_one (ps_ret (pe_op op_add_str (pe_op op_add_str (pe_ix (ixT K) (pv 0) pe_int (fun _ _ => rfl)) pe_str) (pe_fn T.d_law_written G_law_written hr (by decide) rfl (pa_cons (pe_ix (ixT K) (pv 0) pe_int (fun _ _ => rfl)) pa_nil))))) pss_nil)
   (pss_one (ps_ret (pe_bmK K PySem.F.plainAttrs_str PySem.F.slot_str_join PySem.F.type_str_join (joinT K) pe_str (pa_cons (pv 0) pa_nil))))), ?_⟩
  have hle := ddT_le hR.ok
  cases x with
  | lt w x =>
   obtain ⟨a, y, lv, rfl, ha, hy, hL⟩ := ps_two (show Tr H (.tup [.str w, x.P]) v from hR.tr)
   cases hy
   have ok : (LW.contains w && x.ok) = true := hR.ok
   rw [Bool.and_eq_true] at ok
   have hx : LtV H lv x := ⟨hL, (x.ok_iff).mp ok.2⟩
   have hw : w = Str.ofString "come" ∨ w = Str.ofString "go" := by simpa [LW] using ok.1
   have hle : (w ++ BL ++ x.T).length ≤ 400 := hle
   rw [lenA, lenA, s1] at hle
   refine tSeq_i ?_; walk_at "vc0"
   refine ⟨_, SqT.of ha, .str w, rfl, rfl, ?_⟩
   simp only [lenA, s1]
   rcases hw with rfl | rfl
   ·refine iteDy rfl ⟨_, SqT.of ha, _, rfl, _, rfl, szl (by omega), _, SqT.of ha, _, rfl, lv, x, rfl, hx, fun H1 s1' => ⟨_, rfl, szl (by omega), q H1 s1'⟩⟩
   ·refine iteDn (by decide +kernel) ⟨_, SqT.of ha, .str (Str.ofString "go"), rfl, rfl, iteDy rfl ⟨_, SqT.of ha, _, rfl, _, rfl, szl (by omega), _, SqT.of ha, _, rfl, lv, x, rfl, hx, fun H1 s1' => ⟨_, rfl, szl (by omega), q H1 s1'⟩⟩⟩
  | ws l =>
   obtain ⟨a, us, rfl, ha, hu⟩ := hR.tr.tup'
   rw [trl_strs hu] at ha
   have ok : wsOk l = true := hR.ok
   obtain ⟨n1, n2, n3, n4⟩ := wsOk_no ok
   obtain ⟨m1, m2⟩ := wsOk_len ok
   cases l with
   | nil => exact absurd rfl n1
   | cons w r =>
   have n4 : LW.contains w = false := n4
   have c1 : ¬ w = Str.ofString "come" := fun z => by rw [z] at n4; exact absurd n4 (by decide +kernel)
   have c2 : ¬ w = Str.ofString "go" := fun z => by rw [z] at n4; exact absurd n4 (by decide +kernel)
   have sm := sum_le m2
   refine tSeq_i ?_; walk_at "vc0"
   refine ⟨_, SqT.of ha, .str w, at0, rfl, iteDn (fun z => c1 (V.str.inj z)) ⟨_, SqT.of ha, .str w, at0, rfl, iteDn (fun z => c2 (V.str.inj z)) ⟨w :: r, SqT.of ha, by rw [s1]; omega, q H (Same.refl _)⟩⟩⟩
theorem sc_is_letter : FnScope ["thing"] ["thing"] (defScope s_is_letter) := ⟨rfl, rfl, rfl, by decide +kernel, rfl, by decide +kernel, by decide +kernel⟩
set_option maxHeartbeats 4000000 in
theorem ok_is_letter (T : Txt K mg fs fds tc u) (G_is_name : FnOk P w K mg base CX0 1 (fs 0) (fds 0) ["thing"] spNameV) (G_is_day : FnOk P w K mg base CX0 2 (fs 2) (fds 2) ["thing"] spDayV) (G_is_head : FnOk P w K mg base CX0 1 (fs 3) (fds 3) ["thing"] spHeadV) (G_is_row : FnOk P w K mg base CX0 2 (fs 4) (fds 4) ["thing"] (spP rowV 1)) : FnOk P w K mg base CX0 3 (fs 5) (fds 5) ["thing"] (spP letterV 2) := by
 refine T.d_is_letter.F.ok sc_is_letter (fun vs H Q E h => ?_) (fun cdv A outer s H vs Q E hr h => ?_)
 ·obtain ⟨v, rfl, hA, q⟩ := h
  rfl
 ·obtain ⟨v, rfl, hA, q⟩ := h
  refine ⟨_, (pss_cons (ps_if (PW.pt (pw_or (pt_not (pt_val (pe_callB (isiK K) (by rfl) T.z_isinstance bt_isinstance (pa_cons (pv 0) (pa_cons (pe_bltn (v := .ty "tuple") rfl T.z_tuple bt_tuple rfl) pa_nil))))) (pw_or1 (pt_cmpR op_ne (pe_callB (lenT K) (by rfl) T.z_len bt_len (pa_cons (pv 0) pa_nil)) pe_int (nomark _))))) (pss_one (ps_ret pe_bl)) pss_nil)
   (pss_one (ps_ret (pe_and (pe_fn T.d_is_name G_is_name hr (by decide) rfl (pa_cons (pe_ix (ixT K) (pv 0) pe_int (fun _ _ => rfl)) pa_nil)) (pe_and (pe_fn T.d_is_day G_is_day hr (by decide) rfl (pa_cons (pe_ix (ixT K) (pv 0) pe_int (fun _ _ => rfl)) pa_nil)) (pe_and (pe_fn T.d_is_head G_is_head hr (by decide) rfl (pa_cons (pe_ix (ixT K) (pv 0) pe_int (fun _ _ => rfl)) pa_nil)) (pe_one (pe_fn T.d_is_row G_is_row hr (by decide) rfl (pa_cons (pe_ix (ixT K) (pv 0) pe_int (fun _ _ => rfl)) pa_nil))))))))), ?_⟩
  obtain ⟨⟨k, hT⟩, hx⟩ := hA
  refine tSeq_i ?_; walk_at "vc0"
  refine ⟨_, hT.is.ty, _, kd_tup k, ?_⟩
  rcases hT.tup with ⟨rfl, a, xs, rfl, ha, et⟩ | ⟨n, et⟩
  ·rw [decide_eq_true rfl]
   refine notyes ?_
   have hx := hx xs et
   walk_at "vc0"
   refine ⟨_, SqT.of ha, rfl, ?_⟩
   by_cases h4 : xs.length = 4
   ·match xs, h4 with
    | [n, d, x, r], _ =>
     have eq : letterV H (.ref a) = (nameV n && (dayV d && (headV x && rowV H r))) := by unfold letterV; rw [et]; rfl
     rw [eq] at q
     obtain ⟨kn, tn⟩ := (hx.2 n (by simp)).tg
     obtain ⟨kd, td⟩ := (hx.2 d (by simp)).tg
     obtain ⟨kx, tx⟩ := (hx.2 x (by simp)).tg
     have tr := hx.2 r (by simp)
     rw [decide_eq_true (show (([n, d, x, r] : List V).length : Int) = 4 from rfl)]
     refine notyes ⟨_, SqT.of ha, _, rfl, n, kn, rfl, tn, fun H1 s1 => ⟨_, rfl, ?_⟩⟩
     cases e1 : nameV n with
     | false => rw [e1] at q; exact iteF (q H1 s1)
     | true =>
      rw [e1, Bool.true_and] at q
      refine iteT ⟨_, (SqT.of ha).same s1, _, rfl, d, kd, rfl, td.same s1, ⟨_, rfl, ?_⟩⟩
      cases e2 : dayV d with
      | false => rw [e2] at q; exact iteF (q H1 s1)
      | true =>
       rw [e2, Bool.true_and] at q
       refine iteT ⟨_, (SqT.of ha).same s1, _, rfl, x, kx, rfl, tx.same s1, fun H2 s2 => ⟨_, rfl, ?_⟩⟩
       cases e3 : headV x with
       | false => rw [e3] at q; exact iteF (q H2 (s1.trans s2))
       | true =>
        rw [e3, Bool.true_and] at q
        refine iteT ⟨_, (SqT.of ha).same (s1.trans s2), _, rfl, r, rfl, tr.kp (.of (s1.trans s2)), fun H3 s3 => ?_⟩
        rw [rowV_kp tr.tg (.of (s1.trans s2))]
        exact q H3 ((s1.trans s2).trans s3)
   ·have eq : letterV H (.ref a) = false := by unfold letterV; rw [et]; exact letterL_no h4
    rw [eq] at q
    rw [decide_eq_false (show ¬ (xs.length : Int) = 4 by omega)]
    exact notnot (q H (Same.refl _))
  ·have eq : letterV H v = false := by unfold letterV; rw [et]
   rw [eq] at q
   rw [decide_eq_false n]
   exact notnot (q H (Same.refl _))
theorem sc_is_rules : FnScope ["thing"] ["thing"] (defScope s_is_rules) := ⟨rfl, rfl, rfl, by decide +kernel, rfl, by decide +kernel, by decide +kernel⟩
set_option maxHeartbeats 4000000 in
theorem ok_is_rules (T : Txt K mg fs fds tc u) (G_is_rule : FnOk P w K mg base CX0 2 (fs 9) (fds 9) ["thing"] spRuleV) : FnOk P w K mg base CX0 3 (fs 10) (fds 10) ["thing"] spRulesV := by
 refine T.d_is_rules.F.ok sc_is_rules (fun vs H Q E h => ?_) (fun cdv A outer s H vs Q E hr h => ?_)
 ·obtain ⟨v, rfl, hA, q⟩ := h
  rfl
 ·obtain ⟨v, rfl, hA, q⟩ := h
  refine ⟨_, (pss_cons (ps_if (PW.pt (pw_or (pt_not (pt_val (pe_callB (isiK K) (by rfl) T.z_isinstance bt_isinstance (pa_cons (pv 0) (pa_cons (pe_bltn (v := .ty "tuple") rfl T.z_tuple bt_tuple rfl) pa_nil))))) (pw_or1 (pt_cmpR op_gt (pe_callB (lenT K) (by rfl) T.z_len bt_len (pa_cons (pv 0) pa_nil)) (pe_glob (v := .int 6) rfl T.c_MOST_RULES T.r_MOST_RULES) (nomark _))))) (pss_one (ps_ret pe_bl)) pss_nil)
   (pss_one (ps_ret (pe_callB (allL K rfl) (by rfl) T.z_all bt_all (pa_cons (pe_lc ["part"] 1 [] ["thing"] (defScope s_is_rules) rfl rfl rfl (pi_tpl K (pv 0)) (by decide +kernel) (fun _ => (pg_name (i := 0) (show (["part"] : List Str).Nodup by decide +kernel) rfl (Or.inl rfl))) (fun _ => pts_nil) (fun _ => (pe_fn T.d_is_rule G_is_rule hr (by decide) rfl (pa_cons (pv 0) pa_nil)))) pa_nil))))), ?_⟩
  obtain ⟨⟨k, hT⟩, hx⟩ := hA
  refine tSeq_i ?_; walk_at "vc0"
  refine ⟨_, hT.is.ty, _, kd_tup k, ?_⟩
  rcases hT.tup with ⟨rfl, a, xs, rfl, ha, et⟩ | ⟨n, et⟩
  ·rw [decide_eq_true rfl]
   refine notyes ?_
   have hx := hx xs et
   have hxl := hx.1
   have eq : rulesV H (.ref a) = (!decide (6 < (xs.length : Int)) && xs.all (ruleV H)) := by unfold rulesV; rw [et]
   rw [eq] at q
   walk_at "vc0"
   refine ⟨_, SqT.of ha, iteD (fun g1 => ?_) (fun g1 => ?_)⟩
   ·rw [decide_eq_true g1] at q
    exact q _ (Same.refl _)
   ·rw [decide_eq_false g1] at q
    refine ⟨_, rfl, a, rfl, ⟨_, SqT.of ha⟩, fun l hl0 => comp_tupG (SqT.of ha) (fun v => .bl (ruleV H v)) (fun σ => ∃ o, σ = [o]) ⟨_, rfl⟩ hl0 (szt (by omega)) ?_ ?_⟩
    ·rintro i x σ H1 ys N hxi ⟨o, rfl⟩ s1 e1 hz hN
     have hk := hx.2 x (List.mem_of_getElem? hxi)
     obtain ⟨k', hk'⟩ := hk.tg
     unfold turnOf
     walk_at "vc2"
     refine ⟨x, rfl, hk.kp (.of s1), fun H2 s2 => ⟨ys, s2 _ _ e1, hz, ?_⟩⟩
     rw [ruleV_kp hk' (.of s1)]
     exact hN _ _ ⟨_, rfl⟩ (fun b o h n => by rw [upd_ne n]; exact s2 b o h) upd_same
    ·intro H1 s1 e1
     refine ⟨l, rfl, xs.map (ruleV H), SqL.of (by rw [e1]; unfold isBl; rw [List.map_map]; rfl), ?_⟩
     rw [show (xs.map (ruleV H)).all id = (!false && xs.all (ruleV H)) from by rw [List.all_map]; rfl]
     exact q _ s1
  ·have eq : rulesV H v = false := by unfold rulesV; rw [et]
   rw [eq] at q
   rw [decide_eq_false n]
   exact notnot (q H (Same.refl _))
theorem sc_law_names : FnScope ["_law_purse_here", "_law_many", "_law_found", "_law_turn", "_law_name_here"] ["_law_purse_here", "_law_many"] (defScope s_law_names) := ⟨rfl, rfl, rfl, by decide +kernel, rfl, by decide +kernel, by decide +kernel⟩
set_option maxHeartbeats 4000000 in
theorem ok_law_names (T : Txt K mg fs fds tc u) (G_law_name : FnOk P w K mg base CX0 2 (fs 27) (fds 27) ["_law_purse_here"] spName) : FnOk P w K mg base CX0 3 (fs 28) (fds 28) ["_law_purse_here", "_law_many"] spNames := by
 refine T.d_law_names.F.ok sc_law_names (fun vs H Q E h => ?_) (fun cdv A outer s H vs Q E hr h => ?_)
 ·obtain ⟨p, g, rfl, hp, q⟩ := h
  rfl
 ·obtain ⟨p, g, rfl, hp, q⟩ := h
  refine ⟨_, (pss_cons (ps_set (i := 2) sc_law_names.nd rfl (Or.inl rfl) (pe_lst pa_nil))
   (pss_cons (ps_for PassesOwn.never rfl (pi_range1 rfl T.z_range (pa_cons (pv 1) pa_nil)) (pg_name (i := 3) sc_law_names.nd rfl (Or.inl rfl)) (pss_cons (ps_set (i := 4) sc_law_names.nd rfl (Or.inl rfl) (pe_fn T.d_law_name G_law_name hr (by decide) rfl (pa_cons (pv 0) pa_nil)))
   (pss_one (ps_if (pt_cmpR (notInQ K) (pv 4) (pv 2) (by rfl)) (pss_one (ps_expr (pe_bmK K PySem.F.plainAttrs_list PySem.F.slot_list_append PySem.F.type_list_append mt_append (pv 2) (pa_cons (pv 4) pa_nil)))) pss_nil))))
   (pss_one (ps_ret (pv 2))))), ?_⟩
  refine tSeq_i ?_; walk_at "vc0"
  refine ⟨Nat.zero_le _, fun l hl => ?_⟩
  refine tSeq_i ⟨_, rfl, 6, rfl, by decide, by decide, for_range (lo := 0) (n := 6) (fun i σ H' => Pur H' p g ∧ Fr p g H H' ∧ (∃ zs : List Str, H' l = some (.lst (zs.map V.str)) ∧ (0 < i → 1 ≤ zs.length) ∧ zs.length ≤ i ∧ ∀ z ∈ zs, nameB z = true) ∧ ∃ v3 v4, σ = [some (.ref p), some (.int 6), some (.ref l), v3, v4]) ?_ ?_ ?_⟩
  ·exact ⟨hp.new hl, Fr.of (Same.upd hl), ⟨[], upd_same, (fun h => absurd h (by decide)), Nat.le_refl _, fun _ h => nomatch h⟩, _, _, rfl⟩
  ·rintro i σ H1 hi ⟨hp1, f1, ⟨zs, hz, hz0, hz1, hz2⟩, v3, v4, rfl⟩
   have np : l ≠ p := (hp.nep hl).symm
   have ng : l ≠ g := (hp.neg hl).symm
   show tSeq _ _ _ _ _
   refine tSeq_i ?_; walk_at "vc0"
   refine ⟨p, g, rfl, hp1, fun x H2 x0 hp2 f2 => ?_⟩
   have hl2 := f2 l _ hz np ng
   walk_at "vc0"
   refine ⟨_, .inl (SqL.of hl2), rfl, flat_strs, ?_⟩
   rw [inV_str]
   cases hc : zs.contains x with
   | false =>
    refine iteT ⟨.inl ⟨_, SqL.of hl2⟩, _, hl2, szt (by rw [List.length_map]; omega), hp2.upd np.symm ng.symm, ?_, ⟨zs ++ [x], ?_, ?_, ?_, ?_⟩, ?_⟩
    ·exact fun b o hb n1 n2 => by rw [upd_ne (ne_of_none hb hl)]; exact f2 b o (f1 b o hb n1 n2) n1 n2
    ·rw [upd_same, List.map_append, List.map_singleton]
    ·intro _; rw [List.length_append]; show 1 ≤ _ + 1; omega
    ·rw [List.length_append]; show _ + 1 ≤ _; omega
    ·intro z hz'
     rcases List.mem_append.mp hz' with h | h
     ·exact hz2 z h
     ·rw [List.mem_singleton.mp h]; exact x0
    ·exact ⟨_, rfl⟩
   | true =>
    have hne : 1 ≤ zs.length := by
     cases zs with
     | nil => cases hc
     | cons _ _ => exact Nat.succ_le_succ (Nat.zero_le _)
    exact iteF ⟨hp2, f1.trans f2, ⟨zs, hl2, fun _ => hne, by omega, hz2⟩, _, rfl⟩
  ·rintro σ H1 ⟨hp1, f1, ⟨zs, hz, hz0, hz1, hz2⟩, v3, v4, rfl⟩
   exact ⟨_, rfl, q l zs H1 hl ⟨hz, (hp.nep hl).symm, (hp.neg hl).symm, hz0 (by decide), hz1, hz2⟩ hp1 f1⟩
theorem sc_law_letter : FnScope ["_law_purse_here", "_law_names_here", "_law_size", "_law_many", "_law_name_here", "_law_day_here", "_law_row"] ["_law_purse_here", "_law_names_here"] (defScope s_law_letter) := ⟨rfl, rfl, rfl, by decide +kernel, rfl, by decide +kernel, by decide +kernel⟩
set_option maxHeartbeats 4000000 in
theorem ok_law_letter (T : Txt K mg fs fds tc u) (G_law_day : FnOk P w K mg base CX0 2 (fs 29) (fds 29) ["_law_purse_here"] spDay) (G_law_pick : FnOk P w K mg base CX0 1 (fs 26) (fds 26) ["_law_purse_here", "_law_many"] spPick) (G_law_sign : FnOk P w K mg base CX0 2 (fs 30) (fds 30) ["_law_purse_here"] spSign) : FnOk P w K mg base CX0 3 (fs 31) (fds 31) ["_law_purse_here", "_law_names_here"] (spDraw LtV) := by
 refine T.d_law_letter.F.ok sc_law_letter (fun vs H Q E h => ?_) (fun cdv A outer s H vs Q E hr h => ?_)
 ·obtain ⟨p, g, l, zs, rfl, hp, hN, q⟩ := h
  rfl
 ·obtain ⟨p, g, l, zs, rfl, hp, hN, q⟩ := h
  refine ⟨_, (pss_cons (ps_par (i := 2) (j := 3) rfl sc_law_letter.nd rfl rfl (by decide) rfl rfl (pa_cons (pe_ix (ixL K) (ew_l (pw_c (ew pe_int) (pw_c (ew pe_int) (pw_c (ew pe_int) (pw_c (ew pe_int) (pw_c (ew pe_int) (pw_c (ew pe_int) pw_nil))))))).h (pe_fn T.d_law_pick G_law_pick hr (by decide) rfl (pa_cons (pv 0) (pa_cons pe_int pa_nil))) (fun _ _ => rfl)) (pa_cons (pe_ix (ixL K) (ew_l (pw_c (ew pe_int) (pw_c (ew pe_int) (pw_c (ew pe_int) (pw_c (ew pe_int) (pw_c (ew pe_int) (pw_c (ew pe_int) pw_nil))))))).h (pe_fn T.d_law_pick G_law_pick hr (by decide) rfl (pa_cons (pv 0) (pa_cons pe_int pa_nil))) (fun _ _ => rfl)) pa_nil)) rfl)
   (pss_cons (ps_par (i := 4) (j := 5) rfl sc_law_letter.nd rfl rfl (by decide) rfl rfl (pa_cons (pe_ix (ixL K) (pv 1) (pe_fn T.d_law_pick G_law_pick hr (by decide) rfl (pa_cons (pv 0) (pa_cons (pe_callB (lenL K) (by rfl) T.z_len bt_len (pa_cons (pv 1) pa_nil)) pa_nil))) (fun _ _ => rfl)) (pa_cons (pe_fn T.d_law_day G_law_day hr (by decide) rfl (pa_cons (pv 0) pa_nil)) pa_nil)) rfl)
   (pss_cons (ps_setLC (i := 6) ["_law_k", "_law_names_here", "_law_purse_here"] 1 [1, 0] ["_law_purse_here", "_law_names_here", "_law_size", "_law_many", "_law_name_here", "_law_day_here", "_law_row"] (defScope s_law_letter) rfl rfl rfl sc_law_letter.nd rfl rfl (pi_range1 rfl T.z_range (pa_cons (pv 3) pa_nil)) (by decide +kernel) (fun _ => (pg_name (i := 0) (show (["_law_k", "_law_names_here", "_law_purse_here"] : List Str).Nodup by decide +kernel) rfl (Or.inl rfl))) (fun _ => pts_nil) (fun _ => (pe_ix (ixL K) (pv 1) (pe_fn T.d_law_pick G_law_pick hr (by decide) rfl (pa_cons (pv 2) (pa_cons (pe_callB (lenL K) (by rfl) T.z_len bt_len (pa_cons (pv 1) pa_nil)) pa_nil))) (fun _ _ => rfl))))
   (pss_one (ps_ret (pe_tup (pa_cons (pv 4) (pa_cons (pv 5) (pa_cons (pe_bmK K PySem.F.plainAttrs_str PySem.F.slot_str_join PySem.F.type_str_join (joinK K) pe_str (pa_cons (pe_lc ["_law_k", "_law_purse_here"] 1 [0] ["_law_purse_here", "_law_names_here", "_law_size", "_law_many", "_law_name_here", "_law_day_here", "_law_row"] (defScope s_law_letter) rfl rfl rfl (pi_range1 rfl T.z_range (pa_cons (pv 2) pa_nil)) (by decide +kernel) (fun _ => (pg_name (i := 0) (show (["_law_k", "_law_purse_here"] : List Str).Nodup by decide +kernel) rfl (Or.inl rfl))) (fun _ => pts_nil) (fun _ => (pe_fn T.d_law_sign G_law_sign hr (by decide) rfl (pa_cons (pv 1) pa_nil)))) pa_nil)) (pa_cons (pe_callTy (tupL K) (by rfl) T.z_tuple bt_tuple (pa_cons (pv 6) pa_nil)) pa_nil)))))))))), ?_⟩
  refine tSeq_i ?_; walk_at "vc0"
  refine pick_of (xs := [V.int 0, V.int 1, V.int 2, V.int 5, V.int 9, V.int 60]) hp rfl rfl (by decide) (by decide) fun v H1 hv hp1 f1 => ?_
  obtain ⟨m, rfl, hm0, hm1⟩ : ∃ m : Int, v = .int m ∧ 0 ≤ m ∧ m ≤ 60 := by
   simp only [List.mem_cons, List.mem_nil_iff, or_false] at hv
   rcases hv with h | h | h | h | h | h <;> exact ⟨_, h, by decide, by decide⟩
  refine pick_of (xs := [V.int 0, V.int 1, V.int 1, V.int 2, V.int 3, V.int 9]) hp1 rfl rfl (by decide) (by decide) fun v H2 hv hp2 f2 => ?_
  obtain ⟨k, rfl, hk0, hk1⟩ : ∃ m : Int, v = .int m ∧ 0 ≤ m ∧ m ≤ 9 := by
   simp only [List.mem_cons, List.mem_nil_iff, or_false] at hv
   rcases hv with h | h | h | h | h | h <;> exact ⟨_, h, by decide, by decide⟩
  have hN2 := (hN.fr f1).fr f2
  refine tSeq_i ?_; walk_at "vc0"
  refine name_of hN2 hp2 fun n H3 hn hp3 hN3 f3 => ?_
  refine ⟨p, g, rfl, hp3, fun d H4 d0 d1 hp4 f4 => ?_⟩
  have hN4 := hN3.fr f4
  refine tSeq_i ⟨_, rfl, _, rfl, by omega, by omega, fun l5 hl5 => comp_drawP 0 _ p g (fun _ v => ∃ x : Str, v = .str x ∧ nameB x = true) (fun σ => ∃ o, σ = [o, some (.ref l), some (.ref p)]) ⟨_, rfl⟩ hp4 hl5 (by omega) (fun _ _ _ _ h => h) ?_ ?_⟩
  ·rintro i σ H5 xs N hi ⟨o, rfl⟩ hp5 hx hxl f5 hNN
   unfold turnOf
   walk_at "vc2"
   refine name_of (hN4.fr f5) hp5 fun z H6 hz hp6 hN6 f6 => ?_
   exact hNN _ _ _ ⟨_, rfl⟩ ⟨z, rfl, hN.nm z hz⟩ hp6 f6
  ·intro ys H5 hyl hR hy hp5 f5
   obtain ⟨row, e, hrow⟩ := strs_of' hR
   subst e
   rw [List.length_map] at hyl
   have hyne1 : l5 ≠ p := (hp4.nep hl5).symm
   have hyne2 : l5 ≠ g := (hp4.neg hl5).symm
   walk_at "vc1"
   refine ⟨rfl, _, rfl, _, rfl, by omega, by omega, fun l6 hl6 => comp_drawP 0 _ p g (fun _ v => ∃ x : Str, v = .str x ∧ headS x) (fun σ => ∃ o, σ = [o, some (.ref p)]) ⟨_, rfl⟩ hp5 hl6 (by omega) (fun _ _ _ _ h => h) ?_ ?_⟩
   ·rintro i σ H6 xs N hi ⟨o, rfl⟩ hp6 hx hxl f6 hNN
    unfold turnOf
    walk_at "vc2"
    exact ⟨p, g, rfl, hp6, fun x H7 hx1 hp7 f7 => hNN _ _ _ ⟨_, rfl⟩ ⟨x, rfl, hx1⟩ hp7 f7⟩
   ·intro ys H6 hyl6 hR6 hy6 hp6 f6
    obtain ⟨hs, e, hhs⟩ := strs_of' hR6
    subst e
    rw [List.length_map] at hyl6
    refine ⟨_, l6, hs, rfl, rfl, SqL.of hy6, by rw [s0, join_len fun y hy => (hhs y hy).1]; omega, ?_⟩
    have hy5 := f6 l5 _ hy hyne1 hyne2
    refine ⟨_, SqL.of hy5, fun r hr => ⟨by decide, fun t ht => ?_⟩⟩
    have hjl := join_le (Str.ofString "") hs
    rw [join_len fun y hy => (hhs y hy).1, s0] at hjl
    have hr0 : upd H6 r (.tup (row.map V.str)) r = some (.tup (row.map V.str)) := upd_same
    refine q _ ⟨n, d, Txt.join (Str.ofString "") hs, row⟩ _ (LtV.of upd_same (by rw [upd_ne (ne_of_none hr0 ht)]; exact hr0) ⟨hN.nm n hn, d0, d1, ⟨by show (Txt.join _ _).length ≤ 60; omega, fun c hc => ?_⟩, by show row.length ≤ 9; omega, hrow⟩) ((hp6.new hr).new ht) ?_
    ·rcases mem_join hc with h | ⟨y, hy, h⟩
     ·exact absurd h (by rw [show (Str.ofString "").cps.toList = [] from em_codes]; exact List.not_mem_nil)
     ·exact (hhs y hy).2 c h
    ·exact (((((((f1.trans f2).trans f3).trans f4).trans f5).trans f6).new hr).new ht)
theorem sc_law_log_written : FnScope ["_law_log_here"] ["_law_log_here"] (defScope s_law_log_written) := ⟨rfl, rfl, rfl, by decide +kernel, rfl, by decide +kernel, by decide +kernel⟩
set_option maxHeartbeats 4000000 in
theorem ok_law_log_written (T : Txt K mg fs fds tc u) (G_law_deed_written : FnOk P w K mg base CX0 2 (fs 38) (fds 38) ["_law_deed_here"] (spTx DdV Dd.T)) : FnOk P w K mg base CX0 3 (fs 39) (fds 39) ["_law_log_here"] (spTx LogV logT) := by
 refine T.d_law_log_written.F.ok sc_law_log_written (fun vs H Q E h => ?_) (fun cdv A outer s H vs Q E hr h => ?_)
 ·obtain ⟨v, xs, rfl, hR, q⟩ := h
  rfl
 ·obtain ⟨v, xs, rfl, hR, q⟩ := h
  refine ⟨_, (pss_one (ps_ret (pe_bmK K PySem.F.plainAttrs_str PySem.F.slot_str_join PySem.F.type_str_join (joinK K) pe_str (pa_cons (pe_lc ["_law_deed_here", "_law_stands"] 2 [] ["_law_log_here"] (defScope s_law_log_written) rfl rfl rfl (pi_tpl K (pv 0)) (by decide +kernel) (fun _ => (pg_tupK (n := 2) K rfl (pgs_cons (pg_name (i := 0) (show (["_law_deed_here", "_law_stands"] : List Str).Nodup by decide +kernel) rfl (Or.inl rfl)) (pgs_cons (pg_name (i := 1) (show (["_law_deed_here", "_law_stands"] : List Str).Nodup by decide +kernel) rfl (Or.inl rfl)) pgs_nil)))) (fun _ => pts_nil) (fun _ => (pe_op op_add_str (pe_ifExp (pt_val (pv 1)) pe_str pe_str) (pe_fn T.d_law_deed_written G_law_deed_written hr (by decide) rfl (pa_cons (pv 0) pa_nil))))) pa_nil)))), ?_⟩
  obtain ⟨a, vs, rfl, ha, hA⟩ := hR.tr.tup'
  have lv := hA.length
  rw [List.length_map] at lv
  have few := hR.few
  walk_at "vc1"
  refine ⟨rfl, _, rfl, a, rfl, ⟨_, SqT.of ha⟩, fun l hl => comp_tupX (SqT.of ha) ((xs.map entT).map V.str) (by rw [List.length_map, List.length_map]; exact lv) (fun σ => ∃ o o2, σ = [o, o2]) ⟨_, _, rfl⟩ hl (szt (by omega)) ?_ ?_⟩
  ·rintro i y u σ H1 zs N hx hy ⟨o, o2, rfl⟩ s1' e1 hz hN
   obtain ⟨t, ht, rfl⟩ := strAt hy
   rw [List.getElem?_map] at ht
   obtain ⟨x, hxx, rfl⟩ := Option.map_eq_some_iff.mp ht
   obtain ⟨p, hp, tr⟩ := hA.get hx
   rw [List.getElem?_map, hxx] at hp
   have hp := (Option.some.inj hp).symm
   subst hp
   have ok := hR.ok x (List.mem_of_getElem? hxx)
   have tr := tr.kp s1'.kt
   unfold turnOf
   obtain ⟨xd, xb⟩ := x
   obtain ⟨a', d, b, rfl, ha', hd, hb⟩ := ps_two (show Tr H1 (.tup [xd.P, .bl xb]) y from tr)
   cases hb
   have hle : xd.T.length ≤ 400 := ddT_le ok
   have ep : (Str.ofString "+ ").length = 2 := by decide +kernel
   have em : (Str.ofString "- ").length = 2 := by decide +kernel
   walk_at "vc2"
   refine ⟨_, SqT.of ha', rfl, _, _, rfl, _, _, rfl, rfl, ?_⟩
   have nx : ∀ H2, Same H1 H2 → ∃ xs, H2 l = some (.lst xs) ∧ xs.length < sizeLine ∧ N [some d, some (.bl xb)] (upd H2 l (.lst (xs ++ [V.str (entT (xd, xb))]))) := fun H2 s2 => ⟨zs, s2 _ _ e1, hz, hN _ _ ⟨_, _, rfl⟩ (fun b o h n => by rw [upd_ne n]; exact s2 b o h) upd_same⟩
   cases xb with
   | true => exact ⟨true, rfl, iteT ⟨d, xd, rfl, ⟨hd, ok⟩, fun H2 s2 => ⟨_, rfl, szl (by omega), nx H2 s2⟩⟩⟩
   | false => exact ⟨false, rfl, iteF ⟨d, xd, rfl, ⟨hd, ok⟩, fun H2 s2 => ⟨_, rfl, szl (by omega), nx H2 s2⟩⟩⟩
  ·intro H1 s1' e1
   refine ⟨_, l, _, rfl, rfl, SqL.of e1, ?_, q H1 s1'⟩
   have h := rows_le (T := entT) (z := NL) (c := 402) (m := 9) (fun x hx => Nat.le_trans (entT_le (hR.ok x hx)) (by decide)) few (by rw [s1n]; decide)
   exact Nat.le_trans h (by decide)
theorem sc_is_deed : FnScope ["thing"] ["thing"] (defScope s_is_deed) := ⟨rfl, rfl, rfl, by decide +kernel, rfl, by decide +kernel, by decide +kernel⟩
set_option maxHeartbeats 4000000 in
theorem ok_is_deed (T : Txt K mg fs fds tc u) (G_is_letter : FnOk P w K mg base CX0 3 (fs 5) (fds 5) ["thing"] (spP letterV 2)) (G_is_name : FnOk P w K mg base CX0 1 (fs 0) (fds 0) ["thing"] spNameV) : FnOk P w K mg base CX0 4 (fs 6) (fds 6) ["thing"] (spP deedV 3) := by
 refine T.d_is_deed.F.ok sc_is_deed (fun vs H Q E h => ?_) (fun cdv A outer s H vs Q E hr h => ?_)
 ·obtain ⟨v, rfl, hA, q⟩ := h
  rfl
 ·obtain ⟨v, rfl, hA, q⟩ := h
  refine ⟨_, (pss_cons (ps_if (PW.pt (pw_or (pt_not (pt_val (pe_callB (isiK K) (by rfl) T.z_isinstance bt_isinstance (pa_cons (pv 0) (pa_cons (pe_bltn (v := .ty "tuple") rfl T.z_tuple bt_tuple rfl) pa_nil))))) (pw_or (pt_not (pt_chain op_le op_le pe_int (pe_callB (lenT K) (by rfl) T.z_len bt_len (pa_cons (pv 0) pa_nil)) pe_int)) (pw_or1 (pt_not (pt_val (pe_callB (isiK K) (by rfl) T.z_isinstance bt_isinstance (pa_cons (pe_ix (ixT K) (pv 0) pe_int (fun _ _ => rfl)) (pa_cons (pe_bltn (v := .ty "str") rfl T.z_str bt_str rfl) pa_nil))))))))) (pss_one (ps_ret pe_bl)) pss_nil)
   (pss_cons (ps_if (pt_cmpR op_eq (pe_callB (lenT K) (by rfl) T.z_len bt_len (pa_cons (pv 0) pa_nil)) pe_int (nomark _)) (pss_one (ps_ret (pe_and (pe_cmpR op_eq (pe_ix (ixT K) (pv 0) pe_int (fun _ _ => rfl)) pe_str (nomark _)) (pe_and (pe_fn T.d_is_name G_is_name hr (by decide) rfl (pa_cons (pe_ix (ixT K) (pv 0) pe_int (fun _ _ => rfl)) pa_nil)) (pe_and (pe_fn T.d_is_name G_is_name hr (by decide) rfl (pa_cons (pe_ix (ixT K) (pv 0) pe_int (fun _ _ => rfl)) pa_nil)) (pe_one (pe_cmpR op_ne (pe_ix (ixT K) (pv 0) pe_int (fun _ _ => rfl)) (pe_ix (ixT K) (pv 0) pe_int (fun _ _ => rfl)) (nomark _)))))))) pss_nil)
   (pss_cons (ps_if (pt_cmpR (inQ K) (pe_ix (ixT K) (pv 0) pe_int (fun _ _ => rfl)) (pe_glob (v := .ref (tc 5)) rfl T.c_LETTER_WORDS T.r_LETTER_WORDS) (by rfl)) (pss_one (ps_ret (pe_fn T.d_is_letter G_is_letter hr (by decide) rfl (pa_cons (pe_ix (ixT K) (pv 0) pe_int (fun _ _ => rfl)) pa_nil)))) pss_nil)
   (pss_one (ps_ret (pe_and (pe_cmpR (inQ K) (pe_ix (ixT K) (pv 0) pe_int (fun _ _ => rfl)) (pe_glob (v := .ref (tc 6)) rfl T.c_NAME_WORDS T.r_NAME_WORDS) (by rfl)) (pe_one (pe_fn T.d_is_name G_is_name hr (by decide) rfl (pa_cons (pe_ix (ixT K) (pv 0) pe_int (fun _ _ => rfl)) pa_nil))))))))), ?_⟩
  obtain ⟨⟨k, hT⟩, hx⟩ := hA
  refine tSeq_i ?_; walk_at "vc0"
  refine ⟨_, hT.is.ty, _, kd_tup k, ?_⟩
  rcases hT.tup with ⟨rfl, a, xs, rfl, ha, et⟩ | ⟨n, et⟩
  ·rw [decide_eq_true rfl]
   refine notyes ?_
   have hx := hx xs et
   walk_at "vc0"
   by_cases h23 : xs.length = 2 ∨ xs.length = 3
   ·refine ⟨_, SqT.of ha, iteDy (by omega) ?_⟩
    rw [decide_eq_true (show (xs.length : Int) ≤ 3 by omega)]
    refine notyes ?_
    have S0 : Same H H := Same.refl _
    rcases h23 with h2 | h3
    ·match xs, h2 with
     | [c, b], _ =>
      obtain ⟨kc, tc0⟩ := (hx.2 c (by simp)).tg
      have tb := hx.2 b (by simp)
      obtain ⟨kb, tb0⟩ := tb.tg
      refine ⟨_, SqT.of ha, _, rfl, _, tc0.is.ty, _, kd_str kc, ?_⟩
      by_cases ec : kc = .str
      ·subst ec
       obtain ⟨y, rfl⟩ := tc0.is
       rw [decide_eq_true rfl]
       refine notyes ?_
       have eq : deedV H (.ref a) = (if LW.contains y = true then letterV H b else NW.contains y && nameV b) := by unfold deedV; rw [et]; rfl
       rw [eq] at q
       refine tSeq_i ?_; walk_at "vc0"
       refine ⟨_, SqT.of ha, rfl, iteDn (by show ¬ ((2 : Nat) : Int) = 3; decide) ?_⟩
       refine tSeq_i ?_; walk_at "vc0"
       refine ⟨_, SqT.of ha, _, rfl, _, .inr (T.q_LETTER_WORDS H), rfl, flat_strs (row := LW), ?_⟩
       rw [show inV (.str y) [V.str (Str.ofString "come"), V.str (Str.ofString "go")] = LW.contains y from inV_str (row := LW)]
       cases el : LW.contains y with
       | true =>
        rw [el, if_pos rfl] at q
        exact iteT ⟨_, SqT.of ha, _, rfl, b, rfl, tb, q⟩
       | false =>
        rw [el, if_neg Bool.false_ne_true] at q
        refine iteF ⟨_, SqT.of ha, _, rfl, _, .inr (T.q_NAME_WORDS H), rfl, flat_strs (row := NW), ?_⟩
        rw [show inV (.str y) [V.str (Str.ofString "split"), V.str (Str.ofString "free"), V.str (Str.ofString "read"), V.str (Str.ofString "unread")] = NW.contains y from inV_str (row := NW)]
        cases en : NW.contains y with
        | false => rw [en] at q; exact iteF (q H S0)
        | true =>
         rw [en, Bool.true_and] at q
         exact iteT ⟨_, SqT.of ha, _, rfl, b, kb, rfl, tb0, q⟩
      ·have eq : deedV H (.ref a) = false := by unfold deedV; rw [et]; exact deedL_no0 (tc0.is.not_str ec)
       rw [eq] at q
       rw [decide_eq_false ec]
       exact notnot (q H S0)
    ·match xs, h3 with
     | [c, b, e], _ =>
      obtain ⟨kc, tc0⟩ := (hx.2 c (by simp)).tg
      obtain ⟨kb, tb0⟩ := (hx.2 b (by simp)).tg
      obtain ⟨ke, te0⟩ := (hx.2 e (by simp)).tg
      refine ⟨_, SqT.of ha, _, rfl, _, tc0.is.ty, _, kd_str kc, ?_⟩
      by_cases ec : kc = .str
      ·subst ec
       obtain ⟨y, rfl⟩ := tc0.is
       rw [decide_eq_true rfl]
       refine notyes ?_
       have eq : deedV H (.ref a) = (decide (y = JW) && (nameV b && (nameV e && !decide (b = e)))) := by unfold deedV; rw [et]; rfl
       rw [eq] at q
       refine tSeq_i ?_; walk_at "vc0"
       refine ⟨_, SqT.of ha, rfl, iteDy (show ((3 : Nat) : Int) = 3 from rfl) ?_⟩
       refine ⟨_, SqT.of ha, _, rfl, rfl, ?_⟩
       refine iteD (fun gj => ?_) (fun gj => ?_)
       rotate_left
       ·rw [decide_eq_false (fun z => gj (by rw [z]))] at q
        exact q H S0
       ·rw [decide_eq_true (V.str.inj gj), Bool.true_and] at q
        refine ⟨_, (SqT.of ha).same S0, _, rfl, b, kb, rfl, tb0.same S0, fun H1 s1 => ⟨_, rfl, ?_⟩⟩
        cases e1 : nameV b with
        | false => rw [e1] at q; exact iteF (q H1 (S0.trans s1))
        | true =>
         rw [e1, Bool.true_and] at q
         refine iteT ⟨_, (SqT.of ha).same (S0.trans s1), _, rfl, e, ke, rfl, te0.same (S0.trans s1), fun H2 s2 => ⟨_, rfl, ?_⟩⟩
         cases e2 : nameV e with
         | false => rw [e2] at q; exact iteF (q H2 ((S0.trans s1).trans s2))
         | true =>
          rw [e2, Bool.true_and] at q
          obtain ⟨u, rfl⟩ := nameV_str e1
          obtain ⟨w, rfl⟩ := nameV_str e2
          refine iteT ⟨_, (SqT.of ha).same ((S0.trans s1).trans s2), _, rfl, _, (SqT.of ha).same ((S0.trans s1).trans s2), _, rfl, rfl, ?_⟩
          exact q H2 ((S0.trans s1).trans s2)
      ·have eq : deedV H (.ref a) = false := by unfold deedV; rw [et]; exact deedL_no0 (tc0.is.not_str ec)
       rw [eq] at q
       rw [decide_eq_false ec]
       exact notnot (q H S0)
   ·have eq : deedV H (.ref a) = false := by unfold deedV; rw [et]; exact deedL_no h23
    rw [eq] at q
    refine ⟨_, SqT.of ha, iteD (fun g => ?_) (fun g => q H (Same.refl _))⟩
    rw [decide_eq_false (show ¬ (xs.length : Int) ≤ 3 by omega)]
    exact notnot (q H (Same.refl _))
  ·have eq : deedV H v = false := by unfold deedV; rw [et]
   rw [eq] at q
   rw [decide_eq_false n]
   exact notnot (q H (Same.refl _))
theorem sc_letter_in : FnScope ["text", "parts", "name", "day", "names", "head", "row", "letter"] ["text"] (defScope s_letter_in) := ⟨rfl, rfl, rfl, by decide +kernel, rfl, by decide +kernel, by decide +kernel⟩
set_option maxHeartbeats 4000000 in
theorem ok_letter_in (T : Txt K mg fs fds tc u) (G_number_in : FnOk P w K mg base CX0 2 (fs 12) (fds 12) ["text"] spNum) (G_is_letter : FnOk P w K mg base CX0 3 (fs 5) (fds 5) ["thing"] (spP letterV 2)) : FnOk P w K mg base CX0 4 (fs 16) (fds 16) ["text"] (spIn letP Lt.P) := by
 refine T.d_letter_in.F.ok sc_letter_in (fun vs H Q E h => ?_) (fun cdv A outer s H vs Q E hr h => ?_)
 ·obtain ⟨x, rfl, hx, q⟩ := h
  rfl
 ·obtain ⟨x, rfl, hx, q⟩ := h
  refine ⟨_, (pss_cons (ps_set (i := 1) sc_letter_in.nd rfl (Or.inl rfl) (pe_bmK K PySem.F.plainAttrs_str PySem.F.slot_str_split PySem.F.type_str_split mt_splitN (pv 0) (pa_cons pe_str (pa_cons pe_int pa_nil))))
   (pss_cons (ps_if (pt_cmpR op_lt (pe_callB (lenL K) (by rfl) T.z_len bt_len (pa_cons (pv 1) pa_nil)) pe_int (nomark _)) (pss_one (ps_ret pe_non)) pss_nil)
   (pss_cons (ps_asg (pv 1) (pg_lstK (n := 4) K rfl (pgs_cons (pg_name (i := 2) sc_letter_in.nd rfl (Or.inl rfl)) (pgs_cons (pg_name (i := 3) sc_letter_in.nd rfl (Or.inl rfl)) (pgs_cons (pg_name (i := 4) sc_letter_in.nd rfl (Or.inl rfl)) (pgs_cons (pg_name (i := 5) sc_letter_in.nd rfl (Or.inl rfl)) pgs_nil))))))
   (pss_cons (ps_set (i := 6) sc_letter_in.nd rfl (Or.inl rfl) (pe_ifExp (pt_cmpR op_eq (pv 4) pe_str (nomark _)) (pe_tup pa_nil) (pe_callTy (tupL K) (by rfl) T.z_tuple bt_tuple (pa_cons (pe_bmK K PySem.F.plainAttrs_str PySem.F.slot_str_split PySem.F.type_str_split mt_split (pv 4) (pa_cons pe_str pa_nil)) pa_nil))))
   (pss_cons (ps_set (i := 7) sc_letter_in.nd rfl (Or.inl rfl) (pe_tup (pa_cons (pv 2) (pa_cons (pe_fn T.d_number_in G_number_in hr (by decide) rfl (pa_cons (pv 3) pa_nil)) (pa_cons (pv 5) (pa_cons (pv 6) pa_nil))))))
   (pss_one (ps_ret (pe_ifExp (pt_val (pe_fn T.d_is_letter G_is_letter hr (by decide) rfl (pa_cons (pv 7) pa_nil))) (pv 7) pe_non)))))))), ?_⟩
  refine tSeq_i ?_; walk_at "vc1"
  refine ⟨_, rfl, rfl, x, BL, 3, rfl, rfl, by decide, by decide, by rw [s1]; decide, by omega, fun l hl => ?_⟩
  have s1' := Same.upd (o := .lst ((splitN x BL 3).map V.str)) hl
  have el : upd H l (.lst ((splitN x BL 3).map V.str)) l = some (.lst ((splitN x BL 3).map V.str)) := upd_same
  generalize upd H l (.lst ((splitN x BL 3).map V.str)) = H1 at s1' el
  by_cases few : (Txt.split x BL).length < 4
  ·rw [splitN_few few] at el
   rw [letP_few few] at q
   refine tSeq_i ?_; walk_at "vc0"
   exact ⟨_, SqL.of el, iteDy (by rw [List.length_map]; omega) (q _ H1 s1' rfl)⟩
  obtain ⟨n, d, r, h, hs, e⟩ : ∃ n d r h hs, Txt.split x BL = n :: d :: r :: h :: hs := by
   generalize Txt.split x BL = ps at few
   match ps, few with
   | n :: d :: r :: h :: hs, _ => exact ⟨n, d, r, h, hs, rfl⟩
   | [], f => exact absurd (by decide) f
   | [_], f => exact absurd (by simp) f
   | [_, _], f => exact absurd (by simp) f
   | [_, _, _], f => exact absurd (by simp) f
  rw [splitN_big e] at el
  have pl := split_part x BL
  rw [e] at pl
  have ln := pl n (by simp)
  have ld := pl d (by simp)
  have lr := pl r (by simp)
  have lh : (Txt.join BL (h :: hs)).length ≤ 900 := by
   have ej := congrArg Str.length (split_join_self x BL)
   rw [e, joinT_eq] at ej
   rw [joinT_eq]
   have e4 : (n ++ BL ++ (d ++ BL ++ (r ++ BL ++ Str.join BL (h :: hs)))).length = x.length := ej
   rw [lenA, lenA, lenA, lenA, lenA, lenA] at e4
   omega
  have eq0 : letP x = (match numP d with | some k => if Lt.ok ⟨n, k, Txt.join BL (h :: hs), rowP r⟩ = true then some ⟨n, k, Txt.join BL (h :: hs), rowP r⟩ else none | none => none) := by unfold letP; rw [e]; rfl
  rw [eq0] at q
  clear eq0 pl
  generalize Txt.join BL (h :: hs) = hd at lh el q
  refine tSeq_i ?_; walk_at "vc0"
  refine ⟨_, SqL.of el, iteDn (by simp) ?_⟩
  refine tSeq_i ?_; walk_at "vc0"
  refine ⟨_, SqL.of el, rfl, _, _, rfl, _, _, rfl, _, _, rfl, _, _, rfl, rfl, ?_⟩
  refine tSeq_i (row_asg rfl (by omega) fun t H2 s2 ht => ?_)
  dsimp only [List.set_cons_succ, List.set_cons_zero]
  have rl : (rowP r).length ≤ 1000 ∧ ∀ z ∈ rowP r, z.length ≤ 900 := by
   unfold rowP
   split
   ·exact ⟨Nat.zero_le _, fun _ h => nomatch h⟩
   ·exact ⟨Nat.le_trans (split_few r CM (by rw [s1c]; decide)) (by omega), fun z hz => Nat.le_trans (split_part r CM z hz) (by omega)⟩
  generalize rowP r = row at ht rl q
  refine tSeq_i ?_; walk_at "vc0"
  refine ⟨d, rfl, by omega, fun H3 s3 => ⟨by decide, fun a ha => ?_⟩⟩
  have ht3 := s3 _ _ ht
  have at' : t ≠ a := fun z => by rw [← z, ht3] at ha; cases ha
  have sA := ((s1'.trans s2).trans s3).trans (Same.upd (o := .tup [V.str n, (match numP d with | some k => V.int k | none => V.non), .str hd, .ref t]) ha)
  have ht4 : upd H3 a (.tup [V.str n, (match numP d with | some k => V.int k | none => V.non), .str hd, .ref t]) t = some (.tup (row.map V.str)) := by rw [upd_ne at']; exact ht3
  have ha4 : upd H3 a (.tup [V.str n, (match numP d with | some k => V.int k | none => V.non), .str hd, .ref t]) a = some (.tup [V.str n, (match numP d with | some k => V.int k | none => V.non), .str hd, .ref t]) := upd_same
  generalize upd H3 a (.tup [V.str n, (match numP d with | some k => V.int k | none => V.non), .str hd, .ref t]) = H4 at sA ht4 ha4
  have hdv : Any H4 (match numP d with | some k => V.int k | none => V.non) := by
   cases numP d with
   | none => exact any_non
   | some k => exact any_int
  have anyA : Any H4 (.ref a) := any_tup ha4 (by show 4 ≤ 1000; decide) fun y hy => by
   simp only [List.mem_cons, List.mem_nil_iff, or_false] at hy
   rcases hy with rfl | rfl | rfl | rfl
   ·exact any_str (by omega)
   ·exact hdv
   ·exact any_str (by omega)
   ·exact strs_any ht4 rl.1 rl.2
  refine ⟨_, rfl, anyA 2, fun H5 s5 => ⟨_, rfl, ?_⟩⟩
  rw [letterV_at ha4 ht4]
  cases hn : numP d with
  | none =>
   rw [hn] at q
   have e0 : (nameB n && (dayV V.non && (headV (.str hd) && (!decide (9 < (row.length : Int)) && row.all nameB)))) = false := by rw [show dayV V.non = false from rfl, Bool.false_and, Bool.and_false]
   rw [e0]
   exact iteF (q _ H5 (sA.trans s5) rfl)
  | some k =>
   rw [hn] at q ha4
   dsimp only at q ha4 ⊢
   show if (Lt.ok ⟨n, k, hd, row⟩) = true then _ else _
   cases ok : Lt.ok ⟨n, k, hd, row⟩ with
   | false =>
    rw [ok] at q
    exact iteF (q _ H5 (sA.trans s5) rfl)
   | true =>
    rw [ok] at q
    refine iteT (q _ H5 (sA.trans s5) ?_)
    exact .tup (s5 _ _ ha4) (.cons (.str _) (.cons (.int _) (.cons (.str _) (.cons (.tup (s5 _ _ ht4) TrL.strs) .nil))))
theorem sc_rules_in : FnScope ["text", "rules"] ["text"] (defScope s_rules_in) := ⟨rfl, rfl, rfl, by decide +kernel, rfl, by decide +kernel, by decide +kernel⟩
set_option maxHeartbeats 4000000 in
theorem ok_rules_in (T : Txt K mg fs fds tc u) (G_is_rules : FnOk P w K mg base CX0 3 (fs 10) (fds 10) ["thing"] spRulesV) : FnOk P w K mg base CX0 4 (fs 17) (fds 17) ["text"] (spIn rulP rulesPV) := by
 refine T.d_rules_in.F.ok sc_rules_in (fun vs H Q E h => ?_) (fun cdv A outer s H vs Q E hr h => ?_)
 ·obtain ⟨x, rfl, hx, q⟩ := h
  rfl
 ·obtain ⟨x, rfl, hx, q⟩ := h
  refine ⟨_, (pss_cons (ps_if (pt_cmpR op_eq (pv 0) pe_str (nomark _)) (pss_one (ps_ret (pe_tup pa_nil))) pss_nil)
   (pss_cons (ps_set (i := 1) sc_rules_in.nd rfl (Or.inl rfl) (pe_callTy (tupL K) (by rfl) T.z_tuple bt_tuple (pa_cons (pe_lc ["part"] 1 [] ["text", "rules"] (defScope s_rules_in) rfl rfl rfl (pi_lst K (pe_bmK K PySem.F.plainAttrs_str PySem.F.slot_str_split PySem.F.type_str_split mt_split (pv 0) (pa_cons pe_str pa_nil))) (by decide +kernel) (fun _ => (pg_name (i := 0) (show (["part"] : List Str).Nodup by decide +kernel) rfl (Or.inl rfl))) (fun _ => pts_nil) (fun _ => (pe_callTy (tupL K) (by rfl) T.z_tuple bt_tuple (pa_cons (pe_bmK K PySem.F.plainAttrs_str PySem.F.slot_str_split PySem.F.type_str_split mt_split (pv 0) (pa_cons pe_str pa_nil)) pa_nil)))) pa_nil)))
   (pss_one (ps_ret (pe_ifExp (pt_val (pe_fn T.d_is_rules G_is_rules hr (by decide) rfl (pa_cons (pv 1) pa_nil))) (pv 1) pe_non))))), ?_⟩
  refine tSeq_i ?_; walk_at "vc1"
  refine ⟨rfl, iteD (fun e => ⟨Nat.zero_le _, fun p hp => q _ _ (Same.upd hp) ?_⟩) (fun e => ?_)⟩
  ·have e2 : rulP x = some [] := by unfold rulP; rw [if_pos e]
   rw [e2]
   exact .tup upd_same .nil
  have sp1 := split_few x CB (by rw [s2c]; decide)
  have sp2 := split_part x CB
  refine tSeq_i (split_in ⟨_, rfl, rfl, rSplit_of (by rw [s2c]; decide) (by omega) fun l hl => ?_⟩)
  have s1' := Same.upd (o := .lst ((Txt.split x CB).map V.str)) hl
  have el : upd H l (.lst ((Txt.split x CB).map V.str)) l = some (.lst ((Txt.split x CB).map V.str)) := upd_same
  generalize upd H l (.lst ((Txt.split x CB).map V.str)) = H1 at s1' el
  refine ⟨l, rfl, ⟨_, SqL.of el⟩, fun l2 hl2 => comp_ents (Itl K l) (Txt.split x CB) V.str (fun _ => true) (fun H p v => Tr H (rlP (Txt.split p BL)) v) (fun σ => ∃ o, σ = [o]) ⟨_, rfl⟩ hl2 (szt (by omega)) (fun H' s => ⟨_, (SqL.of el).same s, by rw [List.length_map]; exact Nat.le_refl _⟩) (fun i H' hi s => ⟨_, _, (SqL.of el).same s, by rw [List.getElem?_map, List.getElem?_eq_getElem hi]; rfl⟩)
   (fun i H2 v H3 hi s y => by
    obtain ⟨e1, hy⟩ := y
    have := hy _ ((SqL.of el).same s)
    rw [List.getElem?_map] at this
    obtain ⟨z, hz, ez⟩ := Option.map_eq_some_iff.mp this
    exact ⟨e1, z, hz, ez.symm⟩) (fun H2 H3 p v k h => h.kp k) ?_ ?_⟩
  ·rintro p σ H2 ys N hp ⟨o, rfl⟩ s2 e2 hz n1 n2
   have lp := sp2 p hp
   unfold turnOf
   walk_at "vc3"
   refine split_in ⟨_, rfl, rfl, rSplit_of (by rw [s1]; decide) (by omega) fun l3 hl3 => ?_⟩
   have s3 := Same.upd (o := .lst ((Txt.split p BL).map V.str)) hl3
   have e3 : upd H2 l3 (.lst ((Txt.split p BL).map V.str)) l3 = some (.lst ((Txt.split p BL).map V.str)) := upd_same
   generalize upd H2 l3 (.lst ((Txt.split p BL).map V.str)) = H3 at s3 e3
   refine ⟨l3, rfl, _, SqL.of e3, fun t ht => ⟨ys, Same.upd ht _ _ (s3 _ _ e2), hz, n2 rfl _ _ _ ⟨_, rfl⟩ (s3.trans (Same.upd ht)) (.tup upd_same TrL.strs)⟩⟩
  ·intro H2 ys s2 py el2
   rw [List.filter_eq_self.mpr fun _ _ => rfl] at py
   have tl : TrL H2 (((Txt.split x CB).map fun p => Txt.split p BL).map rlP) ys := by rw [List.map_map]; exact TrL.paired py
   have ly := tl.length
   rw [List.length_map, List.length_map] at ly
   refine ⟨l2, _, rfl, SqL.of el2, fun r hr => ?_⟩
   have s3 := Same.upd (o := .tup ys) hr
   have e3 : upd H2 r (.tup ys) r = some (.tup ys) := upd_same
   have tl3 := tl.kp s3.kt
   generalize upd H2 r (.tup ys) = H3 at s3 e3 tl3
   have sA := (s1'.trans s2).trans s3
   have few : ∀ p ∈ Txt.split x CB, (Txt.split p BL).length ≤ 1000 ∧ ∀ z ∈ Txt.split p BL, z.length ≤ 900 := fun p hp => by
    have h1 := sp2 p hp
    exact ⟨Nat.le_trans (split_few p BL (by rw [s1]; decide)) (by omega), fun z hz => Nat.le_trans (split_part p BL z hz) (by omega)⟩
   have anyR : Any H3 (.ref r) := any_tup e3 (by omega) fun y hy => by
    obtain ⟨i, hi⟩ := List.mem_iff_getElem?.mp hy
    obtain ⟨p, hp, t⟩ := tl3.get hi
    rw [List.map_map, List.getElem?_map] at hp
    obtain ⟨z, hz, ez⟩ := Option.map_eq_some_iff.mp hp
    rw [← ez] at t
    obtain ⟨a, us, rfl, ha, hu⟩ := t.tup'
    rw [trl_strs hu] at ha
    have f := few z (List.mem_of_getElem? hz)
    exact strs_any ha f.1 f.2
   have eq0 : rulP x = if rulesOk ((Txt.split x CB).map fun p => Txt.split p BL) = true then some ((Txt.split x CB).map fun p => Txt.split p BL) else none := by unfold rulP; rw [if_neg e]
   rw [eq0] at q
   walk_at "vc0"
   refine ⟨_, rfl, anyR 2, fun H4 s4 => ⟨_, rfl, ?_⟩⟩
   rw [rulesV_tr e3 tl3]
   cases ok : rulesOk ((Txt.split x CB).map fun p => Txt.split p BL) with
   | false =>
    rw [ok] at q
    exact iteF (q _ H4 (sA.trans s4) rfl)
   | true =>
    rw [ok] at q
    exact iteT (q _ H4 (sA.trans s4) (.tup (s4 _ _ e3) (tl3.kp s4.kt)))
theorem sc_law_pack : FnScope ["_law_purse_here", "_law_names_here", "_law_found", "_law_k", "_law_letter_here"] ["_law_purse_here", "_law_names_here"] (defScope s_law_pack) := ⟨rfl, rfl, rfl, by decide +kernel, rfl, by decide +kernel, by decide +kernel⟩
set_option maxHeartbeats 4000000 in
theorem ok_law_pack (T : Txt K mg fs fds tc u) (G_law_letter : FnOk P w K mg base CX0 3 (fs 31) (fds 31) ["_law_purse_here", "_law_names_here"] (spDraw LtV)) (G_law_pick : FnOk P w K mg base CX0 1 (fs 26) (fds 26) ["_law_purse_here", "_law_many"] spPick) : FnOk P w K mg base CX0 4 (fs 32) (fds 32) ["_law_purse_here", "_law_names_here"] (spDraw PkV) := by
 refine T.d_law_pack.F.ok sc_law_pack (fun vs H Q E h => ?_) (fun cdv A outer s H vs Q E hr h => ?_)
 ·obtain ⟨p, g, l, zs, rfl, hp, hN, q⟩ := h
  rfl
 ·obtain ⟨p, g, l, zs, rfl, hp, hN, q⟩ := h
  refine ⟨_, (pss_cons (ps_set (i := 2) sc_law_pack.nd rfl (Or.inl rfl) (pe_lst pa_nil))
   (pss_cons (ps_for PassesOwn.never rfl (pi_range1 rfl T.z_range (pa_cons (pe_ix (ixL K) (ew_l (pw_c (ew pe_int) (pw_c (ew pe_int) (pw_c (ew pe_int) (pw_c (ew pe_int) (pw_c (ew pe_int) (pw_c (ew pe_int) pw_nil))))))).h (pe_fn T.d_law_pick G_law_pick hr (by decide) rfl (pa_cons (pv 0) (pa_cons pe_int pa_nil))) (fun _ _ => rfl)) pa_nil)) (pg_name (i := 3) sc_law_pack.nd rfl (Or.inl rfl)) (pss_cons (ps_set (i := 4) sc_law_pack.nd rfl (Or.inl rfl) (pe_fn T.d_law_letter G_law_letter hr (by decide) rfl (pa_cons (pv 0) (pa_cons (pv 1) pa_nil))))
   (pss_one (ps_if (pt_cmpR (notinT K hr) (pv 4) (pv 2) (by rfl)) (pss_one (ps_expr (pe_bmK K PySem.F.plainAttrs_list PySem.F.slot_list_append PySem.F.type_list_append mt_append (pv 2) (pa_cons (pv 4) pa_nil)))) pss_nil))))
   (pss_one (ps_ret (pe_callTy (tupL K) (by rfl) T.z_tuple bt_tuple (pa_cons (pe_callB (sortQ K hr) (by rfl) T.z_sorted bt_sorted (pa_cons (pv 2) pa_nil)) pa_nil)))))), ?_⟩
  refine tSeq_i ?_; walk_at "vc0"
  refine ⟨Nat.zero_le _, fun l1 hl1 => ?_⟩
  have np : l1 ≠ p := (hp.nep hl1).symm
  have ng : l1 ≠ g := (hp.neg hl1).symm
  refine tSeq_i ⟨by decide, fun l2 hl2 => ⟨_, rfl, p, g, 6, rfl, (hp.new hl1).new hl2, by decide, by decide, fun d H2 d0 d1 hp2 f2 => ?_⟩⟩
  have hl2' := f2 l2 _ upd_same ((hp.new hl1).nep hl2).symm ((hp.new hl1).neg hl2).symm
  obtain ⟨m, hm, hm0, hm1⟩ : ∃ m : Int, atI [V.int 0, V.int 1, V.int 2, V.int 3, V.int 5, V.int 9] d = some (.int m) ∧ 0 ≤ m ∧ m ≤ 9 := by
   have hd : d = 0 ∨ d = 1 ∨ d = 2 ∨ d = 3 ∨ d = 4 ∨ d = 5 := by omega
   rcases hd with rfl | rfl | rfl | rfl | rfl | rfl <;> exact ⟨_, rfl, by decide, by decide⟩
  have h1' : upd (upd H l1 (.lst [])) l2 (.lst [V.int 0, V.int 1, V.int 2, V.int 3, V.int 5, V.int 9]) l1 = some (.lst []) := by rw [upd_ne (ne_of_none (upd_same (H := H) (o := .lst [])) hl2)]; exact upd_same
  have f2' : Fr p g H H2 := (((Fr.of (Same.upd hl1)).new hl2).trans f2)
  refine ⟨l2, _, d, _, rfl, rfl, SqL.of hl2', hm, m, rfl, by omega, by omega, for_range (fun i σ H' => Pur H' p g ∧ Fr p g H H' ∧ (∃ (vs : List V) (xs : List Lt), H' l1 = some (.lst vs) ∧ xs.length ≤ i ∧ TrL H' (xs.map Lt.P) vs ∧ (∀ x ∈ xs, x.Ok) ∧ (xs.map Lt.P).Nodup) ∧ ∃ v3 v4, σ = [some (.ref p), some (.ref l), some (.ref l1), v3, v4]) ?_ ?_ ?_⟩
  ·exact ⟨hp2, f2', ⟨[], [], f2 l1 _ h1' np ng, Nat.le_refl _, .nil, (fun _ h => nomatch h), .nil⟩, _, _, rfl⟩
  ·rintro i σ H3 hi ⟨hp3, f3, ⟨vs, xs, hv, hvl, htr, hok, hnd⟩, v3, v4, rfl⟩
   show tSeq _ _ _ _ _
   refine tSeq_i ?_; walk_at "vc0"
   refine ⟨p, g, l, zs, rfl, hp3, hN.fr f3, fun v x H5 hvt hp5 f5 => ?_⟩
   have hv5 := f5 l1 _ hv np ng
   have k5 := f5.kp hp3 hp5
   have htr5 := htr.kp (kpt_of k5)
   have lx := htr.length
   rw [List.length_map] at lx
   walk_at "vc0"
   refine ⟨vs, hv5, _, htr5, x.P, hvt.tr, lP_ok.2, List.all_eq_true.mpr fun z hz => by obtain ⟨y, _, rfl⟩ := List.mem_map.mp hz; exact lP_ok.2, ?_⟩
   have same : ∃ v3 v4, [some (V.ref p), some (V.ref l), some (V.ref l1), some (V.int (0 + (i : Int))), some v] = [some (V.ref p), some (V.ref l), some (V.ref l1), v3, v4] := ⟨_, _, rfl⟩
   cases hc : (xs.map Lt.P).any fun z => Mr.eqP z x.P with
   | true => exact iteF ⟨hp5, f3.trans f5, ⟨vs, hv5, xs, by omega, htr5, hok, hnd⟩, _, rfl⟩
   | false =>
    have fresh : x.P ∉ xs.map Lt.P := fun hm => by
     have h2 := List.any_eq_false.mp hc x.P hm
     exact h2 (Mr.eqP_refl lP_ok.1)
    refine iteT ⟨.inl ⟨_, SqL.of hv5⟩, _, hv5, szt (by omega), hp5.upd np.symm ng.symm, fun b o hb n1 n2 => ?_, ⟨vs ++ [v], upd_same, xs ++ [x], ?_, ?_, ?_, ?_⟩, ?_⟩
    ·rw [upd_ne (ne_of_none hb hl1)]
     exact f5 b o (f3 b o hb n1 n2) n1 n2
    ·rw [List.length_append]; show _ + 1 ≤ _; omega
    ·rw [List.map_append]
     exact (htr5.kp (KpT.upd hv5)).app (.cons (hvt.tr.kp (KpT.upd hv5)) .nil)
    ·intro y hy
     rcases List.mem_append.mp hy with h | h
     ·exact hok y h
     ·rw [List.mem_singleton.mp h]; exact hvt.ok
    ·rw [List.map_append]
     refine List.nodup_append.mpr ⟨hnd, by simp, fun a ha b hb => ?_⟩
     have eb : b = x.P := by simpa using hb
     rw [eb]
     exact fun z => fresh (z ▸ ha)
    ·exact ⟨_, rfl⟩
  ·rintro σ H3 ⟨hp3, f3, ⟨vs, xs, hv, hvl, htr, hok, hnd⟩, v3, v4, rfl⟩
   have lx := htr.length
   rw [List.length_map] at lx
   obtain ⟨ks, kp, ke, kup⟩ := sorted_lets hnd
   walk_at "vc0"
   refine ⟨_, SqL.of hv, _, htr, by omega, (fun z hz => by obtain ⟨y, _, rfl⟩ := List.mem_map.mp hz; rfl), lets_cmp xs, fun l4 out tro hl4 => ⟨_, SqL.of upd_same, fun l5 hl5 => ?_⟩⟩
   rw [ke] at tro
   have s45 := (Same.upd (o := .lst out) hl4).trans (Same.upd (o := .tup out) hl5)
   exact q _ ks _ ⟨⟨.tup upd_same (tro.kp s45.kt), fun y hy => hok y (kp.mem_iff.mp hy), by rw [kp.length_eq]; omega⟩, kup⟩ ((hp3.new hl4).new hl5) ((f3.new hl4).new hl5)
theorem sc_law_deed : FnScope ["_law_purse_here", "_law_names_here", "_law_lot", "_law_one", "_law_others", "_law_other"] ["_law_purse_here", "_law_names_here"] (defScope s_law_deed) := ⟨rfl, rfl, rfl, by decide +kernel, rfl, by decide +kernel, by decide +kernel⟩
set_option maxHeartbeats 4000000 in
theorem ok_law_deed (T : Txt K mg fs fds tc u) (G_law_pick : FnOk P w K mg base CX0 1 (fs 26) (fds 26) ["_law_purse_here", "_law_many"] spPick) (G_law_letter : FnOk P w K mg base CX0 3 (fs 31) (fds 31) ["_law_purse_here", "_law_names_here"] (spDraw LtV)) : FnOk P w K mg base CX0 4 (fs 34) (fds 34) ["_law_purse_here", "_law_names_here"] (spDraw DdV) := by
 refine T.d_law_deed.F.ok sc_law_deed (fun vs H Q E h => ?_) (fun cdv A outer s H vs Q E hr h => ?_)
 ·obtain ⟨p, g, l, zs, rfl, hp, hN, q⟩ := h
  rfl
 ·obtain ⟨p, g, l, zs, rfl, hp, hN, q⟩ := h
  refine ⟨_, (pss_cons (ps_asg (pe_tup (pa_cons (pe_fn T.d_law_pick G_law_pick hr (by decide) rfl (pa_cons (pv 0) (pa_cons pe_int pa_nil))) (pa_cons (pe_ix (ixL K) (pv 1) (pe_fn T.d_law_pick G_law_pick hr (by decide) rfl (pa_cons (pv 0) (pa_cons (pe_callB (lenL K) (by rfl) T.z_len bt_len (pa_cons (pv 1) pa_nil)) pa_nil))) (fun _ _ => rfl)) pa_nil))) (pg_tupK (n := 2) K rfl (pgs_cons (pg_name (i := 2) sc_law_deed.nd rfl (Or.inl rfl)) (pgs_cons (pg_name (i := 3) sc_law_deed.nd rfl (Or.inr rfl)) pgs_nil))))
   (pss_cons (ps_if (pt_cmpR op_lt (pv 2) pe_int (nomark _)) (pss_one (ps_ret (pe_tup (pa_cons (pe_ix (ixL K) (ew_l (pw_c (ew pe_str) (pw_c (ew pe_str) pw_nil))).h (pv 2) (fun _ _ => rfl)) (pa_cons (pe_fn T.d_law_letter G_law_letter hr (by decide) rfl (pa_cons (pv 0) (pa_cons (pv 1) pa_nil))) pa_nil))))) pss_nil)
   (pss_cons (ps_if (pt_cmpR op_eq (pv 2) pe_int (nomark _)) (pss_cons (ps_set (i := 4) sc_law_deed.nd rfl (Or.inl rfl) (pe_op op_cat (pe_lc ["_law_name_here", "_law_one"] 1 [3] ["_law_purse_here", "_law_names_here", "_law_lot", "_law_one", "_law_others", "_law_other"] (defScope s_law_deed) rfl rfl rfl (pi_lst K (pv 1)) (by decide +kernel) (fun _ => (pg_name (i := 0) (show (["_law_name_here", "_law_one"] : List Str).Nodup by decide +kernel) rfl (Or.inl rfl))) (fun _ => (pts_one (pt_cmpR op_ne (pv 0) (pv 1) (nomark _)))) (fun _ => (pv 0))) (pe_lst (pa_cons (pe_op op_add_str pe_str (pe_slice sl_str (pv 3) po_none (po_some pe_int))) pa_nil))))
   (pss_cons (ps_set (i := 5) sc_law_deed.nd rfl (Or.inl rfl) (pe_ix (ixL K) (pv 4) (pe_fn T.d_law_pick G_law_pick hr (by decide) rfl (pa_cons (pv 0) (pa_cons (pe_callB (lenL K) (by rfl) T.z_len bt_len (pa_cons (pv 4) pa_nil)) pa_nil))) (fun _ _ => rfl)))
   (pss_one (ps_ret (pe_tup (pa_cons pe_str (pa_cons (pv 3) (pa_cons (pe_ifExp (pt_cmpR op_ne (pv 5) (pv 3) (nomark _)) (pv 5) pe_str) pa_nil)))))))) pss_nil)
   (pss_one (ps_ret (pe_tup (pa_cons (pe_ix (ixL K) (ew_l (pw_c (ew pe_str) (pw_c (ew pe_str) (pw_c (ew pe_str) (pw_c (ew pe_str) pw_nil))))).h (pe_op op_sub (pv 2) pe_int) (fun _ _ => rfl)) (pa_cons (pv 3) pa_nil)))))))), ?_⟩
  refine tSeq_i ?_; walk_at "vc0"
  refine ⟨p, g, _, rfl, hp, by decide, by decide, fun lot H1 d0 d1 hp1 f1 => ?_⟩
  have hN1 := hN.fr f1
  refine name_of hN1 hp1 fun on H2 hon hp2 hN2 f2 => ⟨by decide, fun t0 ht0 => ⟨_, SqT.of upd_same, rfl, _, _, rfl, _, _, rfl, rfl, ?_⟩⟩
  have hp2 := hp2.new (o := .tup [V.int lot, V.str on]) ht0
  have hN2 := hN2.upd (o := .tup [V.int lot, V.str on]) ht0
  have f2 : Fr p g H (upd H2 t0 (.tup [V.int lot, V.str on])) := (f1.trans f2).new ht0
  have hon12 := hN.nm on hon
  generalize upd H2 t0 (.tup [V.int lot, V.str on]) = H2 at hp2 hN2 f2
  refine tSeq_i ?_; walk_at "vc0"
  refine iteD (fun g1 => ?_) (fun g1 => ?_)
  ·refine ⟨by decide, fun l3 hl3 => ⟨_, SqL.of upd_same, ?_⟩⟩
   have hlot : lot = 0 ∨ lot = 1 := by omega
   rcases hlot with rfl | rfl
   ·exact ⟨_, rfl, p, g, l, zs, rfl, hp2.new hl3, hN2.upd hl3, fun v x H4 hv hp4 f4 => ⟨by decide, fun a ha => q _ (.lt (Str.ofString "come") x) _ ⟨.tup upd_same (.cons (.str _) (.cons (hv.tr.kp (Same.upd ha).kt) .nil)), lt_come hv.ok⟩ (hp4.new ha) (((f2.new hl3).trans f4).new ha)⟩⟩
   ·exact ⟨_, rfl, p, g, l, zs, rfl, hp2.new hl3, hN2.upd hl3, fun v x H4 hv hp4 f4 => ⟨by decide, fun a ha => q _ (.lt (Str.ofString "go") x) _ ⟨.tup upd_same (.cons (.str _) (.cons (hv.tr.kp (Same.upd ha).kt) .nil)), lt_go hv.ok⟩ (hp4.new ha) (((f2.new hl3).trans f4).new ha)⟩⟩
  refine tSeq_i ?_; walk_at "vc0"
  refine ⟨rfl, iteD (fun g2 => ?_) (fun g2 => ?_)⟩
  ·refine tSeq_i ⟨_, rfl, l, rfl, ⟨_, SqL.of hN2.el⟩, fun l3 hl3 => comp_listP hl3 (SqL.of hN2.el) (fun v => !decide (v = .str on)) id (fun σ => ∃ o, σ = [o, some (.str on)]) ⟨_, rfl⟩ (szt (by rw [List.length_map]; have := hN.hi; omega)) ?_ ?_⟩
   ·rintro x σ xs N hx hz ⟨o, rfl⟩ hNN
    obtain ⟨z, hz1, rfl⟩ := List.mem_map.mp hx
    unfold turnOf
    walk_at "vc0"
    refine ⟨rfl, ite2 (fun gz => ?_) (fun gz => ?_)⟩
    ·refine ⟨_, upd_same, hz, ?_⟩
     have h := hNN [some (.str z), some (.str on)] ⟨_, rfl⟩
     rw [if_pos (by simpa using gz)] at h
     rw [upd_upd]; exact h
    ·have h := hNN [some (.str z), some (.str on)] ⟨_, rfl⟩
     rw [if_neg (by simpa using gz)] at h
     exact h
   ·have hws : ∃ ws : List Str, ((zs.map V.str).filter fun v => !decide (v = .str on)).map id = ws.map V.str ∧ ws.length ≤ 6 ∧ ∀ z ∈ ws, nameB z = true ∧ z ≠ on := by
     rw [List.map_id, List.filter_map]
     refine ⟨_, rfl, Nat.le_trans (List.length_filter_le _ _) hN.hi, fun z hz => ⟨hN.nm z (List.mem_filter.mp hz).1, by simpa using (List.mem_filter.mp hz).2⟩⟩
    obtain ⟨ws, ew, hwl, hw12⟩ := hws
    rw [ew]
    have hp3 := hp2.new (o := .lst (ws.map V.str)) hl3
    have hN3 := hN2.upd (o := .lst (ws.map V.str)) hl3
    have f3 := f2.new (o := .lst (ws.map V.str)) hl3
    have e3 : upd H2 l3 (.lst (ws.map V.str)) l3 = some (.lst (ws.map V.str)) := upd_same
    generalize upd H2 l3 (.lst (ws.map V.str)) = H3 at hp3 hN3 f3 e3
    walk_at "vc0"
    have en : (Str.ofString "n").length = 1 := by decide +kernel
    have hol := (nameB_len hon12).2
    have hsl : (Txt.slice on none (some 11)).length ≤ 11 := (slice11 hon12).1
    have hsn : nameB (Str.ofString "n" ++ Txt.slice on none (some 11)) = true := nameB_of (by rw [lenA]; omega) (by rw [lenA]; omega) fun c hc => by
     rw [codes_app, List.mem_append] at hc
     rcases hc with h | h
     ·have hn : ∀ c ∈ (Str.ofString "n").cps.toList, c ∈ ABC.cps.toList := by decide +kernel
      exact hn c h
     ·exact (slice11 hon12).2 c h
    refine ⟨szl (by omega), szl (by omega), by decide, fun l4 hl4 => ⟨_, by rw [upd_ne (ne_of_none e3 hl4)]; exact e3, _, upd_same, szl (by rw [List.length_map]; show _ + 1 ≤ _; omega), fun l5 hl5 => ?_⟩⟩
    have hp5 := (hp3.new (o := .lst [V.str (Str.ofString "n" ++ Txt.slice on none (some 11))]) hl4).new (o := .lst (ws.map V.str ++ [V.str (Str.ofString "n" ++ Txt.slice on none (some 11))])) hl5
    have f5 := (f3.new (o := .lst [V.str (Str.ofString "n" ++ Txt.slice on none (some 11))]) hl4).new (o := .lst (ws.map V.str ++ [V.str (Str.ofString "n" ++ Txt.slice on none (some 11))])) hl5
    have np5 : l5 ≠ p := ((hp3.new (o := .lst [V.str (Str.ofString "n" ++ Txt.slice on none (some 11))]) hl4).nep hl5).symm
    have ng5 : l5 ≠ g := ((hp3.new (o := .lst [V.str (Str.ofString "n" ++ Txt.slice on none (some 11))]) hl4).neg hl5).symm
    refine tSeq_i ?_; walk_at "vc0"
    refine pickL_of (xs := ws.map V.str ++ [V.str (Str.ofString "n" ++ Txt.slice on none (some 11))]) hp5 upd_same np5 ng5 (by simp) (by rw [List.length_append, List.length_map]; show _ + 1 ≤ _; omega) fun v H6 hv hp6 f6 => ?_
    obtain ⟨x, rfl, hx, hx2⟩ : ∃ x : Str, v = .str x ∧ nameB x = true ∧ (x = on → Str.ofString "0" ≠ on) := by
     rcases List.mem_append.mp hv with h | h
     ·obtain ⟨z, hz, rfl⟩ := List.mem_map.mp h
      exact ⟨z, rfl, (hw12 z hz).1, fun e => absurd e (hw12 z hz).2⟩
     ·refine ⟨_, List.mem_singleton.mp h, hsn, fun e z => ?_⟩
      have := congrArg (fun w : Str => w.cps.toList.head?) (e.trans z.symm)
      rw [codes_app, show (Str.ofString "n").cps.toList = [110] by decide +kernel, show (Str.ofString "0").cps.toList = [48] by decide +kernel] at this
      exact absurd this (by simp)
    have fin : ∀ y : Str, nameB y = true → y ≠ on → 3 ≤ sizeLine ∧ ∀ a, H6 a = none → Q (.ref a) (upd H6 a (.tup [V.str (Str.ofString "join"), V.str on, V.str y])) := fun y hy hny =>
     ⟨by decide, fun a ha => q _ (.ws [JW, on, y]) _ ⟨.tup upd_same (.cons (.str _) (.cons (.str _) (.cons (.str _) .nil))), by
      show (decide (JW = JW) && (nameB on && (nameB y && !decide (on = y)))) = true
      rw [decide_eq_true rfl, hon12, hy, decide_eq_false (fun z => hny z.symm)]; rfl⟩ (hp6.new ha) ((f5.trans f6).new ha)⟩
    exact ⟨rfl, ite2 (fun e => fin x hx (by simpa using e)) (fun e => fin _ (by decide +kernel) (hx2 (by simpa using e)))⟩
  ·refine ⟨by decide, fun l3 hl3 => ⟨_, SqL.of upd_same, ?_⟩⟩
   obtain ⟨w, hw, hw1⟩ : ∃ w : Str, atI [V.str (Str.ofString "split"), V.str (Str.ofString "free"), V.str (Str.ofString "read"), V.str (Str.ofString "unread")] (lot - 3) = some (.str w) ∧ NW.contains w = true ∧ LW.contains w = false := by
    have g2 : ¬ lot = 2 := fun e => g2 (by rw [e])
    have hd : lot = 3 ∨ lot = 4 ∨ lot = 5 ∨ lot = 6 := by omega
    rcases hd with rfl | rfl | rfl | rfl <;> exact ⟨_, rfl, by decide +kernel, by decide +kernel⟩
   refine ⟨_, hw, by decide, fun a ha => q _ (.ws [w, on]) _ ⟨.tup upd_same (.cons (.str _) (.cons (.str _) .nil)), ?_⟩ ((hp2.new hl3).new ha) ((f2.new hl3).new ha)⟩
   show (if LW.contains w = true then false else NW.contains w && nameB on) = true
   rw [if_neg (by rw [hw1.2]; exact Bool.false_ne_true), hw1.1, hon12]; rfl
theorem sc_deed_in : FnScope ["text", "word", "blank", "rest", "deed"] ["text"] (defScope s_deed_in) := ⟨rfl, rfl, rfl, by decide +kernel, rfl, by decide +kernel, by decide +kernel⟩
set_option maxHeartbeats 4000000 in
theorem ok_deed_in (T : Txt K mg fs fds tc u) (G_is_deed : FnOk P w K mg base CX0 4 (fs 6) (fds 6) ["thing"] (spP deedV 3)) (G_letter_in : FnOk P w K mg base CX0 4 (fs 16) (fds 16) ["text"] (spIn letP Lt.P)) : FnOk P w K mg base CX0 5 (fs 18) (fds 18) ["text"] (spIn dedP Dd.P) := by
 refine T.d_deed_in.F.ok sc_deed_in (fun vs H Q E h => ?_) (fun cdv A outer s H vs Q E hr h => ?_)
 ·obtain ⟨x, rfl, hx, q⟩ := h
  rfl
 ·obtain ⟨x, rfl, hx, q⟩ := h
  refine ⟨_, (pss_cons (ps_asg (pe_bmK K PySem.F.plainAttrs_str PySem.F.slot_str_partition PySem.F.type_str_partition Mr.mt_partition (pv 0) (pa_cons pe_str pa_nil)) (pg_tupK (n := 3) K rfl (pgs_cons (pg_name (i := 1) sc_deed_in.nd rfl (Or.inl rfl)) (pgs_cons (pg_name (i := 2) sc_deed_in.nd rfl (Or.inl rfl)) (pgs_cons (pg_name (i := 3) sc_deed_in.nd rfl (Or.inl rfl)) pgs_nil)))))
   (pss_cons (ps_if (pt_cmpR (inQ K) (pv 1) (pe_glob (v := .ref (tc 5)) rfl T.c_LETTER_WORDS T.r_LETTER_WORDS) (by rfl)) (pss_one (ps_set (i := 4) sc_deed_in.nd rfl (Or.inl rfl) (pe_tup (pa_cons (pv 1) (pa_cons (pe_fn T.d_letter_in G_letter_in hr (by decide) rfl (pa_cons (pv 3) pa_nil)) pa_nil))))) (pss_one (ps_set (i := 4) sc_deed_in.nd rfl (Or.inl rfl) (pe_callTy (tupL K) (by rfl) T.z_tuple bt_tuple (pa_cons (pe_bmK K PySem.F.plainAttrs_str PySem.F.slot_str_split PySem.F.type_str_split mt_split (pv 0) (pa_cons pe_str pa_nil)) pa_nil)))))
   (pss_one (ps_ret (pe_ifExp (pt_val (pe_fn T.d_is_deed G_is_deed hr (by decide) rfl (pa_cons (pv 4) pa_nil))) (pv 4) pe_non))))), ?_⟩
  refine tSeq_i ?_; walk_at "vc1"
  refine ⟨_, rfl, rfl, x, BL, rfl, rfl, by rw [s1]; rfl, szl (by omega), fun p hp => ?_⟩
  have s1' := Same.upd (o := .tup [V.str (Txt.partition x BL).1, .str (Txt.partition x BL).2.1, .str (Txt.partition x BL).2.2]) hp
  have ep : upd H p (.tup [V.str (Txt.partition x BL).1, .str (Txt.partition x BL).2.1, .str (Txt.partition x BL).2.2]) p = _ := upd_same
  generalize upd H p (.tup [V.str (Txt.partition x BL).1, .str (Txt.partition x BL).2.1, .str (Txt.partition x BL).2.2]) = H1 at s1' ep
  refine ⟨p, rfl, _, SqT.of ep, rfl, _, _, rfl, _, _, rfl, _, _, rfl, rfl, ?_⟩
  obtain ⟨w, r, e, p1, p3⟩ := part_fst x
  rw [p1, p3]
  have hjl := join_few x e
  have eq0 : dedP x = dedW (w :: r) := by unfold dedP; rw [e]
  rw [eq0] at q
  refine tSeq_i ?_; walk_at "vc1"
  refine ⟨_, .inr (T.q_LETTER_WORDS H1), rfl, flat_strs (row := LW), ?_⟩
  rw [show inV (.str w) [V.str (Str.ofString "come"), V.str (Str.ofString "go")] = LW.contains w from inV_str (row := LW)]
  cases hw : LW.contains w with
  | true =>
   rw [dedW_lt hw] at q
   refine iteT ?_
   refine ⟨_, rfl, by omega, fun v H2 s2 hv => ⟨by decide, fun a ha => ?_⟩⟩
   have s3 := Same.upd (o := .tup [V.str w, v]) ha
   have e3 : upd H2 a (.tup [V.str w, v]) a = some (.tup [V.str w, v]) := upd_same
   have hv3 := hv.kp s3.kt
   generalize upd H2 a (.tup [V.str w, v]) = H3 at s3 e3 hv3
   have sA := (s1'.trans s2).trans s3
   have lw := lw_len hw
   cases hl : letP (Txt.join BL r) with
   | none =>
    rw [hl] at q hv3
    obtain rfl : v = .non := hv3
    have anyA : Any H3 (.ref a) := any_tup e3 (by show 2 ≤ 1000; decide) fun y hy => by
     simp only [List.mem_cons, List.mem_nil_iff, or_false] at hy
     rcases hy with rfl | rfl
     ·exact any_str (by omega)
     ·exact any_non
    refine ⟨_, rfl, anyA 3, fun H4 s4 => ⟨_, rfl, ?_⟩⟩
    rw [deedV_lt e3 hw]
    exact iteF (q _ H4 (sA.trans s4) rfl)
   | some y =>
    rw [hl] at q hv3
    have hy : LtV H3 v y := ⟨hv3, (y.ok_iff).mp (letP_ok hl)⟩
    have anyA : Any H3 (.ref a) := any_tup e3 (by show 2 ≤ 1000; decide) fun z hz => by
     simp only [List.mem_cons, List.mem_nil_iff, or_false] at hz
     rcases hz with rfl | rfl
     ·exact any_str (by omega)
     ·exact hy.any
    refine ⟨_, rfl, anyA 3, fun H4 s4 => ⟨_, rfl, ?_⟩⟩
    rw [deedV_lt e3 hw, hy.yes]
    exact iteT (q _ H4 (sA.trans s4) (.tup (s4 _ _ e3) (.cons (.str _) (.cons (hv3.kp s4.kt) .nil))))
  | false =>
   rw [dedW_ws hw] at q
   refine iteF ?_
   have sp1 := split_few x BL (by rw [s1]; decide)
   have sp2 := split_part x BL
   refine split_in ⟨_, rfl, rfl, rSplit_of (by rw [s1]; decide) (by omega) fun l hl => ?_⟩
   refine ⟨l, rfl, _, SqL.of upd_same, fun a ha => ?_⟩
   have sA := (s1'.trans (Same.upd (o := .lst ((Txt.split x BL).map V.str)) hl)).trans (Same.upd (o := .tup ((Txt.split x BL).map V.str)) ha)
   have e3 : upd (upd H1 l (.lst ((Txt.split x BL).map V.str))) a (.tup ((Txt.split x BL).map V.str)) a = some (.tup ((Txt.split x BL).map V.str)) := upd_same
   rw [e] at sA e3 sp1 sp2 ⊢
   refine ⟨_, rfl, (strs_any e3 (by omega) fun z hz => Nat.le_trans (sp2 z hz) (by omega)) 3, fun H4 s4 => ⟨_, rfl, ?_⟩⟩
   rw [deedV_ws e3]
   cases ok : wsOk (w :: r) with
   | false =>
    rw [ok] at q
    exact iteF (q _ H4 (sA.trans s4) rfl)
   | true =>
    rw [ok] at q
    exact iteT (q _ H4 (sA.trans s4) (.tup (s4 _ _ e3) TrL.strs))
theorem sc_read_letter : FnScope ["text"] ["text"] (defScope s_read_letter) := ⟨rfl, rfl, rfl, by decide +kernel, rfl, by decide +kernel, by decide +kernel⟩
set_option maxHeartbeats 4000000 in
theorem ok_read_letter (T : Txt K mg fs fds tc u) (G_needed : FnOk P w K mg base CX0 1 (fs 15) (fds 15) ["thing", "row"] spNeed) (G_letter_in : FnOk P w K mg base CX0 4 (fs 16) (fds 16) ["text"] (spIn letP Lt.P)) (G_checked : FnOk P w K mg base CX0 1 (fs 13) (fds 13) ["text"] spChk) : FnOk P w K mg base CX0 5 (fs 20) (fds 20) ["text"] (spRd letP Lt.P) := by
 refine T.d_read_letter.F.ok sc_read_letter (fun vs H Q E h => ?_) (fun cdv A outer s H vs Q E hr h => ?_)
 ·obtain ⟨z, x, rfl, hz, hf, q⟩ := h
  rfl
 ·obtain ⟨z, x, rfl, hz, hf, q⟩ := h
  refine ⟨_, (pss_one (ps_ret (pe_fn T.d_needed G_needed hr (by decide) rfl (pa_cons (pe_fn T.d_letter_in G_letter_in hr (by decide) rfl (pa_cons (pe_fn T.d_checked G_checked hr (by decide) rfl (pa_cons (pv 0) pa_nil)) pa_nil)) (pa_cons pe_int pa_nil))))), ?_⟩
  walk_at "vc0"
  refine ⟨z, rfl, z, rfl, hz, fun v H1 s1 h => ?_⟩
  rw [hf] at h
  exact ⟨v, _, rfl, (fun e => by rw [e] at h; cases h), q v H1 s1 h⟩
theorem sc_read_pack : FnScope ["text", "letters", "at", "row", "letter"] ["text"] (defScope s_read_pack) := ⟨rfl, rfl, rfl, by decide +kernel, rfl, by decide +kernel, by decide +kernel⟩
set_option maxHeartbeats 4000000 in
theorem ok_read_pack (T : Txt K mg fs fds tc u) (G_rows_in : FnOk P w K mg base CX0 2 (fs 14) (fds 14) ["text"] spRows) (G_needed : FnOk P w K mg base CX0 1 (fs 15) (fds 15) ["thing", "row"] spNeed) (G_letter_in : FnOk P w K mg base CX0 4 (fs 16) (fds 16) ["text"] (spIn letP Lt.P)) : FnOk P w K mg base CX0 5 (fs 21) (fds 21) ["text"] spRdP := by
 refine T.d_read_pack.F.ok sc_read_pack (fun vs H Q E h => ?_) (fun cdv A outer s H vs Q E hr h => ?_)
 ·obtain ⟨z, xs, rfl, hz, hm, hx, hn, up, q⟩ := h
  rfl
 ·obtain ⟨z, xs, rfl, hz, hm, hx, hn, up, q⟩ := h
  refine ⟨_, (pss_cons (ps_set (i := 1) sc_read_pack.nd rfl (Or.inl rfl) (pe_lst pa_nil))
   (pss_cons (ps_for PassesOwn.never rfl (pi_enmA K rfl T.z_enumerate (pa_cons (pe_fn T.d_rows_in G_rows_in hr (by decide) rfl (pa_cons (pv 0) pa_nil)) pa_nil)) (pg_tupK (n := 2) K rfl (pgs_cons (pg_name (i := 2) sc_read_pack.nd rfl (Or.inl rfl)) (pgs_cons (pg_name (i := 3) sc_read_pack.nd rfl (Or.inl rfl)) pgs_nil))) (pss_cons (ps_set (i := 4) sc_read_pack.nd rfl (Or.inl rfl) (pe_fn T.d_needed G_needed hr (by decide) rfl (pa_cons (pe_fn T.d_letter_in G_letter_in hr (by decide) rfl (pa_cons (pv 3) pa_nil)) (pa_cons (pv 2) pa_nil))))
   (pss_cons (ps_if (PW.pt (pw_and (pt_truth (pv 1) (fun _ => rfl)) (pw_and1 (pt_cmpR (op_leQ hr) (pv 4) (pe_ix (ixL K) (pv 1) (pe_un un_neg pe_int) (fun _ _ => rfl)) (nomark _))))) (pss_one ps_never) pss_nil)
   (pss_one (ps_expr (pe_bmK K PySem.F.plainAttrs_list PySem.F.slot_list_append PySem.F.type_list_append mt_append (pv 1) (pa_cons (pv 4) pa_nil)))))))
   (pss_one (ps_ret (pe_callTy (tupL K) (by rfl) T.z_tuple bt_tuple (pa_cons (pv 1) pa_nil)))))), ?_⟩
  refine tSeq_i ?_; walk_at "vc0"
  refine ⟨Nat.zero_le _, fun p hp => ?_⟩
  have hl := congrArg List.length hm
  rw [List.length_map, List.length_map] at hl
  refine tSeq_i ⟨_, rfl, z, rfl, hz, fun l H1 hl1 s1 el => .inr ⟨l, _, rfl, SqL.of el, for_enumL (K := K) (a := l) (xs := (rowsP z).map V.str) (fun i σ H' => Same H H' ∧ H' l = some (.lst ((rowsP z).map V.str)) ∧ (∃ vs, H' p = some (.lst vs) ∧ TrL H' ((xs.take i).map Lt.P) vs) ∧ ∃ v2 v3 v4, σ = [some (.str z), some (.ref p), v2, v3, v4]) ?_ (fun i σ H' _ ⟨_, h, _⟩ => SqL.of h) ?_ ?_⟩⟩
  ·exact ⟨(Same.upd hp).trans s1, el, ⟨[], s1 _ _ upd_same, .nil⟩, _, _, _, rfl⟩
  ·rintro i x t σ H2 hi ht ⟨s2, el2, ⟨vs, ep, tl⟩, v2, v3, v4, rfl⟩
   have lp : l ≠ p := fun e => by rw [e, upd_same] at hl1; cases hl1
   obtain ⟨r, hr0, rfl⟩ := strAt hi
   have hil : i < (rowsP z).length := (List.getElem?_eq_some_iff.mp hr0).1
   have hix : xs[i]? = some (xs[i]'(by omega)) := List.getElem?_eq_getElem (by omega)
   generalize xs[i]'(by omega) = y at hix
   have hy : letP r = some y := by
    have := congrArg (fun a => a[i]?) hm
    rw [List.getElem?_map, List.getElem?_map, hr0, hix] at this
    exact Option.some.inj this
   have st := Same.upd (o := .tup [.int i, .str r]) ht
   walk_at "vc0"
   refine ⟨_, SqT.of upd_same, rfl, _, _, rfl, _, _, rfl, rfl, ?_⟩
   show tSeq _ _ _ _ _
   refine tSeq_i ?_; walk_at "vc0"
   refine ⟨r, rfl, hx r (List.mem_of_getElem? hr0), fun v H3 s3 h3 => ?_⟩
   rw [hy] at h3
   have h3 : Tr H3 y.P v := h3
   refine ⟨v, _, rfl, (fun e => by rw [e] at h3; cases h3), ?_⟩
   have s23 := st.trans s3
   have ep3 := s23 _ _ ep
   have tl3 := tl.kp s23.kt
   have len := tl3.length
   rw [List.length_map, List.length_take, Nat.min_eq_left (by omega)] at len
   have next : (Same H (upd H3 p (.lst (vs ++ [v])))) ∧ (upd H3 p (.lst (vs ++ [v]))) l = some (.lst ((rowsP z).map V.str)) ∧ (∃ vs', (upd H3 p (.lst (vs ++ [v]))) p = some (.lst vs') ∧ TrL (upd H3 p (.lst (vs ++ [v]))) ((xs.take (i + 1)).map Lt.P) vs') := by
    refine ⟨fun b o hb => ?_, by rw [upd_ne lp]; exact s23 _ _ el2, _, upd_same, ?_⟩
    ·rw [upd_ne (ne_of_none hb hp)]; exact s23 _ _ (s2 _ _ hb)
    ·have k3 := KpT.upd (ys := vs ++ [v]) ep3
     rw [List.take_add_one, hix, List.map_append]
     exact (tl3.kp k3).app (.cons (h3.kp k3) .nil)
   refine tSeq_i ?_; walk_at "vc0"
   have hv : vs.length < sizeLine := szt (by omega)
   rcases List.eq_nil_or_concat vs with e | ⟨us, w, e⟩ <;> (try rw [List.concat_eq_append] at e)
   ·subst e
    exact ⟨false, .inl ⟨_, SqL.of ep3, rfl⟩, iteF ⟨.inl ⟨_, SqL.of ep3⟩, _, ep3, hv, next.1, next.2.1, next.2.2, _, rfl⟩⟩
   ·subst e
    have lu : us.length + 1 = i := by rw [len, List.length_append]; rfl
    obtain ⟨p', ep', tp⟩ := tl3.get (i := us.length) (v := w) (by simp)
    have hj : us.length < xs.length := by omega
    have e1 : p' = (xs[us.length]).P := by
     rw [List.getElem?_map, List.getElem?_take_of_lt (by omega), List.getElem?_eq_getElem hj] at ep'
     exact (Option.some.inj ep').symm
    have lt := List.pairwise_iff_getElem.mp up us.length i (by rw [List.length_map]; exact hj) (by rw [List.length_map]; omega) (by omega)
    rw [List.getElem_map, List.getElem_map] at lt
    have ey : y = xs[i]'(by omega) := by
     rw [List.getElem?_eq_getElem (by omega)] at hix
     exact (Option.some.inj hix).symm
    rw [← ey, ← e1] at lt
    exact ⟨true, .inl ⟨_, SqL.of ep3, by cases us <;> rfl⟩, iteT ⟨_, SqL.of ep3, w, atI_last us w, _, h3, _, tp, lP_ok.1, by rw [e1]; exact lP_ok.1, true, lt, iteF ⟨.inl ⟨_, SqL.of ep3⟩, _, ep3, hv, next.1, next.2.1, next.2.2, _, rfl⟩⟩⟩
  ·rintro σ H2 ⟨s2, el2, ⟨vs, ep, tl⟩, v2, v3, v4, rfl⟩
   rw [List.length_map, hl, List.take_length] at tl
   walk_at "vc0"
   exact ⟨_, SqL.of ep, fun a ha => q _ _ (s2.trans (Same.upd ha)) (.tup upd_same (tl.kp (Same.upd ha).kt))⟩
theorem sc_read_rules : FnScope ["text"] ["text"] (defScope s_read_rules) := ⟨rfl, rfl, rfl, by decide +kernel, rfl, by decide +kernel, by decide +kernel⟩
set_option maxHeartbeats 4000000 in
theorem ok_read_rules (T : Txt K mg fs fds tc u) (G_needed : FnOk P w K mg base CX0 1 (fs 15) (fds 15) ["thing", "row"] spNeed) (G_rules_in : FnOk P w K mg base CX0 4 (fs 17) (fds 17) ["text"] (spIn rulP rulesPV)) (G_checked : FnOk P w K mg base CX0 1 (fs 13) (fds 13) ["text"] spChk) : FnOk P w K mg base CX0 5 (fs 22) (fds 22) ["text"] (spRd rulP rulesPV) := by
 refine T.d_read_rules.F.ok sc_read_rules (fun vs H Q E h => ?_) (fun cdv A outer s H vs Q E hr h => ?_)
 ·obtain ⟨z, x, rfl, hz, hf, q⟩ := h
  rfl
 ·obtain ⟨z, x, rfl, hz, hf, q⟩ := h
  refine ⟨_, (pss_one (ps_ret (pe_fn T.d_needed G_needed hr (by decide) rfl (pa_cons (pe_fn T.d_rules_in G_rules_in hr (by decide) rfl (pa_cons (pe_fn T.d_checked G_checked hr (by decide) rfl (pa_cons (pv 0) pa_nil)) pa_nil)) (pa_cons pe_int pa_nil))))), ?_⟩
  walk_at "vc0"
  refine ⟨z, rfl, z, rfl, hz, fun v H1 s1 h => ?_⟩
  rw [hf] at h
  exact ⟨v, _, rfl, (fun e => by rw [e] at h; cases h), q v H1 s1 h⟩
theorem sc_law_log : FnScope ["_law_purse_here", "_law_names_here", "_law_found", "_law_k", "_law_stands"] ["_law_purse_here", "_law_names_here"] (defScope s_law_log) := ⟨rfl, rfl, rfl, by decide +kernel, rfl, by decide +kernel, by decide +kernel⟩
set_option maxHeartbeats 4000000 in
theorem ok_law_log (T : Txt K mg fs fds tc u) (G_law_pick : FnOk P w K mg base CX0 1 (fs 26) (fds 26) ["_law_purse_here", "_law_many"] spPick) (G_law_deed : FnOk P w K mg base CX0 4 (fs 34) (fds 34) ["_law_purse_here", "_law_names_here"] (spDraw DdV)) : FnOk P w K mg base CX0 5 (fs 35) (fds 35) ["_law_purse_here", "_law_names_here"] (spDraw LogV) := by
 refine T.d_law_log.F.ok sc_law_log (fun vs H Q E h => ?_) (fun cdv A outer s H vs Q E hr h => ?_)
 ·obtain ⟨p, g, l, zs, rfl, hp, hN, q⟩ := h
  rfl
 ·obtain ⟨p, g, l, zs, rfl, hp, hN, q⟩ := h
  refine ⟨_, (pss_cons (ps_set (i := 2) sc_law_log.nd rfl (Or.inl rfl) (pe_lst pa_nil))
   (pss_cons (ps_for PassesOwn.never rfl (pi_range1 rfl T.z_range (pa_cons (pe_ix (ixL K) (ew_l (pw_c (ew pe_int) (pw_c (ew pe_int) (pw_c (ew pe_int) (pw_c (ew pe_int) (pw_c (ew pe_int) (pw_c (ew pe_int) pw_nil))))))).h (pe_fn T.d_law_pick G_law_pick hr (by decide) rfl (pa_cons (pv 0) (pa_cons pe_int pa_nil))) (fun _ _ => rfl)) pa_nil)) (pg_name (i := 3) sc_law_log.nd rfl (Or.inl rfl)) (pss_cons (ps_set (i := 4) sc_law_log.nd rfl (Or.inl rfl) (pe_cmpR op_eq (pe_fn T.d_law_pick G_law_pick hr (by decide) rfl (pa_cons (pv 0) (pa_cons pe_int pa_nil))) pe_int (nomark _)))
   (pss_one (ps_expr (pe_bmK K PySem.F.plainAttrs_list PySem.F.slot_list_append PySem.F.type_list_append mt_append (pv 2) (pa_cons (pe_tup (pa_cons (pe_fn T.d_law_deed G_law_deed hr (by decide) rfl (pa_cons (pv 0) (pa_cons (pv 1) pa_nil))) (pa_cons (pv 4) pa_nil))) pa_nil))))))
   (pss_one (ps_ret (pe_callTy (tupL K) (by rfl) T.z_tuple bt_tuple (pa_cons (pv 2) pa_nil)))))), ?_⟩
  refine tSeq_i ?_; walk_at "vc0"
  refine ⟨Nat.zero_le _, fun l1 hl1 => ?_⟩
  have np : l1 ≠ p := (hp.nep hl1).symm
  have ng : l1 ≠ g := (hp.neg hl1).symm
  refine tSeq_i ⟨by decide, fun l2 hl2 => ⟨_, rfl, p, g, 6, rfl, (hp.new hl1).new hl2, by decide, by decide, fun d H2 d0 d1 hp2 f2 => ?_⟩⟩
  have hl2' := f2 l2 _ upd_same ((hp.new hl1).nep hl2).symm ((hp.new hl1).neg hl2).symm
  obtain ⟨m, hm, hm0, hm1⟩ : ∃ m : Int, atI [V.int 0, V.int 1, V.int 2, V.int 3, V.int 5, V.int 9] d = some (.int m) ∧ 0 ≤ m ∧ m ≤ 9 := by
   have hd : d = 0 ∨ d = 1 ∨ d = 2 ∨ d = 3 ∨ d = 4 ∨ d = 5 := by omega
   rcases hd with rfl | rfl | rfl | rfl | rfl | rfl <;> exact ⟨_, rfl, by decide, by decide⟩
  have h1' : upd (upd H l1 (.lst [])) l2 (.lst [V.int 0, V.int 1, V.int 2, V.int 3, V.int 5, V.int 9]) l1 = some (.lst []) := by rw [upd_ne (ne_of_none (upd_same (H := H) (o := .lst [])) hl2)]; exact upd_same
  have f2' : Fr p g H H2 := (((Fr.of (Same.upd hl1)).new hl2).trans f2)
  refine ⟨l2, _, d, _, rfl, rfl, SqL.of hl2', hm, m, rfl, by omega, by omega, for_range (fun i σ H' => Pur H' p g ∧ Fr p g H H' ∧ (∃ (vs : List V) (xs : List (Dd × Bool)), H' l1 = some (.lst vs) ∧ xs.length ≤ i ∧ TrL H' (xs.map entV) vs ∧ ∀ x ∈ xs, x.1.ok = true) ∧ ∃ v3 v4, σ = [some (.ref p), some (.ref l), some (.ref l1), v3, v4]) ?_ ?_ ?_⟩
  ·exact ⟨hp2, f2', ⟨[], [], f2 l1 _ h1' np ng, Nat.le_refl _, .nil, fun _ h => nomatch h⟩, _, _, rfl⟩
  ·rintro i σ H3 hi ⟨hp3, f3, ⟨vs, xs, hv, hvl, htr, hok⟩, v3, v4, rfl⟩
   show tSeq _ _ _ _ _
   refine tSeq_i ?_; walk_at "vc0"
   refine ⟨p, g, _, rfl, hp3, by decide, by decide, fun d4 H4 d40 d41 hp4 f4 => ⟨rfl, ?_⟩⟩
   have hv4 := f4 l1 _ hv np ng
   refine ⟨.inl ⟨_, SqL.of hv4⟩, ?_⟩
   refine ⟨p, g, l, zs, rfl, hp4, hN.fr (f3.trans f4), fun v x H5 hvt hp5 f5 => ⟨by decide, fun a ha => ?_⟩⟩
   have hv5 := f5 l1 _ hv4 np ng
   have hv6 : upd H5 a (.tup [v, .bl (decide (V.int d4 = V.int 0))]) l1 = some (.lst vs) := by rw [upd_ne (ne_of_none hv5 ha)]; exact hv5
   have al : a ≠ l1 := fun z => by rw [z, hv5] at ha; cases ha
   have k6 : Kp H5 (upd (upd H5 a (.tup [v, .bl (decide (V.int d4 = V.int 0))])) l1 (.lst (vs ++ [V.ref a]))) := (Kp.of (Same.upd ha)).trans (Kp.lst hv6)
   have k5 := (f4.trans f5).kp hp3 hp5
   have lx := htr.length
   rw [List.length_map] at lx
   refine ⟨_, hv6, szt (by omega), (hp5.new ha).upd np.symm ng.symm, fun b o hb n1 n2 => ?_, ⟨vs ++ [.ref a], upd_same, xs ++ [(x, decide (V.int d4 = V.int 0))], ?_, ?_, fun y hy => ?_⟩, ?_⟩
   ·rw [upd_ne (ne_of_none hb hl1)]
    exact Same.upd ha b o (f5 b o (f4 b o (f3 b o hb n1 n2) n1 n2) n1 n2)
   ·rw [List.length_append]; show _ + 1 ≤ _; omega
   ·rw [List.map_append]
    exact (htr.kp (kpt_of (k5.trans k6))).app (.cons (.tup (by rw [upd_ne al]; exact upd_same) (.cons (hvt.tr.kp (kpt_of k6)) (.cons (.bl _) .nil))) .nil)
   ·rcases List.mem_append.mp hy with h | h
    ·exact hok y h
    ·rw [List.mem_singleton.mp h]; exact hvt.ok
   ·exact ⟨_, rfl⟩
  ·rintro σ H3 ⟨hp3, f3, ⟨vs, xs, hv, hvl, htr, hok⟩, v3, v4, rfl⟩
   walk_at "vc0"
   refine ⟨_, SqL.of hv, fun t ht => q _ xs _ ⟨.tup upd_same (htr.kp (Same.upd ht).kt), hok, by omega⟩ (hp3.new ht) (f3.new ht)⟩
theorem sc_entry_in : FnScope ["text", "sign", "deed"] ["text"] (defScope s_entry_in) := ⟨rfl, rfl, rfl, by decide +kernel, rfl, by decide +kernel, by decide +kernel⟩
set_option maxHeartbeats 4000000 in
theorem ok_entry_in (T : Txt K mg fs fds tc u) (G_deed_in : FnOk P w K mg base CX0 5 (fs 18) (fds 18) ["text"] (spIn dedP Dd.P)) : FnOk P w K mg base CX0 6 (fs 19) (fds 19) ["text"] (spIn entP entV) := by
 refine T.d_entry_in.F.ok sc_entry_in (fun vs H Q E h => ?_) (fun cdv A outer s H vs Q E hr h => ?_)
 ·obtain ⟨x, rfl, hx, q⟩ := h
  rfl
 ·obtain ⟨x, rfl, hx, q⟩ := h
  refine ⟨_, (pss_cons (ps_set (i := 1) sc_entry_in.nd rfl (Or.inl rfl) (pe_slice sl_str (pv 0) po_none (po_some pe_int)))
   (pss_cons (ps_set (i := 2) sc_entry_in.nd rfl (Or.inl rfl) (pe_fn T.d_deed_in G_deed_in hr (by decide) rfl (pa_cons (pe_slice sl_str (pv 0) (po_some pe_int) po_none) pa_nil)))
   (pss_cons (ps_if (PW.pt (pw_or (pt_cmpR op_isN (pv 2) pe_non (nomark _)) (pw_or1 (pt_cmpR (notInQ K) (pv 1) (pe_tup (pa_cons pe_str (pa_cons pe_str pa_nil))) (by rfl))))) (pss_one (ps_ret pe_non)) pss_nil)
   (pss_one (ps_ret (pe_tup (pa_cons (pv 2) (pa_cons (pe_cmpR op_eq (pv 1) pe_str (nomark _)) pa_nil)))))))), ?_⟩
  refine tSeq_i ?_; walk_at "vc0"
  refine ⟨szl (by omega), ?_⟩
  refine tSeq_i ?_; walk_at "vc0"
  refine ⟨szl (by omega), _, rfl, Nat.le_trans (slice_few x) hx, fun v H1 s1 h => ?_⟩
  refine tSeq_i ?_; walk_at "vc0"
  cases hd : dedP (Txt.slice x (some 2) none) with
  | none =>
   rw [hd] at h
   obtain rfl : v = .non := h
   rw [entP_no hd] at q
   exact iteDy rfl (q _ H1 s1 rfl)
  | some d =>
   rw [hd] at h
   rw [entP_em hd] at q
   have nv : v ≠ .non := fun e => by rw [e] at h; cases d <;> cases h
   refine iteDn nv ⟨by decide, fun p hp => ⟨_, .inr (SqT.of upd_same), rfl, rfl, ?_⟩⟩
   have s2 := Same.upd (o := .tup [V.str (Str.ofString "+ "), V.str (Str.ofString "- ")]) hp
   rw [show inV (.str (Txt.slice x none (some 2))) [V.str (Str.ofString "+ "), V.str (Str.ofString "- ")] = [PL, MN].contains (Txt.slice x none (some 2)) from inV_str (row := [PL, MN])]
   cases hc : [PL, MN].contains (Txt.slice x none (some 2)) with
   | false =>
    rw [hc] at q
    exact notnot (q _ _ (s1.trans s2) rfl)
   | true =>
    rw [hc] at q
    refine notyes ⟨rfl, by decide, fun a ha => q _ _ ((s1.trans s2).trans (Same.upd ha)) ?_⟩
    have h3 : Tr H1 d.P v := h
    exact .tup upd_same (.cons (h3.kp (s2.trans (Same.upd ha)).kt) (.cons (.bl _) .nil))
theorem sc_read_deed : FnScope ["text"] ["text"] (defScope s_read_deed) := ⟨rfl, rfl, rfl, by decide +kernel, rfl, by decide +kernel, by decide +kernel⟩
set_option maxHeartbeats 4000000 in
theorem ok_read_deed (T : Txt K mg fs fds tc u) (G_needed : FnOk P w K mg base CX0 1 (fs 15) (fds 15) ["thing", "row"] spNeed) (G_deed_in : FnOk P w K mg base CX0 5 (fs 18) (fds 18) ["text"] (spIn dedP Dd.P)) (G_checked : FnOk P w K mg base CX0 1 (fs 13) (fds 13) ["text"] spChk) : FnOk P w K mg base CX0 6 (fs 23) (fds 23) ["text"] (spRd dedP Dd.P) := by
 refine T.d_read_deed.F.ok sc_read_deed (fun vs H Q E h => ?_) (fun cdv A outer s H vs Q E hr h => ?_)
 ·obtain ⟨z, x, rfl, hz, hf, q⟩ := h
  rfl
 ·obtain ⟨z, x, rfl, hz, hf, q⟩ := h
  refine ⟨_, (pss_one (ps_ret (pe_fn T.d_needed G_needed hr (by decide) rfl (pa_cons (pe_fn T.d_deed_in G_deed_in hr (by decide) rfl (pa_cons (pe_fn T.d_checked G_checked hr (by decide) rfl (pa_cons (pv 0) pa_nil)) pa_nil)) (pa_cons pe_int pa_nil))))), ?_⟩
  walk_at "vc0"
  refine ⟨z, rfl, z, rfl, hz, fun v H1 s1 h => ?_⟩
  rw [hf] at h
  exact ⟨v, _, rfl, (fun e => by rw [e] at h; cases x <;> cases h), q v H1 s1 h⟩
theorem sc_read_log : FnScope ["text"] ["text"] (defScope s_read_log) := ⟨rfl, rfl, rfl, by decide +kernel, rfl, by decide +kernel, by decide +kernel⟩
set_option maxHeartbeats 4000000 in
theorem ok_read_log (T : Txt K mg fs fds tc u) (G_needed : FnOk P w K mg base CX0 1 (fs 15) (fds 15) ["thing", "row"] spNeed) (G_entry_in : FnOk P w K mg base CX0 6 (fs 19) (fds 19) ["text"] (spIn entP entV)) (G_rows_in : FnOk P w K mg base CX0 2 (fs 14) (fds 14) ["text"] spRows) : FnOk P w K mg base CX0 7 (fs 24) (fds 24) ["text"] spRdL := by
 refine T.d_read_log.F.ok sc_read_log (fun vs H Q E h => ?_) (fun cdv A outer s H vs Q E hr h => ?_)
 ·obtain ⟨z, xs, rfl, hz, hm, hx, hn, q⟩ := h
  rfl
 ·obtain ⟨z, xs, rfl, hz, hm, hx, hn, q⟩ := h
  refine ⟨_, (pss_one (ps_ret (pe_callTy (tupL K) (by rfl) T.z_tuple bt_tuple (pa_cons (pe_lc ["at", "row"] 2 [] ["text"] (defScope s_read_log) rfl rfl rfl (pi_enmA K rfl T.z_enumerate (pa_cons (pe_fn T.d_rows_in G_rows_in hr (by decide) rfl (pa_cons (pv 0) pa_nil)) pa_nil)) (by decide +kernel) (fun _ => (pg_tupK (n := 2) K rfl (pgs_cons (pg_name (i := 0) (show (["at", "row"] : List Str).Nodup by decide +kernel) rfl (Or.inl rfl)) (pgs_cons (pg_name (i := 1) (show (["at", "row"] : List Str).Nodup by decide +kernel) rfl (Or.inl rfl)) pgs_nil)))) (fun _ => pts_nil) (fun _ => (pe_fn T.d_needed G_needed hr (by decide) rfl (pa_cons (pe_fn T.d_entry_in G_entry_in hr (by decide) rfl (pa_cons (pv 1) pa_nil)) (pa_cons (pv 0) pa_nil))))) pa_nil)))), ?_⟩
  walk_at "vc0"
  refine ⟨_, rfl, z, rfl, hz, fun l H1 hl1 s1 el => .inr ⟨l, _, rfl, SqL.of el, fun l2 hl2 => comp_enumL (SqL.of el) (fun H i v => ∀ x, xs[i]? = some x → Tr H (entV x) v) (fun σ => ∃ o o2, σ = [o, o2]) ⟨_, _, rfl⟩ hl2 (szt (by rw [List.length_map]; omega)) (fun H2 H3 i v k h x hx => (h x hx).kp k) ?_ ?_⟩⟩
  ·rintro i x t σ H2 ys N hi ⟨o, o2, rfl⟩ s2 ht e2 hz' hN
   obtain ⟨r, hr0, rfl⟩ := strAt hi
   have hl := congrArg List.length hm
   rw [List.length_map, List.length_map] at hl
   have hil : i < (rowsP z).length := (List.getElem?_eq_some_iff.mp hr0).1
   have hix : xs[i]? = some (xs[i]'(by omega)) := List.getElem?_eq_getElem (by omega)
   generalize xs[i]'(by omega) = y at hix
   have hy : entP r = some y := by
    have := congrArg (fun a => a[i]?) hm
    rw [List.getElem?_map, List.getElem?_map, hr0, hix] at this
    exact Option.some.inj this
   unfold turnOf
   walk_at "vc2"
   refine ⟨_, SqT.of upd_same, rfl, _, _, rfl, _, _, rfl, rfl, r, rfl, hx r (List.mem_of_getElem? hr0), fun v H3 s3 h3 => ?_⟩
   rw [hy] at h3
   have h3 : Tr H3 (entV y) v := h3
   refine ⟨v, _, rfl, (fun e => by rw [e] at h3; cases h3), ys, s3 _ _ e2, hz', hN _ _ _ ⟨_, _, rfl⟩ s3 fun x hx => ?_⟩
   rw [hix] at hx
   cases hx
   exact h3
  ·intro H2 ys s2 yl yr el2
   rw [List.length_map] at yl
   refine ⟨l2, rfl, _, SqL.of el2, fun a ha => q _ _ ((s1.trans s2).trans (Same.upd ha)) (.tup upd_same ((paired_some hm yl fun i v hv x hx => yr i v hv x hx).kp (Same.upd ha).kt))⟩
theorem sc_law_same : FnScope ["_law_found", "_law_due"] ["_law_found", "_law_due"] (defScope s_law_same) := ⟨rfl, rfl, rfl, by decide +kernel, rfl, by decide +kernel, by decide +kernel⟩
set_option maxHeartbeats 4000000 in
theorem ok_law_same (T : Txt K mg fs fds tc u)  (m : Nat) (G_law_same : FnOk P w K mg base CX0 (1 + m) (fs 40) (fds 40) ["_law_found", "_law_due"] (spSameN m)) : FnOk P w K mg base CX0 (1 + m + 1) (fs 40) (fds 40) ["_law_found", "_law_due"] (spSameN (m + 1)) := by
 refine T.d_law_same.F.ok sc_law_same (fun vs H Q E h => ?_) (fun cdv A outer s H vs Q E hr h => ?_)
 ·obtain ⟨u, v, p, rfl, hu, hv, al, q⟩ := h
  rfl
 ·obtain ⟨u, v, p, rfl, hu, hv, al, q⟩ := h
  refine ⟨_, (pss_cons (ps_if (pt_val (pe_callB (isiK K) (by rfl) T.z_isinstance bt_isinstance (pa_cons (pv 1) (pa_cons (pe_bltn (v := .ty "tuple") rfl T.z_tuple bt_tuple rfl) pa_nil)))) (pss_cons (ps_if (PW.pt (pw_or (pt_not (pt_val (pe_callB (isiK K) (by rfl) T.z_isinstance bt_isinstance (pa_cons (pv 0) (pa_cons (pe_bltn (v := .ty "tuple") rfl T.z_tuple bt_tuple rfl) pa_nil))))) (pw_or1 (pt_cmpR op_ne (pe_callB (lenT K) (by rfl) T.z_len bt_len (pa_cons (pv 0) pa_nil)) (pe_callB (lenT K) (by rfl) T.z_len bt_len (pa_cons (pv 1) pa_nil)) (nomark _))))) (pss_one (ps_ret pe_bl)) pss_nil)
   (pss_one (ps_ret (pe_callB (allL K rfl) (by rfl) T.z_all bt_all (pa_cons (pe_lc ["_law_one", "_law_other"] 2 [] ["_law_found", "_law_due"] (defScope s_law_same) rfl rfl rfl (pi_zpT K rfl T.z_zip (pa_cons (pv 0) (pa_cons (pv 1) pa_nil))) (by decide +kernel) (fun _ => (pg_tupK (n := 2) K rfl (pgs_cons (pg_name (i := 0) (show (["_law_one", "_law_other"] : List Str).Nodup by decide +kernel) rfl (Or.inl rfl)) (pgs_cons (pg_name (i := 1) (show (["_law_one", "_law_other"] : List Str).Nodup by decide +kernel) rfl (Or.inl rfl)) pgs_nil)))) (fun _ => pts_nil) (fun _ => (pe_fn T.d_law_same G_law_same hr (by omega) rfl (pa_cons (pv 0) (pa_cons (pv 1) pa_nil))))) pa_nil))))) pss_nil)
   (pss_cons (ps_if (pt_cmpR op_isN (pv 1) pe_non (nomark _)) (pss_one (ps_ret (pe_cmpR op_isN (pv 0) pe_non (nomark _)))) pss_nil)
   (pss_cons (ps_if (pt_val (pe_callB (isiK K) (by rfl) T.z_isinstance bt_isinstance (pa_cons (pv 1) (pa_cons (pe_bltn (v := .ty "str") rfl T.z_str bt_str rfl) pa_nil)))) (pss_one (ps_ret (pe_and (pe_callB (isiK K) (by rfl) T.z_isinstance bt_isinstance (pa_cons (pv 0) (pa_cons (pe_bltn (v := .ty "str") rfl T.z_str bt_str rfl) pa_nil))) (pe_one (pe_cmpR op_eq (pv 0) (pv 1) (nomark _)))))) pss_nil)
   (pss_one (ps_ret (pe_and (pe_callB (isiK K) (by rfl) T.z_isinstance bt_isinstance (pa_cons (pv 0) (pa_cons (pe_bltn (v := .ty "int") rfl T.z_int bt_int rfl) pa_nil))) (pe_and (pe_cmpR op_eq (pe_callB (isiK K) (by rfl) T.z_isinstance bt_isinstance (pa_cons (pv 0) (pa_cons (pe_bltn (v := .ty "bool") rfl T.z_bool bt_bool rfl) pa_nil))) (pe_callB (isiK K) (by rfl) T.z_isinstance bt_isinstance (pa_cons (pv 1) (pa_cons (pe_bltn (v := .ty "bool") rfl T.z_bool bt_bool rfl) pa_nil))) (nomark _)) (pe_one (pe_cmpR op_eq (pv 0) (pv 1) (nomark _)))))))))), ?_⟩
  have kb : ∀ (a b : String) (c : Bool), PySem.W.kitOne K (.type a) (.type b) = some c → PySem.W.kitOne K (.type a) (.type b) = some c := fun _ _ _ h => h
  refine tSeq_i ?_; walk_at "vc0"
  cases hu with
  | tup ha hp =>
   cases hv with
   | tup hb hq =>
    rename_i a us ps b ws
    obtain ⟨k, rfl⟩ : ∃ k, m = k + 1 := by cases m with
     | zero => cases al
     | succ k => exact ⟨k, rfl⟩
    have al : (decide (ps.length ≤ 100) && ps.all (alike k)) = true := al
    rw [Bool.and_eq_true, decide_eq_true_iff, List.all_eq_true] at al
    have l1 := hp.length
    have l2 := hq.length
    refine ⟨_, .tup hb, _, kit_tup_tup, iteT ?_⟩
    refine tSeq_i ?_; walk_at "vc0"
    refine ⟨_, .tup ha, _, kit_tup_tup, notyes ⟨_, SqT.of ha, _, SqT.of hb, ?_⟩⟩
    rw [show (us.length : Int) = (ws.length : Int) by omega, decide_eq_true rfl]
    refine ⟨rfl, notyes ⟨_, rfl, _, rfl, a, b, us, ws, rfl, SqT.of ha, SqT.of hb, fun l hl => comp_zipT (SqT.of ha) (SqT.of hb) (by omega) (fun _ => V.bl true) (fun σ => ∃ o o2, σ = [o, o2]) ⟨_, _, rfl⟩ hl (szt (by omega)) ?_ ?_⟩⟩
    ·rintro i x y t σ H1 zs N hx hy ⟨o, o2, rfl⟩ s1 ht el hz tl hN
     obtain ⟨p1, ep1, t1⟩ := hp.get hx
     obtain ⟨p2, ep2, t2⟩ := hq.get hy
     have e12 : p1 = p2 := by rw [ep1] at ep2; exact Option.some.inj ep2
     subst e12
     have st := Same.upd (o := .tup [x, y]) ht
     unfold turnOf
     walk_at "vc2"
     refine ⟨_, SqT.of upd_same, rfl, _, _, rfl, _, _, rfl, rfl, ?_⟩
     refine ⟨x, y, p1, rfl, (t1.kp s1.kt).kp st.kt, (t2.kp s1.kt).kp st.kt, al.2 p1 (List.mem_of_getElem? ep1), fun H2 s2 => ⟨zs, s2 _ _ el, hz, hN _ _ ⟨_, _, rfl⟩ (fun b o h n => by rw [upd_ne n]; exact s2 b o h) upd_same⟩⟩
    ·intro H1 s1 el
     refine ⟨l, rfl, (List.range us.length).map fun _ => true, SqL.of (by rw [el]; unfold isBl; rw [List.map_map]; rfl), ?_⟩
     rw [show ((List.range us.length).map fun _ => true).all id = true by rw [List.all_map]; simp]
     exact q H1 s1
  | non =>
   cases hv
   refine ⟨_, .non, _, (show PySem.W.kitOne K (.type "NoneType") (.type "tuple") = some false by kernel_rfl), iteF ?_⟩
   refine tSeq_i ?_; walk_at "vc0"
   exact q H (Same.refl _)
  | bl b =>
   cases hv
   refine ⟨_, .bl b, _, (show PySem.W.kitOne K (.type "bool") (.type "tuple") = some false by kernel_rfl), iteF ?_⟩
   refine tSeq_i ?_; walk_at "vc0"
   refine tSeq_i ?_; walk_at "vc0"
   have kb : PySem.W.kitOne K (.type "bool") (.type "bool") = some true := by rfl
   exact ⟨_, .bl b, _, (show PySem.W.kitOne K (.type "bool") (.type "str") = some false by kernel_rfl), iteF ⟨_, .bl b, _, (show PySem.W.kitOne K (.type "bool") (.type "int") = some true by kernel_rfl), iteT ⟨_, .bl b, _, kb, _, .bl b, _, kb, rfl, iteDy rfl ⟨rfl, q H (Same.refl _)⟩⟩⟩⟩
  | int i =>
   cases hv
   refine ⟨_, .int i, _, (show PySem.W.kitOne K (.type "int") (.type "tuple") = some false by kernel_rfl), iteF ?_⟩
   refine tSeq_i ?_; walk_at "vc0"
   refine tSeq_i ?_; walk_at "vc0"
   have kb : PySem.W.kitOne K (.type "int") (.type "bool") = some false := by kernel_rfl
   exact ⟨_, .int i, _, (show PySem.W.kitOne K (.type "int") (.type "str") = some false by kernel_rfl), iteF ⟨_, .int i, _, (show PySem.W.kitOne K (.type "int") (.type "int") = some true by rfl), iteT ⟨_, .int i, _, kb, _, .int i, _, kb, rfl, iteDy rfl ⟨rfl, q H (Same.refl _)⟩⟩⟩⟩
  | str x =>
   cases hv
   refine ⟨_, .str x, _, (show PySem.W.kitOne K (.type "str") (.type "tuple") = some false by kernel_rfl), iteF ?_⟩
   refine tSeq_i ?_; walk_at "vc0"
   refine tSeq_i ?_; walk_at "vc0"
   exact ⟨_, .str x, _, kit_str_str, iteT ⟨_, .str x, _, kit_str_str, iteT ⟨rfl, q H (Same.refl _)⟩⟩⟩
theorem sc_law : FnScope ["_law_script", "_law_purse_here", "_law_turn", "_law_names_here", "_law_letter_here", "_law_pack_here", "_law_rules_here", "_law_log_here", "_law_deeds", "_law_again"] ["_law_script"] (defScope s_law) := ⟨rfl, rfl, rfl, by decide +kernel, rfl, by decide +kernel, by decide +kernel⟩
set_option maxHeartbeats 4000000 in
theorem ok_law (T : Txt K mg fs fds tc u) (G_law_purse : FnOk P w K mg base CX0 1 (fs 25) (fds 25) ["_law_script"] (spPurse K)) (G_law_names : FnOk P w K mg base CX0 3 (fs 28) (fds 28) ["_law_purse_here", "_law_many"] spNames) (G_law_same : FnOk P w K mg base CX0 8 (fs 40) (fds 40) ["_law_found", "_law_due"] (spSameN 7)) (G_law_letter : FnOk P w K mg base CX0 3 (fs 31) (fds 31) ["_law_purse_here", "_law_names_here"] (spDraw LtV)) (G_law_pack : FnOk P w K mg base CX0 4 (fs 32) (fds 32) ["_law_purse_here", "_law_names_here"] (spDraw PkV)) (G_law_rules : FnOk P w K mg base CX0 2 (fs 33) (fds 33) ["_law_purse_here"] spRules) (G_law_log : FnOk P w K mg base CX0 5 (fs 35) (fds 35) ["_law_purse_here", "_law_names_here"] (spDraw LogV)) (G_law_deed : FnOk P w K mg base CX0 4 (fs 34) (fds 34) ["_law_purse_here", "_law_names_here"] (spDraw DdV)) (G_read_pack : FnOk P w K mg base CX0 5 (fs 21) (fds 21) ["text"] spRdP) (G_read_rules : FnOk P w K mg base CX0 5 (fs 22) (fds 22) ["text"] (spRd rulP rulesPV)) (G_read_log : FnOk P w K mg base CX0 7 (fs 24) (fds 24) ["text"] spRdL) (G_read_letter : FnOk P w K mg base CX0 5 (fs 20) (fds 20) ["text"] (spRd letP Lt.P)) (G_law_written : FnOk P w K mg base CX0 1 (fs 36) (fds 36) ["_law_letter_here"] (spTx LtV Lt.T)) (G_law_rules_written : FnOk P w K mg base CX0 1 (fs 37) (fds 37) ["_law_rules_here"] (spTx RlsV rulesT)) (G_law_log_written : FnOk P w K mg base CX0 3 (fs 39) (fds 39) ["_law_log_here"] (spTx LogV logT)) (G_read_deed : FnOk P w K mg base CX0 6 (fs 23) (fds 23) ["text"] (spRd dedP Dd.P)) (G_law_deed_written : FnOk P w K mg base CX0 2 (fs 38) (fds 38) ["_law_deed_here"] (spTx DdV Dd.T)) : FnOk P w K mg base CX0 9 (fs 41) (fds 41) ["_law_script"] (spLaw K) := by
 refine T.d_law.F.ok sc_law (fun vs H Q E h => ?_) (fun cdv A outer s H vs Q E hr h => ?_)
 ·obtain ⟨a, ns, rfl, hS, hlen, q⟩ := h
  rfl
 ·obtain ⟨a, ns, rfl, hS, hlen, q⟩ := h
  refine ⟨_, (pss_cons (ps_set (i := 1) sc_law.nd rfl (Or.inr rfl) (pe_fn T.d_law_purse G_law_purse hr (by decide) rfl (pa_cons (pv 0) pa_nil)))
   (pss_cons (ps_for PassesOwn.never rfl (pi_range1 rfl T.z_range (pa_cons (pe_callB (call_max2 rfl) (by rfl) T.z_max bt_max (pa_cons pe_int (pa_cons (pe_callB (call_min2 rfl) (by rfl) T.z_min bt_min (pa_cons pe_int (pa_cons (pe_callB (lenL K) (by rfl) T.z_len bt_len (pa_cons (pv 0) pa_nil)) pa_nil))) pa_nil))) pa_nil)) (pg_name (i := 2) sc_law.nd rfl (Or.inl rfl)) (pss_cons (ps_set (i := 3) sc_law.nd rfl (Or.inr rfl) (pe_fn T.d_law_names G_law_names hr (by decide) rfl (pa_cons (pv 1) (pa_cons pe_int pa_nil))))
   (pss_cons (ps_par (i := 4) (j := 5) rfl sc_law.nd rfl rfl (by decide) rfl rfl (pa_cons (pe_fn T.d_law_letter G_law_letter hr (by decide) rfl (pa_cons (pv 1) (pa_cons (pv 3) pa_nil))) (pa_cons (pe_fn T.d_law_pack G_law_pack hr (by decide) rfl (pa_cons (pv 1) (pa_cons (pv 3) pa_nil))) pa_nil)) rfl)
   (pss_cons (ps_par (i := 6) (j := 7) rfl sc_law.nd rfl rfl (by decide) rfl rfl (pa_cons (pe_fn T.d_law_rules G_law_rules hr (by decide) rfl (pa_cons (pv 1) pa_nil)) (pa_cons (pe_fn T.d_law_log G_law_log hr (by decide) rfl (pa_cons (pv 1) (pa_cons (pv 3) pa_nil))) pa_nil)) rfl)
   (pss_cons (ps_setLC (i := 8) ["_law_k", "_law_purse_here", "_law_names_here"] 1 [1, 3] ["_law_script", "_law_purse_here", "_law_turn", "_law_names_here", "_law_letter_here", "_law_pack_here", "_law_rules_here", "_law_log_here", "_law_deeds", "_law_again"] (defScope s_law) rfl rfl rfl sc_law.nd rfl rfl (pi_range1 rfl T.z_range (pa_cons pe_int pa_nil)) (by decide +kernel) (fun _ => (pg_name (i := 0) (show (["_law_k", "_law_purse_here", "_law_names_here"] : List Str).Nodup by decide +kernel) rfl (Or.inl rfl))) (fun _ => pts_nil) (fun _ => (pe_fn T.d_law_deed G_law_deed hr (by decide) rfl (pa_cons (pv 1) (pa_cons (pv 2) pa_nil)))))
   (pss_one (ps_for PassesOwn.never rfl (pi_range1 rfl T.z_range (pa_cons pe_int pa_nil)) (pg_name (i := 9) sc_law.nd rfl (Or.inl rfl)) (pss_cons (ps_if (pt_not (pt_val (pe_fn T.d_law_same G_law_same hr (by decide) rfl (pa_cons (pe_fn T.d_read_letter G_read_letter hr (by decide) rfl (pa_cons (pe_fn T.d_law_written G_law_written hr (by decide) rfl (pa_cons (pv 4) pa_nil)) pa_nil)) (pa_cons (pv 4) pa_nil))))) (pss_one (ps_ret pe_bl)) pss_nil)
   (pss_cons (ps_if (pt_not (pt_val (pe_fn T.d_law_same G_law_same hr (by decide) rfl (pa_cons (pe_fn T.d_read_pack G_read_pack hr (by decide) rfl (pa_cons (pe_bmK K PySem.F.plainAttrs_str PySem.F.slot_str_join PySem.F.type_str_join (joinK K) pe_str (pa_cons (pe_lc ["_law_one"] 1 [] ["_law_script", "_law_purse_here", "_law_turn", "_law_names_here", "_law_letter_here", "_law_pack_here", "_law_rules_here", "_law_log_here", "_law_deeds", "_law_again"] (defScope s_law) rfl rfl rfl (pi_tpl K (pv 5)) (by decide +kernel) (fun _ => (pg_name (i := 0) (show (["_law_one"] : List Str).Nodup by decide +kernel) rfl (Or.inl rfl))) (fun _ => pts_nil) (fun _ => (pe_fn T.d_law_written G_law_written hr (by decide) rfl (pa_cons (pv 0) pa_nil)))) pa_nil)) pa_nil)) (pa_cons (pv 5) pa_nil))))) (pss_one (ps_ret pe_bl)) pss_nil)
   (pss_cons (ps_if (pt_not (pt_val (pe_fn T.d_law_same G_law_same hr (by decide) rfl (pa_cons (pe_fn T.d_read_rules G_read_rules hr (by decide) rfl (pa_cons (pe_fn T.d_law_rules_written G_law_rules_written hr (by decide) rfl (pa_cons (pv 6) pa_nil)) pa_nil)) (pa_cons (pv 6) pa_nil))))) (pss_one (ps_ret pe_bl)) pss_nil)
   (pss_cons (ps_if (pt_not (pt_val (pe_callB (allL K rfl) (by rfl) T.z_all bt_all (pa_cons (pe_lc ["_law_deed_here"] 1 [] ["_law_script", "_law_purse_here", "_law_turn", "_law_names_here", "_law_letter_here", "_law_pack_here", "_law_rules_here", "_law_log_here", "_law_deeds", "_law_again"] (defScope s_law) rfl rfl rfl (pi_lst K (pv 8)) (by decide +kernel) (fun _ => (pg_name (i := 0) (show (["_law_deed_here"] : List Str).Nodup by decide +kernel) rfl (Or.inl rfl))) (fun _ => pts_nil) (fun _ => (pe_fn T.d_law_same G_law_same hr (by decide) rfl (pa_cons (pe_fn T.d_read_deed G_read_deed hr (by decide) rfl (pa_cons (pe_fn T.d_law_deed_written G_law_deed_written hr (by decide) rfl (pa_cons (pv 0) pa_nil)) pa_nil)) (pa_cons (pv 0) pa_nil))))) pa_nil)))) (pss_one (ps_ret pe_bl)) pss_nil)
   (pss_one (ps_if (pt_not (pt_val (pe_fn T.d_law_same G_law_same hr (by decide) rfl (pa_cons (pe_fn T.d_read_log G_read_log hr (by decide) rfl (pa_cons (pe_fn T.d_law_log_written G_law_log_written hr (by decide) rfl (pa_cons (pv 7) pa_nil)) pa_nil)) (pa_cons (pv 7) pa_nil))))) (pss_one (ps_ret pe_bl)) pss_nil)))))))))))))
   (pss_one (ps_ret (pe_and (pe_fn T.d_law_same G_law_same hr (by decide) rfl (pa_cons (pe_fn T.d_read_pack G_read_pack hr (by decide) rfl (pa_cons pe_str pa_nil)) (pa_cons (pe_tup pa_nil) pa_nil))) (pe_and (pe_fn T.d_law_same G_law_same hr (by decide) rfl (pa_cons (pe_fn T.d_read_rules G_read_rules hr (by decide) rfl (pa_cons pe_str pa_nil)) (pa_cons (pe_tup pa_nil) pa_nil))) (pe_one (pe_fn T.d_law_same G_law_same hr (by decide) rfl (pa_cons (pe_fn T.d_read_log G_read_log hr (by decide) rfl (pa_cons pe_str pa_nil)) (pa_cons (pe_tup pa_nil) pa_nil)))))))))), ?_⟩
  refine tSeq_i ?_; walk_at "vc0"
  refine ⟨a, ns, rfl, hS, hlen, fun p g H1 np0 ng0 hp1 s1 => ?_⟩
  have hm := turns (L := ((ns.map V.int).length : Int)) (c := 4) (by decide)
  refine tSeq_i ⟨_, rfl, a, _, rfl, hS.same s1, _, _, rfl, _, _, rfl, _, rfl, by omega, by omega, for_range (fun i σ H' => Pur H' p g ∧ Same H H' ∧ ∃ v2 v3 v4 v5 v6 v7 v8 v9, σ = [some (V.ref a), some (V.ref p), v2, v3, v4, v5, v6, v7, v8, v9]) ⟨hp1, s1, _, _, _, _, _, _, _, _, rfl⟩ ?_ ?_⟩
  ·rintro i σ H2 hi ⟨hp2, s2, v2, v3, v4, v5, v6, v7, v8, v9, rfl⟩
   show tSeq _ _ _ _ _
   refine tSeq_i ?_; walk_at "vc0"
   refine ⟨p, g, rfl, hp2, fun l zs H3 hl hN3 hp3 f3 => ?_⟩
   refine tSeq_i ?_; walk_at "vc0"
   refine ⟨p, g, l, zs, rfl, hp3, hN3, fun vr xr H4 hr4 hp4 f4 => ⟨p, g, l, zs, rfl, hp4, hN3.fr f4, fun vk xk H5 hk5 hp5 f5 => ?_⟩⟩
   refine tSeq_i ?_; walk_at "vc0"
   refine ⟨p, g, rfl, hp5, fun vu xu H6 hu6 hp6 f6 => ⟨p, g, l, zs, rfl, hp6, ((hN3.fr f4).fr f5).fr f6, fun vg xg H7 hg7 hp7 f7 => ?_⟩⟩
   have k6 := f7.kp hp6 hp7
   have k5 := f6.kp hp5 hp6
   have k4 := f5.kp hp4 hp5
   have hr7 := (((hr4.kp (kpt_of k4)).kp (kpt_of k5)).kp (kpt_of k6))
   have hk7 := ((hk5.kp (kpt_of k5)).kp (kpt_of k6))
   have hu7 := hu6.kp (kpt_of k6)
   have hN7 := (((hN3.fr f4).fr f5).fr f6).fr f7
   have f27 : Fr p g H2 H7 := (((f3.trans f4).trans f5).trans f6).trans f7
   refine tSeq_i ⟨_, rfl, by decide, by decide, fun l8 hl8 => comp_drawP 0 _ p g (fun H v => ∃ x, DdV H v x) (fun σ => ∃ o, σ = [o, some (.ref p), some (.ref l)]) ⟨_, rfl⟩ hp7 hl8 (by decide) (fun _ _ _ k ⟨x, h⟩ => ⟨x, h.kp (kpt_of k)⟩) ?_ ?_⟩
   ·rintro i σ H8 xs N hi ⟨o, rfl⟩ hp8 hx hxl f8 hNN
    unfold turnOf
    walk_at "vc2"
    exact ⟨p, g, l, zs, rfl, hp8, hN7.fr f8, fun v x H9 hv hp9 f9 => hNN _ _ _ ⟨_, rfl⟩ ⟨x, hv⟩ hp9 f9⟩
   ·intro ys H8 hyl hR hy hp8 f8
    have k8 := kpt_of (f8.kp hp7 hp8)
    have hr8 := hr7.kp k8
    have hk8 := hk7.kp k8
    have hu8 := hu7.kp k8
    have hg8 := hg7.kp k8
    have f28 := f27.trans f8
    have s8 : Same H H8 := fun b o hb => f28 b o (s2 b o hb) (ne_of_none hb np0) (ne_of_none hb ng0)
    obtain ⟨ak, vks, rfl, hak, hAk⟩ := id hk8.tp.tr.tup'
    refine ⟨2, rfl, by decide, by decide, for_range (lo := 0) (n := 2) (fun j σ H' => Same H8 H' ∧ ∃ v9, σ = [some (.ref a), some (.ref p), some (.int (0 + i)), some (.ref l), some vr, some (.ref ak), some vu, some vg, some (.ref l8), v9]) ⟨Same.refl _, _, rfl⟩ ?_ ?_⟩
    ·rintro j σ H9 hj ⟨s9, v9', rfl⟩
     show tSeq _ _ _ _ _
     refine tSeq_i ?_; walk_at "vc0"
     refine ⟨vr, xr, rfl, hr8.kp s9.kt, fun H10 s10 => ⟨_, xr, rfl, Nat.le_trans (ltT_le hr8.ok) (by decide), letP_T ((xr.ok_iff).mpr hr8.ok), fun v H11 s11 t11 => ?_⟩⟩
     have s911 := (s9.trans s10).trans s11
     refine ⟨v, vr, xr.P, rfl, t11, (hr8.kp s911.kt).tr, alike_up (alike_lt (n := 0) hr8.ok) (by decide), fun H12 s12 => ⟨_, rfl, notyes ?_⟩⟩
     have s912 := s911.trans s12
     refine tSeq_i ?_; walk_at "vc1"
     have ak12 := s912 _ _ hak
     have hAk12 := hAk.kp s912.kt
     have lk := hAk12.length
     rw [List.length_map] at lk
     have fk := hk8.tp.few
     refine ⟨rfl, _, rfl, ak, rfl, ⟨_, SqT.of ak12⟩, fun l13 hl13 => comp_tupX (SqT.of ak12) ((xk.map Lt.T).map V.str) (by rw [List.length_map, List.length_map]; exact lk) (fun σ => ∃ o, σ = [o]) ⟨_, rfl⟩ hl13 (szt (by omega)) ?_ ?_⟩
     ·rintro i' x y σ H13 zz N hx hy13 ⟨o, rfl⟩ s13 e13 hz hNN
      obtain ⟨t, ht, rfl⟩ := strAt hy13
      rw [List.getElem?_map] at ht
      obtain ⟨w, hw, rfl⟩ := Option.map_eq_some_iff.mp ht
      obtain ⟨pp, hpp, tr⟩ := hAk12.get hx
      rw [List.getElem?_map, hw] at hpp
      have hpp := (Option.some.inj hpp).symm
      subst hpp
      unfold turnOf
      walk_at "vc2"
      exact ⟨x, w, rfl, ⟨tr.kp s13.kt, hk8.tp.ok w (List.mem_of_getElem? hw)⟩, fun H14 s14 => ⟨zz, s14 _ _ e13, hz, hNN _ _ ⟨_, rfl⟩ (fun b o h n => by rw [upd_ne n]; exact s14 b o h) upd_same⟩⟩
     ·intro H13 s13 e13
      obtain ⟨pr1, pr2⟩ := pack_rows hk8.tp.ok
      have jl := rows_le (T := Lt.T) (z := NL) (c := 300) (m := 9) (fun x hx => ltT_le (hk8.tp.ok x hx)) fk (by rw [s1n]; decide)
      have jl2 := Nat.le_trans (join_le NL (xk.map Lt.T)) jl
      refine ⟨_, l13, _, rfl, rfl, SqL.of e13, Nat.le_trans jl (by decide), ?_⟩
      refine ⟨packT xk, xk, rfl, Nat.le_trans jl2 (by decide), pr2, (fun r hr => ?_), ?_, hk8.up, fun v14 H14 s14 t14 => ?_⟩
      ·rw [pr1] at hr
       obtain ⟨x, hx, rfl⟩ := List.mem_map.mp hr
       exact Nat.le_trans (ltT_le (hk8.tp.ok x hx)) (by decide)
      ·rw [pr1, List.length_map]; omega
      have s914 := (s912.trans s13).trans s14
      refine ⟨v14, _, _, rfl, t14, (hk8.kp s914.kt).tp.tr, alike_up (alike_tup (n := 2) (fun x hx => alike_lt (n := 0) (hk8.tp.ok x hx)) (by omega)) (by decide), fun H15 s15 => ⟨_, rfl, notyes ?_⟩⟩
      have s915 := s914.trans s15
      refine tSeq_i ?_; walk_at "vc0"
      refine ⟨vu, xu, rfl, hu8.kp s915.kt, fun H16 s16 => ⟨_, xu, rfl, ?_, rulP_T (rules_ok hu8), fun v17 H17 s17 t17 => ?_⟩⟩
      ·exact Nat.le_trans (Nat.le_trans (join_le CB (xu.map rlT)) (rows_le (T := rlT) (z := CB) (c := 30) (m := 6) (fun x hx => rlT_le (hu8.ok x hx)) hu8.few (by rw [s2c]; decide))) (by decide)
      have s917 := (s915.trans s16).trans s17
      refine ⟨v17, vu, rulesPV xu, rfl, t17, (hu8.kp s917.kt).tr, alike_up (alike_tup (P := rlP) (n := 1) (fun x hx => alike_rl (hu8.ok x hx)) (by have := hu8.few; omega)) (by decide), fun H18 s18 => ⟨_, rfl, notyes ?_⟩⟩
      have s918 := s917.trans s18
      refine tSeq_i ?_; walk_at "vc0"
      refine ⟨_, rfl, l8, rfl, ⟨_, SqL.of (s918 _ _ hy)⟩, fun l19 hl19 => comp_lstX (SqL.of (s918 _ _ hy)) (ys.map fun _ => V.bl true) (by rw [List.length_map]) (fun σ => ∃ o, σ = [o]) ⟨_, rfl⟩ hl19 (szt (by omega)) ?_ ?_⟩
      ·rintro i' x y σ H19 zz N hx hy19 ⟨o, rfl⟩ s19 e19 hz hNN
       obtain ⟨_, _, rfl⟩ := List.mem_map.mp (List.mem_of_getElem? hy19)
       obtain ⟨d, hd⟩ := hR x (List.mem_of_getElem? hx)
       have hd19 := hd.kp (s918.trans s19).kt
       unfold turnOf
       walk_at "vc2"
       refine ⟨x, d, rfl, hd19, fun H20 s20 => ⟨_, d, rfl, Nat.le_trans (ddT_le hd.ok) (by decide), dedP_T hd.ok, fun v21 H21 s21 t21 => ⟨v21, x, d.P, rfl, t21, (hd19.kp (s20.trans s21).kt).tr, alike_up (alike_dd (n := 0) hd.ok) (by decide), fun H22 s22 => ?_⟩⟩⟩
       have s1922 := (s20.trans s21).trans s22
       exact ⟨zz, s1922 _ _ e19, hz, hNN _ _ ⟨_, rfl⟩ (fun b o h n => by rw [upd_ne n]; exact s1922 _ _ h) upd_same⟩
      ·intro H19 s19 e19
       refine ⟨l19, rfl, ys.map fun _ => true, SqL.of (by rw [e19]; unfold isBl; rw [List.map_map]; rfl), ?_⟩
       rw [show (ys.map fun _ => true).all id = true by rw [List.all_map]; simp]
       refine notyes ?_
       have s919 := s918.trans s19
       obtain ⟨lr1, lr2⟩ := log_rows hg8.ok
       have jl := rows_le (T := entT) (z := NL) (c := 402) (m := 9) (fun x hx => entT_le (hg8.ok x hx)) hg8.few (by rw [s1n]; decide)
       refine ⟨vg, xg, rfl, hg8.kp s919.kt, fun H20 s20 => ⟨logT xg, xg, rfl, ?_, lr2, (fun r hr => ?_), ?_, fun v21 H21 s21 t21 => ?_⟩⟩
       ·exact Nat.le_trans (Nat.le_trans (join_le NL (xg.map entT)) jl) (by decide)
       ·rw [lr1] at hr
        obtain ⟨x, hx, rfl⟩ := List.mem_map.mp hr
        exact Nat.le_trans (entT_le (hg8.ok x hx)) (by decide)
       ·rw [lr1, List.length_map]
        have := hg8.few
        omega
       have s921 := (s919.trans s20).trans s21
       refine ⟨v21, vg, _, rfl, t21, (hg8.kp s921.kt).tr, alike_up (alike_tup (n := 4) (fun x hx => alike_et (n := 0) (hg8.ok x hx)) (by have := hg8.few; omega)) (by decide), fun H22 s22 => ⟨_, rfl, notyes ⟨s921.trans s22, _, rfl⟩⟩⟩
    ·rintro σ H9 ⟨s9, v9', rfl⟩
     exact ⟨hp8.same s9, s8.trans s9, _, _, _, _, _, _, _, _, rfl⟩
  ·rintro σ H2 ⟨hp2, s2, v2, v3, v4, v5, v6, v7, v8, v9, rfl⟩
   walk_at "vc0"
   have e0 : (Str.ofString "").length ≤ 900 := by rw [show (Str.ofString "").length = 0 from s0]; decide
   refine ⟨EM, [], rfl, Nat.le_trans e0 (by decide), by rw [rows_nil]; rfl, (fun r hr => by rw [rows_nil] at hr; cases hr), by rw [rows_nil]; decide, .nil, fun v H3 s3 t3 => ⟨Nat.zero_le _, fun p3 h3 => ⟨v, _, .tup [], rfl, t3.kp (Same.upd h3).kt, .tup upd_same .nil, rfl, fun H4 s4 => ⟨_, rfl, iteT ?_⟩⟩⟩⟩
   refine ⟨EM, [], rfl, e0, by unfold rulP; rw [if_pos rfl], fun v H5 s5 t5 => ⟨Nat.zero_le _, fun p5 h5 => ⟨v, _, .tup [], rfl, t5.kp (Same.upd h5).kt, .tup upd_same .nil, rfl, fun H6 s6 => ⟨_, rfl, iteT ?_⟩⟩⟩⟩
   exact ⟨EM, [], rfl, Nat.le_trans e0 (by decide), by rw [rows_nil]; rfl, (fun r hr => by rw [rows_nil] at hr; cases hr), by rw [rows_nil]; decide, fun v H7 s7 t7 => ⟨Nat.zero_le _, fun p7 h7 => ⟨v, _, .tup [], rfl, t7.kp (Same.upd h7).kt, .tup upd_same .nil, rfl, fun H8 s8 => q H8⟩⟩⟩
end
theorem all_mk {l : W.OpenLaw} {w : World} {K : W.Frag} {h : Heap} {mg : Str → Option Value} {fa f0 f1 f2 f3 f4 f5 f6 f7 f8 f9 f10 f11 f12 f13 f14 f15 f16 f17 f18 f19 f20 f21 f22 f23 f24 f25 f26 f27 f28 f29 f30 f31 f32 f33 f34 f35 f36 f37 f38 f39 f40 f41 : Addr} (X : K.In h) (G : h.Ns mainGlobals mg) (hfa : mg "law" = some (.ref fa))
  {od0 an0 od1 an1 od2 an2 od3 an3 od4 an4 od5 an5 od6 an6 od7 an7 od8 an8 od9 an9 od10 an10 od11 an11 od12 an12 od13 an13 od14 an14 od15 an15 od16 an16 od17 an17 od18 an18 od19 an19 od20 an20 od21 an21 od22 an22 od23 an23 od24 an24 od25 an25 od26 an26 od27 an27 od28 an28 od29 an29 od30 an30 od31 an31 od32 an32 od33 an33 od34 an34 od35 an35 od36 an36 od37 an37 od38 an38 od39 an39 od40 an40 od41 an41 : Option Addr} {sl0 sl1 sl2 sl3 sl4 sl5 sl6 sl7 sl8 sl9 sl10 sl11 sl12 sl13 sl14 sl15 sl16 sl17 sl18 sl19 sl20 sl21 sl22 sl23 sl24 sl25 sl26 sl27 sl28 sl29 sl30 sl31 sl32 sl33 sl34 sl35 sl36 sl37 sl38 sl39 sl40 sl41 : Array (Option Value)} {oc0 kV0 dc0 pm0 cd0 ct0 oc1 kV1 dc1 pm1 cd1 ct1 oc2 kV2 dc2 pm2 cd2 ct2 oc3 kV3 dc3 pm3 cd3 ct3 oc4 kV4 dc4 pm4 cd4 ct4 oc5 kV5 dc5 pm5 cd5 ct5 oc6 kV6 dc6 pm6 cd6 ct6 oc7 kV7 dc7 pm7 cd7 ct7 oc8 kV8 dc8 pm8 cd8 ct8 oc9 kV9 dc9 pm9 cd9 ct9 oc10 kV10 dc10 pm10 cd10 ct10 oc11 kV11 dc11 pm11 cd11 ct11 oc12 kV12 dc12 pm12 cd12 ct12 oc13 kV13 dc13 pm13 cd13 ct13 oc14 kV14 dc14 pm14 cd14 ct14 oc15 kV15 dc15 pm15 cd15 ct15 oc16 kV16 dc16 pm16 cd16 ct16 oc17 kV17 dc17 pm17 cd17 ct17 oc18 kV18 dc18 pm18 cd18 ct18 oc19 kV19 dc19 pm19 cd19 ct19 oc20 kV20 dc20 pm20 cd20 ct20 oc21 kV21 dc21 pm21 cd21 ct21 oc22 kV22 dc22 pm22 cd22 ct22 oc23 kV23 dc23 pm23 cd23 ct23 oc24 kV24 dc24 pm24 cd24 ct24 oc25 kV25 dc25 pm25 cd25 ct25 oc26 kV26 dc26 pm26 cd26 ct26 oc27 kV27 dc27 pm27 cd27 ct27 oc28 kV28 dc28 pm28 cd28 ct28 oc29 kV29 dc29 pm29 cd29 ct29 oc30 kV30 dc30 pm30 cd30 ct30 oc31 kV31 dc31 pm31 cd31 ct31 oc32 kV32 dc32 pm32 cd32 ct32 oc33 kV33 dc33 pm33 cd33 ct33 oc34 kV34 dc34 pm34 cd34 ct34 oc35 kV35 dc35 pm35 cd35 ct35 oc36 kV36 dc36 pm36 cd36 ct36 oc37 kV37 dc37 pm37 cd37 ct37 oc38 kV38 dc38 pm38 cd38 ct38 oc39 kV39 dc39 pm39 cd39 ct39 oc40 kV40 dc40 pm40 cd40 ct40 oc41 kV41 dc41 pm41 cd41 ct41 : Value} {tk0 tk1 tk2 tk3 tk4 tk8 tk9 tk10 tk11 tk12 : Tok}{at5 : Addr} {dt5 : Option Addr} {it5 : Array Value} {nt5 : Nat} {st5 : Array (Option Value)} {at6 : Addr} {dt6 : Option Addr} {it6 : Array Value} {nt6 : Nat} {st6 : Array (Option Value)} {at7 : Addr} {dt7 : Option Addr} {it7 : Array Value} {nt7 : Nat} {st7 : Array (Option Value)}
  (a0 : W.nsIn K mainGlobals "is_name" = some (some (.ref f0))) (l0 : K.lookup f0 = some ⟨oc0, od0, .func (W.fnOf "is_name" "is_name" (defArgs s_is_name) (defBody s_is_name) (defScope s_is_name) .none kV0 dc0 pm0 an0 cd0 ct0), sl0⟩) (c0 : W.codeIn K cd0 "is_name" = true) (k0 : W.keepIn K (.ref f0) = true)
  (a1 : W.nsIn K mainGlobals "is_whole" = some (some (.ref f1))) (l1 : K.lookup f1 = some ⟨oc1, od1, .func (W.fnOf "is_whole" "is_whole" (defArgs s_is_whole) (defBody s_is_whole) (defScope s_is_whole) .none kV1 dc1 pm1 an1 cd1 ct1), sl1⟩) (c1 : W.codeIn K cd1 "is_whole" = true) (k1 : W.keepIn K (.ref f1) = true)
  (a2 : W.nsIn K mainGlobals "is_day" = some (some (.ref f2))) (l2 : K.lookup f2 = some ⟨oc2, od2, .func (W.fnOf "is_day" "is_day" (defArgs s_is_day) (defBody s_is_day) (defScope s_is_day) .none kV2 dc2 pm2 an2 cd2 ct2), sl2⟩) (c2 : W.codeIn K cd2 "is_day" = true) (k2 : W.keepIn K (.ref f2) = true)
  (a3 : W.nsIn K mainGlobals "is_head" = some (some (.ref f3))) (l3 : K.lookup f3 = some ⟨oc3, od3, .func (W.fnOf "is_head" "is_head" (defArgs s_is_head) (defBody s_is_head) (defScope s_is_head) .none kV3 dc3 pm3 an3 cd3 ct3), sl3⟩) (c3 : W.codeIn K cd3 "is_head" = true) (k3 : W.keepIn K (.ref f3) = true)
  (a4 : W.nsIn K mainGlobals "is_row" = some (some (.ref f4))) (l4 : K.lookup f4 = some ⟨oc4, od4, .func (W.fnOf "is_row" "is_row" (defArgs s_is_row) (defBody s_is_row) (defScope s_is_row) .none kV4 dc4 pm4 an4 cd4 ct4), sl4⟩) (c4 : W.codeIn K cd4 "is_row" = true) (k4 : W.keepIn K (.ref f4) = true)
  (a5 : W.nsIn K mainGlobals "is_letter" = some (some (.ref f5))) (l5 : K.lookup f5 = some ⟨oc5, od5, .func (W.fnOf "is_letter" "is_letter" (defArgs s_is_letter) (defBody s_is_letter) (defScope s_is_letter) .none kV5 dc5 pm5 an5 cd5 ct5), sl5⟩) (c5 : W.codeIn K cd5 "is_letter" = true) (k5 : W.keepIn K (.ref f5) = true)
  (a6 : W.nsIn K mainGlobals "is_deed" = some (some (.ref f6))) (l6 : K.lookup f6 = some ⟨oc6, od6, .func (W.fnOf "is_deed" "is_deed" (defArgs s_is_deed) (defBody s_is_deed) (defScope s_is_deed) .none kV6 dc6 pm6 an6 cd6 ct6), sl6⟩) (c6 : W.codeIn K cd6 "is_deed" = true) (k6 : W.keepIn K (.ref f6) = true)
  (a7 : W.nsIn K mainGlobals "is_kind" = some (some (.ref f7))) (l7 : K.lookup f7 = some ⟨oc7, od7, .func (W.fnOf "is_kind" "is_kind" (defArgs s_is_kind) (defBody s_is_kind) (defScope s_is_kind) .none kV7 dc7 pm7 an7 cd7 ct7), sl7⟩) (c7 : W.codeIn K cd7 "is_kind" = true) (k7 : W.keepIn K (.ref f7) = true)
  (a8 : W.nsIn K mainGlobals "is_word" = some (some (.ref f8))) (l8 : K.lookup f8 = some ⟨oc8, od8, .func (W.fnOf "is_word" "is_word" (defArgs s_is_word) (defBody s_is_word) (defScope s_is_word) .none kV8 dc8 pm8 an8 cd8 ct8), sl8⟩) (c8 : W.codeIn K cd8 "is_word" = true) (k8 : W.keepIn K (.ref f8) = true)
  (a9 : W.nsIn K mainGlobals "is_rule" = some (some (.ref f9))) (l9 : K.lookup f9 = some ⟨oc9, od9, .func (W.fnOf "is_rule" "is_rule" (defArgs s_is_rule) (defBody s_is_rule) (defScope s_is_rule) .none kV9 dc9 pm9 an9 cd9 ct9), sl9⟩) (c9 : W.codeIn K cd9 "is_rule" = true) (k9 : W.keepIn K (.ref f9) = true)
  (a10 : W.nsIn K mainGlobals "is_rules" = some (some (.ref f10))) (l10 : K.lookup f10 = some ⟨oc10, od10, .func (W.fnOf "is_rules" "is_rules" (defArgs s_is_rules) (defBody s_is_rules) (defScope s_is_rules) .none kV10 dc10 pm10 an10 cd10 ct10), sl10⟩) (c10 : W.codeIn K cd10 "is_rules" = true) (k10 : W.keepIn K (.ref f10) = true)
  (a11 : W.nsIn K mainGlobals "is_count" = some (some (.ref f11))) (l11 : K.lookup f11 = some ⟨oc11, od11, .func (W.fnOf "is_count" "is_count" (defArgs s_is_count) (defBody s_is_count) (defScope s_is_count) .none kV11 dc11 pm11 an11 cd11 ct11), sl11⟩) (c11 : W.codeIn K cd11 "is_count" = true) (k11 : W.keepIn K (.ref f11) = true)
  (a12 : W.nsIn K mainGlobals "number_in" = some (some (.ref f12))) (l12 : K.lookup f12 = some ⟨oc12, od12, .func (W.fnOf "number_in" "number_in" (defArgs s_number_in) (defBody s_number_in) (defScope s_number_in) .none kV12 dc12 pm12 an12 cd12 ct12), sl12⟩) (c12 : W.codeIn K cd12 "number_in" = true) (k12 : W.keepIn K (.ref f12) = true)
  (a13 : W.nsIn K mainGlobals "checked" = some (some (.ref f13))) (l13 : K.lookup f13 = some ⟨oc13, od13, .func (W.fnOf "checked" "checked" (defArgs s_checked) (defBody s_checked) (defScope s_checked) .none kV13 dc13 pm13 an13 cd13 ct13), sl13⟩) (c13 : W.codeIn K cd13 "checked" = true) (k13 : W.keepIn K (.ref f13) = true)
  (a14 : W.nsIn K mainGlobals "rows_in" = some (some (.ref f14))) (l14 : K.lookup f14 = some ⟨oc14, od14, .func (W.fnOf "rows_in" "rows_in" (defArgs s_rows_in) (defBody s_rows_in) (defScope s_rows_in) .none kV14 dc14 pm14 an14 cd14 ct14), sl14⟩) (c14 : W.codeIn K cd14 "rows_in" = true) (k14 : W.keepIn K (.ref f14) = true)
  (a15 : W.nsIn K mainGlobals "needed" = some (some (.ref f15))) (l15 : K.lookup f15 = some ⟨oc15, od15, .func (W.fnOf "needed" "needed" (defArgs s_needed) (defBody s_needed) (defScope s_needed) .none kV15 dc15 pm15 an15 cd15 ct15), sl15⟩) (c15 : W.codeIn K cd15 "needed" = true) (k15 : W.keepIn K (.ref f15) = true)
  (a16 : W.nsIn K mainGlobals "letter_in" = some (some (.ref f16))) (l16 : K.lookup f16 = some ⟨oc16, od16, .func (W.fnOf "letter_in" "letter_in" (defArgs s_letter_in) (defBody s_letter_in) (defScope s_letter_in) .none kV16 dc16 pm16 an16 cd16 ct16), sl16⟩) (c16 : W.codeIn K cd16 "letter_in" = true) (k16 : W.keepIn K (.ref f16) = true)
  (a17 : W.nsIn K mainGlobals "rules_in" = some (some (.ref f17))) (l17 : K.lookup f17 = some ⟨oc17, od17, .func (W.fnOf "rules_in" "rules_in" (defArgs s_rules_in) (defBody s_rules_in) (defScope s_rules_in) .none kV17 dc17 pm17 an17 cd17 ct17), sl17⟩) (c17 : W.codeIn K cd17 "rules_in" = true) (k17 : W.keepIn K (.ref f17) = true)
  (a18 : W.nsIn K mainGlobals "deed_in" = some (some (.ref f18))) (l18 : K.lookup f18 = some ⟨oc18, od18, .func (W.fnOf "deed_in" "deed_in" (defArgs s_deed_in) (defBody s_deed_in) (defScope s_deed_in) .none kV18 dc18 pm18 an18 cd18 ct18), sl18⟩) (c18 : W.codeIn K cd18 "deed_in" = true) (k18 : W.keepIn K (.ref f18) = true)
  (a19 : W.nsIn K mainGlobals "entry_in" = some (some (.ref f19))) (l19 : K.lookup f19 = some ⟨oc19, od19, .func (W.fnOf "entry_in" "entry_in" (defArgs s_entry_in) (defBody s_entry_in) (defScope s_entry_in) .none kV19 dc19 pm19 an19 cd19 ct19), sl19⟩) (c19 : W.codeIn K cd19 "entry_in" = true) (k19 : W.keepIn K (.ref f19) = true)
  (a20 : W.nsIn K mainGlobals "read_letter" = some (some (.ref f20))) (l20 : K.lookup f20 = some ⟨oc20, od20, .func (W.fnOf "read_letter" "read_letter" (defArgs s_read_letter) (defBody s_read_letter) (defScope s_read_letter) .none kV20 dc20 pm20 an20 cd20 ct20), sl20⟩) (c20 : W.codeIn K cd20 "read_letter" = true) (k20 : W.keepIn K (.ref f20) = true)
  (a21 : W.nsIn K mainGlobals "read_pack" = some (some (.ref f21))) (l21 : K.lookup f21 = some ⟨oc21, od21, .func (W.fnOf "read_pack" "read_pack" (defArgs s_read_pack) (defBody s_read_pack) (defScope s_read_pack) .none kV21 dc21 pm21 an21 cd21 ct21), sl21⟩) (c21 : W.codeIn K cd21 "read_pack" = true) (k21 : W.keepIn K (.ref f21) = true)
  (a22 : W.nsIn K mainGlobals "read_rules" = some (some (.ref f22))) (l22 : K.lookup f22 = some ⟨oc22, od22, .func (W.fnOf "read_rules" "read_rules" (defArgs s_read_rules) (defBody s_read_rules) (defScope s_read_rules) .none kV22 dc22 pm22 an22 cd22 ct22), sl22⟩) (c22 : W.codeIn K cd22 "read_rules" = true) (k22 : W.keepIn K (.ref f22) = true)
  (a23 : W.nsIn K mainGlobals "read_deed" = some (some (.ref f23))) (l23 : K.lookup f23 = some ⟨oc23, od23, .func (W.fnOf "read_deed" "read_deed" (defArgs s_read_deed) (defBody s_read_deed) (defScope s_read_deed) .none kV23 dc23 pm23 an23 cd23 ct23), sl23⟩) (c23 : W.codeIn K cd23 "read_deed" = true) (k23 : W.keepIn K (.ref f23) = true)
  (a24 : W.nsIn K mainGlobals "read_log" = some (some (.ref f24))) (l24 : K.lookup f24 = some ⟨oc24, od24, .func (W.fnOf "read_log" "read_log" (defArgs s_read_log) (defBody s_read_log) (defScope s_read_log) .none kV24 dc24 pm24 an24 cd24 ct24), sl24⟩) (c24 : W.codeIn K cd24 "read_log" = true) (k24 : W.keepIn K (.ref f24) = true)
  (a25 : W.nsIn K mainGlobals "_law_purse" = some (some (.ref f25))) (l25 : K.lookup f25 = some ⟨oc25, od25, .func (W.fnOf "_law_purse" "_law_purse" (defArgs s_law_purse) (defBody s_law_purse) (defScope s_law_purse) .none kV25 dc25 pm25 an25 cd25 ct25), sl25⟩) (c25 : W.codeIn K cd25 "_law_purse" = true) (k25 : W.keepIn K (.ref f25) = true)
  (a26 : W.nsIn K mainGlobals "_law_pick" = some (some (.ref f26))) (l26 : K.lookup f26 = some ⟨oc26, od26, .func (W.fnOf "_law_pick" "_law_pick" (defArgs s_law_pick) (defBody s_law_pick) (defScope s_law_pick) .none kV26 dc26 pm26 an26 cd26 ct26), sl26⟩) (c26 : W.codeIn K cd26 "_law_pick" = true) (k26 : W.keepIn K (.ref f26) = true)
  (a27 : W.nsIn K mainGlobals "_law_name" = some (some (.ref f27))) (l27 : K.lookup f27 = some ⟨oc27, od27, .func (W.fnOf "_law_name" "_law_name" (defArgs s_law_name) (defBody s_law_name) (defScope s_law_name) .none kV27 dc27 pm27 an27 cd27 ct27), sl27⟩) (c27 : W.codeIn K cd27 "_law_name" = true) (k27 : W.keepIn K (.ref f27) = true)
  (a28 : W.nsIn K mainGlobals "_law_names" = some (some (.ref f28))) (l28 : K.lookup f28 = some ⟨oc28, od28, .func (W.fnOf "_law_names" "_law_names" (defArgs s_law_names) (defBody s_law_names) (defScope s_law_names) .none kV28 dc28 pm28 an28 cd28 ct28), sl28⟩) (c28 : W.codeIn K cd28 "_law_names" = true) (k28 : W.keepIn K (.ref f28) = true)
  (a29 : W.nsIn K mainGlobals "_law_day" = some (some (.ref f29))) (l29 : K.lookup f29 = some ⟨oc29, od29, .func (W.fnOf "_law_day" "_law_day" (defArgs s_law_day) (defBody s_law_day) (defScope s_law_day) .none kV29 dc29 pm29 an29 cd29 ct29), sl29⟩) (c29 : W.codeIn K cd29 "_law_day" = true) (k29 : W.keepIn K (.ref f29) = true)
  (a30 : W.nsIn K mainGlobals "_law_sign" = some (some (.ref f30))) (l30 : K.lookup f30 = some ⟨oc30, od30, .func (W.fnOf "_law_sign" "_law_sign" (defArgs s_law_sign) (defBody s_law_sign) (defScope s_law_sign) .none kV30 dc30 pm30 an30 cd30 ct30), sl30⟩) (c30 : W.codeIn K cd30 "_law_sign" = true) (k30 : W.keepIn K (.ref f30) = true)
  (a31 : W.nsIn K mainGlobals "_law_letter" = some (some (.ref f31))) (l31 : K.lookup f31 = some ⟨oc31, od31, .func (W.fnOf "_law_letter" "_law_letter" (defArgs s_law_letter) (defBody s_law_letter) (defScope s_law_letter) .none kV31 dc31 pm31 an31 cd31 ct31), sl31⟩) (c31 : W.codeIn K cd31 "_law_letter" = true) (k31 : W.keepIn K (.ref f31) = true)
  (a32 : W.nsIn K mainGlobals "_law_pack" = some (some (.ref f32))) (l32 : K.lookup f32 = some ⟨oc32, od32, .func (W.fnOf "_law_pack" "_law_pack" (defArgs s_law_pack) (defBody s_law_pack) (defScope s_law_pack) .none kV32 dc32 pm32 an32 cd32 ct32), sl32⟩) (c32 : W.codeIn K cd32 "_law_pack" = true) (k32 : W.keepIn K (.ref f32) = true)
  (a33 : W.nsIn K mainGlobals "_law_rules" = some (some (.ref f33))) (l33 : K.lookup f33 = some ⟨oc33, od33, .func (W.fnOf "_law_rules" "_law_rules" (defArgs s_law_rules) (defBody s_law_rules) (defScope s_law_rules) .none kV33 dc33 pm33 an33 cd33 ct33), sl33⟩) (c33 : W.codeIn K cd33 "_law_rules" = true) (k33 : W.keepIn K (.ref f33) = true)
  (a34 : W.nsIn K mainGlobals "_law_deed" = some (some (.ref f34))) (l34 : K.lookup f34 = some ⟨oc34, od34, .func (W.fnOf "_law_deed" "_law_deed" (defArgs s_law_deed) (defBody s_law_deed) (defScope s_law_deed) .none kV34 dc34 pm34 an34 cd34 ct34), sl34⟩) (c34 : W.codeIn K cd34 "_law_deed" = true) (k34 : W.keepIn K (.ref f34) = true)
  (a35 : W.nsIn K mainGlobals "_law_log" = some (some (.ref f35))) (l35 : K.lookup f35 = some ⟨oc35, od35, .func (W.fnOf "_law_log" "_law_log" (defArgs s_law_log) (defBody s_law_log) (defScope s_law_log) .none kV35 dc35 pm35 an35 cd35 ct35), sl35⟩) (c35 : W.codeIn K cd35 "_law_log" = true) (k35 : W.keepIn K (.ref f35) = true)
  (a36 : W.nsIn K mainGlobals "_law_written" = some (some (.ref f36))) (l36 : K.lookup f36 = some ⟨oc36, od36, .func (W.fnOf "_law_written" "_law_written" (defArgs s_law_written) (defBody s_law_written) (defScope s_law_written) .none kV36 dc36 pm36 an36 cd36 ct36), sl36⟩) (c36 : W.codeIn K cd36 "_law_written" = true) (k36 : W.keepIn K (.ref f36) = true)
  (a37 : W.nsIn K mainGlobals "_law_rules_written" = some (some (.ref f37))) (l37 : K.lookup f37 = some ⟨oc37, od37, .func (W.fnOf "_law_rules_written" "_law_rules_written" (defArgs s_law_rules_written) (defBody s_law_rules_written) (defScope s_law_rules_written) .none kV37 dc37 pm37 an37 cd37 ct37), sl37⟩) (c37 : W.codeIn K cd37 "_law_rules_written" = true) (k37 : W.keepIn K (.ref f37) = true)
  (a38 : W.nsIn K mainGlobals "_law_deed_written" = some (some (.ref f38))) (l38 : K.lookup f38 = some ⟨oc38, od38, .func (W.fnOf "_law_deed_written" "_law_deed_written" (defArgs s_law_deed_written) (defBody s_law_deed_written) (defScope s_law_deed_written) .none kV38 dc38 pm38 an38 cd38 ct38), sl38⟩) (c38 : W.codeIn K cd38 "_law_deed_written" = true) (k38 : W.keepIn K (.ref f38) = true)
  (a39 : W.nsIn K mainGlobals "_law_log_written" = some (some (.ref f39))) (l39 : K.lookup f39 = some ⟨oc39, od39, .func (W.fnOf "_law_log_written" "_law_log_written" (defArgs s_law_log_written) (defBody s_law_log_written) (defScope s_law_log_written) .none kV39 dc39 pm39 an39 cd39 ct39), sl39⟩) (c39 : W.codeIn K cd39 "_law_log_written" = true) (k39 : W.keepIn K (.ref f39) = true)
  (a40 : W.nsIn K mainGlobals "_law_same" = some (some (.ref f40))) (l40 : K.lookup f40 = some ⟨oc40, od40, .func (W.fnOf "_law_same" "_law_same" (defArgs s_law_same) (defBody s_law_same) (defScope s_law_same) .none kV40 dc40 pm40 an40 cd40 ct40), sl40⟩) (c40 : W.codeIn K cd40 "_law_same" = true) (k40 : W.keepIn K (.ref f40) = true)
  (a41 : W.nsIn K mainGlobals "law" = some (some (.ref f41))) (l41 : K.lookup f41 = some ⟨oc41, od41, .func (W.fnOf "law" "law" (defArgs s_law) (defBody s_law) (defScope s_law) .none kV41 dc41 pm41 an41 cd41 ct41), sl41⟩) (c41 : W.codeIn K cd41 "law" = true) (k41 : W.keepIn K (.ref f41) = true)
  (z_len : W.nsIn K mainGlobals "len" = some none)
  (z_isinstance : W.nsIn K mainGlobals "isinstance" = some none)
  (z_str : W.nsIn K mainGlobals "str" = some none)
  (z_all : W.nsIn K mainGlobals "all" = some none)
  (z_bool : W.nsIn K mainGlobals "bool" = some none)
  (z_int : W.nsIn K mainGlobals "int" = some none)
  (z_abs : W.nsIn K mainGlobals "abs" = some none)
  (z_tuple : W.nsIn K mainGlobals "tuple" = some none)
  (z_range : W.nsIn K mainGlobals "range" = some none)
  (z_sorted : W.nsIn K mainGlobals "sorted" = some none)
  (z_enumerate : W.nsIn K mainGlobals "enumerate" = some none)
  (z_zip : W.nsIn K mainGlobals "zip" = some none)
  (z_max : W.nsIn K mainGlobals "max" = some none)
  (z_min : W.nsIn K mainGlobals "min" = some none)
  (e_NAME_SIGNS : W.nsIn K mainGlobals "NAME_SIGNS" = some (some (.str (Str.ofString "abcdefghijklmnopqrstuvwxyz0123456789") tk0)))
  (e_LONGEST_NAME : W.nsIn K mainGlobals "LONGEST_NAME" = some (some (.int 12 tk1)))
  (e_LAST_DAY : W.nsIn K mainGlobals "LAST_DAY" = some (some (.int 99999999 tk2)))
  (e_LONGEST_HEAD : W.nsIn K mainGlobals "LONGEST_HEAD" = some (some (.int 60 tk3)))
  (e_LONGEST_ROW : W.nsIn K mainGlobals "LONGEST_ROW" = some (some (.int 9 tk4)))
  (e_LETTER_WORDS : W.nsIn K mainGlobals "LETTER_WORDS" = some (some (.ref at5))) (q_LETTER_WORDS : K.lookup at5 = some ⟨.type "tuple", dt5, .seq it5 nt5, st5⟩) (y_LETTER_WORDS : it5.size ≤ sizeLine) (v_LETTER_WORDS : Vals [V.str (Str.ofString "come"), V.str (Str.ofString "go")] it5.toList)
  (e_NAME_WORDS : W.nsIn K mainGlobals "NAME_WORDS" = some (some (.ref at6))) (q_NAME_WORDS : K.lookup at6 = some ⟨.type "tuple", dt6, .seq it6 nt6, st6⟩) (y_NAME_WORDS : it6.size ≤ sizeLine) (v_NAME_WORDS : Vals [V.str (Str.ofString "split"), V.str (Str.ofString "free"), V.str (Str.ofString "read"), V.str (Str.ofString "unread")] it6.toList)
  (e_KINDS : W.nsIn K mainGlobals "KINDS" = some (some (.ref at7))) (q_KINDS : K.lookup at7 = some ⟨.type "tuple", dt7, .seq it7 nt7, st7⟩) (y_KINDS : it7.size ≤ sizeLine) (v_KINDS : Vals [V.str (Str.ofString "ahead"), V.str (Str.ofString "behind"), V.str (Str.ofString "label")] it7.toList)
  (e_WORD_SIGNS : W.nsIn K mainGlobals "WORD_SIGNS" = some (some (.str (Str.ofString "abcdefghijklmnopqrstuvwxyz") tk8)))
  (e_LONGEST_WORD : W.nsIn K mainGlobals "LONGEST_WORD" = some (some (.int 8 tk9)))
  (e_MOST_RULES : W.nsIn K mainGlobals "MOST_RULES" = some (some (.int 6 tk10)))
  (e_FIGURES : W.nsIn K mainGlobals "FIGURES" = some (some (.str (Str.ofString "0123456789") tk11)))
  (e_MOST_FIGURES : W.nsIn K mainGlobals "MOST_FIGURES" = some (some (.int 9 tk12)))
  : ∃ fd : FuncData, (∀ (s : Shared) (v : Value), BindsTo s fd ⟨[v], []⟩ [("_law_script", v)]) ∧ ∀ base : Heap, K.In base → base.Ns mainGlobals mg → FnOk l.prog w K mg base CX0 9 fa fd ["_law_script"] (spLaw K) := by
 have e := hfa.symm.trans (W.mg_of X G a41)
 cases e
 have F0 := fun_mk (st := s_is_name) l0 c0 k0
 have b0 := F0.binds (ps := ["thing"]) fun _ _ _ _ _ _ us hl => match us, hl with | [_], _ => rfl
 have F1 := fun_mk (st := s_is_whole) l1 c1 k1
 have b1 := F1.binds (ps := ["thing"]) fun _ _ _ _ _ _ us hl => match us, hl with | [_], _ => rfl
 have F2 := fun_mk (st := s_is_day) l2 c2 k2
 have b2 := F2.binds (ps := ["thing"]) fun _ _ _ _ _ _ us hl => match us, hl with | [_], _ => rfl
 have F3 := fun_mk (st := s_is_head) l3 c3 k3
 have b3 := F3.binds (ps := ["thing"]) fun _ _ _ _ _ _ us hl => match us, hl with | [_], _ => rfl
 have F4 := fun_mk (st := s_is_row) l4 c4 k4
 have b4 := F4.binds (ps := ["thing"]) fun _ _ _ _ _ _ us hl => match us, hl with | [_], _ => rfl
 have F5 := fun_mk (st := s_is_letter) l5 c5 k5
 have b5 := F5.binds (ps := ["thing"]) fun _ _ _ _ _ _ us hl => match us, hl with | [_], _ => rfl
 have F6 := fun_mk (st := s_is_deed) l6 c6 k6
 have b6 := F6.binds (ps := ["thing"]) fun _ _ _ _ _ _ us hl => match us, hl with | [_], _ => rfl
 have F7 := fun_mk (st := s_is_kind) l7 c7 k7
 have b7 := F7.binds (ps := ["thing"]) fun _ _ _ _ _ _ us hl => match us, hl with | [_], _ => rfl
 have F8 := fun_mk (st := s_is_word) l8 c8 k8
 have b8 := F8.binds (ps := ["thing"]) fun _ _ _ _ _ _ us hl => match us, hl with | [_], _ => rfl
 have F9 := fun_mk (st := s_is_rule) l9 c9 k9
 have b9 := F9.binds (ps := ["thing"]) fun _ _ _ _ _ _ us hl => match us, hl with | [_], _ => rfl
 have F10 := fun_mk (st := s_is_rules) l10 c10 k10
 have b10 := F10.binds (ps := ["thing"]) fun _ _ _ _ _ _ us hl => match us, hl with | [_], _ => rfl
 have F11 := fun_mk (st := s_is_count) l11 c11 k11
 have b11 := F11.binds (ps := ["text"]) fun _ _ _ _ _ _ us hl => match us, hl with | [_], _ => rfl
 have F12 := fun_mk (st := s_number_in) l12 c12 k12
 have b12 := F12.binds (ps := ["text"]) fun _ _ _ _ _ _ us hl => match us, hl with | [_], _ => rfl
 have F13 := fun_mk (st := s_checked) l13 c13 k13
 have b13 := F13.binds (ps := ["text"]) fun _ _ _ _ _ _ us hl => match us, hl with | [_], _ => rfl
 have F14 := fun_mk (st := s_rows_in) l14 c14 k14
 have b14 := F14.binds (ps := ["text"]) fun _ _ _ _ _ _ us hl => match us, hl with | [_], _ => rfl
 have F15 := fun_mk (st := s_needed) l15 c15 k15
 have b15 := F15.binds (ps := ["thing", "row"]) fun _ _ _ _ _ _ us hl => match us, hl with | [_, _], _ => rfl
 have F16 := fun_mk (st := s_letter_in) l16 c16 k16
 have b16 := F16.binds (ps := ["text"]) fun _ _ _ _ _ _ us hl => match us, hl with | [_], _ => rfl
 have F17 := fun_mk (st := s_rules_in) l17 c17 k17
 have b17 := F17.binds (ps := ["text"]) fun _ _ _ _ _ _ us hl => match us, hl with | [_], _ => rfl
 have F18 := fun_mk (st := s_deed_in) l18 c18 k18
 have b18 := F18.binds (ps := ["text"]) fun _ _ _ _ _ _ us hl => match us, hl with | [_], _ => rfl
 have F19 := fun_mk (st := s_entry_in) l19 c19 k19
 have b19 := F19.binds (ps := ["text"]) fun _ _ _ _ _ _ us hl => match us, hl with | [_], _ => rfl
 have F20 := fun_mk (st := s_read_letter) l20 c20 k20
 have b20 := F20.binds (ps := ["text"]) fun _ _ _ _ _ _ us hl => match us, hl with | [_], _ => rfl
 have F21 := fun_mk (st := s_read_pack) l21 c21 k21
 have b21 := F21.binds (ps := ["text"]) fun _ _ _ _ _ _ us hl => match us, hl with | [_], _ => rfl
 have F22 := fun_mk (st := s_read_rules) l22 c22 k22
 have b22 := F22.binds (ps := ["text"]) fun _ _ _ _ _ _ us hl => match us, hl with | [_], _ => rfl
 have F23 := fun_mk (st := s_read_deed) l23 c23 k23
 have b23 := F23.binds (ps := ["text"]) fun _ _ _ _ _ _ us hl => match us, hl with | [_], _ => rfl
 have F24 := fun_mk (st := s_read_log) l24 c24 k24
 have b24 := F24.binds (ps := ["text"]) fun _ _ _ _ _ _ us hl => match us, hl with | [_], _ => rfl
 have F25 := fun_mk (st := s_law_purse) l25 c25 k25
 have b25 := F25.binds (ps := ["_law_script"]) fun _ _ _ _ _ _ us hl => match us, hl with | [_], _ => rfl
 have F26 := fun_mk (st := s_law_pick) l26 c26 k26
 have b26 := F26.binds (ps := ["_law_purse_here", "_law_many"]) fun _ _ _ _ _ _ us hl => match us, hl with | [_, _], _ => rfl
 have F27 := fun_mk (st := s_law_name) l27 c27 k27
 have b27 := F27.binds (ps := ["_law_purse_here"]) fun _ _ _ _ _ _ us hl => match us, hl with | [_], _ => rfl
 have F28 := fun_mk (st := s_law_names) l28 c28 k28
 have b28 := F28.binds (ps := ["_law_purse_here", "_law_many"]) fun _ _ _ _ _ _ us hl => match us, hl with | [_, _], _ => rfl
 have F29 := fun_mk (st := s_law_day) l29 c29 k29
 have b29 := F29.binds (ps := ["_law_purse_here"]) fun _ _ _ _ _ _ us hl => match us, hl with | [_], _ => rfl
 have F30 := fun_mk (st := s_law_sign) l30 c30 k30
 have b30 := F30.binds (ps := ["_law_purse_here"]) fun _ _ _ _ _ _ us hl => match us, hl with | [_], _ => rfl
 have F31 := fun_mk (st := s_law_letter) l31 c31 k31
 have b31 := F31.binds (ps := ["_law_purse_here", "_law_names_here"]) fun _ _ _ _ _ _ us hl => match us, hl with | [_, _], _ => rfl
 have F32 := fun_mk (st := s_law_pack) l32 c32 k32
 have b32 := F32.binds (ps := ["_law_purse_here", "_law_names_here"]) fun _ _ _ _ _ _ us hl => match us, hl with | [_, _], _ => rfl
 have F33 := fun_mk (st := s_law_rules) l33 c33 k33
 have b33 := F33.binds (ps := ["_law_purse_here"]) fun _ _ _ _ _ _ us hl => match us, hl with | [_], _ => rfl
 have F34 := fun_mk (st := s_law_deed) l34 c34 k34
 have b34 := F34.binds (ps := ["_law_purse_here", "_law_names_here"]) fun _ _ _ _ _ _ us hl => match us, hl with | [_, _], _ => rfl
 have F35 := fun_mk (st := s_law_log) l35 c35 k35
 have b35 := F35.binds (ps := ["_law_purse_here", "_law_names_here"]) fun _ _ _ _ _ _ us hl => match us, hl with | [_, _], _ => rfl
 have F36 := fun_mk (st := s_law_written) l36 c36 k36
 have b36 := F36.binds (ps := ["_law_letter_here"]) fun _ _ _ _ _ _ us hl => match us, hl with | [_], _ => rfl
 have F37 := fun_mk (st := s_law_rules_written) l37 c37 k37
 have b37 := F37.binds (ps := ["_law_rules_here"]) fun _ _ _ _ _ _ us hl => match us, hl with | [_], _ => rfl
 have F38 := fun_mk (st := s_law_deed_written) l38 c38 k38
 have b38 := F38.binds (ps := ["_law_deed_here"]) fun _ _ _ _ _ _ us hl => match us, hl with | [_], _ => rfl
 have F39 := fun_mk (st := s_law_log_written) l39 c39 k39
 have b39 := F39.binds (ps := ["_law_log_here"]) fun _ _ _ _ _ _ us hl => match us, hl with | [_], _ => rfl
 have F40 := fun_mk (st := s_law_same) l40 c40 k40
 have b40 := F40.binds (ps := ["_law_found", "_law_due"]) fun _ _ _ _ _ _ us hl => match us, hl with | [_, _], _ => rfl
 have F41 := fun_mk (st := s_law) l41 c41 k41
 have b41 := F41.binds (ps := ["_law_script"]) fun _ _ _ _ _ _ us hl => match us, hl with | [_], _ => rfl
 have T : Txt K mg (fun i => ([f0, f1, f2, f3, f4, f5, f6, f7, f8, f9, f10, f11, f12, f13, f14, f15, f16, f17, f18, f19, f20, f21, f22, f23, f24, f25, f26, f27, f28, f29, f30, f31, f32, f33, f34, f35, f36, f37, f38, f39, f40, fa] : List Addr).getD i 0) (fun i => ([W.fnOf "is_name" "is_name" (defArgs s_is_name) (defBody s_is_name) (defScope s_is_name) .none kV0 dc0 pm0 an0 cd0 ct0, W.fnOf "is_whole" "is_whole" (defArgs s_is_whole) (defBody s_is_whole) (defScope s_is_whole) .none kV1 dc1 pm1 an1 cd1 ct1, W.fnOf "is_day" "is_day" (defArgs s_is_day) (defBody s_is_day) (defScope s_is_day) .none kV2 dc2 pm2 an2 cd2 ct2, W.fnOf "is_head" "is_head" (defArgs s_is_head) (defBody s_is_head) (defScope s_is_head) .none kV3 dc3 pm3 an3 cd3 ct3, W.fnOf "is_row" "is_row" (defArgs s_is_row) (defBody s_is_row) (defScope s_is_row) .none kV4 dc4 pm4 an4 cd4 ct4, W.fnOf "is_letter" "is_letter" (defArgs s_is_letter) (defBody s_is_letter) (defScope s_is_letter) .none kV5 dc5 pm5 an5 cd5 ct5, W.fnOf "is_deed" "is_deed" (defArgs s_is_deed) (defBody s_is_deed) (defScope s_is_deed) .none kV6 dc6 pm6 an6 cd6 ct6, W.fnOf "is_kind" "is_kind" (defArgs s_is_kind) (defBody s_is_kind) (defScope s_is_kind) .none kV7 dc7 pm7 an7 cd7 ct7, W.fnOf "is_word" "is_word" (defArgs s_is_word) (defBody s_is_word) (defScope s_is_word) .none kV8 dc8 pm8 an8 cd8 ct8, W.fnOf "is_rule" "is_rule" (defArgs s_is_rule) (defBody s_is_rule) (defScope s_is_rule) .none kV9 dc9 pm9 an9 cd9 ct9, W.fnOf "is_rules" "is_rules" (defArgs s_is_rules) (defBody s_is_rules) (defScope s_is_rules) .none kV10 dc10 pm10 an10 cd10 ct10, W.fnOf "is_count" "is_count" (defArgs s_is_count) (defBody s_is_count) (defScope s_is_count) .none kV11 dc11 pm11 an11 cd11 ct11, W.fnOf "number_in" "number_in" (defArgs s_number_in) (defBody s_number_in) (defScope s_number_in) .none kV12 dc12 pm12 an12 cd12 ct12, W.fnOf "checked" "checked" (defArgs s_checked) (defBody s_checked) (defScope s_checked) .none kV13 dc13 pm13 an13 cd13 ct13, W.fnOf "rows_in" "rows_in" (defArgs s_rows_in) (defBody s_rows_in) (defScope s_rows_in) .none kV14 dc14 pm14 an14 cd14 ct14, W.fnOf "needed" "needed" (defArgs s_needed) (defBody s_needed) (defScope s_needed) .none kV15 dc15 pm15 an15 cd15 ct15, W.fnOf "letter_in" "letter_in" (defArgs s_letter_in) (defBody s_letter_in) (defScope s_letter_in) .none kV16 dc16 pm16 an16 cd16 ct16, W.fnOf "rules_in" "rules_in" (defArgs s_rules_in) (defBody s_rules_in) (defScope s_rules_in) .none kV17 dc17 pm17 an17 cd17 ct17, W.fnOf "deed_in" "deed_in" (defArgs s_deed_in) (defBody s_deed_in) (defScope s_deed_in) .none kV18 dc18 pm18 an18 cd18 ct18, W.fnOf "entry_in" "entry_in" (defArgs s_entry_in) (defBody s_entry_in) (defScope s_entry_in) .none kV19 dc19 pm19 an19 cd19 ct19, W.fnOf "read_letter" "read_letter" (defArgs s_read_letter) (defBody s_read_letter) (defScope s_read_letter) .none kV20 dc20 pm20 an20 cd20 ct20, W.fnOf "read_pack" "read_pack" (defArgs s_read_pack) (defBody s_read_pack) (defScope s_read_pack) .none kV21 dc21 pm21 an21 cd21 ct21, W.fnOf "read_rules" "read_rules" (defArgs s_read_rules) (defBody s_read_rules) (defScope s_read_rules) .none kV22 dc22 pm22 an22 cd22 ct22, W.fnOf "read_deed" "read_deed" (defArgs s_read_deed) (defBody s_read_deed) (defScope s_read_deed) .none kV23 dc23 pm23 an23 cd23 ct23, W.fnOf "read_log" "read_log" (defArgs s_read_log) (defBody s_read_log) (defScope s_read_log) .none kV24 dc24 pm24 an24 cd24 ct24, W.fnOf "_law_purse" "_law_purse" (defArgs s_law_purse) (defBody s_law_purse) (defScope s_law_purse) .none kV25 dc25 pm25 an25 cd25 ct25, W.fnOf "_law_pick" "_law_pick" (defArgs s_law_pick) (defBody s_law_pick) (defScope s_law_pick) .none kV26 dc26 pm26 an26 cd26 ct26, W.fnOf "_law_name" "_law_name" (defArgs s_law_name) (defBody s_law_name) (defScope s_law_name) .none kV27 dc27 pm27 an27 cd27 ct27, W.fnOf "_law_names" "_law_names" (defArgs s_law_names) (defBody s_law_names) (defScope s_law_names) .none kV28 dc28 pm28 an28 cd28 ct28, W.fnOf "_law_day" "_law_day" (defArgs s_law_day) (defBody s_law_day) (defScope s_law_day) .none kV29 dc29 pm29 an29 cd29 ct29, W.fnOf "_law_sign" "_law_sign" (defArgs s_law_sign) (defBody s_law_sign) (defScope s_law_sign) .none kV30 dc30 pm30 an30 cd30 ct30, W.fnOf "_law_letter" "_law_letter" (defArgs s_law_letter) (defBody s_law_letter) (defScope s_law_letter) .none kV31 dc31 pm31 an31 cd31 ct31, W.fnOf "_law_pack" "_law_pack" (defArgs s_law_pack) (defBody s_law_pack) (defScope s_law_pack) .none kV32 dc32 pm32 an32 cd32 ct32, W.fnOf "_law_rules" "_law_rules" (defArgs s_law_rules) (defBody s_law_rules) (defScope s_law_rules) .none kV33 dc33 pm33 an33 cd33 ct33, W.fnOf "_law_deed" "_law_deed" (defArgs s_law_deed) (defBody s_law_deed) (defScope s_law_deed) .none kV34 dc34 pm34 an34 cd34 ct34, W.fnOf "_law_log" "_law_log" (defArgs s_law_log) (defBody s_law_log) (defScope s_law_log) .none kV35 dc35 pm35 an35 cd35 ct35, W.fnOf "_law_written" "_law_written" (defArgs s_law_written) (defBody s_law_written) (defScope s_law_written) .none kV36 dc36 pm36 an36 cd36 ct36, W.fnOf "_law_rules_written" "_law_rules_written" (defArgs s_law_rules_written) (defBody s_law_rules_written) (defScope s_law_rules_written) .none kV37 dc37 pm37 an37 cd37 ct37, W.fnOf "_law_deed_written" "_law_deed_written" (defArgs s_law_deed_written) (defBody s_law_deed_written) (defScope s_law_deed_written) .none kV38 dc38 pm38 an38 cd38 ct38, W.fnOf "_law_log_written" "_law_log_written" (defArgs s_law_log_written) (defBody s_law_log_written) (defScope s_law_log_written) .none kV39 dc39 pm39 an39 cd39 ct39, W.fnOf "_law_same" "_law_same" (defArgs s_law_same) (defBody s_law_same) (defScope s_law_same) .none kV40 dc40 pm40 an40 cd40 ct40, W.fnOf "law" "law" (defArgs s_law) (defBody s_law) (defScope s_law) .none kV41 dc41 pm41 an41 cd41 ct41] : List FuncData).getD i (W.fnOf "law" "law" (defArgs s_law) (defBody s_law) (defScope s_law) .none kV41 dc41 pm41 an41 cd41 ct41)) (fun i => ([0, 0, 0, 0, 0, at5, at6, at7, 0, 0, 0, 0, 0] : List Addr).getD i 0) (fun i => ([.str (Str.ofString "abcdefghijklmnopqrstuvwxyz0123456789") tk0, .int 12 tk1, .int 99999999 tk2, .int 60 tk3, .int 9 tk4, .ref at5, .ref at6, .ref at7, .str (Str.ofString "abcdefghijklmnopqrstuvwxyz") tk8, .int 8 tk9, .int 6 tk10, .str (Str.ofString "0123456789") tk11, .int 9 tk12] : List Value).getD i .none) := ⟨⟨F0, W.mg_of X G a0, b0⟩, ⟨F1, W.mg_of X G a1, b1⟩, ⟨F2, W.mg_of X G a2, b2⟩, ⟨F3, W.mg_of X G a3, b3⟩, ⟨F4, W.mg_of X G a4, b4⟩, ⟨F5, W.mg_of X G a5, b5⟩, ⟨F6, W.mg_of X G a6, b6⟩, ⟨F7, W.mg_of X G a7, b7⟩, ⟨F8, W.mg_of X G a8, b8⟩, ⟨F9, W.mg_of X G a9, b9⟩, ⟨F10, W.mg_of X G a10, b10⟩, ⟨F11, W.mg_of X G a11, b11⟩, ⟨F12, W.mg_of X G a12, b12⟩, ⟨F13, W.mg_of X G a13, b13⟩, ⟨F14, W.mg_of X G a14, b14⟩, ⟨F15, W.mg_of X G a15, b15⟩, ⟨F16, W.mg_of X G a16, b16⟩, ⟨F17, W.mg_of X G a17, b17⟩, ⟨F18, W.mg_of X G a18, b18⟩, ⟨F19, W.mg_of X G a19, b19⟩, ⟨F20, W.mg_of X G a20, b20⟩, ⟨F21, W.mg_of X G a21, b21⟩, ⟨F22, W.mg_of X G a22, b22⟩, ⟨F23, W.mg_of X G a23, b23⟩, ⟨F24, W.mg_of X G a24, b24⟩, ⟨F25, W.mg_of X G a25, b25⟩, ⟨F26, W.mg_of X G a26, b26⟩, ⟨F27, W.mg_of X G a27, b27⟩, ⟨F28, W.mg_of X G a28, b28⟩, ⟨F29, W.mg_of X G a29, b29⟩, ⟨F30, W.mg_of X G a30, b30⟩, ⟨F31, W.mg_of X G a31, b31⟩, ⟨F32, W.mg_of X G a32, b32⟩, ⟨F33, W.mg_of X G a33, b33⟩, ⟨F34, W.mg_of X G a34, b34⟩, ⟨F35, W.mg_of X G a35, b35⟩, ⟨F36, W.mg_of X G a36, b36⟩, ⟨F37, W.mg_of X G a37, b37⟩, ⟨F38, W.mg_of X G a38, b38⟩, ⟨F39, W.mg_of X G a39, b39⟩, ⟨F40, W.mg_of X G a40, b40⟩, ⟨F41, W.mg_of X G a41, b41⟩, W.mg_none_of X G z_len, W.mg_none_of X G z_isinstance, W.mg_none_of X G z_str, W.mg_none_of X G z_all, W.mg_none_of X G z_bool, W.mg_none_of X G z_int, W.mg_none_of X G z_abs, W.mg_none_of X G z_tuple, W.mg_none_of X G z_range, W.mg_none_of X G z_sorted, W.mg_none_of X G z_enumerate, W.mg_none_of X G z_zip, W.mg_none_of X G z_max, W.mg_none_of X G z_min, W.mg_of X G e_NAME_SIGNS, ⟨_, rfl⟩, W.mg_of X G e_LONGEST_NAME, ⟨_, rfl⟩, W.mg_of X G e_LAST_DAY, ⟨_, rfl⟩, W.mg_of X G e_LONGEST_HEAD, ⟨_, rfl⟩, W.mg_of X G e_LONGEST_ROW, ⟨_, rfl⟩, W.mg_of X G e_LETTER_WORDS, rfl, fun _ => .inr ⟨_, _, _, q_LETTER_WORDS, rfl, rfl, y_LETTER_WORDS, v_LETTER_WORDS⟩, W.mg_of X G e_NAME_WORDS, rfl, fun _ => .inr ⟨_, _, _, q_NAME_WORDS, rfl, rfl, y_NAME_WORDS, v_NAME_WORDS⟩, W.mg_of X G e_KINDS, rfl, fun _ => .inr ⟨_, _, _, q_KINDS, rfl, rfl, y_KINDS, v_KINDS⟩, W.mg_of X G e_WORD_SIGNS, ⟨_, rfl⟩, W.mg_of X G e_LONGEST_WORD, ⟨_, rfl⟩, W.mg_of X G e_MOST_RULES, ⟨_, rfl⟩, W.mg_of X G e_FIGURES, ⟨_, rfl⟩, W.mg_of X G e_MOST_FIGURES, ⟨_, rfl⟩⟩
 refine ⟨W.fnOf "law" "law" (defArgs s_law) (defBody s_law) (defScope s_law) .none kV41 dc41 pm41 an41 cd41 ct41, fun s v => .of_eq rfl, fun base _ _ => ?_⟩
 have G_is_name := ok_is_name (P := l.prog) (w := w) (base := base) T 
 have G_is_whole := ok_is_whole (P := l.prog) (w := w) (base := base) T 
 have G_is_head := ok_is_head (P := l.prog) (w := w) (base := base) T 
 have G_is_kind := ok_is_kind (P := l.prog) (w := w) (base := base) T 
 have G_is_word := ok_is_word (P := l.prog) (w := w) (base := base) T 
 have G_is_count := ok_is_count (P := l.prog) (w := w) (base := base) T 
 have G_checked := ok_checked (P := l.prog) (w := w) (base := base) T 
 have G_needed := ok_needed (P := l.prog) (w := w) (base := base) T 
 have G_law_purse := ok_law_purse (P := l.prog) (w := w) (base := base) T 
 have G_law_pick := ok_law_pick (P := l.prog) (w := w) (base := base) T 
 have G_law_written := ok_law_written (P := l.prog) (w := w) (base := base) T 
 have G_law_rules_written := ok_law_rules_written (P := l.prog) (w := w) (base := base) T 
 have G_is_day := ok_is_day (P := l.prog) (w := w) (base := base) T G_is_whole
 have G_is_row := ok_is_row (P := l.prog) (w := w) (base := base) T G_is_name
 have G_is_rule := ok_is_rule (P := l.prog) (w := w) (base := base) T G_is_kind G_is_word
 have G_number_in := ok_number_in (P := l.prog) (w := w) (base := base) T G_is_count
 have G_rows_in := ok_rows_in (P := l.prog) (w := w) (base := base) T G_checked
 have G_law_name := ok_law_name (P := l.prog) (w := w) (base := base) T G_law_pick
 have G_law_day := ok_law_day (P := l.prog) (w := w) (base := base) T G_law_pick
 have G_law_sign := ok_law_sign (P := l.prog) (w := w) (base := base) T G_law_pick
 have G_law_rules := ok_law_rules (P := l.prog) (w := w) (base := base) T G_law_pick
 have G_law_deed_written := ok_law_deed_written (P := l.prog) (w := w) (base := base) T G_law_written
 have G_is_letter := ok_is_letter (P := l.prog) (w := w) (base := base) T G_is_name G_is_day G_is_head G_is_row
 have G_is_rules := ok_is_rules (P := l.prog) (w := w) (base := base) T G_is_rule
 have G_law_names := ok_law_names (P := l.prog) (w := w) (base := base) T G_law_name
 have G_law_letter := ok_law_letter (P := l.prog) (w := w) (base := base) T G_law_day G_law_pick G_law_sign
 have G_law_log_written := ok_law_log_written (P := l.prog) (w := w) (base := base) T G_law_deed_written
 have G_is_deed := ok_is_deed (P := l.prog) (w := w) (base := base) T G_is_letter G_is_name
 have G_letter_in := ok_letter_in (P := l.prog) (w := w) (base := base) T G_number_in G_is_letter
 have G_rules_in := ok_rules_in (P := l.prog) (w := w) (base := base) T G_is_rules
 have G_law_pack := ok_law_pack (P := l.prog) (w := w) (base := base) T G_law_letter G_law_pick
 have G_law_deed := ok_law_deed (P := l.prog) (w := w) (base := base) T G_law_pick G_law_letter
 have G_deed_in := ok_deed_in (P := l.prog) (w := w) (base := base) T G_is_deed G_letter_in
 have G_read_letter := ok_read_letter (P := l.prog) (w := w) (base := base) T G_needed G_letter_in G_checked
 have G_read_pack := ok_read_pack (P := l.prog) (w := w) (base := base) T G_rows_in G_needed G_letter_in
 have G_read_rules := ok_read_rules (P := l.prog) (w := w) (base := base) T G_needed G_rules_in G_checked
 have G_law_log := ok_law_log (P := l.prog) (w := w) (base := base) T G_law_pick G_law_deed
 have G_entry_in := ok_entry_in (P := l.prog) (w := w) (base := base) T G_deed_in
 have G_read_deed := ok_read_deed (P := l.prog) (w := w) (base := base) T G_needed G_deed_in G_checked
 have G_read_log := ok_read_log (P := l.prog) (w := w) (base := base) T G_needed G_entry_in G_rows_in
 have G_law_same_1 := ok_law_same (P := l.prog) (w := w) (base := base) T  0 fn_never
 have G_law_same_2 := ok_law_same (P := l.prog) (w := w) (base := base) T  1 G_law_same_1
 have G_law_same_3 := ok_law_same (P := l.prog) (w := w) (base := base) T  2 G_law_same_2
 have G_law_same_4 := ok_law_same (P := l.prog) (w := w) (base := base) T  3 G_law_same_3
 have G_law_same_5 := ok_law_same (P := l.prog) (w := w) (base := base) T  4 G_law_same_4
 have G_law_same_6 := ok_law_same (P := l.prog) (w := w) (base := base) T  5 G_law_same_5
 have G_law_same_7 := ok_law_same (P := l.prog) (w := w) (base := base) T  6 G_law_same_6
 have G_law_same := G_law_same_7
 exact ok_law T G_law_purse G_law_names G_law_same G_law_letter G_law_pack G_law_rules G_law_log G_law_deed G_read_pack G_read_rules G_read_log G_read_letter G_law_written G_law_rules_written G_law_log_written G_read_deed G_law_deed_written
theorem walk {l : PySem.W.OpenLaw} {q : Program} {loose : List Str} {XP : (Str → Option Value) → Heap → Prop} {YP : World → Heap → Prop} {d : DefRec} {K : Params → PySem.W.Frag} (hn : l.most = some 63) (hdf : d.params.defaults = [])
  (hY : ∀ (w : World) (h : Heap), YP w h → (K w.params).In h)
  (F : ∀ (w : World) (mg : Str → Option Value) (fa : Addr) (h : Heap), (K w.params).In h → h.Ns mainGlobals mg → mg d.name = some (.ref fa) →
   ∃ fd : FuncData, (∀ (s : Shared) (u : Value), BindsTo s fd ⟨[u], []⟩ [("_law_script", u)]) ∧ ∀ base : Heap, (K w.params).In base → base.Ns mainGlobals mg → FnOk l.prog w (K w.params) mg base CX0 9 fa fd ["_law_script"] (spLaw (K w.params))) :
  PySem.W.WalkO q loose XP YP l.row.toRowW d [] (fun f vs => PySem.call f vs) :=
 L2.walk_of (n := 63) (k := 9) (x := "_law_script") (CX := fun _ => CX0) (sp := fun w => spLaw (K w.params)) hn (by decide) hdf ⟨rfl, by decide, by decide, rfl⟩ hY F (fun _ _ a ns hl _ hS => ⟨a, ns, rfl, hS, hl, fun _ => rfl⟩) fun _ _ _ _ _ z => z
end My
open PySem PySem.W PyProof.Rows
set_option maxRecDepth 100000 in
set_option maxHeartbeats 0 in
theorem PySem.Challenge.cw_answertrees_k65_read_as_written_holds : PySem.Challenge.rw_answertrees_k65_read_as_written.Holds := by
 refine PySem.W.holds_law My.hdS fun said => PySem.W.holds_open (q := My.hdV) (loose := []) (XP := PySem.W.XL My.hdV []) (YP := PySem.W.InK My.hdK) (N := My.hdN) My.hdL (PySem.W.InK.of fun _ => by kernel_rfl) PySem.W.InK.keeps (fun s e => PySem.W.xl_of s (Bool.and_eq_true_iff.mp e).1) PySem.W.XL.keeps (by rfl) (by rfl) (by rfl) (fun s e => PySem.W.recFacts_of (Bool.and_eq_true_iff.mp e).2) rfl said (by decide +kernel) ⟨rfl, rfl, rfl, rfl, rfl, by decide +kernel⟩ ?hw ?hc
 case hw => w_witness2
 k_fill
 refine My.walk (l := PySem.Challenge.rw_answertrees_k65_read_as_written) rfl rfl (fun w h Y => Y) ?F
 case F =>
  intro w mg fa h KX G hmg
  refine' My.all_mk KX G hmg ?a0 ?l0 ?c0 ?k0 ?a1 ?l1 ?c1 ?k1 ?a2 ?l2 ?c2 ?k2 ?a3 ?l3 ?c3 ?k3 ?a4 ?l4 ?c4 ?k4 ?a5 ?l5 ?c5 ?k5 ?a6 ?l6 ?c6 ?k6 ?a7 ?l7 ?c7 ?k7 ?a8 ?l8 ?c8 ?k8 ?a9 ?l9 ?c9 ?k9 ?a10 ?l10 ?c10 ?k10 ?a11 ?l11 ?c11 ?k11 ?a12 ?l12 ?c12 ?k12 ?a13 ?l13 ?c13 ?k13 ?a14 ?l14 ?c14 ?k14 ?a15 ?l15 ?c15 ?k15 ?a16 ?l16 ?c16 ?k16 ?a17 ?l17 ?c17 ?k17 ?a18 ?l18 ?c18 ?k18 ?a19 ?l19 ?c19 ?k19 ?a20 ?l20 ?c20 ?k20 ?a21 ?l21 ?c21 ?k21 ?a22 ?l22 ?c22 ?k22 ?a23 ?l23 ?c23 ?k23 ?a24 ?l24 ?c24 ?k24 ?a25 ?l25 ?c25 ?k25 ?a26 ?l26 ?c26 ?k26 ?a27 ?l27 ?c27 ?k27 ?a28 ?l28 ?c28 ?k28 ?a29 ?l29 ?c29 ?k29 ?a30 ?l30 ?c30 ?k30 ?a31 ?l31 ?c31 ?k31 ?a32 ?l32 ?c32 ?k32 ?a33 ?l33 ?c33 ?k33 ?a34 ?l34 ?c34 ?k34 ?a35 ?l35 ?c35 ?k35 ?a36 ?l36 ?c36 ?k36 ?a37 ?l37 ?c37 ?k37 ?a38 ?l38 ?c38 ?k38 ?a39 ?l39 ?c39 ?k39 ?a40 ?l40 ?c40 ?k40 ?a41 ?l41 ?c41 ?k41 ?z_len ?z_isinstance ?z_str ?z_all ?z_bool ?z_int ?z_abs ?z_tuple ?z_range ?z_sorted ?z_enumerate ?z_zip ?z_max ?z_min ?e_NAME_SIGNS ?e_LONGEST_NAME ?e_LAST_DAY ?e_LONGEST_HEAD ?e_LONGEST_ROW ?e_LETTER_WORDS ?q_LETTER_WORDS ?y_LETTER_WORDS ?v_LETTER_WORDS ?e_NAME_WORDS ?q_NAME_WORDS ?y_NAME_WORDS ?v_NAME_WORDS ?e_KINDS ?q_KINDS ?y_KINDS ?v_KINDS ?e_WORD_SIGNS ?e_LONGEST_WORD ?e_MOST_RULES ?e_FIGURES ?e_MOST_FIGURES
  case a0 | l0 | c0 | k0 | a1 | l1 | c1 | k1 | a2 | l2 | c2 | k2 | a3 | l3 | c3 | k3 | a4 | l4 | c4 | k4 | a5 | l5 | c5 | k5 | a6 | l6 | c6 | k6 | a7 | l7 | c7 | k7 | a8 | l8 | c8 | k8 | a9 | l9 | c9 | k9 | a10 | l10 | c10 | k10 | a11 | l11 | c11 | k11 | a12 | l12 | c12 | k12 | a13 | l13 | c13 | k13 | a14 | l14 | c14 | k14 | a15 | l15 | c15 | k15 | a16 | l16 | c16 | k16 | a17 | l17 | c17 | k17 | a18 | l18 | c18 | k18 | a19 | l19 | c19 | k19 | a20 | l20 | c20 | k20 | a21 | l21 | c21 | k21 | a22 | l22 | c22 | k22 | a23 | l23 | c23 | k23 | a24 | l24 | c24 | k24 | a25 | l25 | c25 | k25 | a26 | l26 | c26 | k26 | a27 | l27 | c27 | k27 | a28 | l28 | c28 | k28 | a29 | l29 | c29 | k29 | a30 | l30 | c30 | k30 | a31 | l31 | c31 | k31 | a32 | l32 | c32 | k32 | a33 | l33 | c33 | k33 | a34 | l34 | c34 | k34 | a35 | l35 | c35 | k35 | a36 | l36 | c36 | k36 | a37 | l37 | c37 | k37 | a38 | l38 | c38 | k38 | a39 | l39 | c39 | k39 | a40 | l40 | c40 | k40 | a41 | l41 | c41 | k41 | z_len | z_isinstance | z_str | z_all | z_bool | z_int | z_abs | z_tuple | z_range | z_sorted | z_enumerate | z_zip | z_max | z_min | e_NAME_SIGNS | e_LONGEST_NAME | e_LAST_DAY | e_LONGEST_HEAD | e_LONGEST_ROW | e_LETTER_WORDS | q_LETTER_WORDS => k_is
  case y_LETTER_WORDS => decide
  case v_LETTER_WORDS => repeat (first | exact .nil | refine .cons ⟨_, rfl⟩ ?_)
  case e_NAME_WORDS | q_NAME_WORDS => k_is
  case y_NAME_WORDS => decide
  case v_NAME_WORDS => repeat (first | exact .nil | refine .cons ⟨_, rfl⟩ ?_)
  case e_KINDS | q_KINDS => k_is
  case y_KINDS => decide
  case v_KINDS => repeat (first | exact .nil | refine .cons ⟨_, rfl⟩ ?_)
  case e_WORD_SIGNS | e_LONGEST_WORD | e_MOST_RULES | e_FIGURES | e_MOST_FIGURES => k_is
#print axioms PySem.Challenge.cw_answertrees_k65_read_as_written_holds
