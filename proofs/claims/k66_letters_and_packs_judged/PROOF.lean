import PyProof.Rows.All
import Wide.All
import OpenK.AllK
import Wide.FinOn
import Lean
import PyProof.EqAt
import PyProof.EqKinds
import PyProof.TupleCall
import PySem.Challenge.RW_answertrees_k66_letters_and_packs_judged
set_option compiler.extract_closed false
set_option Elab.async false
set_option linter.all false
set_option maxRecDepth 100000
namespace L2
open PySem PySem.Spec PyProof.Rows
noncomputable def aK (s : Stmt) : Arguments := match s with
 | .FunctionDef _ a _ _ _ _ _ _ _ _ => a
 | _ => { posonlyargs := [], args := [], vararg := none, kwonlyargs := [], kw_defaults := [], kwarg := none, defaults := [] }
noncomputable def aI (s : Stmt) : List Stmt := match s with
 | .FunctionDef _ _ b _ _ _ _ _ _ _ => b
 | _ => []
noncomputable def aC (s : Stmt) : Scope := match s with
 | .FunctionDef _ _ _ _ _ _ sc _ _ _ => sc
 | _ => { kind := .function, names := [], isGenerator := false, isCoroutine := false }
noncomputable def uZ (s : Stmt) : Stmt := match s with
 | .ClassDef _ _ _ (b :: _) _ _ _ _ _ _ _ => b
 | s => s
end L2
namespace My
set_option maxHeartbeats 0
open PySem PySem.W L2
abbrev SW : Program := PySem.Challenge.pw_answertrees_k66_letters_and_packs_judged
noncomputable abbrev PY (i : Nat) : Stmt := SW.main.body.getD i (.Pass ⟨0, 0, 0, 0⟩)
noncomputable abbrev kQ (i : Nat) (n m : Str) (t : Tok) (c : Addr) : Obj := ⟨.type "function", none, .func (PySem.W.fnOf n n (aK (PY i)) (aI (PY i)) (aC (PY i)) .none .none .none (.str m t) none (.ref c) .none), #[]⟩
noncomputable abbrev T6 (i : Nat) (n qn m : Str) (t : Tok) (c : Addr) : Obj := ⟨.type "function", none, .func (PySem.W.fnOf n qn (aK (uZ (PY i))) (aI (uZ (PY i))) (aC (uZ (PY i))) .none .none .none (.str m t) none (.ref c) .none), #[]⟩
noncomputable abbrev dC (P : Params) (n : Str) (t : Tok) (v : Value) : DictEntry := ⟨PyData.keyHash P n, .str n t, v⟩
noncomputable def S7 : Params → PySem.W.Frag := fun P =>
 (nat_lit 3, ⟨(.type "dict"), none, .dict #[dC P "__name__" 165 (.str "law_answertrees_k66_letters_and_packs_judged" 441), dC P "__doc__" 166 .none, dC P "__package__" 167 .none, dC P "__loader__" 168 (.builtin "__main__.__loader__#opaque"), dC P "__spec__" 169 .none, dC P "__annotations__" 170 (.ref 6), dC P "__builtins__" 171 (.ref 4), dC P "__file__" 173 (.str "/claim/cut.py" 172), dC P "__cached__" 174 .none, dC P "NAME_SIGNS" 190 (.str "abcdefghijklmnopqrstuvwxyz0123456789" 189), dC P "LONGEST_NAME" 192 (.int 12 191), dC P "LAST_DAY" 194 (.int 99999999 193), dC P "LONGEST_HEAD" 196 (.int 60 195), dC P "LONGEST_ROW" 198 (.int 9 197), dC P "is_name" 204 (.ref 19), dC P "is_whole" 211 (.ref 26), dC P "is_day" 218 (.ref 33), dC P "is_head" 224 (.ref 38), dC P "is_row" 230 (.ref 43), dC P "is_letter" 237 (.ref 50), dC P "TalkError" 257 (.ref 60), dC P "NoText" 282 (.ref 80), dC P "NoPlace" 298 (.ref 92), dC P "NoDeed" 314 (.ref 104), dC P "Ring" 330 (.ref 116), dC P "NoWish" 346 (.ref 128), dC P "NoRow" 362 (.ref 140), dC P "FIGURES" 366 (.str "0123456789" 365), dC P "is_count" 372 (.ref 147), dC P "MOST_FIGURES" 376 (.int 9 375), dC P "number_in" 383 (.ref 154), dC P "checked" 390 (.ref 161), dC P "rows_in" 398 (.ref 168), dC P "needed" 406 (.ref 175), dC P "letter_in" 422 (.ref 182), dC P "read_letter" 429 (.ref 189), dC P "read_pack" 440 (.ref 196), dC P "_law_purse" 452 (.ref 203), dC P "_law_pick" 465 (.ref 210), dC P "_law_name" 471 (.ref 215), dC P "_law_names" 482 (.ref 222), dC P "_law_day" 490 (.ref 229), dC P "_law_sign" 499 (.ref 236), dC P "_law_letter" 505 (.ref 241), dC P "_law_pack" 516 (.ref 248), dC P "_law_written" 523 (.ref 255), dC P "_law_same" 529 (.ref 260), dC P "_law_is_name" 535 (.ref 265), dC P "_law_is_day" 541 (.ref 270), dC P "_law_letter_of" 547 (.ref 275), dC P "_law_pack_of" 558 (.ref 282), dC P "_law_told" 569 (.ref 289), dC P "_law_or_refused" 576 (.ref 296), dC P "_law_agree" 584 (.ref 303), dC P "_law_spoilt" 600 (.ref 310), dC P "_law_edges" 614 (.ref 317), dC P "law" 620 (.ref 322)] 57, #[]⟩) ::
 (nat_lit 18, ⟨(.type "code"), none, .fields #[.str "is_name" 199, .str "is_name" 200, .str "/claim/cut.py" 201, .int 7 0, .int 1 0, .int 0 0, .int 0 0, .int 3 0, .ref 15, .bool true, .int 181 0, .ref 16, .none, .none, .none, .ref 17, .int 202 0, .int 7 0, .str "/claim/cut.py" 203], #[]⟩) ::
 (nat_lit 19, kQ 6 "is_name" "answertrees.letters" 187 18) ::
 (nat_lit 25, ⟨(.type "code"), none, .fields #[.str "is_whole" 205, .str "is_whole" 206, .str "/claim/cut.py" 207, .int 11 0, .int 1 0, .int 0 0, .int 0 0, .int 3 0, .ref 20, .bool true, .int 181 0, .ref 21, .none, .ref 22, .ref 23, .ref 24, .int 209 0, .int 11 0, .str "/claim/cut.py" 210], #[]⟩) ::
 (nat_lit 26, kQ 7 "is_whole" "answertrees.letters" 187 25) ::
 (nat_lit 32, ⟨(.type "code"), none, .fields #[.str "is_day" 212, .str "is_day" 213, .str "/claim/cut.py" 214, .int 13 0, .int 1 0, .int 0 0, .int 0 0, .int 3 0, .ref 27, .bool true, .int 181 0, .ref 28, .none, .ref 29, .ref 30, .ref 31, .int 216 0, .int 13 0, .str "/claim/cut.py" 217], #[]⟩) ::
 (nat_lit 33, kQ 8 "is_day" "answertrees.letters" 187 32) ::
 (nat_lit 37, ⟨(.type "code"), none, .fields #[.str "is_head" 219, .str "is_head" 220, .str "/claim/cut.py" 221, .int 15 0, .int 1 0, .int 0 0, .int 0 0, .int 3 0, .ref 34, .bool true, .int 181 0, .ref 35, .none, .none, .none, .ref 36, .int 222 0, .int 15 0, .str "/claim/cut.py" 223], #[]⟩) ::
 (nat_lit 38, kQ 9 "is_head" "answertrees.letters" 187 37) ::
 (nat_lit 42, ⟨(.type "code"), none, .fields #[.str "is_row" 225, .str "is_row" 226, .str "/claim/cut.py" 227, .int 19 0, .int 1 0, .int 0 0, .int 0 0, .int 3 0, .ref 39, .bool true, .int 181 0, .ref 40, .none, .none, .none, .ref 41, .int 228 0, .int 19 0, .str "/claim/cut.py" 229], #[]⟩) ::
 (nat_lit 43, kQ 10 "is_row" "answertrees.letters" 187 42) ::
 (nat_lit 49, ⟨(.type "code"), none, .fields #[.str "is_letter" 231, .str "is_letter" 232, .str "/claim/cut.py" 233, .int 23 0, .int 1 0, .int 0 0, .int 0 0, .int 3 0, .ref 44, .bool true, .int 181 0, .ref 45, .none, .ref 46, .ref 47, .ref 48, .int 235 0, .int 23 0, .str "/claim/cut.py" 236], #[]⟩) ::
 (nat_lit 50, kQ 11 "is_letter" "answertrees.letters" 187 49) ::
 (nat_lit 58, ⟨(.type "tuple"), none, .seq #[] 0, #[]⟩) ::
 (nat_lit 59, ⟨(.type "dict"), none, .dict #[dC P "__module__" 247 (.str "answertrees.errors" 238), dC P "__firstlineno__" 251 (.int 28 250), dC P "__static_attributes__" 252 (.ref 58), dC P "__weakref__" 254 (.ref 61), dC P "__doc__" 255 .none] 3, #[]⟩) ::
 (nat_lit 60, ⟨(.type "type"), none, .cls ⟨"TalkError", [.type "ValueError"], [.ref 60, .type "ValueError", .type "Exception", .type "BaseException", .type "object"], 59, "TalkError", true, [], [.ref 80, .ref 92, .ref 104, .ref 116, .ref 128, .ref 140], false, none, false⟩, #[some (.ref 51), none, some (.str "TalkError" 240), some (.str "TalkError" 248), some (.builtin "ValueError.__new__"), some (.bool true)]⟩) ::
 (nat_lit 61, ⟨(.type "getset_descriptor"), none, .fields #[.str "__weakref__" 253, .ref 60, .builtin "ExceptionGroup.__weakref__", .none], #[]⟩) ::
 (nat_lit 76, ⟨(.type "code"), none, .fields #[.str "__init__" 270, .str "NoText.__init__" 271, .str "/claim/cut.py" 272, .int 32 0, .int 2 0, .int 0 0, .int 0 0, .int 3 0, .ref 71, .bool true, .int 181 0, .ref 72, .none, .ref 73, .ref 74, .ref 75, .int 275 0, .int 32 0, .str "/claim/cut.py" 276], #[]⟩) ::
 (nat_lit 77, T6 14 "__init__" "NoText.__init__" "answertrees.errors" 238 76) ::
 (nat_lit 78, ⟨(.type "tuple"), none, .seq #[.str "row" 278] 0, #[]⟩) ::
 (nat_lit 79, ⟨(.type "dict"), none, .dict #[dC P "__module__" 265 (.str "answertrees.errors" 238), dC P "__firstlineno__" 269 (.int 30 268), dC P "__init__" 277 (.ref 77), dC P "__static_attributes__" 279 (.ref 78), dC P "__doc__" 280 .none] 2, #[]⟩) ::
 (nat_lit 80, ⟨(.type "type"), none, .cls ⟨"NoText", [.ref 60], [.ref 80, .ref 60, .type "ValueError", .type "Exception", .type "BaseException", .type "object"], 79, "NoText", true, [], [], false, none, false⟩, #[some (.ref 64), none, some (.str "NoText" 258), some (.str "NoText" 266), some (.builtin "ValueError.__new__"), some (.bool true)]⟩) ::
 (nat_lit 90, ⟨(.type "tuple"), none, .seq #[] 0, #[]⟩) ::
 (nat_lit 91, ⟨(.type "dict"), none, .dict #[dC P "__module__" 290 (.str "answertrees.errors" 238), dC P "__firstlineno__" 294 (.int 34 293), dC P "__static_attributes__" 295 (.ref 90), dC P "__doc__" 296 .none] 2, #[]⟩) ::
 (nat_lit 92, ⟨(.type "type"), none, .cls ⟨"NoPlace", [.ref 60], [.ref 92, .ref 60, .type "ValueError", .type "Exception", .type "BaseException", .type "object"], 91, "NoPlace", true, [], [], false, none, false⟩, #[some (.ref 83), none, some (.str "NoPlace" 283), some (.str "NoPlace" 291), some (.builtin "ValueError.__new__"), some (.bool true)]⟩) ::
 (nat_lit 102, ⟨(.type "tuple"), none, .seq #[] 0, #[]⟩) ::
 (nat_lit 103, ⟨(.type "dict"), none, .dict #[dC P "__module__" 306 (.str "answertrees.errors" 238), dC P "__firstlineno__" 310 (.int 36 309), dC P "__static_attributes__" 311 (.ref 102), dC P "__doc__" 312 .none] 2, #[]⟩) ::
 (nat_lit 104, ⟨(.type "type"), none, .cls ⟨"NoDeed", [.ref 60], [.ref 104, .ref 60, .type "ValueError", .type "Exception", .type "BaseException", .type "object"], 103, "NoDeed", true, [], [], false, none, false⟩, #[some (.ref 95), none, some (.str "NoDeed" 299), some (.str "NoDeed" 307), some (.builtin "ValueError.__new__"), some (.bool true)]⟩) ::
 (nat_lit 114, ⟨(.type "tuple"), none, .seq #[] 0, #[]⟩) ::
 (nat_lit 115, ⟨(.type "dict"), none, .dict #[dC P "__module__" 322 (.str "answertrees.errors" 238), dC P "__firstlineno__" 326 (.int 38 325), dC P "__static_attributes__" 327 (.ref 114), dC P "__doc__" 328 .none] 2, #[]⟩) ::
 (nat_lit 116, ⟨(.type "type"), none, .cls ⟨"Ring", [.ref 60], [.ref 116, .ref 60, .type "ValueError", .type "Exception", .type "BaseException", .type "object"], 115, "Ring", true, [], [], false, none, false⟩, #[some (.ref 107), none, some (.str "Ring" 315), some (.str "Ring" 323), some (.builtin "ValueError.__new__"), some (.bool true)]⟩) ::
 (nat_lit 126, ⟨(.type "tuple"), none, .seq #[] 0, #[]⟩) ::
 (nat_lit 127, ⟨(.type "dict"), none, .dict #[dC P "__module__" 338 (.str "answertrees.errors" 238), dC P "__firstlineno__" 342 (.int 40 341), dC P "__static_attributes__" 343 (.ref 126), dC P "__doc__" 344 .none] 2, #[]⟩) ::
 (nat_lit 128, ⟨(.type "type"), none, .cls ⟨"NoWish", [.ref 60], [.ref 128, .ref 60, .type "ValueError", .type "Exception", .type "BaseException", .type "object"], 127, "NoWish", true, [], [], false, none, false⟩, #[some (.ref 119), none, some (.str "NoWish" 331), some (.str "NoWish" 339), some (.builtin "ValueError.__new__"), some (.bool true)]⟩) ::
 (nat_lit 138, ⟨(.type "tuple"), none, .seq #[] 0, #[]⟩) ::
 (nat_lit 139, ⟨(.type "dict"), none, .dict #[dC P "__module__" 354 (.str "answertrees.errors" 238), dC P "__firstlineno__" 358 (.int 42 357), dC P "__static_attributes__" 359 (.ref 138), dC P "__doc__" 360 .none] 2, #[]⟩) ::
 (nat_lit 140, ⟨(.type "type"), none, .cls ⟨"NoRow", [.ref 60], [.ref 140, .ref 60, .type "ValueError", .type "Exception", .type "BaseException", .type "object"], 139, "NoRow", true, [], [], false, none, false⟩, #[some (.ref 131), none, some (.str "NoRow" 347), some (.str "NoRow" 355), some (.builtin "ValueError.__new__"), some (.bool true)]⟩) ::
 (nat_lit 146, ⟨(.type "code"), none, .fields #[.str "is_count" 367, .str "is_count" 368, .str "/claim/cut.py" 369, .int 46 0, .int 1 0, .int 0 0, .int 0 0, .int 3 0, .ref 143, .bool true, .int 181 0, .ref 144, .none, .none, .none, .ref 145, .int 370 0, .int 46 0, .str "/claim/cut.py" 371], #[]⟩) ::
 (nat_lit 147, kQ 22 "is_count" "answertrees.peeling" 363 146) ::
 (nat_lit 153, ⟨(.type "code"), none, .fields #[.str "number_in" 377, .str "number_in" 378, .str "/claim/cut.py" 379, .int 50 0, .int 1 0, .int 0 0, .int 0 0, .int 3 0, .ref 148, .bool true, .int 181 0, .ref 149, .none, .ref 150, .ref 151, .ref 152, .int 381 0, .int 50 0, .str "/claim/cut.py" 382], #[]⟩) ::
 (nat_lit 154, kQ 25 "number_in" "answertrees.texts" 373 153) ::
 (nat_lit 160, ⟨(.type "code"), none, .fields #[.str "checked" 384, .str "checked" 385, .str "/claim/cut.py" 386, .int 56 0, .int 1 0, .int 0 0, .int 0 0, .int 3 0, .ref 155, .bool true, .int 181 0, .ref 156, .none, .ref 157, .ref 158, .ref 159, .int 388 0, .int 56 0, .str "/claim/cut.py" 389], #[]⟩) ::
 (nat_lit 161, kQ 26 "checked" "answertrees.texts" 373 160) ::
 (nat_lit 167, ⟨(.type "code"), none, .fields #[.str "rows_in" 391, .str "rows_in" 392, .str "/claim/cut.py" 393, .int 60 0, .int 1 0, .int 0 0, .int 0 0, .int 3 0, .ref 162, .bool true, .int 181 0, .ref 163, .none, .ref 164, .ref 165, .ref 166, .int 396 0, .int 60 0, .str "/claim/cut.py" 397], #[]⟩) ::
 (nat_lit 168, kQ 27 "rows_in" "answertrees.texts" 373 167) ::
 (nat_lit 174, ⟨(.type "code"), none, .fields #[.str "needed" 399, .str "needed" 400, .str "/claim/cut.py" 401, .int 63 0, .int 2 0, .int 0 0, .int 0 0, .int 3 0, .ref 169, .bool true, .int 181 0, .ref 170, .none, .ref 171, .ref 172, .ref 173, .int 404 0, .int 63 0, .str "/claim/cut.py" 405], #[]⟩) ::
 (nat_lit 175, kQ 28 "needed" "answertrees.texts" 373 174) ::
 (nat_lit 181, ⟨(.type "code"), none, .fields #[.str "letter_in" 409, .str "letter_in" 410, .str "/claim/cut.py" 411, .int 68 0, .int 1 0, .int 0 0, .int 0 0, .int 3 0, .ref 176, .bool true, .int 181 0, .ref 177, .none, .ref 178, .ref 179, .ref 180, .int 420 0, .int 68 0, .str "/claim/cut.py" 421], #[]⟩) ::
 (nat_lit 182, kQ 30 "letter_in" "answertrees.reading" 407 181) ::
 (nat_lit 188, ⟨(.type "code"), none, .fields #[.str "read_letter" 423, .str "read_letter" 424, .str "/claim/cut.py" 425, .int 76 0, .int 1 0, .int 0 0, .int 0 0, .int 3 0, .ref 183, .bool true, .int 181 0, .ref 184, .none, .ref 185, .ref 186, .ref 187, .int 427 0, .int 76 0, .str "/claim/cut.py" 428], #[]⟩) ::
 (nat_lit 189, kQ 31 "read_letter" "answertrees.reading" 407 188) ::
 (nat_lit 195, ⟨(.type "code"), none, .fields #[.str "read_pack" 430, .str "read_pack" 431, .str "/claim/cut.py" 432, .int 78 0, .int 1 0, .int 0 0, .int 0 0, .int 3 0, .ref 190, .bool true, .int 181 0, .ref 191, .none, .ref 192, .ref 193, .ref 194, .int 438 0, .int 78 0, .str "/claim/cut.py" 439], #[]⟩) ::
 (nat_lit 196, kQ 32 "read_pack" "answertrees.reading" 407 195) ::
 (nat_lit 202, ⟨(.type "code"), none, .fields #[.str "_law_purse" 443, .str "_law_purse" 444, .str "/claim/cut.py" 445, .int 87 0, .int 1 0, .int 0 0, .int 0 0, .int 3 0, .ref 197, .bool true, .int 181 0, .ref 198, .none, .ref 199, .ref 200, .ref 201, .int 450 0, .int 87 0, .str "/claim/cut.py" 451], #[]⟩) ::
 (nat_lit 203, kQ 34 "_law_purse" "law_answertrees_k66_letters_and_packs_judged" 441 202) ::
 (nat_lit 209, ⟨(.type "code"), none, .fields #[.str "_law_pick" 453, .str "_law_pick" 454, .str "/claim/cut.py" 455, .int 94 0, .int 2 0, .int 0 0, .int 0 0, .int 3 0, .ref 204, .bool true, .int 181 0, .ref 205, .none, .ref 206, .ref 207, .ref 208, .int 463 0, .int 94 0, .str "/claim/cut.py" 464], #[]⟩) ::
 (nat_lit 210, kQ 35 "_law_pick" "law_answertrees_k66_letters_and_packs_judged" 441 209) ::
 (nat_lit 214, ⟨(.type "code"), none, .fields #[.str "_law_name" 466, .str "_law_name" 467, .str "/claim/cut.py" 468, .int 107 0, .int 1 0, .int 0 0, .int 0 0, .int 3 0, .ref 211, .bool true, .int 181 0, .ref 212, .none, .none, .none, .ref 213, .int 469 0, .int 107 0, .str "/claim/cut.py" 470], #[]⟩) ::
 (nat_lit 215, kQ 36 "_law_name" "law_answertrees_k66_letters_and_packs_judged" 441 214) ::
 (nat_lit 221, ⟨(.type "code"), none, .fields #[.str "_law_names" 472, .str "_law_names" 473, .str "/claim/cut.py" 474, .int 111 0, .int 2 0, .int 0 0, .int 0 0, .int 3 0, .ref 216, .bool true, .int 181 0, .ref 217, .none, .ref 218, .ref 219, .ref 220, .int 480 0, .int 111 0, .str "/claim/cut.py" 481], #[]⟩) ::
 (nat_lit 222, kQ 37 "_law_names" "law_answertrees_k66_letters_and_packs_judged" 441 221) ::
 (nat_lit 228, ⟨(.type "code"), none, .fields #[.str "_law_day" 483, .str "_law_day" 484, .str "/claim/cut.py" 485, .int 118 0, .int 1 0, .int 0 0, .int 0 0, .int 3 0, .ref 223, .bool true, .int 181 0, .ref 224, .none, .ref 225, .ref 226, .ref 227, .int 488 0, .int 118 0, .str "/claim/cut.py" 489], #[]⟩) ::
 (nat_lit 229, kQ 38 "_law_day" "law_answertrees_k66_letters_and_packs_judged" 441 228) ::
 (nat_lit 235, ⟨(.type "code"), none, .fields #[.str "_law_sign" 491, .str "_law_sign" 492, .str "/claim/cut.py" 493, .int 125 0, .int 1 0, .int 0 0, .int 0 0, .int 3 0, .ref 230, .bool true, .int 181 0, .ref 231, .none, .ref 232, .ref 233, .ref 234, .int 497 0, .int 125 0, .str "/claim/cut.py" 498], #[]⟩) ::
 (nat_lit 236, kQ 39 "_law_sign" "law_answertrees_k66_letters_and_packs_judged" 441 235) ::
 (nat_lit 240, ⟨(.type "code"), none, .fields #[.str "_law_letter" 500, .str "_law_letter" 501, .str "/claim/cut.py" 502, .int 129 0, .int 2 0, .int 0 0, .int 0 0, .int 3 0, .ref 237, .bool true, .int 181 0, .ref 238, .none, .none, .none, .ref 239, .int 503 0, .int 129 0, .str "/claim/cut.py" 504], #[]⟩) ::
 (nat_lit 241, kQ 40 "_law_letter" "law_answertrees_k66_letters_and_packs_judged" 441 240) ::
 (nat_lit 247, ⟨(.type "code"), none, .fields #[.str "_law_pack" 506, .str "_law_pack" 507, .str "/claim/cut.py" 508, .int 134 0, .int 2 0, .int 0 0, .int 0 0, .int 3 0, .ref 242, .bool true, .int 181 0, .ref 243, .none, .ref 244, .ref 245, .ref 246, .int 514 0, .int 134 0, .str "/claim/cut.py" 515], #[]⟩) ::
 (nat_lit 248, kQ 41 "_law_pack" "law_answertrees_k66_letters_and_packs_judged" 441 247) ::
 (nat_lit 254, ⟨(.type "code"), none, .fields #[.str "_law_written" 517, .str "_law_written" 518, .str "/claim/cut.py" 519, .int 141 0, .int 1 0, .int 0 0, .int 0 0, .int 3 0, .ref 249, .bool true, .int 181 0, .ref 250, .none, .ref 251, .ref 252, .ref 253, .int 521 0, .int 141 0, .str "/claim/cut.py" 522], #[]⟩) ::
 (nat_lit 255, kQ 42 "_law_written" "law_answertrees_k66_letters_and_packs_judged" 441 254) ::
 (nat_lit 259, ⟨(.type "code"), none, .fields #[.str "_law_same" 524, .str "_law_same" 525, .str "/claim/cut.py" 526, .int 143 0, .int 2 0, .int 0 0, .int 0 0, .int 3 0, .ref 256, .bool true, .int 181 0, .ref 257, .none, .none, .none, .ref 258, .int 527 0, .int 143 0, .str "/claim/cut.py" 528], #[]⟩) ::
 (nat_lit 260, kQ 43 "_law_same" "law_answertrees_k66_letters_and_packs_judged" 441 259) ::
 (nat_lit 264, ⟨(.type "code"), none, .fields #[.str "_law_is_name" 530, .str "_law_is_name" 531, .str "/claim/cut.py" 532, .int 153 0, .int 1 0, .int 0 0, .int 0 0, .int 3 0, .ref 261, .bool true, .int 181 0, .ref 262, .none, .none, .none, .ref 263, .int 533 0, .int 153 0, .str "/claim/cut.py" 534], #[]⟩) ::
 (nat_lit 265, kQ 44 "_law_is_name" "law_answertrees_k66_letters_and_packs_judged" 441 264) ::
 (nat_lit 269, ⟨(.type "code"), none, .fields #[.str "_law_is_day" 536, .str "_law_is_day" 537, .str "/claim/cut.py" 538, .int 157 0, .int 1 0, .int 0 0, .int 0 0, .int 3 0, .ref 266, .bool true, .int 181 0, .ref 267, .none, .none, .none, .ref 268, .int 539 0, .int 157 0, .str "/claim/cut.py" 540], #[]⟩) ::
 (nat_lit 270, kQ 45 "_law_is_day" "law_answertrees_k66_letters_and_packs_judged" 441 269) ::
 (nat_lit 274, ⟨(.type "code"), none, .fields #[.str "_law_letter_of" 542, .str "_law_letter_of" 543, .str "/claim/cut.py" 544, .int 161 0, .int 1 0, .int 0 0, .int 0 0, .int 3 0, .ref 271, .bool true, .int 181 0, .ref 272, .none, .none, .none, .ref 273, .int 545 0, .int 161 0, .str "/claim/cut.py" 546], #[]⟩) ::
 (nat_lit 275, kQ 46 "_law_letter_of" "law_answertrees_k66_letters_and_packs_judged" 441 274) ::
 (nat_lit 281, ⟨(.type "code"), none, .fields #[.str "_law_pack_of" 548, .str "_law_pack_of" 549, .str "/claim/cut.py" 550, .int 173 0, .int 1 0, .int 0 0, .int 0 0, .int 3 0, .ref 276, .bool true, .int 181 0, .ref 277, .none, .ref 278, .ref 279, .ref 280, .int 556 0, .int 173 0, .str "/claim/cut.py" 557], #[]⟩) ::
 (nat_lit 282, kQ 47 "_law_pack_of" "law_answertrees_k66_letters_and_packs_judged" 441 281) ::
 (nat_lit 288, ⟨(.type "code"), none, .fields #[.str "_law_told" 559, .str "_law_told" 560, .str "/claim/cut.py" 561, .int 183 0, .int 2 0, .int 0 0, .int 0 0, .int 3 0, .ref 283, .bool true, .int 181 0, .ref 284, .none, .ref 285, .ref 286, .ref 287, .int 567 0, .int 183 0, .str "/claim/cut.py" 568], #[]⟩) ::
 (nat_lit 289, kQ 48 "_law_told" "law_answertrees_k66_letters_and_packs_judged" 441 288) ::
 (nat_lit 295, ⟨(.type "code"), none, .fields #[.str "_law_or_refused" 570, .str "_law_or_refused" 571, .str "/claim/cut.py" 572, .int 192 0, .int 1 0, .int 0 0, .int 0 0, .int 3 0, .ref 290, .bool true, .int 181 0, .ref 291, .none, .ref 292, .ref 293, .ref 294, .int 574 0, .int 192 0, .str "/claim/cut.py" 575], #[]⟩) ::
 (nat_lit 296, kQ 49 "_law_or_refused" "law_answertrees_k66_letters_and_packs_judged" 441 295) ::
 (nat_lit 302, ⟨(.type "code"), none, .fields #[.str "_law_agree" 577, .str "_law_agree" 578, .str "/claim/cut.py" 579, .int 194 0, .int 2 0, .int 0 0, .int 0 0, .int 3 0, .ref 297, .bool true, .int 181 0, .ref 298, .none, .ref 299, .ref 300, .ref 301, .int 582 0, .int 194 0, .str "/claim/cut.py" 583], #[]⟩) ::
 (nat_lit 303, kQ 50 "_law_agree" "law_answertrees_k66_letters_and_packs_judged" 441 302) ::
 (nat_lit 309, ⟨(.type "code"), none, .fields #[.str "_law_spoilt" 585, .str "_law_spoilt" 586, .str "/claim/cut.py" 587, .int 198 0, .int 2 0, .int 0 0, .int 0 0, .int 3 0, .ref 304, .bool true, .int 181 0, .ref 305, .none, .ref 306, .ref 307, .ref 308, .int 598 0, .int 198 0, .str "/claim/cut.py" 599], #[]⟩) ::
 (nat_lit 310, kQ 51 "_law_spoilt" "law_answertrees_k66_letters_and_packs_judged" 441 309) ::
 (nat_lit 316, ⟨(.type "code"), none, .fields #[.str "_law_edges" 601, .str "_law_edges" 602, .str "/claim/cut.py" 603, .int 217 0, .int 2 0, .int 0 0, .int 0 0, .int 3 0, .ref 311, .bool true, .int 181 0, .ref 312, .none, .ref 313, .ref 314, .ref 315, .int 612 0, .int 217 0, .str "/claim/cut.py" 613], #[]⟩) ::
 (nat_lit 317, kQ 52 "_law_edges" "law_answertrees_k66_letters_and_packs_judged" 441 316) ::
 (nat_lit 321, ⟨(.type "code"), none, .fields #[.str "law" 615, .str "law" 616, .str "/claim/cut.py" 617, .int 236 0, .int 1 0, .int 0 0, .int 0 0, .int 3 0, .ref 318, .bool true, .int 181 0, .ref 319, .none, .none, .none, .ref 320, .int 618 0, .int 236 0, .str "/claim/cut.py" 619], #[]⟩) ::
 (nat_lit 322, kQ 53 "law" "law_answertrees_k66_letters_and_packs_judged" 441 321) :: []
noncomputable abbrev TQ : List Addr := [3, 18, 19, 25, 26, 32, 33, 37, 38, 42, 43, 49, 50, 58, 59, 60, 61, 76, 77, 78, 79, 80, 90, 91, 92, 102, 103, 104, 114, 115, 116, 126, 127, 128, 138, 139, 140, 146, 147, 153, 154, 160, 161, 167, 168, 174, 175, 181, 182, 188, 189, 195, 196, 202, 203, 209, 210, 214, 215, 221, 222, 228, 229, 235, 236, 240, 241, 247, 248, 254, 255, 259, 260, 264, 265, 269, 270, 274, 275, 281, 282, 288, 289, 295, 296, 302, 303, 309, 310, 316, 317, 321, 322]
noncomputable def RX : Program := PySem.W.view SW [1, 2, 3, 4, 5, 6, 7, 8, 9, 10, 11, 13, 14, 15, 16, 17, 18, 19, 21, 22, 24, 25, 26, 27, 28, 30, 31, 32, 34, 35, 36, 37, 38, 39, 40, 41, 42, 43, 44, 45, 46, 47, 48, 49, 50, 51, 52, 53]
noncomputable abbrev TH : Nat := 5374
theorem T2 : PySem.W.LeftO SW RX [] (fun s => PySem.W.xlAt RX [] s && PySem.W.recOk [] s) (fun s => TQ.map s.heap.get?) (fun w => (S7 w.params).map fun p => some p.2) TH := by
 intro w
 rw [PySem.W.Fast.te4187177175401517315, PySem.W.Fast.te5923862056798008813, PySem.W.Fast.te14364793385576792824]
 kernel_rfl
theorem TY : PySem.Challenge.rw_answertrees_k66_letters_and_packs_judged.wellSaid = true := by
 rw [PySem.W.Fast.te9446332074065402090]
 kernel_rfl
end My
namespace L2
open PySem PySem.Spec PyProof.Rows
noncomputable abbrev Key := Sum Int Str
noncomputable def qP : Key → Value → Bool
 | .inl k, v => Value.isInt k v
 | .inr x, v => Value.isStrOf x v
noncomputable def RP (w : World) : Key → Int
 | .inl k => hashInt k
 | .inr x => hashStr w x
theorem cU : ∀ {k : Key} {v : Value}, qP k v = true → (∃ i t, k = Sum.inl i ∧ v = Value.int i t) ∨ (∃ x t, k = Sum.inr x ∧ v = Value.str x t)
 | .inl i, v, h => by
  obtain ⟨t, e⟩ := Value.isInt_shape (k := i) (v := v) h
  exact .inl ⟨i, t, rfl, e⟩
 | .inr x, v, h => by
  obtain ⟨t, e⟩ := Value.isStrOf_shape (x := x) (v := v) h
  exact .inr ⟨x, t, rfl, e⟩
theorem DB (i : Int) (t : Tok) : qP (.inl i) (.int i t) = true := by simp [qP, Value.isInt]
theorem DG (x : Str) (t : Tok) : qP (.inr x) (.str x t) = true := by simp [qP, Value.isStrOf]
theorem OP (a b : Int) : decide ((Sum.inl a : Key) = Sum.inl b) = (a == b) := by
 by_cases e : a = b
 ·subst e; simp
 ·have h : ¬ (Sum.inl a : Key) = Sum.inl b := fun q => e (Sum.inl.inj q)
  rw [decide_eq_false h]
  exact (beq_eq_false_iff_ne.mpr e).symm
theorem N3 (a b : Str) : decide ((Sum.inr a : Key) = Sum.inr b) = decide (a = b) := by
 by_cases e : a = b
 ·subst e; simp
 ·have h : ¬ (Sum.inr a : Key) = Sum.inr b := fun q => e (Sum.inr.inj q)
  rw [decide_eq_false h, decide_eq_false e]
theorem NA (a : Int) (b : Str) : decide ((Sum.inl a : Key) = Sum.inr b) = false := decide_eq_false (fun q => nomatch q)
theorem M6 (a : Str) (b : Int) : decide ((Sum.inr a : Key) = Sum.inl b) = false := decide_eq_false (fun q => nomatch q)
noncomputable def kH (prog : Program) (w : World) : PySem.KeyKind prog w Key where
 is := qP
 hash := RP w
 inj := fun v a b ha hb => by
  rcases cU ha with ⟨i, t, rfl, rfl⟩ | ⟨x, t, rfl, rfl⟩
  ·rcases cU hb with ⟨j, u, rfl, e⟩ | ⟨y, u, rfl, e⟩
   ·injection e with e1 _; rw [e1]
   ·exact nomatch e
  ·rcases cU hb with ⟨j, u, rfl, e⟩ | ⟨y, u, rfl, e⟩
   ·exact nomatch e
   ·injection e with e1 _; rw [e1]
 byValue := fun k v h => by
  rcases cU h with ⟨i, t, rfl, rfl⟩ | ⟨x, t, rfl, rfl⟩ <;> rfl
 pyHash := fun hv h => by
  rcases cU hv with ⟨i, t, rfl, rfl⟩ | ⟨x, t, rfl, rfl⟩
  ·exact wpAny_pyHash_int h
  ·exact wpAny_pyHash_str h
 eqBool := fun hu hv h => by
  rcases cU hu with ⟨i, t, rfl, rfl⟩ | ⟨x, t, rfl, rfl⟩
  ·rcases cU hv with ⟨j, u, rfl, rfl⟩ | ⟨y, u, rfl, rfl⟩
   ·rw [OP] at h; exact wpAny_eqBool_int h
   ·rw [NA] at h; exact SeqAt.EqAt.int_str i t y u _ _ _ _ h
  ·rcases cU hv with ⟨j, u, rfl, rfl⟩ | ⟨y, u, rfl, rfl⟩
   ·rw [M6] at h; exact SeqAt.EqAt.str_int x t j u _ _ _ _ h
   ·rw [N3] at h; exact wpAny_eqBool_str h
 «strs» := fun k x t v h => by
  rcases cU h with ⟨i, u, rfl, e⟩ | ⟨y, u, rfl, e⟩
  ·exact nomatch e
  ·injection e with e1 _
   subst e1
   cases v <;> rfl
theorem wZ (prog : Program) (w : World) (i : Int) (t : Tok) : (kH prog w).is (.inl i) (.int i t) = true := DB i t
theorem yK (prog : Program) (w : World) (x : Str) (t : Tok) : (kH prog w).is (.inr x) (.str x t) = true := DG x t
end L2
namespace L2
open PySem PySem.Spec PyProof.Rows
inductive V where
 | aZ | bl (b : Bool) | int (i : Int) | str (x : Str) | CJ (b : Array UInt8) | NC (b : UInt64) | ref (a : Addr) | ty (n : String)
 deriving DecidableEq
noncomputable def RelV : V → Value → Prop
 | .aZ, u => u = Value.none
 | .bl b, u => u = Value.bool b
 | .int i, u => ∃ t, u = Value.int i t
 | .str x, u => ∃ t, u = Value.str x t
 | .CJ b, u => ∃ t, u = Value.bytes b t
 | .NC b, u => ∃ t, u = Value.float b t
 | .ref a, u => u = Value.ref a
 | .ty n, u => u = Value.type n
noncomputable abbrev Vals : List V → List Value → Prop := Paired RelV
theorem Vals.length {xs : List V} {us : List Value} (r : Vals xs us) : xs.length = us.length := Paired.length r
theorem Vals.get : ∀ {xs : List V} {us : List Value} {i : Nat} {x : V}, Vals xs us → xs[i]? = some x → ∃ u, us[i]? = some u ∧ RelV x u
 | _, _, _, _, .nil, e => by simp at e
 | _, _, 0, _, .cons r _, e => by simp at e; subst e; exact ⟨_, rfl, r⟩
 | _, _, i + 1, x, .cons _ t, e => by
  obtain ⟨u, h1, h2⟩ := Vals.get (i := i) (x := x) t (by simpa using e)
  exact ⟨u, by simpa using h1, h2⟩
theorem Vals.set {x : V} {u : Value} (r : RelV x u) : ∀ {xs : List V} {us : List Value} (i : Nat), Vals xs us → Vals (xs.set i x) (us.set i u)
 | _, _, _, .nil => .nil
 | _, _, 0, .cons _ t => .cons r t
 | _, _, i + 1, .cons q t => .cons q (Vals.set r i t)
theorem Vals.append : ∀ {xs ys : List V} {us ws : List Value}, Vals xs us → Vals ys ws → Vals (xs ++ ys) (us ++ ws)
 | _, _, _, _, .nil, s => s
 | _, _, _, _, .cons r t, s => .cons r (Vals.append t s)
theorem Vals.take : ∀ {xs : List V} {us : List Value} (n : Nat), Vals xs us → Vals (xs.take n) (us.take n)
 | _, _, 0, _ => .nil
 | _, _, _ + 1, .nil => .nil
 | _, _, n + 1, .cons r t => .cons r (Vals.take n t)
theorem Vals.drop : ∀ {xs : List V} {us : List Value} (n : Nat), Vals xs us → Vals (xs.drop n) (us.drop n)
 | _, _, 0, r => r
 | _, _, _ + 1, .nil => .nil
 | _, _, n + 1, .cons _ t => Vals.drop n t
theorem Vals.none_of : ∀ {xs : List V} {us : List Value} {i : Nat}, Vals xs us → xs[i]? = none → us[i]? = none := fun {xs us i} r e => by
 have h1 := r.length
 have h2 : xs.length ≤ i := List.getElem?_eq_none_iff.mp e
 exact List.getElem?_eq_none_iff.mpr (by omega)
noncomputable def zP : Option V → Option Value → Prop
 | some v, some u => RelV v u
 | none, none => True
 | _, _ => False
noncomputable def KV {κ : Type} : List (κ × V) → List (κ × Value) → Prop := Paired fun (p : κ × V) (q : κ × Value) => p.1 = q.1 ∧ RelV p.2 q.2
noncomputable def kV : Key → V
 | .inl i => .int i
 | .inr x => .str x
inductive HO where
 | lst (xs : List V)
 | tup (xs : List V)
 | dK (kvs : List (Key × V)) (ep : Nat) | dT (kvs : List (List Key × V))
 | set (S : Int → Bool) (n : Nat)
 | ins (C dx : Addr) (fs : List (Str × V))
 | own (x : Addr)
 | xd (fs : List (Str × V))
 | met (f x : Addr)
 | RR (lo hi : Int)
 | AK (o : Obj) (u : HO)
 | ML (ps : Array Value)
 | ext (φ : Heap → Prop)
noncomputable abbrev Hp := Addr → Option HO
noncomputable def upd (H : Hp) (a : Addr) (o : HO) : Hp := fun b => if b = a then some o else H b
theorem aB {H : Hp} {a : Addr} {o : HO} : upd H a o a = some o := by unfold upd; rw [if_pos rfl]
theorem aL {H : Hp} {a b : Addr} {o : HO} (h : b ≠ a) : upd H a o b = H b := by unfold upd; rw [if_neg h]
theorem fY {H : Hp} {a : Addr} {o u : HO} : upd (upd H a o) a u = upd H a u := by
 funext b; unfold upd; split <;> rfl
theorem QZ {H : Hp} {a b : Addr} {o u : HO} (h : H a = some o) (h' : H b = some u) (d : o ≠ u) : a ≠ b := by
 intro e; subst e; rw [h] at h'; exact d (Option.some.inj h')
theorem aF {H : Hp} {a b : Addr} {o : HO} (h : H a = some o) (h' : H b = none) : a ≠ b := by
 intro e; subst e; rw [h] at h'; cases h'
noncomputable def mV (h : Heap) (a : Addr) (items : Array Value) : Prop := IsTup h a items ∧ ∀ o, h.get? a = some o → o.dict = none
theorem mV.new (h : Heap) (items : Array Value) : mV (h.push { cls := .type "tuple", data := .seq items }) h.objs.size items := ⟨IsTup.new _ _, fun o e => by rw [Heap.get?_push_size _ rfl] at e; cases e; rfl⟩
theorem mV.of {h : Heap} {a : Addr} {items : Array Value} {n : Nat} {sl : Array (Option Value)} (e : h.get? a = some { cls := .type "tuple", dict := none, data := .seq items n, slots := sl }) : mV h a items := ⟨⟨_, e, rfl, _, rfl⟩, fun o q => by rw [e] at q; cases q; rfl⟩
section
variable (P : Program) (w : World)
noncomputable def dJ (H : Hp) (h : Heap) (a : Addr) : HO → Prop
 | .lst xs => xs.length ≤ sizeLine ∧ ∃ (its : List Value) (n : Nat), Vals xs its ∧ h.get? a = some { cls := .type "list", data := .seq its.toArray n }
 | .tup xs => xs.length ≤ sizeLine ∧ ∃ its : List Value, Vals xs its ∧ mV h a its.toArray
 | .dK kvs ep => kvs.length ≤ sizeLine ∧ (a == sysModules) = false ∧ ∃ vs, KV kvs vs ∧ h.DictAt (kH P w) a vs ep
 | .dT kvs => kvs.length ≤ sizeLine ∧ (a == sysModules) = false ∧ ∃ xs : List (List Key × Addr × Value),
   Paired (fun (p : List Key × V) (q : List Key × Addr × Value) => p.1 = q.1 ∧ H q.2.1 = some (.tup (p.1.map kV)) ∧ RelV p.2 q.2.2) kvs xs ∧
   ∃ o es ep, h.get? a = some o ∧ o.ExactDict ∧ o.data = .dict es ep ∧ es.toList = xs.map (entryOfKey (tupleKind (kH P w))) ∧ (xs.map (·.1)).Nodup
 | .set S n => h.SetOf (intKind P w) a S n
 | .ins C dx fs => H dx = some (.own a) ∧ fs.length ≤ 1000 ∧ dx ≠ a ∧ h.get? a = some (PySem.W.instObj C dx) ∧
   ∃ mA, h.Ns1 dx mA ∧ (∀ f, zP (fs.lookup f) (mA f)) ∧ PySem.Within mA (fs.map (·.1))
 | .own _ => ∃ o, h.get? a = some o
 | .xd fs => ∃ mA, h.Ns1 a mA ∧ ∀ f, zP (fs.lookup f) (mA f)
 | .RR lo hi => ∃ t u v, h.get? a = some { cls := .type "range", data := .fields #[.int lo t, .int hi u, .int 1 v] }
 | .AK o u => h.get? a = some o ∧ dJ H h a u
 | .ML ps => h.get? a = some { cls := .none, data := .fields ps }
 | .met f x => h.get? a = some (PySem.W.methodObj (.ref f) (.ref x))
 | .ext φ => φ h ∧ (∃ o, h.get? a = some o) ∧ ∀ h1 h2 : Heap, φ h1 → (∀ o, h1.get? a = some o → h2.get? a = some o) → φ h2
noncomputable def jL (H : Hp) (h : Heap) : Prop := ∀ a o, H a = some o → dJ P w H h a o
end
section
variable {P : Program} {w : World} {H H' : Hp} {h h' : Heap} {a : Addr} {o : HO}
theorem dJ.lt (x : dJ P w H h a o) : a < h.objs.size := by
 cases o with
 | lst xs => obtain ⟨_, _, _, _, e⟩ := x; exact Heap.lt_size e
 | tup xs => obtain ⟨_, _, _, p⟩ := x; exact p.1.lt
 | dK kvs ep => obtain ⟨_, _, _, _, o, _, e, _⟩ := x; exact Heap.lt_size e
 | dT kvs => obtain ⟨_, _, _, _, o, _, _, e, _⟩ := x; exact Heap.lt_size e
 | set S n => obtain ⟨o, _, _, _, e, _⟩ := x; exact Heap.lt_size e
 | ins C dx fs => obtain ⟨_, _, _, e, _⟩ := x; exact Heap.lt_size e
 | own y => obtain ⟨_, e⟩ := x; exact Heap.lt_size e
 | xd fs => obtain ⟨_, ⟨_, _, _, e, _⟩, _⟩ := x; exact Heap.lt_size e
 | RR lo hi => obtain ⟨_, _, _, e⟩ := x; exact Heap.lt_size e
 | AK ob u => obtain ⟨e, _⟩ := x; exact Heap.lt_size e
 | ML ps => exact Heap.lt_size (show h.get? a = some _ from x)
 | met f y => exact Heap.lt_size (show h.get? a = some _ from x)
 | ext φ => obtain ⟨_, ⟨_, e⟩, _⟩ := x; exact Heap.lt_size e
theorem Paired.RO {α β : Type} {F G : α → β → Prop} : ∀ {l₁ : List α} {l₂ : List β}, Paired F l₁ l₂ → (∀ a b, F a b → G a b) → Paired G l₁ l₂
 | _, _, .nil, _ => .nil
 | _, _, .cons r t, f => .cons (f _ _ r) (Paired.RO t f)
theorem dJ.i7 (x : dJ P w H h a o) (k : ∀ b u, (b = a ∨ H b = some (.own a)) → h.get? b = some u → h'.get? b = some u)
  (ho : ∀ b, H b = some (.own a) → H' b = some (.own a)) (ht : ∀ b xs, H b = some (.tup xs) → H' b = some (.tup xs)) : dJ P w H' h' a o := by
 induction o with
 | lst xs => obtain ⟨z, its, n, r, e⟩ := x; exact ⟨z, its, n, r, k _ _ (.inl rfl) e⟩
 | tup xs => obtain ⟨z, its, r, ⟨ob, e, c⟩, nd⟩ := x; exact ⟨z, its, r, ⟨ob, k _ _ (.inl rfl) e, c⟩, fun o' e' => by rw [k _ _ (.inl rfl) e] at e'; cases e'; exact nd _ e⟩
 | dK kvs ep => obtain ⟨z, y, vs, r, ob, es, e, c⟩ := x; exact ⟨z, y, vs, r, ob, es, k _ _ (.inl rfl) e, c⟩
 | dT kvs =>
  obtain ⟨z, y, xs, r, ob, es, ep, e, c⟩ := x
  exact ⟨z, y, xs, Paired.RO r fun p q z => ⟨z.1, ht _ _ z.2.1, z.2.2⟩, ob, es, ep, k _ _ (.inl rfl) e, c⟩
 | set S n => obtain ⟨ob, es, ep, t, e, c⟩ := x; exact ⟨ob, es, ep, t, k _ _ (.inl rfl) e, c⟩
 | ins C dx fs =>
  obtain ⟨d, z, ne, e, mA, ⟨od, es, ep, e2, c⟩, r⟩ := x
  exact ⟨ho _ d, z, ne, k _ _ (.inl rfl) e, mA, ⟨od, es, ep, k _ _ (.inr d) e2, c⟩, r⟩
 | own y => obtain ⟨ob, e⟩ := x; exact ⟨ob, k _ _ (.inl rfl) e⟩
 | xd fs => obtain ⟨mA, ⟨od, es, ep, e, c⟩, r⟩ := x; exact ⟨mA, ⟨od, es, ep, k _ _ (.inl rfl) e, c⟩, r⟩
 | RR lo hi => obtain ⟨t, u, v, e⟩ := x; exact ⟨t, u, v, k _ _ (.inl rfl) e⟩
 | AK ob u ih => obtain ⟨e, q⟩ := x; exact ⟨k _ _ (.inl rfl) e, ih q⟩
 | ML ps =>
  have e : h.get? a = some { cls := .none, data := .fields ps } := x
  show h'.get? a = some { cls := .none, data := .fields ps }
  exact k a _ (.inl rfl) e
 | met f y =>
  have e : h.get? a = some (PySem.W.methodObj (.ref f) (.ref y)) := x
  show h'.get? a = some (PySem.W.methodObj (.ref f) (.ref y))
  exact k a _ (.inl rfl) e
 | ext φ => obtain ⟨p, ⟨o, e⟩, st⟩ := x; exact ⟨st _ _ p fun o q => k _ _ (.inl rfl) q, ⟨o, k _ _ (.inl rfl) e⟩, st⟩
theorem jL.lt (x : jL P w H h) (e : H a = some o) : a < h.objs.size := (x a o e).lt
theorem jL.fresh (x : jL P w H h) (e : h.objs.size ≤ a) : H a = none := by
 cases q : H a with
 | none => rfl
 | some u => exact absurd (Nat.lt_of_lt_of_le (x.lt q) e) (Nat.lt_irrefl _)
theorem jL.kept (x : jL P w H h) (k : ∀ b u, h.get? b = some u → h'.get? b = some u) : jL P w H h' := fun a o e =>
 (x a o e).i7 (fun b u _ q => k b u q) (fun _ q => q) fun _ _ q => q
theorem jL.laid (x : jL P w H h) (k : ∀ b u, h.get? b = some u → h'.get? b = some u) (hp : h.objs.size ≤ a) (new : dJ P w (upd H a o) h' a o) : jL P w (upd H a o) h' := fun b u e => by
 have hn := x.fresh hp
 by_cases hb : b = a
 ·subst hb; rw [aB] at e; cases e; exact new
 ·rw [aL hb] at e
  exact (x b u e).i7 (fun c v _ q => k c v q) (fun c q => by rw [aL (aF q hn)]; exact q) fun c xs q => by rw [aL (aF q hn)]; exact q
end
noncomputable def Rd (H : Hp) (a : Addr) (u : HO) : Prop := H a = some u ∨ ∃ o, H a = some (.AK o u)
theorem Rd.ok {P : Program} {w : World} {H : Hp} {h : Heap} {a : Addr} {u : HO} (r : Rd H a u) (x : jL P w H h) : dJ P w H h a u := by
 rcases r with r | ⟨o, r⟩
 ·exact x a u r
 ·obtain ⟨_, q⟩ := x a _ r
  exact q
noncomputable def RT : Option HO → Prop
 | some (.lst _) => True
 | some (.dK _ _) => True
 | some (.dT _) => True
 | some (.set _ _) => True
 | some (.ins _ _ _) => True
 | some (.ext _) => True
 | _ => False
section
variable {P : Program} {w : World} {H : Hp} {h h' : Heap} {x e : Addr} {o' : HO}
theorem jL.write (ok : jL P w H h) (mu : RT (H x)) (he : e = x ∨ H e = some (.own x)) (k : ∀ b u, b ≠ e → h.get? b = some u → h'.get? b = some u) (heo : ∃ u, h'.get? e = some u)
  (new : dJ P w (upd H x o') h' x o') : jL P w (upd H x o') h' := fun b u q => by
 have nown : ∀ c y, H c = some (.own y) → c ≠ x := fun c y r z => by subst z; rw [r] at mu; exact mu
 have ntup : ∀ c xs, H c = some (.tup xs) → c ≠ x := fun c xs r z => by subst z; rw [r] at mu; exact mu
 by_cases hb : b = x
 ·subst hb; rw [aB] at q; cases q; exact new
 ·rw [aL hb] at q
  by_cases hbe : b = e
  ·have q' : H b = some (.own x) := by
    rcases he with z | z
    ·exact absurd (hbe.trans z) hb
    ·rw [hbe]; exact z
   rw [q] at q'; cases q'
   obtain ⟨v, hv⟩ := heo
   exact ⟨v, by rw [hbe]; exact hv⟩
  ·refine (ok b u q).i7 (fun c v hc r => k c v ?_ r) (fun c r => by rw [aL (nown c b r)]; exact r) fun c xs r => by rw [aL (ntup c xs r)]; exact r
   rcases hc with rfl | hc
   ·exact hbe
   ·rintro rfl
    rcases he with z | z
    ·exact nown c b hc z
    ·rw [hc] at z; cases z; exact hb rfl
end
structure Un (fs ex : List Addr) (H H' : Hp) (h h' : Heap) : Prop where
 keep : ∀ b o, h.get? b = some o → H b = none → b ∉ fs → b ∉ ex → h'.get? b = some o
 slot : ∀ b o, h.get? b = some o → H b = none → b ∈ fs → b ∉ ex → ∃ sl, h'.get? b = some { o with slots := sl }
 free : ∀ b o, h.get? b = some o → H b = none → b ∉ ex → H' b = none
 there : ∀ b o, h.get? b = some o → b ∉ ex → ∃ o', h'.get? b = some o'
 qA : ∀ b xs, H b = some (.tup xs) → H' b = some (.tup xs)
 oQ : ∀ b o u, H b = some (.AK o u) → H' b = some (.AK o u)
 pY : ∀ b ps, H b = some (.ML ps) → ∃ more, H' b = some (.ML (ps ++ more))
section
variable {fs fs' ex ex' : List Addr} {H H1 H2 : Hp} {h h1 h2 h' : Heap} {a x e : Addr} {o : HO}
theorem Un.any (u : Un fs ex H H1 h h1) {b : Addr} {ob : Obj} (q : h.get? b = some ob) (n : H b = none) (hx : b ∉ ex) : ∃ sl, h1.get? b = some { ob with slots := sl } := by
 by_cases hb : b ∈ fs
 ·exact u.slot b ob q n hb hx
 ·exact ⟨ob.slots, u.keep b ob q n hb hx⟩
theorem Un.kept (k : ∀ b u, h.get? b = some u → h'.get? b = some u) : Un fs ex H H h h' :=
 ⟨fun b ob q _ _ _ => k b ob q, fun b ob q _ _ _ => ⟨ob.slots, k b ob q⟩, fun _ _ _ n _ => n, fun b ob q _ => ⟨ob, k b ob q⟩, fun _ _ q => q, fun _ _ _ q => q, fun _ ps q => ⟨#[], by rw [q]; simp⟩⟩
theorem Un.refl : Un fs ex H H h h := Un.kept fun _ _ q => q
theorem Un.laid (k : ∀ b u, h.get? b = some u → h'.get? b = some u) (hp : h.objs.size ≤ a) (hn : H a = none) : Un fs ex H (upd H a o) h h' where
 keep := fun b u q _ _ _ => k b u q
 slot := fun b u q _ _ _ => ⟨u.slots, k b u q⟩
 free := fun b u q n _ => by rw [aL (Nat.ne_of_lt (Nat.lt_of_lt_of_le (Heap.lt_size q) hp))]; exact n
 there := fun b u q _ => ⟨u, k b u q⟩
 qA := fun b xs q => by rw [aL (aF q hn)]; exact q
 oQ := fun b u xs q => by rw [aL (aF q hn)]; exact q
 pY := fun b ps q => ⟨#[], by rw [aL (aF q hn), q]; simp⟩
theorem Un.write (mu : RT (H x)) (he : e = x ∨ H e = some (.own x)) (k : ∀ b u, b ≠ e → h.get? b = some u → h'.get? b = some u) (heo : ∃ u, h'.get? e = some u) : Un fs ex H (upd H x o) h h' := by
 have hx : ∀ b, H b = none → b ≠ x := fun b n z => by subst z; rw [n] at mu; exact mu
 have hb : ∀ b, H b = none → b ≠ e := fun b n z => by
  subst z
  rcases he with r | r
  ·exact hx b n r
  ·rw [n] at r; cases r
 have hm : ∀ b u, H b = some u → ¬ RT (some u) → b ≠ x := fun b u q nm z => by subst z; rw [q] at mu; exact nm mu
 refine ⟨fun b u q n _ _ => k b u (hb b n) q, fun b u q n _ _ => ⟨u.slots, k b u (hb b n) q⟩, fun b u q n _ => by rw [aL (hx b n)]; exact n, fun b u q _ => ?_,
  fun b xs q => by rw [aL (hm b _ q fun z => z)]; exact q, fun b u xs q => by rw [aL (hm b _ q fun z => z)]; exact q, fun b ps q => ⟨#[], by rw [aL (hm b _ q fun z => z), q]; simp⟩⟩
 by_cases hbe : b = e
 ·subst hbe; exact heo
 ·exact ⟨u, k b u hbe q⟩
end
noncomputable def RU (h : Heap) (H : Hp) : List Addr := (List.range h.objs.size).filter fun a => (H a).isSome
noncomputable def vF (h : Heap) (H : Hp) : Heap := PySem.W.hideAll h (RU h H)
theorem CZ (h : Heap) (H : Hp) : (vF h H).objs.size = h.objs.size := PySem.W.hideAll_size _ _
theorem FK {h : Heap} {H : Hp} {b : Addr} {o : Obj} (e : h.get? b = some o) (n : H b = none) : (vF h H).get? b = some o :=
 PySem.W.hideAll_get _ e fun hm => by
  have q : (H b).isSome = true := (List.mem_filter.mp hm).2
  rw [n] at q; simp at q
theorem KQ {h : Heap} {H : Hp} {b : Addr} {o : Obj} (e : (vF h H).get? b = some o) : h.get? b = some o ∧ H b = none := by
 have e' : h.get? b = some o := PySem.W.of_hideAll (RU h H) e
 refine ⟨e', ?_⟩
 cases q : H b with
 | none => rfl
 | some x =>
  have hm : b ∈ RU h H := List.mem_filter.mpr ⟨List.mem_range.mpr (Heap.lt_size e'), by simp [q]⟩
  have z : (vF h H).get? b = none := PySem.W.hideAll_none (RU h H) hm
  rw [z] at e; cases e
noncomputable def K6 (g h : Heap) (L : Addr) : List (Addr × Obj) := (List.range h.objs.size).filterMap fun a => if a = L ∨ (g.get? a).isSome = true then none else (h.get? a).map fun o => (a, o)
noncomputable def rest (g h : Heap) (L d : Addr) : List (Addr × Obj) := (K6 g h L).filter fun p => decide (p.1 ≠ d)
end L2
namespace L2
open PySem PySem.Spec PyProof.Rows
structure Mod (K : PySem.W.Frag) (mg : Str → Option Value) (base : Heap) : Prop where
 RG : K.In base
 glob : base.Ns mainGlobals mg
 blt : ∃ mb, base.Ns builtinsNs mb ∧ ∀ x : Str, x ≠ "__name__" → mb x = bootBuiltins x
 nolimit : base.NoLimit
structure Cx where
 prog : Program
 w : World
 K : PySem.W.Frag
 mg : Str → Option Value
 base : Heap
 A : Around
 N : List Str
 fN : Shared
 HR : Hp
 env : Env
 outer : List Env
 stack : List Env
 ex : List Addr
 fn : Str → Bool
 calm : Bool
 pn : List (Addr × Obj)
 xe : Value → Shared → Prop
noncomputable def sD (l : List Env) : List Addr := l.filterMap (·.frame)
noncomputable abbrev Cx.fs (X : Cx) : List Addr := sD X.outer
noncomputable def Q8 (sc : Scope) (x : Str) : Prop := sc.names.lookup x = some .local ∨ sc.names.lookup x = some .cell ∨ sc.names.lookup x = some .free
noncomputable def Loc (sc : Scope) (x : Str) : Prop := sc.names.lookup x = some .local ∨ sc.names.lookup x = some .cell
noncomputable def Look (env : Env) (h : Heap) (m : Str → Option Value) (x : Str) (u : Value) : Prop :=
 (env.kindOf x = some .local ∧ m x = some u) ∨ ((env.kindOf x = some .cell ∨ env.kindOf x = some .free) ∧ ∃ c, env.cells.lookup x = some c ∧ h.IsCell c (some u))
structure Cx.Ok (X : Cx) : Prop where
 mod : Mod X.K X.mg X.base
 kind : X.env.scope.kind = .function
 glob : X.env.globals = mainGlobals
 blt : X.env.builtins = builtinsNs
 above : X.fN.heap.objs.size ≤ X.env.locals
 inj : ∀ x y c, X.env.cells.lookup x = some c → X.env.cells.lookup y = some c → x = y
 has : ∀ x, (X.env.kindOf x = some .cell ∨ X.env.kindOf x = some .free) → ∃ c, X.env.cells.lookup x = some c
 OJ : ∀ x c, X.fn x = true → X.env.cells.lookup x = some c → X.fN.heap.objs.size ≤ c
 hd : X.calm = true → X.A.handled = none
 frames : X.A.frames = some X.stack
 P2 : X.stack = X.outer ∨ (X.stack = X.env :: X.outer ∧ X.env.frame = some X.env.locals)
 RQ : ∀ b ∈ X.ex, b ≠ X.env.locals ∧ ∀ x c, X.env.cells.lookup x = some c → c ≠ b
 bs : ∀ b o, X.base.get? b = some o → X.fN.heap.get? b = some o ∧ X.HR b = none
 HJ : X.base.objs.size ≤ X.fN.heap.objs.size
 zK : ∀ b o, X.base.get? b = some o → b ∉ X.ex
 xK : ∀ b ∈ X.ex, b ∉ X.fs
 mD : X.fN.heap.FunFrames X.base X.outer
 JM : ∀ b ∈ X.fs, X.HR b = none
structure Inv (X : Cx) (pins : List (Addr × Obj)) (σ : List (Option V)) (H : Hp) (s : Shared) : Prop where
 ok : X.Ok
 os : s.os = X.fN.os
 bare : AllBare s.gens
 base : Un X.fs X.ex X.HR H X.fN.heap s.heap
 loc : ∃ m, s.heap.Ns X.env.locals m ∧ ∀ (i : Nat) (x : Str) (v : V), X.N[i]? = some x → σ[i]? = some (some v) → Q8 X.env.scope x → ∃ u, RelV v u ∧ Look X.env s.heap m x u
 cell : ∀ x c, X.env.cells.lookup x = some c → ∃ v, s.heap.IsCell c v
 free : H X.env.locals = none
 iR : ∀ x c, X.env.cells.lookup x = some c → H c = none
 pin : ∀ p ∈ X.pn ++ pins, s.heap.get? p.1 = some p.2 ∧ H p.1 = none ∧ p.1 ≠ X.env.locals ∧ p.1 ∉ X.fs ∧ ∀ v, p.2.data ≠ .cell v
 bY : jL X.prog X.w H s.heap
 len : σ.length = X.N.length
section
variable {X : Cx} {pins : List (Addr × Obj)} {σ : List (Option V)} {H H' : Hp} {s : Shared} {h' : Heap}
theorem Cx.Ok.R4 (ok : X.Ok) {b : Addr} {o : Obj} (e : X.base.get? b = some o) : b ∉ X.fs := fun hb => by
 have := (ok.mD.mem hb).1
 rw [e] at this; cases this
theorem Inv.bs (I : Inv X pins σ H s) : ∀ b o, X.base.get? b = some o → s.heap.get? b = some o ∧ H b = none := fun b o e =>
 ⟨I.base.keep b o (I.ok.bs b o e).1 (I.ok.bs b o e).2 (I.ok.R4 e) (I.ok.zK b o e), I.base.free b o (I.ok.bs b o e).1 (I.ok.bs b o e).2 (I.ok.zK b o e)⟩
theorem Inv.bk (I : Inv X pins σ H s) : ∀ b o, X.base.get? b = some o → s.heap.get? b = some o := fun b o e => (I.bs b o e).1
theorem Inv.mod (I : Inv X pins σ H s) : Mod X.K X.mg X.base := I.ok.mod
theorem Inv.mG (I : Inv X pins σ H s) : X.K.In s.heap := I.ok.mod.RG.keeps I.bk
theorem Inv.lt (I : Inv X pins σ H s) : X.env.locals < s.heap.objs.size := let ⟨_, hn, _⟩ := I.loc; hn.lt
theorem Inv.sz (I : Inv X pins σ H s) : X.fN.heap.objs.size ≤ s.heap.objs.size := Nat.le_trans I.ok.above (Nat.le_of_lt I.lt)
theorem Inv.Q3 (I : Inv X pins σ H s) {a : Addr} (h : s.heap.objs.size ≤ a) : a ∉ X.fs := fun hb => by
 obtain ⟨_, o, ho, _⟩ := I.ok.mD.mem hb
 exact absurd (Nat.lt_of_lt_of_le (Heap.lt_size ho) (Nat.le_trans I.sz h)) (Nat.lt_irrefl _)
theorem Inv.HQ (I : Inv X pins σ H s) : ∀ x c, X.env.cells.lookup x = some c → c ≠ X.env.locals := fun x c e z => by
 obtain ⟨v, o, ho, hd⟩ := I.cell x c e
 obtain ⟨m, ⟨o', es, ep, ho', hd', _⟩, _⟩ := I.loc
 rw [z, ho'] at ho; cases ho; rw [hd'] at hd; cases hd
theorem Inv.mD (I : Inv X pins σ H s) : s.heap.FunFrames X.base X.outer := by
 have all : ∀ (l : List Env), (∀ b ∈ sD l, b ∈ X.fs) → X.fN.heap.FunFrames X.base l → s.heap.FunFrames X.base l := by
  intro l
  induction l with
  | nil => intro _ _; trivial
  | cons env r ih =>
   intro hs hl
   obtain ⟨hk, ⟨L, o, hf, hn, ho, hd⟩, hr⟩ := hl
   have hL : L ∈ X.fs := hs L (by unfold sD; rw [List.filterMap_cons, hf]; exact List.mem_cons_self)
   obtain ⟨sl, e⟩ := I.base.slot L o ho (I.ok.JM L hL) hL fun z => I.ok.xK L z hL
   exact ⟨hk, ⟨L, _, hf, hn, e, hd⟩, ih (fun b hb => hs b (by unfold sD; rw [List.filterMap_cons, hf]; exact List.mem_cons_of_mem _ hb)) hr⟩
 exact all X.outer (fun _ hb => hb) I.ok.mD
theorem Inv.stack (I : Inv X pins σ H s) : s.heap.FunFrames X.base X.stack := by
 rcases I.ok.P2 with e | ⟨e, hf⟩
 ·rw [e]; exact I.mD
 ·rw [e]
  obtain ⟨m, hn, _⟩ := I.loc
  refine .cons (by rw [I.ok.kind]; decide) hf hn ?_ I.mD
  exact Heap.get?_none_of_le (Nat.le_trans I.ok.HJ I.ok.above)
theorem Inv.vR (I : Inv X pins σ H s) : ∀ b ∈ sD X.stack, b ∈ X.env.locals :: X.fs := fun b hb => by
 rcases I.ok.P2 with e | ⟨e, hf⟩
 ·rw [e] at hb; exact List.mem_cons_of_mem _ hb
 ·rw [e] at hb
  unfold sD at hb
  rw [List.filterMap_cons, hf] at hb
  exact hb
theorem Inv.o9 (I : Inv X pins σ H s) : ∀ b ∈ sD X.stack, H b = none := fun b hb => by
 rcases List.mem_cons.mp (I.vR b hb) with e | hb
 ·rw [e]; exact I.free
 ·obtain ⟨_, o, ho, _⟩ := I.ok.mD.mem hb
  exact I.base.free b o ho (I.ok.JM b hb) fun z => I.ok.xK b z hb
theorem Inv.step {g' : Array GenState} {t' : Nat} {d' : Drawn} {ch : List Addr} (I : Inv X pins σ H s)
  (hch : ∀ b ∈ ch, (b ∈ X.ex ∨ X.fN.heap.objs.size ≤ b) ∧ b ≠ X.env.locals ∧ (∀ x c, X.env.cells.lookup x = some c → c ≠ b) ∧ ∀ p ∈ X.pn ++ pins, p.1 ≠ b)
  (keep : ∀ b o, b ≠ X.env.locals → b ∉ X.fs → b ∉ ch → s.heap.get? b = some o → H b = none → h'.get? b = some o)
  (slot : ∀ b o, b ≠ X.env.locals → b ∈ X.fs → b ∉ ch → s.heap.get? b = some o → H b = none → ∃ sl, h'.get? b = some { o with slots := sl }) (free : ∀ b o, b ∉ ch → s.heap.get? b = some o → H b = none → H' b = none)
  (there : ∀ b o, b ∉ ch → s.heap.get? b = some o → ∃ o', h'.get? b = some o')
  (qA : ∀ b xs, H b = some (.tup xs) → H' b = some (.tup xs)) (oQ : ∀ b o u, H b = some (.AK o u) → H' b = some (.AK o u)) (pY : ∀ b ps, H b = some (.ML ps) → ∃ more, H' b = some (.ML (ps ++ more)))
  (ns : ∀ m, s.heap.Ns X.env.locals m → h'.Ns X.env.locals m) (bY : jL X.prog X.w H' h') (hg : AllBare g') :
  Inv X pins σ H' { s with heap := h', gens := g', drawn := d', toks := t' } := by
 have P1 : ∀ b o, X.fN.heap.get? b = some o → b ≠ X.env.locals := fun b o e => Nat.ne_of_lt (Nat.lt_of_lt_of_le (Heap.lt_size e) I.ok.above)
 have neC : ∀ b o, X.fN.heap.get? b = some o → b ∉ X.ex → b ∉ ch := fun b o e hx hb => by
  rcases (hch b hb).1 with z | z
  ·exact hx z
  ·exact absurd (Nat.lt_of_lt_of_le (Heap.lt_size e) z) (Nat.lt_irrefl _)
 have cellK : ∀ x c, X.env.cells.lookup x = some c → ∀ v, s.heap.IsCell c v → h'.IsCell c v := fun x c e v ⟨o, ho, hd⟩ => by
  have nch : c ∉ ch := fun z => (hch c z).2.2.1 x c e rfl
  by_cases hc : c ∈ X.fs
  ·obtain ⟨sl, q⟩ := slot c o (I.HQ x c e) hc nch ho (I.iR x c e)
   exact ⟨_, q, hd⟩
  ·exact ⟨o, keep c o (I.HQ x c e) hc nch ho (I.iR x c e), hd⟩
 refine ⟨I.ok, I.os, hg, ⟨fun b o e n hb hx => ?_, fun b o e n hb hx => ?_, fun b o e n hx => ?_, fun b o e hx => ?_, fun b xs e => qA b xs (I.base.qA b xs e), fun b o xs e => oQ b o xs (I.base.oQ b o xs e), fun b ps e => ?_⟩, ?_, fun x c e => ?_, ?_, fun x c e => ?_, fun p hp => ?_, bY, I.len⟩
 ·exact keep b o (P1 b o e) hb (neC b o e hx) (I.base.keep b o e n hb hx) (I.base.free b o e n hx)
 ·obtain ⟨sl, e1⟩ := I.base.slot b o e n hb hx
  obtain ⟨sl', e2⟩ := slot b _ (P1 b o e) hb (neC b o e hx) e1 (I.base.free b o e n hx)
  exact ⟨sl', e2⟩
 ·obtain ⟨o', e1⟩ := I.base.there b o e hx
  exact free b o' (neC b o e hx) e1 (I.base.free b o e n hx)
 ·obtain ⟨o', e1⟩ := I.base.there b o e hx
  exact there b o' (neC b o e hx) e1
 ·obtain ⟨m1, e1⟩ := I.base.pY b ps e
  obtain ⟨m2, e2⟩ := pY b _ e1
  exact ⟨m1 ++ m2, by rw [e2, Array.append_assoc]⟩
 ·obtain ⟨m, hn, hl⟩ := I.loc
  refine ⟨m, ns m hn, fun i x v e1 e2 e3 => ?_⟩
  obtain ⟨u, r, l⟩ := hl i x v e1 e2 e3
  refine ⟨u, r, ?_⟩
  rcases l with l | ⟨k, c, e, z⟩
  ·exact .inl l
  ·exact .inr ⟨k, c, e, cellK x c e _ z⟩
 ·obtain ⟨v, z⟩ := I.cell x c e
  exact ⟨v, cellK x c e v z⟩
 ·obtain ⟨m, ⟨o, _, _, ho, _⟩, _⟩ := I.loc
  exact free _ o (fun z => (hch _ z).2.1 rfl) ho I.free
 ·obtain ⟨v, o, ho, hd⟩ := I.cell x c e
  exact free c o (fun z => (hch c z).2.2.1 x c e rfl) ho (I.iR x c e)
 ·obtain ⟨e, n, ne, nf, d⟩ := I.pin p hp
  have nch : p.1 ∉ ch := fun z => (hch p.1 z).2.2.2 p hp rfl
  exact ⟨keep p.1 p.2 ne nf nch e n, free p.1 p.2 nch e n, ne, nf, d⟩
theorem Inv.un {t' : Nat} (I : Inv X pins σ H s) (u : Un X.fs [] H H' s.heap h') (bY : jL X.prog X.w H' h') : Inv X pins σ H' { s with heap := h', toks := t' } := by
 obtain ⟨m, ⟨o, es, ep, ho, r⟩, _⟩ := id I.loc
 obtain ⟨sl, hL⟩ := u.any ho I.free (by simp)
 exact I.step (g' := s.gens) (d' := s.drawn) (ch := []) (fun _ z => nomatch z) (fun b o _ hb _ e n => u.keep b o e n hb (by simp)) (fun b o _ hb _ e n => u.slot b o e n hb (by simp)) (fun b o _ e n => u.free b o e n (by simp)) (fun b o _ e => u.there b o e (by simp)) u.qA u.oQ u.pY (fun m' hm => by
  obtain ⟨o', es', ep', ho', r'⟩ := hm
  rw [ho] at ho'; cases ho'
  exact ⟨_, es', ep', hL, r'⟩) bY I.bare
theorem Inv.call {g' : Array GenState} {t' : Nat} {d' : Drawn} {ch : List Addr} (I : Inv X pins σ H s) (u : Un (sD X.stack) ch H H' s.heap h') (bY : jL X.prog X.w H' h') (hg : AllBare g')
  (hch : ∀ b ∈ ch, (b ∈ X.ex ∨ X.fN.heap.objs.size ≤ b) ∧ b ≠ X.env.locals ∧ (∀ x c, X.env.cells.lookup x = some c → c ≠ b) ∧ ∀ p ∈ X.pn ++ pins, p.1 ≠ b) :
  Inv X pins σ H' { s with heap := h', gens := g', drawn := d', toks := t' } := by
 obtain ⟨m, ⟨o, es, ep, ho, r⟩, _⟩ := id I.loc
 obtain ⟨sl, hL⟩ := u.any ho I.free fun z => (hch _ z).2.1 rfl
 exact I.step (ch := ch) hch (fun b o hL hb hc e n => u.keep b o e n (fun z => (List.mem_cons.mp (I.vR b z)).elim hL hb) hc) (fun b o _ _ hc e n => u.any e n hc) (fun b o hc e n => u.free b o e n hc) (fun b o hc e => u.there b o e hc) u.qA u.oQ u.pY (fun m' hm => by
  obtain ⟨o', es', ep', ho', r'⟩ := hm
  rw [ho] at ho'; cases ho'
  exact ⟨_, es', ep', hL, r'⟩) bY hg
theorem Inv.turned {t' : Nat} {it : Addr} (I : Inv X pins σ H s) (k : ∀ b o, b ≠ it → s.heap.get? b = some o → h'.get? b = some o) (hn : H it = none) (hL : it ≠ X.env.locals)
  (h1 : it ∈ X.ex ∨ X.fN.heap.objs.size ≤ it) (h2 : ∀ x c, X.env.cells.lookup x = some c → c ≠ it) (h3 : ∀ p ∈ X.pn ++ pins, p.1 ≠ it) : Inv X pins σ H { s with heap := h', toks := t' } := by
 have nit : ∀ b u, H b = some u → b ≠ it := fun b u e z => by rw [z, hn] at e; cases e
 refine I.step (g' := s.gens) (d' := s.drawn) (ch := [it]) (fun b hb => ?_) (fun b o _ _ hc e _ => k b o (fun z => hc (by simp [z])) e) (fun b o _ _ hc e _ => ⟨o.slots, k b o (fun z => hc (by simp [z])) e⟩) (fun _ _ _ _ n => n)
  (fun b o hc e => ⟨o, k b o (fun z => hc (by simp [z])) e⟩) (fun _ _ e => e) (fun _ _ _ e => e) (fun b ps e => ⟨#[], by rw [e]; simp⟩) (fun m hm => ?_) (fun b u e => ?_) I.bare
 ·have e : b = it := by simpa using hb
  subst e
  exact ⟨h1, hL, h2, h3⟩
 ·obtain ⟨o, es, ep, ho, r⟩ := hm
  exact ⟨o, es, ep, k _ o (Ne.symm hL) ho, r⟩
 ·refine (I.bY b u e).i7 (fun c v hc q => k c v ?_ q) (fun _ q => q) fun _ _ q => q
  rcases hc with z | z
  ·rw [z]; exact nit b u e
  ·exact nit c _ z
theorem Inv.tok (I : Inv X pins σ H s) (t : Nat) : Inv X pins σ H { s with toks := t } := I.un (h' := s.heap) (t' := t) Un.refl I.bY
theorem Inv.kept {t' : Nat} (I : Inv X pins σ H s) (k : ∀ b u, s.heap.get? b = some u → h'.get? b = some u) : Inv X pins σ H { s with heap := h', toks := t' } := I.un (Un.kept k) (I.bY.kept k)
theorem Inv.laid {a : Addr} {o : HO} {t' : Nat} (I : Inv X pins σ H s) (k : ∀ b u, s.heap.get? b = some u → h'.get? b = some u) (hp : s.heap.objs.size ≤ a) (new : dJ X.prog X.w (upd H a o) h' a o) :
  Inv X pins σ (upd H a o) { s with heap := h', toks := t' } := I.un (Un.laid k hp (I.bY.fresh hp)) (I.bY.laid k hp new)
theorem Inv.write {x e : Addr} {o : HO} {t' : Nat} (I : Inv X pins σ H s) (mu : RT (H x)) (he : e = x ∨ H e = some (.own x)) (k : ∀ b u, b ≠ e → s.heap.get? b = some u → h'.get? b = some u) (heo : ∃ u, h'.get? e = some u)
  (new : dJ X.prog X.w (upd H x o) h' x o) : Inv X pins σ (upd H x o) { s with heap := h', toks := t' } := I.un (Un.write mu he k heo) (I.bY.write mu he k heo new)
theorem Inv.oZ {pins' : List (Addr × Obj)} (I : Inv X pins σ H s) (h : ∀ p ∈ pins', s.heap.get? p.1 = some p.2 ∧ H p.1 = none ∧ p.1 ≠ X.env.locals ∧ p.1 ∉ X.fs ∧ ∀ v, p.2.data ≠ .cell v) : Inv X pins' σ H s :=
 ⟨I.ok, I.os, I.bare, I.base, I.loc, I.cell, I.free, I.iR, fun p hp => (List.mem_append.mp hp).elim (fun z => I.pin p (List.mem_append_left _ z)) (h p), I.bY, I.len⟩
theorem rL {N : List Str} (hN : N.Nodup) {i j : Nat} {x : Str} (a : N[i]? = some x) (b : N[j]? = some x) : i = j := by
 obtain ⟨h1, e1⟩ := List.getElem?_eq_some_iff.mp a
 obtain ⟨h2, e2⟩ := List.getElem?_eq_some_iff.mp b
 exact (List.getElem_inj hN).mp (e1.trans e2.symm)
theorem D2 {M : Model} {A : Around} {E : Value → Shared → Prop} {i : Nat} {x : Str} {v : V} {u : Value} {Q : Unit → Shared → Prop} (I : Inv X pins σ H s) (hN : X.N.Nodup) (hi : X.N[i]? = some x) (hx : Loc X.env.scope x) (r : RelV v u)
  (h : ∀ s', Inv X pins (σ.set i (some v)) H s' → (∃ a, Heap.SameBut a s.heap s'.heap ∧ (a = X.env.locals ∨ X.env.cells.lookup x = some a)) → Q () s') (hf : X.fn x = true ∨ X.env.scope.names.lookup x = some .local := by first | exact .inl rfl | exact .inr rfl | assumption) : wpAny M A (storeName X.env x u) Q E s := by
 obtain ⟨m, hn, hl⟩ := id I.loc
 have hcls : (X.env.scope.kind == .class || (X.env.scope.kind == .module && X.env.locals != X.env.globals)) = false := by rw [I.ok.kind]; rfl
 have hiσ : i < σ.length := by rw [I.len]; exact (List.getElem?_eq_some_iff.mp hi).1
 have HQ := I.HQ
 have tracked : ∀ {a : Addr} {h' : Heap}, (∃ o, s.heap.get? a = some o ∧ H a = none) → Heap.SameBut a s.heap h' → jL X.prog X.w H h' := fun {a h'} ha hs b ob e => by
  obtain ⟨_, _, hfree⟩ := ha
  refine (I.bY b ob e).i7 (fun c w' hc q => (hs.2 c ?_).trans q) (fun _ q => q) fun _ _ q => q
  rintro rfl
  rcases hc with rfl | hc
  ·rw [hfree] at e; cases e
  ·rw [hfree] at hc; cases hc
 rcases hx with hk | hk
 ·refine wpAny_storeName_local hk hn (fun h' hn' hs => ?_) hcls
  obtain ⟨oL, _, _, hoL, _⟩ := id hn
  refine h _ ⟨I.ok, I.os, I.bare, ⟨fun b o e n hb hx => ?_, fun b o e n hb hx => ?_, I.base.free, fun b o e hx => ?_, I.base.qA, I.base.oQ, I.base.pY⟩, ⟨_, hn', fun j y v' e1 e2 e3 => ?_⟩, fun y c e => ?_, I.free, I.iR, fun p hp => ?_, tracked ⟨oL, hoL, I.free⟩ hs, by simpa using I.len⟩ ⟨_, hs, .inl rfl⟩
  ·exact (hs.2 b (Nat.ne_of_lt (Nat.lt_of_lt_of_le (Heap.lt_size e) I.ok.above))).trans (I.base.keep b o e n hb hx)
  ·obtain ⟨sl, e1⟩ := I.base.slot b o e n hb hx
   exact ⟨sl, (hs.2 b (Nat.ne_of_lt (Nat.lt_of_lt_of_le (Heap.lt_size e) I.ok.above))).trans e1⟩
  ·obtain ⟨o', e1⟩ := I.base.there b o e hx
   exact ⟨o', (hs.2 b (Nat.ne_of_lt (Nat.lt_of_lt_of_le (Heap.lt_size e) I.ok.above))).trans e1⟩
  ·by_cases hj : j = i
   ·subst hj
    rw [hi] at e1; cases e1
    rw [List.getElem?_set_self hiσ] at e2
    cases e2
    exact ⟨u, r, .inl ⟨hk, by simp⟩⟩
   ·rw [List.getElem?_set_ne (Ne.symm hj)] at e2
    obtain ⟨u', r', q⟩ := hl j y v' e1 e2 e3
    refine ⟨u', r', ?_⟩
    rcases q with ⟨k, e⟩ | ⟨k, c, e, z⟩
    ·refine .inl ⟨k, ?_⟩
     have : y ≠ x := fun e => hj (rL hN e1 (e ▸ hi))
     simp [this, e]
    ·exact .inr ⟨k, c, e, z.sameBut hs (HQ y c e)⟩
  ·obtain ⟨w', z⟩ := I.cell y c e
   exact ⟨w', z.sameBut hs (HQ y c e)⟩
  ·obtain ⟨e, n, ne, nf, d⟩ := I.pin p hp
   exact ⟨(hs.2 p.1 ne).trans e, n, ne, nf, d⟩
 ·have hfn : X.fn x = true := by
   rcases hf with z | z
   ·exact z
   ·rw [z] at hk; cases hk
  obtain ⟨c, hc⟩ := I.ok.has x (.inl hk)
  obtain ⟨w', z⟩ := I.cell x c hc
  refine wpAny_storeName_cell I.ok.kind hk hc z (fun h' hc' hs => ?_)
  obtain ⟨oc, hoc, hocd⟩ := id z
  refine h { s with heap := h' } ⟨I.ok, I.os, I.bare, ⟨fun b o e n hb hx => ?_, fun b o e n hb hx => ?_, I.base.free, fun b o e hx => ?_, I.base.qA, I.base.oQ, I.base.pY⟩, ⟨m, hn.sameBut hs (Ne.symm (HQ x c hc)), fun j y v' e1 e2 e3 => ?_⟩, fun y c' e => ?_, I.free, I.iR, fun p hp => ?_, tracked ⟨oc, hoc, I.iR x c hc⟩ hs, by simpa using I.len⟩ ⟨c, hs, .inr hc⟩
  ·exact (hs.2 b (Nat.ne_of_lt (Nat.lt_of_lt_of_le (Heap.lt_size e) (I.ok.OJ x c hfn hc)))).trans (I.base.keep b o e n hb hx)
  ·obtain ⟨sl, e1⟩ := I.base.slot b o e n hb hx
   exact ⟨sl, (hs.2 b (Nat.ne_of_lt (Nat.lt_of_lt_of_le (Heap.lt_size e) (I.ok.OJ x c hfn hc)))).trans e1⟩
  ·obtain ⟨o', e1⟩ := I.base.there b o e hx
   exact ⟨o', (hs.2 b (Nat.ne_of_lt (Nat.lt_of_lt_of_le (Heap.lt_size e) (I.ok.OJ x c hfn hc)))).trans e1⟩
  ·by_cases hj : j = i
   ·subst hj
    rw [hi] at e1; cases e1
    rw [List.getElem?_set_self hiσ] at e2
    cases e2
    exact ⟨u, r, .inr ⟨.inl hk, c, hc, hc'⟩⟩
   ·rw [List.getElem?_set_ne (Ne.symm hj)] at e2
    obtain ⟨u', r', q⟩ := hl j y v' e1 e2 e3
    refine ⟨u', r', ?_⟩
    rcases q with q | ⟨k, c', e, z'⟩
    ·exact .inl q
    ·refine .inr ⟨k, c', e, z'.sameBut hs ?_⟩
     rintro rfl
     exact hj (rL hN e1 (I.ok.inj _ _ _ e hc ▸ hi))
  ·by_cases hcc : c' = c
   ·subst hcc; exact ⟨_, hc'⟩
   ·obtain ⟨w2, z2⟩ := I.cell y c' e
    exact ⟨w2, z2.sameBut hs hcc⟩
  ·obtain ⟨e, n, ne, nf, d⟩ := I.pin p hp
   refine ⟨(hs.2 p.1 ?_).trans e, n, ne, nf, d⟩
   intro q
   rw [q, hoc] at e
   have q' : oc = p.2 := Option.some.inj e
   exact d w' (by rw [← q']; exact hocd)
theorem eP {M : Model} {A : Around} {E : Value → Shared → Prop} {i : Nat} {x : Str} {v : V} {u : Value} {Q : Unit → Shared → Prop} (I : Inv X pins σ H s) (hN : X.N.Nodup) (hi : X.N[i]? = some x) (hx : Loc X.env.scope x) (r : RelV v u)
  (h : ∀ s', Inv X pins (σ.set i (some v)) H s' → Q () s') (hf : X.fn x = true ∨ X.env.scope.names.lookup x = some .local := by first | exact .inl rfl | exact .inr rfl | assumption) : wpAny M A (storeName X.env x u) Q E s :=
 D2 I hN hi hx r (fun s' I' _ => h s' I') hf
theorem Inv.pJ {s' : Shared} {ch : List Addr} (I : Inv X pins σ H s) (ho : s'.os = s.os) (u : Un (sD X.stack) ch H H' s.heap s'.heap) (bY : jL X.prog X.w H' s'.heap) (hg : AllBare s'.gens)
  (hch : ∀ b ∈ ch, (b ∈ X.ex ∨ X.fN.heap.objs.size ≤ b) ∧ b ≠ X.env.locals ∧ (∀ x c, X.env.cells.lookup x = some c → c ≠ b) ∧ ∀ p ∈ X.pn ++ pins, p.1 ≠ b) : Inv X pins σ H' s' := by
 obtain ⟨h', g', d', t', o'⟩ := s'
 have e : o' = s.os := ho
 subst e
 exact I.call (g' := g') (t' := t') (d' := d') u bY hg hch
end
noncomputable abbrev XK := Value → Option Addr → Hp → Prop
noncomputable abbrev St := List (Option V)
noncomputable abbrev VK := V → Hp → Prop
noncomputable abbrev TE := St → Hp → VK → Prop
noncomputable abbrev TT := St → Hp → (Bool → Hp → Prop) → Prop
noncomputable abbrev TA := St → Hp → (List V → Hp → Prop) → Prop
structure Ends where
 nx : St → Hp → Prop
 rt : VK
 bk : St → Hp → Prop := fun _ _ => False
 ct : St → Hp → Prop := fun _ _ => False
noncomputable abbrev TS := Ends → St → Hp → Prop
noncomputable def EP (X : Cx) (pins : List (Addr × Obj)) (σ : St) (Q : VK) (u : Value) (s' : Shared) : Prop := ∃ v H', Inv X pins σ H' s' ∧ RelV v u ∧ Q v H'
noncomputable def TP (X : Cx) (pins : List (Addr × Obj)) (σ : St) (Q : Bool → Hp → Prop) (b : Bool) (s' : Shared) : Prop := ∃ H', Inv X pins σ H' s' ∧ Q b H'
noncomputable def AP (X : Cx) (pins : List (Addr × Obj)) (σ : St) (Q : List V → Hp → Prop) (us : List Value) (s' : Shared) : Prop := ∃ vs H', Inv X pins σ H' s' ∧ Vals vs us ∧ Q vs H'
noncomputable def SP (X : Cx) (pins : List (Addr × Obj)) (D : Ends) (f : Flow) (s' : Shared) : Prop :=
 match f with
 | .next => ∃ σ' H', Inv X pins σ' H' s' ∧ D.nx σ' H'
 | .brk => ∃ σ' H', Inv X pins σ' H' s' ∧ D.bk σ' H'
 | .cont => ∃ σ' H', Inv X pins σ' H' s' ∧ D.ct σ' H'
 | .ret u => ∃ v σ' H', Inv X pins σ' H' s' ∧ RelV v u ∧ D.rt v H'
noncomputable def PE (X : Cx) (e : Expr) (t : TE) : Prop :=
 ∀ (pins : List (Addr × Obj)) (s : Shared) (σ : St) (H : Hp) (Q : VK), Inv X pins σ H s → t σ H Q → wpAny (model X.prog X.w) X.A (eval e X.env) (EP X pins σ Q) X.xe s
noncomputable def PT (X : Cx) (e : Expr) (t : TT) : Prop :=
 ∀ (pins : List (Addr × Obj)) (s : Shared) (σ : St) (H : Hp) (Q : Bool → Hp → Prop), Inv X pins σ H s → t σ H Q → wpAny (model X.prog X.w) X.A (isTrue e X.env (eval e X.env)) (TP X pins σ Q) X.xe s
noncomputable def PW (X : Cx) (e : Expr) (t : TT) : Prop :=
 ∀ (whole : Sem Value) (pins : List (Addr × Obj)) (s : Shared) (σ : St) (H : Hp) (Q : Bool → Hp → Prop), Inv X pins σ H s → t σ H Q → wpAny (model X.prog X.w) X.A (isTrue e X.env whole) (TP X pins σ Q) X.xe s
theorem PW.pt {X : Cx} {e : Expr} {t : TT} (h : PW X e t) : PT X e t := h _
noncomputable def PA (X : Cx) (es : List Expr) (t : TA) : Prop :=
 ∀ (pos : Pos) (pins : List (Addr × Obj)) (s : Shared) (σ : St) (H : Hp) (Q : List V → Hp → Prop), Inv X pins σ H s → t σ H Q → wpAny (model X.prog X.w) X.A (spliced (backTo pos (starEach es X.env))) (AP X pins σ Q) X.xe s
noncomputable def PS (X : Cx) (st : Stmt) (t : TS) : Prop :=
 ∀ (pins : List (Addr × Obj)) (s : Shared) (σ : St) (H : Hp) (D : Ends), Inv X pins σ H s → t D σ H → wpAny (model X.prog X.w) X.A (exec st X.env) (SP X pins D) X.xe s
noncomputable def xD (X : Cx) (st : List Stmt) (t : TS) : Prop :=
 ∀ (pins : List (Addr × Obj)) (s : Shared) (σ : St) (H : Hp) (D : Ends), Inv X pins σ H s → t D σ H → wpAny (model X.prog X.w) X.A (execs st X.env) (SP X pins D) X.xe s
theorem cL {α : Type} {t : Sem α} {Q Q' : α → Shared → Prop} {M : Model} {A : Around} {E : Value → Shared → Prop} {s : Shared} (h : wpAny M A t Q E s) (hQ : ∀ a s, Q a s → Q' a s) : wpAny M A t Q' E s := wpAny_mono h hQ fun _ _ x => x
end L2
namespace L2
open PySem PySem.Spec PyProof.Rows
section
variable {X : Cx}
noncomputable def i8 (i : Nat) : TE := fun σ H Q => ∃ v, σ[i]? = some (some v) ∧ Q v H
noncomputable def tC (v : V) : TE := fun _ H Q => Q v H
theorem OT {i : Nat} {x : Str} {pos : Pos} (hN : X.N[i]? = some x) (hv : Q8 X.env.scope x) (hd : (x == ("__debug__" : Str)) = false := by decide) (hcd : (x == ("__classdict__" : Str)) = false := by decide) : PE X (.Name x pos) (i8 i) := by
 intro pins s σ H Q I h
 obtain ⟨v, e, h⟩ := h
 obtain ⟨m, hn, hl⟩ := I.loc
 obtain ⟨u, r, l⟩ := hl i x v hN e hv
 have fin : EP X pins σ Q u s := ⟨v, H, I, r, h⟩
 rcases l with ⟨hk, hm⟩ | ⟨hk, c, hc, hcell⟩
 ·exact wpAny_Name (wpAny_loadName_local I.ok.kind hk hn hm fin) hd
 ·rcases hk with hk | hk
  ·exact wpAny_Name (wpAny_loadName_cell I.ok.kind hk hc hcell fin) hd
  ·exact wpAny_Name (wpAny_loadName_free I.ok.kind hk hc hcell fin hcd) hd
theorem aE {i j pos} : PE X (.Constant (.int i) j pos) (tC (.int i)) := fun _ _ _ H _ I h => wpAny_Constant_int ⟨.int i, H, I.tok _, ⟨_, rfl⟩, h⟩
theorem kX {b j pos} : PE X (.Constant (.bool b) j pos) (tC (.bl b)) := fun _ _ _ H _ I h => Constant_bool ⟨.bl b, H, I, rfl, h⟩
theorem eU {j pos} : PE X (.Constant .none j pos) (tC .aZ) := fun _ _ _ H _ I h => Constant_none ⟨.aZ, H, I, rfl, h⟩
theorem aM {x j pos} : PE X (.Constant (.str x) j pos) (tC (.str x)) := fun _ _ _ H _ I h => Calls.Constant_str ⟨.str x, H, I.tok _, ⟨_, rfl⟩, h⟩
noncomputable def Gl (X : Cx) (x : Str) : Prop := X.env.kindOf x = some .globalImplicit
theorem mM {E : Value → Shared → Prop} {pins : List (Addr × Obj)} {s : Shared} {σ : St} {H : Hp} {x : Str} {u : Value} {pos : Pos} {Q : Value → Shared → Prop} (I : Inv X pins σ H s) (hg : Gl X x) (hm : X.mg x = some u) (h : Q u s)
  (hd : (x == ("__debug__" : Str)) = false := by decide) : wpAny (model X.prog X.w) X.A (eval (.Name x pos) X.env) Q E s :=
 Calls.Name_function_global I.ok.kind hg (Calls.loadGlobal_global (by rw [I.ok.glob]; exact I.mod.glob.keeps I.bk) hm h) hd
theorem nP {E : Value → Shared → Prop} {pins : List (Addr × Obj)} {s : Shared} {σ : St} {H : Hp} {x : Str} {u : Value} {pos : Pos} {Q : Value → Shared → Prop} (I : Inv X pins σ H s) (hg : Gl X x) (hm : X.mg x = none) (hv : bootBuiltins x = some u) (h : Q u s)
  (hn : x ≠ "__name__" := by decide) (hd : (x == ("__debug__" : Str)) = false := by decide) : wpAny (model X.prog X.w) X.A (eval (.Name x pos) X.env) Q E s := by
 obtain ⟨mb, h1, h2⟩ := I.mod.blt
 exact Calls.Name_function_global I.ok.kind hg (Calls.loadGlobal_builtin (by rw [I.ok.glob]; exact I.mod.glob.keeps I.bk) hm (by rw [I.ok.blt]; exact h1.keeps I.bk) ((h2 x hn).trans hv) h) hd
theorem fX {x : Str} {v : V} {u : Value} {pos : Pos} (hg : Gl X x) (hm : X.mg x = some u) (r : RelV v u) (hd : (x == ("__debug__" : Str)) = false := by decide) : PE X (.Name x pos) (tC v) :=
 fun _ _ _ H _ I h => mM I hg hm ⟨v, H, I, r, h⟩ hd
theorem cJ {x : Str} {v : V} {u : Value} {pos : Pos} (hg : Gl X x) (hm : X.mg x = none) (hv : bootBuiltins x = some u) (r : RelV v u) (hn : x ≠ "__name__" := by decide) (hd : (x == ("__debug__" : Str)) = false := by decide) : PE X (.Name x pos) (tC v) :=
 fun _ _ _ H _ I h => nP I hg hm hv ⟨v, H, I, r, h⟩ hn hd
variable {a b : Expr} {ta tb : TE} {pos : Pos}
noncomputable def tB (t : TE) : TT := fun σ H Q => t σ H fun x H1 => ∃ c, x = .bl c ∧ Q c H1
theorem dM {e : Expr} {t : TE} (h : PE X e t) (he : ∀ whole, isTrue e X.env whole = (do let v ← whole; standAt e.pos; holding [v] (truthy v)) := by intro _; rfl) : PT X e (tB t) := by
 intro pins s σ H Q I hw
 refine isTrue_plain (cL (h pins s σ H _ I hw) fun v s1 ⟨x, H1, I1, r1, q1⟩ => ?_) (he _)
 obtain ⟨d, rfl, q⟩ := q1
 cases r1
 exact wpAny_truthy_bool ⟨H1, I1, q⟩
variable {tA tB' : TT} {rest : List Expr}
noncomputable def ED (t u : TT) : TT := fun σ H Q => t σ H fun c H1 => if c = true then u σ H1 Q else Q false H1
noncomputable def Q7 (t u : TT) : TT := fun σ H Q => t σ H fun c H1 => if c = true then Q true H1 else u σ H1 Q
noncomputable def E9 (t : TT) : TT := fun σ H Q => t σ H fun c H1 => Q (!c) H1
theorem kJ (ha : PT X a tA) : PW X (.BoolOp .And [a] pos) tA := by
 intro wh pins s σ H Q I h
 refine isTrue_and (cL (ha pins s σ H Q I h) fun c s1 e => ?_)
 cases c with
 | true => exact isTrue_and_nil e
 | false => exact e
theorem fS (ha : PT X a tA) : PW X (.BoolOp .Or [a] pos) tA := by
 intro wh pins s σ H Q I h
 refine isTrue_or (cL (ha pins s σ H Q I h) fun c s1 e => ?_)
 cases c with
 | false => exact isTrue_or_nil e
 | true => exact e
theorem m8 (ha : PT X a tA) (hb : PW X (.BoolOp .And (b :: rest) pos) tB') : PW X (.BoolOp .And (a :: b :: rest) pos) (ED tA tB') := by
 intro wh pins s σ H Q I h
 refine isTrue_and (cL (ha pins s σ H _ I h) fun c s1 ⟨H1, I1, q1⟩ => ?_)
 cases c with
 | true => exact hb wh pins s1 σ H1 Q I1 q1
 | false => exact ⟨H1, I1, q1⟩
theorem gY (ha : PT X a tA) (hb : PW X (.BoolOp .Or (b :: rest) pos) tB') : PW X (.BoolOp .Or (a :: b :: rest) pos) (Q7 tA tB') := by
 intro wh pins s σ H Q I h
 refine isTrue_or (cL (ha pins s σ H _ I h) fun c s1 ⟨H1, I1, q1⟩ => ?_)
 cases c with
 | true => exact ⟨H1, I1, q1⟩
 | false => exact hb wh pins s1 σ H1 Q I1 q1
theorem fE (ha : PT X a tA) : PT X (.UnaryOp .Not a pos) (E9 tA) := by
 intro pins s σ H Q I h
 exact isTrue_not (ha pins s σ H (fun c H1 => Q (!c) H1) I h)
noncomputable def xZ (ta tb : TE) : TE := fun σ H Q => ta σ H fun x H1 => ∃ c, x = .bl c ∧ if c = true then tb σ H1 Q else Q (.bl false) H1
noncomputable def MC (ta tb : TE) : TE := fun σ H Q => ta σ H fun x H1 => ∃ c, x = .bl c ∧ if c = true then Q (.bl true) H1 else tb σ H1 Q
noncomputable def wC (ta : TE) : TE := fun σ H Q => ta σ H fun x H1 => ∃ c, x = .bl c ∧ Q (.bl (!c)) H1
theorem jV {op} {t : TE} (h : PE X a t) : PE X (.BoolOp op [a] pos) t := fun pins s σ H Q I hw => BoolOp_one (h pins s σ H Q I hw)
theorem g7 (ha : PE X a ta) (hb : PE X (.BoolOp .And (b :: rest) pos) tb) : PE X (.BoolOp .And (a :: b :: rest) pos) (xZ ta tb) := by
 intro pins s σ H Q I h
 refine BoolOp_and (cL (ha pins s σ H _ I h) fun v s1 ⟨x, H1, I1, r1, q1⟩ => ?_)
 obtain ⟨c, rfl, q1⟩ := q1
 cases r1
 refine wpAny_truthy_bool ?_
 cases c with
 | true => exact hb pins s1 σ H1 Q I1 q1
 | false => exact ⟨.bl false, H1, I1, rfl, q1⟩
theorem O9 (ha : PE X a ta) : PE X (.UnaryOp .Not a pos) (wC ta) := by
 intro pins s σ H Q I h
 refine UnaryOp_ (cL (ha pins s σ H _ I h) fun v s1 ⟨x, H1, I1, r1, q1⟩ => ?_)
 obtain ⟨c, rfl, q1⟩ := q1
 cases r1
 exact not_of (wpAny_truthy_bool ⟨.bl (!c), H1, I1, rfl, q1⟩)
noncomputable def P5 (t : TT) (ta tb : TE) : TE := fun σ H Q => t σ H fun c H1 => if c = true then ta σ H1 Q else tb σ H1 Q
theorem g0 {c : Expr} (hc : PT X c tA) (ha : PE X a ta) (hb : PE X b tb) : PE X (.IfExp c a b pos) (P5 tA ta tb) := by
 intro pins s σ H Q I h
 refine wpAny_IfExp (cL (hc pins s σ H _ I h) fun d s1 ⟨H1, I1, q1⟩ => ?_)
 cases d with
 | true => exact ha pins s1 σ H1 Q I1 q1
 | false => exact hb pins s1 σ H1 Q I1 q1
end
end L2
namespace L2
open PySem PySem.Spec PyProof.Rows
noncomputable def aX (K : PySem.W.Frag) (H : Hp) (a : Addr) (xs : List V) : Prop :=
 Rd H a (.lst xs) ∨
  ∃ (o : Obj) (its : Array Value) (n : Nat), K.lookup a = some o ∧ o.cls = .type "list" ∧ o.dict = none ∧ o.data = .seq its n ∧ its.size ≤ sizeLine ∧ Vals xs its.toList
noncomputable def dZ (K : PySem.W.Frag) (H : Hp) (a : Addr) (xs : List V) : Prop :=
 Rd H a (.tup xs) ∨
  ∃ (o : Obj) (its : Array Value) (n : Nat), K.lookup a = some o ∧ o.cls = .type "tuple" ∧ o.data = .seq its n ∧ its.size ≤ sizeLine ∧ Vals xs its.toList
noncomputable def SE : Value → Option V
 | .none => some .aZ
 | .bool b => some (.bl b)
 | .int i _ => some (.int i)
 | .str x _ => some (.str x)
 | .bytes b _ => some (.CJ b)
 | .float b _ => some (.NC b)
 | .ref a => some (.ref a)
 | .type n => some (.ty n)
 | _ => none
theorem RelV.abs {x : V} {u : Value} (r : RelV x u) : SE u = some x := by
 cases x with
 | aZ => cases r; rfl
 | bl _ => cases r; rfl
 | int _ => obtain ⟨t, rfl⟩ := r; rfl
 | str _ => obtain ⟨t, rfl⟩ := r; rfl
 | CJ _ => obtain ⟨t, rfl⟩ := r; rfl
 | NC _ => obtain ⟨t, rfl⟩ := r; rfl
 | ref _ => cases r; rfl
 | ty _ => cases r; rfl
theorem RelV.inj {x y : V} {u : Value} (r : RelV x u) (q : RelV y u) : x = y := Option.some.inj (r.abs.symm.trans q.abs)
theorem Vals.inj : ∀ {xs ys : List V} {us : List Value}, Vals xs us → Vals ys us → xs = ys
 | _, _, _, .nil, .nil => rfl
 | _, _, _, .cons r t, .cons r' t' => by rw [r.inj r', Vals.inj t t']
section
variable {X : Cx} {pins : List (Addr × Obj)} {σ : St} {H : Hp} {s : Shared} {a : Addr} {xs ys : List V}
theorem aX.of {K : PySem.W.Frag} (h : H a = some (.lst xs)) : aX K H a xs := .inl (.inl h)
theorem dZ.of {K : PySem.W.Frag} (h : H a = some (.tup xs)) : dZ K H a xs := .inl (.inl h)
theorem Inv.list (I : Inv X pins σ H s) (h : aX X.K H a xs) : ∃ its : List Value, Vals xs its ∧ PlainL s.heap a its.toArray ∧ xs.length ≤ sizeLine := by
 rcases h with h | ⟨o, its, n, hk, hc, hd, hs, hz, r⟩
 ·obtain ⟨z, its, n, r, e⟩ := h.ok I.bY
  exact ⟨its, r, ⟨_, n, e, rfl, rfl, rfl⟩, z⟩
 ·refine ⟨its.toList, r, ⟨o, n, I.mG a o hk, hc, hd, by simpa using hs⟩, ?_⟩
  have e := r.length
  simp only [Array.length_toList] at e
  omega
theorem Inv.tuple (I : Inv X pins σ H s) (h : dZ X.K H a xs) : ∃ its : List Value, Vals xs its ∧ IsTup s.heap a its.toArray ∧ xs.length ≤ sizeLine := by
 rcases h with h | ⟨o, its, n, hk, hc, hs, hz, r⟩
 ·obtain ⟨z, its, r, p⟩ := h.ok I.bY
  exact ⟨its, r, p.1, z⟩
 ·refine ⟨its.toList, r, ⟨o, I.mG a o hk, hc, n, by simpa using hs⟩, ?_⟩
  have e := r.length
  simp only [Array.length_toList] at e
  omega
theorem Inv.xO (I : Inv X pins σ H s) (h : aX X.K H a xs) (h' : aX X.K H a ys) : xs = ys := by
 obtain ⟨its, r, ⟨o, n, e, _, _, d⟩, _⟩ := I.list h
 obtain ⟨its', r', ⟨o', n', e', _, _, d'⟩, _⟩ := I.list h'
 rw [e] at e'; cases e'
 rw [d] at d'
 injection d' with d1 _
 have : its = its' := by simpa using congrArg Array.toList d1
 subst this
 exact r.inj r'
theorem Inv.kS (I : Inv X pins σ H s) (h : dZ X.K H a xs) (h' : dZ X.K H a ys) : xs = ys := by
 obtain ⟨its, r, ⟨o, e, _, n, d⟩, _⟩ := I.tuple h
 obtain ⟨its', r', ⟨o', e', _, n', d'⟩, _⟩ := I.tuple h'
 rw [e] at e'; cases e'
 rw [d] at d'
 injection d' with d1 _
 have : its = its' := by simpa using congrArg Array.toList d1
 subst this
 exact r.inj r'
end
noncomputable abbrev Cx.lP (X : Cx) (E : Value → Shared → Prop) : Cx := { X with xe := E }
noncomputable abbrev Cx.RW (X : Cx) : Cx := X.lP fun _ _ => False
theorem Cx.Ok.lP {X : Cx} (ok : X.Ok) (E : Value → Shared → Prop) : (X.lP E).Ok :=
 ⟨ok.mod, ok.kind, ok.glob, ok.blt, ok.above, ok.inj, ok.has, ok.OJ, ok.hd, ok.frames, ok.P2, ok.RQ, ok.bs, ok.HJ, ok.zK, ok.xK, ok.mD, ok.JM⟩
theorem Cx.Ok.iC {X : Cx} {E : Value → Shared → Prop} (ok : (X.lP E).Ok) : X.Ok :=
 ⟨ok.mod, ok.kind, ok.glob, ok.blt, ok.above, ok.inj, ok.has, ok.OJ, ok.hd, ok.frames, ok.P2, ok.RQ, ok.bs, ok.HJ, ok.zK, ok.xK, ok.mD, ok.JM⟩
section
variable {X : Cx} {pins : List (Addr × Obj)} {σ : St} {H : Hp} {s : Shared} {E : Value → Shared → Prop}
theorem Inv.lP (I : Inv X pins σ H s) (E : Value → Shared → Prop) : Inv (X.lP E) pins σ H s := ⟨I.ok.lP E, I.os, I.bare, I.base, I.loc, I.cell, I.free, I.iR, I.pin, I.bY, I.len⟩
theorem Inv.iC (I : Inv (X.lP E) pins σ H s) : Inv X pins σ H s := ⟨I.ok.iC, I.os, I.bare, I.base, I.loc, I.cell, I.free, I.iR, I.pin, I.bY, I.len⟩
theorem SP.iC {D : Ends} {f : Flow} {s' : Shared} (h : SP (X.lP E) pins D f s') : SP X pins D f s' := by
 cases f with
 | next => obtain ⟨σ', H', I, q⟩ := h; exact ⟨σ', H', I.iC, q⟩
 | brk => obtain ⟨σ', H', I, q⟩ := h; exact ⟨σ', H', I.iC, q⟩
 | cont => obtain ⟨σ', H', I, q⟩ := h; exact ⟨σ', H', I.iC, q⟩
 | ret u => obtain ⟨v, σ', H', I, r, q⟩ := h; exact ⟨v, σ', H', I.iC, r, q⟩
theorem xD.RW {st : List Stmt} {t : TS} (h : xD X.RW st t) : xD X st t := fun pins s σ H D I hw =>
 wpAny_mono (h pins s σ H D (I.lP _) hw) (fun _ _ q => q.iC) fun _ _ z => False.elim z
end
section
variable {X : Cx} {st : Stmt} {rest : List Stmt} {t u : TS} {e : Expr} {te : TE} {pos : Pos}
noncomputable def pD : TS := fun D σ H => D.nx σ H
noncomputable def sC (t u : TS) : TS := fun D σ H => t { D with nx := u D } σ H
theorem bJ : xD X [] pD := fun _ _ σ H _ I h => wpAny_execs_nil ⟨σ, H, I, h⟩
theorem aJ (h1 : PS X st t) (h2 : xD X rest u) : xD X (st :: rest) (sC t u) := by
 intro pins s σ H D I h
 refine wpAny_execs_cons (cL (h1 pins s σ H { D with nx := u D } I h) fun f s1 q => ?_)
 cases f with
 | next =>
  obtain ⟨σ', H', I', q⟩ := q
  exact h2 pins s1 σ' H' D I' q
 | ret v => exact q
 | brk => exact q
 | cont => exact q
theorem aO (h1 : PS X st t) : xD X [st] t := by
 intro pins s σ H D I h
 refine wpAny_execs_cons (cL (h1 pins s σ H D I h) fun f s1 q => ?_)
 cases f with
 | next => exact wpAny_execs_nil q
 | ret v => exact q
 | brk => exact q
 | cont => exact q
noncomputable def vG : TS := fun D σ H => D.bk σ H
noncomputable def CT : TS := fun D σ H => D.ct σ H
theorem Inv.quiet {pins : List (Addr × Obj)} {σ : St} {H : Hp} {s : Shared} (I : Inv X pins σ H s) : interactive X.env = false := by simp [interactive, I.ok.kind]
noncomputable def pM (te : TE) : TS := fun D σ H => te σ H fun _ H1 => D.nx σ H1
theorem gQ (he : PE X e te) (hs : swapsWith e none pos.line X.env = pure false := by rfl) : PS X (.Expr e pos) (pM te) := by
 intro pins s σ H D I h
 exact wpAny_Expr_any (cL (he pins s σ H _ I h) fun v s1 ⟨x, H1, I1, r1, q1⟩ => ⟨σ, H1, I1, q1⟩) I.quiet hs
noncomputable def C8 (te : TE) : TS := fun D σ H => te σ H D.rt
theorem aU (he : PE X e te) : PS X (.Return (some e) pos) (C8 te) := by
 intro pins s σ H D I h
 exact wpAny_Return_some (cL (he pins s σ H _ I h) fun v s1 ⟨x, H1, I1, r1, q1⟩ => ⟨x, σ, H1, I1, r1, q1⟩)
noncomputable def zG (c : TT) (t u : TS) : TS := fun D σ H => c σ H fun b H1 => if b = true then t D σ H1 else u D σ H1
theorem dI {c : Expr} {a b : List Stmt} {tc : TT} (hc : PT X c tc) (ha : xD X a t) (hb : xD X b u) : PS X (.If c a b pos) (zG tc t u) := by
 intro pins s σ H D I h
 refine wpAny_If (cL (hc pins s σ H _ I h) fun d s1 ⟨H1, I1, q1⟩ => ?_)
 cases d with
 | true => exact ha pins s1 σ H1 D I1 q1
 | false => exact hb pins s1 σ H1 D I1 q1
noncomputable def rB : TS := fun _ _ _ => False
theorem GP : PS X st rB := fun _ _ _ _ _ _ h => h.elim
end
noncomputable abbrev TG := V → St → Hp → (St → Hp → Prop) → Prop
noncomputable abbrev JF := List V → St → Hp → (St → Hp → Prop) → Prop
noncomputable def PG (X : Cx) (target : Expr) (t : TG) : Prop :=
 ∀ (pins : List (Addr × Obj)) (s : Shared) (σ : St) (H : Hp) (v : V) (u : Value) (Q : St → Hp → Prop), Inv X pins σ H s → RelV v u → t v σ H Q →
  wpAny (model X.prog X.w) X.A (assign target X.env u) (fun _ s' => ∃ σ' H', Inv X pins σ' H' s' ∧ Q σ' H') X.xe s
noncomputable def P0 (X : Cx) (ts : List Expr) (t : JF) : Prop :=
 ∀ (pins : List (Addr × Obj)) (s : Shared) (σ : St) (H : Hp) (vs : List V) (us : List Value) (Q : St → Hp → Prop), Inv X pins σ H s → Vals vs us → t vs σ H Q →
  wpAny (model X.prog X.w) X.A (assignInOrder ((assignEach ts X.env).map (·.2)) us) (fun _ s' => ∃ σ' H', Inv X pins σ' H' s' ∧ Q σ' H') X.xe s
noncomputable abbrev OA := V → V → V → Hp → (Hp → Prop) → Prop
noncomputable def QF (X : Cx) (t : OA) : Prop :=
 ∀ (pins : List (Addr × Obj)) (s : Shared) (σ : St) (H : Hp) (o i v : V) (ov iv u : Value) (Q : Hp → Prop), Inv X pins σ H s → RelV o ov → RelV i iv → RelV v u → t o i v H Q →
  wpAny (model X.prog X.w) X.A (setItem ov iv u) (fun _ s' => ∃ H', Inv X pins σ H' s' ∧ Q H') X.xe s
section
variable {X : Cx} {pos : Pos}
noncomputable def hX (i : Nat) : TG := fun v σ H Q => Q (σ.set i (some v)) H
theorem aY {i : Nat} {x : Str} (hN : X.N.Nodup) (hi : X.N[i]? = some x) (hx : Loc X.env.scope x) (hf : X.fn x = true ∨ X.env.scope.names.lookup x = some .local := by first | exact .inl rfl | exact .inr rfl | assumption) : PG X (.Name x pos) (hX i) := by
 intro pins s σ H v u Q I r h
 exact wpAny_assign_Name (eP I hN hi hx r (fun s' I' => ⟨_, H, I', h⟩) hf)
noncomputable def IL : JF := fun vs σ H Q => vs = [] ∧ Q σ H
noncomputable def yQ (t : TG) (u : JF) : JF := fun vs σ H Q => ∃ v r, vs = v :: r ∧ t v σ H fun σ' H' => u r σ' H' Q
theorem kK : P0 X [] IL := by
 intro pins s σ H vs us Q I r h
 obtain ⟨e, h⟩ := h
 subst e
 cases r
 exact assignInOrder_nil ⟨σ, H, I, h⟩
theorem cR {e : Expr} {es : List Expr} {t : TG} {u : JF} (h1 : PG X e t) (h2 : P0 X es u)
  (hs : (assignEach (e :: es) X.env).map (·.2) = assign e X.env :: (assignEach es X.env).map (·.2) := by rfl) : P0 X (e :: es) (yQ t u) := by
 intro pins s σ H vs us Q I r h
 obtain ⟨v, vr, e1, h⟩ := h
 subst e1
 cases r with
 | cons r rr =>
  rw [hs]
  refine assignInOrder_cons (cL (h1 pins s σ H _ _ _ I r h) fun _ s1 ⟨σ1, H1, I1, q1⟩ => ?_)
  exact h2 pins s1 σ1 H1 _ _ Q I1 rr q1
noncomputable def D1 (K : PySem.W.Frag) (n : Nat) (t : JF) : TG := fun v σ H Q => ∃ a xs, v = .ref a ∧ dZ K H a xs ∧ xs.length = n ∧ t xs σ H Q
theorem NJ {es : List Expr} {k : Nat} {t : JF} {n : Nat} (hc : X.calm = true) (h : P0 X es t)
  (hn : (assignEach es X.env).length = n := by rfl) (hst : (assignEach es X.env).findIdx? (·.1) = none := by rfl) : PG X (.Tuple es k pos) (D1 X.K n t) := by
 intro pins s σ H v u Q I r hw
 obtain ⟨a, xs, e1, hq, hl, hw⟩ := hw
 subst e1
 cases r
 obtain ⟨its, rv, ht, hz⟩ := I.tuple hq
 refine assign_Tuple_tuple (I.ok.hd hc) ht (by simp [hn, ← hl, rv.length]) hst fun h' hx => ?_
 have I1 : Inv X pins σ H { s with heap := h' } := I.kept (t' := s.toks) fun b o e => hx b o (Nat.ne_of_lt (Heap.lt_size e)) e
 exact h pins _ σ H xs _ Q I1 (by simpa using rv) hw
noncomputable def C6 (to ti : TE) (t : OA) : TG := fun v σ H Q => to σ H fun o H1 => ti σ H1 fun i H2 => t o i v H2 fun H3 => Q σ H3
theorem G9 {o i : Expr} {to ti : TE} {t : OA} (ho : PE X o to) (hi : PE X i ti) (hs : QF X t)
  (ha : ∀ v, assign (.Subscript o i pos) X.env v = (do
   let ov ← holding [v] (eval o X.env)
   let iv ← holding [v, ov] (eval i X.env)
   standAt pos
   holding [v, ov, iv] (setItem ov iv v)
   release [v, ov, iv] []) := by intro _; rfl) : PG X (.Subscript o i pos) (C6 to ti t) := by
 intro pins s σ H v u Q I r h
 rw [ha]
 refine wpAny_bind (wpAny_holding (cL (ho pins s σ H _ I h) fun ov s1 ⟨x, H1, I1, r1, q1⟩ => ?_))
 refine wpAny_bind (wpAny_holding (cL (hi pins s1 σ H1 _ I1 q1) fun iv s2 ⟨y, H2, I2, r2, q2⟩ => ?_))
 refine wpAny_bind (wpAny_standAt (wpAny_bind (wpAny_holding (cL (hs pins s2 σ H2 x y v ov iv u _ I2 r1 r2 r q2) fun _ s3 ⟨H3, I3, q3⟩ => ?_))))
 exact wpAny_release ⟨σ, H3, I3, q3⟩
noncomputable def oR (te : TE) (g : TG) : TS := fun D σ H => te σ H fun x H1 => g x σ H1 D.nx
theorem vN {tg e : Expr} {te : TE} {g : TG} (he : PE X e te) (hg : PG X tg g) (hs : swapsWithSole [tg] e pos.line X.env = pure false := by rfl) (hw : swappedStores [tg] e X.env = pure none := by rfl)
  (h1 : (assignEach [tg] X.env).map (·.2) = [assign tg X.env] := by rfl) : PS X (.Assign [tg] e pos) (oR te g) := by
 intro pins s σ H D I h
 refine wpAny_Assign_stores (cL (he pins s σ H _ I h) fun v s1 ⟨x, H1, I1, r1, q1⟩ => ?_) hs hw
 rw [h1]
 exact cL (hg pins s1 σ H1 x v _ I1 r1 q1) fun _ s2 q => q
theorem bQ {i : Nat} {x : Str} {e : Expr} {te : TE} {pos' : Pos} (hN : X.N.Nodup) (hi : X.N[i]? = some x) (hx : Loc X.env.scope x) (he : PE X e te) (hs : swapsWith e (some (.Name x pos')) pos.line X.env = pure false := by rfl) (hf : X.fn x = true ∨ X.env.scope.names.lookup x = some .local := by first | exact .inl rfl | exact .inr rfl | assumption) :
  PS X (.Assign [.Name x pos'] e pos) (oR te (hX i)) := by
 intro pins s σ H D I h
 refine wpAny_Assign_Name (cL (he pins s σ H _ I h) fun v s1 ⟨y, H1, I1, r1, q1⟩ => ?_) hs
 exact eP I1 hN hi hx r1 (fun s2 I2 => ⟨_, H1, I2, q1⟩) hf
noncomputable def C4 (i j : Nat) (ta : TA) : TS := fun D σ H => ta σ H fun vs H1 => ∃ v w, vs = [v, w] ∧ D.nx ((σ.set i (some v)).set j (some w)) H1
theorem lN {i j : Nat} {x y : Str} {a b : Expr} {ta : TA} {px py pt : Pos} {kt k2 pt2} (hc : X.calm = true) (hN : X.N.Nodup) (hi : X.N[i]? = some x) (hj : X.N[j]? = some y) (hij : i ≠ j)
  (hx : X.env.scope.names.lookup x = some .local) (hy : X.env.scope.names.lookup y = some .local) (ha : PA X [a, b] ta)
  (hw : swappedStores [.Tuple [.Name x px, .Name y py] kt pt] (.Tuple [a, b] k2 pt2) X.env = pure (some [x, y]))
  (hs : swapsWithSole [.Tuple [.Name x px, .Name y py] kt pt] (.Tuple [a, b] k2 pt2) pos.line X.env = pure false := by rfl) :
  PS X (.Assign [.Tuple [.Name x px, .Name y py] kt pt] (.Tuple [a, b] k2 pt2) pos) (C4 i j ta) := by
 intro pins s σ H D I h
 rw [exec_Assign_arm]
 refine wpAny_bind (wpAny_standAt ?_)
 rw [hs]
 refine wpAny_bind (wpAny_pure ?_)
 rw [if_neg (by decide)]
 refine wpAny_bind (Tuple_ (cL (ha _ pins s σ H _ I h) fun us s1 ⟨vs, H1, I1, r1, q1⟩ => ?_))
 obtain ⟨v, w, e1, q1⟩ := q1
 subst e1
 obtain ⟨u1, u2, rfl, rv, xX⟩ : ∃ u1 u2, us = [u1, u2] ∧ RelV v u1 ∧ RelV w u2 := by
  cases r1 with
  | cons p q =>
   cases q with
   | cons p' q' =>
    cases q'
    exact ⟨_, _, rfl, p, p'⟩
 refine wpAny_newObj_type ?_ (by show 2 ≤ sizeLine; decide)
 have I2 : Inv X pins σ H1 { s1 with heap := s1.heap.push { cls := .type "tuple", data := .seq [u1, u2].toArray } } := I1.kept (t' := s1.toks) fun b o e => Heap.get?_push_of_some _ e
 rw [hw]
 refine wpAny_bind (wpAny_pure ?_)
 show wpAny (model X.prog X.w) X.A (do rule "assign.swapped-stores"; let items ← unpackItems (.ref s1.heap.objs.size) 2 none; assignInOrder [fun v => bindName X.env y v, fun v => bindName X.env x v] items.reverse; pure Flow.next) _ _ _
 refine wpAny_bind (wpAny_rule (wpAny_bind (unpackItems_tuple (items := #[u1, u2]) (I.ok.hd hc) (IsTup.new s1.heap _) fun h' hx' => ?_)))
 have I3 := I2.kept (h' := h') (t' := s1.toks) fun b o e => hx' b o (Nat.ne_of_lt (Heap.lt_size e)) e
 show wpAny _ _ (assignInOrder [fun v => bindName X.env y v, fun v => bindName X.env x v] [u2, u1] >>= fun _ => pure Flow.next) _ _ _
 refine wpAny_bind (assignInOrder_cons (wpAny_bindName (eP I3 hN hj (.inl hy) xX (fun s2 I4 => ?_) (.inr hy))))
 refine assignInOrder_cons (wpAny_bindName (eP I4 hN hi (.inl hx) rv (fun s3 I5 => assignInOrder_nil (wpAny_pure ?_)) (.inr hx)))
 rw [List.set_comm _ _ (Ne.symm hij)] at I5
 exact ⟨_, H1, I5, q1⟩
end
section
variable {X : Cx} {pos : Pos}
noncomputable def GY (c : TT) (tb : TS) : TS := fun D σ H => ∃ W : Nat → St → Hp → Prop, (∃ m, W m σ H) ∧ ∀ m σ H, W m σ H →
 c σ H fun b H1 => if b = true then ∃ N : St → Hp → Prop, (∀ σ' H', N σ' H' → ∃ m', m' < m ∧ W m' σ' H') ∧ tb { D with nx := N, ct := N, bk := D.nx } σ H1 else D.nx σ H1
theorem FA {c : Expr} {body : List Stmt} {tc : TT} {tb : TS} (hp : PassesOwn (model X.prog X.w) X.A X.env X.xe) (hc : PT X c tc) (hb : xD X body tb) : PS X (.While c body [] pos) (GY tc tb) := by
 intro pins s σ H D I h
 obtain ⟨W, ⟨m0, w0⟩, turn⟩ := h
 refine wpAny_While (codeAny_whileLoop (fun n s' => ∃ σ' H', Inv X pins σ' H' s' ∧ W n σ' H') ?_ m0 ⟨σ, H, I, w0⟩)
 rintro n s1 ⟨σ1, H1, I1, w1⟩
 refine wpAny_passesOwn hp (cL (hc pins s1 σ1 H1 _ I1 (turn n σ1 H1 w1)) fun b s2 ⟨H2, I2, q2⟩ => ?_)
 cases b with
 | true =>
  obtain ⟨N, hN, q2⟩ := q2
  rw [if_pos rfl]
  refine wpAny_passesOwn hp (cL (hb pins s2 σ1 H2 _ I2 q2) fun f s3 q3 => ?_)
  cases f with
  | next =>
   obtain ⟨σ3, H3, I3, n3⟩ := q3
   obtain ⟨m', hm, w3⟩ := hN σ3 H3 n3
   exact ⟨m', hm, σ3, H3, I3, w3⟩
  | cont =>
   obtain ⟨σ3, H3, I3, n3⟩ := q3
   obtain ⟨m', hm, w3⟩ := hN σ3 H3 n3
   exact ⟨m', hm, σ3, H3, I3, w3⟩
  | brk => exact q3
  | ret v => exact q3
 | false =>
  rw [if_neg Bool.false_ne_true]
  exact wpAny_execs_nil ⟨σ1, H2, I2, q2⟩
end
structure It where
 go : Nat → Hp → Prop
 IA : Nat → Hp → V → Hp → Prop
 stop : Nat → Hp → Prop
noncomputable def oO (X : Cx) (pins : List (Addr × Obj)) (H : Hp) (b : Addr) : Prop :=
 H b = none ∧ b ≠ X.env.locals ∧ b ∉ X.fs ∧ (b ∈ X.ex ∨ X.fN.heap.objs.size ≤ b) ∧ (∀ x c, X.env.cells.lookup x = some c → c ≠ b) ∧ ∀ p ∈ X.pn ++ pins, p.1 ≠ b
theorem Inv.qY {X : Cx} {pins : List (Addr × Obj)} {σ : St} {H H' : Hp} {s : Shared} {b : Addr} (I : Inv X pins σ H s) (hb : s.heap.objs.size ≤ b) (hn : H' b = none) : oO X pins H' b := by
 refine ⟨hn, Nat.ne_of_gt (Nat.lt_of_lt_of_le I.lt hb), I.Q3 hb, .inr (Nat.le_trans I.sz hb), fun x c e z => ?_, fun p hp z => ?_⟩
 ·obtain ⟨v, q⟩ := I.cell x c e
  exact absurd (Nat.lt_of_lt_of_le q.lt (by rw [z]; exact hb)) (Nat.lt_irrefl _)
 ·exact absurd (Nat.lt_of_lt_of_le (Heap.lt_size (I.pin p hp).1) (by rw [z]; exact hb)) (Nat.lt_irrefl _)
structure Turn (P : Program) (w : World) (K : PySem.W.Frag) (tg : Expr) (J : It) (fp : List Addr) (it : Addr) (tn : Nat → Heap → Prop) : Prop where
 mem : it ∈ fp
 obj : ∀ i h, tn i h → ∀ b ∈ fp, ∃ o, h.get? b = some o ∧ ∀ v, o.data ≠ .cell v
 keep : ∀ i h h', tn i h → (∀ b ∈ fp, ∀ o, h.get? b = some o → h'.get? b = some o) → tn i h'
 item : ∀ (X : Cx), X.prog = P → X.w = w → X.K = K → X.calm = true → ∀ (i : Nat) (pins : List (Addr × Obj)) (s : Shared) (σ : St) (H : Hp) (E : Value → Shared → Prop), Inv X pins σ H s → (∀ b ∈ fp, oO X pins H b) → tn i s.heap → J.go i H →
  wpAny (model P w) X.A (pyNext (.ref it)) (fun r s1 => ∃ u, r = some u ∧
   wpAny (model P w) X.A (letOwnedTupleGo tg (.ref it) u) (fun _ s2 => ∃ x H', Inv X pins σ H' s2 ∧ RelV x u ∧ J.IA i H x H' ∧ tn (i + 1) s2.heap ∧ ∀ b ∈ fp, H' b = none) E s1) E s
 done : ∀ (X : Cx), X.prog = P → X.w = w → X.K = K → X.calm = true → ∀ (i : Nat) (pins : List (Addr × Obj)) (s : Shared) (σ : St) (H : Hp) (E : Value → Shared → Prop), Inv X pins σ H s → (∀ b ∈ fp, oO X pins H b) → tn i s.heap → J.stop i H →
  wpAny (model P w) X.A (pyNext (.ref it)) (fun r s1 => r = none ∧ Inv X pins σ H s1) E s
 self : ∀ (A : Around) (i : Nat) (s : Shared) (Q : Value → Shared → Prop) (E : Value → Shared → Prop), tn i s.heap → Q (.ref it) s → wpAny (model P w) A (pyIter (.ref it)) Q E s
noncomputable abbrev TI := St → Hp → (It → Hp → Prop) → Prop
noncomputable def TF (X : Cx) (pins : List (Addr × Obj)) (σ : St) (tg : Expr) (R : It → Hp → Prop) (itv : Value) (s2 : Shared) : Prop :=
 ∃ (it : Addr) (fp : List Addr) (tn : Nat → Heap → Prop) (J : It) (H' : Hp), itv = .ref it ∧ Inv X pins σ H' s2 ∧ Turn X.prog X.w X.K tg J fp it tn ∧ tn 0 s2.heap ∧ (∀ b ∈ fp, oO X pins H' b) ∧ R J H'
noncomputable def PI (X : Cx) (tg iter : Expr) (wi : TI) : Prop :=
 ∀ (pins : List (Addr × Obj)) (s : Shared) (σ : St) (H : Hp) (R : It → Hp → Prop), Inv X pins σ H s → wi σ H R →
  wpAny (model X.prog X.w) X.A (eval iter X.env) (fun v s1 => wpAny (model X.prog X.w) X.A (pyIter v) (TF X pins σ tg R) X.xe s1) X.xe s
theorem yX {M : Model} {A : Around} {E : Value → Shared → Prop} {s : Shared} {tg : Expr} {it : Addr} {u : Value} {o : Obj} {n : String} {vs : Array Value} {Q : Unit → Shared → Prop} (ho : s.heap.get? it = some o) (hc : o.cls = .type n) (hd : o.data = .fields vs)
    (hn : ["enumerate", "zip", "dict_itemiterator", "dict_reverseitemiterator", "odict_iterator", "itertools.zip_longest", "itertools.pairwise"].contains n = false) (hQ : Q () s) : wpAny M A (letOwnedTupleGo tg (.ref it) u) Q E s := by
  unfold letOwnedTupleGo
  cases tg <;> first
    | exact wpAny_pure hQ
    | (cases u <;> first
        | exact wpAny_pure hQ
        | (refine wpAny_bind (wpAny_load ho ?_)
           rw [hc, hd]
           show wpAny M A (if (["enumerate", "zip", "dict_itemiterator", "dict_reverseitemiterator", "odict_iterator", "itertools.zip_longest", "itertools.pairwise"].contains n && vs[0]? == some (rawInt _)) = true then _ else _) Q E s
           rw [if_neg (by intro h; rw [hn, Bool.false_and] at h; cases h)]
           exact wpAny_pure hQ))
noncomputable def DJ (K : PySem.W.Frag) (a : Addr) : It :=
 ⟨fun i H => ∃ xs x, aX K H a xs ∧ xs[i]? = some x, fun i H x H' => H' = H ∧ ∀ xs, aX K H a xs → xs[i]? = some x, fun i H => ∃ xs, aX K H a xs ∧ xs.length ≤ i⟩
noncomputable def P4 (K : PySem.W.Frag) (a : Addr) : It :=
 ⟨fun i H => ∃ xs x, dZ K H a xs ∧ xs[i]? = some x, fun i H x H' => H' = H ∧ ∀ xs, dZ K H a xs → xs[i]? = some x, fun i H => ∃ xs, dZ K H a xs ∧ xs.length ≤ i⟩
noncomputable def JG (lo : Int) (n : Nat) : It := ⟨fun i _ => i < n, fun i H x H' => H' = H ∧ x = .int (lo + i), fun i _ => n ≤ i⟩
theorem EB {P : Program} {w : World} {K : PySem.W.Frag} {tg : Expr} (a it : Addr) : Turn P w K tg (DJ K a) [it] it (fun i h => h.IsListIter it a i) where
 mem := by simp
 obj := fun i h st b hb => by
  have e : b = it := by simpa using hb
  subst e
  obtain ⟨o, e, c, d⟩ := st
  exact ⟨o, e, fun v z => by rw [d] at z; cases z⟩
 keep := fun i h h' st k => st.at fun o e => k it (by simp) o e
 item := by
  intro X hP hw hK hc i pins s σ H E I hf st hg
  subst hP hw hK
  obtain ⟨xs, x, hq, hx⟩ := hg
  obtain ⟨its, rv, p, hz⟩ := I.list hq
  obtain ⟨u, hu, ru⟩ := rv.get hx
  obtain ⟨f0, f1, f2, f3, f4, f5⟩ := hf it (by simp)
  refine wpAny_pyNext_list_item st p.isList (x := u) (by simpa using hu) fun h' st' sb => ?_
  have I1 : Inv X pins σ H { s with heap := h' } := I.turned (t' := s.toks) (fun b o hb e => (sb.2 b hb).trans e) f0 f1 f3 f4 f5
  obtain ⟨o, e, c, d⟩ := id st'
  exact ⟨u, rfl, yX (s := { s with heap := h' }) e c d (by decide) ⟨x, H, I1, ru, ⟨rfl, fun ys hy => by rw [I.xO hy hq]; exact hx⟩, st', fun b hb => (hf b hb).1⟩⟩
 done := by
  intro X hP hw hK hc i pins s σ H E I hf st hg
  subst hP hw hK
  obtain ⟨xs, hq, hx⟩ := hg
  obtain ⟨its, rv, p, hz⟩ := I.list hq
  obtain ⟨f0, f1, f2, f3, f4, f5⟩ := hf it (by simp)
  have hl := rv.length
  exact wpAny_pyNext_list_end (I.ok.hd hc) st p.isList (by simp; omega) fun h' eb => ⟨rfl, I.turned (t' := s.toks) (fun b o hb e => eb b o hb e) f0 f1 f3 f4 f5⟩
 self := fun _ _ _ _ _ st h => wpAny_pyIter_listiter st h
theorem zH {P : Program} {w : World} {K : PySem.W.Frag} {tg : Expr} (a it : Addr) : Turn P w K tg (P4 K a) [it] it (fun i h => h.IsTupleIter it a i) where
 mem := by simp
 obj := fun i h st b hb => by
  have e : b = it := by simpa using hb
  subst e
  obtain ⟨o, e, c, d⟩ := st
  exact ⟨o, e, fun v z => by rw [d] at z; cases z⟩
 keep := fun i h h' st k => st.at fun o e => k it (by simp) o e
 item := by
  intro X hP hw hK hc i pins s σ H E I hf st hg
  subst hP hw hK
  obtain ⟨xs, x, hq, hx⟩ := hg
  obtain ⟨its, rv, p, hz⟩ := I.tuple hq
  obtain ⟨u, hu, ru⟩ := rv.get hx
  obtain ⟨f0, f1, f2, f3, f4, f5⟩ := hf it (by simp)
  refine wpAny_pyNext_tuple_item st (show s.heap.IsTuple a its.toArray from p) (x := u) (by simpa using hu) fun h' st' sb => ?_
  have I1 : Inv X pins σ H { s with heap := h' } := I.turned (t' := s.toks) (fun b o hb e => (sb.2 b hb).trans e) f0 f1 f3 f4 f5
  obtain ⟨o, e, c, d⟩ := id st'
  exact ⟨u, rfl, yX (s := { s with heap := h' }) e c d (by decide) ⟨x, H, I1, ru, ⟨rfl, fun ys hy => by rw [I.kS hy hq]; exact hx⟩, st', fun b hb => (hf b hb).1⟩⟩
 done := by
  intro X hP hw hK hc i pins s σ H E I hf st hg
  subst hP hw hK
  obtain ⟨xs, hq, hx⟩ := hg
  obtain ⟨its, rv, p, hz⟩ := I.tuple hq
  obtain ⟨f0, f1, f2, f3, f4, f5⟩ := hf it (by simp)
  have hl := rv.length
  exact wpAny_pyNext_tuple_end (I.ok.hd hc) st (show s.heap.IsTuple a its.toArray from p) (by simp; omega) fun h' eb => ⟨rfl, I.turned (t' := s.toks) (fun b o hb e => eb b o hb e) f0 f1 f3 f4 f5⟩
 self := fun _ _ _ _ _ st h => wpAny_pyIter_tupleiter st h
theorem AU {P : Program} {w : World} {K : PySem.W.Frag} {tg : Expr} (it : Addr) (lo : Int) (n : Nat) : Turn P w K tg (JG lo n) [it] it (fun i h => IsRangeIter h it (lo + (i : Nat) * 1) ((n : Int) - (i : Nat)) 1) where
 mem := by simp
 obj := fun i h st b hb => by
  have e : b = it := by simpa using hb
  subst e
  exact ⟨_, st, fun v z => by
   have z' : Data.fields _ = Data.cell v := z
   cases z'⟩
 keep := fun i h h' st k => k it (by simp) _ st
 item := by
  intro X hP hw hK hc i pins s σ H E I hf st hg
  subst hP hw hK
  obtain ⟨f0, f1, f2, f3, f4, f5⟩ := hf it (by simp)
  have W := Walks.range (prog := X.prog) (w := X.w) (I.ok.hd hc) it lo 1 n
  refine W.item i s _ _ hg st fun v h' tk hv st' kk => ?_
  obtain ⟨t, rfl⟩ := hv
  have I1 : Inv X pins σ H { s with heap := h', toks := tk } := I.turned (fun b o hb e => kk b o (by simpa using hb) e) f0 f1 f3 f4 f5
  refine ⟨_, rfl, yX (s := { s with heap := h', toks := tk }) (n := "range_iterator") st' rfl rfl (by decide) ⟨.int (lo + i), H, I1, ⟨t, ?_⟩, ⟨rfl, rfl⟩, st', fun b hb => (hf b hb).1⟩⟩
  rw [Int.mul_one]
 done := by
  intro X hP hw hK hc i pins s σ H E I hf st hg
  subst hP hw hK
  obtain ⟨f0, f1, f2, f3, f4, f5⟩ := hf it (by simp)
  exact wpAny_pyNext_range_end (I.ok.hd hc) st (by have : n ≤ i := hg; omega) fun h' eb => ⟨rfl, I.turned (t' := s.toks) (fun b o hb e => eb b o hb e) f0 f1 f3 f4 f5⟩
 self := fun _ _ _ _ _ st h => wpAny_pyIter_rangeiter st h
end L2
namespace L2
open PySem PySem.Spec PyProof.Rows
section
variable {X : Cx} {tg : Expr}
noncomputable def wO (K : PySem.W.Frag) (tl : TE) : TI := fun σ H R => tl σ H fun x H1 => ∃ a, x = .ref a ∧ (∃ xs, aX K H1 a xs) ∧ R (DJ K a) H1
noncomputable def QD (K : PySem.W.Frag) (tl : TE) : TI := fun σ H R => tl σ H fun x H1 => ∃ a, x = .ref a ∧ (∃ xs, dZ K H1 a xs) ∧ R (P4 K a) H1
theorem KH {l : Expr} {tl : TE} (hl : PE X l tl) : PI X tg l (wO X.K tl) := by
 intro pins s σ H R I h
 refine cL (hl pins s σ H _ I h) fun v s1 ⟨x, H1, I1, r1, q1⟩ => ?_
 obtain ⟨a, e, ⟨xs, hq⟩, q⟩ := q1
 subst e
 cases r1
 obtain ⟨its, rv, p, hz⟩ := I1.list hq
 refine wpAny_pyIter_list p.isList ?_
 refine ⟨s1.heap.objs.size, [s1.heap.objs.size], _, _, H1, rfl, I1.kept (t' := s1.toks) fun b o e => Heap.get?_push_of_some _ e, EB a _, ⟨_, Heap.get?_push_size _ rfl, rfl, rfl⟩, fun b hb => ?_, q⟩
 have e : b = s1.heap.objs.size := by simpa using hb
 subst e
 exact I1.qY (Nat.le_refl _) (I1.bY.fresh (Nat.le_refl _))
theorem OO {l : Expr} {tl : TE} (hl : PE X l tl) : PI X tg l (QD X.K tl) := by
 intro pins s σ H R I h
 refine cL (hl pins s σ H _ I h) fun v s1 ⟨x, H1, I1, r1, q1⟩ => ?_
 obtain ⟨a, e, ⟨xs, hq⟩, q⟩ := q1
 subst e
 cases r1
 obtain ⟨its, rv, p, hz⟩ := I1.tuple hq
 refine wpAny_pyIter_tuple (show s1.heap.IsTuple a its.toArray from p) ?_
 refine ⟨s1.heap.objs.size, [s1.heap.objs.size], _, _, H1, rfl, I1.kept (t' := s1.toks) fun b o e => Heap.get?_push_of_some _ e, zH a _, ⟨_, Heap.get?_push_size _ rfl, rfl, rfl⟩, fun b hb => ?_, q⟩
 have e : b = s1.heap.objs.size := by simpa using hb
 subst e
 exact I1.qY (Nat.le_refl _) (I1.bY.fresh (Nat.le_refl _))
theorem JB {pins : List (Addr × Obj)} {σ : St} {H : Hp} {s : Shared} {R : It → Hp → Prop} {E : Value → Shared → Prop} {lo hi : Int} {t u v : Tok} {tk : Nat} (I : Inv X pins σ H s) (h1 : -(2 ^ 62) ≤ lo) (h2 : lo < 2 ^ 62) (h3 : -(2 ^ 62) ≤ hi) (h4 : hi < 2 ^ 62)
  (q : R (JG lo (hi - lo).toNat) H) : wpAny (model X.prog X.w) X.A (pyIter (.ref s.heap.objs.size)) (TF X pins σ tg R) E { s with heap := s.heap.push { cls := .type "range", data := .fields #[.int lo t, .int hi u, .int 1 v] }, toks := tk } := by
 refine wpAny_pyIter_range (IsRange.new ..) (small_one h1 h2 h3 h4) ?_
 have I1 : Inv X pins σ H { s with heap := s.heap.push { cls := .type "range", data := .fields #[.int lo t, .int hi u, .int 1 v] }, toks := tk } := I.kept fun b o e => Heap.get?_push_of_some _ e
 refine ⟨(s.heap.push { cls := .type "range", data := .fields #[.int lo t, .int hi u, .int 1 v] }).objs.size, [(s.heap.push { cls := .type "range", data := .fields #[.int lo t, .int hi u, .int 1 v] }).objs.size], _, _, H, rfl,
  I1.kept (t' := tk) fun b o e => Heap.get?_push_of_some _ e, AU _ lo (hi - lo).toNat, ?_, fun b hb => ?_, q⟩
 ·have e1 : lo + ((0 : Nat) : Int) * 1 = lo := by simp
  have e2 : (((hi - lo).toNat : Nat) : Int) - ((0 : Nat) : Int) = Builtin.Range.rangeSize lo hi 1 := by rw [rangeSize_one]; split <;> omega
  show IsRangeIter _ _ (lo + ((0 : Nat) : Int) * 1) ((((hi - lo).toNat : Nat) : Int) - ((0 : Nat) : Int)) 1
  rw [e1, e2]
  exact Heap.get?_push_size _ rfl
 ·have e : b = (s.heap.push { cls := .type "range", data := .fields #[.int lo t, .int hi u, .int 1 v] }).objs.size := by simpa using hb
  subst e
  exact I1.qY (Nat.le_refl _) (I1.bY.fresh (Nat.le_refl _))
noncomputable def QK (ta : TA) : TI := fun σ H R => ta σ H fun vs H1 => ∃ j : Int, vs = [.int j] ∧ -(2 ^ 62) ≤ j ∧ j < 2 ^ 62 ∧ R (JG 0 j.toNat) H1
theorem fR {a : Expr} {ta : TA} {p pos : Pos} (hg : Gl X "range") (hm : X.mg "range" = none) (ha : PA X [a] ta) (hs : starEach [a] X.env = [(false, eval a X.env)] := by rfl) : PI X tg (.Call (.Name "range" p) [a] [] pos) (QK ta) := by
 intro pins s σ H R I h
 refine Call_ (nP I hg hm boot_range (PyProof.Rows.callWith_type1 (cL (ha pos pins s σ H _ I h) fun us s1 ⟨vs, H1, I1, r1, q1⟩ => ?_) hs rfl))
 obtain ⟨j, e, q1, q2, q⟩ := q1
 subst e
 cases r1 with
 | cons r rr =>
  cases rr
  obtain ⟨t, rfl⟩ := r
  exact call_range_1 (JB I1 (by omega) (by omega) q1 q2 (by simpa using q))
noncomputable def LI (wi : TI) (g : TG) (tb : TS) : TS := fun D σ H => wi σ H fun J H1 => ∃ W : Nat → Nat → St → Hp → Prop, (∃ m, W 0 m σ H1) ∧ ∀ i m σ H, W i m σ H →
 (J.stop i H ∧ D.nx σ H) ∨ (J.go i H ∧ ∃ N : St → Hp → Prop, (∀ σ' H', N σ' H' → ∃ m', m' < m ∧ W (i + 1) m' σ' H') ∧ ∀ x H', J.IA i H x H' → g x σ H' fun σ2 H2 => tb { D with nx := N, ct := N, bk := D.nx } σ2 H2)
noncomputable def nE (fp : List Addr) (h : Heap) : List (Addr × Obj) := fp.filterMap fun b => (h.get? b).map fun o => (b, o)
theorem fV {fp : List Addr} {h : Heap} {b : Addr} {o : Obj} (hb : b ∈ fp) (e : h.get? b = some o) : (b, o) ∈ nE fp h := List.mem_filterMap.mpr ⟨b, hb, by rw [e]; rfl⟩
theorem C7 {fp : List Addr} {h : Heap} {p : Addr × Obj} (hp : p ∈ nE fp h) : p.1 ∈ fp ∧ h.get? p.1 = some p.2 := by
 obtain ⟨b, hb, e⟩ := List.mem_filterMap.mp hp
 cases q : h.get? b with
 | none => rw [q] at e; cases e
 | some o =>
  rw [q] at e
  have e' : (b, o) = p := Option.some.inj e
  subst e'
  exact ⟨hb, q⟩
theorem Inv.pinned {pins : List (Addr × Obj)} {σ : St} {H : Hp} {s : Shared} {fp : List Addr} (I : Inv X pins σ H s) (hf : ∀ b ∈ fp, oO X pins H b) (ho : ∀ b ∈ fp, ∃ o, s.heap.get? b = some o ∧ ∀ v, o.data ≠ .cell v) : Inv X (pins ++ nE fp s.heap) σ H s :=
 I.oZ fun p hp => (List.mem_append.mp hp).elim (fun z => I.pin p (List.mem_append_right _ z)) fun z => by
  obtain ⟨hb, e⟩ := C7 z
  obtain ⟨f0, f1, f2, _⟩ := hf p.1 hb
  obtain ⟨o, e', d⟩ := ho p.1 hb
  rw [e] at e'; cases e'
  exact ⟨e, f0, f1, f2, d⟩
theorem Inv.kB {pins pl : List (Addr × Obj)} {σ : St} {H : Hp} {s : Shared} (I : Inv X (pins ++ pl) σ H s) : Inv X pins σ H s := I.oZ fun p hp => I.pin p (List.mem_append_right _ (List.mem_append_left _ hp))
theorem iH {iter : Expr} {body : List Stmt} {wi : TI} {g : TG} {tb : TS} {pos : Pos} (hp : PassesOwn (model X.prog X.w) X.A X.env X.xe) (hc : X.calm = true) (hi : PI X tg iter wi) (hg : PG X tg g) (hb : xD X body tb)
  (hs : ∀ x, foldedSetIterable iter X.env x = pure x := by intro _; rfl) : PS X (.For tg iter body [] pos) (LI wi g tb) := by
 intro pins s σ H D I h
 refine wpAny_For (cL (hi pins s σ H _ I h) fun v s1 h1 => cL h1 fun itv s2 h2 => ?_) hs
 obtain ⟨it, fp, tn, J, H2, e, I2, T, st2, f2, W, ⟨m0, w0⟩, turn⟩ := h2
 subst e
 have stat : ∀ {H' : Hp}, (∀ b ∈ fp, H' b = none) → ∀ b ∈ fp, oO X pins H' b := fun hn b hb => ⟨hn b hb, (f2 b hb).2⟩
 refine codeAny_forLoop_any (fun n s' => ∃ i σ' H', Inv X pins σ' H' s' ∧ tn i s'.heap ∧ (∀ b ∈ fp, H' b = none) ∧ W i n σ' H') ?_ m0 ⟨0, σ, H2, I2, st2, fun b hb => (f2 b hb).1, w0⟩
 rintro n s3 ⟨i, σ3, H3, I3, st3, fr3, w3⟩
 rcases turn i n σ3 H3 w3 with ⟨stop, qn⟩ | ⟨go, N, hN, step⟩
 ·refine wpAny_passesOwn hp (cL (T.done X rfl rfl rfl hc i pins s3 σ3 H3 X.xe I3 (stat fr3) st3 stop) fun r s4 ⟨hr, I4⟩ => ?_)
  subst hr
  exact wpAny_execs_nil ⟨σ3, H3, I4, qn⟩
 ·refine wpAny_passesOwn hp (cL (T.item X rfl rfl rfl hc i pins s3 σ3 H3 X.xe I3 (stat fr3) st3 go) fun r s4 ⟨u, hr, h4⟩ => ?_)
  subst hr
  refine wpAny_passesOwn hp (cL h4 fun _ s5 ⟨x, H5, I5, r5, y5, st5, fr5⟩ => ?_)
  have I5' := I5.pinned (stat fr5) (T.obj _ _ st5)
  refine wpAny_passesOwn hp (cL (hg _ s5 σ3 H5 x u _ I5' r5 (step x H5 y5)) fun _ s6 ⟨σ6, H6, I6, q6⟩ => ?_)
  refine wpAny_passesOwn hp (cL (hb _ s6 σ6 H6 _ I6 q6) fun f s7 q7 => ?_)
  have again : ∀ {σ7 : St} {H7 : Hp}, Inv X (pins ++ nE fp s5.heap) σ7 H7 s7 → N σ7 H7 → ∃ m, m < n ∧ ∃ i σ' H', Inv X pins σ' H' s7 ∧ tn i s7.heap ∧ (∀ b ∈ fp, H' b = none) ∧ W i m σ' H' := fun {σ7 H7} I7 n7 => by
   obtain ⟨m', hm, w7⟩ := hN σ7 H7 n7
   refine ⟨m', hm, i + 1, σ7, H7, I7.kB, T.keep _ _ _ st5 fun b hb o e => (I7.pin (b, o) (List.mem_append_right _ (List.mem_append_right _ (fV hb e)))).1, fun b hb => ?_, w7⟩
   obtain ⟨o, e, d⟩ := T.obj _ _ st5 b hb
   exact (I7.pin (b, o) (List.mem_append_right _ (List.mem_append_right _ (fV hb e)))).2.1
  cases f with
  | next => obtain ⟨σ7, H7, I7, n7⟩ := q7; exact again I7 n7
  | cont => obtain ⟨σ7, H7, I7, n7⟩ := q7; exact again I7 n7
  | brk => obtain ⟨σ7, H7, I7, q7⟩ := q7; exact ⟨σ7, H7, I7.kB, q7⟩
  | ret v => obtain ⟨x7, σ7, H7, I7, r7, q7⟩ := q7; exact ⟨x7, σ7, H7, I7.kB, r7, q7⟩
end
theorem mB {K : PySem.W.Frag} {a : Addr} {xs : List V} {g : TG} {tb : TS} {D : Ends} {σ : St} {H : Hp} (Pv : Nat → St → Hp → Prop) (h0 : Pv 0 σ H) (hl : ∀ i σ H, i ≤ xs.length → Pv i σ H → aX K H a xs)
  (hs : ∀ i x σ H, xs[i]? = some x → Pv i σ H → g x σ H fun σ2 H2 => tb { D with nx := Pv (i + 1), ct := Pv (i + 1), bk := D.nx } σ2 H2) (hd : ∀ σ H, Pv xs.length σ H → D.nx σ H) :
  ∃ W : Nat → Nat → St → Hp → Prop, (∃ m, W 0 m σ H) ∧ ∀ i m σ H, W i m σ H →
   ((DJ K a).stop i H ∧ D.nx σ H) ∨ ((DJ K a).go i H ∧ ∃ N : St → Hp → Prop, (∀ σ' H', N σ' H' → ∃ m', m' < m ∧ W (i + 1) m' σ' H') ∧ ∀ x H', (DJ K a).IA i H x H' → g x σ H' fun σ2 H2 => tb { D with nx := N, ct := N, bk := D.nx } σ2 H2) := by
 refine ⟨fun i m σ H => m = xs.length - i ∧ i ≤ xs.length ∧ Pv i σ H, ⟨xs.length, by simp, Nat.zero_le _, h0⟩, ?_⟩
 rintro i m σ H ⟨rfl, hi, p⟩
 have q := hl i σ H hi p
 by_cases hlt : i < xs.length
 ·refine .inr ⟨⟨xs, xs[i], q, by simp [hlt]⟩, Pv (i + 1), fun σ' H' p' => ⟨xs.length - (i + 1), by omega, rfl, hlt, p'⟩, fun x H' y => ?_⟩
  obtain ⟨e, y⟩ := y
  subst e
  exact hs i x σ _ (y xs q) p
 ·have e : i = xs.length := by omega
  subst e
  exact .inl ⟨⟨xs, q, Nat.le_refl _⟩, hd σ H p⟩
theorem kI {lo : Int} {n : Nat} {g : TG} {tb : TS} {D : Ends} {σ : St} {H : Hp} (Pv : Nat → St → Hp → Prop) (h0 : Pv 0 σ H)
  (hs : ∀ i σ H, i < n → Pv i σ H → g (.int (lo + i)) σ H fun σ2 H2 => tb { D with nx := Pv (i + 1), ct := Pv (i + 1), bk := D.nx } σ2 H2) (hd : ∀ σ H, Pv n σ H → D.nx σ H) :
  ∃ W : Nat → Nat → St → Hp → Prop, (∃ m, W 0 m σ H) ∧ ∀ i m σ H, W i m σ H →
   ((JG lo n).stop i H ∧ D.nx σ H) ∨ ((JG lo n).go i H ∧ ∃ N : St → Hp → Prop, (∀ σ' H', N σ' H' → ∃ m', m' < m ∧ W (i + 1) m' σ' H') ∧ ∀ x H', (JG lo n).IA i H x H' → g x σ H' fun σ2 H2 => tb { D with nx := N, ct := N, bk := D.nx } σ2 H2) := by
 refine ⟨fun i m σ H => m = n - i ∧ i ≤ n ∧ Pv i σ H, ⟨n, by simp, Nat.zero_le _, h0⟩, ?_⟩
 rintro i m σ H ⟨rfl, hi, p⟩
 by_cases hlt : i < n
 ·refine .inr ⟨hlt, Pv (i + 1), fun σ' H' p' => ⟨n - (i + 1), by omega, rfl, hlt, p'⟩, fun x H' y => ?_⟩
  obtain ⟨e, y⟩ := y
  subst e y
  exact hs i σ _ hlt p
 ·have e : i = n := by omega
  subst e
  exact .inl ⟨Nat.le_refl _, hd σ H p⟩
end L2
namespace L2
open PySem PySem.Spec PyProof.Rows
noncomputable abbrev R2 := V → V → Hp → VK → Prop
noncomputable def iK (X : Cx) (f : Value → Value → Sem Value) (r : R2) : Prop :=
 ∀ (pins : List (Addr × Obj)) (s : Shared) (σ : St) (H : Hp) (x y : V) (v u : Value) (Q : VK), Inv X pins σ H s → RelV x v → RelV y u → r x y H Q →
  wpAny (model X.prog X.w) X.A (f v u) (EP X pins σ Q) X.xe s
noncomputable def SA (X : Cx) (f : Value → Sem Value) (r : V → Hp → VK → Prop) : Prop :=
 ∀ (pins : List (Addr × Obj)) (s : Shared) (σ : St) (H : Hp) (x : V) (v : Value) (Q : VK), Inv X pins σ H s → RelV x v → r x H Q →
  wpAny (model X.prog X.w) X.A (f v) (EP X pins σ Q) X.xe s
noncomputable def eL (X : Cx) (f : Value) (r : List V → Hp → VK → Prop) : Prop :=
 ∀ (pins : List (Addr × Obj)) (s : Shared) (σ : St) (H : Hp) (xs : List V) (us : List Value) (Q : VK), Inv X pins σ H s → Vals xs us → r xs H Q →
  wpAny (model X.prog X.w) X.A (call f us) (EP X pins σ Q) X.xe s
noncomputable def R8 (X : Cx) (r : V → Hp → (Bool → Hp → Prop) → Prop) : Prop :=
 ∀ (pins : List (Addr × Obj)) (s : Shared) (σ : St) (H : Hp) (x : V) (v : Value) (Q : Bool → Hp → Prop), Inv X pins σ H s → RelV x v → r x H Q →
  wpAny (model X.prog X.w) X.A (truthy v) (TP X pins σ Q) X.xe s
noncomputable def pV (r : R2) (ta tb : TE) : TE := fun σ H Q => ta σ H fun x H1 => tb σ H1 fun y H2 => r x y H2 Q
noncomputable def PZ (r : V → Hp → VK → Prop) (ta : TE) : TE := fun σ H Q => ta σ H fun x H1 => r x H1 Q
noncomputable def rI (C : Int → Int → Prop) (g : Int → Int → V) : R2 := fun x y H Q => ∃ i j, x = .int i ∧ y = .int j ∧ C i j ∧ Q (g i j) H
noncomputable def EK (g : Int → Int → V) : R2 := fun x y H Q => ∃ i j, x = .int i ∧ y = .int j ∧ Q (g i j) H
noncomputable def rU (g : Int → V) : V → Hp → VK → Prop := fun x H Q => ∃ i, x = .int i ∧ Q (g i) H
section
variable {X : Cx} {a b c : Expr} {ta tb tc : TE} {pos : Pos}
theorem M5 (ha : PE X a ta) (hb : PE X b tb) {pins : List (Addr × Obj)} {s : Shared} {σ : St} {H : Hp} {R : V → V → Hp → Prop} (I : Inv X pins σ H s)
  (h : ta σ H fun x H1 => tb σ H1 fun y H2 => R x y H2) {Q : Value → Shared → Prop} {f : Value → Value → Sem Value}
  (hf : ∀ v u s2 x y H2, Inv X pins σ H2 s2 → RelV x v → RelV y u → R x y H2 → wpAny (model X.prog X.w) X.A (f v u) Q X.xe s2) :
  wpAny (model X.prog X.w) X.A (eval a X.env) (fun v s₁ => wpAny (model X.prog X.w) X.A (eval b X.env) (fun u s₂ => wpAny (model X.prog X.w) X.A (f v u) Q X.xe s₂) X.xe s₁) X.xe s := by
 refine cL (ha pins s σ H _ I h) fun v s1 ⟨x, H1, I1, r1, q1⟩ => ?_
 refine cL (hb pins s1 σ H1 _ I1 q1) fun u s2 ⟨y, H2, I2, r2, q2⟩ => ?_
 exact hf v u s2 x y H2 I2 r1 r2 q2
theorem bH {op : Operator} {r : R2} (ho : iK X (binaryOp op) r) (ha : PE X a ta) (hb : PE X b tb) : PE X (.BinOp a op b pos) (pV r ta tb) := by
 intro pins s σ H Q I h
 exact wpAny_BinOp (M5 ha hb I h fun v u s2 x y H2 I2 rx ry q => ho pins s2 σ H2 x y v u Q I2 rx ry q)
theorem xQ {op : UnaryOp} {r : V → Hp → VK → Prop} (ho : SA X (unaryOp op) r) (ha : PE X a ta) : PE X (.UnaryOp op a pos) (PZ r ta) := by
 intro pins s σ H Q I h
 exact UnaryOp_ (cL (ha pins s σ H _ I h) fun v s1 ⟨x, H1, I1, r1, q1⟩ => ho pins s1 σ H1 x v Q I1 r1 q1)
theorem Q5 {f : Value → Value → Sem Value} {C : Int → Int → Prop} {g : Int → Int → Int}
  (rule : ∀ (i j : Int) (t u : Tok) (s : Shared) (Q : Value → Shared → Prop) (E : Value → Shared → Prop), C i j → Q (.int (g i j) s.toks) { s with toks := s.toks + 1 } → wpAny (model X.prog X.w) X.A (f (.int i t) (.int j u)) Q E s) :
  iK X f (rI C fun i j => .int (g i j)) := by
 intro pins s σ H x y v u Q I rx ry h
 obtain ⟨i, j, rfl, rfl, hc, q⟩ := h
 obtain ⟨t, rfl⟩ := rx
 obtain ⟨t', rfl⟩ := ry
 exact rule i j t t' s _ _ hc ⟨.int (g i j), H, I.tok _, ⟨_, rfl⟩, q⟩
theorem Q0 {f : Value → Value → Sem Value} {g : Int → Int → Int}
  (rule : ∀ (i j : Int) (t u : Tok) (s : Shared) (Q : Value → Shared → Prop) (E : Value → Shared → Prop), Q (.int (g i j) s.toks) { s with toks := s.toks + 1 } → wpAny (model X.prog X.w) X.A (f (.int i t) (.int j u)) Q E s) :
  iK X f (EK fun i j => .int (g i j)) := by
 intro pins s σ H x y v u Q I rx ry h
 obtain ⟨i, j, rfl, rfl, q⟩ := h
 obtain ⟨t, rfl⟩ := rx
 obtain ⟨t', rfl⟩ := ry
 exact rule i j t t' s _ _ ⟨.int (g i j), H, I.tok _, ⟨_, rfl⟩, q⟩
theorem LY {f : Value → Value → Sem Value} {g : Int → Int → Bool}
  (rule : ∀ (i j : Int) (t u : Tok) (s : Shared) (Q : Value → Shared → Prop) (E : Value → Shared → Prop), Q (.bool (g i j)) s → wpAny (model X.prog X.w) X.A (f (.int i t) (.int j u)) Q E s) :
  iK X f (EK fun i j => .bl (g i j)) := by
 intro pins s σ H x y v u Q I rx ry h
 obtain ⟨i, j, rfl, rfl, q⟩ := h
 obtain ⟨t, rfl⟩ := rx
 obtain ⟨t', rfl⟩ := ry
 exact rule i j t t' s _ _ ⟨.bl (g i j), H, I, rfl, q⟩
noncomputable def NS (i j : Int) : Prop := (-(2 ^ 64) < i ∧ i < 2 ^ 64) ∨ (-(2 ^ 64) < j ∧ j < 2 ^ 64)
theorem NS.ok {i j : Int} (h : NS i j) : IntMulOk i j := by
 rcases h with ⟨h1, h2⟩ | ⟨h1, h2⟩
 ·exact .of_left (intBits_le_64 h1 h2)
 ·exact .of_right (intBits_le_64 h1 h2)
theorem eZ : iK X (binaryOp .Add) (EK fun i j => .int (i + j)) := Q0 fun _ _ _ _ _ _ _ q => add_int q
theorem nH : iK X (binaryOp .Sub) (EK fun i j => .int (i - j)) := Q0 fun _ _ _ _ _ _ _ q => sub_int q
theorem qG : iK X (binaryOp .Mult) (rI NS fun i j => .int (i * j)) := Q5 fun _ _ _ _ _ _ _ hc q => mul_int q hc.ok
theorem i3 : iK X (binaryOp .Mod) (rI (fun _ j => 0 < j) fun i j => .int (i % j)) := Q5 fun i j _ _ _ _ _ hc q => by
 have h1 : (0 : Int) < j := hc
 exact mod_int' (by omega) (by rw [Int.fmod_eq_emod_of_nonneg i (by omega)]; exact q)
theorem TM {f : Value → Sem Value} {g : Int → Int}
  (rule : ∀ (i : Int) (t : Tok) (s : Shared) (Q : Value → Shared → Prop) (E : Value → Shared → Prop), Q (.int (g i) s.toks) { s with toks := s.toks + 1 } → wpAny (model X.prog X.w) X.A (f (.int i t)) Q E s) :
  SA X f (rU fun i => .int (g i)) := by
 intro pins s σ H x v Q I rx h
 obtain ⟨i, rfl, q⟩ := h
 obtain ⟨t, rfl⟩ := rx
 exact rule i t s _ _ ⟨.int (g i), H, I.tok _, ⟨_, rfl⟩, q⟩
theorem pT : SA X (unaryOp .USub) (rU fun i => .int (-i)) := TM fun _ _ _ _ _ q => neg_int q
end
noncomputable def Q4 : V → V → Bool
 | .aZ, .aZ => true | .aZ, .int _ => true | .int _, .aZ => true | .aZ, .bl _ => true | .bl _, .aZ => true | .aZ, .str _ => true | .str _, .aZ => true
 | .int _, .int _ => true | .bl _, .bl _ => true | .str _, .str _ => true | .CJ _, .CJ _ => true
 | .int _, .str _ => true | .str _, .int _ => true | .bl _, .str _ => true | .str _, .bl _ => true
 | _, _ => false
noncomputable def NP : R2 := fun x y H Q => Q4 x y = true ∧ Q (.bl (decide (x = y))) H
noncomputable def PX : R2 := fun x y H Q => Q4 x y = true ∧ Q (.bl (!decide (x = y))) H
theorem CL {i j : Int} : decide (V.int i = V.int j) = (i == j) := by
 rw [Bool.eq_iff_iff]
 simp
theorem HP {i j : Bool} : decide (V.bl i = V.bl j) = (i == j) := by
 rw [Bool.eq_iff_iff]
 simp
theorem CH {i j : Str} : decide (V.str i = V.str j) = (i == j) := by
 rw [Bool.eq_iff_iff]
 simp
theorem B7 {i j : Array UInt8} : decide (V.CJ i = V.CJ j) = (i.toList == j.toList) := by
 rw [Bool.eq_iff_iff]
 cases i
 cases j
 simp
section
variable {X : Cx} {a b c : Expr} {ta tb tc : TE} {pos : Pos}
theorem bG {pins : List (Addr × Obj)} {σ : St} {H : Hp} {s : Shared} {Q : VK} {k k' : Bool} (I : Inv X pins σ H s) (q : Q (.bl k) H) (e : k = k') : EP X pins σ Q (.bool k') s := by
 subst e
 exact ⟨.bl k, H, I, rfl, q⟩
theorem jI : iK X (compareOp .Eq) NP := by
 intro pins s σ H x y v u Q I rx ry h
 obtain ⟨hs, q⟩ := h
 cases x with
 | aZ =>
  cases rx
  cases y with
  | aZ => cases ry; exact PySem.EqNone.eq_none_none (bG I q (by simp))
  | bl j => cases ry; exact PySem.EqNone.eq_none_bool (bG I q (by simp))
  | int j => obtain ⟨t', rfl⟩ := ry; exact PySem.EqNone.eq_none_int (bG I q (by simp))
  | str j => obtain ⟨t', rfl⟩ := ry; exact PySem.EqNone.eq_none_str (bG I q (by simp))
  | _ => exact absurd (show false = true from hs) Bool.false_ne_true
 | bl i =>
  cases rx
  cases y with
  | aZ => cases ry; exact PySem.EqNone.eq_bool_none (bG I q (by simp))
  | bl j => cases ry; exact eq_bool (bG I q HP)
  | str j => obtain ⟨t', rfl⟩ := ry; exact PySem.EqMixed.eq_bool_str (bG I q (by simp))
  | _ => exact absurd (show false = true from hs) Bool.false_ne_true
 | int i =>
  obtain ⟨t, rfl⟩ := rx
  cases y with
  | aZ => cases ry; exact PySem.EqNone.eq_int_none (bG I q (by simp))
  | int j => obtain ⟨t', rfl⟩ := ry; exact eq_int (bG I q CL)
  | str j => obtain ⟨t', rfl⟩ := ry; exact PySem.EqMixed.eq_int_str (bG I q (by simp))
  | _ => exact absurd (show false = true from hs) Bool.false_ne_true
 | str i =>
  obtain ⟨t, rfl⟩ := rx
  cases y with
  | aZ => cases ry; exact PySem.EqNone.eq_str_none (bG I q (by simp))
  | bl j => cases ry; exact PySem.EqMixed.eq_str_bool (bG I q (by simp))
  | int j => obtain ⟨t', rfl⟩ := ry; exact PySem.EqMixed.eq_str_int (bG I q (by simp))
  | str j => obtain ⟨t', rfl⟩ := ry; exact eq_str (bG I q CH)
  | _ => exact absurd (show false = true from hs) Bool.false_ne_true
 | CJ i =>
  obtain ⟨t, rfl⟩ := rx
  cases y with
  | CJ j => obtain ⟨t', rfl⟩ := ry; exact PySem.W.eq_bytes (bG I q B7)
  | _ => exact absurd (show false = true from hs) Bool.false_ne_true
 | _ => cases y <;> exact absurd (show false = true from hs) Bool.false_ne_true
theorem yN : iK X (compareOp .NotEq) PX := by
 intro pins s σ H x y v u Q I rx ry h
 obtain ⟨hs, q⟩ := h
 cases x with
 | aZ =>
  cases rx
  cases y with
  | aZ => cases ry; exact PySem.EqNone.ne_none_none (bG I q (by simp))
  | bl j => cases ry; exact PySem.EqNone.ne_none_bool (bG I q (by simp))
  | int j => obtain ⟨t', rfl⟩ := ry; exact PySem.EqNone.ne_none_int (bG I q (by simp))
  | str j => obtain ⟨t', rfl⟩ := ry; exact PySem.EqNone.ne_none_str (bG I q (by simp))
  | _ => exact absurd (show false = true from hs) Bool.false_ne_true
 | bl i =>
  cases rx
  cases y with
  | aZ => cases ry; exact PySem.EqNone.ne_bool_none (bG I q (by simp))
  | bl j => cases ry; exact ne_bool (bG I q (congrArg not HP))
  | str j => obtain ⟨t', rfl⟩ := ry; exact PySem.EqMixed.ne_bool_str (bG I q (by simp))
  | _ => exact absurd (show false = true from hs) Bool.false_ne_true
 | int i =>
  obtain ⟨t, rfl⟩ := rx
  cases y with
  | aZ => cases ry; exact PySem.EqNone.ne_int_none (bG I q (by simp))
  | int j => obtain ⟨t', rfl⟩ := ry; exact ne_int (bG I q (congrArg not CL))
  | str j => obtain ⟨t', rfl⟩ := ry; exact PySem.EqMixed.ne_int_str (bG I q (by simp))
  | _ => exact absurd (show false = true from hs) Bool.false_ne_true
 | str i =>
  obtain ⟨t, rfl⟩ := rx
  cases y with
  | aZ => cases ry; exact PySem.EqNone.ne_str_none (bG I q (by simp))
  | bl j => cases ry; exact PySem.EqMixed.ne_str_bool (bG I q (by simp))
  | int j => obtain ⟨t', rfl⟩ := ry; exact PySem.EqMixed.ne_str_int (bG I q (by simp))
  | str j => obtain ⟨t', rfl⟩ := ry; exact ne_str (bG I q (congrArg not CH))
  | _ => exact absurd (show false = true from hs) Bool.false_ne_true
 | CJ i =>
  obtain ⟨t, rfl⟩ := rx
  cases y with
  | CJ j => obtain ⟨t', rfl⟩ := ry; exact PySem.W.ne_bytes (bG I q (congrArg not B7))
  | _ => exact absurd (show false = true from hs) Bool.false_ne_true
 | _ => cases y <;> exact absurd (show false = true from hs) Bool.false_ne_true
theorem qR : iK X (compareOp .Lt) (EK fun i j => .bl (decide (i < j))) := LY fun _ _ _ _ _ _ _ q => lt_int q
theorem B9 : iK X (compareOp .LtE) (EK fun i j => .bl (decide (i ≤ j))) := LY fun _ _ _ _ _ _ _ q => le_int q
theorem oM : iK X (compareOp .Gt) (EK fun i j => .bl (decide (j < i))) := LY fun _ _ _ _ _ _ _ q => gt_int q
theorem QC : iK X (compareOp .GtE) (EK fun i j => .bl (decide (j ≤ i))) := LY fun _ _ _ _ _ _ _ q => ge_int q
theorem kP : iK X (compareOp .In) (fun x y H Q => ∃ i j, x = .str i ∧ y = .str j ∧ Q (.bl (!(Builtin.Str.occurrences j i 0 j.length 1).isEmpty)) H) := by
 intro pins s σ H x y v u Q I rx ry h
 obtain ⟨i, j, rfl, rfl, q⟩ := h
 obtain ⟨t, rfl⟩ := rx
 obtain ⟨t', rfl⟩ := ry
 exact in_str (bG I q rfl)
theorem nB : iK X (compareOp .Is) (fun x y H Q => y = .aZ ∧ Q (.bl (decide (x = .aZ))) H) := by
 intro pins s σ H x y v u Q I rx ry h
 obtain ⟨rfl, q⟩ := h
 cases ry
 refine is_none_gen (bG I q ?_)
 cases x <;> first
  | (cases rx; rfl)
  | (obtain ⟨t, rfl⟩ := rx; rfl)
theorem bA (b : Expr) {op : CmpOp} (h : op ≠ .In := by decide) (h2 : op ≠ .NotIn := by decide) : behindInMarks op b = false := by
 have e1 : (op == CmpOp.In) = false := by cases op <;> first | rfl | exact absurd rfl h
 have e2 : (op == CmpOp.NotIn) = false := by cases op <;> first | rfl | exact absurd rfl h2
 cases b <;> simp [behindInMarks, e1, e2]
theorem gM {op : CmpOp} {r : R2} (ho : iK X (compareOp op) r) (ha : PE X a ta) (hb : PE X b tb) (hm : behindInMarks op b = false) : PE X (.Compare a [op] [b] pos) (pV r ta tb) := by
 intro pins s σ H Q I h
 exact wpAny_Compare1 (M5 ha hb I h fun v u s2 x y H2 I2 rx ry q => ho pins s2 σ H2 x y v u Q I2 rx ry q) hm
noncomputable def lE (t : TE) : TT := fun σ H Q => t σ H fun x H' => ∃ k, x = .bl k ∧ Q k H'
theorem aS {op : CmpOp} {r : R2} (ho : iK X (compareOp op) r) (ha : PE X a ta) (hb : PE X b tb) (hm : behindInMarks op b = false) : PT X (.Compare a [op] [b] pos) (lE (pV r ta tb)) := by
 intro pins s σ H Q I h
 refine wpAny_isTrue_Compare1 (cL (ha pins s σ H _ I h) fun v s1 ⟨x, H1, I1, r1, q1⟩ => cL (hb pins s1 σ H1 _ I1 q1) fun u s2 ⟨y, H2, I2, r2, q2⟩ =>
  cL (ho pins s2 σ H2 x y v u _ I2 r1 r2 q2) fun c s3 ⟨z, H3, I3, r3, k, e, q3⟩ => ?_) hm
 subst e
 cases r3
 exact wpAny_truthy_bool ⟨H3, I3, q3⟩
noncomputable def m7 (r r' : R2) (ta tb tc : TE) : TE := fun σ H Q => ta σ H fun x H1 => tb σ H1 fun y H2 => r x y H2 fun z H3 => ∃ k, z = .bl k ∧
 (if k = true then tc σ H3 fun w' H4 => r' y w' H4 Q else Q (.bl false) H3)
theorem qW {op op' : CmpOp} {r r' : R2} (ho : iK X (compareOp op) r) (ho' : iK X (compareOp op') r') (ha : PE X a ta) (hb : PE X b tb) (hc : PE X c tc)
  (hm : lastMarks [op, op'] [b, c] = false := by with_unfolding_all rfl) : PE X (.Compare a [op, op'] [b, c] pos) (m7 r r' ta tb tc) := by
 intro pins s σ H Q I h
 refine Compare_chain (cL (ha pins s σ H _ I h) fun v s1 ⟨x, H1, I1, r1, q1⟩ => chain_link (cL (hb pins s1 σ H1 _ I1 q1) fun u s2 ⟨y, H2, I2, r2, q2⟩ =>
  cL (ho pins s2 σ H2 x y v u _ I2 r1 r2 q2) fun d s3 ⟨z, H3, I3, r3, k, e, q3⟩ => ?_)) hm
 subst e
 cases r3
 refine wpAny_truthy_bool ?_
 cases k with
 | false => exact ite_ff ⟨.bl false, H3, I3, rfl, q3⟩
 | true => exact ite_tt (chain_last (cL (hc pins s3 σ H3 _ I3 q3) fun w' s4 ⟨z', H4, I4, r4, q4⟩ => ho' pins s4 σ H4 y z' u w' Q I4 r2 r4 q4))
theorem HE {op op' : CmpOp} {r r' : R2} (ho : iK X (compareOp op) r) (ho' : iK X (compareOp op') r') (ha : PE X a ta) (hb : PE X b tb) (hc : PE X c tc)
  (hm : lastMarks [op, op'] [b, c] = false := by with_unfolding_all rfl) : PT X (.Compare a [op, op'] [b, c] pos) (lE (m7 r r' ta tb tc)) := by
 intro pins s σ H Q I h
 refine isTrue_chain (cL (ha pins s σ H _ I h) fun v s1 ⟨x, H1, I1, r1, q1⟩ => test_link (cL (hb pins s1 σ H1 _ I1 q1) fun u s2 ⟨y, H2, I2, r2, q2⟩ =>
  cL (ho pins s2 σ H2 x y v u _ I2 r1 r2 q2) fun d s3 ⟨z, H3, I3, r3, k, e, q3⟩ => ?_)) hm
 subst e
 cases r3
 refine wpAny_truthy_bool ?_
 cases k with
 | false =>
  obtain ⟨k', e', q'⟩ := q3
  cases e'
  exact ite_ff ⟨H3, I3, q'⟩
 | true =>
  refine ite_tt (test_last (cL (hc pins s3 σ H3 _ I3 q3) fun w' s4 ⟨z', H4, I4, r4, q4⟩ => cL (ho' pins s4 σ H4 y z' u w' _ I4 r2 r4 q4) fun d' s5 ⟨z2, H5, I5, r5, k2, e2, q5⟩ => ?_))
  subst e2
  cases r5
  exact wpAny_truthy_bool ⟨H5, I5, q5⟩
noncomputable def QV (K : PySem.W.Frag) (x : V) (H : Hp) (k : Bool) : Prop :=
 match x with
 | .aZ => k = false
 | .bl b => k = b
 | .int i => k = (i != 0)
 | .str y => y.length ≤ sizeLine ∧ k = ((y.length : Int) != 0)
 | .CJ y => y.size ≤ sizeLine ∧ k = ((y.size : Int) != 0)
 | .ref p => (∃ xs, aX K H p xs ∧ k = !xs.isEmpty) ∨ (∃ xs, dZ K H p xs ∧ k = !xs.isEmpty) ∨ ∃ kvs ep, H p = some (.dK kvs ep) ∧ k = !kvs.isEmpty
 | _ => False
theorem y3 {κ : Type} {kvs : List (κ × V)} {vs : List (κ × Value)} (r : KV kvs vs) : (!vs.isEmpty) = !kvs.isEmpty := by
 cases r <;> rfl
theorem qV {xs : List V} {its : List Value} (r : Vals xs its) : (!its.toArray.isEmpty) = !xs.isEmpty := by
 cases r <;> simp
theorem jS : (sizeLine : Nat) < 2 ^ 63 := by rw [sizeLine_eq]; decide
theorem NM : R8 X (fun x H Q => ∃ k, QV X.K x H k ∧ Q k H) := by
 intro pins s σ H x v Q I rx h
 obtain ⟨k, e, q⟩ := h
 have hl := jS
 have hs : sizeLine = 16777216 := sizeLine_eq
 cases x with
 | aZ =>
  cases rx
  have e' : k = false := e
  subst e'
  exact truthy_none ⟨H, I, q⟩
 | bl b =>
  cases rx
  have e' : k = b := e
  subst e'
  exact wpAny_truthy_bool ⟨H, I, q⟩
 | int i =>
  obtain ⟨t, rfl⟩ := rx
  have e' : k = (i != 0) := e
  subst e'
  exact PySem.P.truthy_int ⟨H, I, q⟩
 | str y =>
  obtain ⟨t, rfl⟩ := rx
  obtain ⟨hy, e'⟩ : y.length ≤ sizeLine ∧ k = ((y.length : Int) != 0) := e
  subst e'
  exact PySem.P.truthy_str (by omega) ⟨H, I.tok _, q⟩
 | CJ y =>
  obtain ⟨t, rfl⟩ := rx
  obtain ⟨hy, e'⟩ : y.size ≤ sizeLine ∧ k = ((y.size : Int) != 0) := e
  subst e'
  exact PySem.W.truthy_bytes (by omega) ⟨H, I.tok _, q⟩
 | ref p =>
  cases rx
  have e' : (∃ xs, aX X.K H p xs ∧ k = !xs.isEmpty) ∨ (∃ xs, dZ X.K H p xs ∧ k = !xs.isEmpty) ∨ ∃ kvs ep, H p = some (.dK kvs ep) ∧ k = !kvs.isEmpty := e
  rcases e' with ⟨xs, hx, e'⟩ | ⟨xs, hx, e'⟩ | ⟨kvs, ep, hx, e'⟩
  ·subst e'
   obtain ⟨its, r, pl, hz⟩ := I.list hx
   have hlen := r.length
   exact wpAny_truthy_list pl.isList (by simp only [List.size_toArray]; omega) ⟨H, I.tok _, by rw [qV r]; exact q⟩
  ·subst e'
   obtain ⟨its, r, pl, hz⟩ := I.tuple hx
   have hlen := r.length
   exact truthy_tuple pl (by simp only [List.size_toArray]; omega) ⟨H, I.tok _, by rw [qV r]; exact q⟩
  ·subst e'
   obtain ⟨hz, hS, vs, r, m⟩ : kvs.length ≤ sizeLine ∧ (p == sysModules) = false ∧ ∃ vs, KV kvs vs ∧ s.heap.DictAt (kH X.prog X.w) p vs ep := I.bY p _ hx
   have hlen : kvs.length = vs.length := Paired.length r
   exact wpAny_truthy_dict hS m.dictOf (by omega) ⟨H, I.tok _, by rw [y3 r]; exact q⟩
 | _ => exact (show False from e).elim
theorem IT (ha : PE X a ta) (he : ∀ whole, isTrue a X.env whole = (do let v ← whole; standAt a.pos; holding [v] (truthy v))) :
  PT X a (fun σ H Q => ta σ H fun x H' => ∃ k, QV X.K x H' k ∧ Q k H') := by
 intro pins s σ H Q I h
 exact isTrue_plain (cL (ha pins s σ H _ I h) fun v s1 ⟨x, H1, I1, r1, q1⟩ => NM pins s1 σ H1 x v Q I1 r1 q1) (he _)
theorem aN : iK X (binaryOp .Add) (fun x y H Q => ∃ i j, x = .str i ∧ y = .str j ∧ i.length + j.length ≤ sizeLine ∧ Q (.str (i ++ j)) H) := by
 intro pins s σ H x y v u Q I rx ry h
 obtain ⟨i, j, rfl, rfl, hz, q⟩ := h
 obtain ⟨t, rfl⟩ := rx
 obtain ⟨t', rfl⟩ := ry
 exact add_str (fun t' tk => ⟨.str (i ++ j), H, I.tok _, ⟨_, rfl⟩, q⟩) hz
theorem vals1 {x : V} {us : List Value} (r : Vals [x] us) : ∃ u, us = [u] ∧ RelV x u := by
 cases r with
 | cons r1 r2 => cases r2; exact ⟨_, rfl, r1⟩
theorem vals2 {x y : V} {us : List Value} (r : Vals [x, y] us) : ∃ u w', us = [u, w'] ∧ RelV x u ∧ RelV y w' := by
 cases r with
 | cons r1 r2 =>
  cases r2 with
  | cons r3 r4 => cases r4; exact ⟨_, _, rfl, r1, r3⟩
theorem wW : eL X (.builtin "abs") (fun xs H Q => ∃ i, xs = [.int i] ∧ Q (.int (if i < 0 then -i else i)) H) := by
 intro pins s σ H xs us Q I r h
 obtain ⟨i, rfl, q⟩ := h
 obtain ⟨u, rfl, t, rfl⟩ := vals1 r
 exact call_abs_int fun u tk => ⟨.int (if i < 0 then -i else i), H, I.tok _, ⟨_, rfl⟩, q⟩
theorem tG (hc : X.calm = true) : eL X (.builtin "max") (fun xs H Q => ∃ i j, xs = [.int i, .int j] ∧ Q (.int (if j > i then j else i)) H) := by
 intro pins s σ H xs us Q I r h
 obtain ⟨i, j, rfl, q⟩ := h
 obtain ⟨u, w', rfl, ⟨t, rfl⟩, ⟨t', rfl⟩⟩ := vals2 r
 refine max_two_ints (I.ok.hd hc) fun h' tk k => ⟨_, H, I.kept k, ?_, q⟩
 by_cases hj : j > i
 ·rw [if_pos hj, if_pos hj]; exact ⟨_, rfl⟩
 ·rw [if_neg hj, if_neg hj]; exact ⟨_, rfl⟩
theorem DS (hc : X.calm = true) : eL X (.builtin "min") (fun xs H Q => ∃ i j, xs = [.int i, .int j] ∧ Q (.int (if j < i then j else i)) H) := by
 intro pins s σ H xs us Q I r h
 obtain ⟨i, j, rfl, q⟩ := h
 obtain ⟨u, w', rfl, ⟨t, rfl⟩, ⟨t', rfl⟩⟩ := vals2 r
 refine min_two_ints (I.ok.hd hc) fun h' tk k => ⟨_, H, I.kept k, ?_, q⟩
 by_cases hj : j < i
 ·rw [if_pos hj, if_pos hj]; exact ⟨_, rfl⟩
 ·rw [if_neg hj, if_neg hj]; exact ⟨_, rfl⟩
theorem vK : eL X (.type "str") (fun xs H Q => ∃ i, xs = [.int i] ∧ i.natAbs.log2 < 1920 ∧ Q (.str (toString i)) H) := by
 intro pins s σ H xs us Q I r h
 obtain ⟨i, rfl, hz, q⟩ := h
 obtain ⟨u, rfl, t, rfl⟩ := vals1 r
 exact PySem.P.str_of_int hz ⟨.str _, H, I.tok _, ⟨_, rfl⟩, q⟩
end
end L2
namespace L2
open PySem PySem.Spec PyProof.Rows
structure NY (h : Heap) (x dx C : Addr) (mA : Str → Option Value) : Prop where
 obj : h.get? x = some (PySem.W.instObj C dx)
 ns : h.Ns1 dx mA
 ne : dx ≠ x
theorem sM {h : Heap} {dx : Addr} {mA : Str → Option Value} (n : h.Ns1 dx mA) : ∃ od, h.get? dx = some od ∧ ∀ name, PySem.W.lookIn name od = some (mA name) := by
 obtain ⟨o, es, ep, ho, hd, hk, _, hm⟩ := n
 refine ⟨o, ho, fun name => ?_⟩
 have e := hm name
 unfold nsFind findBy at e
 rw [← Array.find?_toList] at e
 unfold PySem.W.lookIn
 rw [hd]
 dsimp only
 split
 ·rename_i y q
  rw [q] at e
  exact congrArg some e
 ·rename_i q
  rw [q] at e
  have a : es.toList.any (·.refKey) = false := by
   rw [List.any_eq_false]
   intro y hy
   obtain ⟨z, t, hkey⟩ := hk y (Array.mem_toList_iff.mp hy)
   simp [DictEntry.refKey, hkey]
  have a' : ¬ es.toList.any (·.refKey) = true := by rw [a]; exact Bool.false_ne_true
  rw [if_neg a']
  exact congrArg some e
theorem NY.look {h : Heap} {x dx C : Addr} {mA : Str → Option Value} (I : NY h x dx C mA) : ∃ od, PySem.W.InstAt h x (PySem.W.instObj C dx) C (some od) ∧ ∀ name, PySem.W.lookIn name od = some (mA name) :=
 let ⟨od, ho, hl⟩ := sM I.ns
 ⟨od, ⟨I.obj, rfl, rfl, ho⟩, hl⟩
section
variable {prog : Program} {w : World} {A : Around} {E : Value → Shared → Prop} {s : Shared} {K : PySem.W.Frag} {x dx C f : Addr} {mA : Str → Option Value} {name : Str} {v : Value}
end
theorem zP.some_of {v : V} {o : Option Value} (r : zP (some v) o) : ∃ u, o = some u ∧ RelV v u := by
 cases o with
 | none => exact (show False from r).elim
 | some u => exact ⟨u, rfl, r⟩
theorem EH {v : V} {u : Value} (r : RelV v u) : PySem.W.handedIn u = true := by
 cases v with
 | aZ => cases (show u = Value.none from r); rfl
 | bl b => cases (show u = Value.bool b from r); rfl
 | int i => obtain ⟨t, e⟩ := (show ∃ t, u = Value.int i t from r); cases e; rfl
 | str x => obtain ⟨t, e⟩ := (show ∃ t, u = Value.str x t from r); cases e; rfl
 | CJ b => obtain ⟨t, e⟩ := (show ∃ t, u = Value.bytes b t from r); cases e; rfl
 | NC b => obtain ⟨t, e⟩ := (show ∃ t, u = Value.float b t from r); cases e; rfl
 | ref a => cases (show u = Value.ref a from r); rfl
 | ty n => cases (show u = Value.type n from r); rfl
section
variable {P : Program} {w : World} {H H' : Hp} {h h' : Heap} {a C dx : Addr} {fs fs' : List (Str × V)}
theorem KD (bY : jL P w H h) (e : H a = some (.ins C dx fs)) : ∃ mA, NY h a dx C mA ∧ (∀ f, zP (fs.lookup f) (mA f)) ∧ PySem.Within mA (fs.map (·.1)) ∧ fs.length ≤ 1000 ∧ H dx = some (.own a) := by
 obtain ⟨d, z, ne, ob, mA, n, r, q⟩ := (show dJ P w H h a (.ins C dx fs) from bY a _ e)
 exact ⟨mA, ⟨ob, n, ne⟩, r, q, z, d⟩
end
structure SD (K : PySem.W.Frag) (C : Addr) : Prop where
 pg : PySem.W.plainGet K C Str.empty = true
 hd : PySem.W.hasDictIn K C = true
 po : PySem.W.plainOver K C = true
 sa : PySem.W.findIn K (.ref C) "__setattr__" = some (some (.builtin "object.__setattr__"))
theorem SD.get {K : PySem.W.Frag} {C : Addr} (c : SD K C) (f : Str) : PySem.W.plainGet K C f = true := c.pg
noncomputable def zN (K : PySem.W.Frag) (C : Addr) (f : Str) : Prop := PySem.W.findIn K (.ref C) f = some none
section
variable {X : Cx} {pins : List (Addr × Obj)} {σ : St} {H : Hp} {s : Shared} {a C dx : Addr} {fs : List (Str × V)} {f : Str} {v : V} {A : Around} {E : Value → Shared → Prop}
theorem JO {prog : Program} {w : World} {env : Env} {e : Expr} {f : Str} {pos : Pos} {s : Shared} {Q : Value → Shared → Prop} (hb : attributeBase e f env (eval e env) = eval e env)
  (h : wpAny (model prog w) A (eval e env) (fun o s₁ => wpAny (model prog w) A (getAttr o f true) Q E s₁) E s) : wpAny (model prog w) A (eval (.Attribute e f pos) env) Q E s :=
 Attribute_any_ h (by rw [arm_eval_Attribute, hb])
end
section
variable {X : Cx} {o e value : Expr} {f : Str} {pos pos' tpos : Pos} {ta tv : TE}
end
section
variable {X : Cx} {pins : List (Addr × Obj)} {σ : St} {H : Hp} {s : Shared} {A : Around} {E : Value → Shared → Prop} {Q : Value → Shared → Prop} {c : Value} {b : Bool}
inductive lR (K : PySem.W.Frag) (H : Hp) : V → Value → Prop where
 | aZ : lR K H .aZ (.type "NoneType")
 | bl (x : Bool) : lR K H (.bl x) (.type "bool")
 | int (i : Int) : lR K H (.int i) (.type "int")
 | str (x : Str) : lR K H (.str x) (.type "str")
 | NC (x : UInt64) : lR K H (.NC x) (.type "float")
 | lst {a : Addr} {xs : List V} (e : H a = some (.lst xs)) : lR K H (.ref a) (.type "list")
 | AK {a : Addr} {o : Obj} {xs : List V} (e : H a = some (.AK o (.lst xs))) : lR K H (.ref a) (.type "list")
 | tup {a : Addr} {xs : List V} (e : H a = some (.tup xs)) : lR K H (.ref a) (.type "tuple")
 | dK {a : Addr} {kvs : List (Key × V)} {ep : Nat} (e : H a = some (.dK kvs ep)) : lR K H (.ref a) (.type "dict")
 | dT {a : Addr} {kvs : List (List Key × V)} (e : H a = some (.dT kvs)) : lR K H (.ref a) (.type "dict")
 | ins {a C dx : Addr} {fs : List (Str × V)} (e : H a = some (.ins C dx fs)) (cl : SD K C) (ha : PySem.W.findIn K (.ref C) "__class__" = some (some (.builtin "object.__class__")))
   (hn : PySem.W.specialIn K (.builtin "object.__class__") "__get__" = some (some (.builtin "getset_descriptor.__get__"))) (htk : PySem.W.takesIn K (.builtin "object.__class__") = some true)
   (hm : PySem.W.mroIn K C (.type "object") = some true) : lR K H (.ref a) (.ref C)
theorem D6 {x : V} {u t : Value} (I : Inv X pins σ H s) (rx : RelV x u) (ty : lR X.K H x t) (e : PySem.W.kitOne X.K t c = some b) (h : ∀ tk, Q (.bool b) { s with toks := tk }) :
  wpAny (model X.prog X.w) A (call (.builtin "isinstance") [u, c]) Q E s := by
 cases ty with
 | aZ => cases (show u = Value.none from rx); exact PySem.W.kia_one PySem.W.kitx_none I.mG True.intro e (fun z => nomatch z) h
 | bl y => cases (show u = Value.bool y from rx); exact PySem.W.kia_one PySem.W.kitx_bool I.mG True.intro e (fun z => nomatch z) h
 | int i => obtain ⟨t, q⟩ := (show ∃ t, u = Value.int i t from rx); cases q; exact PySem.W.kia_one PySem.W.kitx_int I.mG True.intro e (fun z => nomatch z) h
 | str y => obtain ⟨t, q⟩ := (show ∃ t, u = Value.str y t from rx); cases q; exact PySem.W.kia_one PySem.W.kitx_str I.mG True.intro e (fun z => nomatch z) h
 | NC y => obtain ⟨t, q⟩ := (show ∃ t, u = Value.float y t from rx); cases q; exact PySem.W.kia_one PySem.W.kitx_float I.mG True.intro e (fun z => nomatch z) h
 | @lst a xs ea =>
  cases (show u = Value.ref a from rx)
  obtain ⟨_, _, n, _, h1⟩ := (show dJ X.prog X.w H s.heap a (.lst xs) from I.bY a _ ea)
  exact PySem.W.kia_one PySem.W.kitx_list I.mG ⟨_, h1, rfl⟩ e (fun z => nomatch z) h
 | @AK a ob xs ea =>
  cases (show u = Value.ref a from rx)
  obtain ⟨_, _, _, n, _, h1⟩ := (show dJ X.prog X.w H s.heap a (.AK ob (.lst xs)) from I.bY a _ ea)
  exact PySem.W.kia_one PySem.W.kitx_list I.mG ⟨_, h1, rfl⟩ e (fun z => nomatch z) h
 | @tup a xs ea =>
  cases (show u = Value.ref a from rx)
  obtain ⟨_, _, _, p⟩ := (show dJ X.prog X.w H s.heap a (.tup xs) from I.bY a _ ea)
  obtain ⟨⟨o, h1, h2, _⟩, _⟩ := p
  exact PySem.W.kia_one PySem.W.kitx_tuple I.mG ⟨o, h1, h2⟩ e (fun z => nomatch z) h
 | @dK a kvs ep ea =>
  cases (show u = Value.ref a from rx)
  obtain ⟨_, _, vs, _, p⟩ := (show dJ X.prog X.w H s.heap a (.dK kvs ep) from I.bY a _ ea)
  obtain ⟨o, es, h1, h2, _⟩ := p
  exact PySem.W.kia_one PySem.W.kitx_dict I.mG ⟨o, h1, h2.1⟩ e (fun z => nomatch z) h
 | @dT a kvs ea =>
  cases (show u = Value.ref a from rx)
  obtain ⟨_, _, xs, _, o, es, ep, h1, h2, _⟩ := (show dJ X.prog X.w H s.heap a (.dT kvs) from I.bY a _ ea)
  exact PySem.W.kia_one PySem.W.kitx_dict I.mG ⟨o, h1, h2.1⟩ e (fun z => nomatch z) h
 | @ins a C dx fs ea cl ha hn htk hm =>
  cases (show u = Value.ref a from rx)
  obtain ⟨mA, O, _⟩ := KD I.bY ea
  obtain ⟨od, J, _⟩ := O.look
  exact PySem.W.kia_one (PySem.W.kitx_own (cl.get _) cl.hd ha hn htk hm) I.mG J e (fun z => nomatch z) h
end
end L2
namespace L2
open PySem PySem.Spec PyProof.Rows
structure eA (k : Nat) (A : Around) : Prop where
 hd : A.handled = none
 dp : A.depth + 3 * k + 5 < recursionLimit
 un : A.units + 16 * k + 200 < cLine
 gd : A.guards = some []
theorem eA.mono {j k : Nat} {A : Around} (r : eA k A) (h : j ≤ k) : eA j A := ⟨r.hd, by have := r.dp; omega, by have := r.un; omega, r.gd⟩
theorem eA.deeper {k : Nat} {A : Around} (r : eA (k + 1) A) (env : Env) : eA k (A.deeper env) :=
 ⟨r.hd, by have := r.dp; show A.depth + 1 + 3 * k + 5 < _; omega, by have := r.un; show A.units + 3 + 16 * k + 200 < _; omega, r.gd⟩
theorem zO {A : Around} {C : Addr} {us : List Value} {kw : List (Str × Value)} : (A.under (.builtin "type.__call__" ⟨.ref C :: us, kw⟩)).depth = A.depth + 1 := by
 first | rfl | simp [Around.under, Code.weight, Code.isCreation, Code.isGuard, Code.isCaller, Code.frames, Code.isFrame, guardIds]
theorem AG {A : Around} {C : Addr} {us : List Value} {kw : List (Str × Value)} : (A.under (.builtin "type.__call__" ⟨.ref C :: us, kw⟩)).units = A.units + 1 := by
 first | rfl | simp [Around.under, Code.cUnits, Code.frames, Code.isFrame]
theorem wV {A : Around} {C : Addr} {us : List Value} {kw : List (Str × Value)} : (A.under (.builtin "type.__call__" ⟨.ref C :: us, kw⟩)).guards = A.guards := by
 cases A with | mk d f h g u => cases h <;> cases g <;> first | rfl | simp [Around.under, Code.guards, Code.isGuard, guardIds, pushGuards]
theorem eA.make {k : Nat} {A : Around} (r : eA (k + 1) A) (C : Addr) (us : List Value) (kw : List (Str × Value)) : eA k (A.under (.builtin "type.__call__" ⟨.ref C :: us, kw⟩)) :=
 ⟨r.hd, by have := r.dp; rw [zO]; omega, by have := r.un; rw [AG]; omega, by rw [wV]; exact r.gd⟩
theorem eA.depth {k : Nat} {A : Around} (r : eA k A) : A.depth < recursionLimit := by have := r.dp; omega
theorem eA.vD {k : Nat} {A : Around} (r : eA k A) : A.units < cLine := by have := r.un; omega
noncomputable def jN : TA := fun _ H Q => Q [] H
noncomputable def dH (ta : TE) (tr : TA) : TA := fun σ H Q => ta σ H fun x H1 => tr σ H1 fun xs H2 => Q (x :: xs) H2
section
variable {X : Cx} {e : Expr} {es : List Expr} {te : TE} {t : TA} {pos : Pos}
theorem aD : PA X [] jN := fun _ _ _ _ H Q I h => Calls.spliced_nil ⟨[], H, I, .nil, h⟩
theorem aA (ha : PE X e te) (hr : PA X es t) (hs : starEach (e :: es) X.env = (false, eval e X.env) :: starEach es X.env := by rfl) : PA X (e :: es) (dH te t) := by
 intro pos pins s σ H Q I h
 rw [hs]
 show wpAny _ _ (spliced ((false, eval e X.env) :: backTo pos (starEach es X.env))) _ _ s
 refine Calls.spliced_cons (cL (ha pins s σ H _ I h) fun u s1 ⟨x, H1, I1, r1, q1⟩ => ?_)
 exact cL (hr pos pins s1 σ H1 _ I1 q1) fun us s2 ⟨xs, H2, I2, r2, q2⟩ => ⟨x :: xs, H2, I2, .cons r1 r2, q2⟩
noncomputable def zF (t : TA) : TE := fun σ H Q => t σ H fun xs H1 => xs.length ≤ sizeLine ∧ ∀ p, H1 p = none → Q (.ref p) (upd H1 p (.tup xs))
noncomputable def yF (t : TA) : TE := fun σ H Q => t σ H fun xs H1 => xs.length ≤ sizeLine ∧ ∀ p, H1 p = none → Q (.ref p) (upd H1 p (.lst xs))
theorem iE {x1} (h : PA X es t) : PE X (.Tuple es x1 pos) (zF t) := by
 intro pins s σ H Q I hq
 refine wpAny_Tuple_spliced (cL (h pos pins s σ H _ I hq) fun us s1 ⟨xs, H1, I1, r, z, q⟩ => ⟨by rw [← r.length]; exact z, ?_⟩)
 have hf : H1 s1.heap.objs.size = none := I1.bY.fresh (Nat.le_refl _)
 refine ⟨.ref s1.heap.objs.size, upd H1 s1.heap.objs.size (.tup xs), I1.laid (t' := s1.toks) (fun b u e => Heap.get?_push_of_some _ e) (Nat.le_refl _) ?_, rfl, q _ hf⟩
 exact ⟨z, us, r, mV.new _ _⟩
theorem d7 (h : PA X es t) : PE X (.List es pos) (yF t) := by
 intro pins s σ H Q I hq
 refine wpAny_List_spliced (cL (h pos pins s σ H _ I hq) fun us s1 ⟨xs, H1, I1, r, z, q⟩ => ⟨by rw [← r.length]; exact z, ?_⟩)
 have hf : H1 s1.heap.objs.size = none := I1.bY.fresh (Nat.le_refl _)
 refine ⟨.ref s1.heap.objs.size, upd H1 s1.heap.objs.size (.lst xs), I1.laid (t' := s1.toks) (fun b u e => Heap.get?_push_of_some _ e) (Nat.le_refl _) ?_, rfl, q _ hf⟩
 exact ⟨z, us, 0, r, Heap.get?_push_size _ rfl⟩
end
noncomputable abbrev Sp := List V → Hp → VK → XK → Prop
noncomputable abbrev DC := List Env → Hp → Shared → XK → Value → Shared → Prop
structure AA (P : Program) (w : World) (K : PySem.W.Frag) (mg : Str → Option Value) (base : Heap) (A : Around) (outer : List Env) (s : Shared) (H : Hp) : Prop where
 frames : A.frames = some outer
 mod : Mod K mg base
 bs : ∀ b o, base.get? b = some o → s.heap.get? b = some o ∧ H b = none
 HJ : base.objs.size ≤ s.heap.objs.size
 mD : s.heap.FunFrames base outer
 JM : ∀ b ∈ sD outer, H b = none
 bY : jL P w H s.heap
 bare : AllBare s.gens
noncomputable def CE (outer : List Env) (P : Program) (w : World) (H : Hp) (s : Shared) (Q : VK) (u : Value) (s' : Shared) : Prop :=
 ∃ v H', s'.os = s.os ∧ AllBare s'.gens ∧ Un (sD outer) [] H H' s.heap s'.heap ∧ jL P w H' s'.heap ∧ RelV v u ∧ Q v H'
noncomputable def CR (CX : DC) (outer : List Env) (P : Program) (w : World) (H : Hp) (s : Shared) (Q : VK) (E : XK) (r : Result) (s' : Shared) : Prop :=
 match r with
 | .ok (.ret u) => CE outer P w H s Q u s'
 | .ok _ => False
 | .error e => CX outer H s E e s'
structure aT (P : Program) (w : World) (K : PySem.W.Frag) (mg : Str → Option Value) (base : Heap) (CX : DC) (k : Nat) (f : Addr) (fd : FuncData) (ps : List Str) (sp : Sp) : Prop where
 len : ∀ vs H Q E, sp vs H Q E → vs.length = ps.length
 run : ∀ (A : Around) (outer : List Env) (s : Shared) (H : Hp) (args : Args) (us : List Value) (vs : List V) (Q : VK) (E : XK), eA k A → AA P w K mg base A outer s H → BindsTo s fd args (ps.zip us) → Vals vs us → sp vs H Q E →
  codeAny (model P w) A (.call (.ref f) args) (CR CX outer P w H s Q E) s
theorem AA.make {P : Program} {w : World} {K : PySem.W.Frag} {mg : Str → Option Value} {base : Heap} {A : Around} {outer : List Env} {s : Shared} {H : Hp} (e : AA P w K mg base A outer s H) (C : Addr) (us : List Value) (kw : List (Str × Value)) :
  AA P w K mg base (A.under (.builtin "type.__call__" ⟨.ref C :: us, kw⟩)) outer s H := ⟨by first | exact e.frames | (simpa [Around.under, Code.envs, Code.isFrame, pushEnvs] using e.frames), e.mod, e.bs, e.HJ, e.mD, e.JM, e.bY, e.bare⟩
section
variable {X : Cx} {pins : List (Addr × Obj)} {σ : St} {H : Hp} {s s' : Shared}
theorem Inv.IE (I : Inv X pins σ H s) : AA X.prog X.w X.K X.mg X.base X.A X.stack s H :=
 ⟨I.ok.frames, I.ok.mod, I.bs, Nat.le_trans I.ok.HJ I.sz, I.stack, I.o9, I.bY, I.bare⟩
theorem Inv.after {Q : VK} {u : Value} (I : Inv X pins σ H s) (h : CE X.stack X.prog X.w H s Q u s') : EP X pins σ Q u s' := by
 obtain ⟨v, H', os, bare, un, bY, r, q⟩ := h
 obtain ⟨hh, g, d, t, os'⟩ := s'
 obtain rfl : os' = s.os := os
 exact ⟨v, H', I.call (h' := hh) (g' := g) (d' := d) (t' := t) (ch := []) un bY bare (fun b z => absurd z (by simp)), r, q⟩
end
noncomputable def mR (sp : Sp) (dvs : List V) (E : XK) (t : TA) : TE := fun σ H Q => t σ H fun vs H1 => sp (vs ++ dvs) H1 Q E
noncomputable def Binds (K : PySem.W.Frag) (fd : FuncData) (ps : List Str) (ds : List Value) : Prop :=
 ∀ (s : Shared) (us : List Value), K.In s.heap → (us ++ ds).length = ps.length → BindsTo s fd ⟨us, []⟩ (ps.zip (us ++ ds))
theorem Binds.all {K : PySem.W.Frag} {fd : FuncData} {ps : List Str} (h : ∀ us : List Value, us.length = ps.length → bindArgs fd ⟨us, []⟩ = pure (ps.zip us)) : Binds K fd ps [] := fun s us _ hl => by
 rw [List.append_nil] at hl ⊢
 exact .of_eq (h us hl)
noncomputable def Passes (CX : DC) (X : Cx) (E : XK) : Prop := ∀ (pins : List (Addr × Obj)) (σ : St) (H : Hp) (s : Shared) (e : Value) (s' : Shared), Inv X pins σ H s → CX X.stack H s E e s' → X.xe e s'
section
variable {X : Cx} {CX : DC} {k : Nat} {f C : Addr} {fd : FuncData} {ps : List Str} {sp : Sp} {dvs : List V} {ds : List Value} {E : XK} {x m : Str} {p pos apos : Pos} {e o : Expr} {es : List Expr} {ta : TE} {t : TA}
theorem N9 {pins : List (Addr × Obj)} {σ : St} {H : Hp} {s : Shared} {Q : VK} {us : List Value} {vs : List V} (F : aT X.prog X.w X.K X.mg X.base CX k f fd ps sp) (hr : eA k X.A) (hb : Binds X.K fd ps ds) (hd : Vals dvs ds) (hx : Passes CX X E)
  (I : Inv X pins σ H s) (r : Vals vs us) (h : sp (vs ++ dvs) H Q E) : wpAny (model X.prog X.w) X.A (call (.ref f) us) (EP X pins σ Q) X.xe s := by
 have r2 : Vals (vs ++ dvs) (us ++ ds) := r.append hd
 have hl : (us ++ ds).length = ps.length := by rw [← r2.length]; exact F.len _ _ _ _ h
 refine wpAny_call (codeAny_mono (F.run X.A X.stack s H ⟨us, []⟩ (us ++ ds) (vs ++ dvs) Q E hr I.IE (hb s us I.mG hl) r2 h) fun r s' hq => ?_)
 cases r with
 | error e => exact hx pins σ H s e s' I hq
 | ok fl =>
  cases fl with
  | ret u => exact I.after hq
  | next => exact False.elim hq
  | brk => exact False.elim hq
  | cont => exact False.elim hq
theorem uI (F : aT X.prog X.w X.K X.mg X.base CX k f fd ps sp) (hr : eA k X.A) (hg : Gl X x) (hm : X.mg x = some (.ref f)) (hk : PySem.W.keepIn X.K (.ref f) = true) (hb : Binds X.K fd ps ds) (hd : Vals dvs ds) (hx : Passes CX X E)
  (ha : PA X (e :: es) t) (hdb : (x == ("__debug__" : Str)) = false := by decide) (he : starEach (e :: es) X.env = (false, eval e X.env) :: starEach es X.env := by rfl) (hpl : (backTo pos (starEach es X.env)).any (·.1) = false := by rfl) :
  PE X (.Call (.Name x p) (e :: es) [] pos) (mR sp dvs E t) := by
 intro pins s σ H Q I h
 refine wpAny_Call_Name_kw (mM I hg hm ?_ hdb)
 refine PySem.W.callWith_K (h₀ := X.base) I.ok.mod.RG hk (cL (ha pos pins s σ H _ I h) fun us s1 ⟨vs, H1, I1, r, q⟩ => ⟨I1.mG, ?_⟩) he hpl
 exact N9 F hr hb hd hx I1 r q
end
section
variable {X : Cx} {CX : DC} {k : Nat} {f C : Addr} {fd : FuncData} {ps ks : List Str} {sp : Sp} {E : XK} {x m : Str} {p pos apos kpos : Pos} {e o : Expr} {es : List Expr} {kws : List Keyword} {te ta : TE} {t tk : TA} {nm : Option Str}
variable {g : List Value → List Value → List Value} {gV : List V → List V → List V}
end
structure aW (N P : List Str) (sc : Scope) : Prop where
 kind : sc.kind = .function
 co : sc.isCoroutine = false
 gen : sc.isGenerator = false
 nd : N.Nodup
 pre : N.take P.length = P
 par : ∀ x ∈ P, sc.names.lookup x = some .local ∨ sc.names.lookup x = some .cell
 NQ : ∀ y ∈ sc.names, y.2 ≠ .free
theorem sQ {kindOf : Str → Option NameKind} {x : Str} : ∀ {binds : List (Str × Value)} {m : Str → Option Value}, (∀ v, (x, v) ∉ binds) → bindL kindOf binds m x = m x
 | [], _, _ => rfl
 | (n, v) :: r, m, h => by
  unfold bindL
  rw [sQ fun w hw => h w (List.mem_cons_of_mem _ hw)]
  split
  ·have : x ≠ n := by rintro rfl; exact h v List.mem_cons_self
   simp [this]
  ·rfl
theorem tS {kindOf : Str → Option NameKind} {x : Str} : ∀ {binds : List (Str × Value)} {m : Str → Option Value}, (∀ v, (x, v) ∉ binds) → bindC kindOf binds m x = m x
 | [], _, _ => rfl
 | (n, v) :: r, m, h => by
  unfold bindC
  rw [tS fun w hw => h w (List.mem_cons_of_mem _ hw)]
  split
  ·rfl
  ·have : x ≠ n := by rintro rfl; exact h v List.mem_cons_self
   simp [this]
theorem tM {kindOf : Str → Option NameKind} {x : Str} {v : Value} : ∀ {P : List Str} {vs : List Value} {i : Nat} {m : Str → Option Value}, P.Nodup → P[i]? = some x → vs[i]? = some v → kindOf x = some .local →
  bindL kindOf (P.zip vs) m x = some v
 | [], _, _, _, _, h, _, _ => by simp at h
 | _ :: _, [], _, _, _, _, h, _ => by simp at h
 | p :: P, w :: vs, 0, m, nd, h1, h2, hk => by
  simp at h1 h2; subst h1; subst h2
  show bindL kindOf ((p, w) :: P.zip vs) m p = _
  unfold bindL
  rw [sQ fun v hv => (List.nodup_cons.mp nd).1 (List.of_mem_zip hv).1, if_pos hk]
  simp
 | p :: P, w :: vs, i + 1, m, nd, h1, h2, hk => by
  show bindL kindOf ((p, w) :: P.zip vs) m x = _
  unfold bindL
  exact tM (i := i) (List.nodup_cons.mp nd).2 (by simpa using h1) (by simpa using h2) hk
theorem sI {kindOf : Str → Option NameKind} {x : Str} {v : Value} : ∀ {P : List Str} {vs : List Value} {i : Nat} {m : Str → Option Value}, P.Nodup → P[i]? = some x → vs[i]? = some v → kindOf x ≠ some .local →
  bindC kindOf (P.zip vs) m x = some v
 | [], _, _, _, _, h, _, _ => by simp at h
 | _ :: _, [], _, _, _, _, h, _ => by simp at h
 | p :: P, w :: vs, 0, m, nd, h1, h2, hk => by
  simp at h1 h2; subst h1; subst h2
  show bindC kindOf ((p, w) :: P.zip vs) m p = _
  unfold bindC
  rw [tS fun v hv => (List.nodup_cons.mp nd).1 (List.of_mem_zip hv).1, if_neg hk]
  simp
 | p :: P, w :: vs, i + 1, m, nd, h1, h2, hk => by
  show bindC kindOf ((p, w) :: P.zip vs) m x = _
  unfold bindC
  exact sI (i := i) (List.nodup_cons.mp nd).2 (by simpa using h1) (by simpa using h2) hk
noncomputable def start (N : List Str) (vs : List V) : St := vs.map some ++ List.replicate (N.length - vs.length) none
noncomputable def sG (CX : DC) (P : Program) (w : World) (K : PySem.W.Frag) (mg : Str → Option Value) (base : Heap) (N : List Str) (qual : Str) (scope : Scope) (f : Addr) (cd : Value) (A : Around) (outer : List Env) (s : Shared) (H : Hp) (E : XK) : Cx where
 prog := P
 w := w
 K := K
 mg := mg
 base := base
 A := A.deeper (envOfC qual scope s.heap.objs.size f cd)
 N := N
 fN := s
 HR := H
 env := envOfC qual scope s.heap.objs.size f cd
 outer := outer
 stack := envOfC qual scope s.heap.objs.size f cd :: outer
 ex := []
 calm := true
 fn := fun _ => true
 pn := []
 xe := fun e s' => wpAny (model P w) (A.deeper (envOfC qual scope s.heap.objs.size f cd)) (leaving (envOfC qual scope s.heap.objs.size f cd) e) (fun _ s'' => CX outer H s E e s'') (fun e' s'' => CX outer H s E e' s'') s'
theorem vY {sc : Scope} {n : Nat} {x : Str} (h : sc.names.lookup x = some .cell) : ∃ c, (cellsFrom n sc.names []).lookup x = some c := by
 have q := PySem.W.cellsFrom_some sc.names n [] (.inl h)
 exact Option.isSome_iff_exists.mp q
theorem ET {CX : DC} {P : Program} {w : World} {K : PySem.W.Frag} {mg : Str → Option Value} {base : Heap} {N ps : List Str} {qual : Str} {scope : Scope} {f : Addr} {cd : Value} {A : Around} {outer : List Env} {s s1 : Shared} {H : Hp} {E : XK} {us : List Value} {vs : List V}
  (S : aW N ps scope) (hd : A.handled = none) (e0 : AA P w K mg base A outer s H) (hl : vs.length = ps.length) (r : Vals vs us)
  (x : InCallC s s.heap.objs.size (bindL (envOfC qual scope s.heap.objs.size f cd).kindOf (ps.zip us) fun _ => none) (cellsFrom (s.heap.objs.size + 1) scope.names []) (bindC (envOfC qual scope s.heap.objs.size f cd).kindOf (ps.zip us) fun _ => none) s1) :
  Inv (sG CX P w K mg base N qual scope f cd A outer s H E) [] (start N vs) H s1 := by
 have hpl : ps.length ≤ N.length := by have := congrArg List.length S.pre; rw [List.length_take] at this; omega
 obtain ⟨h1, tk, rfl, hk⟩ := x.done
 have DQ : ∀ b : Addr, b ∉ (sG CX P w K mg base N qual scope f cd A outer s H E).ex := fun b z => absurd (show b ∈ ([] : List Addr) from z) (by simp)
 refine ⟨⟨e0.mod, S.kind, rfl, rfl, Nat.le_refl _, fun y z c h1 h2 => ?_, fun y hy => ?_, fun y c _ h => ?_, fun _ => hd, Around.frames_deeper e0.frames, .inr ⟨rfl, rfl⟩, fun b z => absurd z (DQ b), e0.bs, e0.HJ, fun b _ _ => DQ b, fun b z => absurd z (DQ b), e0.mD, e0.JM⟩,
  rfl, e0.bare, Un.kept hk, ⟨_, x.toInCall.ns, fun i y v h1 h2 h3 => ?_⟩, fun y c h => ⟨_, x.cell y c h⟩, e0.bY.fresh (Nat.le_refl _), fun y c h => ?_, fun p hp => absurd (show p ∈ ([] : List (Addr × Obj)) from hp) (by simp), e0.bY.kept hk, ?_⟩
 ·exact name_of_addr x.apart (PySem.mem_of_lookup h1) (PySem.mem_of_lookup h2)
 ·have hy : scope.names.lookup y = some .cell ∨ scope.names.lookup y = some .free := hy
  rcases hy with hy | hy
  ·exact vY hy
  ·exact absurd rfl (S.NQ _ (PySem.mem_of_lookup hy))
 ·exact Nat.le_of_lt (x.above y c (PySem.mem_of_lookup h))
 ·have hi : i < vs.length := by
   unfold start at h2
   by_cases hi : i < vs.length
   ·exact hi
   ·rw [List.getElem?_append_right (by simpa using hi)] at h2
    rw [List.getElem?_replicate] at h2
    split at h2 <;> cases h2
  have ha : vs[i]? = some v := by
   unfold start at h2
   rw [List.getElem?_append_left (by simpa using hi), List.getElem?_map] at h2
   cases e : vs[i]? with
   | none => rw [e] at h2; cases h2
   | some a => rw [e] at h2; cases h2; rfl
  obtain ⟨u, hu, rv⟩ := r.get ha
  have hp : ps[i]? = some y := by
   rw [← S.pre, List.getElem?_take_of_lt (by omega)]; exact h1
  have ndP : ps.Nodup := by rw [← S.pre]; exact S.nd.sublist (List.take_sublist _ _)
  refine ⟨u, rv, ?_⟩
  rcases S.par y (List.mem_of_getElem? hp) with k | k
  ·exact .inl ⟨k, tM ndP hp hu k⟩
  ·obtain ⟨c, e⟩ := vY (n := s.heap.objs.size + 1) k
   refine .inr ⟨.inl k, c, e, ?_⟩
   have q := x.cell y c e
   rw [sI ndP hp hu (by show scope.names.lookup y ≠ _; rw [k]; decide)] at q
   exact q
 ·exact e0.bY.fresh (Nat.le_of_lt (x.above y c (PySem.mem_of_lookup h)))
 ·unfold start
  show _ = N.length
  rw [List.length_append, List.length_map, List.length_replicate]
  omega
theorem MG {CX : DC} {P : Program} {w : World} {K : PySem.W.Frag} {mg : Str → Option Value} {base : Heap} {k : Nat} {f : Addr} {name qual : Str} {params : Arguments} {body : List Stmt} {scope : Scope} {dV kV doc pm cdv ct oc : Value} {an od : Option Addr}
  {osl : Array (Option Value)} {N ps : List Str} {sp : Sp} (lk : K.lookup f = some ⟨oc, od, .func (PySem.W.fnOf name qual params body scope dV kV doc pm an cdv ct), osl⟩) (hcd : PySem.W.codeIn K cdv qual = true) (S : aW N ps scope)
  (len : ∀ vs H Q E, sp vs H Q E → vs.length = ps.length)
  (hbody : ∀ (A : Around) (outer : List Env) (s : Shared) (H : Hp) (vs : List V) (Q : VK) (E : XK), eA k (A.deeper (envOfC qual scope s.heap.objs.size f cdv)) → sp vs H Q E →
   ∃ t, xD (sG CX P w K mg base N qual scope f cdv A outer s H E) body t ∧ t { nx := fun _ H' => Q .aZ H', rt := Q } (start N vs) H) :
  aT P w K mg base CX (k + 1) f (PySem.W.fnOf name qual params body scope dV kV doc pm an cdv ct) ps sp := by
 refine ⟨len, fun A outer s H args us vs Q E hr e0 hb r hsp => ?_⟩
 have hl := len _ _ _ _ hsp
 have KX : K.In s.heap := e0.mod.RG.keeps fun b o e => (e0.bs b o e).1
 have lim : s.heap.NoLimit := e0.mod.nolimit.keeps fun b o e => (e0.bs b o e).1
 have hkind : ∀ y ∈ ps.zip us, scope.names.lookup y.1 = some .local ∨ (scope.names.lookup y.1 = some .cell ∧ ((cellsFrom (s.heap.objs.size + 1) scope.names []).lookup y.1).isSome = true) := fun ⟨n, v⟩ hy => by
  rcases S.par n (List.of_mem_zip hy).1 with q | q
  ·exact .inl q
  ·exact .inr ⟨q, PySem.W.cellsFrom_some _ _ _ (.inl q)⟩
 refine codeAny_call_function hr.depth (KX _ _ lk) rfl S.co S.gen rfl (PySem.W.codeRec_of KX hcd) (hb _ _ _ _ ?_)
 refine wpAny_newFunctionEnv_cells S.kind hkind fun env he s1 x => ?_
 subst he
 refine ⟨lim.keeps x.toInCall.keep, codeAny_func ?_⟩
 obtain ⟨t, ht, hq⟩ := hbody A outer s H vs Q E (hr.deeper _) hsp
 have I : Inv (sG CX P w K mg base N qual scope f cdv A outer s H E) [] (start N vs) H s1 := ET S hr.hd e0 hl r x
 refine wpAny_mono (ht [] s1 (start N vs) H _ I hq) (fun fl s' hs => ?_) fun e s' hs => hs
 have fin : ∀ {σ' : St} {H' : Hp} {v : V} {u : Value}, Inv (sG CX P w K mg base N qual scope f cdv A outer s H E) [] σ' H' s' → RelV v u → Q v H' → CE outer P w H s Q u s' :=
  fun {σ' H' v u} J rv q => ⟨v, H', J.os, J.bare, J.base, J.bY, rv, q⟩
 cases fl with
 | ret u =>
  obtain ⟨v, σ', H', J, rv, q⟩ := hs
  exact fin J rv q
 | next =>
  obtain ⟨σ', H', J, q⟩ := hs
  exact fin (v := V.aZ) (u := Value.none) J rfl q
 | brk =>
  obtain ⟨_, _, _, q⟩ := hs
  exact False.elim q
 | cont =>
  obtain ⟨_, _, _, q⟩ := hs
  exact False.elim q
end L2
namespace L2
open PySem PySem.Spec PyProof.Rows
section
variable {X : Cx} {x : Str} {p pos : Pos} {e : Expr} {es : List Expr} {t : TA} {id T : String} {r : List V → Hp → VK → Prop}
noncomputable def JU (r : List V → Hp → VK → Prop) (t : TA) : TE := fun σ H Q => t σ H fun vs H1 => r vs H1 Q
theorem aP (hc : eL X (.builtin id) r) (hg : Gl X x) (hm : X.mg x = none) (hv : bootBuiltins x = some (.builtin id)) (ha : PA X (e :: es) t) (hn : x ≠ "__name__" := by decide) (hdb : (x == ("__debug__" : Str)) = false := by decide)
  (he : starEach (e :: es) X.env = (false, eval e X.env) :: starEach es X.env := by rfl) (hpl : (backTo pos (starEach es X.env)).any (·.1) = false := by rfl) : PE X (.Call (.Name x p) (e :: es) [] pos) (JU r t) := by
 intro pins s σ H Q I h
 refine wpAny_Call_Name_kw (nP I hg hm hv ?_ hn hdb)
 exact PyProof.Rows.callWith_builtin1 (cL (ha pos pins s σ H _ I h) fun us s1 ⟨vs, H1, I1, r1, q1⟩ => hc pins s1 σ H1 vs us Q I1 r1 q1) he hpl
theorem eF (hc : eL X (.type T) r) (hg : Gl X x) (hm : X.mg x = none) (hv : bootBuiltins x = some (.type T)) (ha : PA X (e :: es) t) (hn : x ≠ "__name__" := by decide) (hdb : (x == ("__debug__" : Str)) = false := by decide)
  (he : starEach (e :: es) X.env = (false, eval e X.env) :: starEach es X.env := by rfl) (hpl : (backTo pos (starEach es X.env)).any (·.1) = false := by rfl) : PE X (.Call (.Name x p) (e :: es) [] pos) (JU r t) := by
 intro pins s σ H Q I h
 refine wpAny_Call_Name_kw (nP I hg hm hv ?_ hn hdb)
 exact PyProof.Rows.callWith_type1 (cL (ha pos pins s σ H _ I h) fun us s1 ⟨vs, H1, I1, r1, q1⟩ => hc pins s1 σ H1 vs us Q I1 r1 q1) he hpl
end
end L2
namespace HT
open PySem PyProof.Rows
section
open PySem.SeqAt
open PySem.AutoSeq1 (wpAny_loadPart')
open PySem.MeetsSeq PySem.MeetsSeq2 PySem.MeetsSeq3
end
section
variable {prog : Program} {w : World} {A : Around} {E : Value → Shared → Prop} {s : Shared}
theorem LM {t b : Addr} {vs ws : List Value} {Q : Value → Shared → Prop} (ht : IsTup s.heap t vs.toArray) (hb : IsTup s.heap b ws.toArray) (hv : vs ≠ [])
  (h1 : ws = [] → Q (.ref t) s) (h2 : ws ≠ [] → Q (.ref s.heap.objs.size) { s with heap := s.heap.push { cls := .type "tuple", data := .seq (vs ++ ws).toArray } })
  (hsz : vs.length + ws.length ≤ sizeLine) : wpAny (model prog w) A (binaryOp .Add (.ref t) (.ref b)) Q E s := by
 obtain ⟨⟨cls, dd, data, sl⟩, ho, hc, n, hd⟩ := id ht
 obtain ⟨⟨cls2, dd2, data2, sl2⟩, ho2, hc2, n2, hd2⟩ := id hb
 simp only at hc hd hc2 hd2
 subst hc hd hc2 hd2
 have e : vs.toArray ++ ws.toArray = (vs ++ ws).toArray := by simp
 by_cases hw : ws = []
 ·exact concat_meets ⟨_, ho, rfl⟩ ⟨_, ho2, rfl⟩ noFill_tuple_add seq_tuple_add PySem.F.slot_tuple_add PySem.F.entry_tuple_add (PySem.F.args_tuple_add_2 _ _)
   (tuple_addW1 t b vs.toArray ws.toArray n n2 dd dd2 sl sl2 (by simpa using hv) (by simp [hw])) ⟨ho, ho2, h1 hw⟩
 ·refine concat_meets ⟨_, ho, rfl⟩ ⟨_, ho2, rfl⟩ noFill_tuple_add seq_tuple_add PySem.F.slot_tuple_add PySem.F.entry_tuple_add (PySem.F.args_tuple_add_2 _ _)
   (tuple_addW2 t b vs.toArray ws.toArray n n2 dd dd2 sl sl2 (by simpa using hv) (by simpa using hw) (by rw [List.size_toArray, List.size_toArray]; exact hsz)) ⟨ho, ho2, ?_⟩
  rw [e]
  exact h2 hw
noncomputable def eY (n d : Nat) : Option Int → Nat
 | none => d
 | some v => if v < 0 then (v + (n : Int)).toNat else min v.toNat n
theorem x8 (n d : Nat) : eY n d none = d := rfl
theorem oS (n d k : Nat) : eY n d (some (k : Int)) = min k n := by
 show (if (k : Int) < 0 then ((k : Int) + (n : Int)).toNat else min (k : Int).toNat n) = min k n
 rw [if_neg (by omega), Int.toNat_natCast]
theorem OS (n d : Nat) (hd : d ≤ n) (o : Option Int) : eY n d o ≤ n := by
 cases o with
 | none => exact hd
 | some v =>
  show (if v < 0 then (v + (n : Int)).toNat else min v.toNat n) ≤ n
  by_cases hv : v < 0
  ·rw [if_pos hv]; omega
  ·rw [if_neg hv]; exact Nat.min_le_right _ _
theorem BI (v : Int) (n d : Nat) : (if v < 0 then max (v + (n : Int)) 0 else min v (n : Int)) = ((eY n d (some v) : Nat) : Int) := by
 show (if v < 0 then max (v + (n : Int)) 0 else min v (n : Int)) = (((if v < 0 then (v + (n : Int)).toNat else min v.toNat n) : Nat) : Int)
 by_cases hv : v < 0
 ·simp only [if_pos hv]; omega
 ·simp only [if_neg hv]; omega
theorem AS (lo hi : Option Int) (n : Nat) : Builtin.Slice.sliceAdjust lo hi 1 (n : Int) = (((eY n 0 lo : Nat) : Int), ((eY n n hi : Nat) : Int)) := by
 have h1 : ¬ ((1 : Int) < 0) := by omega
 unfold Builtin.Slice.sliceAdjust
 simp only [h1, if_false]
 refine Prod.ext ?_ ?_
 ·cases lo with
  | none => rfl
  | some v => exact BI v n 0
 ·cases hi with
  | none => rfl
  | some v => exact BI v n n
theorem AH (i j : Nat) : Builtin.Slice.slicePlaces (i : Int) (j : Int) 1 = j - i := by
 unfold Builtin.Slice.slicePlaces
 have h1 : (1 : Int) > 0 := by omega
 simp only [h1, if_true, Int.ediv_one]
 split <;> omega
theorem pI {v : Value} {o : Option Int} {Q : Option Int → Shared → Prop} (p : IsPart v o) (h : Q o s) : wpAny (model prog w) A (Builtin.Slice.slicePartIndex v) Q E s := by
 cases p with
 | none => exact slicePart_none h
 | int i t => exact slicePart_int h
theorem iP {sl : Addr} {vl vu : Value} {lo hi : Option Int} {n : Nat} {Q : Int × Int × Nat → Shared → Prop} (hs : s.heap.IsSliceOf sl vl vu .none) (pl : IsPart vl lo) (pu : IsPart vu hi)
  (h : Q (((eY n 0 lo : Nat) : Int), 1, eY n n hi - eY n 0 lo) s) : wpAny (model prog w) A (Builtin.Slice.sliceApplied (.ref sl) (pure (n : Int))) Q E s := by
 obtain ⟨os, hos, hcs, hds⟩ := id hs
 unfold Builtin.Slice.sliceApplied Builtin.Slice.sliceFields
 refine wpAny_bind (wpAny_bind (wpAny_field hos hds (x := vl) rfl (wpAny_bind (wpAny_field hos hds (x := vu) rfl (wpAny_bind (wpAny_field hos hds (x := .none) rfl (wpAny_pure ?_)))))))
 refine wpAny_bind (slicePart_none ?_)
 show wpAny _ _ (if ((1 : Int) == 0) = true then _ else _) _ _ s
 rw [if_neg (by decide)]
 refine wpAny_bind (pI pl (wpAny_bind (pI pu (wpAny_bind (wpAny_pure ?_)))))
 show wpAny _ _ (match Builtin.Slice.sliceAdjust lo hi 1 (n : Int) with | (lo, hi) => pure (lo, (1 : Int), Builtin.Slice.slicePlaces lo hi 1)) _ _ s
 rw [AS lo hi n]
 show wpAny _ _ (pure (((eY n 0 lo : Nat) : Int), (1 : Int), Builtin.Slice.slicePlaces ((eY n 0 lo : Nat) : Int) ((eY n n hi : Nat) : Int) 1)) _ _ s
 rw [AH]
 exact wpAny_pure h
theorem IJ (xs : Array Value) (i k : Nat) : ((List.range k).filterMap fun (m : Nat) => xs[((i : Int) + (m : Int) * 1).toNat]?).toArray = ((xs.toList.drop i).take k).toArray := by
 have e : (fun (m : Nat) => xs[((i : Int) + (m : Int) * 1).toNat]?) = fun m => xs[i + m]? := by
  funext m
  have : ((i : Int) + (m : Int) * 1).toNat = i + m := by omega
  rw [this]
 rw [e]
 have := pick_run xs i k
 rw [List.filterMap_map] at this
 have e2 : ((fun x => xs[x]?) ∘ fun x => i + x) = fun m => xs[i + m]? := rfl
 rw [e2] at this
 rw [this]
theorem mJ {t sl : Addr} {items : Array Value} {vl vu : Value} {lo hi : Option Int} {Q : Value → Shared → Prop} (ht : IsTup s.heap t items) (hs : s.heap.IsSliceOf sl vl vu .none) (pl : IsPart vl lo) (pu : IsPart vu hi)
  (hw : ¬ (eY items.size 0 lo = 0 ∧ eY items.size items.size hi = items.size))
  (h : Q (.ref s.heap.objs.size) { s with heap := s.heap.push { cls := .type "tuple", data := .seq ((items.toList.drop (eY items.size 0 lo)).take (eY items.size items.size hi - eY items.size 0 lo)).toArray } })
  (hsz : items.size ≤ sizeLine) : wpAny (model prog w) A (getItem (.ref t) (.ref sl)) Q E s := by
 have htake : sizeOk (.seq ((items.toList.drop (eY items.size 0 lo)).take (eY items.size items.size hi - eY items.size 0 lo)).toArray) := by
  show ((items.toList.drop (eY items.size 0 lo)).take (eY items.size items.size hi - eY items.size 0 lo)).toArray.size ≤ sizeLine
  rw [List.size_toArray, List.length_take, List.length_drop, Array.length_toList]
  omega
 have hj : eY items.size items.size hi ≤ items.size := OS _ _ (Nat.le_refl _) hi
 obtain ⟨os, hos, hcs, hds⟩ := id hs
 have hTs : s.TypeIs (.ref sl) "slice" := ⟨os, hos, hcs⟩
 unfold getItem
 try with_reducible refine wpAny_holding ?_
 first | refine wpAny_bind (wpAny_pure ?_) | skip
 refine wpAny_bind (wpAny_sequenceKey ht.typeIs (by decide) ?_)
 refine wpAny_bind (wpAny_callSpecial?_slot (name := Str.ofString "__getitem__") ht.typeIs PyProof.Rows.slot_tuple_getitem
  (wpAny_call_entry PyProof.Rows.slot_tuple_getitem ht.typeIs entry_tuple_getitem ?_ (args_tuple_getitem _ _)))
 show wpAny _ _ (Builtin.Tuple.tupleItemsOf (.ref t) >>= _) _ _ s
 refine wpAny_bind (tupleItemsOf_ ht ?_)
 refine wpAny_bind (wpAny_typeOf hTs ?_)
 rw [if_pos (by decide)]
 refine wpAny_bind (iP hs pl pu ?_)
 have hno : ¬ ((((eY items.size 0 lo : Nat) : Int) == 0 && (1 : Int) == 1 && (eY items.size items.size hi - eY items.size 0 lo) == items.size) = true) := by
  intro q
  rw [Bool.and_eq_true, Bool.and_eq_true] at q
  have q1 : ((eY items.size 0 lo : Nat) : Int) = 0 := eq_of_beq q.1.1
  have q2 : eY items.size items.size hi - eY items.size 0 lo = items.size := eq_of_beq q.2
  exact hw ⟨by omega, by omega⟩
 show wpAny _ _ (if (((eY items.size 0 lo : Nat) : Int) == 0 && (1 : Int) == 1 && (eY items.size items.size hi - eY items.size 0 lo) == items.size) = true then _ else _) _ _ s
 rw [if_neg hno, IJ]
 first
  | exact wpAny_bind (m := Builtin.Tuple.tupleExact _) (wpAny_newObj_type (wpAny_pure ⟨_, rfl, wpAny_pure h⟩) htake)
  | exact wpAny_bind (m := Builtin.Tuple.tupleExact _) (wpAny_newObj_type (wpAny_bind (wpAny_pure (wpAny_pure ⟨_, rfl, wpAny_pure h⟩))) htake)
  | exact wpAny_bind (wpAny_bind (m := Builtin.Tuple.tupleExact _) (wpAny_newObj_type (wpAny_pure (wpAny_pure ⟨_, rfl, wpAny_pure h⟩)) htake))
  | exact wpAny_bind (wpAny_bind (m := Builtin.Tuple.tupleExact _) (wpAny_newObj_type (wpAny_pure ⟨_, rfl, wpAny_pure h⟩) htake))
end
end HT
namespace L2
open PySem PySem.Spec PyProof.Rows
noncomputable abbrev TO := St → Hp → (Option Int → Hp → Prop) → Prop
noncomputable def PO (X : Cx) (e : Option Expr) (t : TO) : Prop :=
 ∀ (pins : List (Addr × Obj)) (s : Shared) (σ : St) (H : Hp) (Q : Option Int → Hp → Prop), Inv X pins σ H s → t σ H Q →
  wpAny (model X.prog X.w) X.A (evalPart e X.env) (fun u s' => ∃ o H', Inv X pins σ H' s' ∧ IsPart u o ∧ Q o H') X.xe s
noncomputable def mO : TO := fun _ H Q => Q none H
noncomputable def wB (t : TE) : TO := fun σ H Q => t σ H fun x H1 => ∃ i, x = .int i ∧ Q (some i) H1
section
variable {X : Cx} {e : Expr} {te : TE} {lo hi : Option Expr} {tl th : TO} {pos p2 : Pos}
theorem cH : PO X none mO := by
 intro pins s σ H Q I h
 rw [evalPart_none]
 exact wpAny_pure ⟨none, H, I, .none, h⟩
theorem bS (h : PE X e te) : PO X (some e) (wB te) := by
 intro pins s σ H Q I hw
 rw [evalPart_some]
 refine cL (h pins s σ H _ I hw) fun u s1 ⟨x, H1, I1, r1, q1⟩ => ?_
 obtain ⟨i, rfl, q⟩ := q1
 obtain ⟨t, rfl⟩ := r1
 exact ⟨some i, H1, I1, .int i t, q⟩
noncomputable def NU (X : Cx) (r : V → Option Int → Option Int → Hp → VK → Prop) : Prop :=
 ∀ (pins : List (Addr × Obj)) (s : Shared) (σ : St) (H : Hp) (x : V) (v vl vu : Value) (lo hi : Option Int) (sl : Addr) (Q : VK), Inv X pins σ H s → RelV x v → s.heap.IsSliceOf sl vl vu .none → IsPart vl lo → IsPart vu hi → r x lo hi H Q →
  ∃ T id, typeLookup (.type T) "__getitem__" = pure (some (.builtin id)) ∧ s.TypeIs v T ∧ wpAny (model X.prog X.w) X.A (getItem v (.ref sl)) (EP X pins σ Q) X.xe s
noncomputable def P8 (r : V → Option Int → Option Int → Hp → VK → Prop) (te : TE) (tl th : TO) : TE := fun σ H Q => te σ H fun x H1 => tl σ H1 fun l H2 => th σ H2 fun u H3 => r x l u H3 Q
theorem bR {r : V → Option Int → Option Int → Hp → VK → Prop} (hr : NU X r) (he : PE X e te) (hl : PO X lo tl) (hu : PO X hi th) : PE X (.Subscript e (.Slice lo hi none p2) pos) (P8 r te tl th) := by
 intro pins s σ H Q I h
 refine Subscript_ (cL (he pins s σ H _ I h) fun v s1 ⟨x, H1, I1, r1, q1⟩ => ?_)
 refine wpAny_Slice (cL (hl pins s1 σ H1 _ I1 q1) fun vl s2 ⟨l, H2, I2, pl, q2⟩ => cL (hu pins s2 σ H2 _ I2 q2) fun vu s3 ⟨u, H3, I3, pu, q3⟩ => ?_)
 rw [evalPart_none]
 refine wpAny_pure ?_
 have I4 : Inv X pins σ H3 { s3 with heap := s3.heap.push { cls := .type "slice", data := .fields #[vl, vu, .none] } } := I3.kept (t' := s3.toks) fun b ob q => Heap.get?_push_of_some _ q
 obtain ⟨T, id, hT, ht, hg⟩ := hr pins { s3 with heap := s3.heap.push { cls := .type "slice", data := .fields #[vl, vu, .none] } } σ H3 x v vl vu l u s3.heap.objs.size Q I4 r1 (Heap.IsSliceOf.new ..) pl pu q3
 show wpAny (model X.prog X.w) X.A (subscriptTail e (.Slice lo hi none p2) v (.ref s3.heap.objs.size)) (EP X pins σ Q) X.xe { s3 with heap := s3.heap.push { cls := .type "slice", data := .fields #[vl, vu, .none] } }
 exact tail_any (ops := [.ref s3.heap.objs.size, v]) ht hT hg (by with_unfolding_all rfl)
noncomputable def bZ (xs : List V) (lo hi : Option Int) : List V := (xs.drop (HT.eY xs.length 0 lo)).take (HT.eY xs.length xs.length hi - HT.eY xs.length 0 lo)
theorem oG (xs : List V) (lo hi : Option Int) : (bZ xs lo hi).length ≤ xs.length := by
 unfold bZ
 rw [List.length_take, List.length_drop]
 omega
noncomputable def GW (K : PySem.W.Frag) : V → Option Int → Option Int → Hp → VK → Prop := fun x lo hi H Q => ∃ a xs, x = .ref a ∧ dZ K H a xs ∧
 ¬ (HT.eY xs.length 0 lo = 0 ∧ HT.eY xs.length xs.length hi = xs.length) ∧ ∀ p, H p = none → Q (.ref p) (upd H p (.tup (bZ xs lo hi)))
theorem PL : NU X (GW X.K) := by
 intro pins s σ H x v vl vu lo hi sl Q I rx hs pl pu h
 obtain ⟨a, xs, rfl, hx, hw, q⟩ := h
 cases rx
 obtain ⟨its, r, ht, hz⟩ := I.tuple hx
 have hlen : its.toArray.size = xs.length := by rw [List.size_toArray]; exact r.length.symm
 refine ⟨"tuple", _, PyProof.Rows.slot_tuple_getitem.lookup, ht.typeIs, ?_⟩
 refine HT.mJ ht hs pl pu (by rw [hlen]; exact hw) ?_ (by rw [hlen]; exact hz)
 rw [hlen]
 refine ⟨.ref s.heap.objs.size, _, I.laid (t' := s.toks) (o := .tup (bZ xs lo hi)) (fun b ob q => Heap.get?_push_of_some _ q) (Nat.le_refl _) ?_, rfl, q _ (I.bY.fresh (Nat.le_refl _))⟩
 exact ⟨Nat.le_trans (oG xs lo hi) hz, _, (r.drop (HT.eY xs.length 0 lo)).take (HT.eY xs.length xs.length hi - HT.eY xs.length 0 lo), mV.new _ _⟩
theorem Vals.B3 {xs : List V} {us : List Value} (r : Vals xs us) : us = [] ↔ xs = [] := by
 cases r with
 | nil => simp
 | cons _ _ => simp
end
end L2
namespace L2
open PySem PySem.Spec PyProof.Rows
noncomputable def FX (n : Nat) (i : Int) : Option Nat := if 0 ≤ i then (if i < n then some i.toNat else none) else if -(n : Int) ≤ i then some (i + n).toNat else none
noncomputable def rT {α : Type} (xs : List α) (i : Int) : Option α := (FX xs.length i).bind fun j => xs[j]?
theorem BO {n : Nat} {i : Int} {j : Nat} (h : FX n i = some j) : seqIndex? i n = some j ∧ j < n ∧ -(n : Int) ≤ i ∧ i < n := by
 unfold FX at h
 by_cases h0 : 0 ≤ i
 ·rw [if_pos h0] at h
  by_cases h1 : i < n
  ·rw [if_pos h1] at h
   have e : i.toNat = j := Option.some.inj h
   exact ⟨by rw [seqIndex_of h0 h1, e], by omega, by omega, h1⟩
  ·rw [if_neg h1] at h; cases h
 ·rw [if_neg h0] at h
  by_cases h1 : -(n : Int) ≤ i
  ·rw [if_pos h1] at h
   have e : (i + n).toNat = j := Option.some.inj h
   exact ⟨by rw [seqIndex_neg (by omega) h1, e], by omega, h1, by omega⟩
  ·rw [if_neg h1] at h; cases h
theorem uU {α : Type} {xs : List α} {i : Int} {v : α} (h : rT xs i = some v) : ∃ j, seqIndex? i xs.length = some j ∧ xs[j]? = some v ∧ j < xs.length ∧ -(xs.length : Int) ≤ i ∧ i < xs.length := by
 unfold rT at h
 cases e : FX xs.length i with
 | none => rw [e] at h; cases h
 | some j =>
  rw [e] at h
  obtain ⟨h1, h2, h3, h4⟩ := BO e
  exact ⟨j, h1, h, h2, h3, h4⟩
theorem bI {α : Type} {xs : List α} {j : Nat} {v : α} (h : xs[j]? = some v) : rT xs (j : Int) = some v := by
 have hj : j < xs.length := (List.getElem?_eq_some_iff.mp h).1
 have e : FX xs.length (j : Int) = some j := by
  unfold FX
  rw [if_pos (by omega), if_pos (by omega)]; simp
 unfold rT; rw [e]; exact h
theorem q0 {α : Type} (xs : List α) (v : α) : rT (xs ++ [v]) (-1) = some v := by
 have hl : (xs ++ [v]).length = xs.length + 1 := by simp
 have e : FX (xs ++ [v]).length (-1) = some xs.length := by
  unfold FX
  rw [hl, if_neg (by decide), if_pos (by omega)]
  congr 1
  omega
 unfold rT
 rw [e]
 show (xs ++ [v])[xs.length]? = some v
 simp
noncomputable def BH (b : Expr) : Prop := ∀ o i, subscripted b false o i = operate [o, i] (getItem o i)
noncomputable def O5 (X : Cx) (r : R2) : Prop :=
 ∀ (value slice : Expr) (pins : List (Addr × Obj)) (s : Shared) (σ : St) (H : Hp) (x y : V) (v u : Value) (Q : VK), Inv X pins σ H s → RelV x v → RelV y u → r x y H Q →
  subscripted slice false v u = operate [v, u] (getItem v u) → wpAny (model X.prog X.w) X.A (subscriptTail value slice v u) (EP X pins σ Q) X.xe s
noncomputable def MR (X : Cx) (id : String) (r : V → List V → Hp → VK → Prop) : Prop :=
 ∀ (pins : List (Addr × Obj)) (s : Shared) (σ : St) (H : Hp) (x : V) (xs : List V) (v : Value) (us : List Value) (Q : VK), Inv X pins σ H s → RelV x v → Vals xs us → r x xs H Q →
  wpAny (model X.prog X.w) X.A (call (.builtin id) (v :: us)) (EP X pins σ Q) X.xe s
section
variable {X : Cx} {a b : Expr} {ta tb : TE} {pos : Pos}
theorem bC {r : R2} (hr : O5 X r) (ha : PE X a ta) (hb : PE X b tb) (hs : BH b) : PE X (.Subscript a b pos) (pV r ta tb) := by
 intro pins s σ H Q I h
 exact Subscript_ (M5 ha hb I h fun v u s2 x y H2 I2 rx ry q => hr a b pins s2 σ H2 x y v u Q I2 rx ry q (hs _ _))
noncomputable def oN (K : PySem.W.Frag) : R2 := fun x y H Q => ∃ p xs i v, x = .ref p ∧ y = .int i ∧ aX K H p xs ∧ rT xs i = some v ∧ Q v H
noncomputable def CV (K : PySem.W.Frag) : R2 := fun x y H Q => ∃ p xs i v, x = .ref p ∧ y = .int i ∧ dZ K H p xs ∧ rT xs i = some v ∧ Q v H
noncomputable def zD : R2 := fun x y H Q => ∃ z i c, x = .str z ∧ y = .int i ∧ z.length ≤ sizeLine ∧ rT z.cps.toList i = some c ∧ Q (.str ⟨#[c]⟩) H
theorem JX : O5 X (oN X.K) := by
 intro value slice pins s σ H x y v u Q I rx ry h hs
 obtain ⟨p, xs, i, z, rfl, rfl, hq, he, q⟩ := h
 cases rx
 obtain ⟨t, rfl⟩ := ry
 obtain ⟨its, r, pl, hz⟩ := I.list hq
 obtain ⟨j, h1, h2, h3, h4, h5⟩ := uU he
 obtain ⟨w, ew, xX⟩ := r.get h2
 have hl := r.length
 have hn := jS
 have fin : EP X pins σ Q w s := ⟨z, H, I, xX, q⟩
 by_cases h0 : 0 ≤ i
 ·have hj : i.toNat = j := by
   rw [seqIndex_of h0 h5] at h1
   exact Option.some.inj h1
  exact item_listR pl.isList h0 (by omega) (by rw [hj]; simpa using ew) fin hs
 ·have hj : (i + (its.toArray.size : Int)).toNat = j := by
   rw [seqIndex_neg (by omega) h4] at h1
   rw [List.size_toArray, ← hl]
   exact Option.some.inj h1
  exact subscriptTail_builtinR (x := w) pl.isList.typeIs slot_list_getitem.lookup
   (wpAny_getItem_list_neg (Q := fun r s' => r = w ∧ EP X pins σ Q r s') pl.isList (by omega) (by rw [List.size_toArray] <;> omega) (by omega) (by rw [hj]; simpa using ew) ⟨rfl, fin⟩) hs
theorem NO : O5 X (CV X.K) := by
 intro value slice pins s σ H x y v u Q I rx ry h hs
 obtain ⟨p, xs, i, z, rfl, rfl, hq, he, q⟩ := h
 cases rx
 obtain ⟨t, rfl⟩ := ry
 obtain ⟨its, r, pl, hz⟩ := I.tuple hq
 obtain ⟨j, h1, h2, h3, h4, h5⟩ := uU he
 obtain ⟨w, ew, xX⟩ := r.get h2
 have hl := r.length
 have hn := jS
 have fin : EP X pins σ Q w s := ⟨z, H, I, xX, q⟩
 exact subscriptTail_builtinR (x := w) pl.typeIs slot_tuple_getitem.lookup
  (getItem_tuple (j := j) (Q := fun r s' => r = w ∧ EP X pins σ Q r s') pl (by omega) (by omega) (by rw [List.size_toArray, ← hl]; exact h1) (by simpa using ew) ⟨rfl, fin⟩) hs
theorem mX : O5 X zD := by
 intro value slice pins s σ H x y v u Q I rx ry h hs
 obtain ⟨z, i, c, rfl, rfl, hz, he, q⟩ := h
 obtain ⟨t, rfl⟩ := rx
 obtain ⟨t', rfl⟩ := ry
 obtain ⟨j, h1, h2, h3, h4, h5⟩ := uU he
 have hl : z.cps.toList.length = z.length := by simp [Str.length]
 rw [hl] at h1 h4 h5
 have hn := jS
 exact tail_any (typeIs_str s z t) slot_str_getitem.lookup (getItem_str (c := c) (by
  have e1 : decide (i < -(2 ^ 63 : Int)) = false := decide_eq_false (by omega)
  have e2 : decide (i ≥ 2 ^ 63) = false := decide_eq_false (by omega)
  rw [e1, e2, Bool.or_false]) (by rw [h1]; simpa using h2) ⟨.str ⟨#[c]⟩, H, I.tok _, ⟨_, rfl⟩, q⟩) hs
theorem AB (its : List Value) (n j : Nat) (u : Value) : Obj.mapSeq (·.setIfInBounds j u) { cls := .type "list", data := .seq its.toArray n } = { cls := .type "list", data := .seq (its.set j u).toArray n } := by
 simp [Obj.mapSeq]
theorem Inv.lst {pins : List (Addr × Obj)} {σ : St} {H : Hp} {s : Shared} {p : Addr} {xs : List V} (I : Inv X pins σ H s) (h : H p = some (.lst xs)) :
  ∃ (its : List Value) (n : Nat), Vals xs its ∧ s.heap.get? p = some { cls := .type "list", data := .seq its.toArray n } ∧ xs.length ≤ sizeLine := by
 obtain ⟨z, its, n, r, e⟩ := I.bY p _ h
 exact ⟨its, n, r, e, z⟩
theorem Inv.NV {pins : List (Addr × Obj)} {σ : St} {H : Hp} {s : Shared} {p : Addr} {xs ys : List V} {its its' : List Value} {n n' : Nat} {f : Obj → Obj} (I : Inv X pins σ H s) (h : H p = some (.lst xs))
  (ho : s.heap.get? p = some { cls := .type "list", data := .seq its.toArray n }) (hf : f { cls := .type "list", data := .seq its.toArray n } = { cls := .type "list", data := .seq its'.toArray n' }) (r : Vals ys its') (hz : ys.length ≤ sizeLine) (t : Nat) :
  Inv X pins σ (upd H p (.lst ys)) { s with heap := s.heap.update p f, toks := t } := by
 have e : (s.heap.update p f).get? p = some { cls := .type "list", data := .seq its'.toArray n' } := by
  rw [Heap.get?_update_self f ho (by rw [hf] <;> rfl), hf]
 refine I.write (x := p) (e := p) (by rw [h]; trivial) (.inl rfl) (fun b u hb q => (Heap.get?_update_other _ _ (Ne.symm hb)).trans q) ⟨_, e⟩ ?_
 exact ⟨hz, its', n', r, e⟩
noncomputable def yS : V → V → V → Hp → (Hp → Prop) → Prop := fun o i v H Q => ∃ p xs k j, o = .ref p ∧ i = .int k ∧ H p = some (.lst xs) ∧ FX xs.length k = some j ∧ Q (upd H p (.lst (xs.set j v)))
theorem set_list : QF X yS := by
 intro pins s σ H o i v ov iv u Q I ro ri rv h
 obtain ⟨p, xs, k, j, rfl, rfl, hp, hj, q⟩ := h
 cases ro
 obtain ⟨t, rfl⟩ := ri
 obtain ⟨its, n, r, ho, hz⟩ := I.lst hp
 obtain ⟨h1, h2, h3, h4⟩ := BO hj
 have hl := r.length
 have hn := jS
 have I' : Inv X pins σ (upd H p (.lst (xs.set j v))) { s with heap := s.heap.update p (Obj.mapSeq (·.setIfInBounds j u)) } :=
  I.NV hp ho (AB its n j u) (r.set rv j) (by rw [List.length_set]; exact hz) s.toks
 by_cases h0 : 0 ≤ k
 ·have hk : k.toNat = j := by
   rw [seqIndex_of h0 h4] at h1
   exact Option.some.inj h1
  exact PySem.W.ki_setAt ho h0 (by omega) (by rw [List.size_toArray, ← hl]; exact h4) (by rw [hk]; exact ⟨_, I', q⟩)
 ·have hk : (k + (its.toArray.size : Int)).toNat = j := by
   rw [seqIndex_neg (by omega) h3] at h1
   rw [List.size_toArray, ← hl]
   exact Option.some.inj h1
  exact PySem.W.ki_setBack ho (by omega) (by rw [List.size_toArray, ← hl]; exact h3) (by omega) (by rw [hk]; exact ⟨_, I', q⟩)
theorem uV (lo hi : Option Int) (n : Nat) : (sliceBounds lo hi none n).1 = ((HT.eY n 0 lo : Nat) : Int) ∧ (sliceBounds lo hi none n).2.1 = ((HT.eY n n hi : Nat) : Int) ∧ (sliceBounds lo hi none n).2.2 = 1 := by
 refine ⟨?_, ?_, rfl⟩
 ·cases lo with
  | none => simp [sliceBounds, HT.eY]
  | some i =>
   simp only [sliceBounds, HT.eY, Option.getD_none, show (1 : Int) > 0 by decide, if_true]
   by_cases h : i < 0
   ·simp only [h, if_true] <;> omega
   ·simp only [h, if_false] <;> omega
 ·cases hi with
  | none => simp [sliceBounds, HT.eY]
  | some i =>
   simp only [sliceBounds, HT.eY, Option.getD_none, show (1 : Int) > 0 by decide, if_true]
   by_cases h : i < 0
   ·simp only [h, if_true] <;> omega
   ·simp only [h, if_false] <;> omega
theorem rY (its : List Value) (lo hi : Option Int) : slicePick its.toArray lo hi none = ((its.drop (HT.eY its.length 0 lo)).take (HT.eY its.length its.length hi - HT.eY its.length 0 lo)).toArray := by
 obtain ⟨h1, h2, h3⟩ := uV lo hi its.toArray.size
 unfold slicePick
 rw [h1, h2, h3]
 simp only [sliceRange_one, pick_run, List.size_toArray] <;> rfl
noncomputable def EC (K : PySem.W.Frag) : V → Option Int → Option Int → Hp → VK → Prop := fun x lo hi H Q => ∃ a xs, x = .ref a ∧ aX K H a xs ∧ ∀ p, H p = none → Q (.ref p) (upd H p (.lst (bZ xs lo hi)))
theorem JT : NU X (EC X.K) := by
 intro pins s σ H x v vl vu lo hi sl Q I rx hs pl pu h
 obtain ⟨a, xs, rfl, hx, q⟩ := h
 cases rx
 obtain ⟨its, r, ht, hz⟩ := I.list hx
 have hlen := r.length
 refine ⟨"list", _, slot_list_getitem.lookup, ht.isList.typeIs, ?_⟩
 refine wpAny_getItem_list_slice ht.isList hs pl pu .none (by simp) ?_ (by rw [List.size_toArray] <;> omega)
 rw [rY, ← hlen]
 refine ⟨.ref s.heap.objs.size, _, I.laid (t' := s.toks) (o := .lst (bZ xs lo hi)) (fun b ob q => Heap.get?_push_of_some _ q) (Nat.le_refl _) ?_, rfl, q _ (I.bY.fresh (Nat.le_refl _))⟩
 exact ⟨Nat.le_trans (oG xs lo hi) hz, _, 0, (r.drop (HT.eY xs.length 0 lo)).take (HT.eY xs.length xs.length hi - HT.eY xs.length 0 lo), Heap.get?_push_size _ rfl⟩
noncomputable def gE : V → Bool
 | .aZ => true
 | .bl _ => true
 | .int _ => true
 | .str _ => true
 | _ => false
noncomputable def zZ : V → V → Bool
 | .aZ, .aZ => true
 | .bl a, .bl b => a == b
 | .bl a, .int b => (if a then 1 else 0) == b
 | .int a, .bl b => a == (if b then 1 else 0)
 | .int a, .int b => a == b
 | .str a, .str b => a == b
 | _, _ => false
theorem AM {A : Around} {s : Shared} {y x : V} {u v : Value} (ry : RelV y u) (rx : RelV x v) (fy : gE y = true) (fx : gE x = true) : SeqAt.EqAt A s u v (zZ y x) := by
 cases y with
 | aZ =>
  cases ry
  cases x with
  | aZ => cases rx; exact SeqAt.EqAt.same _
  | bl b => cases rx; exact SeqAt.EqAt.none_bool b
  | int b => obtain ⟨t, rfl⟩ := rx; exact SeqAt.EqAt.none_int b t
  | str b => obtain ⟨t, rfl⟩ := rx; exact SeqAt.EqAt.none_str b t
  | _ => exact absurd (show false = true from fx) Bool.false_ne_true
 | bl a =>
  cases ry
  cases x with
  | aZ => cases rx; exact SeqAt.EqAt.bool_none a
  | bl b => cases rx; exact SeqAt.EqAt.bool_bool a b
  | int b => obtain ⟨t, rfl⟩ := rx; exact SeqAt.EqAt.bool_int a b t
  | str b => obtain ⟨t, rfl⟩ := rx; exact SeqAt.EqAt.bool_str a b t
  | _ => exact absurd (show false = true from fx) Bool.false_ne_true
 | int a =>
  obtain ⟨t', rfl⟩ := ry
  cases x with
  | aZ => cases rx; exact SeqAt.EqAt.int_none a t'
  | bl b => cases rx; exact SeqAt.EqAt.int_bool a t' b
  | int b => obtain ⟨t, rfl⟩ := rx; exact SeqAt.EqAt.int_int a t' b t
  | str b => obtain ⟨t, rfl⟩ := rx; exact SeqAt.EqAt.int_str a t' b t
  | _ => exact absurd (show false = true from fx) Bool.false_ne_true
 | str a =>
  obtain ⟨t', rfl⟩ := ry
  cases x with
  | aZ => cases rx; exact SeqAt.EqAt.str_none a t'
  | bl b => cases rx; exact SeqAt.EqAt.str_bool a t' b
  | int b => obtain ⟨t, rfl⟩ := rx; exact SeqAt.EqAt.str_int a t' b t
  | str b => obtain ⟨t, rfl⟩ := rx; exact SeqAt.EqAt.str_str a t' b t
  | _ => exact absurd (show false = true from fx) Bool.false_ne_true
 | _ => exact absurd (show false = true from fy) Bool.false_ne_true
noncomputable def L9 (x : V) (u : Value) : Bool := match u with
 | .none => zZ .aZ x
 | .bool b => zZ (.bl b) x
 | .int i _ => zZ (.int i) x
 | .str z _ => zZ (.str z) x
 | _ => false
theorem IW {x y : V} {u : Value} (r : RelV y u) (f : gE y = true) : L9 x u = zZ y x := by
 cases y with
 | aZ => cases r; rfl
 | bl b => cases r; rfl
 | int i => obtain ⟨t, rfl⟩ := r; rfl
 | str z => obtain ⟨t, rfl⟩ := r; rfl
 | _ => exact absurd (show false = true from f) Bool.false_ne_true
theorem vQ {x : V} : ∀ {xs : List V} {us : List Value}, Vals xs us → xs.all gE = true → us.any (L9 x) = xs.any fun y => zZ y x
 | _, _, .nil, _ => rfl
 | y :: xs, u :: us, .cons r t, f => by
  rw [List.all_cons, Bool.and_eq_true] at f
  rw [List.any_cons, List.any_cons, IW r f.1, vQ t f.2]
theorem pR {A : Around} {s : Shared} {x : V} {v : Value} (rx : RelV x v) (fx : gE x = true) : ∀ {xs : List V} {us : List Value}, Vals xs us → xs.all gE = true → ∀ u ∈ us, SeqAt.EqAt A s u v (L9 x u)
 | _, _, .nil, _ => fun u hu => by cases hu
 | y :: xs, u :: us, .cons r t, f => fun u' hu => by
  rw [List.all_cons, Bool.and_eq_true] at f
  rcases List.mem_cons.mp hu with rfl | hu
  ·rw [IW r f.1]; exact AM r rx f.1 fx
  ·exact pR rx fx t f.2 u' hu
noncomputable def R1 (x : V) (xs : List V) : Bool := xs.any fun y => zZ y x
noncomputable def P7 (K : PySem.W.Frag) (neg : Bool) : R2 := fun x y H Q => ∃ p xs, y = .ref p ∧ (aX K H p xs ∨ dZ K H p xs) ∧ gE x = true ∧ xs.all gE = true ∧ Q (.bl (if neg then !R1 x xs else R1 x xs)) H
theorem uY : iK X (compareOp .NotIn) (P7 X.K true) := by
 intro pins s σ H x y v u Q I rx ry h
 obtain ⟨p, xs, rfl, hq, fx, fs, q⟩ := h
 cases ry
 rcases hq with hq | hq
 ·obtain ⟨its, r, pl, hz⟩ := I.list hq
  refine SeqAt.notIn_listAt (L9 x) pl.isList (fun w hw => pR rx fx r fs w (by simpa using hw)) ⟨.bl _, H, I, rfl, ?_⟩
  rw [show its.toArray.any (L9 x) = its.any (L9 x) by simp, vQ r fs]
  exact q
 ·obtain ⟨its, r, pl, hz⟩ := I.tuple hq
  refine SeqAt.notIn_tupleAt (L9 x) pl (fun w hw => pR rx fx r fs w (by simpa using hw)) ⟨.bl _, H, I, rfl, ?_⟩
  rw [show its.toArray.any (L9 x) = its.any (L9 x) by simp, vQ r fs]
  exact q
theorem mH : eL X (.builtin "len") (fun xs H Q => ∃ p ys, xs = [.ref p] ∧ (aX X.K H p ys ∨ dZ X.K H p ys) ∧ Q (.int ys.length) H) := by
 intro pins s σ H xs us Q I r h
 obtain ⟨p, ys, rfl, hq, q⟩ := h
 obtain ⟨u, rfl, rx⟩ := vals1 r
 cases rx
 have hn := jS
 rcases hq with hq | hq
 ·obtain ⟨its, r', pl, hz⟩ := I.list hq
  have hlen := r'.length
  exact Calls.call_len_list pl.isList (by simp only [List.size_toArray] <;> omega) ⟨.int ys.length, H, I.tok _, ⟨s.toks + 1, by rw [List.size_toArray, hlen]⟩, q⟩
 ·obtain ⟨its, r', pl, hz⟩ := I.tuple hq
  have hlen := r'.length
  exact len_tuple pl (by simp only [List.size_toArray] <;> omega) ⟨.int ys.length, H, I.tok _, ⟨s.toks + 1, by rw [List.size_toArray, hlen]⟩, q⟩
theorem cI : eL X (.builtin "len") (fun xs H Q => ∃ z, xs = [.str z] ∧ z.length ≤ sizeLine ∧ Q (.int z.length) H) := by
 intro pins s σ H xs us Q I r h
 obtain ⟨z, rfl, hz, q⟩ := h
 obtain ⟨u, rfl, t, rfl⟩ := vals1 r
 have hn := jS
 exact len_str (by omega) ⟨.int z.length, H, I.tok _, ⟨_, rfl⟩, q⟩
theorem rS : eL X (.type "tuple") (fun xs H Q => ∃ p ys, xs = [.ref p] ∧ ((aX X.K H p ys ∧ ∀ l, H l = none → Q (.ref l) (upd H l (.tup ys))) ∨ (dZ X.K H p ys ∧ Q (.ref p) H))) := by
 intro pins s σ H xs us Q I r h
 obtain ⟨p, ys, rfl, h⟩ := h
 obtain ⟨u, rfl, rx⟩ := vals1 r
 cases rx
 rcases h with ⟨hq, q⟩ | ⟨hq, q⟩
 ·obtain ⟨its, r', pl, hz⟩ := I.list hq
  have hlen := r'.length
  refine call_tuple_list pl.isList (fun h' kp => ?_) (by simp only [List.size_toArray] <;> omega)
  have I1 : Inv X pins σ H { s with heap := h' } := I.kept (t' := s.toks) kp
  have I2 : Inv X pins σ (upd H h'.objs.size (.tup ys)) { s with heap := h'.push { cls := .type "tuple", data := .seq its.toArray } } :=
   I1.laid (t' := s.toks) (fun b o e => Heap.get?_push_of_some _ e) (Nat.le_refl _) (show dJ X.prog X.w _ _ _ (.tup ys) from ⟨hz, its, r', mV.new _ _⟩)
  exact ⟨.ref h'.objs.size, _, I2, rfl, q _ (I1.bY.fresh (Nat.le_refl _))⟩
 ·obtain ⟨its, r', pl, hz⟩ := I.tuple hq
  exact call_tuple_same pl ⟨.ref p, H, I, rfl, q⟩
noncomputable def M0 (K : PySem.W.Frag) (T : String) (x : V) (H : Hp) : Prop := match x with
 | .str _ => T = "str"
 | .int _ => T = "int"
 | .ref p => (T = "list" ∧ ∃ xs, aX K H p xs) ∨ (T = "tuple" ∧ ∃ o, K.lookup p = some o ∧ o.cls = .type "tuple" ∧ o.dict = none) ∨
   (T = "dict" ∧ ((∃ kvs ep, H p = some (.dK kvs ep)) ∨ ∃ kvs, H p = some (.dT kvs))) ∨ (T = "set" ∧ ∃ S n, H p = some (.set S n))
 | _ => False
theorem M4 {pins : List (Addr × Obj)} {σ : St} {H : Hp} {s : Shared} {T : String} {x : V} {v : Value} (I : Inv X pins σ H s) (r : RelV x v) (ty : M0 X.K T x H) :
  s.TypeIs v T ∧ ∀ a, v = .ref a → ∃ ob, s.heap.get? a = some ob ∧ ob.dict = none := by
 cases x with
 | str z =>
  obtain ⟨t, rfl⟩ := r
  cases (show T = "str" from ty)
  exact ⟨typeIs_str s z t, fun _ e => nomatch e⟩
 | int i =>
  obtain ⟨t, rfl⟩ := r
  cases (show T = "int" from ty)
  exact ⟨typeIs_int s i t, fun _ e => nomatch e⟩
 | ref p =>
  cases r
  rcases ty with ⟨rfl, xs, hq⟩ | ⟨rfl, o, hk, hc, hd⟩ | ⟨rfl, hk⟩ | ⟨rfl, S, n, hk⟩
  ·obtain ⟨its, _, pl, _⟩ := I.list hq
   refine ⟨pl.isList.typeIs, fun a e => ?_⟩
   cases e
   obtain ⟨o, n, e, c, hd, _⟩ := pl
   exact ⟨o, e, hd⟩
  ·refine ⟨⟨o, I.mG p o hk, hc⟩, fun a e => ?_⟩
   cases e
   exact ⟨o, I.mG _ o hk, hd⟩
  ·have z : ∃ o, s.heap.get? p = some o ∧ o.ExactDict := by
    rcases hk with ⟨kvs, ep, hk⟩ | ⟨kvs, hk⟩
    ·obtain ⟨_, _, _, _, o, _, e, ex, _⟩ := I.bY p _ hk
     exact ⟨o, e, ex⟩
    ·obtain ⟨_, _, _, _, o, _, _, e, ex, _⟩ := I.bY p _ hk
     exact ⟨o, e, ex⟩
   obtain ⟨o, e, ex⟩ := z
   refine ⟨⟨o, e, ex.1⟩, fun a e2 => ?_⟩
   cases e2
   exact ⟨o, e, ex.2.1⟩
  ·obtain ⟨o, _, _, _, e, ex, _⟩ := I.bY p _ hk
   refine ⟨⟨o, e, ex.1⟩, fun a e2 => ?_⟩
   cases e2
   exact ⟨o, e, ex.2.1⟩
 | _ => exact False.elim ty
noncomputable def KG (K : PySem.W.Frag) (T : String) (r : V → List V → Hp → VK → Prop) (to : TE) : TE := fun σ H Q => to σ H fun x H1 => M0 K T x H1 ∧ r x [] H1 Q
noncomputable def HM (K : PySem.W.Frag) (T : String) (r : V → List V → Hp → VK → Prop) (to : TE) (t : TA) : TE := fun σ H Q => to σ H fun x H1 => M0 K T x H1 ∧ t σ H1 fun xs H2 => r x xs H2 Q
variable {o e : Expr} {es : List Expr} {to : TE} {t : TA} {name : Str} {apos cpos : Pos} {T id : String} {r : V → List V → Hp → VK → Prop}
theorem QO (pa : PlainAttrs T) (slot : Slot T name id) (hty : typeOf (.builtin id) = pure (.type "method_descriptor")) (hm : MR X id r) (ho : PE X o to) (ha : PA X (e :: es) t)
  (hbase : attributeBase o name X.env (eval o X.env) = eval o X.env := by rfl)
  (hfew : ((backTo cpos (starEach (e :: es) X.env)).all (fun x => !x.1) && (backToKw cpos (keywordEach [] X.env)).all (fun x => x.1.isSome)
   && decide ((e :: es).length + ([] : List Keyword).length + (if ([] : List Keyword).isEmpty then 0 else 1) < 30)) = true := by rfl)
  (hline : (apos.endLine == cpos.line) = true := by rfl) (hs : starEach (e :: es) X.env = (false, eval e X.env) :: starEach es X.env := by rfl) (hplain : (backTo cpos (starEach es X.env)).any (·.1) = false := by rfl) :
  PE X (.Call (.Attribute o name apos) (e :: es) [] cpos) (HM X.K T r to t) := by
 intro pins s σ H Q I h
 refine wpAny_Call_method_late hbase hfew hline rfl (cL (ho pins s σ H _ I h) fun v s1 ⟨x, H1, I1, r1, ty, q1⟩ => ?_)
 obtain ⟨h1, h2⟩ := M4 I1 r1 ty
 refine ⟨T, id, pa, slot, hty, h1, h2, ?_⟩
 have hA := ha cpos pins s1 σ H1 _ I1 q1
 rw [hs] at hA ⊢
 refine Calls.callWith_builtin (by show (false || (backTo cpos (starEach es X.env)).any (·.1)) = false; rw [hplain] <;> rfl) (Calls.evalArgs_plain ?_)
 exact cL hA fun us s2 ⟨vs, H2, I2, r2, q2⟩ => hm pins s2 σ H2 x vs v us Q I2 r1 r2 q2
end
end L2
namespace L2
open PySem PySem.Spec PyProof.Rows
noncomputable def S6 (X : Cx) (id : String) (r : V → List V → Hp → VK → Prop) : Prop :=
 ∀ (pins : List (Addr × Obj)) (s : Shared) (σ : St) (H : Hp) (x : V) (xs : List V) (v : Value) (us : List Value) (Q : VK), Inv X pins σ H s → RelV x v → Vals xs us → r x xs H Q →
  wpAny (model X.prog X.w) X.A (call (.builtin id) (v :: us)) (EP X pins σ Q) X.xe s
theorem Vals.one : ∀ {x : V} {us : List Value}, Vals [x] us → ∃ u, us = [u] ∧ RelV x u
 | _, _, .cons r .nil => ⟨_, rfl, r⟩
theorem Vals.eraseIdx : ∀ {xs : List V} {us : List Value} (i : Nat), Vals xs us → Vals (xs.eraseIdx i) (us.eraseIdx i)
 | _, _, _, .nil => .nil
 | _, _, 0, .cons _ t => t
 | _, _, i + 1, .cons r t => .cons r (Vals.eraseIdx i t)
theorem Vals.rep {xs : List V} {us : List Value} (h : Vals xs us) : ∀ k : Nat, Vals (List.replicate k xs).flatten (List.replicate k us).flatten
 | 0 => .nil
 | k + 1 => by
  rw [List.replicate_succ, List.replicate_succ, List.flatten_cons, List.flatten_cons]
  exact Vals.append h (Vals.rep h k)
theorem tT {α : Type} : ∀ (l : List α) (i : Nat), (l.eraseIdx i).length ≤ l.length
 | [], _ => Nat.le_refl _
 | _ :: _, 0 => Nat.le_succ _
 | _ :: r, i + 1 => Nat.succ_le_succ (tT r i)
theorem foldl_rep (its : List Value) : ∀ (k : Nat) (acc : List Value),
  List.foldl (fun x1 x2 => x1 ++ x2) acc.toArray (List.replicate k its.toArray) = (acc ++ (List.replicate k its).flatten).toArray
 | 0, acc => by simp
 | k + 1, acc => by
  have e : acc.toArray ++ its.toArray = (acc ++ its).toArray := by simp
  have e2 : (acc ++ its) ++ (List.replicate k its).flatten = acc ++ (List.replicate (k + 1) its).flatten := by
   rw [List.replicate_succ, List.flatten_cons, List.append_assoc]
  rw [← e2, ← foldl_rep its k (acc ++ its), ← e, List.replicate_succ, List.foldl_cons]
section
variable {X : Cx} {pins : List (Addr × Obj)} {σ : St} {H : Hp} {s : Shared} {l b : Addr} {xs ys zs : List V}
theorem Inv.Q1 {its its' : List Value} {n : Nat} {f : Array Value → Array Value} {t' : Nat} (I : Inv X pins σ H s) (hH : H l = some (.lst xs))
  (e : s.heap.get? l = some { cls := .type "list", data := .seq its.toArray n }) (hf : f its.toArray = its'.toArray) (hv : Vals ys its') (hz : ys.length ≤ sizeLine) :
  Inv X pins σ (upd H l (.lst ys)) { s with heap := s.heap.update l (Obj.mapSeq f), toks := t' } := by
 have q := PySem.IsL.update e f
 rw [hf] at q
 refine I.write (x := l) (e := l) (by rw [hH]; exact trivial) (.inl rfl) (fun b' u hb hu => (Heap.get?_update_other s.heap (Obj.mapSeq f) (Ne.symm hb)).trans hu) ⟨_, q⟩ ?_
 exact ⟨hz, its', _, hv, q⟩
theorem Inv.LZ {its : List Value} {t' : Nat} (I : Inv X pins σ H s) (hv : Vals ys its) (hz : ys.length ≤ sizeLine) :
  Inv X pins σ (upd H s.heap.objs.size (.lst ys)) { s with heap := s.heap.push { cls := .type "list", data := .seq its.toArray }, toks := t' } :=
 I.laid (fun _ _ q => Heap.get?_push_of_some _ q) (Nat.le_refl _) ⟨hz, its, 0, hv, Heap.get?_push_size _ rfl⟩
theorem Inv.fresh (I : Inv X pins σ H s) : H s.heap.objs.size = none := I.bY.fresh (Nat.le_refl _)
theorem Inv.IQ (I : Inv X pins σ H s) (hH : H l = some (.lst xs)) : xs.length ≤ sizeLine ∧ ∃ (its : List Value) (n : Nat), Vals xs its ∧ xs.length = its.length ∧ s.heap.get? l = some { cls := .type "list", data := .seq its.toArray n } := by
 obtain ⟨z, its, n, r, e⟩ := I.bY l _ hH
 exact ⟨z, its, n, r, r.length, e⟩
theorem FD {n : Nat} (h : n ≤ sizeLine) : Builtin.List.listTooLong n = false := by
 unfold Builtin.List.listTooLong
 exact decide_eq_false (by omega)
end
section
variable {X : Cx}
noncomputable def kL : V → List V → Hp → VK → Prop := fun x vs H Q => ∃ l xs y, x = .ref l ∧ vs = [y] ∧ H l = some (.lst xs) ∧ xs.length < sizeLine ∧ Q .aZ (upd H l (.lst (xs ++ [y])))
theorem d5 : S6 X "list.append" kL := by
 intro pins s σ H x vs v us Q I rx rv h
 obtain ⟨l, xs, y, rfl, rfl, hH, hz, q⟩ := h
 cases rx
 obtain ⟨u, rfl, ru⟩ := rv.one
 obtain ⟨z, its, n, r, hl, e⟩ := I.IQ hH
 refine call_meets F.slot_list_append ⟨_, e, rfl⟩ F.entry_list_append (F.args_list_append_2 _ _) (PySem.list_append l its.toArray n u (by rw [List.size_toArray]; omega)) ⟨e, ?_⟩
 refine ⟨.aZ, _, I.Q1 (its' := its ++ [u]) hH e (by simp) (r.append (.cons ru .nil)) ?_, rfl, q⟩
 rw [List.length_append, List.length_singleton]
 omega
noncomputable def nC : V → List V → Hp → VK → Prop := fun x vs H Q => ∃ l xs i k y, x = .ref l ∧ vs = [.int i] ∧ H l = some (.lst xs) ∧ -(2 ^ 63) ≤ i ∧ i < 2 ^ 63 ∧ seqIndex? i xs.length = some k ∧ xs[k]? = some y ∧ Q y (upd H l (.lst (xs.eraseIdx k)))
theorem HN : S6 X "list.pop" nC := by
 intro pins s σ H x vs v us Q I rx rv h
 obtain ⟨l, xs, i, k, y, rfl, rfl, hH, h1, h2, hk, hy, q⟩ := h
 cases rx
 obtain ⟨u, rfl, ru⟩ := rv.one
 obtain ⟨t, rfl⟩ := ru
 obtain ⟨z, its, n, r, hl, e⟩ := I.IQ hH
 obtain ⟨w, hw, xX⟩ := r.get hy
 refine call_meets F.slot_list_pop ⟨_, e, rfl⟩ F.entry_list_pop (F.args_list_pop_2 _ _)
  (MeetsSeq.list_pop_at l its.toArray n i t k w (fitsIndex_both h1 h2) (by rw [List.size_toArray, ← hl]; exact hk) (by rw [← Array.getElem?_toList]; exact hw) (by rw [List.size_toArray]; omega)) ⟨e, ?_⟩
 refine ⟨y, _, I.Q1 (its' := its.eraseIdx k) hH e ?_ (r.eraseIdx k) ?_, xX, q⟩
 ·show its.toArray.eraseIdxIfInBounds k = (its.eraseIdx k).toArray
  rw [List.eraseIdxIfInBounds_toArray]
 ·have := tT xs k
  omega
noncomputable def GJ : R2 := fun x y H Q => ∃ l b xs zs, x = .ref l ∧ y = .ref b ∧ H l = some (.lst xs) ∧ H b = some (.lst zs) ∧ xs.length + zs.length ≤ sizeLine ∧ ∀ p, H p = none → Q (.ref p) (upd H p (.lst (xs ++ zs)))
theorem lG : iK X (binaryOp .Add) GJ := by
 intro pins s σ H x y v u Q I rx ry h
 obtain ⟨l, b, xs, zs, rfl, rfl, hH, hB, hz, q⟩ := h
 cases rx
 cases ry
 obtain ⟨z, its, n, r, hl, e⟩ := I.IQ hH
 obtain ⟨z2, its2, n2, r2, hl2, e2⟩ := I.IQ hB
 refine PySem.P.add_list e e2 ?_ (by rw [List.size_toArray, List.size_toArray]; omega)
 have ea : its.toArray ++ its2.toArray = (its ++ its2).toArray := by simp
 rw [ea]
 exact ⟨.ref _, _, I.LZ (t' := s.toks) (r.append r2) (by rw [List.length_append]; omega), rfl, q _ I.fresh⟩
noncomputable def SG : R2 := fun x y H Q => ∃ l k xs, x = .ref l ∧ y = .int k ∧ H l = some (.lst xs) ∧ -(2 ^ 63) ≤ k ∧ k < 2 ^ 63 ∧ xs.length * k.toNat ≤ sizeLine ∧
 ∀ p, H p = none → Q (.ref p) (upd H p (.lst (List.replicate k.toNat xs).flatten))
theorem len_rep {α : Type} (xs : List α) (k : Nat) : (List.replicate k xs).flatten.length = k * xs.length := by
 induction k with
 | zero => simp
 | succ k ih => rw [List.replicate_succ, List.flatten_cons, List.length_append, ih, Nat.succ_mul, Nat.add_comm]
theorem G8 : iK X (binaryOp .Mult) SG := by
 intro pins s σ H x y v u Q I rx ry h
 obtain ⟨l, k, xs, rfl, rfl, hH, h1, h2, hz, q⟩ := h
 cases rx
 obtain ⟨t, rfl⟩ := ry
 obtain ⟨z, its, n, r, hl, e⟩ := I.IQ hH
 have hlen : its.toArray.size * k.toNat ≤ sizeLine := by rw [List.size_toArray, ← hl]; exact hz
 have hcap : ¬ its.toArray.size * k.toNat > (2 ^ 63 - 1) / 8 := by
  have : (sizeLine : Nat) ≤ (2 ^ 63 - 1) / 8 := by decide
  omega
 have hfit : ¬ (!Builtin.List.listFitsIndex k) = true := by
  rw [fitsIndex_both h1 h2]
  exact Bool.false_ne_true
 have hlong : ¬ Builtin.List.listTooLong (its.toArray.size * k.toNat) = true := by
  rw [FD hlen]
  exact Bool.false_ne_true
 have hnew : List.foldl (fun x1 x2 => x1 ++ x2) #[] (List.replicate (if its.toArray.isEmpty = true then 0 else k.toNat) its.toArray) = (List.replicate k.toNat its).flatten.toArray := by
  have f0 : ∀ m : Nat, List.foldl (fun x1 x2 => x1 ++ x2) #[] (List.replicate m its.toArray) = (List.replicate m its).flatten.toArray := fun m => by
   have := foldl_rep its m []
   rw [List.nil_append] at this
   exact this
  rw [f0]
  cases its with
  | nil => simp
  | cons a r' => rw [if_neg (by simp)]
 refine wpAny_binaryOp_repeat_ref (T := "list") (U := "int") (by decide) ⟨_, e, rfl⟩ (fun s' => typeIs_int s' k t) noFill_list_mul F.fills_int_mul F.slot_int_rmul repeat_list F.slot_int_index.lookup
  (call_meets F.slot_int_rmul (typeIs_int s k t) F.entry_int_rmul (F.args_int_rmul_2 _ _) (int___rmul___int_list k t l its.toArray n)
   ⟨e, rfl, ⟨_, e, rfl⟩, call_meets F.slot_list_mul ⟨_, e, rfl⟩ F.entry_list_mul (F.args_list_mul_2 _ _) (AutoListH.list___mul___list_int_3 l its.toArray n k t hfit hcap hlong) ⟨e, ?_⟩⟩)
 rw [hnew]
 exact ⟨.ref _, _, I.LZ (t' := s.toks) (r.rep k.toNat) (by rw [len_rep, Nat.mul_comm]; exact hz), rfl, q _ I.fresh⟩
end
section
variable {prog : Program} {w : World} {A : Around} {E : Value → Shared → Prop} {s : Shared}
end
section
variable {X : Cx}
end
end L2
namespace S3
open PySem PySem.W PySem.Calls PyProof.Rows
theorem oP {P : Params} {h : Heap} : ∀ (ns : List Int) (vs : List Value), WellAll P h vs (ns.map WData.int) → IntsAre vs ns := by
 intro ns
 induction ns with
 | nil =>
  intro vs w
  rw [List.map_nil] at w
  cases w
  exact .nil
 | cons n ns ih =>
  intro vs w
  rw [List.map_cons] at w
  cases w with
  | cons a b =>
   cases a
   exact .cons _ _ (ih _ b)
theorem DL {l : OpenLaw} {n : Nat} (hn : l.most = some n) {P : Params} {h : Heap} {args : List WData} {vals : List Value}
  (hpre : l.row.toRowW.claim.pre args = true) (hwl : WellAll P h vals args) :
  ∃ a vs ns, vals = [Value.ref a] ∧ args = [WData.list (ns.map WData.int)] ∧ h.get? a = some { cls := .type "list", data := .seq vs.toArray } ∧ IntsAre vs ns ∧ ns.length ≤ n := by
 have hsh : WShape.hasAll [] args [.list .int] = true := (pre_splitW hpre).1
 have hc : l.pre.holds [] { args := args } = true := (pre_splitW hpre).2
 obtain ⟨d, r, rfl, h1, h2⟩ := hasAllW_cons hsh
 obtain rfl := hasAllW_nil h2
 obtain ⟨xs, rfl, h3⟩ := hasW_list h1
 obtain ⟨ns, rfl⟩ := items_int h3
 have hlen : ns.length ≤ n := by
  unfold OpenLaw.pre at hc
  have h4 : (WTm.not (.lt (.lit (.int (n : Int))) (.len (.arg 0)))).holds [] { args := [.list (ns.map .int)] } = true := by
   have h4 := (holds_andW hc).1
   rw [hn] at h4
   exact h4
  have h5 := condW_of h4 (w_not (w_lt w_lit (w_len_list (w_arg rfl))))
  rw [List.length_map] at h5
  refine Nat.le_of_not_lt fun q => ?_
  have q' : (n : Int) < ((ns.length : Nat) : Int) := by omega
  first
   | (rw [decide_eq_true q'] at h5; exact absurd h5 (by decide))
   | (simp at h5; omega)
 cases hwl with
 | cons w1 w2 =>
  cases w2
  cases w1 with
  | list ho hall => exact ⟨_, _, ns, rfl, rfl, ho, oP ns _ hall, hlen⟩
theorem DN (l : OpenLaw) (args : List WData) : l.row.toRowW.claim.post args (.bool true) args = true :=
 postW_of (r := l.row.toRowW) (X := (true == true))
  (show WShape.has [] (.bool true) .bool = true by first | rfl | decide | simp [WShape.has, WShape.arms, WShape.armsAll])
  (show (WTm.eq .res (.lit (.bool true))).value [] { args := args, res := some (.bool true), after := args } = some (.bool (true == true)) from w_eq_bool (w_res rfl) w_lit) rfl
theorem yJ {l : OpenLaw} {n : Nat} {q : Program} {loose : List Str} {XP : (Str → Option Value) → Heap → Prop} {YP : World → Heap → Prop} {d : DefRec}
  (hn : l.most = some n) (hdf : d.params.defaults = [])
  (call : ∀ (w : World) (fN s₁ : Shared) (mg mb : Str → Option Value) (fa : Addr) (o : Obj) (pm cd doc : Value) (a : Addr) (vs : List Value) (ns : List Int),
   Ground q loose [] XP w fN mg mb s₁.heap → YP w s₁.heap →
   s₁.heap.get? fa = some o → o.data = .func (docDef d.name d.params d.body d.scope pm cd doc) → s₁.heap.CodeRec cd d.name → mg d.name = some (.ref fa) →
   s₁.heap.get? a = some { cls := .type "list", data := .seq vs.toArray } → IntsAre vs ns → ns.length ≤ n → s₁.gens = #[] →
   codeAny (model l.prog w) callerA (.call (.ref fa) ⟨[.ref a], []⟩) (fun r s' => r = .ok (.ret (.bool true)) ∧ OldK s₁.heap s'.heap ∧ s'.os = s₁.os ∧ AllBare s'.gens) s₁) :
  WalkO q loose XP YP l.row.toRowW d [] (fun f vs => PySem.call f vs) := by
 intro w fN s₁ mg mb G Y fa o pm cd doc dV kV ho hd hcd hD hmg hg args vals as hpre hlay hrd hwl hlo
 obtain rfl : dV = .none := Dflts.none hD hdf
 obtain rfl : kV = .none := Dflts.noKw hD
 obtain ⟨a, vs, ns, rfl, rfl, hobj, hints, hlen⟩ := DL hn hpre hwl
 refine enter_call (codeAny_mono (call w fN s₁ mg mb fa o pm cd doc a vs ns G Y ho (fd_plain hd) hcd hmg hobj hints hlen hg) fun r s' hq => ?_)
 obtain ⟨rfl, h2, h3, h4⟩ := hq
 exact ⟨.inl ⟨.bool true, .bool true, [], rfl, fun _ => rfl, .bool true, DN l _, fun _ => ⟨List.Pairwise.nil, fun _ hm => (nomatch hm)⟩⟩, h2, h3, h4⟩
section
variable {prog : Program} {w : World} {A : Around} {E : Value → Shared → Prop} {s : Shared} {K : Frag}
end
end S3
namespace L2
open PySem PySem.Spec PyProof.Rows
theorem sW : ∀ {vs : List Value} {ns : List Int}, IntsAre vs ns → Vals (ns.map V.int) vs
 | _, _, .nil => .nil
 | _, _, .cons n t h => .cons ⟨t, rfl⟩ (sW h)
noncomputable def PD (H : Hp) : Prop := ∀ b, H b = none ∨ ∃ o xs, H b = some (.AK o (.lst xs))
theorem GR {P : Program} {w : World} {K : PySem.W.Frag} {mg mb : Str → Option Value} {CX : DC} {k : Nat} {fa a : Addr} {fd : FuncData} {x : Str} {sp : Sp} {s₁ : Shared} {vs : List Value} {ns : List Int}
  (KX : K.In s₁.heap) (hns : s₁.heap.Ns mainGlobals mg) (hb : s₁.heap.Ns builtinsNs mb) (hbb : ∀ x : Str, x ≠ "__name__" → mb x = bootBuiltins x) (hlim : s₁.heap.NoLimit) (hg : s₁.gens = #[])
  (ha : s₁.heap.get? a = some { cls := .type "list", data := .seq vs.toArray }) (hi : IntsAre vs ns) (hl : ns.length ≤ sizeLine) (hr : eA k callerA)
  (F : ∀ base : Heap, K.In base → base.Ns mainGlobals mg → aT P w K mg base CX k fa fd [x] sp) (hbind : ∀ (s : Shared) (u : Value), BindsTo s fd ⟨[u], []⟩ [(x, u)])
  (hsp : ∀ H : Hp, PD H → aX K H a (ns.map V.int) → sp [.ref a] H (fun v _ => v = .bl true) fun _ _ _ => False)
  (hCX : ∀ H e s', CX [] H s₁ (fun _ _ _ => False) e s' → False) :
  codeAny (model P w) callerA (.call (.ref fa) ⟨[.ref a], []⟩) (fun r s' => r = .ok (.ret (.bool true)) ∧ OldK s₁.heap s'.heap ∧ s'.os = s₁.os ∧ AllBare s'.gens) s₁ := by
 have rv := sW hi
 have lenV := hi.length
 have core : ∀ H : Hp, PD H → aX K H a (ns.map V.int) → jL P w H s₁.heap → (∀ b, H b ≠ none → b = a) → (H a ≠ none → K.lookup a = none) →
   codeAny (model P w) callerA (.call (.ref fa) ⟨[.ref a], []⟩) (fun r s' => r = .ok (.ret (.bool true)) ∧ OldK s₁.heap s'.heap ∧ s'.os = s₁.os ∧ AllBare s'.gens) s₁ := by
  intro H hO hS bY hA hK
  have base_of : ∀ {b : Addr} {o : Obj}, s₁.heap.get? b = some o → H b = none → (vF s₁.heap H).get? b = some o := fun e n => FK e n
  have DQ : ∀ {b : Addr} {o : Obj} {es : Array DictEntry} {ep : Nat}, s₁.heap.get? b = some o → o.data = .dict es ep → H b = none := fun {b o es ep} e d => by
   cases q : H b with
   | none => rfl
   | some u =>
    have e' : b = a := hA b (by rw [q]; simp)
    subst e'
    rw [ha] at e; cases e
    have d' : Data.seq vs.toArray _ = Data.dict es ep := d
    cases d'
  have nsK : ∀ {b : Addr} {m : Str → Option Value}, s₁.heap.Ns b m → (vF s₁.heap H).Ns b m := fun {b m} ⟨o, es, ep, e, d, r⟩ => ⟨o, es, ep, base_of e (DQ e d), d, r⟩
  have hKb : K.In (vF s₁.heap H) := fun b o e => base_of (KX b o e) (by
   cases q : H b with
   | none => rfl
   | some u =>
    have e' : b = a := hA b (by rw [q]; simp)
    subst e'
    rw [hK (by rw [q]; simp)] at e; cases e)
  have hM : Mod K mg (vF s₁.heap H) := ⟨hKb, nsK hns, ⟨mb, nsK hb, hbb⟩, let ⟨mc, h1, h2⟩ := hlim; ⟨mc, nsK h1, h2⟩⟩
  have e0 : AA P w K mg (vF s₁.heap H) callerA [] s₁ H := ⟨rfl, hM, fun b o e => KQ e, Nat.le_of_eq (CZ _ _), trivial, fun b hb => absurd (show b ∈ ([] : List Addr) from hb) (by simp), bY, .of_eq hg⟩
  refine codeAny_mono ((F _ hKb (nsK hns)).run callerA [] s₁ H ⟨[.ref a], []⟩ [.ref a] [.ref a] _ _ hr e0 (hbind s₁ (.ref a)) (.cons rfl .nil) (hsp H hO hS)) fun r s' h => ?_
  cases r with
  | error e => exact (hCX H e s' h).elim
  | ok fl =>
   cases fl with
   | next => exact False.elim h
   | brk => exact False.elim h
   | cont => exact False.elim h
   | ret u =>
    obtain ⟨v, H', os, bare, un, hok', r', q⟩ := h
    have q' : v = .bl true := q
    subst q'
    obtain rfl : u = Value.bool true := r'
    refine ⟨rfl, OldK.of_keep fun b o e => ?_, os, bare⟩
    cases q : H b with
    | none => exact un.keep b o e q (by intro z; exact absurd (show b ∈ ([] : List Addr) from z) (by simp)) (by simp)
    | some u =>
     rcases hO b with z | ⟨ob, xs, z⟩
     ·rw [q] at z; cases z
     ·have z2 := un.oQ b ob _ z
      obtain ⟨e1, _⟩ := bY b _ z
      obtain ⟨e2, _⟩ := hok' b _ z2
      rw [e] at e1; cases e1
      exact e2
 cases hk : K.lookup a with
 | some o =>
  have e := KX a o hk
  rw [ha] at e
  cases e
  refine core (fun _ => none) (fun _ => .inl rfl) (.inr ⟨_, vs.toArray, _, hk, rfl, rfl, rfl, by rw [List.size_toArray, lenV]; exact hl, by simpa using rv⟩) (fun b u z => by have z' : (none : Option HO) = some u := z; cases z') (fun b z => absurd rfl z) fun z => absurd rfl z
 | none =>
  refine core (fun b => if b = a then some (.AK { cls := .type "list", data := .seq vs.toArray } (.lst (ns.map V.int))) else none) (fun b => ?_) (.inl (.inr ⟨{ cls := .type "list", data := .seq vs.toArray }, if_pos rfl⟩)) (fun b u z => ?_) (fun b z => ?_) fun _ => hk
  ·by_cases hb : b = a
   ·exact .inr ⟨_, _, if_pos hb⟩
   ·exact .inl (if_neg hb)
  ·by_cases hb : b = a
   ·have z' := (if_pos hb).symm.trans z
    cases z'
    subst hb
    exact ⟨ha, by rw [List.length_map]; exact hl, vs, _, rv, ha⟩
   ·have z' := (if_neg hb).symm.trans z
    cases z'
  ·by_cases hb : b = a
   ·exact hb
   ·exact absurd (if_neg hb) z
end L2
namespace L2
open PySem PySem.Spec PyProof.Rows
theorem L6 {l : PySem.W.OpenLaw} {n k : Nat} {q : Program} {loose : List Str} {XP : (Str → Option Value) → Heap → Prop} {YP : World → Heap → Prop} {d : DefRec} {K : Params → PySem.W.Frag} {CX : World → DC} {sp : World → Sp} {x : Str}
  (hn : l.most = some n) (hn2 : n ≤ sizeLine) (hdf : d.params.defaults = []) (hr : eA k callerA)
  (hY : ∀ (w : World) (h : Heap), YP w h → (K w.params).In h)
  (F : ∀ (w : World) (mg : Str → Option Value) (fa : Addr) (h : Heap), (K w.params).In h → h.Ns mainGlobals mg → mg d.name = some (.ref fa) →
   ∃ fd : FuncData, (∀ (s : Shared) (u : Value), BindsTo s fd ⟨[u], []⟩ [(x, u)]) ∧
    ∀ base : Heap, (K w.params).In base → base.Ns mainGlobals mg → aT l.prog w (K w.params) mg base (CX w) k fa fd [x] (sp w))
  (hsp : ∀ (w : World) (H : Hp) (a : Addr) (ns : List Int), ns.length ≤ n → PD H → aX (K w.params) H a (ns.map V.int) → sp w [.ref a] H (fun v _ => v = .bl true) fun _ _ _ => False)
  (hCX : ∀ (w : World) (H : Hp) (s : Shared) (e : Value) (s' : Shared), CX w [] H s (fun _ _ _ => False) e s' → False) :
  PySem.W.WalkO q loose XP YP l.row.toRowW d [] (fun f vs => PySem.call f vs) := by
 refine S3.yJ hn hdf fun w fN s₁ mg mb fa o pm cd doc a vs ns G Y ho hd hcd hmg hobj hints hlen hg => ?_
 have KX := hY w _ Y
 obtain ⟨fd, hb, hF⟩ := F w mg fa _ KX G.T.g hmg
 exact GR KX G.T.g G.T.b G.T.builtins G.T.nolimit hg hobj hints (Nat.le_trans hlen hn2) hr hF hb (fun H hO hS => hsp w H a ns hlen hO hS) fun H e s' => hCX w H s₁ e s'
end L2
namespace L2
open PySem PySem.Spec PyProof.Rows
noncomputable abbrev dF : DC := fun _ _ _ _ _ _ => False
noncomputable abbrev E0 : XK := fun _ _ _ => False
theorem QI {X : Cx} : Passes dF X E0 := fun _ _ _ _ _ _ _ h => h.elim
structure LL (K : PySem.W.Frag) (x qual : Str) (st : Stmt) (f : Addr) (fd : FuncData) : Prop where
 ex : ∃ (oc : Value) (od : Option Addr) (kV doc pm : Value) (an : Option Addr) (cdv ct : Value) (osl : Array (Option Value)),
  fd = PySem.W.fnOf x qual (aK st) (aI st) (aC st) .none kV doc pm an cdv ct ∧ K.lookup f = some ⟨oc, od, .func fd, osl⟩ ∧ PySem.W.codeIn K cdv qual = true
 kp : PySem.W.keepIn K (.ref f) = true
section
variable {P : Program} {w : World} {K : PySem.W.Frag} {mg : Str → Option Value} {base : Heap}
theorem LL.ok {x qual : Str} {st : Stmt} {f : Addr} {fd : FuncData} {N ps : List Str} {k : Nat} {sp : Sp} (F : LL K x qual st f fd) (S : aW N ps (aC st)) (len : ∀ vs H Q E, sp vs H Q E → vs.length = ps.length)
  (hbody : ∀ (cdv : Value) (A : Around) (outer : List Env) (s : Shared) (H : Hp) (vs : List V) (Q : VK) (E : XK), eA k (A.deeper (envOfC qual (aC st) s.heap.objs.size f cdv)) → sp vs H Q E →
   ∃ t, xD (sG dF P w K mg base N qual (aC st) f cdv A outer s H E).RW (aI st) t ∧ t { nx := fun _ H' => Q .aZ H', rt := Q } (start N vs) H) : aT P w K mg base dF (k + 1) f fd ps sp := by
 obtain ⟨oc, od, kV, doc, pm, an, cdv, ct, osl, rfl, lk, hcd⟩ := F.ex
 refine MG lk hcd S len fun A outer s H vs Q E hr hsp => ?_
 obtain ⟨t, h, q⟩ := hbody cdv A outer s H vs Q E hr hsp
 exact ⟨t, h.RW, q⟩
theorem LL.binds {x qual : Str} {st : Stmt} {f : Addr} {fd : FuncData} {ps : List Str} (F : LL K x qual st f fd)
  (h : ∀ (kV doc pm : Value) (an : Option Addr) (cdv ct : Value) (us : List Value), us.length = ps.length → bindArgs (PySem.W.fnOf x qual (aK st) (aI st) (aC st) .none kV doc pm an cdv ct) ⟨us, []⟩ = pure (ps.zip us)) : Binds K fd ps [] := by
 obtain ⟨oc, od, kV, doc, pm, an, cdv, ct, osl, rfl, lk, hcd⟩ := F.ex
 exact .all (h kV doc pm an cdv ct)
theorem bL {x qual : Str} {st : Stmt} {f : Addr} {oc : Value} {od an : Option Addr} {osl : Array (Option Value)} {kV doc pm cdv ct : Value} (l : K.lookup f = some ⟨oc, od, .func (PySem.W.fnOf x qual (aK st) (aI st) (aC st) .none kV doc pm an cdv ct), osl⟩)
  (c : PySem.W.codeIn K cdv qual = true) (k : PySem.W.keepIn K (.ref f) = true) : LL K x qual st f (PySem.W.fnOf x qual (aK st) (aI st) (aC st) .none kV doc pm an cdv ct) := ⟨⟨oc, od, kV, doc, pm, an, cdv, ct, osl, rfl, l, c⟩, k⟩
end
section
variable {X : Cx}
theorem pv (i : Nat) {x : Str} {pos : Pos} (hN : X.N[i]? = some x := by rfl) (hv : Q8 X.env.scope x := by first | exact Or.inl rfl | exact Or.inr (Or.inl rfl) | exact Or.inr (Or.inr rfl)) (hd : (x == ("__debug__" : Str)) = false := by decide)
  (hcd : (x == ("__classdict__" : Str)) = false := by decide) : PE X (.Name x pos) (i8 i) := OT hN hv hd hcd
end
theorem gL {A B : Prop} (h : B) : if false = true then A else B := by
 rw [if_neg Bool.false_ne_true]
 exact h
theorem fC {A B : Prop} (h : A) : if true = true then A else B := by
 rw [if_pos rfl]
 exact h
theorem OE {c A B : Prop} [Decidable c] (h1 : c → A) (h2 : ¬ c → B) : if c then A else B := by
 by_cases h : c
 ·rw [if_pos h]
  exact h1 h
 ·rw [if_neg h]
  exact h2 h
noncomputable def aG (H H' : Hp) : Prop := ∀ b o, H b = some o → H' b = some o
theorem aG.refl (H : Hp) : aG H H := fun _ _ h => h
theorem aG.trans {H H1 H2 : Hp} (a : aG H H1) (b : aG H1 H2) : aG H H2 := fun c o h => b c o (a c o h)
theorem aG.seq {K : PySem.W.Frag} {H H' : Hp} {a : Addr} {xs : List V} (e : aG H H') (h : aX K H a xs) : aX K H' a xs := by
 rcases h with (h | ⟨o, h⟩) | h
 ·exact .inl (.inl (e _ _ h))
 ·exact .inl (.inr ⟨o, e _ _ h⟩)
 ·exact .inr h
end L2
set_option maxHeartbeats 4000000
namespace L2
open PySem PySem.Spec PyProof.Rows
theorem lM {env : Env} : ∀ (names : List (Str × NameKind)) (acc : List (Str × Addr)), (∀ p ∈ names, p.2 = .free → ∃ c, env.cells.lookup p.1 = some c) →
  (∀ y c, acc.lookup y = some c → env.cells.lookup y = some c) →
  ∃ cl, (forIn names acc (fun (p : Str × NameKind) (cs : List (Str × Addr)) => if (p.2 == NameKind.free) = true then (do let a ← cellOf env p.1; pure (ForInStep.yield ((p.1, a) :: cs))) else (pure (ForInStep.yield cs) : Sem _)) : Sem _) = pure cl ∧
   (∀ y c, cl.lookup y = some c → env.cells.lookup y = some c) ∧ (∀ y, (acc.lookup y).isSome = true → (cl.lookup y).isSome = true) ∧ ∀ y, (y, NameKind.free) ∈ names → (cl.lookup y).isSome = true
 | [], acc, _, h => ⟨acc, rfl, h, fun _ z => z, fun _ z => nomatch z⟩
 | (n, k) :: r, acc, hf, h => by
  by_cases hk : k = .free
  ·subst hk
   obtain ⟨c, hc⟩ := hf (n, .free) List.mem_cons_self rfl
   obtain ⟨cl, e, h1, h2, h3⟩ := lM r ((n, c) :: acc) (fun p hp => hf p (List.mem_cons_of_mem _ hp)) (fun y d hd => by
    rw [List.lookup_cons] at hd
    cases q : y == n with
    | true => rw [q] at hd; cases hd; rw [eq_of_beq q]; exact hc
    | false => rw [q] at hd; exact h y d hd)
   refine ⟨cl, ?_, h1, fun y hy => h2 y ?_, fun y hy => ?_⟩
   ·rw [List.forIn_cons]
    have e0 : cellOf env n = pure c := by unfold cellOf; rw [hc]
    simp only [beq_self_eq_true, if_true, e0, pure_bind]
    exact e
   ·rw [List.lookup_cons]
    cases q : y == n with
    | true => rfl
    | false => exact hy
   ·rcases List.mem_cons.mp hy with q | q
    ·cases q
     refine h2 n ?_
     rw [List.lookup_cons, beq_self_eq_true]
     rfl
    ·exact h3 y q
  ·obtain ⟨cl, e, h1, h2, h3⟩ := lM r acc (fun p hp => hf p (List.mem_cons_of_mem _ hp)) h
   refine ⟨cl, ?_, h1, h2, fun y hy => ?_⟩
   ·rw [List.forIn_cons]
    have e0 : (k == NameKind.free) = false := by simpa using hk
    simp only [e0, Bool.false_eq_true, if_false, pure_bind]
    exact e
   ·rcases List.mem_cons.mp hy with q | q
    ·cases q; exact absurd rfl hk
    ·exact h3 y q
theorem kZ {env : Env} {scope : Scope} (hf : ∀ p ∈ scope.names, p.2 = .free → ∃ c, env.cells.lookup p.1 = some c) :
  ∃ cl, closureFor scope env = pure cl ∧ (∀ y c, cl.lookup y = some c → env.cells.lookup y = some c) ∧ ∀ y, (y, NameKind.free) ∈ scope.names → (cl.lookup y).isSome = true := by
 obtain ⟨cl, e, h1, _, h3⟩ := lM (env := env) scope.names [] hf (fun y c h => by simp at h)
 refine ⟨cl, ?_, h1, h3⟩
 unfold closureFor
 have e' := congrArg (fun m : Sem (List (Str × Addr)) => m >>= fun cs => pure cs) e
 simp only [pure_bind] at e'
 rw [← e']
structure FC where
 cl : List (Str × Addr)
 C : Addr
 s : Shared
 H : Hp
 ex : List Addr
noncomputable def bX (X : Cx) (scope : Scope) (N : List Str) (c : FC) : Cx :=
 { X with N := N, fN := c.s, HR := c.H, env := compEnvC scope c.cl c.C X.env, outer := X.stack, stack := X.stack, ex := c.ex, fn := fun _ => false, pn := [], xe := fun _ _ => False }
noncomputable def cN (k : Nat) (d9 : List Nat) (σ : St) : St := List.replicate k none ++ d9.map fun i => (σ[i]?).getD none
noncomputable def wY : TT := fun _ H Q => Q true H
section
variable {prog : Program} {w : World} {A : Around} {R : Result → Shared → Prop} {s : Shared}
theorem tL {elt target iter : Expr} {ifs : List Expr} {scope : Scope} {pos : Pos} {it acc : Value} {env : Env} (I : Nat → Shared → Prop)
  (turn : ∀ n s, I n s → wpAny (model prog w) A (pyNext it) (fun r s₁ => match r with
   | none => R (.ok .next) s₁
   | some v => wpAny (model prog w) A (letOwnedTupleGo target it v) (fun _ s₁' => wpAny (model prog w) A (assign target env v) (fun _ s₂ =>
     wpAny (model prog w) A (forIn ifs true fun c r => if r = true then do let ok ← isTrue c env (eval c env); pure (ForInStep.yield ok) else pure (ForInStep.yield r)) (fun ok s₃ =>
      if ok = true then wpAny (model prog w) A (eval elt env) (fun x s₄ =>
       wpAny (model prog w) A (call (.builtin "list.append") [acc, x]) (fun _ s₅ => ∃ m, m < n ∧ I m s₅) (fun _ _ => False) s₄) (fun _ _ => False) s₃
      else ∃ m, m < n ∧ I m s₃) (fun _ _ => False) s₂) (fun _ _ => False) s₁') (fun _ _ => False) s₁) (fun _ _ => False) s)
  (n : Nat) (h : I n s) :
  codeAny (model prog w) A (.compLoop (.ListComp elt [⟨target, iter, ifs, 0⟩] scope pos) 0 it acc env) R s := by
 refine codeAny_loop rfl I (fun n s hI => ?_) n h
 show wpAny _ A ((compTurn (.ListComp elt [⟨target, iter, ifs, 0⟩] scope pos) 0 it acc env).onRaise (fun x => do noteFrame x env; theTreesLotGoes x)) _ _ s
 refine wpAny_noted ?_
 refine wpAny_mono (E := fun _ _ => False) ?_ (fun _ _ q => q) (fun _ _ z => z.elim)
 rw [compTurn_list]
 refine wpAny_bind (wpAny_standAt (wpAny_bind (wpAny_mono (turn n s hI) (fun r s₁ h₁ => ?_) fun _ _ h' => h')))
 cases r with
 | none => exact wpAny_pure h₁
 | some v =>
  refine wpAny_bind (wpAny_mono h₁ (fun _ s₁' h₁' => ?_) fun _ _ h' => h')
  refine wpAny_bind (wpAny_mono h₁' (fun _ s₂ h₂ => wpAny_bind (wpAny_mono h₂ (fun ok s₃ h₃ => ?_) fun _ _ h' => h')) fun _ _ h' => h')
  cases ok with
  | false => exact wpAny_pure ⟨rfl, h₃⟩
  | true =>
   exact wpAny_bind (wpAny_bind (wpAny_mono h₃ (fun x s₄ h₄ => wpAny_bind (wpAny_mono h₄ (fun _ s₅ h₅ => wpAny_pure (wpAny_pure ⟨rfl, h₅⟩)) fun _ _ h' => h')) fun _ _ h' => h'))
end
noncomputable def RK (X : Cx) (ifs : List Expr) (t : TT) : Prop :=
 ∀ (pins : List (Addr × Obj)) (s : Shared) (σ : St) (H : Hp) (Q : Bool → Hp → Prop), Inv X pins σ H s → t σ H Q →
  wpAny (model X.prog X.w) X.A (forIn ifs true fun c r => if r = true then do let ok ← isTrue c X.env (eval c X.env); pure (ForInStep.yield ok) else pure (ForInStep.yield r)) (TP X pins σ Q) X.xe s
theorem eI {X : Cx} : RK X [] wY := fun pins s σ H Q I h => wpAny_tests_nil ⟨H, I, h⟩
theorem gK {env : Env} : ∀ {names : List (Str × NameKind)} {x : Str}, names.lookup x = some .free →
  (names.map fun (n, k) => if (k == NameKind.free && env.scope.kind == .function && env.kindOf n == some .cell) then (n, NameKind.cell) else (n, k)).lookup x = some .cell ∨
  (names.map fun (n, k) => if (k == NameKind.free && env.scope.kind == .function && env.kindOf n == some .cell) then (n, NameKind.cell) else (n, k)).lookup x = some .free
 | [], _, h => by simp at h
 | (n, k) :: r, x, h => by
  have ih := @gK env r x
  show List.lookup x ((if (k == NameKind.free && env.scope.kind == .function && env.kindOf n == some .cell) = true then (n, NameKind.cell) else (n, k)) :: _) = _ ∨ List.lookup x ((if (k == NameKind.free && env.scope.kind == .function && env.kindOf n == some .cell) = true then (n, NameKind.cell) else (n, k)) :: _) = _
  cases hx : x == n with
  | true =>
   simp only [List.lookup_cons, hx] at h
   cases h
   by_cases hc : (NameKind.free == NameKind.free && env.scope.kind == .function && env.kindOf n == some .cell) = true
   ·rw [if_pos hc]; left; simp only [List.lookup_cons, hx]
   ·rw [if_neg hc]; right; simp only [List.lookup_cons, hx]
  | false =>
   simp only [List.lookup_cons, hx] at h
   by_cases hc : (k == NameKind.free && env.scope.kind == .function && env.kindOf n == some .cell) = true
   ·rw [if_pos hc]; simp only [List.lookup_cons, hx]; exact ih h
   ·rw [if_neg hc]; simp only [List.lookup_cons, hx]; exact ih h
theorem iA {env : Env} : ∀ {names : List (Str × NameKind)} {x : Str}, (∀ y ∈ names, y.2 ≠ .cell) →
  ((names.map fun (n, k) => if (k == NameKind.free && env.scope.kind == .function && env.kindOf n == some .cell) then (n, NameKind.cell) else (n, k)).lookup x = some .cell ∨
  (names.map fun (n, k) => if (k == NameKind.free && env.scope.kind == .function && env.kindOf n == some .cell) then (n, NameKind.cell) else (n, k)).lookup x = some .free) → (x, NameKind.free) ∈ names
 | [], _, _, h => by simp at h
 | (n, k) :: r, x, hn, h => by
  have ih := @iA env r x (fun y hy => hn y (List.mem_cons_of_mem _ hy))
  have h' : List.lookup x ((if (k == NameKind.free && env.scope.kind == .function && env.kindOf n == some .cell) = true then (n, NameKind.cell) else (n, k)) :: (r.map fun (n, k) => if (k == NameKind.free && env.scope.kind == .function && env.kindOf n == some .cell) then (n, NameKind.cell) else (n, k))) = some .cell ∨ List.lookup x ((if (k == NameKind.free && env.scope.kind == .function && env.kindOf n == some .cell) = true then (n, NameKind.cell) else (n, k)) :: (r.map fun (n, k) => if (k == NameKind.free && env.scope.kind == .function && env.kindOf n == some .cell) then (n, NameKind.cell) else (n, k))) = some .free := h
  cases hx : x == n with
  | true =>
   have e := eq_of_beq hx
   subst e
   by_cases hc : (k == NameKind.free && env.scope.kind == .function && env.kindOf x == some .cell) = true
   ·have hk : k = .free := by
     have := (Bool.and_eq_true _ _ |>.mp ((Bool.and_eq_true _ _ |>.mp hc).1)).1
     exact eq_of_beq this
    subst hk
    exact List.mem_cons_self
   ·rw [if_neg hc] at h'
    simp only [List.lookup_cons, hx] at h'
    have hk := hn (x, k) List.mem_cons_self
    rcases h' with z | z
    ·exact absurd (Option.some.inj z) hk
    ·rw [Option.some.inj z]; exact List.mem_cons_self
  | false =>
   refine List.mem_cons_of_mem _ (ih ?_)
   by_cases hc : (k == NameKind.free && env.scope.kind == .function && env.kindOf n == some .cell) = true
   ·rw [if_pos hc] at h'; simp only [List.lookup_cons, hx] at h'; exact h'
   ·rw [if_neg hc] at h'; simp only [List.lookup_cons, hx] at h'; exact h'
noncomputable def jJ (J : It) (g : TG) (tt : TT) (te : TE) (l : Addr) (σ0 : St) (H0 : Hp) (Q : VK) : Prop :=
 ∃ W : Nat → Nat → St → Hp → Prop, (∃ m, W 0 m σ0 H0) ∧
   ∀ i m σ' H2, W i m σ' H2 → (J.stop i H2 ∧ Q (.ref l) H2) ∨ (J.go i H2 ∧ ∃ N : St → Hp → Prop, (∀ σ3 H3, N σ3 H3 → ∃ m', m' < m ∧ W (i + 1) m' σ3 H3) ∧
    ∀ x H3, J.IA i H2 x H3 → g x σ' H3 fun σ4 H4 => tt σ4 H4 fun b H5 => if b = true then te σ4 H5 fun y H6 => ∃ xs, H6 l = some (.lst xs) ∧ xs.length < sizeLine ∧ N σ4 (upd H6 l (.lst (xs ++ [y]))) else N σ4 H5)
noncomputable def yM (wi : TI) (k : Nat) (d9 : List Nat) (g : TG) (tt : TT) (te : TE) : TE := fun σ H Q => wi σ H fun J H1 => ∀ l, H1 l = none → jJ J g tt te l (cN k d9 σ) (upd H1 l (.lst [])) Q
structure iQ (X : Cx) (scope : Scope) (N : List Str) (k : Nat) (d9 : List Nat) : Prop where
 kind : scope.kind = .function
 names : ∀ y ∈ scope.names, y.2 = .local → scope.names.lookup y.1 = some .local
 cell : ∀ y ∈ scope.names, y.2 ≠ .cell
 free : ∀ y ∈ scope.names, y.2 = .free → X.env.kindOf y.1 = some .cell ∨ X.env.kindOf y.1 = some .free
 len : N.length = k + d9.length
 d9 : ∀ j i, d9[j]? = some i → ∃ y, N[k + j]? = some y ∧ X.N[i]? = some y ∧ scope.names.lookup y = some .free
theorem DI {k : Nat} {d9 : List Nat} {σ : St} {j : Nat} {v : V} (h : (cN k d9 σ)[j]? = some (some v)) : ∃ q i, j = k + q ∧ d9[q]? = some i ∧ σ[i]? = some (some v) := by
 unfold cN at h
 by_cases hj : j < k
 ·rw [List.getElem?_append_left (by simpa using hj), List.getElem?_replicate] at h
  split at h <;> cases h
 ·rw [List.getElem?_append_right (by simpa using hj), List.length_replicate, List.getElem?_map] at h
  cases q : d9[j - k]? with
  | none => rw [q] at h; cases h
  | some i =>
   rw [q] at h
   have h' : (σ[i]?).getD none = some v := Option.some.inj h
   refine ⟨j - k, i, by omega, q, ?_⟩
   cases r : σ[i]? with
   | none => rw [r] at h'; cases h'
   | some o => rw [r] at h'; have : o = some v := h'; rw [this]
theorem jL.but {P : Program} {w : World} {H : Hp} {h h' : Heap} {C : Addr} (x : jL P w H h) (hC : H C = none) (k : ∀ b o, b ≠ C → h.get? b = some o → h'.get? b = some o) : jL P w H h' := fun b u e => by
 have nit : ∀ b u, H b = some u → b ≠ C := fun b u e z => by rw [z, hC] at e; cases e
 refine (x b u e).i7 (fun c v hc q => k c v ?_ q) (fun _ q => q) fun _ _ q => q
 rcases hc with z | z
 ·rw [z]; exact nit b u e
 ·exact nit c _ z
section
variable {X : Cx} {elt tg iter : Expr} {ifs : List Expr} {scope : Scope} {pos : Pos} {wi : TI} {g : TG} {tt : TT} {te : TE} {N : List Str} {k : Nat} {d9 : List Nat}
theorem AV {pins : List (Addr × Obj)} {σ : St} {H2 : Hp} {s2 : Shared} {cl : List (Str × Addr)} {C : Addr} {fp : List Addr} (S : iQ X scope N k d9) (I2 : Inv X pins σ H2 s2)
  (hcl1 : ∀ y c, cl.lookup y = some c → X.env.cells.lookup y = some c) (hcl2 : ∀ y, (y, NameKind.free) ∈ scope.names → (cl.lookup y).isSome = true) (hC : s2.heap.objs.size ≤ C)
  (hf : ∀ b ∈ fp, oO X pins H2 b) (ho : ∀ b ∈ fp, b < s2.heap.objs.size) : (bX X scope N ⟨cl, C, s2, H2, fp⟩).Ok where
 mod := I2.ok.mod
 kind := S.kind
 glob := I2.ok.glob
 blt := I2.ok.blt
 above := hC
 inj := fun x y c h1 h2 => I2.ok.inj x y c (hcl1 x c h1) (hcl1 y c h2)
 has := fun x h => by
  have h' : (x, NameKind.free) ∈ scope.names := iA (env := X.env) S.cell h
  exact Option.isSome_iff_exists.mp (hcl2 x h')
 OJ := fun _ _ z => by cases z
 hd := I2.ok.hd
 frames := I2.ok.frames
 P2 := .inl rfl
 RQ := fun b hb => ⟨Nat.ne_of_lt (Nat.lt_of_lt_of_le (ho b hb) hC), fun x c e => (hf b hb).2.2.2.2.1 x c (hcl1 x c e)⟩
 bs := I2.bs
 HJ := Nat.le_trans I2.ok.HJ I2.sz
 zK := fun b o e hb => by
  rcases (hf b hb).2.2.2.1 with z | z
  ·exact I2.ok.zK b o e z
  ·exact absurd (Nat.lt_of_lt_of_le (Heap.lt_size e) (Nat.le_trans I2.ok.HJ z)) (Nat.lt_irrefl _)
 xK := fun b hb hb' => by
  rcases List.mem_cons.mp (I2.vR b hb') with z | z
  ·exact (hf b hb).2.1 z
  ·exact (hf b hb).2.2.1 z
 mD := I2.stack
 JM := I2.o9
theorem B5 {pins : List (Addr × Obj)} {σ : St} {H2 : Hp} {s2 : Shared} {cl : List (Str × Addr)} {C : Addr} {fp : List Addr} {h1 : Heap} {tk : Nat} {m0 : Str → Option Value} (S : iQ X scope N k d9) (I2 : Inv X pins σ H2 s2)
  (hcl1 : ∀ y c, cl.lookup y = some c → X.env.cells.lookup y = some c) (hcl2 : ∀ y, (y, NameKind.free) ∈ scope.names → (cl.lookup y).isSome = true) (hC : C = s2.heap.objs.size + 1)
  (hf : ∀ b ∈ fp, oO X pins H2 b) (ho : ∀ b ∈ fp, b < s2.heap.objs.size) (hk : ∀ b o, s2.heap.get? b = some o → h1.get? b = some o) (hD : h1.get? s2.heap.objs.size = some { cls := .type "list", data := .seq #[] 0 }) (hns : h1.Ns C m0) :
  Inv (bX X scope N ⟨cl, C, s2, H2, fp⟩) [] (cN k d9 σ) (upd H2 s2.heap.objs.size (.lst [])) { s2 with heap := h1, toks := tk } := by
 have fr : H2 s2.heap.objs.size = none := I2.bY.fresh (Nat.le_refl _)
 have hCf : H2 C = none := I2.bY.fresh (hC ▸ Nat.le_succ _)
 refine ⟨AV S I2 hcl1 hcl2 (hC ▸ Nat.le_succ _) hf ho, rfl, I2.bare, Un.laid hk (Nat.le_refl _) fr, ⟨m0, hns, fun i y v e1 e2 e3 => ?_⟩, fun x c e => ?_, ?_, fun x c e => ?_, fun p hp => absurd (show p ∈ ([] : List (Addr × Obj)) from hp) (by simp), I2.bY.laid hk (Nat.le_refl _) ?_, ?_⟩
 ·obtain ⟨q, j, rfl, hj, hv⟩ := DI e2
  obtain ⟨z, hz1, hz2, hz3⟩ := S.d9 q j hj
  have e1' : N[k + q]? = some y := e1
  rw [hz1] at e1'
  cases e1'
  obtain ⟨m, hn, hl⟩ := I2.loc
  have hfr := S.free (y, .free) (PySem.mem_of_lookup hz3) rfl
  obtain ⟨u, r, l⟩ := hl j y v hz2 hv (by rcases hfr with z | z; exact .inr (.inl z); exact .inr (.inr z))
  refine ⟨u, r, .inr ⟨gK (env := X.env) hz3, ?_⟩⟩
  obtain ⟨c, hc⟩ := Option.isSome_iff_exists.mp (hcl2 y (PySem.mem_of_lookup hz3))
  rcases l with ⟨hk', _⟩ | ⟨_, c', hc', hcell⟩
  ·rcases hfr with z | z <;> (rw [hk'] at z; cases z)
  ·have e := hcl1 y c hc
   rw [hc'] at e
   cases e
   obtain ⟨o, ho', hd⟩ := hcell
   exact ⟨_, hc, o, hk _ _ ho', hd⟩
 ·obtain ⟨v, o, ho', hd⟩ := I2.cell x c (hcl1 x c e)
  exact ⟨v, o, hk _ _ ho', hd⟩
 ·show upd H2 s2.heap.objs.size (.lst []) C = none
  rw [aL (Nat.ne_of_gt (hC ▸ Nat.lt_succ_self _))]
  exact hCf
 ·have e' := hcl1 x c e
  obtain ⟨v, q⟩ := I2.cell x c e'
  rw [aL (Nat.ne_of_lt q.lt)]
  exact I2.iR x c e'
 ·exact ⟨Nat.zero_le _, [], 0, .nil, hD⟩
 ·show (cN k d9 σ).length = N.length
  unfold cN
  rw [List.length_append, List.length_replicate, List.length_map, S.len]
theorem L8 (hc : X.calm = true) (S : iQ X scope N k d9) (hi : PI X tg iter wi) (hg : ∀ c, PG (bX X scope N c) tg g) (ht : ∀ c, RK (bX X scope N c) ifs tt) (he : ∀ c, PE (bX X scope N c) elt te)
  (hs : ∀ x, foldedSetIterable iter X.env x = pure x := by intro _; rfl) : PE X (.ListComp elt [⟨tg, iter, ifs, 0⟩] scope pos) (yM wi k d9 g tt te) := by
 intro pins s σ H Q I h
 rw [eval_ListComp]
 obtain ⟨cl, hclos, hcl1, hcl2⟩ := kZ (scope := scope) (env := X.env) (fun p hp hf => I.ok.has p.1 (S.free p hp hf))
 refine wpAny_comprehension_free (use := none) rfl hs hclos S.kind S.names (cL (hi pins s σ H _ I h) fun v s1 h1 => cL h1 fun itv s2 h2 => ?_)
 obtain ⟨it, fp, tn, J, H2, e, I2, T, st2, f2, q2⟩ := h2
 subst e
 obtain ⟨W, ⟨m0, w0⟩, turn⟩ := q2 s2.heap.objs.size (I2.bY.fresh (Nat.le_refl _))
 have hob : ∀ b ∈ fp, b < s2.heap.objs.size := fun b hb => let ⟨o, e, _⟩ := T.obj _ _ st2 b hb; Heap.lt_size e
 refine wpAny_newObj_type (wpAny_newFunctionEnv S.cell (by intro y hy; simp at hy) (fun h₁ hns₁ hsb₁ => ?_) S.kind)
 dsimp only at hns₁ hsb₁ ⊢
 generalize hHH : s2.heap.push { cls := .type "list", dict := none, data := .seq ([] : List Value).toArray } = HH at hns₁ hsb₁ ⊢
 have hCC : HH.objs.size = s2.heap.objs.size + 1 := by rw [← hHH, Heap.size_push]
 have old : ∀ b o, s2.heap.get? b = some o → h₁.get? b = some o := fun b o e => hsb₁.extBut b o (Nat.ne_of_lt (hCC ▸ Nat.lt_succ_of_lt (Heap.lt_size e))) (Heap.get?_push_of_some _ (hHH ▸ Heap.get?_push_of_some _ e))
 have hD : h₁.get? s2.heap.objs.size = some { cls := .type "list", data := .seq #[] 0 } := hsb₁.extBut _ _ (Nat.ne_of_lt (hCC ▸ Nat.lt_succ_self _)) (Heap.get?_push_of_some _ (hHH ▸ Heap.get?_push_size _ rfl))
 have I4 := fun tk => B5 (tk := tk) S I2 hcl1 hcl2 hCC f2 hob old hD hns₁
 have X' := bX X scope N ⟨cl, HH.objs.size, s2, H2, fp⟩
 have stat : ∀ {H' : Hp}, (∀ b ∈ fp, H' b = none) → ∀ b ∈ fp, oO (bX X scope N ⟨cl, HH.objs.size, s2, H2, fp⟩) [] H' b := fun hn b hb =>
  ⟨hn b hb, Nat.ne_of_lt (hCC ▸ Nat.lt_succ_of_lt (hob b hb)), (AV S I2 hcl1 hcl2 (hCC ▸ Nat.le_succ _) f2 hob).xK b hb, .inl hb, fun x c e => (f2 b hb).2.2.2.2.1 x c (hcl1 x c e), fun p hp => absurd (show p ∈ ([] : List (Addr × Obj)) from hp) (by simp)⟩
 have loop : ∀ s₃ : Shared, s₃ = { s2 with heap := h₁, toks := s2.toks + ([] : List (Str × Value)).length } →
   codeAny (model X.prog X.w) X.A (.compLoop (.ListComp elt [⟨tg, iter, ifs, 0⟩] scope pos) 0 (.ref it) (.ref s2.heap.objs.size) (compEnvC scope cl HH.objs.size X.env))
    (compPost (model X.prog X.w) X.A X.xe none (EP X pins σ Q) (.ref s2.heap.objs.size) HH.objs.size) s₃ := by
  rintro s₃ rfl
  refine tL (fun n s' => ∃ i σ' H', Inv (bX X scope N ⟨cl, HH.objs.size, s2, H2, fp⟩) [] σ' H' s' ∧ tn i s'.heap ∧ (∀ b ∈ fp, H' b = none) ∧ W i n σ' H') ?_ m0
   ⟨0, cN k d9 σ, _, I4 _, T.keep _ _ _ st2 fun b _ o e => old b o e, fun b hb => by rw [aL (Nat.ne_of_lt (hob b hb))]; exact (f2 b hb).1, w0⟩
  rintro n s3 ⟨i, σ3, H3, I3, st3, fr3, w3⟩
  rcases turn i n σ3 H3 w3 with ⟨stop, qn⟩ | ⟨go, NN, hN, step⟩
  ·refine cL (T.done (bX X scope N ⟨cl, HH.objs.size, s2, H2, fp⟩) rfl rfl rfl hc i [] s3 σ3 H3 _ I3 (stat fr3) st3 stop) fun r s4 ⟨hr, J4⟩ => ?_
   subst hr
   obtain ⟨m, hn, _⟩ := J4.loc
   refine ⟨m, hn, fun h' hs' => ?_⟩
   have keepC : ∀ b o, b ≠ HH.objs.size → s4.heap.get? b = some o → h'.get? b = some o := fun b o hb e => hs'.extBut b o hb e
   have jO : ∀ b o, s2.heap.get? b = some o → b ≠ HH.objs.size := fun b o e => Nat.ne_of_lt (hCC ▸ Nat.lt_succ_of_lt (Heap.lt_size e))
   have u := J4.base
   have u' : Un (sD X.stack) fp H2 H3 s2.heap h' := ⟨fun b o q n hb hx => keepC b o (jO b o q) (u.keep b o q n hb hx), fun b o q n hb hx => by
     obtain ⟨sl, e⟩ := u.slot b o q n hb hx
     exact ⟨sl, keepC b _ (jO b o q) e⟩, u.free, fun b o q hx => by
     obtain ⟨o', e⟩ := u.there b o q hx
     exact ⟨o', keepC b _ (jO b o q) e⟩, u.qA, u.oQ, u.pY⟩
   refine ⟨.ref s2.heap.objs.size, H3, I2.pJ (ch := fp) J4.os u' (J4.bY.but J4.free keepC) J4.bare fun b hb => ?_, rfl, qn⟩
   obtain ⟨_, f1, _, f3, f4, f5⟩ := f2 b hb
   exact ⟨f3, f1, f4, f5⟩
  ·refine cL (T.item (bX X scope N ⟨cl, HH.objs.size, s2, H2, fp⟩) rfl rfl rfl hc i [] s3 σ3 H3 _ I3 (stat fr3) st3 go) fun r s4 ⟨u, hr, h4⟩ => ?_
   subst hr
   refine cL h4 fun _ s5 ⟨x, H5, I5, r5, y5, st5, fr5⟩ => ?_
   have I5' := I5.pinned (stat fr5) (T.obj _ _ st5)
   have again : ∀ {s7 : Shared} {σ7 : St} {H7 : Hp}, Inv (bX X scope N ⟨cl, HH.objs.size, s2, H2, fp⟩) ([] ++ nE fp s5.heap) σ7 H7 s7 → NN σ7 H7 →
     ∃ m, m < n ∧ ∃ i σ' H', Inv (bX X scope N ⟨cl, HH.objs.size, s2, H2, fp⟩) [] σ' H' s7 ∧ tn i s7.heap ∧ (∀ b ∈ fp, H' b = none) ∧ W i m σ' H' := fun {s7 σ7 H7} I7 n7 => by
    obtain ⟨m', hm, w7⟩ := hN σ7 H7 n7
    refine ⟨m', hm, i + 1, σ7, H7, I7.kB, T.keep _ _ _ st5 fun b hb o e => (I7.pin (b, o) (List.mem_append_right _ (List.mem_append_right _ (fV hb e)))).1, fun b hb => ?_, w7⟩
    obtain ⟨o, e, d⟩ := T.obj _ _ st5 b hb
    exact (I7.pin (b, o) (List.mem_append_right _ (List.mem_append_right _ (fV hb e)))).2.1
   refine cL (hg _ _ s5 σ3 H5 x u _ I5' r5 (step x H5 y5)) fun _ s6 ⟨σ6, H6, I6, q6⟩ => ?_
   refine cL (ht _ _ s6 σ6 H6 _ I6 q6) fun b s7 ⟨H7, I7, q7⟩ => ?_
   cases b with
   | false => exact again I7 q7
   | true =>
    refine cL (he _ _ s7 σ6 H7 _ I7 q7) fun y s8 ⟨yv, H8, I8, r8, xs, hl, hz, n8⟩ => ?_
    refine cL (d5 _ s8 σ6 H8 (.ref s2.heap.objs.size) [yv] (.ref s2.heap.objs.size) [y] (fun _ H9 => NN σ6 H9) I8 rfl (.cons r8 .nil) ⟨_, xs, yv, rfl, rfl, hl, hz, n8⟩) fun _ s9 ⟨_, H9, I9, _, q9⟩ => ?_
    exact again I9 q9
 exact codeAny_compStart_list (loop _ rfl) (T.self X.A 0 _ _ _ (T.keep _ _ _ st2 fun b _ o e => old b o e) (loop _ rfl))
end
end L2
namespace L2
open PySem PySem.Spec PyProof.Rows
noncomputable def QL (z : Str) : It := ⟨fun i _ => i < z.cps.size, fun i H x H' => H' = H ∧ ∃ c, z.cps[i]? = some c ∧ x = .str ⟨#[c]⟩, fun i _ => z.cps.size ≤ i⟩
theorem DY {P : Program} {w : World} {K : PySem.W.Frag} {tg : Expr} (z : Str) (t : Tok) (it : Addr) : Turn P w K tg (QL z) [it] it (fun i h => h.IsStrIter it "str_ascii_iterator" z t i) where
 mem := by simp
 obj := fun i h st b hb => by
  have e : b = it := by simpa using hb
  subst e
  obtain ⟨o, e, c, d⟩ := st
  exact ⟨o, e, fun v z => by rw [d] at z; cases z⟩
 keep := fun i h h' st k => let ⟨o, e, r⟩ := st; ⟨o, k it (by simp) o e, r⟩
 item := by
  intro X hP hw hK hc i pins s σ H E I hf st hg
  subst hP hw hK
  obtain ⟨f0, f1, f2, f3, f4, f5⟩ := hf it (by simp)
  have hg' : i < z.cps.size := hg
  refine wpAny_pyNext_ascii_item st (c := z.cps[i]) (by simp [hg']) fun h' st' sb => ?_
  have I1 : Inv X pins σ H { s with heap := h', toks := s.toks + 1 } := I.turned (fun b o hb e => (sb.2 b hb).trans e) f0 f1 f3 f4 f5
  obtain ⟨o, e, c, d⟩ := id st'
  exact ⟨_, rfl, yX (s := { s with heap := h', toks := s.toks + 1 }) e c d (by decide) ⟨.str ⟨#[z.cps[i]]⟩, H, I1, ⟨_, rfl⟩, ⟨rfl, _, by simp [hg'], rfl⟩, st', fun b hb => (hf b hb).1⟩⟩
 done := by
  intro X hP hw hK hc i pins s σ H E I hf st hg
  subst hP hw hK
  obtain ⟨f0, f1, f2, f3, f4, f5⟩ := hf it (by simp)
  exact wpAny_pyNext_ascii_end (I.ok.hd hc) st (Array.getElem?_eq_none hg) fun h' eb => ⟨rfl, I.turned (t' := s.toks) (fun b o hb e => eb b o hb e) f0 f1 f3 f4 f5⟩
 self := fun A i s Q E st h => by
  refine wpAny_pyIter_slot st.typeIs F.slot_str_ascii_iterator_iter (wpAny_call_entry F.slot_str_ascii_iterator_iter st.typeIs F.entry_str_ascii_iterator_iter ?_ (F.args_str_ascii_iterator_iter_1 _))
  show wpAny _ _ (ret (.ref it)) _ _ s
  exact wpAny_pure ⟨_, rfl, "str_ascii_iterator", _, st.typeIs, F.slot_str_ascii_iterator_next.lookup, h⟩
theorem DE {P : Program} {w : World} {K : PySem.W.Frag} {tg : Expr} (z : Str) (t : Tok) (it : Addr) : Turn P w K tg (QL z) [it] it (fun i h => h.IsStrIter it "str_iterator" z t i) where
 mem := by simp
 obj := fun i h st b hb => by
  have e : b = it := by simpa using hb
  subst e
  obtain ⟨o, e, c, d⟩ := st
  exact ⟨o, e, fun v z => by rw [d] at z; cases z⟩
 keep := fun i h h' st k => let ⟨o, e, r⟩ := st; ⟨o, k it (by simp) o e, r⟩
 item := by
  intro X hP hw hK hc i pins s σ H E I hf st hg
  subst hP hw hK
  obtain ⟨f0, f1, f2, f3, f4, f5⟩ := hf it (by simp)
  have hg' : i < z.cps.size := hg
  refine wpAny_pyNext_wide_item st (c := z.cps[i]) (by simp [hg']) fun h' st' sb => ?_
  have I1 : Inv X pins σ H { s with heap := h', toks := s.toks + 1 } := I.turned (fun b o hb e => (sb.2 b hb).trans e) f0 f1 f3 f4 f5
  obtain ⟨o, e, c, d⟩ := id st'
  exact ⟨_, rfl, yX (s := { s with heap := h', toks := s.toks + 1 }) e c d (by decide) ⟨.str ⟨#[z.cps[i]]⟩, H, I1, ⟨_, rfl⟩, ⟨rfl, _, by simp [hg'], rfl⟩, st', fun b hb => (hf b hb).1⟩⟩
 done := by
  intro X hP hw hK hc i pins s σ H E I hf st hg
  subst hP hw hK
  obtain ⟨f0, f1, f2, f3, f4, f5⟩ := hf it (by simp)
  exact wpAny_pyNext_wide_end (I.ok.hd hc) st (Array.getElem?_eq_none hg) fun h' eb => ⟨rfl, I.turned (t' := s.toks) (fun b o hb e => eb b o hb e) f0 f1 f3 f4 f5⟩
 self := fun A i s Q E st h => by
  refine wpAny_pyIter_slot st.typeIs F.slot_str_iterator_iter (wpAny_call_entry F.slot_str_iterator_iter st.typeIs F.entry_str_iterator_iter ?_ (F.args_str_iterator_iter_1 _))
  show wpAny _ _ (ret (.ref it)) _ _ s
  exact wpAny_pure ⟨_, rfl, "str_iterator", _, st.typeIs, F.slot_str_iterator_next.lookup, h⟩
noncomputable def QE (tl : TE) : TI := fun σ H R => tl σ H fun x H1 => ∃ z, x = .str z ∧ R (QL z) H1
section
variable {X : Cx} {tg : Expr}
theorem nO {l : Expr} {tl : TE} (hl : PE X l tl) : PI X tg l (QE tl) := by
 intro pins s σ H R I h
 refine cL (hl pins s σ H _ I h) fun v s1 ⟨x, H1, I1, r1, q1⟩ => ?_
 obtain ⟨z, e, q⟩ := q1
 subst e
 obtain ⟨t, rfl⟩ := r1
 cases ha : z.cps.all (· < 128) with
 | true =>
  refine wpAny_pyIter_ascii ha ?_
  refine ⟨s1.heap.objs.size, [s1.heap.objs.size], _, _, H1, rfl, I1.kept (t' := s1.toks) fun b o e => Heap.get?_push_of_some _ e, DY z t _, ⟨_, Heap.get?_push_size _ rfl, rfl, rfl⟩, fun b hb => ?_, q⟩
  have e : b = s1.heap.objs.size := by simpa using hb
  subst e
  exact I1.qY (Nat.le_refl _) (I1.bY.fresh (Nat.le_refl _))
 | false =>
  refine wpAny_pyIter_wide ha ?_
  refine ⟨s1.heap.objs.size, [s1.heap.objs.size], _, _, H1, rfl, I1.kept (t' := s1.toks) fun b o e => Heap.get?_push_of_some _ e, DE z t _, ⟨_, Heap.get?_push_size _ rfl, rfl, rfl⟩, fun b hb => ?_, q⟩
  have e : b = s1.heap.objs.size := by simpa using hb
  subst e
  exact I1.qY (Nat.le_refl _) (I1.bY.fresh (Nat.le_refl _))
end
noncomputable def lK (bs : List Bool) : List V := bs.map V.bl
theorem RD {bs : List Bool} {its : List Value} (r : Vals (lK bs) its) : ∀ i : Nat, its[i]? = (bs[i]?).map Value.bool := by
 induction bs generalizing its with
 | nil => cases r; intro i; simp
 | cons b bs ih =>
  cases r with
  | cons r rr =>
   cases r
   intro i
   cases i with
   | zero => rfl
   | succ i => exact ih rr i
theorem range_all {n : Nat} {f : Nat → Bool} {l : List Bool} (hn : l.length = n) (h : ∀ i b, l[i]? = some b → f i = b) : (List.range n).all f = l.all id := by
 induction l generalizing n f with
 | nil => subst hn; rfl
 | cons b l ih =>
  subst hn
  rw [List.length_cons, List.range_succ_eq_map, List.all_cons, List.all_map, List.all_cons, h 0 b rfl, ih (n := l.length) (f := f ∘ Nat.succ) rfl fun i b e => h (i + 1) b e]
  rfl
section
variable {X : Cx}
theorem GB (hc : X.calm = true) : eL X (.builtin "all") (fun xs H Q => ∃ p bs, xs = [.ref p] ∧ aX X.K H p (lK bs) ∧ Q (.bl (bs.all id)) H) := by
 intro pins s σ H xs us Q I r h
 obtain ⟨p, bs, rfl, hq, q⟩ := h
 obtain ⟨u, rfl, rx⟩ := vals1 r
 cases rx
 obtain ⟨its, rv, pl, hz⟩ := I.list hq
 have hg := RD rv
 have hlen : bs.length = its.length := by have := rv.length; simpa [lK] using this
 refine call_all_walk (wpAny_pyIter_list pl.isList ?_)
 have hlt : p < s.heap.objs.size := let ⟨o, _, e, _⟩ := pl; Heap.lt_size e
 refine ⟨s.heap.objs.size, _, _, _, _, _, fun i => (bs[i]?).getD false, rfl, Walks.list (by exact I.ok.hd hc) s.heap.objs.size p (Nat.ne_of_lt hlt) its.toArray, ⟨⟨_, Heap.get?_push_size _ rfl, rfl, rfl⟩, pl.isList.at fun o e => Heap.get?_push_of_some _ e⟩, ?_, ?_⟩
 ·intro i v s' Q' E' hv hq'
  have hv' : its[i]? = some v := by simpa using hv
  rw [hg i] at hv'
  cases e : bs[i]? with
  | none => rw [e] at hv'; cases hv'
  | some b =>
   dsimp only at hq'
   rw [e] at hv' hq'
   cases hv'
   exact wpAny_truthy_bool hq'
 ·intro h' tk hk
  have e1 : (List.range its.toArray.size).all (fun i => (bs[i]?).getD false) = bs.all id := range_all (by simpa using hlen) (fun i b e => by rw [e]; rfl)
  rw [e1]
  have I1 : Inv X pins σ H { s with heap := s.heap.push { cls := .type "list_iterator", data := .fields #[.ref p, .int 0 0] }, toks := s.toks } := I.kept fun b o e => Heap.get?_push_of_some _ e
  have f1 := I.qY (H' := H) (Nat.le_refl _) (I.bY.fresh (Nat.le_refl _))
  obtain ⟨f0, f1, f2, f3, f4, f5⟩ := f1
  exact ⟨.bl _, H, I1.turned (it := s.heap.objs.size) (fun b o hb e => hk b o (by simpa using hb) e) f0 f1 f3 f4 f5, rfl, q⟩
theorem GH : eL X (.builtin "isinstance") (fun xs H Q => ∃ x T t b, xs = [x, .ty T] ∧ lR X.K H x t ∧ PySem.W.kitOne X.K t (.type T) = some b ∧ Q (.bl b) H) := by
 intro pins s σ H xs us Q I r h
 obtain ⟨x, T, t, b, rfl, ty, e, q⟩ := h
 obtain ⟨u, v, rfl, rx, ry⟩ := vals2 r
 cases ry
 exact D6 I rx ty e fun tk => ⟨.bl b, H, I.tok tk, rfl, q⟩
theorem j9 : NU X (fun x lo hi H Q => ∃ z, x = .str z ∧ z.length ≤ sizeLine ∧ Q (.str (Txt.slice z lo hi)) H) := by
 intro pins s σ H x v vl vu lo hi sl Q I rx hs pl pu h
 obtain ⟨z, rfl, hz, q⟩ := h
 obtain ⟨t, rfl⟩ := rx
 refine ⟨"str", _, F.slot_str_getitem.lookup, typeIs_str _ _ _, ?_⟩
 obtain ⟨o, ho, hc, hd⟩ := hs
 have fin : ∀ (t' : Tok) (k : Nat), EP X pins σ Q (.str (Txt.slice z lo hi) t') { s with toks := k } := fun t' k => ⟨.str (Txt.slice z lo hi), H, I.tok k, ⟨t', rfl⟩, q⟩
 have hle := Nat.le_trans (Txt.slice_le z lo hi) hz
 cases pl with
 | none => cases pu with
  | none => exact wpAny_getItem_str_slice (l := none) (u := none) (st := none) ⟨o, ho, hc, hd⟩ rfl (post_val_or_str ⟨hle, fun t' k => fin t' k⟩)
  | int j uj => exact wpAny_getItem_str_slice (l := none) (u := some (j, uj)) (st := none) ⟨o, ho, hc, hd⟩ rfl (post_val_or_str ⟨hle, fun t' k => fin t' k⟩)
 | int i ui => cases pu with
  | none => exact wpAny_getItem_str_slice (l := some (i, ui)) (u := none) (st := none) ⟨o, ho, hc, hd⟩ rfl (post_val_or_str ⟨hle, fun t' k => fin t' k⟩)
  | int j uj => exact wpAny_getItem_str_slice (l := some (i, ui)) (u := some (j, uj)) (st := none) ⟨o, ho, hc, hd⟩ rfl (post_val_or_str ⟨hle, fun t' k => fin t' k⟩)
theorem vO : ∀ {ys : List Str} {its : List Value}, Vals (ys.map V.str) its → StrsAre its ys
 | [], _, r => by cases r; exact .nil
 | y :: ys, _, r => by
  cases r with
  | cons r rr =>
   obtain ⟨t, rfl⟩ := r
   exact .cons y t (vO rr)
noncomputable def rJoin (K : PySem.W.Frag) : V → List V → Hp → VK → Prop := fun x vs H Q => ∃ z p ys, x = .str z ∧ vs = [.ref p] ∧ aX K H p (ys.map V.str) ∧ (ys.map (·.length)).sum + ys.length * z.length ≤ 16777216 ∧ Q (.str (Txt.join z ys)) H
theorem KN : MR X "str.join" (rJoin X.K) := by
 intro pins s σ H x vs v us Q I rx rv h
 obtain ⟨z, p, ys, rfl, rfl, hq, hz, q⟩ := h
 obtain ⟨t, rfl⟩ := rx
 obtain ⟨u, rfl, rp⟩ := vals1 rv
 cases rp
 obtain ⟨its, r, pl, _⟩ := I.list hq
 exact join_list pl.isList (by simpa using vO r) hz fun t' k => ⟨.str (Txt.join z ys), H, I.tok k, ⟨t', rfl⟩, q⟩
theorem oW : iK X (binaryOp .Pow) (rI (fun i j => 0 ≤ j ∧ (Builtin.Int.intBits i : Int) * j ≤ 2 ^ 27) fun i j => .int (i ^ j.toNat)) := Q5 fun _ _ _ _ _ _ _ hc q => pow_int hc.1 hc.2 q
end
noncomputable def o3 (XN : List Str) (xs scope : Scope) (N : List Str) (k : Nat) (d9 : List Nat) : Bool :=
 scope.kind == .function && (scope.names.all fun y => y.2 != .local || scope.names.lookup y.1 == some .local) && (scope.names.all fun y => y.2 != .cell) &&
 (scope.names.all fun y => y.2 != .free || xs.names.lookup y.1 == some .cell || xs.names.lookup y.1 == some .free) && N.length == k + d9.length &&
 (List.range d9.length).all fun j => match d9[j]?, N[k + j]? with
  | some i, some y => XN[i]? == some y && scope.names.lookup y == some .free
  | _, _ => false
theorem mS {X : Cx} {XN : List Str} {xs scope : Scope} {N : List Str} {k : Nat} {d9 : List Nat} (hN : X.N = XN) (hs : X.env.scope = xs) (h : o3 XN xs scope N k d9 = true) : iQ X scope N k d9 := by
 subst hN hs
 unfold o3 at h
 simp only [Bool.and_eq_true, List.all_eq_true, Bool.or_eq_true, bne_iff_ne, ne_eq, beq_iff_eq] at h
 obtain ⟨⟨⟨⟨⟨h1, h2⟩, h3⟩, h4⟩, h5⟩, h6⟩ := h
 refine ⟨h1, fun y hy e => (h2 y hy).resolve_left (fun z => z e), h3, fun y hy e => ?_, h5, fun j i e => ?_⟩
 ·rcases h4 y hy with (z | z) | z
  ·exact absurd e z
  ·exact .inl z
  ·exact .inr z
 ·have hj : j < d9.length := (List.getElem?_eq_some_iff.mp e).1
  have q := h6 j (List.mem_range.mpr hj)
  rw [e] at q
  cases r : N[k + j]? with
  | none => rw [r] at q; cases q
  | some y =>
   rw [r] at q
   simp only [Bool.and_eq_true, beq_iff_eq] at q
   exact ⟨y, rfl, q.1, q.2⟩
section
variable {X : Cx} {elt tg iter : Expr} {ifs : List Expr} {scope : Scope} {pos : Pos} {wi : TI} {g : TG} {tt : TT} {te : TE} {N : List Str} {k : Nat} {d9 : List Nat} {XN : List Str} {xs : Scope}
theorem jK (N : List Str) (k : Nat) (d9 : List Nat) (XN : List Str) (xs : Scope) (hc : X.calm = true) (hN : X.N = XN) (hx : X.env.scope = xs) (hi : PI X tg iter wi) (chk : o3 XN xs scope N k d9 = true)
  (hg : ∀ c, PG (bX X scope N c) tg g) (ht : ∀ c, RK (bX X scope N c) ifs tt) (he : ∀ c, PE (bX X scope N c) elt te)
  (hs : ∀ x, foldedSetIterable iter X.env x = pure x := by intro _; rfl) : PE X (.ListComp elt [⟨tg, iter, ifs, 0⟩] scope pos) (yM wi k d9 g tt te) := L8 hc (mS hN hx chk) hi hg ht he hs
end
section
variable {wi : TI} {k : Nat} {d9 : List Nat} {g : TG} {tt : TT} {te : TE} {σ : St} {H1 : Hp} {Q : VK} {l : Addr}
noncomputable def cM (g : TG) (tt : TT) (te : TE) (l : Addr) (x : V) (σ : St) (H : Hp) (N : St → Hp → Prop) : Prop :=
 g x σ H fun σ4 H4 => tt σ4 H4 fun b H5 => if b = true then te σ4 H5 fun y H6 => ∃ xs, H6 l = some (.lst xs) ∧ xs.length < sizeLine ∧ N σ4 (upd H6 l (.lst (xs ++ [y]))) else N σ4 H5
theorem rH (J : It) (n : Nat) (Pv : Nat → St → Hp → Prop) (h0 : Pv 0 (cN k d9 σ) (upd H1 l (.lst [])))
  (hstop : ∀ σ H, Pv n σ H → J.stop n H) (hgo : ∀ i σ H, i < n → Pv i σ H → J.go i H)
  (hs : ∀ i σ H x H', i < n → Pv i σ H → J.IA i H x H' → cM g tt te l x σ H' (Pv (i + 1))) (hd : ∀ σ H, Pv n σ H → Q (.ref l) H) :
  jJ J g tt te l (cN k d9 σ) (upd H1 l (.lst [])) Q := by
 refine ⟨fun i m σ H => m = n - i ∧ i ≤ n ∧ Pv i σ H, ⟨n, by simp, Nat.zero_le _, h0⟩, ?_⟩
 rintro i m σ H ⟨rfl, hi, p⟩
 by_cases hlt : i < n
 ·exact .inr ⟨hgo i σ H hlt p, Pv (i + 1), fun σ' H' p' => ⟨n - (i + 1), by omega, rfl, hlt, p'⟩, fun x H' y => hs i σ H x H' hlt p y⟩
 ·have e : i = n := by omega
  subst e
  exact .inl ⟨hstop σ H p, hd σ H p⟩
theorem AQ (lo : Int) (n : Nat) (Pv : Nat → St → Hp → Prop) (h0 : Pv 0 (cN k d9 σ) (upd H1 l (.lst [])))
  (hs : ∀ i σ H, i < n → Pv i σ H → cM g tt te l (.int (lo + i)) σ H (Pv (i + 1))) (hd : ∀ σ H, Pv n σ H → Q (.ref l) H) :
  jJ (JG lo n) g tt te l (cN k d9 σ) (upd H1 l (.lst [])) Q :=
 rH (JG lo n) n Pv h0 (fun _ _ _ => Nat.le_refl n) (fun _ _ _ h _ => h) (fun i σ H x H' hi p y => by obtain ⟨e1, e2⟩ := y; subst e1 e2; exact hs i σ _ hi p) hd
end
structure Def (K : PySem.W.Frag) (mg : Str → Option Value) (x : Str) (st : Stmt) (ps : List Str) (f : Addr) (fd : FuncData) : Prop where
 F : LL K x x st f fd
 m : mg x = some (.ref f)
 b : Binds K fd ps []
section
variable {X : Cx} {x : Str} {st : Stmt} {ps : List Str} {f : Addr} {fd : FuncData} {j k : Nat} {sp : Sp} {e : Expr} {es : List Expr} {t : TA} {p pos : Pos}
theorem bB (D : Def X.K X.mg x st ps f fd) (G : aT X.prog X.w X.K X.mg X.base dF j f fd ps sp) (hr : eA k X.A) (hjk : j ≤ k) (hg : Gl X x) (ha : PA X (e :: es) t) (hdb : (x == ("__debug__" : Str)) = false := by decide)
  (he : starEach (e :: es) X.env = (false, eval e X.env) :: starEach es X.env := by rfl) (hpl : (backTo pos (starEach es X.env)).any (·.1) = false := by rfl) :
  PE X (.Call (.Name x p) (e :: es) [] pos) (mR sp [] E0 t) := uI G (hr.mono hjk) hg D.m D.F.kp D.b .nil QI ha hdb he hpl
end
end L2
namespace L2
open PySem PySem.Spec PyProof.Rows
noncomputable def pX : List V → List V → Bool
 | [], [] => true
 | x :: xs, y :: ys => zZ x y && pX xs ys
 | _, _ => false
theorem qE : ∀ {xs ys : List V}, xs.length ≠ ys.length → pX xs ys = false
 | [], [], h => absurd rfl h
 | [], _ :: _, _ => rfl
 | _ :: _, [], _ => rfl
 | x :: xs, y :: ys, h => by
  unfold pX
  rw [qE (xs := xs) (ys := ys) (by simpa using h), Bool.and_false]
theorem lF : ∀ {xs ys : List V}, xs.length = ys.length → (List.range xs.length).all (fun j => zZ ((xs[j]?).getD .aZ) ((ys[j]?).getD .aZ)) = pX xs ys
 | [], [], _ => rfl
 | [], _ :: _, h => by cases h
 | _ :: _, [], h => by cases h
 | x :: xs, y :: ys, h => by
  have ih := lF (xs := xs) (ys := ys) (by simpa using h)
  rw [List.length_cons, List.range_succ_eq_map, List.all_cons, List.all_map]
  unfold pX
  rw [← ih]
  rfl
theorem Vals.get' : ∀ {xs : List V} {us : List Value} {i : Nat} {u : Value}, Vals xs us → us[i]? = some u → ∃ x, xs[i]? = some x ∧ RelV x u
 | _, _, _, _, .nil, h => by simp at h
 | _, _, 0, _, .cons r _, h => by simp at h; subst h; exact ⟨_, rfl, r⟩
 | _, _, i + 1, _, .cons _ t, h => Vals.get' (i := i) t (by simpa using h)
section
variable {X : Cx} {k : Nat}
theorem OK (hr : eA k X.A) : iK X (compareOp .Eq) (fun x y H Q => ∃ a b xs ys, x = .ref a ∧ y = .ref b ∧ aX X.K H a xs ∧ aX X.K H b ys ∧ (xs.length = ys.length → xs.all gE = true ∧ ys.all gE = true) ∧ Q (.bl (pX xs ys)) H) := by
 intro pins s σ H x y v u Q I rx ry h
 obtain ⟨a, b, xs, ys, rfl, rfl, ha, hb, hf, q⟩ := h
 cases rx
 cases ry
 obtain ⟨its, r1, p1, _⟩ := I.list ha
 obtain ⟨its2, r2, p2, _⟩ := I.list hb
 have l1 := r1.length
 have l2 := r2.length
 by_cases e : xs.length = ys.length
 ·obtain ⟨f1, f2⟩ := hf e
  refine SeqAt.eq_listAt (e := fun j => zZ ((xs[j]?).getD .aZ) ((ys[j]?).getD .aZ)) p1.isList p2.isList (by simp; omega) hr.vD (fun j h1 h2 => ?_) ?_
  ·have g1 : its[j]? = some (its.toArray[j]) := by simp at h1 ⊢
   have g2 : its2[j]? = some (its2.toArray[j]) := by simp at h2 ⊢
   obtain ⟨x, ex, rx⟩ := r1.get' g1
   obtain ⟨y, ey, ry⟩ := r2.get' g2
   rw [ex, ey]
   exact AM rx ry (List.all_eq_true.mp f1 _ (List.mem_of_getElem? ex)) (List.all_eq_true.mp f2 _ (List.mem_of_getElem? ey))
  ·have e1 : its.toArray.size = xs.length := by simp; omega
   rw [e1, lF e]
   exact ⟨.bl _, H, I, rfl, q⟩
 ·refine SeqAt.eq_list_lengthsAt p1.isList p2.isList (by simp; omega) hr.vD ?_
  rw [qE e] at q
  exact ⟨.bl false, H, I, rfl, q⟩
end
theorem jW {K : PySem.W.Frag} : PySem.W.kitOne K (.type "str") (.type "str") = some true := by rfl
theorem nR {K : PySem.W.Frag} : PySem.W.kitOne K (.type "tuple") (.type "tuple") = some true := by rfl
theorem IS : bootBuiltins "abs" = some (.builtin "abs") := by decide +kernel
theorem jA : bootBuiltins "all" = some (.builtin "all") := by decide +kernel
theorem aR : bootBuiltins "isinstance" = some (.builtin "isinstance") := by decide +kernel
theorem dE : bootBuiltins "len" = some (.builtin "len") := by decide +kernel
theorem HZ : bootBuiltins "max" = some (.builtin "max") := by decide +kernel
theorem OM : bootBuiltins "min" = some (.builtin "min") := by decide +kernel
theorem EO : bootBuiltins "sorted" = some (.builtin "sorted") := by decide +kernel
theorem tW : bootBuiltins "int" = some (.type "int") := by decide +kernel
theorem vU : bootBuiltins "bool" = some (.type "bool") := by decide +kernel
theorem nJ : bootBuiltins "str" = some (.type "str") := by decide +kernel
theorem pA : bootBuiltins "list" = some (.type "list") := by decide +kernel
theorem eR : bootBuiltins "tuple" = some (.type "tuple") := by decide +kernel
theorem uA : bootBuiltins "enumerate" = some (.type "enumerate") := by decide +kernel
theorem OI : bootBuiltins "zip" = some (.type "zip") := by decide +kernel
theorem aH {t u : TS} {D : Ends} {σ : St} {H : Hp} (h : t { D with nx := u D } σ H) : sC t u D σ H := h
theorem qJ {CX : DC} {P : Program} {w : World} {K : PySem.W.Frag} {mg : Str → Option Value} {base : Heap} {N : List Str} {qual : Str} {scope : Scope} {f : Addr} {cd : Value} {A : Around} {outer : List Env} {s : Shared} {H : Hp} {E : XK} : (sG CX P w K mg base N qual scope f cd A outer s H E).K = K := rfl
theorem j6 {X : Cx} {scope : Scope} {N : List Str} {c : FC} : (bX X scope N c).K = X.K := rfl
section
variable {X : Cx}
theorem DR : eL X (.builtin "len") (fun xs H Q => ∃ p ys, xs = [.ref p] ∧ aX X.K H p ys ∧ Q (.int ys.length) H) := by
 intro pins s σ H xs us Q I r h
 obtain ⟨p, ys, e, hq, q⟩ := h
 exact mH pins s σ H xs us Q I r ⟨p, ys, e, .inl hq, q⟩
theorem D5 : eL X (.builtin "len") (fun xs H Q => ∃ p ys, xs = [.ref p] ∧ dZ X.K H p ys ∧ Q (.int ys.length) H) := by
 intro pins s σ H xs us Q I r h
 obtain ⟨p, ys, e, hq, q⟩ := h
 exact mH pins s σ H xs us Q I r ⟨p, ys, e, .inr hq, q⟩
end
end L2
namespace L2
open PySem PySem.Spec PyProof.Rows
noncomputable def QS (p : Addr) (H H' : Hp) : Prop := ∀ b o, H b = some o → b ≠ p → H' b = some o
theorem aG.upd {H : Hp} {l : Addr} {o : HO} (h : H l = none) : aG H (upd H l o) := fun b u e => by rw [aL (aF e h)]; exact e
theorem aX.same {K : PySem.W.Frag} {H H' : Hp} {a : Addr} {xs : List V} (h : aX K H a xs) (s : aG H H') : aX K H' a xs := aG.seq s h
theorem dZ.same {K : PySem.W.Frag} {H H' : Hp} {a : Addr} {xs : List V} (h : dZ K H a xs) (s : aG H H') : dZ K H' a xs := by
 rcases h with (h | ⟨o, h⟩) | h
 ·exact .inl (.inl (s _ _ h))
 ·exact .inl (.inr ⟨o, s _ _ h⟩)
 ·exact .inr h
theorem cF {n : Nat} (h : n ≤ 16777216) : n ≤ sizeLine := by rw [PySem.sizeLine_eq]; exact h
theorem o4 {n : Nat} (h : n < 16777216) : n < sizeLine := by rw [PySem.sizeLine_eq]; exact h
theorem uR (z : Str) : z.cps.toList.length = z.length := by simp [Str.length]
theorem mK {z : Str} {d : Int} (h0 : 0 ≤ d) (h : d < (z.length : Int)) : ∃ c, c ∈ z.cps.toList ∧ rT z.cps.toList d = some c := by
 obtain ⟨j, rfl⟩ : ∃ j : Nat, d = (j : Int) := ⟨d.toNat, by omega⟩
 have hj : j < z.cps.toList.length := by have e := uR z; omega
 exact ⟨z.cps.toList[j], List.getElem_mem hj, bI (by simp [hj])⟩
theorem vP {α : Type} {xs : List α} {d : Int} (h0 : 0 ≤ d) (h : d < (xs.length : Int)) : ∃ c, c ∈ xs ∧ rT xs d = some c := by
 obtain ⟨j, rfl⟩ : ∃ j : Nat, d = (j : Int) := ⟨d.toNat, by omega⟩
 have hj : j < xs.length := by omega
 exact ⟨xs[j], List.getElem_mem hj, bI (by simp [hj])⟩
theorem mL {ys : List Str} (h : ∀ y ∈ ys, y.length = 1) : (ys.map (·.length)).sum = ys.length := by
 induction ys with
 | nil => rfl
 | cons y ys ih =>
  rw [List.map_cons, List.sum_cons, List.length_cons, ih fun z hz => h z (List.mem_cons_of_mem _ hz), h y List.mem_cons_self]
  omega
section
variable {k : Nat} {d9 : List Nat} {g : TG} {tt : TT} {te : TE} {σ : St} {H : Hp} {Q : VK} {l : Addr}
theorem nZ {α : Type} {p : α → Bool} {vs : List α} {i : Nat} {x : α} (h : vs[i]? = some x) : (vs.take (i + 1)).filter p = (vs.take i).filter p ++ (if p x = true then [x] else []) := by
 rw [List.take_add_one, h, List.filter_append]
 congr 1
 by_cases e : p x = true
 ·simp [e]
 ·simp [e]
theorem EG (J : It) (vs : List V) (p : V → Bool) (f : V → V) (Good : St → Prop) (h0 : Good (cN k d9 σ)) (hlen : vs.length < sizeLine)
  (hstop : ∀ xs, J.stop vs.length (upd H l (.lst xs))) (hgo : ∀ i xs, i < vs.length → J.go i (upd H l (.lst xs)))
  (hyld : ∀ i xs x H', i < vs.length → J.IA i (upd H l (.lst xs)) x H' → H' = upd H l (.lst xs) ∧ vs[i]? = some x)
  (ht : ∀ x σ xs (N : St → Hp → Prop), x ∈ vs → xs.length < sizeLine → Good σ → (∀ σ', Good σ' → N σ' (upd H l (.lst (if p x = true then xs ++ [f x] else xs)))) → cM g tt te l x σ (upd H l (.lst xs)) N)
  (hd : Q (.ref l) (upd H l (.lst ((vs.filter p).map f)))) : jJ J g tt te l (cN k d9 σ) (upd H l (.lst [])) Q := by
 refine rH J vs.length (fun i σ' H' => i ≤ vs.length ∧ Good σ' ∧ H' = upd H l (.lst (((vs.take i).filter p).map f))) ⟨Nat.zero_le _, h0, rfl⟩ (fun σ' H' ⟨_, _, e⟩ => e ▸ hstop _) (fun i σ' H' hi ⟨_, _, e⟩ => e ▸ hgo i _ hi) (fun i σ' H' x H'' hi ⟨_, gd, e⟩ y => ?_) (fun σ' H' ⟨_, _, e⟩ => ?_)
 ·subst e
  obtain ⟨e1, e2⟩ := hyld i _ x H'' hi y
  subst e1
  refine ht x σ' _ _ (List.mem_of_getElem? e2) ?_ gd fun σ2 g2 => ⟨hi, g2, ?_⟩
  ·rw [List.length_map]
   have a1 := List.length_filter_le p (vs.take i)
   have a2 := List.length_take_le i vs
   exact Nat.lt_of_le_of_lt (Nat.le_trans a1 (by rw [List.length_take]; omega)) hlen
  ·rw [nZ e2, List.map_append]
   by_cases e : p x = true
   ·rw [if_pos e, if_pos e]; rfl
   ·rw [if_neg e, if_neg e, List.map_nil, List.append_nil]
 ·subst e
  rw [List.take_length]
  exact hd
theorem gS (z : Str) (p : V → Bool) (f : V → V) (Good : St → Prop) (h0 : Good (cN k d9 σ)) (hlen : z.length < sizeLine)
  (ht : ∀ c σ xs (N : St → Hp → Prop), c ∈ z.cps.toList → xs.length < sizeLine → Good σ → (∀ σ', Good σ' → N σ' (upd H l (.lst (if p (.str ⟨#[c]⟩) = true then xs ++ [f (.str ⟨#[c]⟩)] else xs)))) → cM g tt te l (.str ⟨#[c]⟩) σ (upd H l (.lst xs)) N)
  (hd : Q (.ref l) (upd H l (.lst (((z.cps.toList.map fun c => V.str ⟨#[c]⟩).filter p).map f)))) : jJ (QL z) g tt te l (cN k d9 σ) (upd H l (.lst [])) Q := by
 have e : (z.cps.toList.map fun c => V.str ⟨#[c]⟩).length = z.cps.size := by simp
 refine EG (QL z) (z.cps.toList.map fun c => V.str ⟨#[c]⟩) p f Good h0 (by rw [e]; exact hlen) (fun xs => ?_) (fun i xs hi => ?_) (fun i xs x H' hi y => ?_) (fun x σ xs N hx hz gd hN => ?_) hd
 ·rw [e]; exact Nat.le_refl _
 ·rw [e] at hi; exact hi
 ·obtain ⟨e1, c, hc, e2⟩ := y
  subst e2
  refine ⟨e1, ?_⟩
  rw [List.getElem?_map]
  have : z.cps.toList[i]? = some c := by simpa using hc
  rw [this]; rfl
 ·obtain ⟨c, hc, rfl⟩ := List.mem_map.mp hx
  exact ht c σ xs N hc hz gd hN
theorem aX.SY {K : PySem.W.Frag} {H : Hp} {a l : Addr} {xs : List V} {o : HO} (h : aX K H a xs) (hl : H l = none) : aX K (upd H l o) a xs := h.same (aG.upd hl)
end
theorem oA {c : Prop} [Decidable c] {A B : Prop} (hc : ¬ c) (h : B) : if decide c = true then A else B := by
 rw [decide_eq_false hc]; exact gL h
theorem nS {c : Prop} [Decidable c] {A B : Prop} (hc : c) (h : A) : if decide c = true then A else B := by
 rw [decide_eq_true hc]; exact fC h
theorem gG {c : Prop} [Decidable c] {A B : Prop} (h1 : c → A) (h2 : ¬ c → B) : if decide c = true then A else B := by
 by_cases hc : c
 ·exact nS hc (h1 hc)
 ·exact oA hc (h2 hc)
theorem turns {L c : Int} (hc : 1 ≤ c) : 1 ≤ (if 1 < (if L < c then L else c) then (if L < c then L else c) else 1) ∧ (if 1 < (if L < c then L else c) then (if L < c then L else c) else 1) ≤ c := by
 split <;> (try split) <;> omega
noncomputable def BB (K : PySem.W.Frag) : Sp := fun vs H Q _ => ∃ (a : Addr) (ns : List Int), vs = [.ref a] ∧ aX K H a (ns.map V.int) ∧ ns.length ≤ 63 ∧ ∀ H', Q (.bl true) H'
end L2
namespace PySem
open Sem (wp)
open AutoSeq1 (wpAny_loadPart')
section
variable {prog : Program} {w : World} {A : Around} {E : Value → Shared → Prop} {s : Shared}
theorem dX {it t : Addr} {i : Nat} {items} {x : Value} {Q : Value → Shared → Prop} (hit : s.heap.IsTupleIter it t i)
  (ht : s.heap.IsTuple t items) (hx : items[i]? = some x)
  (hQ : ∀ h', h'.IsTupleIter it t (i + 1) → Heap.SameBut it s.heap h' → Q x { s with heap := h' }) :
  wpAny (model prog w) A (Builtin.SmallTypes.nextOf (.ref it)) Q E s := by
 obtain ⟨o, ho, hc, hd⟩ := id hit
 obtain ⟨ol, hol, _, nl, hdl⟩ := ht
 unfold Builtin.SmallTypes.nextOf
 refine wpAny_bind (wpAny_callSpecial?_slot (name := Str.ofString "__next__") hit.typeIs F.slot_tuple_iterator_next
  (wpAny_call_entry F.slot_tuple_iterator_next hit.typeIs F.entry_tuple_iterator_next ?_ (F.args_tuple_iterator_next_1 _)))
 show wpAny _ _ (field (.ref it) 0 >>= _) _ _ s
 refine wpAny_bind (wpAny_field ho hd (x := .ref t) rfl ?_)
 show wpAny _ _ (if (Value.ref t == Value.none) = true then _ else _) _ _ s
 rw [if_neg (show ¬ ((Value.ref t == Value.none) = true) from Bool.false_ne_true)]
 show wpAny _ _ (field (.ref it) 1 >>= _) _ _ s
 refine wpAny_bind (wpAny_field ho hd (x := .int i 0) rfl ?_)
 show wpAny _ _ (seqItems? (.ref t) >>= _) _ _ s
 refine wpAny_bind (wpAny_seqItems hol hdl ?_)
 simp only [Int.toNat_natCast, hx]
 refine wpAny_bind (wpAny_setField ho hd (by simp) (wpAny_pure ⟨x, rfl, wpAny_pure (hQ _ ?_ (Heap.SameBut.update ..))⟩))
 exact ⟨_, Heap.get?_update_self _ ho (Obj.isFreed_of_fields (Obj.data_mapFields hd _)), (Obj.cls_mapFields ..).trans hc, by
  rw [Obj.data_mapFields hd]; simp [rawInt]⟩
theorem fP {it l : Addr} {i : Nat} {items} {Q : Value → Shared → Prop} (hh : A.handled = none)
  (hit : s.heap.IsTupleIter it l i) (hl : s.heap.IsTuple l items) (hx : items[i]? = none)
  (hE : ∀ h' e, Heap.ExtBut it s.heap h' → (∃ o, h'.get? e = some o ∧ o.cls = .type "StopIteration") → E (.ref e) { s with heap := h' }) :
  wpAny (model prog w) A (Builtin.SmallTypes.nextOf (.ref it)) Q E s := by
 obtain ⟨o, ho, hc, hd⟩ := id hit
 obtain ⟨ol, hol, _, nl, hdl⟩ := hl
 unfold Builtin.SmallTypes.nextOf
 refine wpAny_bind (wpAny_callSpecial?_slot (name := Str.ofString "__next__") hit.typeIs F.slot_tuple_iterator_next
  (wpAny_call_entry F.slot_tuple_iterator_next hit.typeIs F.entry_tuple_iterator_next ?_ (F.args_tuple_iterator_next_1 _)))
 show wpAny _ _ (field (.ref it) 0 >>= _) _ _ s
 refine wpAny_bind (wpAny_field ho hd (x := .ref l) rfl ?_)
 show wpAny _ _ (if (Value.ref l == Value.none) = true then _ else _) _ _ s
 rw [if_neg (show ¬ ((Value.ref l == Value.none) = true) from Bool.false_ne_true)]
 show wpAny _ _ (field (.ref it) 1 >>= _) _ _ s
 refine wpAny_bind (wpAny_field ho hd (x := .int i 0) rfl ?_)
 show wpAny _ _ (seqItems? (.ref l) >>= _) _ _ s
 refine wpAny_bind (wpAny_seqItems hol hdl ?_)
 simp only [Int.toNat_natCast, hx]
 refine wpAny_bind (wpAny_rule (wpAny_bind (wpAny_setField ho hd (by simp) ?_)))
 show wpAny _ _ (newExc (.type "StopIteration") [] >>= _) _ _ _
 refine wpAny_bind ?_
 simp only [newExc, newTuple]
 refine wpAny_bind (wpAny_newObj_type ?_ (by size_fits))
 refine wpAny_bind (m := firstArgMember _ _) (wpAny_of_eq (a := Value.none) (by first | rfl | (simp only [firstArgMember]; rfl)) ?_)
 refine wpAny_newObj_type ?_ (by size_fits)
 simp only [raiseNew]
 refine wpAny_bind (wpAny_handled ?_)
 first | rw [show A.in1.handled = none from hh] | rw [hh]
 refine wpAny_bind (wpAny_pure (wpAny_throw ?_))
 exact hE _ _ (((Heap.SameBut.update ..).extBut.push _).push _) ⟨_, Heap.get?_push_size _ rfl, rfl⟩
end
theorem iU {prog : Program} {w : World} {A : Around} (hh : A.handled = none) (it l : Addr) (hne : l ≠ it) (items : Array Value) :
  Draws prog w A it [it, l] items.size (fun i v => items[i]? = some v) (fun i h => h.IsTupleIter it l i ∧ h.IsTuple l items) where
 live := fun _ _ st => let ⟨o, ho, _⟩ := st.1; ⟨o, ho⟩
 frame := fun _ _ _ st hk => ⟨st.1.at fun o e => hk it (by simp) o e, let ⟨o, e, r⟩ := st.2; ⟨o, hk l (by simp) o e, r⟩⟩
 item := fun i s Q E hi st hQ => by
  refine dX st.1 st.2 (x := items[i]) (by simp [hi]) fun h' hit' hs' => ?_
  exact hQ _ h' s.toks (by simp [hi]) ⟨hit', st.2.extBut hs'.extBut hne⟩ hs'
 done := fun s Q E st hE => fP hh st.1 st.2 (by simp) hE
theorem g9 (l : Addr) (items : Array Value) (n : Nat) (j4 : Option Addr) (sl : Array (Option Value)) :
  Meets (Builtin.«enumerate.__new__» ⟨[.type "enumerate", .ref l], []⟩) (fun _ R s => s.heap.get? l = some { cls := .type "tuple", dict := j4, data := .seq items n, slots := sl } ∧
   R (.ok (.ret (.ref (s.heap.push { cls := .type "tuple_iterator", data := .fields #[.ref l, .int 0 0] }).objs.size)))
    { s with heap := (s.heap.push { cls := .type "tuple_iterator", data := .fields #[.ref l, .int 0 0] }).push { cls := .type "enumerate", data := .fields #[.none, .bool false, .ref s.heap.objs.size, rawInt 0, .none, .none] } }) :=
 .of_wp fun prog w A R s h => by
  obtain ⟨hp, g, d, tk, os⟩ := s; obtain ⟨hl, h⟩ := h
  have hsub := sub_enumerate
  have hL : Heap.IsTuple (Shared.heap ⟨hp, g, d, tk, os⟩) l items := ⟨_, hl, rfl, n, rfl⟩
  wp_walk using wpAny_loadPart' hl
  refine wpAny_stack_any fun st => wpAny_pure ?_
  split
  ·rename_i c _ _ _ _ _
   cases (c == Value.type "enumerate")
   ·wp_walk using wpAny_loadPart' hl, wpAny_pyIter_tuple hL
    exact ⟨_, rfl, h⟩
   ·wp_walk using wpAny_loadPart' hl, wpAny_pyIter_tuple hL
    exact ⟨_, rfl, h⟩
  ·wp_walk using wpAny_loadPart' hl, wpAny_pyIter_tuple hL
   exact ⟨_, rfl, h⟩
section
variable {prog : Program} {w : World} {A : Around} {E : Value → Shared → Prop} {s : Shared}
theorem g8 {l : Addr} {items : Array Value} {Q : Value → Shared → Prop} (hL : s.heap.IsTuple l items)
  (h : ∀ h', IsEnum h' (s.heap.objs.size + 1) s.heap.objs.size 0 .none → h'.IsTupleIter s.heap.objs.size l 0 → h'.objs.size = s.heap.objs.size + 2 →
   (∀ b o, s.heap.get? b = some o → h'.get? b = some o) → Q (.ref (s.heap.objs.size + 1)) { s with heap := h' }) :
  wpAny (model prog w) A (call (.type "enumerate") [.ref l]) Q E s := by
 obtain ⟨⟨c, j4, dt, sl⟩, hl, hc, n, hd⟩ := hL
 replace hc : c = .type "tuple" := hc
 replace hd : dt = .seq items n := hd
 subst hc hd
 refine callType_new F.called_enumerate (by decide) (F.typeCall_enumerate_1 _) (F.newCall_enumerate_1 _) (fun obj => F.args_object_init_2 obj _) F.entry_enumerate_new
  (g9 l items n j4 sl) ⟨hl, ?_⟩
 have hz : (s.heap.push { cls := .type "tuple_iterator", data := .fields #[.ref l, .int 0 0] }).objs.size = s.heap.objs.size + 1 := Heap.size_push ..
 show _ ∧ _
 rw [hz]
 have he : IsEnum ((s.heap.push { cls := .type "tuple_iterator", data := .fields #[.ref l, .int 0 0] }).push
   { cls := .type "enumerate", data := .fields #[.none, .bool false, .ref s.heap.objs.size, rawInt 0, .none, .none] }) (s.heap.objs.size + 1) s.heap.objs.size 0 .none := by
  have := Heap.get?_push_size (s.heap.push { cls := .type "tuple_iterator", data := .fields #[.ref l, .int 0 0] })
   (o := { cls := .type "enumerate", data := .fields #[.none, .bool false, .ref s.heap.objs.size, rawInt 0, .none, .none] }) rfl
  rw [hz] at this; exact this
 refine ⟨⟨_, he, rfl⟩, h _ he ⟨_, Heap.get?_push_of_some _ (Heap.get?_push_size _ rfl), rfl, rfl⟩ (by rw [Heap.size_push, hz]) fun b o x => Heap.get?_push_of_some _ (Heap.get?_push_of_some _ x)⟩
end
end PySem
namespace L2
open PySem PySem.Spec PyProof.Rows
theorem Inv.tZ {X : Cx} {pins : List (Addr × Obj)} {σ : St} {H : Hp} {s : Shared} {h' : Heap} {t' : Nat} {fp : List Addr} (I : Inv X pins σ H s) (k : ∀ b o, b ∉ fp → s.heap.get? b = some o → h'.get? b = some o) (hf : ∀ b ∈ fp, oO X pins H b) :
  Inv X pins σ H { s with heap := h', toks := t' } := by
 have nit : ∀ b u, H b = some u → b ∉ fp := fun b u e z => by rw [(hf b z).1] at e; cases e
 refine I.step (g' := s.gens) (d' := s.drawn) (ch := fp) (fun b hb => ?_) (fun b o _ _ hc e _ => k b o hc e) (fun b o _ _ hc e _ => ⟨o.slots, k b o hc e⟩) (fun _ _ _ _ n => n)
  (fun b o hc e => ⟨o, k b o hc e⟩) (fun _ _ e => e) (fun _ _ _ e => e) (fun b ps e => ⟨#[], by rw [e]; simp⟩) (fun m hm => ?_) (fun b u e => ?_) I.bare
 ·obtain ⟨_, f1, _, f3, f4, f5⟩ := hf b hb
  exact ⟨f3, f1, f4, f5⟩
 ·obtain ⟨o, es, ep, ho, r⟩ := hm
  exact ⟨o, es, ep, k _ o (fun z => (hf _ z).2.1 rfl) ho, r⟩
 ·refine (I.bY b u e).i7 (fun c v hc q => k c v ?_ q) (fun _ q => q) fun _ _ q => q
  rcases hc with z | z
  ·rw [z]; exact nit b u e
  ·exact nit c _ z
theorem Inv.SQ {X : Cx} {pins : List (Addr × Obj)} {σ : St} {H : Hp} {s : Shared} {h' : Heap} {t' : Nat} {fp : List Addr} {xs : List V} (I : Inv X pins σ H s) (k : ∀ b o, b ∉ fp → s.heap.get? b = some o → h'.get? b = some o) (hf : ∀ b ∈ fp, oO X pins H b)
  (hfr : H s.heap.objs.size = none) (hno : s.heap.objs.size ∉ fp) (new : dJ X.prog X.w (upd H s.heap.objs.size (.tup xs)) h' s.heap.objs.size (.tup xs)) (ht : ∀ b ∈ fp, ∀ o, s.heap.get? b = some o → ∃ o', h'.get? b = some o') :
  Inv X pins σ (upd H s.heap.objs.size (.tup xs)) { s with heap := h', toks := t' } := by
 have nit : ∀ b u, H b = some u → b ∉ fp := fun b u e z => by rw [(hf b z).1] at e; cases e
 have nT : ∀ b o, s.heap.get? b = some o → b ≠ s.heap.objs.size := fun b o e => Nat.ne_of_lt (Heap.lt_size e)
 refine I.step (g' := s.gens) (d' := s.drawn) (ch := fp) (fun b hb => ?_) (fun b o _ _ hc e _ => k b o hc e) (fun b o _ _ hc e _ => ⟨o.slots, k b o hc e⟩) (fun b o _ e n => by rw [aL (nT b o e)]; exact n)
  (fun b o hc e => ⟨o, k b o hc e⟩) (fun b ys e => by rw [aL (aF e hfr)]; exact e) (fun b o u e => by rw [aL (aF e hfr)]; exact e) (fun b ps e => ⟨#[], by rw [aL (aF e hfr), e]; simp⟩) (fun m hm => ?_) (fun b u e => ?_) I.bare
 ·obtain ⟨_, f1, _, f3, f4, f5⟩ := hf b hb
  exact ⟨f3, f1, f4, f5⟩
 ·obtain ⟨o, es, ep, ho, r⟩ := hm
  exact ⟨o, es, ep, k _ o (fun z => (hf _ z).2.1 rfl) ho, r⟩
 ·by_cases hb : b = s.heap.objs.size
  ·subst hb; rw [aB] at e; cases e; exact new
  ·rw [aL hb] at e
   refine (I.bY b u e).i7 (fun c v hc q => k c v ?_ q) (fun c q => by rw [aL (aF q hfr)]; exact q) fun c ys q => by rw [aL (aF q hfr)]; exact q
   rcases hc with z | z
   ·rw [z]; exact nit b u e
   ·exact nit c _ z
noncomputable def TK (K : PySem.W.Frag) (a : Addr) : It :=
 ⟨fun i H => ∃ xs x, dZ K H a xs ∧ xs[i]? = some x, fun i H v H' => ∃ t, H t = none ∧ v = .ref t ∧ ∀ xs, dZ K H a xs → ∃ x, xs[i]? = some x ∧ H' = upd H t (.tup [.int i, x]), fun i H => ∃ xs, dZ K H a xs ∧ xs.length = i⟩
theorem zJ {P : Program} {w : World} {K : PySem.W.Frag} {elts : List Expr} {x1} {pos : Pos} (a it e : Addr) (hei : e ≠ it) : Turn P w K (.Tuple elts x1 pos) (TK K a) [e, it] e (fun i h => (∃ old, IsEnum h e it i old) ∧ h.IsTupleIter it a i) where
 mem := by simp
 obj := fun i h st b hb => by
  obtain ⟨⟨old, he⟩, o, ho, c, d⟩ := st
  rcases List.mem_cons.mp hb with z | z
  ·subst z; exact ⟨_, he, fun v z => by cases z⟩
  ·have z : b = it := by simpa using z
   subst z; exact ⟨o, ho, fun v z => by rw [d] at z; cases z⟩
 keep := fun i h h' st k => ⟨let ⟨old, he⟩ := st.1; ⟨old, k e (by simp) _ he⟩, st.2.at fun o q => k it (by simp) o q⟩
 item := by
  intro X hP hw hK hc i pins s σ H E I hf st hg
  subst hP hw hK
  obtain ⟨xs, x, hq, hx⟩ := hg
  obtain ⟨its, rv, p, hz⟩ := I.tuple hq
  obtain ⟨u, hu, ru⟩ := rv.get hx
  obtain ⟨⟨old, he⟩, ht⟩ := st
  have hne : a ≠ it := fun z => by
   obtain ⟨o, ho, c, _⟩ := ht
   obtain ⟨o', ho', c', _⟩ := p
   subst z
   rw [ho] at ho'; cases ho'
   rw [c] at c'
   exact absurd (Value.type.inj c') (by decide)
  have hae : a ≠ e := fun z => by
   obtain ⟨o', ho', c', _⟩ := p
   subst z
   rw [he] at ho'; cases ho'
   exact absurd (Value.type.inj c') (by decide)
  have hlt : i < its.toArray.size := by have := (List.getElem?_eq_some_iff.mp hu).1; simpa using this
  refine wpAny_pyNext_enum_itemD (iU (A := X.A.in1) (by exact I.ok.hd hc) it a hne its.toArray) he ⟨ht, p⟩ hlt hei (by simp [hei, Ne.symm hae]) fun v h' tk hPv ho' st' htup hsz hk => ?_
  have ev : v = u := by
   have h1 : its[i]? = some v := by simpa using hPv
   rw [hu] at h1; exact (Option.some.inj h1).symm
  subst ev
  refine ⟨_, rfl, wpAny_letOwnedTupleGo_enum (s := { s with heap := h', toks := tk + 1 }) ho' fun h2 he2 sb => ?_⟩
  have hTe : s.heap.objs.size ≠ e := fun z => by
   have := Heap.lt_size he; rw [← z] at this; exact Nat.lt_irrefl _ this
  have hTi : s.heap.objs.size ≠ it := fun z => by
   obtain ⟨o, ho, _⟩ := ht
   have := Heap.lt_size ho; rw [← z] at this; exact Nat.lt_irrefl _ this
  have hk2 : ∀ b o, b ∉ [e, it] → s.heap.get? b = some o → h2.get? b = some o := fun b o hb q =>
   sb.extBut b o (fun z => hb (by simp [z])) (hk b o (fun z => hb (by simp [z])) (fun z => hb (by simp [z])) q)
  have I1 : Inv X pins σ H { s with heap := h2, toks := tk + 1 } := I.tZ hk2 hf
  have hfr : H s.heap.objs.size = none := I.bY.fresh (Nat.le_refl _)
  have htup2 : h2.get? s.heap.objs.size = some { cls := .type "tuple", data := .seq #[.int i tk, v] } := sb.extBut _ _ hTe htup
  have I2 : Inv X pins σ (upd H s.heap.objs.size (.tup [.int i, x])) { s with heap := h2, toks := tk + 1 } := by
   refine I.SQ hk2 hf hfr (by simp [hTe, hTi]) ⟨by show 2 ≤ sizeLine; decide, [.int i tk, v], .cons ⟨_, rfl⟩ (.cons ru .nil), mV.of htup2⟩ (fun b hb o q => ?_)
   rcases List.mem_cons.mp hb with r | r
   ·subst r; exact ⟨_, he2⟩
   ·have r : b = it := by simpa using r
    subst r
    obtain ⟨o', ho', _⟩ := st'.1.extBut sb.extBut (Ne.symm hei)
    exact ⟨o', ho'⟩
  refine ⟨.ref s.heap.objs.size, _, I2, rfl, ⟨s.heap.objs.size, hfr, rfl, fun ys hy => ⟨x, by rw [I.kS hy hq]; exact hx, rfl⟩⟩, ⟨⟨_, he2⟩, st'.1.extBut sb.extBut (Ne.symm hei)⟩, fun b hb => ?_⟩
  have hbT : b ≠ s.heap.objs.size := fun z => by
   rcases List.mem_cons.mp hb with r | r
   ·exact hTe (z ▸ r)
   ·have r : b = it := by simpa using r
    exact hTi (z ▸ r)
  rw [aL hbT]
  exact (hf b hb).1
 done := by
  intro X hP hw hK hc i pins s σ H E I hf st hg
  subst hP hw hK
  obtain ⟨xs, hq, hx⟩ := hg
  obtain ⟨its, rv, p, hz⟩ := I.tuple hq
  obtain ⟨⟨old, he⟩, ht⟩ := st
  have hl := rv.length
  have hne : a ≠ it := fun z => by
   obtain ⟨o, ho, c, _⟩ := ht
   obtain ⟨o', ho', c', _⟩ := p
   subst z
   rw [ho] at ho'; cases ho'
   rw [c] at c'
   exact absurd (Value.type.inj c') (by decide)
  have ei : (i : Nat) = its.toArray.size := by simp; omega
  subst ei
  obtain ⟨f0, f1, f2, f3, f4, f5⟩ := hf it (by simp)
  exact wpAny_pyNext_enum_endD (iU (A := X.A.in1) (by exact I.ok.hd hc) it a hne its.toArray) he ⟨ht, p⟩ fun h' eb => ⟨rfl, I.turned (t' := s.toks) (fun b o hb e => eb b o hb e) f0 f1 f3 f4 f5⟩
 self := fun _ _ _ _ _ st h => let ⟨_, he⟩ := st.1; wpAny_pyIter_enum he h
end L2
namespace L2
open PySem PySem.Spec PyProof.Rows
section
variable {X : Cx} {elts : List Expr} {x1 : Nat} {tpos : Pos}
end
section
variable {X : Cx} {elts : List Expr} {x1 : Nat} {tpos : Pos}
end
section
variable {k : Nat} {d9 : List Nat} {g : TG} {tt : TT} {te : TE} {σ : St} {H : Hp} {Q : VK} {l : Addr}
theorem kM (J : It) (n : Nat) (p : Nat → Bool) (f : Nat → V) (Good : St → Prop) (h0 : Good (cN k d9 σ)) (hl : H l = none) (hlen : n < sizeLine)
  (hstop : ∀ H', aG H H' → J.stop n H') (hgo : ∀ i H', i < n → aG H H' → J.go i H')
  (ht : ∀ i v σ H1 H2 ys (N : St → Hp → Prop), i < n → Good σ → aG H H1 → H1 l = some (.lst ys) → ys.length < sizeLine → J.IA i H1 v H2 →
   (∀ σ' H3, Good σ' → QS l H1 H3 → H3 l = some (.lst (if p i = true then ys ++ [f i] else ys)) → N σ' H3) → cM g tt te l v σ H2 N)
  (hd : ∀ H', aG H H' → H' l = some (.lst (((List.range n).filter p).map f)) → Q (.ref l) H') : jJ J g tt te l (cN k d9 σ) (upd H l (.lst [])) Q := by
 refine rH J n (fun i σ' H' => Good σ' ∧ aG H H' ∧ H' l = some (.lst ((((List.range n).take i).filter p).map f))) ⟨h0, aG.upd hl, by rw [List.take_zero]; exact aB⟩ (fun σ' H' ⟨_, s, _⟩ => hstop H' s) (fun i σ' H' hi ⟨_, s, _⟩ => hgo i H' hi s) (fun i σ' H' x H'' hi ⟨gd, s, e⟩ y => ?_) (fun σ' H' ⟨_, s, e⟩ => ?_)
 ·have hi2 : (List.range n)[i]? = some i := by simp [hi]
  refine ht i x σ' H' H'' _ _ hi gd s e ?_ y fun σ2 H3 g2 b e3 => ⟨g2, fun c o h => b c o (s c o h) (aF h hl), ?_⟩
  ·rw [List.length_map]
   have a1 := List.length_filter_le p ((List.range n).take i)
   exact Nat.lt_of_le_of_lt (Nat.le_trans a1 (by rw [List.length_take, List.length_range]; omega)) hlen
  ·rw [e3, nZ hi2, List.map_append]
   by_cases c : p i = true
   ·rw [if_pos c, if_pos c]; rfl
   ·rw [if_neg c, if_neg c, List.map_nil, List.append_nil]
 ·rw [List.take_of_length_le (by simp)] at e
  exact hd H' s e
end
theorem KS {n : Str} {row : List Str} : R1 (.str n) (row.map V.str) = row.contains n := by
 unfold R1
 induction row with
 | nil => rfl
 | cons x r ih =>
  rw [List.map_cons, List.any_cons, ih, List.contains_cons]
  congr 1
  show (x == n) = (n == x)
  by_cases e : x = n
  ·subst e; simp
  ·rw [beq_eq_false_iff_ne.mpr e, beq_eq_false_iff_ne.mpr (Ne.symm e)]
theorem nM {row : List Str} : (row.map V.str).all gE = true := by
 induction row with
 | nil => rfl
 | cons x r ih => rw [List.map_cons, List.all_cons, ih]; rfl
end L2
namespace L2
open PySem PySem.Spec PyProof.Rows
section
variable {X : Cx} {k : Nat}
theorem iZ (K : PySem.W.Frag) (h : X.K = K := by rfl) : O5 X (oN K) := h ▸ JX
theorem CF (K : PySem.W.Frag) (h : X.K = K := by rfl) : O5 X (CV K) := h ▸ NO
theorem EV (K : PySem.W.Frag) (h : X.K = K := by rfl) : NU X (EC K) := h ▸ JT
theorem O8 (K : PySem.W.Frag) (h : X.K = K := by rfl) : iK X (compareOp .NotIn) (P7 K true) := h ▸ uY
noncomputable def FG (K : PySem.W.Frag) : R2 := fun x y H Q => ∃ a b xs ys, x = .ref a ∧ y = .ref b ∧ aX K H a xs ∧ aX K H b ys ∧ (xs.length = ys.length → xs.all gE = true ∧ ys.all gE = true) ∧ Q (.bl (pX xs ys)) H
theorem TV (K : PySem.W.Frag) (hr : eA k X.A) (h : X.K = K := by rfl) : iK X (compareOp .Eq) (FG K) := h ▸ OK hr
noncomputable def xT (K : PySem.W.Frag) : List V → Hp → VK → Prop := fun xs H Q => ∃ p ys, xs = [.ref p] ∧ aX K H p ys ∧ Q (.int ys.length) H
noncomputable def yV (K : PySem.W.Frag) : List V → Hp → VK → Prop := fun xs H Q => ∃ p ys, xs = [.ref p] ∧ dZ K H p ys ∧ Q (.int ys.length) H
theorem xF (K : PySem.W.Frag) (h : X.K = K := by rfl) : eL X (.builtin "len") (xT K) := h ▸ DR
theorem JR (K : PySem.W.Frag) (h : X.K = K := by rfl) : eL X (.builtin "len") (yV K) := h ▸ D5
noncomputable def IU (K : PySem.W.Frag) : List V → Hp → VK → Prop := fun xs H Q => ∃ p bs, xs = [.ref p] ∧ aX K H p (lK bs) ∧ Q (.bl (bs.all id)) H
noncomputable def LS (K : PySem.W.Frag) : List V → Hp → VK → Prop := fun xs H Q => ∃ p bs, xs = [.ref p] ∧ aX K H p (lK bs) ∧ Q (.bl (bs.any id)) H
theorem vB (K : PySem.W.Frag) (hc : X.calm = true) (h : X.K = K := by rfl) : eL X (.builtin "all") (IU K) := h ▸ GB hc
noncomputable def A5 (K : PySem.W.Frag) : List V → Hp → VK → Prop := fun xs H Q => ∃ (p : Addr) (ns : List Int), xs = [.ref p] ∧ aX K H p (ns.map V.int) ∧ 0 < ns.length ∧ ∀ M, M ∈ ns → (∀ a, a ∈ ns → a ≤ M) → Q (.int M) H
noncomputable def IZ (K : PySem.W.Frag) : List V → Hp → VK → Prop := fun xs H Q => ∃ x T t b, xs = [x, .ty T] ∧ lR K H x t ∧ PySem.W.kitOne K t (.type T) = some b ∧ Q (.bl b) H
theorem jP (K : PySem.W.Frag) (h : X.K = K := by rfl) : eL X (.builtin "isinstance") (IZ K) := h ▸ GH
noncomputable def tD (K : PySem.W.Frag) : List V → Hp → VK → Prop := fun xs H Q => ∃ p ys, xs = [.ref p] ∧ aX K H p ys ∧ ∀ l, H l = none → Q (.ref l) (upd H l (.tup ys))
theorem DA (K : PySem.W.Frag) (h : X.K = K := by rfl) : eL X (.type "tuple") (tD K) := by
 subst h
 intro pins s σ H xs us Q I r ⟨p, ys, e, hq, q⟩
 exact rS pins s σ H xs us Q I r ⟨p, ys, e, .inl ⟨hq, q⟩⟩
noncomputable def vE (K : PySem.W.Frag) : List V → Hp → VK → Prop := fun xs H Q => ∃ p ys, xs = [.ref p] ∧ (aX K H p ys ∨ dZ K H p ys) ∧ ∀ l, H l = none → Q (.ref l) (upd H l (.lst ys))
theorem sR (K : PySem.W.Frag) (h : X.K = K := by rfl) : MR X "str.join" (rJoin K) := h ▸ KN
theorem lU (K : PySem.W.Frag) {es : List Expr} {j : Nat} {t : JF} {n : Nat} {pos : Pos} (hc : X.calm = true) (h : P0 X es t) (hK : X.K = K := by rfl)
  (hn : (assignEach es X.env).length = n := by rfl) (hst : (assignEach es X.env).findIdx? (·.1) = none := by rfl) : PG X (.Tuple es j pos) (D1 K n t) := hK ▸ NJ hc h hn hst
theorem qQ (K : PySem.W.Frag) {tg l : Expr} {tl : TE} (hl : PE X l tl) (h : X.K = K := by rfl) : PI X tg l (wO K tl) := h ▸ KH hl
theorem IF (K : PySem.W.Frag) {tg l : Expr} {tl : TE} (hl : PE X l tl) (h : X.K = K := by rfl) : PI X tg l (QD K tl) := h ▸ OO hl
theorem cO (K : PySem.W.Frag) {o e : Expr} {es : List Expr} {to : TE} {t : TA} {name : Str} {apos cpos : Pos} {T id : String} {r : V → List V → Hp → VK → Prop} (pa : PlainAttrs T) (slot : Slot T name id) (hty : typeOf (.builtin id) = pure (.type "method_descriptor")) (hm : MR X id r) (ho : PE X o to) (ha : PA X (e :: es) t) (hK : X.K = K := by rfl)
  (hbase : attributeBase o name X.env (eval o X.env) = eval o X.env := by rfl)
  (hfew : ((backTo cpos (starEach (e :: es) X.env)).all (fun x => !x.1) && (backToKw cpos (keywordEach [] X.env)).all (fun x => x.1.isSome)
   && decide ((e :: es).length + ([] : List Keyword).length + (if ([] : List Keyword).isEmpty then 0 else 1) < 30)) = true := by rfl)
  (hline : (apos.endLine == cpos.line) = true := by rfl) (hs : starEach (e :: es) X.env = (false, eval e X.env) :: starEach es X.env := by rfl) (hplain : (backTo cpos (starEach es X.env)).any (·.1) = false := by rfl) :
  PE X (.Call (.Attribute o name apos) (e :: es) [] cpos) (HM K T r to t) := hK ▸ QO pa slot hty hm ho ha hbase hfew hline hs hplain
end
end L2
namespace L2
open PySem PySem.Spec PyProof.Rows
section
variable {X : Cx}
noncomputable def vJ : V → List V → Hp → VK → Prop := fun x vs H Q => ∃ z, x = .str z ∧ vs = [] ∧ z.length ≤ 5592405 ∧ Q (.str (Txt.lower z)) H
noncomputable def oU : V → List V → Hp → VK → Prop := fun x vs H Q => ∃ z y i rest, x = .str z ∧ vs = [.str y] ∧ Builtin.Str.occurrences z y 0 z.length 1 = i :: rest ∧ Q (.int i) H
theorem nA : ∀ (l : List (Str × Tok)), Vals ((l.map (·.1)).map V.str) (strValues l)
 | [] => .nil
 | (x, t) :: l => .cons ⟨t, rfl⟩ (nA l)
noncomputable def jG : V → List V → Hp → VK → Prop := fun x vs H Q => ∃ z y, x = .str z ∧ vs = [.str y] ∧ (y.length == 0) = false ∧ z.length ≤ 1000000 ∧ (Txt.split z y).length ≤ 16777216 ∧ (Builtin.Str.partsBetween z (Builtin.Str.occurrences z y 0 z.length (z.length + 1)) y.length).length ≤ sizeLine ∧
 ∀ l, H l = none → Q (.ref l) (upd H l (.lst ((Txt.split z y).map V.str)))
theorem gX : MR X "str.split" jG := by
 intro pins s σ H xv vs v us Q I rx rv h
 obtain ⟨x, y, rfl, rfl, hy, hsz, hsp, hsz2, q⟩ := h
 obtain ⟨t, rfl⟩ := rx
 obtain ⟨w', rfl, u, rfl⟩ := vals1 rv
 have hq : ∀ (l : List (Str × Tok)) (tk : Nat), l.map (·.1) = Txt.split x y → EP X pins σ Q (.ref s.heap.objs.size) { s with heap := s.heap.push { cls := .type "list", data := .seq (strValues l).toArray }, toks := tk } := fun l tk e =>
  ⟨.ref s.heap.objs.size, _, I.LZ (ys := (Txt.split x y).map V.str) (by rw [← e]; exact nA l) (cF (by rw [List.length_map]; exact hsp)), rfl, q _ (I.bY.fresh (Nat.le_refl _))⟩
 cases h1 : (decide (x.length < y.length) || decide (Builtin.Str.strKind x < Builtin.Str.strKind y))
 ·cases hf : (Builtin.Str.occurrences x y 0 x.length (x.length + 1)).isEmpty
  ·refine call_meets F.slot_str_split (typeIs_str _ _ _) F.entry_str_split (F.args_str_split_2 _ _) (meets_str_split_sep x y t u h1 hy hf (cF (by omega)) hsz2) ?_
   show wants _ _ _ { s with toks := _, heap := s.heap.push { cls := .type "list", data := .seq (strsFrom s.toks (Builtin.Str.partsBetween x (Builtin.Str.occurrences x y 0 x.length (x.length + 1)) y.length)).toArray } }
   rw [strsFrom_eq]
   exact hq (numbered s.toks _) _ ((numbered_texts _ _).trans ((if_neg (ne_true_of_eq_false h1)).trans (if_neg (ne_true_of_eq_false hf))).symm)
  ·exact call_meets F.slot_str_split (typeIs_str _ _ _) F.entry_str_split (F.args_str_split_2 _ _) (meets_str_split_not_found x y t u h1 hy hf)
    (hq [(x, t)] s.toks ((if_neg (ne_true_of_eq_false h1)).trans (if_pos hf)).symm)
 ·exact call_meets F.slot_str_split (typeIs_str _ _ _) F.entry_str_split (F.args_str_split_2 _ _) (meets_str_split_cannot_occur x y t u h1)
   (hq [(x, t)] s.toks (if_pos h1).symm)
end
end L2
namespace PM
open PySem PyProof.Rows
noncomputable def walk (sm : Nat → Nat) : List Nat → List Nat → Bool → List Nat
 | [], f, _ => f
 | c :: r, f, w => if c = 32 then walk sm r f (!f.isEmpty) else walk sm r (f ++ (if w = true then [32] else []) ++ [sm c]) false
noncomputable def step (f p : List Nat) : List Nat := if p = [] then f else f ++ (if (!f.isEmpty) = true then [32] else []) ++ p
noncomputable abbrev SP : Str := Str.ofString " "
noncomputable def W (x : Str) : Str := ⟨(walk lo1 x.cps.toList [] false).toArray⟩
theorem iW {a b : Str} (h : a.cps.toList = b.cps.toList) : a = b := Str.ext' (by cases a; cases b; simp at h; exact h)
end PM
namespace L2
open PySem PySem.Spec PyProof.Rows
inductive Kd where
 | aZ | bl | int | str | lst | tup | j4
 deriving DecidableEq
noncomputable def Kd.nm : Kd → String
 | .aZ => "NoneType" | .bl => "bool" | .int => "int" | .str => "str" | .lst => "list" | .tup => "tuple" | .j4 => "dict"
noncomputable def QA (H : Hp) (v : V) : Kd → Prop
 | .aZ => v = .aZ
 | .bl => ∃ b, v = .bl b
 | .int => ∃ i, v = .int i
 | .str => ∃ x, v = .str x
 | .lst => ∃ a xs, v = .ref a ∧ H a = some (.lst xs)
 | .tup => ∃ a xs, v = .ref a ∧ H a = some (.tup xs)
 | .j4 => ∃ a kvs ep, v = .ref a ∧ H a = some (.dK kvs ep)
theorem QA.ty {K : PySem.W.Frag} {H : Hp} {v : V} {k : Kd} (h : QA H v k) : lR K H v (.type k.nm) := by
 cases k with
 | aZ => cases (show v = .aZ from h); exact .aZ
 | bl => obtain ⟨b, rfl⟩ := h; exact .bl b
 | int => obtain ⟨b, rfl⟩ := h; exact .int b
 | str => obtain ⟨b, rfl⟩ := h; exact .str b
 | lst => obtain ⟨a, xs, rfl, e⟩ := h; exact .lst e
 | tup => obtain ⟨a, xs, rfl, e⟩ := h; exact .tup e
 | j4 => obtain ⟨a, xs, ep, rfl, e⟩ := h; exact .dK e
theorem IV {K : PySem.W.Frag} (k : Kd) : PySem.W.kitOne K (.type k.nm) (.type "str") = some (decide (k = .str)) := by cases k <;> kernel_rfl
theorem JA {K : PySem.W.Frag} (k : Kd) : PySem.W.kitOne K (.type k.nm) (.type "tuple") = some (decide (k = .tup)) := by cases k <;> kernel_rfl
theorem NF {K : PySem.W.Frag} (k : Kd) : PySem.W.kitOne K (.type k.nm) (.type "int") = some (decide (k = .int) || decide (k = .bl)) := by cases k <;> kernel_rfl
theorem BK {K : PySem.W.Frag} (k : Kd) : PySem.W.kitOne K (.type k.nm) (.type "bool") = some (decide (k = .bl)) := by cases k <;> kernel_rfl
theorem QA.CI {H : Hp} {v : V} {k : Kd} (h : QA H v k) (n : k ≠ .str) : ∀ x, v ≠ .str x := by
 intro x e
 subst e
 cases k with
 | aZ => cases h
 | bl => obtain ⟨_, z⟩ := h; cases z
 | int => obtain ⟨_, z⟩ := h; cases z
 | str => exact n rfl
 | lst => obtain ⟨_, _, z, _⟩ := h; cases z
 | tup => obtain ⟨_, _, z, _⟩ := h; cases z
 | j4 => obtain ⟨_, _, _, z, _⟩ := h; cases z
section
variable {X : Cx}
theorem kR : iK X (compareOp .LtE) (fun x y H Q => ∃ i j, x = .str i ∧ y = .str j ∧ Q (.bl (!decide (j.cps.toList < i.cps.toList))) H) := by
 intro pins s σ H x y v u Q I rx ry h
 obtain ⟨i, j, rfl, rfl, q⟩ := h
 obtain ⟨t, rfl⟩ := rx
 obtain ⟨t', rfl⟩ := ry
 exact PySem.P.le_str (bG I q rfl)
end
theorem range_getD {xs : List V} {f : V → V} : ((List.range xs.length).filter fun _ => true).map (fun i => f ((xs[i]?).getD .aZ)) = xs.map f := by
 rw [List.filter_eq_self.mpr (fun _ _ => rfl)]
 induction xs with
 | nil => rfl
 | cons x xs ih =>
  rw [List.length_cons, List.range_succ_eq_map, List.map_cons, List.map_map, List.map_cons, ← ih]
  rfl
section
variable {k : Nat} {d9 : List Nat} {g : TG} {tt : TT} {te : TE} {σ : St} {H : Hp} {Q : VK} {l : Addr}
theorem C1 {K : PySem.W.Frag} {a : Addr} {xs : List V} (hS : dZ K H a xs) (f : V → V) (Good : St → Prop) (h0 : Good (cN k d9 σ)) (hl : H l = none) (hlen : xs.length < sizeLine)
  (ht : ∀ (i : Nat) x σ H1 ys (N : St → Hp → Prop), xs[i]? = some x → Good σ → aG H H1 → H1 l = some (.lst ys) → ys.length < sizeLine →
   (∀ σ' H3, Good σ' → QS l H1 H3 → H3 l = some (.lst (ys ++ [f x])) → N σ' H3) → cM g tt te l x σ H1 N)
  (hd : ∀ H', aG H H' → H' l = some (.lst (xs.map f)) → Q (.ref l) H') : jJ (P4 K a) g tt te l (cN k d9 σ) (upd H l (.lst [])) Q := by
 refine kM (P4 K a) xs.length (fun _ => true) (fun i => f ((xs[i]?).getD .aZ)) Good h0 hl hlen (fun H' s => ⟨xs, hS.same s, Nat.le_refl _⟩) (fun i H' hi s => ⟨xs, xs[i], hS.same s, by simp [hi]⟩) (fun i v σ H1 H2 ys N hi gd s e hz y hN => ?_) (fun H' s e => hd H' s (by rw [e, range_getD]))
 obtain ⟨e1, hx⟩ := y
 subst e1
 have hx := hx xs (hS.same s)
 refine ht i v σ _ ys N hx gd s e hz fun σ' H3 g3 b e3 => hN σ' H3 g3 b ?_
 rw [e3, if_pos rfl, hx]; rfl
end
end L2
namespace HT
open PySem PySem.Spec PyProof.Rows
section
variable {prog : Program} {w : World} {A : Around} {E : Value → Shared → Prop} {s : Shared}
theorem lX {t sl : Addr} {items : Array Value} {vl vu : Value} {lo hi : Option Int} {Q : Value → Shared → Prop} (ht : IsTup s.heap t items) (hs : s.heap.IsSliceOf sl vl vu .none) (pl : IsPart vl lo) (pu : IsPart vu hi)
  (hw : eY items.size 0 lo = 0 ∧ eY items.size items.size hi = items.size) (h : Q (.ref t) s) : wpAny (model prog w) A (getItem (.ref t) (.ref sl)) Q E s := by
 obtain ⟨os, hos, hcs, hds⟩ := id hs
 have hTs : s.TypeIs (.ref sl) "slice" := ⟨os, hos, hcs⟩
 unfold getItem
 try with_reducible refine wpAny_holding ?_
 first | refine wpAny_bind (wpAny_pure ?_) | skip
 refine wpAny_bind (wpAny_sequenceKey ht.typeIs (by decide) ?_)
 refine wpAny_bind (wpAny_callSpecial?_slot (name := Str.ofString "__getitem__") ht.typeIs PyProof.Rows.slot_tuple_getitem
  (wpAny_call_entry PyProof.Rows.slot_tuple_getitem ht.typeIs entry_tuple_getitem ?_ (args_tuple_getitem _ _)))
 show wpAny _ _ (Builtin.Tuple.tupleItemsOf (.ref t) >>= _) _ _ s
 refine wpAny_bind (tupleItemsOf_ ht ?_)
 refine wpAny_bind (wpAny_typeOf hTs ?_)
 rw [if_pos (by decide)]
 refine wpAny_bind (iP hs pl pu ?_)
 have hyes : (((eY items.size 0 lo : Nat) : Int) == 0 && (1 : Int) == 1 && (eY items.size items.size hi - eY items.size 0 lo) == items.size) = true := by
  rw [hw.1, hw.2]; simp
 show wpAny _ _ (if (((eY items.size 0 lo : Nat) : Int) == 0 && (1 : Int) == 1 && (eY items.size items.size hi - eY items.size 0 lo) == items.size) = true then _ else _) _ _ s
 rw [if_pos hyes]
 refine wpAny_bind (wpAny_bind (wpAny_typeOf ht.typeIs (wpAny_pure ?_)))
 rw [if_pos (by decide)]
 refine wpAny_bind (wpAny_rule ?_)
 first
  | exact wpAny_pure ⟨_, rfl, wpAny_pure h⟩
  | exact wpAny_bind (wpAny_pure ⟨_, rfl, wpAny_pure h⟩)
theorem KZ {t b : Addr} {vs ws : List Value} {Q : Value → Shared → Prop} (ht : IsTup s.heap t vs.toArray) (hb : IsTup s.heap b ws.toArray)
  (h0 : vs = [] → Q (.ref b) s) (h1 : ws = [] → Q (.ref t) s) (h2 : vs ≠ [] → ws ≠ [] → Q (.ref s.heap.objs.size) { s with heap := s.heap.push { cls := .type "tuple", data := .seq (vs ++ ws).toArray } })
  (hsz : vs.length + ws.length ≤ sizeLine) : wpAny (model prog w) A (binaryOp .Add (.ref t) (.ref b)) Q E s := by
 by_cases hv : vs = []
 ·obtain ⟨⟨cls, dd, data, sl⟩, ho, hc, n, hd⟩ := id ht
  obtain ⟨⟨cls2, dd2, data2, sl2⟩, ho2, hc2, n2, hd2⟩ := id hb
  simp only at hc hd hc2 hd2
  subst hc hd hc2 hd2
  exact concat_meets ⟨_, ho, rfl⟩ ⟨_, ho2, rfl⟩ noFill_tuple_add seq_tuple_add PySem.F.slot_tuple_add PySem.F.entry_tuple_add (PySem.F.args_tuple_add_2 _ _)
   (tuple_addW0 t b vs.toArray ws.toArray n n2 dd dd2 sl sl2 (by simp [hv])) ⟨ho, ho2, h0 hv⟩
 ·exact LM ht hb hv h1 (h2 hv) hsz
end
end HT
namespace L2
open PySem PySem.Spec PyProof.Rows
section
variable {X : Cx}
noncomputable def FR : V → Option Int → Option Int → Hp → VK → Prop := fun x lo hi H Q => ∃ a xs, x = .ref a ∧ H a = some (.tup xs) ∧ ∀ p H', aG H H' → H' p = some (.tup (bZ xs lo hi)) → Q (.ref p) H'
theorem BG : NU X FR := by
 intro pins s σ H x v vl vu lo hi sl Q I rx hs pl pu h
 obtain ⟨a, xs, rfl, hx, q⟩ := h
 by_cases hw : HT.eY xs.length 0 lo = 0 ∧ HT.eY xs.length xs.length hi = xs.length
 ·cases rx
  obtain ⟨its, r, ht, hz⟩ := I.tuple (dZ.of (K := X.K) hx)
  have hlen : its.toArray.size = xs.length := by rw [List.size_toArray]; exact r.length.symm
  refine ⟨"tuple", _, PyProof.Rows.slot_tuple_getitem.lookup, ht.typeIs, ?_⟩
  refine HT.lX ht hs pl pu (by rw [hlen]; exact hw) ⟨.ref a, H, I, rfl, q a H (aG.refl _) ?_⟩
  have e : bZ xs lo hi = xs := by unfold bZ; rw [hw.1, hw.2, List.drop_zero, Nat.sub_zero, List.take_length]
  rw [e]; exact hx
 ·exact PL pins s σ H (.ref a) v vl vu lo hi sl Q I rx hs pl pu ⟨a, xs, rfl, dZ.of hx, hw, fun p hp => q p _ (aG.upd hp) aB⟩
noncomputable def yE : R2 := fun x y H Q => ∃ a b xs ys, x = .ref a ∧ y = .ref b ∧ H a = some (.tup xs) ∧ H b = some (.tup ys) ∧ xs.length + ys.length ≤ sizeLine ∧ ∀ p H', aG H H' → H' p = some (.tup (xs ++ ys)) → Q (.ref p) H'
theorem BM : iK X (binaryOp .Add) yE := by
 intro pins s σ H x y v u Q I rx ry h
 obtain ⟨a, b, xs, ys, rfl, rfl, ha, hb, hz, q⟩ := h
 cases rx
 cases ry
 obtain ⟨its, r1, p1, _⟩ := I.tuple (dZ.of (K := X.K) ha)
 obtain ⟨its2, r2, p2, _⟩ := I.tuple (dZ.of (K := X.K) hb)
 refine HT.KZ p1 p2 (fun z => ⟨.ref b, H, I, rfl, q b H (aG.refl _) (by rw [r1.B3.mp z]; exact hb)⟩) (fun z => ⟨.ref a, H, I, rfl, q a H (aG.refl _) (by rw [r2.B3.mp z, List.append_nil]; exact ha)⟩) (fun _ _ => ?_) (by rw [← r1.length, ← r2.length]; exact hz)
 refine ⟨.ref s.heap.objs.size, _, I.laid (t' := s.toks) (o := .tup (xs ++ ys)) (fun b ob q => Heap.get?_push_of_some _ q) (Nat.le_refl _) ?_, rfl, q _ _ (aG.upd (I.bY.fresh (Nat.le_refl _))) aB⟩
 exact ⟨by rw [List.length_append]; exact hz, _, r1.append r2, mV.new _ _⟩
noncomputable def RF (i j : Int) : Prop := 0 < j ∧ j < 2 ^ 200
theorem lV : iK X (binaryOp .FloorDiv) (rI RF fun i j => .int (i / j)) := Q5 fun i j _ _ _ _ _ hc q => by
 have h1 : (0 : Int) < j := hc.1
 have h2 : j < 2 ^ 200 := hc.2
 refine floordiv_int (by omega) (by rw [Int.fdiv_eq_ediv_of_nonneg i (by omega)]; exact q) (.inl (PyProof.noPylong_of_log2 ?_))
 have h3 : j.natAbs < 2 ^ 200 := by omega
 have h4 : j.natAbs.log2 < 200 := (Nat.log2_lt (by omega)).mpr h3
 omega
noncomputable def xP : R2 := fun x y H Q => ∃ z n, x = .str z ∧ y = .int n ∧ 0 ≤ n ∧ n ≤ 1000000 ∧ z.length = 1 ∧ ∀ w : Str, (w.length : Int) = n → (∀ c ∈ w.cps.toList, c ∈ z.cps.toList) → Q (.str w) H
theorem tE (z : Str) : ∀ m : Nat, (⟨(List.replicate m z.cps).foldl (· ++ ·) #[]⟩ : Str).cps.toList = (List.replicate m z.cps.toList).flatten := by
 have key : ∀ (m : Nat) (b : Array Nat), ((List.replicate m z.cps).foldl (· ++ ·) b).toList = b.toList ++ (List.replicate m z.cps.toList).flatten := by
  intro m
  induction m with
  | zero => intro b; simp
  | succ m ih => intro b; rw [List.replicate_succ, List.foldl_cons, ih, List.replicate_succ, List.flatten_cons, Array.toList_append, List.append_assoc]
 intro m
 rw [key]; simp
theorem tU : iK X (binaryOp .Mult) xP := by
 intro pins s σ H x y v u Q I rx ry h
 obtain ⟨z, n, rfl, rfl, h0, h1, hz, q⟩ := h
 obtain ⟨t, rfl⟩ := rx
 obtain ⟨t', rfl⟩ := ry
 have hlen : ∀ m : Nat, (⟨(List.replicate m z.cps).foldl (· ++ ·) #[]⟩ : Str).length = m := fun m => by
  have e := congrArg List.length (tE z m)
  rw [uR, len_rep, uR, hz] at e
  rw [e]; omega
 refine PySem.P.mul_str ?_ (fun _ _ => ?_) (fun _ _ => ?_) ?_
 ·have a1 : ¬ n < -(2 ^ 63 : Int) := by omega
  have a2 : ¬ n ≥ 2 ^ 63 := by omega
  rw [decide_eq_false a1, decide_eq_false a2]; rfl
 ·have : 1 ≤ (2 ^ 63 - 1) / n := Int.le_ediv_of_mul_le (by omega) (by omega)
  rw [hz]; omega
 ·rw [hz, Nat.one_mul]
  exact decide_eq_false (by have := cF (n := n.toNat) (by omega); omega)
 ·split
  ·rename_i g
   have e : n = 0 := by omega
   refine ⟨by decide, ?_⟩
   exact ⟨.str Str.empty, H, I.tok _, ⟨_, rfl⟩, q _ (by rw [e]; rfl) (fun c hc => by cases hc)⟩
  ·split
   ·rename_i g1 g2
    have e : n = 1 := by
     rw [hz] at g2
     simpa using g2
    exact ⟨.str z, H, I, ⟨_, rfl⟩, q _ (by rw [e, hz]; rfl) (fun c hc => hc)⟩
   ·refine ⟨by rw [hlen]; exact cF (by omega), ⟨.str _, H, I.tok _, ⟨_, rfl⟩, q _ (by rw [hlen]; omega) (fun c hc => ?_)⟩⟩
    rw [tE] at hc
    simp only [List.mem_flatten, List.mem_replicate] at hc
    obtain ⟨l, ⟨_, rfl⟩, h⟩ := hc
    exact h
noncomputable def rM (K : PySem.W.Frag) : V → List V → Hp → VK → Prop := fun x vs H Q => ∃ z p ys, x = .str z ∧ vs = [.ref p] ∧ dZ K H p (ys.map V.str) ∧ (ys.map (·.length)).sum + ys.length * z.length ≤ 16777216 ∧ Q (.str (Txt.join z ys)) H
theorem Q6 (K : PySem.W.Frag) (hK : X.K = K := by rfl) : MR X "str.join" (rM K) := by
 subst hK
 intro pins s σ H x vs v us Q I rx rv h
 obtain ⟨z, p, ys, rfl, rfl, hq, hz, q⟩ := h
 obtain ⟨t, rfl⟩ := rx
 obtain ⟨u, rfl, rp⟩ := vals1 rv
 cases rp
 obtain ⟨its, r, pl, _⟩ := I.tuple hq
 exact join_tuple pl (by simpa using vO r) hz fun t' k => ⟨.str (Txt.join z ys), H, I.tok k, ⟨t', rfl⟩, q⟩
end
section
variable {k : Nat} {d9 : List Nat} {g : TG} {tt : TT} {te : TE} {σ : St} {H : Hp} {Q : VK} {l : Addr}
end
end L2
namespace L2
open PySem PySem.Spec PyProof.Rows
section
variable {κ : Type} [DecidableEq κ]
noncomputable def putK (kvs : List (κ × V)) (k : κ) (v : V) : List (κ × V) :=
 if (kvs.any fun kv => decide (kv.1 = k)) = true then kvs.map (fun kv => if kv.1 = k then (kv.1, v) else kv) else kvs ++ [(k, v)]
end
theorem RA {P : Program} {w : World} {k : Key} {u : Value} (r : RelV (kV k) u) : (kH P w).is k u = true := by
 cases k with
 | inl i => obtain ⟨t, e⟩ := (show ∃ t, u = Value.int i t from r); subst e; exact wZ P w i t
 | inr x => obtain ⟨t, e⟩ := (show ∃ t, u = Value.str x t from r); subst e; exact yK P w x t
noncomputable def TN (H : Hp) (a : Addr) (kvs : List (Key × V)) : Prop := ∃ ep, Rd H a (.dK kvs ep)
noncomputable def QB (H : Hp) (a : Addr) (kvs : List (Key × V)) : Prop := ∃ ep, H a = some (.dK kvs ep)
theorem QB.rd {H : Hp} {a : Addr} {kvs : List (Key × V)} (h : QB H a kvs) : TN H a kvs := let ⟨ep, e⟩ := h; ⟨ep, .inl e⟩
section
variable {P : Program} {w : World} {H : Hp} {h : Heap} {a : Addr}
end
section
variable {X : Cx} {pins : List (Addr × Obj)} {σ : St} {H : Hp} {s : Shared} {a : Addr} {y v : V} {u r : Value} {o : Option V} {A : Around} {E : Value → Shared → Prop}
end
section
variable {X : Cx} {pins : List (Addr × Obj)} {σ : St} {H : Hp} {s : Shared} {a : Addr} {kvs : List (Key × V)} {k : Key} {u : Value} {A : Around} {E : Value → Shared → Prop}
end
section
variable {X : Cx} {o i e value : Expr} {pos pos' tpos : Pos} {td ty tv : TE}
end
noncomputable def uS : TE := fun _ H Q => ∀ p, H p = none → Q (.ref p) (upd H p (.dK [] 0))
section
variable {X : Cx} {pos : Pos}
end
noncomputable def nI : List (TE × TE) → St → Hp → (List (V × V) → Hp → Prop) → Prop
 | [], _, H, Q => Q [] H
 | (tk, tv) :: r, σ, H, Q => tk σ H fun x H1 => tv σ H1 fun y H2 => nI r σ H2 fun ps H3 => Q ((x, y) :: ps) H3
noncomputable def N6 (kvs more : List (Key × V)) : List (Key × V) := more.foldl (fun acc kv => putK acc kv.1 kv.2) kvs
noncomputable def AX (trs : List (TE × TE)) : TE := fun σ H Q => ∀ p, H p = none → nI trs σ (upd H p (.dK [] 0)) fun ps H2 => H2 p = some (.dK [] 0) ∧ ∃ kvs : List (Key × V), ps = kvs.map (fun kv => (kV kv.1, kv.2)) ∧ kvs.length ≤ 15 ∧ ∀ ep, Q (.ref p) (upd H2 p (.dK (N6 [] kvs) ep))
section
variable {X : Cx} {pins : List (Addr × Obj)} {σ : St} {H : Hp} {s : Shared} {a : Addr} {y d : V} {u r : Value} {o : Option V} {A : Around} {E : Value → Shared → Prop}
end
section
variable {X : Cx} {o e f : Expr} {apos cpos : Pos} {td ty tx : TE}
end
section
variable {X : Cx} {pins : List (Addr × Obj)} {σ : St} {H : Hp} {s : Shared} {a : Addr} {kvs : List (Key × V)} {A : Around} {E : Value → Shared → Prop}
end
section
variable {X : Cx} {pins : List (Addr × Obj)} {σ : St} {H : Hp} {s : Shared} {a : Addr} {y : V} {u : Value} {A : Around} {E : Value → Shared → Prop}
end
end L2
namespace HT
open PySem PySem.Spec PyProof.Rows
theorem uE (a : Int) (t : Tok) (l : Addr) (items : Array Value) (n : Nat) (dd : Option Addr) (sl : Array (Option Value)) :
  Meets (Builtin.«int.__rmul__» ⟨[.int a t, .ref l], []⟩) (fun _ R s => s.heap.get? l = some { cls := .type "tuple", dict := dd, data := .seq items n, slots := sl } ∧ R (.ok (.ret .notImplemented)) s) :=
 .of_wp fun prog w A R s h => by obtain ⟨hp, g, d, tk, os⟩ := s; obtain ⟨hl, h⟩ := h; wp_walk; exact ⟨_, rfl, h⟩
theorem KC (l : Addr) (items : Array Value) (n : Nat) (dd : Option Addr) (sl : Array (Option Value)) (x : Int) (u : Tok) (h1 : 1 < x) (h2 : x ≤ 1000) (h3 : items.size = 1) :
  Meets (Builtin.«tuple.__mul__» ⟨[.ref l, .int x u], []⟩) (fun _ R s => s.heap.get? l = some { cls := .type "tuple", dict := dd, data := .seq items n, slots := sl } ∧ R (.ok (.ret (Value.ref s.heap.objs.size))) { s with heap := s.heap.push { cls := Value.type "tuple", data := Data.seq (List.foldl (fun x1 x2 => x1 ++ x2) #[] (List.replicate x.toNat items)) }, toks := s.toks }) :=
 .of_wp fun prog w A R s h => by
  obtain ⟨hp, g, d, tk, os⟩ := s; obtain ⟨hl, h⟩ := h
  wp_walk
  have a1 : (decide (x < -2 ^ 63) || decide (x ≥ 2 ^ 63)) = false := by rw [decide_eq_false (by omega), decide_eq_false (by omega)]; rfl
  refine wpAny_ite_false (decide_eq_false (by rw [a1]; exact Bool.false_ne_true)) ?_
  wp_walk
  have a2 : (items.isEmpty || x == 1) = false := by
   have e1 : items.isEmpty = false := by
    rw [Array.isEmpty_eq_false_iff_exists_mem] <;> exact ⟨items[0], by simp⟩
   rw [e1, beq_eq_false_iff_ne.mpr (by omega)]; rfl
  refine wpAny_ite_false (decide_eq_false (by rw [a2]; exact Bool.false_ne_true)) ?_
  wp_walk
  have e1 : items.isEmpty = false := by
   rw [Array.isEmpty_eq_false_iff_exists_mem]; exact ⟨items[0], by simp⟩
  have a3 : (decide (x ≤ 0) || items.isEmpty) = false := by rw [e1, decide_eq_false (by omega)]; rfl
  refine wpAny_ite_false (decide_eq_false (by rw [a3]; exact Bool.false_ne_true)) ?_
  have a4 : ¬ ((items.size : Int) * x > (2 ^ 63 - 1) / 8) := by rw [h3]; omega
  refine wpAny_ite_false (decide_eq_false a4) ?_
  have a5 : Builtin.Tuple.tupleTooMany ((items.size : Int) * x) = false := by
   rw [h3]
   refine decide_eq_false ?_
   have : (sizeLine : Int) = 16777216 := by rw [sizeLine_eq]; rfl
   omega
  refine wpAny_ite_false (decide_eq_false (by rw [a5]; exact Bool.false_ne_true)) ?_
  have hsz : (List.foldl (fun x1 x2 => x1 ++ x2) #[] (List.replicate x.toNat items)).size ≤ sizeLine := by
   have key : ∀ (m : Nat) (b : Array Value), ((List.replicate m items).foldl (fun x1 x2 => x1 ++ x2) b).size = b.size + m := by
    intro m
    induction m with
    | zero => intro b; rfl
    | succ m ih => intro b; rw [List.replicate_succ, List.foldl_cons, ih, Array.size_append, h3]; omega
   rw [key]
   exact L2.cF (by show 0 + _ ≤ _; omega)
  first
   | exact wpAny_bind (m := Builtin.Tuple.tupleExact _) (wpAny_newObj_type (wpAny_pure ⟨_, rfl, h⟩) hsz)
   | exact wpAny_bind (m := Builtin.Tuple.tupleExact _) (wpAny_newObj_type (wpAny_bind (wpAny_pure (wpAny_pure ⟨_, rfl, h⟩))) hsz)
theorem qZ : fillsNumberSlot (.type "tuple") "mul" = pure false :=
 PySem.fillsNumberSlot_seq (id := "tuple.__mul__") (r := some (.builtin "tuple.__rmul__")) F.slot_tuple_mul.lookup (by decide +kernel) F.slot_tuple_rmul.lookup (by decide +kernel)
theorem zQ : seqRepeat? (.type "tuple") = pure (some (.builtin "tuple.__mul__")) := by
 unfold seqRepeat?
 rw [PySem.seqSlot_of (T := "tuple") (name := "__mul__") (id := "tuple.__mul__") F.slot_tuple_mul.lookup (by decide +kernel), PySem.seqSlot_of (T := "tuple") (name := "__rmul__") (id := "tuple.__rmul__") F.slot_tuple_rmul.lookup (by decide +kernel)]
 rfl
theorem JC (l : Addr) (items : Array Value) (n : Nat) (dd : Option Addr) (sl : Array (Option Value)) (u : Tok) (h3 : items.size = 1) :
  Meets (Builtin.«tuple.__mul__» ⟨[.ref l, .int 1 u], []⟩) (fun _ R s => s.heap.get? l = some { cls := .type "tuple", dict := dd, data := .seq items n, slots := sl } ∧ R (.ok (.ret (Value.ref l))) s) :=
 .of_wp fun prog w A R s h => by
  obtain ⟨hp, g, d, tk, os⟩ := s; obtain ⟨hl, h⟩ := h
  wp_walk
  exact ⟨_, rfl, h⟩
end HT
namespace L2
open PySem PySem.Spec PyProof.Rows
section
variable {X : Cx}
noncomputable def xV : R2 := fun x y H Q => ∃ a v n, x = .ref a ∧ y = .int n ∧ H a = some (.tup [v]) ∧ 1 ≤ n ∧ n ≤ 1000 ∧ ∀ p H', aG H H' → H' p = some (.tup (List.replicate n.toNat v)) → Q (.ref p) H'
theorem JZ : iK X (binaryOp .Mult) xV := by
 intro pins s σ H x y v u Q I rx ry h
 obtain ⟨a, v1, n, rfl, rfl, ha, h1, h2, q⟩ := h
 cases rx
 obtain ⟨t, rfl⟩ := ry
 obtain ⟨its, r1, p1, hz⟩ := I.tuple (dZ.of (K := X.K) ha)
 obtain ⟨⟨cls, dd, data, sl⟩, ho, hc, m, hd⟩ := id p1
 simp only at hc hd
 subst hc hd
 have hlen : its.toArray.size = 1 := by rw [List.size_toArray, ← r1.length]; rfl
 refine wpAny_binaryOp_repeat_ref (T := "tuple") (U := "int") (by decide) ⟨_, ho, rfl⟩ (fun s' => typeIs_int s' n t) HT.qZ F.fills_int_mul F.slot_int_rmul HT.zQ F.slot_int_index.lookup
  (call_meets F.slot_int_rmul (typeIs_int s n t) F.entry_int_rmul (F.args_int_rmul_2 _ _) (HT.uE n t a its.toArray m dd sl) ⟨ho, rfl, ⟨_, ho, rfl⟩, ?_⟩)
 by_cases e1 : n = 1
 ·subst e1
  exact call_meets F.slot_tuple_mul ⟨_, ho, rfl⟩ F.entry_tuple_mul (F.args_tuple_mul_2 _ _) (HT.JC a its.toArray m dd sl t hlen) ⟨ho, ⟨.ref a, H, I, rfl, q a H (aG.refl _) ha⟩⟩
 ·refine call_meets F.slot_tuple_mul ⟨_, ho, rfl⟩ F.entry_tuple_mul (F.args_tuple_mul_2 _ _) (HT.KC a its.toArray m dd sl n t (by omega) h2 hlen) ⟨ho, ?_⟩
  have hv : ∃ w, its = [w] ∧ RelV v1 w := by
   cases r1 with
   | cons r rr => cases rr; exact ⟨_, rfl, r⟩
  obtain ⟨w, rfl, rw1⟩ := hv
  have e : ∀ k : Nat, List.foldl (fun x1 x2 => x1 ++ x2) #[] (List.replicate k [w].toArray) = (List.replicate k w).toArray := by
   intro k
   have key : ∀ (k : Nat) (b : Array Value), (List.foldl (fun x1 x2 => x1 ++ x2) b (List.replicate k [w].toArray)) = b ++ (List.replicate k w).toArray := by
    intro k
    induction k with
    | zero => intro b; simp
    | succ k ih => intro b; rw [List.replicate_succ, List.foldl_cons, ih, List.replicate_succ]; apply Array.ext'; simp
   rw [key]; simp
  rw [e]
  refine ⟨.ref s.heap.objs.size, _, I.laid (t' := s.toks) (o := .tup (List.replicate n.toNat v1)) (fun b ob q => Heap.get?_push_of_some _ q) (Nat.le_refl _) ?_, rfl, q _ _ (aG.upd (I.bY.fresh (Nat.le_refl _))) aB⟩
  refine ⟨by rw [List.length_replicate]; exact cF (by omega), List.replicate n.toNat w, ?_, mV.new _ _⟩
  induction n.toNat with
  | zero => exact .nil
  | succ k ih => exact .cons rw1 ih
end
end L2
namespace L2
open PySem PySem.Spec PyProof.Rows
section
variable {k : Nat} {d9 : List Nat} {g : TG} {tt : TT} {te : TE} {σ : St} {H : Hp} {Q : VK} {l : Addr}
end
noncomputable def Kp (H H' : Hp) : Prop := ∀ a o, H a = some o → H' a = some o ∨ ∃ xs ys, o = .lst xs ∧ H' a = some (.lst ys)
theorem Kp.of {H H' : Hp} (s : aG H H') : Kp H H' := fun a o h => .inl (s a o h)
theorem Kp.lst {H : Hp} {l : Addr} {xs ys : List V} (e : H l = some (.lst xs)) : Kp H (upd H l (.lst ys)) := fun a o h => by
 by_cases z : a = l
 ·subst z; rw [e] at h; cases h; exact .inr ⟨_, _, rfl, aB⟩
 ·exact .inl (by rw [aL z]; exact h)
theorem Kp.tup {H H' : Hp} (k : Kp H H') {a : Addr} {xs : List V} (h : H a = some (.tup xs)) : H' a = some (.tup xs) := by
 rcases k a _ h with r | ⟨_, _, e, _⟩
 ·exact r
 ·cases e
structure Tg (H : Hp) (v : V) (k : Kd) : Prop where
 is : QA H v k
 BV : ∀ x, v = .str x → x.length ≤ 1000000
theorem Tg.kp {H H' : Hp} {v : V} {k : Kd} (t : Tg H v k) (s : Kp H H') : Tg H' v k := by
 refine ⟨?_, t.BV⟩
 have h := t.is
 cases k with
 | aZ => exact h
 | bl => exact h
 | int => exact h
 | str => exact h
 | lst =>
  obtain ⟨a, xs, rfl, e⟩ := h
  rcases s _ _ e with r | ⟨_, ys, _, r⟩
  ·exact ⟨a, xs, rfl, r⟩
  ·exact ⟨a, ys, rfl, r⟩
 | tup => obtain ⟨a, xs, rfl, e⟩ := h; exact ⟨a, xs, rfl, s.tup e⟩
 | j4 =>
  obtain ⟨a, xs, ep, rfl, e⟩ := h
  rcases s _ _ e with r | ⟨_, _, z, _⟩
  ·exact ⟨a, xs, ep, rfl, r⟩
  ·cases z
theorem Tg.same {H H' : Hp} {v : V} {k : Kd} (t : Tg H v k) (s : aG H H') : Tg H' v k := t.kp (.of s)
noncomputable def kA (H : Hp) : V → Option (List V)
 | .ref a => match H a with | some (.tup xs) => some xs | _ => none
 | _ => none
theorem jQ {H : Hp} {a : Addr} {xs : List V} (h : H a = some (.tup xs)) : kA H (.ref a) = some xs := by unfold kA; simp only [h]
theorem Tg.tup {H : Hp} {v : V} {k : Kd} (t : Tg H v k) : (k = .tup ∧ ∃ a xs, v = .ref a ∧ H a = some (.tup xs) ∧ kA H v = some xs) ∨ (k ≠ .tup ∧ kA H v = none) := by
 have h := t.is
 cases k with
 | aZ => cases (show v = .aZ from h); exact .inr ⟨(fun z => nomatch z), rfl⟩
 | bl => obtain ⟨_, rfl⟩ := h; exact .inr ⟨(fun z => nomatch z), rfl⟩
 | int => obtain ⟨_, rfl⟩ := h; exact .inr ⟨(fun z => nomatch z), rfl⟩
 | str => obtain ⟨_, rfl⟩ := h; exact .inr ⟨(fun z => nomatch z), rfl⟩
 | lst => obtain ⟨a, xs, rfl, e⟩ := h; exact .inr ⟨(fun z => nomatch z), by unfold kA; simp only [e]⟩
 | tup => obtain ⟨a, xs, rfl, e⟩ := h; exact .inl ⟨rfl, a, xs, rfl, e, jQ e⟩
 | j4 => obtain ⟨a, xs, ep, rfl, e⟩ := h; exact .inr ⟨(fun z => nomatch z), by unfold kA; simp only [e]⟩
theorem Tg.GZ {H H' : Hp} {v : V} {k : Kd} (t : Tg H v k) (s : Kp H H') : kA H' v = kA H v := by
 rcases t.tup with ⟨rfl, a, xs, rfl, e, e2⟩ | ⟨n, e⟩
 ·rw [e2]; exact jQ (s.tup e)
 ·rw [e]
  rcases (t.kp s).tup with ⟨z, _⟩ | ⟨_, e'⟩
  ·exact absurd z n
  ·exact e'
noncomputable def r6 : Nat → Hp → V → Prop
 | 0, H, v => ∃ k, Tg H v k
 | n + 1, H, v => (∃ k, Tg H v k) ∧ ∀ xs, kA H v = some xs → xs.length ≤ 30000 ∧ ∀ x ∈ xs, r6 n H x
theorem r6.tg : ∀ {n : Nat} {H : Hp} {v : V}, r6 n H v → ∃ k, Tg H v k
 | 0, _, _, h => h
 | _ + 1, _, _, h => h.1
theorem r6.kp : ∀ {n : Nat} {H H' : Hp} {v : V}, r6 n H v → Kp H H' → r6 n H' v
 | 0, _, _, _, ⟨k, t⟩, s => ⟨k, t.kp s⟩
 | n + 1, _, _, _, ⟨⟨k, t⟩, h⟩, s => ⟨⟨k, t.kp s⟩, fun xs e => by
   rw [t.GZ s] at e
   exact ⟨(h xs e).1, fun x hx => r6.kp ((h xs e).2 x hx) s⟩⟩
noncomputable def Any (H : Hp) (v : V) : Prop := ∀ n, r6 n H v
theorem pW {H : Hp} {v : V} {k : Kd} (t : Tg H v k) (n : k ≠ .tup) : Any H v
 | 0 => ⟨k, t⟩
 | _ + 1 => ⟨⟨k, t⟩, fun xs e => by
   rcases t.tup with ⟨z, _⟩ | ⟨_, e'⟩
   ·exact absurd z n
   ·rw [e] at e'; cases e'⟩
theorem KL {H : Hp} : Any H .aZ := pW (k := .aZ) ⟨rfl, fun _ e => nomatch e⟩ (fun z => nomatch z)
theorem J1 {H : Hp} {i : Int} : Any H (.int i) := pW (k := .int) ⟨⟨i, rfl⟩, fun _ e => nomatch e⟩ (fun z => nomatch z)
theorem vV {H : Hp} {x : Str} (h : x.length ≤ 1000000) : Any H (.str x) := pW (k := .str) ⟨⟨x, rfl⟩, fun _ e => by cases e; exact h⟩ (fun z => nomatch z)
theorem A0 {H : Hp} {a : Addr} {xs : List V} (h : H a = some (.tup xs)) (hl : xs.length ≤ 30000) (hx : ∀ x ∈ xs, Any H x) : Any H (.ref a)
 | 0 => ⟨.tup, ⟨a, xs, rfl, h⟩, fun _ e => nomatch e⟩
 | n + 1 => ⟨⟨.tup, ⟨a, xs, rfl, h⟩, fun _ e => nomatch e⟩, fun ys e => by
   rw [jQ h] at e
   cases e
   exact ⟨hl, fun x hm => hx x hm n⟩⟩
end L2
namespace L2
open PySem PySem.Spec PyProof.Rows
section
variable {X : Cx} {es : List Expr} {te : TE} {t : TA}
theorem SI {a b c} (ha : PE X (.Constant a b c) te) (hr : PA X es t) : PA X (.Constant a b c :: es) (dH te t) := aA ha hr rfl
theorem R7 {a b} (ha : PE X (.Name a b) te) (hr : PA X es t) : PA X (.Name a b :: es) (dH te t) := aA ha hr rfl
theorem SM {a b} (ha : PE X (.List a b) te) (hr : PA X es t) : PA X (.List a b :: es) (dH te t) := aA ha hr rfl
theorem SH {a b c d} (ha : PE X (.Call a b c d) te) (hr : PA X es t) : PA X (.Call a b c d :: es) (dH te t) := aA ha hr rfl
theorem SK {a b c d} (ha : PE X (.BinOp a b c d) te) (hr : PA X es t) : PA X (.BinOp a b c d :: es) (dH te t) := aA ha hr rfl
theorem R9 {a b c} (ha : PE X (.Subscript a b c) te) (hr : PA X es t) : PA X (.Subscript a b c :: es) (dH te t) := aA ha hr rfl
end
section
variable {X : Cx} {elt tg iter : Expr} {ifs : List Expr} {scope : Scope} {pos : Pos} {wi : TI} {g : TG} {tt : TT} {te : TE} {N : List Str} {k : Nat} {d9 : List Nat}
theorem JN {iy : Nat} {y : Str} {py spos : Pos} (hc : X.calm = true) (hNd : X.N.Nodup) (hiy : X.N[iy]? = some y) (hy : X.env.scope.names.lookup y = some .local)
  (S : iQ X scope N k d9) (hi : PI X tg iter wi) (hg : ∀ c, PG (bX X scope N c) tg g) (ht : ∀ c, RK (bX X scope N c) ifs tt) (he : ∀ c, PE (bX X scope N c) elt te)
  (hsw : swapsWith (.ListComp elt [⟨tg, iter, ifs, 0⟩] scope pos) (some (.Name y py)) spos.line X.env = pure true)
  (hs : ∀ x, foldedSetIterable iter X.env x = pure x := by intro _; rfl) : PS X (.Assign [.Name y py] (.ListComp elt [⟨tg, iter, ifs, 0⟩] scope pos) spos) (oR (yM wi k d9 g tt te) (hX iy)) := by
 intro pins s σ H D I h
 rw [exec_Assign_Name_used _ _ _ _ hsw]
 refine wpAny_bind (wpAny_standAt (wpAny_bind ?_))
 obtain ⟨cl, hclos, hcl1, hcl2⟩ := kZ (scope := scope) (env := X.env) (fun p hp hf => I.ok.has p.1 (S.free p hp hf))
 show wpAny _ X.A (do let _ ← comprehension (.ListComp elt [⟨tg, iter, ifs, 0⟩] scope pos) scope X.env _ (newList []) false (eval iter X.env) (some (assign (.Name y py) X.env))) _ _ s
 refine wpAny_bind (wpAny_mono (wpAny_comprehension_free (use := some (assign (.Name y py) X.env)) (Q := fun _ s' => SP X pins D .next s') rfl hs hclos S.kind S.names (cL (hi pins s σ H _ I h) fun v s1 h1 => cL h1 fun itv s2 h2 => ?_)) (fun _ s' hq => wpAny_pure (wpAny_pure hq)) fun _ _ e => e)
 obtain ⟨it, fp, tn, J, H2, e, I2, T, st2, f2, q2⟩ := h2
 subst e
 obtain ⟨W, ⟨m0, w0⟩, turn⟩ := q2 s2.heap.objs.size (I2.bY.fresh (Nat.le_refl _))
 have hob : ∀ b ∈ fp, b < s2.heap.objs.size := fun b hb => let ⟨o, e, _⟩ := T.obj _ _ st2 b hb; Heap.lt_size e
 refine wpAny_newObj_type (wpAny_newFunctionEnv S.cell (by intro y hy; simp at hy) (fun h₁ hns₁ hsb₁ => ?_) S.kind)
 dsimp only at hns₁ hsb₁ ⊢
 generalize hHH : s2.heap.push { cls := .type "list", dict := none, data := .seq ([] : List Value).toArray } = HH at hns₁ hsb₁ ⊢
 have hCC : HH.objs.size = s2.heap.objs.size + 1 := by rw [← hHH, Heap.size_push]
 have old : ∀ b o, s2.heap.get? b = some o → h₁.get? b = some o := fun b o e => hsb₁.extBut b o (Nat.ne_of_lt (hCC ▸ Nat.lt_succ_of_lt (Heap.lt_size e))) (Heap.get?_push_of_some _ (hHH ▸ Heap.get?_push_of_some _ e))
 have hD : h₁.get? s2.heap.objs.size = some { cls := .type "list", data := .seq #[] 0 } := hsb₁.extBut _ _ (Nat.ne_of_lt (hCC ▸ Nat.lt_succ_self _)) (Heap.get?_push_of_some _ (hHH ▸ Heap.get?_push_size _ rfl))
 have I4 := fun tk => B5 (tk := tk) S I2 hcl1 hcl2 hCC f2 hob old hD hns₁
 have X' := bX X scope N ⟨cl, HH.objs.size, s2, H2, fp⟩
 have stat : ∀ {H' : Hp}, (∀ b ∈ fp, H' b = none) → ∀ b ∈ fp, oO (bX X scope N ⟨cl, HH.objs.size, s2, H2, fp⟩) [] H' b := fun hn b hb =>
  ⟨hn b hb, Nat.ne_of_lt (hCC ▸ Nat.lt_succ_of_lt (hob b hb)), (AV S I2 hcl1 hcl2 (hCC ▸ Nat.le_succ _) f2 hob).xK b hb, .inl hb, fun x c e => (f2 b hb).2.2.2.2.1 x c (hcl1 x c e), fun p hp => absurd (show p ∈ ([] : List (Addr × Obj)) from hp) (by simp)⟩
 have loop : ∀ s₃ : Shared, s₃ = { s2 with heap := h₁, toks := s2.toks + ([] : List (Str × Value)).length } →
   codeAny (model X.prog X.w) X.A (.compLoop (.ListComp elt [⟨tg, iter, ifs, 0⟩] scope pos) 0 (.ref it) (.ref s2.heap.objs.size) (compEnvC scope cl HH.objs.size X.env))
    (compPost (model X.prog X.w) X.A X.xe (some (assign (.Name y py) X.env)) (fun _ s' => SP X pins D .next s') (.ref s2.heap.objs.size) HH.objs.size) s₃ := by
  rintro s₃ rfl
  refine tL (fun n s' => ∃ i σ' H', Inv (bX X scope N ⟨cl, HH.objs.size, s2, H2, fp⟩) [] σ' H' s' ∧ tn i s'.heap ∧ (∀ b ∈ fp, H' b = none) ∧ W i n σ' H') ?_ m0
   ⟨0, cN k d9 σ, _, I4 _, T.keep _ _ _ st2 fun b _ o e => old b o e, fun b hb => by rw [aL (Nat.ne_of_lt (hob b hb))]; exact (f2 b hb).1, w0⟩
  rintro n s3 ⟨i, σ3, H3, I3, st3, fr3, w3⟩
  rcases turn i n σ3 H3 w3 with ⟨stop, qn⟩ | ⟨go, NN, hN, step⟩
  ·refine cL (T.done (bX X scope N ⟨cl, HH.objs.size, s2, H2, fp⟩) rfl rfl rfl hc i [] s3 σ3 H3 _ I3 (stat fr3) st3 stop) fun r s4 ⟨hr, J4⟩ => ?_
   subst hr
   obtain ⟨m, hn, _⟩ := J4.loc
   obtain ⟨oC, es, ep, hoC, hdC, rC⟩ := hn
   have jO : ∀ b o, s2.heap.get? b = some o → b ≠ HH.objs.size := fun b o e => Nat.ne_of_lt (hCC ▸ Nat.lt_succ_of_lt (Heap.lt_size e))
   have szC : s2.heap.objs.size ≤ HH.objs.size := hCC ▸ Nat.le_succ _
   have u := J4.base
   have I4x : Inv X pins σ H3 s4 := I2.pJ (ch := fp) J4.os u J4.bY J4.bare fun b hb => by
    obtain ⟨_, f1, _, f3, f4, f5⟩ := f2 b hb
    exact ⟨f3, f1, f4, f5⟩
   have lC : HH.objs.size ≠ X.env.locals := Nat.ne_of_gt (Nat.lt_of_lt_of_le I2.lt szC)
   have I4p : Inv X ((HH.objs.size, oC) :: pins) σ H3 s4 := I4x.oZ fun p hp => by
    rcases List.mem_cons.mp hp with r | r
    ·rw [r]
     exact ⟨hoC, J4.free, lC, I2.Q3 szC, fun v z => by rw [hdC] at z; cases z⟩
    ·exact I4x.pin p (List.mem_append_right _ r)
   show wpAny _ X.A (assign (.Name y py) X.env (.ref s2.heap.objs.size)) _ _ _
   refine wpAny_assign_Name (eP I4p hNd hiy (.inl hy) (v := .ref s2.heap.objs.size) rfl (fun s5 I5 => ?_) (.inr hy))
   have hC5 := I5.pin (HH.objs.size, oC) (List.mem_append_right _ List.mem_cons_self)
   refine ⟨m, ⟨oC, es, ep, hC5.1, hdC, rC⟩, fun h' hs' => ⟨_, H3, ?_, qn⟩⟩
   have I6 : Inv X pins (σ.set iy (some (.ref s2.heap.objs.size))) H3 s5 := I5.oZ fun p hp => I5.pin p (List.mem_append_right _ (List.mem_cons_of_mem _ hp))
   refine I6.turned (it := HH.objs.size) (t' := s5.toks) (fun b o hb e => hs'.extBut b o hb e) J4.free lC (.inr (Nat.le_trans I2.sz szC)) (fun x c e => ?_) (fun p hp => ?_)
   ·obtain ⟨v, q⟩ := I2.cell x c e
    exact Nat.ne_of_lt (Nat.lt_of_lt_of_le q.lt szC)
   ·exact jO p.1 p.2 (I2.pin p hp).1
  ·refine cL (T.item (bX X scope N ⟨cl, HH.objs.size, s2, H2, fp⟩) rfl rfl rfl hc i [] s3 σ3 H3 _ I3 (stat fr3) st3 go) fun r s4 ⟨u, hr, h4⟩ => ?_
   subst hr
   refine cL h4 fun _ s5 ⟨x, H5, I5, r5, y5, st5, fr5⟩ => ?_
   have I5' := I5.pinned (stat fr5) (T.obj _ _ st5)
   have again : ∀ {s7 : Shared} {σ7 : St} {H7 : Hp}, Inv (bX X scope N ⟨cl, HH.objs.size, s2, H2, fp⟩) ([] ++ nE fp s5.heap) σ7 H7 s7 → NN σ7 H7 →
     ∃ m, m < n ∧ ∃ i σ' H', Inv (bX X scope N ⟨cl, HH.objs.size, s2, H2, fp⟩) [] σ' H' s7 ∧ tn i s7.heap ∧ (∀ b ∈ fp, H' b = none) ∧ W i m σ' H' := fun {s7 σ7 H7} I7 n7 => by
    obtain ⟨m', hm, w7⟩ := hN σ7 H7 n7
    refine ⟨m', hm, i + 1, σ7, H7, I7.kB, T.keep _ _ _ st5 fun b hb o e => (I7.pin (b, o) (List.mem_append_right _ (List.mem_append_right _ (fV hb e)))).1, fun b hb => ?_, w7⟩
    obtain ⟨o, e, d⟩ := T.obj _ _ st5 b hb
    exact (I7.pin (b, o) (List.mem_append_right _ (List.mem_append_right _ (fV hb e)))).2.1
   refine cL (hg _ _ s5 σ3 H5 x u _ I5' r5 (step x H5 y5)) fun _ s6 ⟨σ6, H6, I6, q6⟩ => ?_
   refine cL (ht _ _ s6 σ6 H6 _ I6 q6) fun b s7 ⟨H7, I7, q7⟩ => ?_
   cases b with
   | false => exact again I7 q7
   | true =>
    refine cL (he _ _ s7 σ6 H7 _ I7 q7) fun y s8 ⟨yv, H8, I8, r8, xs, hl, hz, n8⟩ => ?_
    refine cL (d5 _ s8 σ6 H8 (.ref s2.heap.objs.size) [yv] (.ref s2.heap.objs.size) [y] (fun _ H9 => NN σ6 H9) I8 rfl (.cons r8 .nil) ⟨_, xs, yv, rfl, rfl, hl, hz, n8⟩) fun _ s9 ⟨_, H9, I9, _, q9⟩ => ?_
    exact again I9 q9
 exact codeAny_compStart_list (loop _ rfl) (T.self X.A 0 _ _ _ (T.keep _ _ _ st2 fun b _ o e => old b o e) (loop _ rfl))
theorem IK {i : Nat} {y : Str} {py spos : Pos} (N : List Str) (k : Nat) (d9 : List Nat) (XN : List Str) (xs : Scope) (hc : X.calm = true) (hN : X.N = XN) (hx : X.env.scope = xs) (hNd : X.N.Nodup) (hiy : X.N[i]? = some y) (hy : X.env.scope.names.lookup y = some .local)
  (hi : PI X tg iter wi) (chk : o3 XN xs scope N k d9 = true) (hg : ∀ c, PG (bX X scope N c) tg g) (ht : ∀ c, RK (bX X scope N c) ifs tt) (he : ∀ c, PE (bX X scope N c) elt te)
  (hsw : swapsWith (.ListComp elt [⟨tg, iter, ifs, 0⟩] scope pos) (some (.Name y py)) spos.line X.env = pure true := by rfl)
  (hs : ∀ x, foldedSetIterable iter X.env x = pure x := by intro _; rfl) : PS X (.Assign [.Name y py] (.ListComp elt [⟨tg, iter, ifs, 0⟩] scope pos) spos) (oR (yM wi k d9 g tt te) (hX i)) :=
 JN hc hNd hiy hy (mS hN hx chk) hi hg ht he hsw hs
end
section
variable {X : Cx} {es : List Expr} {e : Expr} {te tk tv : TE} {t : TA}
structure nQ (X : Cx) (e : Expr) (t : TE) : Prop where
 h : PE X e t
structure tF (X : Cx) (es : List Expr) (t : TA) : Prop where
 h : PA X es t
theorem ew (h : PE X e te) : nQ X e te := ⟨h⟩
theorem bO : tF X [] jN := ⟨aD⟩
theorem zX {a b} (ha : nQ X (.Name a b) te) (hr : tF X es t) : tF X (.Name a b :: es) (dH te t) := ⟨R7 ha.h hr.h⟩
theorem NB {a b} (ha : nQ X (.List a b) te) (hr : tF X es t) : tF X (.List a b :: es) (dH te t) := ⟨SM ha.h hr.h⟩
theorem FI {a b c d} (ha : nQ X (.Call a b c d) te) (hr : tF X es t) : tF X (.Call a b c d :: es) (dH te t) := ⟨SH ha.h hr.h⟩
theorem bK {a b c} (ha : nQ X (.Constant a b c) te) (hr : tF X es t) : tF X (.Constant a b c :: es) (dH te t) := ⟨SI ha.h hr.h⟩
theorem kG {a b c d} (ha : nQ X (.BinOp a b c d) te) (hr : tF X es t) : tF X (.BinOp a b c d :: es) (dH te t) := ⟨SK ha.h hr.h⟩
theorem PB {a b c} (ha : nQ X (.Subscript a b c) te) (hr : tF X es t) : tF X (.Subscript a b c :: es) (dH te t) := ⟨R9 ha.h hr.h⟩
theorem QT {k} {pos : Pos} (h : tF X es t) : nQ X (.Tuple es k pos) (zF t) := ⟨iE h.h⟩
theorem iO {pos : Pos} (h : tF X es t) : nQ X (.List es pos) (yF t) := ⟨d7 h.h⟩
end
section
variable {X : Cx} {es : List Expr} {te : TE} {t : TA} {st : Stmt} {rest : List Stmt} {ts us : TS}
structure MT (X : Cx) (st : Stmt) (t : TS) : Prop where
 h : PS X st t
structure wK (X : Cx) (st : List Stmt) (t : TS) : Prop where
 h : xD X st t
theorem sw (h : PS X st ts) : MT X st ts := ⟨h⟩
theorem aV (h1 : MT X st ts) (h2 : wK X rest us) : wK X (st :: rest) (sC ts us) := ⟨aJ h1.h h2.h⟩
theorem cD (h1 : MT X st ts) : wK X [st] ts := ⟨aO h1.h⟩
theorem boxed {body : List Stmt} {D : Ends} {σ : St} {H : Hp} (h : ∃ t, wK X body t ∧ t D σ H) : ∃ t, xD X body t ∧ t D σ H := let ⟨t, a, b⟩ := h; ⟨t, a.h, b⟩
end
end L2
namespace L2
open PySem PySem.Spec PyProof.Rows
section
variable {X : Cx} {pos : Pos} {k : Nat} {a b e : Expr} {es rest : List Expr} {te ta tb : TE} {t : Str → TE}
theorem JQ : iK X (binaryOp .Mult) (rI IntMulOk fun i j => .int (i * j)) := Q5 fun _ _ _ _ _ _ _ hc q => mul_int q hc
noncomputable def L5 : Str → TE := fun acc _ H Q => acc.length ≤ sizeLine ∧ Q (.str acc) H
noncomputable def AY (te : TE) (t : Str → TE) : Str → TE := fun acc σ H Q => te σ H fun v H1 => ∃ y, v = .str y ∧ (acc ++ y).length ≤ sizeLine ∧ t (acc ++ y) σ H1 Q
noncomputable def RS (t : Str → TE) : TE := t Str.empty
noncomputable def AZ (te : TE) : TE := fun σ H Q => te σ H fun v H1 => ∃ y, v = .str y ∧ y.length ≤ sizeLine ∧ Q (.str y) H1
noncomputable def CD (te : TE) : TE := fun σ H Q => te σ H fun v H1 => ∃ i, v = .int i ∧ i.natAbs.log2 < 1920 ∧ Q (.str (toString i)) H1
noncomputable def HG (ta tb : TE) : TE := fun σ H Q => ta σ H fun x H1 => ∃ y, x = .str y ∧ y.length ≤ sizeLine ∧ if ((y.length : Int) != 0) = true then Q (.str y) H1 else tb σ H1 Q
theorem OB (ha : PE X a ta) (hb : PE X (.BoolOp .Or (b :: rest) pos) tb) : PE X (.BoolOp .Or (a :: b :: rest) pos) (HG ta tb) := by
 intro pins s σ H Q I h
 refine BoolOp_or (cL (ha pins s σ H _ I h) fun v s1 ⟨x, H1, I1, r1, q1⟩ => ?_)
 obtain ⟨y, rfl, hz, q1⟩ := q1
 obtain ⟨t, rfl⟩ := r1
 have hl := jS
 refine PySem.P.truthy_str (by omega) ?_
 cases hc : ((y.length : Int) != 0) with
 | false => rw [hc] at q1; exact hb pins _ σ H1 Q (I1.tok _) (by simpa using q1)
 | true => rw [hc] at q1; exact ⟨.str y, H1, I1.tok _, ⟨_, rfl⟩, by simpa using q1⟩
noncomputable def C9 (K : PySem.W.Frag) : R2 := fun x y H Q => ∃ a b xs ys, x = .ref a ∧ y = .ref b ∧ aX K H a xs ∧ aX K H b ys ∧ (xs.length = ys.length → xs.all gE = true ∧ ys.all gE = true) ∧ Q (.bl (!pX xs ys)) H
theorem P1 (K : PySem.W.Frag) (hr : eA k X.A) (hK : X.K = K := by rfl) : iK X (compareOp .NotEq) (C9 K) := by
 subst hK
 intro pins s σ H x y v u Q I rx ry h
 obtain ⟨a, b, xs, ys, rfl, rfl, ha, hb, hf, q⟩ := h
 cases rx
 cases ry
 obtain ⟨its, r1, p1, _⟩ := I.list ha
 obtain ⟨its2, r2, p2, _⟩ := I.list hb
 have l1 := r1.length
 have l2 := r2.length
 by_cases e : xs.length = ys.length
 ·obtain ⟨f1, f2⟩ := hf e
  refine SeqAt.RcNeAt.lists (e := fun j => zZ ((xs[j]?).getD .aZ) ((ys[j]?).getD .aZ)) p1.isList p2.isList (by simp; omega) hr.vD (fun j h1 h2 => ?_) _ _ _ _ ?_
  ·have g1 : its[j]? = some (its.toArray[j]) := by simp at h1 ⊢
   have g2 : its2[j]? = some (its2.toArray[j]) := by simp at h2 ⊢
   obtain ⟨x, ex, rx⟩ := r1.get' g1
   obtain ⟨y, ey, ry⟩ := r2.get' g2
   rw [ex, ey]
   exact AM rx ry (List.all_eq_true.mp f1 _ (List.mem_of_getElem? ex)) (List.all_eq_true.mp f2 _ (List.mem_of_getElem? ey))
  ·have e1 : its.toArray.size = xs.length := by simp; omega
   rw [e1, lF e]
   exact ⟨.bl _, H, I, rfl, q⟩
 ·refine SeqAt.RcNeAt.lists_lengths p1.isList p2.isList (by simp; omega) hr.vD _ _ _ _ ?_
  rw [qE e] at q
  exact ⟨.bl true, H, I, rfl, q⟩
end
noncomputable def gI (H : Hp) (p g : Addr) : Prop := ∃ (xs : List Int) (s c : Int), H p = some (.lst [.ref g, .int s, .int c]) ∧ H g = some (.lst (xs.map V.int)) ∧ p ≠ g
noncomputable def Fr (p g : Addr) (H H' : Hp) : Prop := ∀ b o, H b = some o → b ≠ p → b ≠ g → H' b = some o
theorem Fr.refl {p g : Addr} {H : Hp} : Fr p g H H := fun _ _ h _ _ => h
theorem Fr.trans {p g : Addr} {H H1 H2 : Hp} (a : Fr p g H H1) (b : Fr p g H1 H2) : Fr p g H H2 := fun c o h n m => b c o (a c o h n m) n m
theorem Fr.of {p g : Addr} {H H1 : Hp} (a : aG H H1) : Fr p g H H1 := fun c o h _ _ => a c o h
theorem Fr.new {p g l : Addr} {H H1 : Hp} {o : HO} (f : Fr p g H H1) (n : H1 l = none) : Fr p g H (upd H1 l o) := f.trans (.of (aG.upd n))
theorem gI.same {H H' : Hp} {p g : Addr} (h : gI H p g) (s : aG H H') : gI H' p g := let ⟨xs, i, c, e1, e2, n⟩ := h; ⟨xs, i, c, s _ _ e1, s _ _ e2, n⟩
theorem gI.upd {H : Hp} {p g l : Addr} {o : HO} (h : gI H p g) (h1 : p ≠ l) (h2 : g ≠ l) : gI (upd H l o) p g := let ⟨xs, i, c, e1, e2, n⟩ := h; ⟨xs, i, c, by rw [aL h1]; exact e1, by rw [aL h2]; exact e2, n⟩
theorem gI.new {H : Hp} {p g l : Addr} {o : HO} (h : gI H p g) (n : H l = none) : gI (L2.upd H l o) p g := h.same (aG.upd n)
theorem gI.G0 {H : Hp} {p g l : Addr} (h : gI H p g) (n : H l = none) : p ≠ l := let ⟨_, _, _, e, _, _⟩ := h; aF e n
theorem gI.neg {H : Hp} {p g l : Addr} (h : gI H p g) (n : H l = none) : g ≠ l := let ⟨_, _, _, _, e, _⟩ := h; aF e n
theorem Fr.kp {H H' : Hp} {p g : Addr} (h : gI H p g) (h' : gI H' p g) (f : Fr p g H H') : Kp H H' := fun a o e => by
 obtain ⟨xs, s, c, e1, e2, n⟩ := h
 obtain ⟨xs', s', c', e1', e2', n'⟩ := h'
 by_cases z : a = p
 ·subst z
  rw [e1] at e; cases e
  exact .inr ⟨_, _, rfl, e1'⟩
 ·by_cases z2 : a = g
  ·subst z2
   rw [e2] at e; cases e
   exact .inr ⟨_, _, rfl, e2'⟩
  ·exact .inl (f a o e z z2)
noncomputable def CU (K : PySem.W.Frag) : Sp := fun vs H Q _ => ∃ (a : Addr) (ns : List Int), vs = [.ref a] ∧ aX K H a (ns.map V.int) ∧ ns.length ≤ 63 ∧ ∀ p g H', H p = none → H g = none → gI H' p g → aG H H' → Q (.ref p) H'
noncomputable def iI : Sp := fun vs H Q _ => ∃ (p g : Addr) (n : Int), vs = [.ref p, .int n] ∧ gI H p g ∧ 0 < n ∧ n < 1073741824 ∧ ∀ d H', 0 ≤ d → d < n → gI H' p g → Fr p g H H' → Q (.int d) H'
section
variable {k : Nat} {d9 : List Nat} {gg : TG} {tt : TT} {te : TE} {σ : St} {H : Hp} {Q : VK} {l : Addr}
theorem lI (lo : Int) (n : Nat) (p g : Addr) (R : Hp → V → Prop) (Good : St → Prop) (h0 : Good (cN k d9 σ)) (hp : gI H p g) (hl : H l = none) (hlen : n ≤ 1000000)
  (m : ∀ H1 H2 y, Kp H1 H2 → R H1 y → R H2 y)
  (ht : ∀ i σ H1 xs (N : St → Hp → Prop), i < n → Good σ → gI H1 p g → H1 l = some (.lst xs) → xs.length = i → Fr p g H H1 →
   (∀ σ' y H2, Good σ' → R H2 y → gI H2 p g → Fr p g H1 H2 → ∃ xs, H2 l = some (.lst xs) ∧ xs.length < sizeLine ∧ N σ' (upd H2 l (.lst (xs ++ [y])))) → cM gg tt te l (.int (lo + i)) σ H1 N)
  (hd : ∀ ys H1, ys.length = n → (∀ y ∈ ys, R H1 y) → H1 l = some (.lst ys) → gI H1 p g → Fr p g H H1 → Q (.ref l) H1) : jJ (JG lo n) gg tt te l (cN k d9 σ) (upd H l (.lst [])) Q := by
 have pl : p ≠ l := hp.G0 hl
 have gl : g ≠ l := hp.neg hl
 refine AQ lo n (fun i σ' H' => Good σ' ∧ ∃ ys : List V, H' l = some (.lst ys) ∧ ys.length = i ∧ (∀ y ∈ ys, R H' y) ∧ gI H' p g ∧ Fr p g H H') ⟨h0, [], aB, rfl, (fun _ h => nomatch h), hp.new hl, Fr.of (aG.upd hl)⟩
  (fun i σ' H' hi ⟨gd, ys, e, hy, hR, hp', b⟩ => ?_) (fun σ' H' ⟨_, ys, e, hy, hR, hp', b⟩ => hd ys H' hy hR e hp' b)
 refine ht i σ' H' ys _ hi gd hp' e hy b fun σ2 y H2 g2 ry p2 b2 => ?_
 have e2 : H2 l = some (.lst ys) := b2 l _ e pl.symm gl.symm
 refine ⟨ys, e2, o4 (by omega), g2, ys ++ [y], aB, by simp [hy], fun z hz => ?_, p2.upd pl gl, fun c o h n1 n2 => ?_⟩
 ·rcases List.mem_append.mp hz with r | r
  ·exact m _ _ _ (Kp.lst e2) (m _ _ _ (b2.kp hp' p2) (hR z r))
  ·rw [List.mem_singleton.mp r]; exact m _ _ _ (Kp.lst e2) ry
 ·rw [aL (aF h hl)]
  exact b2 c o (b c o h n1 n2) n1 n2
end
theorem j3 {ys : List V} {n : Nat} (h : ys.length = n) : ((List.range n).filter fun _ => true).map (fun i => (ys[i]?).getD .aZ) = ys := by
 have e := range_getD (xs := ys) (f := id)
 rw [List.map_id, h] at e
 exact e
section
variable {k : Nat} {d9 : List Nat} {g : TG} {tt : TT} {te : TE} {σ : St} {H : Hp} {Q : VK} {l : Addr}
theorem D7 {K : PySem.W.Frag} {a : Addr} {xs : List V} (hS : dZ K H a xs) (ys : List V) (hy : ys.length = xs.length) (Good : St → Prop) (h0 : Good (cN k d9 σ)) (hl : H l = none) (hlen : xs.length < sizeLine)
  (ht : ∀ (i : Nat) x y σ H1 zs (N : St → Hp → Prop), xs[i]? = some x → ys[i]? = some y → Good σ → aG H H1 → H1 l = some (.lst zs) → zs.length < sizeLine →
   (∀ σ' H3, Good σ' → QS l H1 H3 → H3 l = some (.lst (zs ++ [y])) → N σ' H3) → cM g tt te l x σ H1 N)
  (hd : ∀ H', aG H H' → H' l = some (.lst ys) → Q (.ref l) H') : jJ (P4 K a) g tt te l (cN k d9 σ) (upd H l (.lst [])) Q := by
 refine kM (P4 K a) xs.length (fun _ => true) (fun i => (ys[i]?).getD .aZ) Good h0 hl hlen (fun H' s => ⟨xs, hS.same s, Nat.le_refl _⟩) (fun i H' hi s => ⟨xs, xs[i], hS.same s, by simp [hi]⟩) (fun i v σ H1 H2 zs N hi gd s e hz y hN => ?_) (fun H' s e => hd H' s (by rw [e, j3 hy]))
 obtain ⟨e1, hx⟩ := y
 subst e1
 have hx := hx xs (hS.same s)
 have hyi : ys[i]? = some (ys[i]'(by omega)) := by simp
 refine ht i v _ σ _ zs N hx hyi gd s e hz fun σ' H3 g3 b e3 => hN σ' H3 g3 b ?_
 rw [e3, if_pos rfl, hyi]; rfl
theorem DK {K : PySem.W.Frag} {a : Addr} {xs : List V} (hS : aX K H a xs) (ys : List V) (hy : ys.length = xs.length) (Good : St → Prop) (h0 : Good (cN k d9 σ)) (hl : H l = none) (hlen : xs.length < sizeLine)
  (ht : ∀ (i : Nat) x y σ H1 zs (N : St → Hp → Prop), xs[i]? = some x → ys[i]? = some y → Good σ → aG H H1 → H1 l = some (.lst zs) → zs.length < sizeLine →
   (∀ σ' H3, Good σ' → QS l H1 H3 → H3 l = some (.lst (zs ++ [y])) → N σ' H3) → cM g tt te l x σ H1 N)
  (hd : ∀ H', aG H H' → H' l = some (.lst ys) → Q (.ref l) H') : jJ (DJ K a) g tt te l (cN k d9 σ) (upd H l (.lst [])) Q := by
 refine kM (DJ K a) xs.length (fun _ => true) (fun i => (ys[i]?).getD .aZ) Good h0 hl hlen (fun H' s => ⟨xs, hS.same s, Nat.le_refl _⟩) (fun i H' hi s => ⟨xs, xs[i], hS.same s, by simp [hi]⟩) (fun i v σ H1 H2 zs N hi gd s e hz y hN => ?_) (fun H' s e => hd H' s (by rw [e, j3 hy]))
 obtain ⟨e1, hx⟩ := y
 subst e1
 have hx := hx xs (hS.same s)
 have hyi : ys[i]? = some (ys[i]'(by omega)) := by simp
 refine ht i v _ σ _ zs N hx hyi gd s e hz fun σ' H3 g3 b e3 => hN σ' H3 g3 b ?_
 rw [e3, if_pos rfl, hyi]; rfl
end
end L2
namespace L2
open PySem PySem.Spec PyProof.Rows
noncomputable def CY (A : Around) (s : Shared) (x y : Value) (c : Bool) : Prop :=
 ∀ (prog : Program) (w : World) (E : Value → Shared → Prop) (Q : Value → Shared → Prop), Q (.bool c) s → wpAny (model prog w) A (richCompare .Lt x y) Q E s
inductive yI (A : Around) (s : Shared) (fin : Bool) : List (Value × Value) → Bool → Prop
 | done : yI A s fin [] fin
 | same {p q : Value} {r : List (Value × Value)} {c : Bool} : SeqAt.EqAt A s p q true → yI A s fin r c → yI A s fin ((p, q) :: r) c
 | less {p q : Value} {r : List (Value × Value)} {c : Bool} : SeqAt.EqAt A s p q false → CY A s p q c → yI A s fin ((p, q) :: r) c
section
open PySem.SeqAt
open PySem.AutoSeq1 (wpAny_loadPart')
open PySem.MeetsSeq PySem.MeetsSeq2 PySem.MeetsSeq3
theorem OL (l b : Addr) (us vs : Array Value) (n m : Nat) (d1 d2 : Option Addr) (k1 k2 : Array (Option Value)) (c : Bool) :
  Meets (Builtin.«tuple.__lt__» ⟨[.ref l, .ref b], []⟩) (fun A R s => s.heap.get? l = some ⟨.type "tuple", d1, .seq us n, k1⟩ ∧ s.heap.get? b = some ⟨.type "tuple", d2, .seq vs m, k2⟩ ∧
   yI A.in1 s (decide (us.size < vs.size)) (us.toList.zip vs.toList) c ∧ R (.ok (.ret (.bool c))) s) :=
 .of_wp fun prog w A R s h => by
  obtain ⟨hp, gg, dd, tk, os⟩ := s
  obtain ⟨hl, hb, hx, hr⟩ := h
  have f2 := AutoSeq1.sub_tuple_tuple
  wp_walk using wpAny_loadPart' hl, wpAny_loadPart' hb, wpAny_forIn_list _ (fun rest acc s' => acc.1 = none ∧ s' = ⟨hp, gg, dd, tk, os⟩ ∧ yI A.in1 ⟨hp, gg, dd, tk, os⟩ (decide (us.size < vs.size)) rest c) _
  case turn =>
   rintro ⟨y, x⟩ rest acc s' ⟨ha, rfl, hx'⟩
   cases hx' with
   | same he hrest =>
    refine wpAny_bind (he prog w _ _ ?_)
    wp_walk
    exact ⟨rfl, rfl, hrest⟩
   | less he hlt =>
    refine wpAny_bind (he prog w _ _ ?_)
    have hq := hlt prog w
    wp_walk using hq
    exact ⟨_, rfl, by simpa using hr⟩
  case fin =>
   rintro ⟨b1, b2⟩ s' ⟨ha, rfl, hx'⟩
   simp only at ha
   subst ha
   cases hx'
   wp_walk
   exact ⟨_, rfl, by simpa [Builtin.Tuple.tupleCompareSizes] using hr⟩
  case h => exact ⟨rfl, rfl, hx⟩
end
theorem M7 {A : Around} {s : Shared} {l b : Addr} {us vs : Array Value} {c : Bool} (hl : IsTup s.heap l us) (hb : IsTup s.heap b vs) (hu : A.units < cLine) (hx : yI A.in1 s (decide (us.size < vs.size)) (us.toList.zip vs.toList) c) :
  CY A s (.ref l) (.ref b) c := by
 intro prog w E Q q
 obtain ⟨⟨c1, d1, t1, k1⟩, g1, e1, n, r1⟩ := id hl
 obtain ⟨⟨c2, d2, t2, k2⟩, g2, e2, m, r2⟩ := id hb
 simp only at e1 r1 e2 r2
 subst e1 r1 e2 r2
 exact richCompare_meets_room (op := .Lt) ⟨_, g1, rfl⟩ ⟨_, g2, rfl⟩ PySem.F.slot_tuple_lt PySem.F.entry_tuple_lt (PySem.F.args_tuple_lt_2 _ _) (OL l b us vs n m d1 d2 k1 k2 c) ⟨g1, g2, hx, (fun x => nomatch x), q⟩ hu
noncomputable def JP (K : PySem.W.Frag) (H : Hp) : Nat → V → V → Prop
 | 0, x, y => (∃ i j, x = .str i ∧ y = .str j) ∨ ∃ i j, x = .int i ∧ y = .int j
 | n + 1, x, y => JP K H n x y ∨ ∃ a b xs ys, x = .ref a ∧ y = .ref b ∧ dZ K H a xs ∧ dZ K H b ys ∧ ∀ (i : Nat) u v, xs[i]? = some u → ys[i]? = some v → JP K H n u v
section
variable {X : Cx} {pins : List (Addr × Obj)} {σ : St} {H : Hp} {s : Shared}
end
section
open PySem.W
noncomputable def Al {α : Type} (n : Nat) (P : α → Prop) : KasT α → Prop
 | .ret a => P a
 | .ask i j k => i < n ∧ j < n ∧ ∀ b, Al n P (k b)
theorem Al.bind {α β : Type} {n : Nat} {P : α → Prop} {R : β → Prop} {f : α → KasT β} : ∀ {t : KasT α}, Al n P t → (∀ a, P a → Al n R (f a)) → Al n R (t.bind f)
 | .ret a, h, hf => hf a h
 | .ask _ _ _, h, hf => ⟨h.1, h.2.1, fun b => Al.bind (h.2.2 b) hf⟩
noncomputable def lS (n : Nat) (p : Array Nat) : Prop := p.Perm (List.toArray (List.range n))
theorem lS.lt {n : Nat} {p : Array Nat} (h0 : 0 < n) (h : lS n p) (i : Nat) : p.getD i 0 < n := by
 by_cases hi : i < p.size
 ·have e : p.getD i 0 = p[i] := by simp [Array.getD, hi]
  rw [e]
  have hm : p[i] ∈ p := Array.getElem_mem hi
  have := (h.mem_iff).mp hm
  simpa using this
 ·have e : p.getD i 0 = 0 := by simp [Array.getD, hi]
  omega
theorem lS.rev {n : Nat} {p : Array Nat} (h : lS n p) (i j : Nat) : lS n (kas_rev p i j) := (mirror_perm p i j ((j - i) / 2)).trans h
theorem lS.T4 {n : Nat} {p : Array Nat} (h : lS n p) (i j : Nat) : lS n (bubble p i j) := (bubble_perm p i j).trans h
theorem z9 {n : Nat} {p : Array Nat} (h0 : 0 < n) (h : lS n p) : ∀ f m, Al n (fun _ => True) (kas_asc p f m)
 | 0, m => trivial
 | f + 1, m => ⟨h.lt h0 _, h.lt h0 _, fun b => by
  cases b with
  | true => exact trivial
  | false => exact z9 h0 h f (m + 1)⟩
theorem oY {n : Nat} (h0 : 0 < n) : ∀ f (p : Array Nat) m q, lS n p → Al n (fun r : Array Nat × Nat × Nat => lS n r.1) (kas_desc f p m q)
 | 0, p, m, q, h => h
 | f + 1, p, m, q, h => ⟨h.lt h0 _, h.lt h0 _, fun b => by
  cases b with
  | true =>
   show Al n _ (if q > 0 then _ else _)
   split
   ·exact oY h0 f _ _ _ (h.rev _ _)
   ·exact oY h0 f _ _ _ h
  | false =>
   refine ⟨h.lt h0 _, h.lt h0 _, fun d => ?_⟩
   cases d with
   | true => exact h
   | false => exact oY h0 f _ _ _ h⟩
theorem wX {n : Nat} (h0 : 0 < n) {p : Array Nat} (h : lS n p) (m k : Nat) : Al n (fun r : Nat × Array Nat => lS n r.2) (kas_tail3 m k p) :=
 (z9 h0 (h.rev 0 m) _ _).bind fun _ _ => h.rev 0 m
theorem n9 {n : Nat} (h0 : 0 < n) {p : Array Nat} (h : lS n p) (m k : Nat) : Al n (fun r : Nat × Array Nat => lS n r.2) (kas_descPart m k p) := by
 refine (oY h0 _ _ _ _ h).bind fun r hr => ?_
 split
 ·exact wX h0 (hr.rev _ _) _ _
 ·exact wX h0 hr _ _
theorem GD {n : Nat} (h0 : 0 < n) {p : Array Nat} (h : lS n p) (k : Nat) : Al n (fun r : Nat × Array Nat => lS n r.2) (kas_count k p) := by
 refine (z9 h0 h _ _).bind fun m _ => ?_
 split
 ·exact h
 ·split
  ·refine ⟨h.lt h0 _, h.lt h0 _, fun b => ?_⟩
   cases b with
   | true => exact h
   | false => exact n9 h0 (h.rev _ _) _ _
  ·exact n9 h0 h _ _
theorem pU {n : Nat} (h0 : 0 < n) {p : Array Nat} (h : lS n p) (k : Nat) : ∀ f l r, Al n (fun _ => True) (kas_place p k f l r)
 | 0, _, _ => trivial
 | f + 1, l, r => by
  unfold kas_place
  split
  ·exact trivial
  ·refine ⟨h.lt h0 _, h.lt h0 _, fun b => ?_⟩
   cases b with
   | true => exact pU h0 h k f _ _
   | false => exact pU h0 h k f _ _
theorem IM {n : Nat} (h0 : 0 < n) : ∀ f (p : Array Nat) k, lS n p → Al n (lS n) (kas_bin f p k)
 | 0, _, _, h => h
 | f + 1, p, k, h => (pU h0 h k _ _ _).bind fun l _ => IM h0 f _ _ (h.T4 _ _)
theorem KY {n : Nat} (h0 : 0 < n) : Al n (lS n) (kas_sort n) := by
 refine (GD h0 (show lS n _ from Array.Perm.refl _) n).bind fun r hr => ?_
 split
 ·exact IM h0 _ _ _ hr
 ·exact hr
theorem lS.perm {vs : List Value} {p : Array Nat} (h : lS vs.length p) : (p.toList.map fun i => vs.getD i Value.none).Perm vs := by
 have h1 : p.toList.Perm (List.range vs.length) := by simpa using Array.perm_iff_toList_perm.mp h
 have h2 := h1.map fun i => vs.getD i Value.none
 have e : (List.range vs.length).map (fun i => vs.getD i Value.none) = vs := by
  apply List.ext_getElem
  ·simp
  ·intro i a1 a2
   simp [List.getElem?_eq_getElem a2]
 rw [e] at h2
 exact h2
end
section
open PySem.W
variable {prog : Program} {w : World} {A : Around} {E : Value → Shared → Prop} {s : Shared}
end
section
open PySem.W
variable {X : Cx} {pins : List (Addr × Obj)} {σ : St} {H : Hp} {s : Shared} {k : Nat}
noncomputable def Led (K : PySem.W.Frag) (H : Hp) (F : V → List V) (y : V) : Prop := ∃ a n us, y = .ref a ∧ F y = .str n :: us ∧ dZ K H a (.str n :: us)
noncomputable def o8 (K : PySem.W.Frag) : List V → Hp → VK → Prop := fun xs H Q => ∃ p ys, xs = [.ref p] ∧ aX K H p ys ∧ ys.length < 64 ∧ ∃ F : V → List V, (∀ y ∈ ys, Led K H F y) ∧
 (∀ x ∈ ys, ∀ y ∈ ys, ∀ (i : Nat) u v, (F x)[i]? = some u → (F y)[i]? = some v → JP K H 1 u v) ∧ ∀ l out, out.Perm ys → H l = none → Q (.ref l) (upd H l (.lst out))
noncomputable def KP (K : PySem.W.Frag) : R2 := fun x y H Q => ∃ p ys, y = .ref p ∧ aX K H p ys ∧ (∀ z ∈ ys, JP K H 2 z x) ∧ ∀ b, Q (.bl b) H
end
end L2
namespace HT
open PySem PySem.Spec PyProof.Rows
section
variable {prog : Program} {w : World} {A : Around} {E : Value → Shared → Prop} {s : Shared}
end
end HT
namespace L2
open PySem PySem.Spec PyProof.Rows
section
variable {X : Cx} {e st : Expr} {te ts : TE} {pos p2 : Pos}
theorem mZ {f : Nat → Nat} : ∀ (ms : List Nat) {ys : List V} {us : List Value}, Vals ys us → Vals (ms.filterMap fun m => ys[f m]?) (ms.filterMap fun m => us[f m]?)
 | [], _, _, _ => .nil
 | m :: ms, ys, us, r => by
  rw [List.filterMap_cons, List.filterMap_cons]
  cases ey : ys[f m]? with
  | none =>
   rw [Vals.none_of r ey]
   exact mZ ms r
  | some y =>
   obtain ⟨u, eu, ru⟩ := Vals.get r ey
   rw [eu]
   exact .cons ru (mZ ms r)
noncomputable def A1 (te ts : TE) : TE := fun σ H Q => te σ H fun x H1 => ∃ a xs, x = .ref a ∧ H1 a = some (.tup xs) ∧ ts σ H1 fun k H2 => k = .int (-1) ∧ H2 a = some (.tup xs) ∧ ∀ p zs, H2 p = none → zs.length ≤ xs.length → (∀ z ∈ zs, z ∈ xs) → Q (.ref p) (upd H2 p (.tup zs))
end
end L2
namespace L2
open PySem PySem.Spec PyProof.Rows
theorem GX {P : Program} {w : World} {K : PySem.W.Frag} {mg : Str → Option Value} {base : Heap} {k : Nat} {f : Addr} {fd : FuncData} {ps : List Str} : aT P w K mg base dF k f fd ps (fun _ _ _ _ => False) :=
 ⟨fun _ _ _ _ h => h.elim, fun _ _ _ _ _ _ _ _ _ _ _ _ _ h => h.elim⟩
section
variable {X : Cx}
noncomputable def vS (K : PySem.W.Frag) : List V → Hp → VK → Prop := fun xs H Q => ∃ p ss, xs = [.ref p] ∧ aX K H p (ss.map V.str) ∧ ss.length < 64 ∧ ∀ l out, out.Perm ss → sortedS out = true → H l = none → Q (.ref l) (upd H l (.lst (out.map V.str)))
noncomputable def uH : V → List V → Hp → VK → Prop := fun x vs H Q => ∃ z n f, x = .str z ∧ vs = [.int n, .str f] ∧ PadOk n = true ∧ n ≤ 1000 ∧ f.length = 1 ∧ ∀ t : Str, t.length ≤ z.length + 1000 → Q (.str t) H
end
end L2
namespace L2
open PySem PySem.Spec PyProof.Rows
section
variable {X : Cx} {pins : List (Addr × Obj)} {σ : St} {H : Hp} {s : Shared} {k : Nat}
end
end L2
namespace L2
open PySem PySem.Spec PyProof.Rows
section
open PySem.W
noncomputable def nG {α : Type} (ans : Nat → Nat → Bool) (P : α → Prop) : KasT α → Prop
 | .ret a => P a
 | .ask i j k => nG ans P (k (ans i j))
theorem nG.bind {α β : Type} {ans : Nat → Nat → Bool} {P : α → Prop} {R : β → Prop} {f : α → KasT β} : ∀ {t : KasT α}, nG ans P t → (∀ a, P a → nG ans R (f a)) → nG ans R (t.bind f)
 | .ret a, h, hf => hf a h
 | .ask i j k, h, hf => nG.bind (t := k (ans i j)) h hf
theorem nG.mono {α : Type} {ans : Nat → Nat → Bool} {P R : α → Prop} (hf : ∀ a, P a → R a) : ∀ {t : KasT α}, nG ans P t → nG ans R t
 | .ret a, h => hf a h
 | .ask i j k, h => nG.mono hf (t := k (ans i j)) h
theorem nG.run {α : Type} {n : Nat} {ans : Nat → Nat → Bool} {P R : α → Prop} {cmp : Nat → Nat → (Bool → Shared → Prop) → Shared → Prop} {G : α → Shared → Prop} {s : Shared}
  (hc : ∀ i j (C : Bool → Shared → Prop), i < n → j < n → C (ans i j) s → cmp i j C s) (hg : ∀ a, P a → R a → G a s) : ∀ {t : KasT α}, Al n P t → nG ans R t → t.kasWp cmp G s
 | .ret a, h, h' => hg a h h'
 | .ask i j _, h, h' => hc i j _ h.1 h.2.1 (nG.run hc hg (h.2.2 _) h')
variable (O : KeyOrd) (key : Nat → O.α)
noncomputable def Ky (p : Array Nat) (i : Nat) : O.α := key (p.getD i 0)
noncomputable def jM (p : Array Nat) (k : Nat) : Prop := ∀ i j, i ≤ j → j < k → O.kle (Ky O key p i) (Ky O key p j)
noncomputable def iJ (p : Array Nat) (k : Nat) : Prop := ∀ i j, i ≤ j → j < k → O.kle (Ky O key p j) (Ky O key p i)
noncomputable abbrev BF (i j : Nat) : Bool := O.blt (key i) (key j)
variable {O} {key}
theorem yH {p q : Array Nat} {i j : Nat} (h : p[i]? = q[j]?) : Ky O key p i = Ky O key q j := by
 unfold Ky
 rw [Array.getD_eq_getD_getElem?, Array.getD_eq_getD_getElem?, h]
theorem y9 {p : Array Nat} {i j : Nat} (hj : j ≤ p.size) (k : Nat) : Ky O key (kas_rev p i j) k = if i ≤ k ∧ k < j then Ky O key p (i + j - 1 - k) else Ky O key p k := by
 have e := getElem?_mirror_all (xs := p) (i := i) hj k
 split
 ·rename_i h; rw [if_pos h] at e; exact yH e
 ·rename_i h; rw [if_neg h] at e; exact yH e
theorem gW (p : Array Nat) (i j : Nat) : (kas_rev p i j).size = p.size := mirror_size ..
theorem uJ {p : Array Nat} {i j : Nat} (hj : j ≤ p.size) (he : ∀ k, i ≤ k → k < j → Ky O key p k = Ky O key p (j - 1)) (k : Nat) : Ky O key (kas_rev p i j) k = Ky O key p k := by
 rw [y9 hj]
 split
 ·rename_i h; rw [he _ (by omega) (by omega), he k h.1 h.2]
 ·rfl
theorem jM.more {p : Array Nat} {x : Nat} (h : jM O key p x) (hx : 1 ≤ x) (hl : O.kle (Ky O key p (x - 1)) (Ky O key p x)) : jM O key p (x + 1) := by
 intro i j hij hj
 by_cases h1 : j < x
 ·exact h i j hij h1
 ·have e : j = x := by omega
  subst e
  by_cases h2 : i = j
  ·subst h2; exact KeyOrd.kle_refl _
  ·exact KeyOrd.kle_trans (h i (j - 1) (by omega) (by omega)) hl
theorem iJ.more {p : Array Nat} {x : Nat} (h : iJ O key p x) (hx : 1 ≤ x) (hl : O.kle (Ky O key p x) (Ky O key p (x - 1))) : iJ O key p (x + 1) := by
 intro i j hij hj
 by_cases h1 : j < x
 ·exact h i j hij h1
 ·have e : j = x := by omega
  subst e
  by_cases h2 : i = j
  ·subst h2; exact KeyOrd.kle_refl _
  ·exact KeyOrd.kle_trans hl (h i (j - 1) (by omega) (by omega))
theorem GN {p : Array Nat} : ∀ (f m : Nat), 1 ≤ m → jM O key p m → nG (BF O key) (fun r => m ≤ r ∧ r ≤ m + f ∧ jM O key p r ∧ (r = m + f ∨ O.klt (Ky O key p r) (Ky O key p (r - 1)))) (kas_asc p f m)
 | 0, m, _, h => ⟨Nat.le_refl _, Nat.le_refl _, h, .inl rfl⟩
 | f + 1, m, h1, h => by
  show nG (BF O key) _ (if O.blt (Ky O key p m) (Ky O key p (m - 1)) = true then _ else _)
  cases e : O.blt (Ky O key p m) (Ky O key p (m - 1)) with
  | true =>
   rw [if_pos rfl]
   exact ⟨Nat.le_refl _, by omega, h, .inr e⟩
  | false =>
   rw [if_neg Bool.false_ne_true]
   refine (GN f (m + 1) (by omega) (h.more h1 e)).mono fun r ⟨a, b, c, d⟩ => ⟨by omega, by omega, c, ?_⟩
   rcases d with d | d
   ·exact .inl (by omega)
   ·exact .inr d
noncomputable def O1 (O : KeyOrd) (key : Nat → O.α) (p : Array Nat) (m q : Nat) : Prop := q + 1 ≤ m ∧ ∀ i, m - (q + 1) ≤ i → i < m → Ky O key p i = Ky O key p (m - 1)
theorem O1.none {p : Array Nat} {m : Nat} (h : 1 ≤ m) : O1 O key p m 0 := ⟨by omega, fun i h1 h2 => by rw [show i = m - 1 by omega]⟩
theorem vM : ∀ (f : Nat) (p : Array Nat) (m q : Nat), 1 ≤ m → m + f ≤ p.size → iJ O key p m → O1 O key p m q → nG (BF O key) (fun r : Array Nat × Nat × Nat => r.1.size = p.size ∧ m ≤ r.2.1 ∧ r.2.1 ≤ m + f ∧ iJ O key r.1 r.2.1 ∧ O1 O key r.1 r.2.1 r.2.2) (kas_desc f p m q)
 | 0, p, m, q, _, _, h, he => ⟨rfl, Nat.le_refl _, Nat.le_refl _, h, he⟩
 | f + 1, p, m, q, h1, hz, h, he => by
  show nG (BF O key) _ (if O.blt (Ky O key p m) (Ky O key p (m - 1)) = true then (if q > 0 then kas_desc f (kas_rev p (m - (q + 1)) m) (m + 1) 0 else kas_desc f p (m + 1) 0) else _)
  cases e : O.blt (Ky O key p m) (Ky O key p (m - 1)) with
  | true =>
   rw [if_pos rfl]
   have hd := h.more h1 (KeyOrd.kle_of_klt e)
   split
   ·have ev : ∀ k, Ky O key (kas_rev p (m - (q + 1)) m) k = Ky O key p k := uJ (by omega) he.2
    have hd' : iJ O key (kas_rev p (m - (q + 1)) m) (m + 1) := fun i j a b => by rw [ev, ev]; exact hd i j a b
    refine (vM f _ (m + 1) 0 (by omega) (by rw [gW]; omega) hd' (O1.none (by omega))).mono fun r ⟨a, b, c, d, z⟩ => ⟨by rw [a, gW], by omega, by omega, d, z⟩
   ·exact (vM f p (m + 1) 0 (by omega) (by omega) hd (O1.none (by omega))).mono fun r ⟨a, b, c, d, z⟩ => ⟨a, by omega, by omega, d, z⟩
  | false =>
   rw [if_neg Bool.false_ne_true]
   show nG (BF O key) _ (if O.blt (Ky O key p (m - 1)) (Ky O key p m) = true then _ else _)
   cases e2 : O.blt (Ky O key p (m - 1)) (Ky O key p m) with
   | true =>
    rw [if_pos rfl]
    exact ⟨rfl, Nat.le_refl _, Nat.le_add_right m (f + 1), h, he⟩
   | false =>
    rw [if_neg Bool.false_ne_true]
    have eq : Ky O key p m = Ky O key p (m - 1) := KeyOrd.kle_antisymm e2 e
    refine (vM f p (m + 1) (q + 1) (by omega) (by omega) (h.more h1 (by rw [eq]; exact KeyOrd.kle_refl _)) ⟨by have := he.1; omega, fun i a b => ?_⟩).mono fun r ⟨a, b, c, d, z⟩ => ⟨a, by omega, by omega, d, z⟩
    rw [show m + 1 - 1 = m by omega]
    by_cases hi : i = m
    ·rw [hi]
    ·rw [eq]; exact he.2 i (by omega) (by omega)
theorem B2 {p : Array Nat} {m k : Nat} (h1 : 1 ≤ m) (hk : m ≤ k) (hz : k ≤ p.size) (h : iJ O key p m) : nG (BF O key) (fun r : Nat × Array Nat => 1 ≤ r.1 ∧ r.1 ≤ k ∧ r.2.size = p.size ∧ jM O key r.2 r.1) (kas_tail3 m k p) := by
 have hu : jM O key (kas_rev p 0 m) m := fun i j a b => by
  rw [y9 (by omega), y9 (by omega), if_pos (by omega), if_pos (by omega)]
  exact h _ _ (by omega) (by omega)
 exact (GN (k - m) m h1 hu).bind fun r ⟨a, b, c, _⟩ => ⟨by omega, by omega, gW .., c⟩
theorem rD {p : Array Nat} {m k : Nat} (hk : m + 1 ≤ k) (hz : k ≤ p.size) (h : iJ O key p (m + 1)) : nG (BF O key) (fun r : Nat × Array Nat => 1 ≤ r.1 ∧ r.1 ≤ k ∧ r.2.size = p.size ∧ jM O key r.2 r.1) (kas_descPart m k p) := by
 refine (vM (k - (m + 1)) p (m + 1) 0 (by omega) (by omega) h (O1.none (by omega))).bind fun r ⟨a, b, c, d, z⟩ => ?_
 split
 ·have ev : ∀ i, Ky O key (kas_rev r.1 (r.2.1 - (r.2.2 + 1)) r.2.1) i = Ky O key r.1 i := uJ (by omega) z.2
  refine (B2 (p := kas_rev r.1 (r.2.1 - (r.2.2 + 1)) r.2.1) (by omega) (by omega) (by rw [gW]; omega) fun i j x y => ?_).mono fun r' ⟨x, y, w, v⟩ => ⟨x, y, by rw [w, gW, a], v⟩
  rw [ev, ev]; exact d i j x y
 ·exact (B2 (by omega) (by omega) (by omega) d).mono fun r' ⟨x, y, w, v⟩ => ⟨x, y, by rw [w, a], v⟩
theorem ME {p : Array Nat} {k : Nat} (h1 : 1 ≤ k) (hz : k ≤ p.size) : nG (BF O key) (fun r : Nat × Array Nat => 1 ≤ r.1 ∧ r.1 ≤ k ∧ r.2.size = p.size ∧ jM O key r.2 r.1) (kas_count k p) := by
 have u1 : jM O key p 1 := fun i j a b => by rw [show i = j by omega]; exact KeyOrd.kle_refl _
 refine (GN (k - 1) 1 (Nat.le_refl _) u1).bind fun m ⟨a, b, c, d⟩ => ?_
 by_cases hm : m = k
 ·rw [if_pos (by simpa using hm)]
  exact ⟨a, by omega, rfl, c⟩
 ·rw [if_neg (by simpa using hm)]
  have lt : O.klt (Ky O key p m) (Ky O key p (m - 1)) := d.resolve_left (by omega)
  by_cases h2 : m > 1
  ·rw [if_pos h2]
   show nG (BF O key) _ (if O.blt (Ky O key p 0) (Ky O key p (m - 1)) = true then _ else _)
   cases e : O.blt (Ky O key p 0) (Ky O key p (m - 1)) with
   | true =>
    rw [if_pos rfl]
    exact ⟨a, by omega, rfl, c⟩
   | false =>
    rw [if_neg Bool.false_ne_true]
    have al : ∀ i, 0 ≤ i → i < m → Ky O key p i = Ky O key p (m - 1) := fun i _ hi =>
     KeyOrd.kle_antisymm (c i (m - 1) (by omega) (by omega)) (KeyOrd.kle_trans e (c 0 i (by omega) hi))
    have ev : ∀ i, Ky O key (kas_rev p 0 m) i = Ky O key p i := uJ (by omega) al
    have dm : iJ O key p m := fun i j x y => by rw [al i (by omega) (by omega), al j (by omega) y]; exact KeyOrd.kle_refl _
    have dn := dm.more a (KeyOrd.kle_of_klt lt)
    refine (rD (p := kas_rev p 0 m) (by omega) (by rw [gW]; omega) fun i j x y => ?_).mono fun r' ⟨x, y, w, v⟩ => ⟨x, y, by rw [w, gW], v⟩
    rw [ev, ev]; exact dn i j x y
  ·rw [if_neg h2]
   have e1 : m = 1 := by omega
   subst e1
   have d1 : iJ O key p 1 := fun i j x y => by rw [show i = j by omega]; exact KeyOrd.kle_refl _
   exact rD (by omega) hz (d1.more (Nat.le_refl _) (KeyOrd.kle_of_klt lt))
theorem vW {p : Array Nat} {k : Nat} (h : jM O key p k) : ∀ (f l r : Nat), l ≤ r → r ≤ k → r - l ≤ f → (∀ i, i < l → O.kle (Ky O key p i) (Ky O key p k)) → (∀ i, r ≤ i → i < k → O.klt (Ky O key p k) (Ky O key p i)) →
  nG (BF O key) (fun l => l ≤ k ∧ (∀ i, i < l → O.kle (Ky O key p i) (Ky O key p k)) ∧ ∀ i, l ≤ i → i < k → O.klt (Ky O key p k) (Ky O key p i)) (kas_place p k f l r)
 | 0, l, r, h1, h2, h3, ha, hb => by
  have e : l = r := by omega
  subst e
  exact ⟨h2, ha, hb⟩
 | f + 1, l, r, h1, h2, h3, ha, hb => by
  unfold kas_place
  split
  ·have e : l = r := by omega
   subst e
   exact ⟨h2, ha, hb⟩
  ·show nG (BF O key) _ (if O.blt (Ky O key p k) (Ky O key p ((l + r) / 2)) = true then _ else _)
   cases e : O.blt (Ky O key p k) (Ky O key p ((l + r) / 2)) with
   | true =>
    rw [if_pos rfl]
    exact vW h f l ((l + r) / 2) (by omega) (by omega) (by omega) ha fun i a b => KeyOrd.klt_of_klt_of_kle e (h _ _ a b)
   | false =>
    rw [if_neg Bool.false_ne_true]
    exact vW h f ((l + r) / 2 + 1) r (by omega) h2 (by omega) (fun i a => KeyOrd.kle_trans (h i ((l + r) / 2) (by omega) (by omega)) e) hb
theorem ID {p : Array Nat} {k d : Nat} (hk : k < p.size) (hd : d ≤ k) (i : Nat) : Ky O key (bubble p k d) i = if i = k - d then Ky O key p k else if k - d < i ∧ i ≤ k then Ky O key p (i - 1) else Ky O key p i := by
 have e := getElem?_bubble hk d hd i
 by_cases h1 : i = k - d
 ·rw [if_pos h1] at e ⊢; exact yH e
 ·rw [if_neg h1] at e ⊢
  by_cases h2 : k - d < i ∧ i ≤ k
  ·rw [if_pos h2] at e ⊢; exact yH e
  ·rw [if_neg h2] at e ⊢; exact yH e
theorem MX : ∀ (f : Nat) (p : Array Nat) (k : Nat), k + f ≤ p.size → jM O key p k → nG (BF O key) (fun q => jM O key q (k + f)) (kas_bin f p k)
 | 0, p, k, _, h => h
 | f + 1, p, k, hz, h => by
  refine (vW h k 0 k (by omega) (Nat.le_refl _) (by omega) (fun i hi => by omega) (fun i a b => by omega)).bind fun l ⟨hl, ha, hb⟩ => ?_
  have hu : jM O key (bubble p k (k - l)) (k + 1) := fun i j x y => by
   rw [ID (by omega) (by omega), ID (by omega) (by omega), show k - (k - l) = l by omega]
   by_cases j1 : j = l
   ·rw [if_pos j1]
    by_cases i1 : i = l
    ·rw [if_pos i1]; exact KeyOrd.kle_refl _
    ·rw [if_neg i1, if_neg (show ¬ (l < i ∧ i ≤ k) by omega)]; exact ha i (by omega)
   ·rw [if_neg j1]
    by_cases j2 : l < j
    ·rw [if_pos (show l < j ∧ j ≤ k from ⟨j2, by omega⟩)]
     by_cases i1 : i = l
     ·rw [if_pos i1]; exact KeyOrd.kle_of_klt (hb (j - 1) (by omega) (by omega))
     ·rw [if_neg i1]
      by_cases i2 : l < i
      ·rw [if_pos (show l < i ∧ i ≤ k from ⟨i2, by omega⟩)]; exact h _ _ (by omega) (by omega)
      ·rw [if_neg (show ¬ (l < i ∧ i ≤ k) by omega)]; exact h _ _ (by omega) (by omega)
    ·rw [if_neg (show ¬ (l < j ∧ j ≤ k) by omega), if_neg (show ¬ i = l by omega), if_neg (show ¬ (l < i ∧ i ≤ k) by omega)]; exact h _ _ x (by omega)
  have := MX f (bubble p k (k - l)) (k + 1) (by rw [bubble_size]; omega) hu
  rw [show k + 1 + f = k + (f + 1) by omega] at this
  exact this
theorem NX {n : Nat} (h1 : 1 ≤ n) : nG (BF O key) (fun q => jM O key q n) (kas_sort n) := by
 have hs : (List.toArray (List.range n)).size = n := by simp
 refine (ME h1 (p := List.toArray (List.range n)) (by rw [hs]; exact Nat.le_refl _)).bind fun r ⟨a, b, c, d⟩ => ?_
 rw [hs] at c
 split
 ·have := MX (n - max r.1 1) r.2 (max r.1 1) (by omega) (by rw [show max r.1 1 = r.1 by omega]; exact d)
  rw [show max r.1 1 + (n - max r.1 1) = n by omega] at this
  exact this
 ·have e : r.1 = n := by omega
  rw [e] at d
  exact d
end
end L2
namespace L2
open PySem PySem.Spec PyProof.Rows
section
open PySem.W
variable {prog : Program} {w : World} {A : Around} {E : Value → Shared → Prop} {s : Shared}
theorem EF (vs : List Value) : (List.range vs.length).map (fun i => vs.getD i Value.none) = vs := by
 apply List.ext_getElem
 ·simp
 ·intro i a1 a2
  simp [List.getElem?_eq_getElem a2]
noncomputable def zI (prog : Program) (w : World) (A : Around) (vs : List Value) (R : Array Nat → Prop) (s : Shared) : Prop :=
 ∃ κ : SortKind, (∀ (Q : SortKind → Shared → Prop) (E : Value → Shared → Prop), Q κ s → wpAny (model prog w) A (keyKind' vs.toArray) Q E s) ∧
  ∀ G : Array Nat → Shared → Prop, (∀ p, lS vs.length p → R p → G p s) → (kas_sort vs.length).kasWp (kas_ask prog w A κ vs) G s
theorem C0 {R : Array Nat → Prop} {a : Addr} {vs : List Value} {n : Nat} {P : PySem.Fin → Shared → Prop} (ho : s.heap.get? a = some (seqObj "list" vs.toArray n)) (h64 : vs.length < 64)
  (hk : 2 ≤ vs.length → ∀ h' : Heap, (∀ b o, b ≠ a → s.heap.get? b = some o → h'.get? b = some o) → zI prog w A vs R { s with heap := h' }) (hR : vs.length < 2 → R (List.range vs.length).toArray)
  (h : ∀ (out : Array Value) (p : Array Nat), lS vs.length p → R p → out.toList = p.toList.map (fun i => vs.getD i Value.none) → P (.done (.ret .none)) { s with heap := sortedHeap s.heap a vs out }) : wpAny (model prog w) A (Builtin.«list.sort» ⟨[.ref a], []⟩) P E s := by
 have la : a < s.heap.objs.size := Heap.lt_size ho
 have small : vs.length ≤ sizeLine := by rw [sizeLine_eq]; omega
 obtain ⟨e1, k1⟩ : ∃ e1, (s.heap.update a (Obj.mapSeq fun _ => (#[] : Array Value))).get? a = some (seqObj "list" #[] e1) := ⟨_, get?_update_seq ho fun _ => #[]⟩
 generalize hU : s.heap.update a (Obj.mapSeq fun _ => (#[] : Array Value)) = U at k1
 have zU : U.objs.size = s.heap.objs.size := by rw [← hU]; exact Heap.size_update ..
 have kp : ∀ b o, b ≠ a → s.heap.get? b = some o → ((U.push (seqObj "tuple" vs.toArray 0)).push (seqObj "list" #[] 0)).get? b = some o := fun b o nb gb => by
  refine Heap.get?_push_of_some _ (Heap.get?_push_of_some _ ?_)
  rw [← hU, Heap.get?_update_ne _ _ _ _ nb]; exact gb
 have k2 : ((U.push (seqObj "tuple" vs.toArray 0)).push (seqObj "list" #[] 0)).get? a = some (seqObj "list" #[] e1) := Heap.get?_push_of_some _ (Heap.get?_push_of_some _ k1)
 rw [list_sort_plain]
 refine wpAny_bind (listItems_at ho rfl (wpAny_bind (listUpdate_at ho rfl ?_ (by simpa using small) (Nat.zero_le _))))
 have k1' := k1
 rw [← hU] at k1'
 refine wpAny_bind (seqEpoch_at k1' rfl (wpAny_bind (wpAny_newTuple (wpAny_bind (wpAny_newList (wpAny_holding ?_) (Nat.zero_le _))) (by simpa using small))))
 rw [hU]
 show wpAny (model prog w) A _ P E { s with heap := (U.push (seqObj "tuple" vs.toArray 0)).push (seqObj "list" #[] 0) }
 have fin : ∀ (out : Array Value) (p : Array Nat), lS vs.length p → R p → out.toList = p.toList.map (fun i => vs.getD i Value.none) → P (.done (.ret .none)) { s with heap := ((U.push (seqObj "tuple" vs.toArray 0)).push (seqObj "list" #[] 0)).update a (Obj.mapSeq fun _ => out) } := fun out p h1 h2 h3 => by
  have := h out p h1 h2 h3
  unfold sortedHeap at this
  rw [hU] at this
  exact this
 dsimp only
 by_cases h2 : vs.toArray.size < 2
 ·rw [if_pos h2, if_pos h2]
  refine wpAny_bind (wpAny_pure ?_)
  rw [StateT.run_pure]
  refine wpAny_bind (wpAny_pure ?_)
  dsimp only
  have ev : ((vs.toArray.zip vs.toArray).map fun x => x.2).toList = vs := by simp [List.map_snd_zip]
  refine wpAny_bind (seqEpoch_at k2 rfl (wpAny_bind (listUpdate_at k2 rfl ?_ (Nat.zero_le _) ?_)))
  ·simp only [bne_self_eq_false, Bool.false_eq_true, if_false]
   exact wpAny_pure (fin _ (List.range vs.length).toArray (Array.Perm.refl _) (hR (by rw [List.size_toArray] at h2; exact h2)) (by rw [show (arrOf (SortSt.mk' general' (vs.toArray.zip vs.toArray) #[] 7 none)) = vs.toArray.zip vs.toArray from rfl, ev, List.toList_toArray, EF]))
  ·rw [← Array.length_toList, show (arrOf (SortSt.mk' general' (vs.toArray.zip vs.toArray) #[] 7 none)) = vs.toArray.zip vs.toArray from rfl, ev]; exact Nat.le_succ_of_le small
 ·rw [if_neg h2, if_neg h2]
  have l2 : 2 ≤ vs.length := by rw [List.size_toArray] at h2; omega
  obtain ⟨κ, kd, ak⟩ := hk l2 _ kp
  refine wpAny_bind (kd _ _ ?_)
  refine wpAny_bind (wpAny_mono (kat_run (ks := vs) (vs := vs) (Q := fun st' s' => s' = { s with heap := (U.push (seqObj "tuple" vs.toArray 0)).push (seqObj "list" #[] 0) } ∧ ∃ p : Array Nat, (lS vs.length p ∧ R p) ∧ arrOf st' = p.map (kas_item (vs.toArray.zip vs.toArray)) ∧ failedOf st' = none)
   (G := fun p s' => s' = { s with heap := (U.push (seqObj "tuple" vs.toArray 0)).push (seqObj "list" #[] 0) } ∧ lS vs.length p ∧ R p) rfl l2 h64 (fun p st' s' _ ar fl g => ⟨g.1, p, g.2, ar, fl⟩) (ak _ fun p h1 h2 => ⟨rfl, h1, h2⟩)) ?_ fun _ _ e => e)
  rintro ⟨⟨⟩, st'⟩ s' ⟨rfl, p, ⟨hp, hr⟩, ar, fl⟩
  dsimp only
  have out := kat_snds rfl ar
  have pm := hp.perm
  rw [out]
  refine wpAny_bind (seqEpoch_at k2 rfl (wpAny_bind (listUpdate_at k2 rfl ?_ (Nat.zero_le _) ?_)))
  ·rw [fl]
   simp only [bne_self_eq_false, Bool.false_eq_true, if_false]
   exact wpAny_pure (fin _ p hp hr (by simp))
  ·rw [List.size_toArray, pm.length_eq]; exact Nat.le_succ_of_le small
theorem wH {R : Array Nat → Prop} {l : Addr} {vs : List Value} {Q : Value → Shared → Prop} (hl : s.heap.IsList l vs.toArray) (h64 : vs.length < 64)
  (hk : 2 ≤ vs.length → ∀ h' : Heap, (∀ b o, s.heap.get? b = some o → h'.get? b = some o) → zI prog w A.in1.in1 vs R { s with heap := h' }) (hR : vs.length < 2 → R (List.range vs.length).toArray)
  (h : ∀ (out : Array Value) (p : Array Nat), lS vs.length p → R p → out.toList = p.toList.map (fun i => vs.getD i Value.none) → Q (.ref (s.heap.objs.size + 1)) { s with heap := sortedAll s.heap vs out }) : wpAny (model prog w) A (call (.builtin "sorted") [.ref l]) Q E s := by
 have small : vs.length ≤ sizeLine := by rw [sizeLine_eq]; omega
 refine Calls.call_function_entry kind_sorted plain_sorted entry_sorted (args_sorted1 _) ?_
 unfold Builtin.«sorted»
 refine wpAny_bind (m := checkCount "sorted" 1 1 _) (wpAny_pure (wpAny_bind (collect_list hl (wpAny_bind (wpAny_newList ?_ (by simpa using small))) (by simpa using small))))
 generalize hU : (s.heap.push (seqObj "list" #[] 0)).update s.heap.objs.size (Obj.mapSeq (· ++ vs.toArray)) = U
 have zU : U.objs.size = s.heap.objs.size + 1 := by rw [← hU, Heap.size_update]; exact size_push' ..
 have kU : ∀ b o, s.heap.get? b = some o → U.get? b = some o := fun b o gb => by
  rw [← hU, Heap.get?_update_ne _ _ _ _ (Nat.ne_of_lt (Heap.lt_size gb))]
  exact Heap.get?_push_of_some _ gb
 have at' : (U.push (seqObj "list" vs.toArray 0)).get? (s.heap.objs.size + 1) = some (seqObj "list" vs.toArray 0) := by rw [← zU]; exact Heap.get?_push_size _ rfl
 show wpAny _ _ _ _ _ { s with heap := U.push (seqObj "list" vs.toArray 0) }
 rw [zU]
 refine wpAny_bind (wpAny_holding (wpAny_call_entry slot_list_sort ⟨_, at', rfl⟩ entry_list_sort ?bd (args_list_sort _)))
 case bd =>
  refine C0 at' h64 (fun l2 h' kp => hk l2 h' fun b o gb => kp b o (Nat.ne_of_lt (Nat.lt_succ_of_lt (Heap.lt_size gb))) (Heap.get?_push_of_some _ (kU b o gb))) hR fun out p p1 p2 p3 => ⟨_, rfl, wpAny_pure ⟨_, rfl, ?_⟩⟩
  have := h out p p1 p2 p3
  unfold sortedAll at this
  rw [hU] at this
  exact this
end
end L2
namespace L2
open PySem PySem.Spec PyProof.Rows
section
open PySem.W
variable {X : Cx} {pins : List (Addr × Obj)} {σ : St} {H : Hp} {s : Shared} {k : Nat}
theorem pS {ys : List V} {vs : List Value} (r : Vals ys vs) : ∀ ps : List Nat, (∀ i ∈ ps, i < vs.length) → Vals (ps.map fun i => ys.getD i .aZ) (ps.map fun i => vs.getD i Value.none)
 | [], _ => .nil
 | i :: ps, h => by
  have hlen := r.length
  have hi := h i List.mem_cons_self
  obtain ⟨x, hx, rx⟩ := r.get' (show vs[i]? = some vs[i] by simp)
  refine .cons ?_ (pS r ps fun j hj => h j (List.mem_cons_of_mem _ hj))
  dsimp only
  rw [List.getD_eq_getElem?_getD, hx, List.getD_eq_getElem?_getD, List.getElem?_eq_getElem hi]
  exact rx
end
end L2
namespace L2
open PySem PySem.Spec PyProof.Rows
noncomputable def AR : KeyOrd where
 α := Int
 blt a b := decide (a < b)
 irrefl a := decide_eq_false (by omega)
 trans a b c h1 h2 := decide_eq_true (by have := of_decide_eq_true h1; have := of_decide_eq_true h2; omega)
 negTrans a b c h := by
  have h := of_decide_eq_true h
  by_cases g : a < b
  ·exact .inl (decide_eq_true g)
  ·exact .inr (decide_eq_true (by omega))
 total a b h1 h2 := by have := of_decide_eq_false h1; have := of_decide_eq_false h2; omega
theorem CS {A : KeyOrd} {a b : A.α} (h : A.blt a b = true) : A.blt b a = false := KeyOrd.klt_asymm (O := A) h
theorem fF {A : KeyOrd} (a b : A.α) : (A.blt a b = true ∧ A.blt b a = false) ∨ (A.blt b a = true ∧ A.blt a b = false) ∨ (a = b) := by
 cases h1 : A.blt a b with
 | true => exact .inl ⟨rfl, CS h1⟩
 | false =>
  cases h2 : A.blt b a with
  | true => exact .inr (.inl ⟨rfl, rfl⟩)
  | false => exact .inr (.inr (A.total a b h1 h2))
noncomputable def gC (A : KeyOrd) (a b : A.α) (r : Bool) : Bool := A.blt a b || (!A.blt b a && r)
theorem eN {A : KeyOrd} {a b : A.α} {r : Bool} (h : A.blt a b = true) : gC A a b r = true := by unfold gC; rw [h]; rfl
theorem iM {A : KeyOrd} {a b : A.α} {r : Bool} (h : A.blt b a = true) : gC A a b r = false := by unfold gC; rw [h, CS h]; rfl
theorem gD {A : KeyOrd} {a : A.α} {r : Bool} : gC A a a r = r := by unfold gC; rw [A.irrefl]; rfl
theorem x6 {A : KeyOrd} {a b c : A.α} {r r' r'' : Bool} (hr : r = true → r' = true → r'' = true) (h1 : gC A a b r = true) (h2 : gC A b c r' = true) : gC A a c r'' = true := by
 rcases fF (A := A) a b with ⟨x, _⟩ | ⟨x, _⟩ | x
 ·rcases fF (A := A) b c with ⟨y, _⟩ | ⟨y, _⟩ | y
  ·exact eN (A.trans _ _ _ x y)
  ·rw [iM y] at h2; cases h2
  ·rw [← y]; exact eN x
 ·rw [iM x] at h1; cases h1
 ·subst x
  rw [gD] at h1
  rcases fF (A := A) a c with ⟨y, _⟩ | ⟨y, _⟩ | y
  ·exact eN y
  ·rw [iM y] at h2; cases h2
  ·subst y
   rw [gD] at h2 ⊢
   exact hr h1 h2
theorem D8 {A : KeyOrd} {a b c : A.α} {r r' r'' : Bool} (hr : r'' = true → r = true ∨ r' = true) (h : gC A a c r'' = true) : gC A a b r = true ∨ gC A b c r' = true := by
 rcases fF (A := A) a b with ⟨x, _⟩ | ⟨x, _⟩ | x
 ·exact .inl (eN x)
 ·right
  rcases fF (A := A) a c with ⟨y, _⟩ | ⟨y, _⟩ | y
  ·exact eN (A.trans _ _ _ x y)
  ·rw [iM y] at h; cases h
  ·rw [← y]; exact eN x
 ·subst x
  rcases fF (A := A) a c with ⟨y, _⟩ | ⟨y, _⟩ | y
  ·exact .inr (eN y)
  ·rw [iM y] at h; cases h
  ·subst y
   rw [gD] at h ⊢
   rw [gD]
   exact hr h
theorem xG {A : KeyOrd} {a b : A.α} {r r' : Bool} (h1 : gC A a b r = false) (h2 : gC A b a r' = false) : a = b ∧ r = false ∧ r' = false := by
 rcases fF (A := A) a b with ⟨x, _⟩ | ⟨x, _⟩ | x
 ·rw [eN x] at h1; cases h1
 ·rw [eN x] at h2; cases h2
 ·subst x
  rw [gD] at h1 h2
  exact ⟨rfl, h1, h2⟩
noncomputable def iL (A : KeyOrd) : List A.α → List A.α → Bool
 | [], [] => false
 | [], _ :: _ => true
 | _ :: _, [] => false
 | x :: xs, y :: ys => gC A x y (iL A xs ys)
theorem tR {A : KeyOrd} : ∀ xs : List A.α, iL A xs xs = false
 | [] => rfl
 | x :: xs => by unfold iL; rw [gD]; exact tR xs
theorem oK {A : KeyOrd} : ∀ xs ys zs : List A.α, iL A xs ys = true → iL A ys zs = true → iL A xs zs = true
 | [], [], _, h, _ => by cases h
 | [], _ :: _, [], _, h => by cases h
 | [], _ :: _, _ :: _, _, _ => rfl
 | _ :: _, [], _, h, _ => by cases h
 | _ :: _, _ :: _, [], _, h => by cases h
 | x :: xs, y :: ys, z :: zs, h1, h2 => x6 (oK xs ys zs) h1 h2
theorem tP {A : KeyOrd} : ∀ xs ys zs : List A.α, iL A xs zs = true → iL A xs ys = true ∨ iL A ys zs = true
 | [], [], zs, h => .inr h
 | [], _ :: _, _, _ => .inl rfl
 | _ :: _, _, [], h => by cases h
 | _ :: _, [], _ :: _, _ => .inr rfl
 | x :: xs, y :: ys, z :: zs, h => D8 (tP xs ys zs) h
theorem nX {A : KeyOrd} : ∀ xs ys : List A.α, iL A xs ys = false → iL A ys xs = false → xs = ys
 | [], [], _, _ => rfl
 | [], _ :: _, h, _ => by cases h
 | _ :: _, [], _, h => by cases h
 | x :: xs, y :: ys, h1, h2 => by
  obtain ⟨a, b, c⟩ := xG h1 h2
  rw [a, nX xs ys b c]
noncomputable def QP (A : KeyOrd) : KeyOrd := ⟨List A.α, iL A, tR, oK, tP, nX⟩
end L2
namespace L2
open PySem PySem.Spec PyProof.Rows
theorem A7 {a b : Str} (h : a.cps.toList = b.cps.toList) : a = b := by
 cases a with
 | mk x =>
  cases b with
  | mk y => congr 1; exact Array.toList_inj.mp h
section
variable {X : Cx} {pins : List (Addr × Obj)} {σ : St} {H : Hp} {s : Shared} {k : Nat}
end
end L2
namespace Mr
open PySem L2
inductive PV where
 | aZ | bl (b : Bool) | int (i : Int) | str (x : Str) | ty (n : String)
 | tup (xs : List PV) | lst (xs : List PV) | j4 (kvs : List (Key × PV))
noncomputable abbrev dY := Addr → Prop
noncomputable def JL (A B : dY) : dY := fun a => A a ∨ B a
noncomputable def one (l : Addr) : dY := fun a => a = l
noncomputable def DQ : dY := fun _ => False
structure WS where
 w : Nat → dY
 old : dY
instance : CoeFun WS (fun _ => Nat → dY) := ⟨WS.w⟩
noncomputable def aw (W : WS) : dY := fun a => ∃ i, W i a
noncomputable def TupAt (K : PySem.W.Frag) (H : Hp) (a : Addr) (xs : List V) : Prop := H a = some (.tup xs) ∨
  ∃ (o : Obj) (its : Array Value) (n : Nat), K.lookup a = some o ∧ o.cls = .type "tuple" ∧ o.dict = none ∧ o.data = .seq its n ∧ its.size ≤ sizeLine ∧ Vals xs its.toList
noncomputable def RC (K : PySem.W.Frag) (a : Addr) (xs : List V) : Prop :=
  ∃ (o : Obj) (its : Array Value) (n : Nat), K.lookup a = some o ∧ o.cls = .type "list" ∧ o.dict = none ∧ o.data = .seq its n ∧ its.size ≤ sizeLine ∧ Vals xs its.toList
theorem TupAt.sq {K : PySem.W.Frag} {H : Hp} {a : Addr} {xs : List V} (h : TupAt K H a xs) : dZ K H a xs := h.elim dZ.of fun ⟨o, its, n, a, b, _, c⟩ => .inr ⟨o, its, n, a, b, c⟩
mutual
inductive Rep (K : PySem.W.Frag) (Z : dY) (H : Hp) : PV → V → Prop
 | aZ : Rep K Z H .aZ .aZ
 | bl (b : Bool) : Rep K Z H (.bl b) (.bl b)
 | int (i : Int) : Rep K Z H (.int i) (.int i)
 | str (x : Str) : Rep K Z H (.str x) (.str x)
 | ty (n : String) : Rep K Z H (.ty n) (.ty n)
 | tup {a : Addr} {xs : List V} {ps : List PV} : TupAt K H a xs → eO K Z H ps xs → Rep K Z H (.tup ps) (.ref a)
 | lst {a : Addr} {xs : List V} {ps : List PV} : Rd H a (.lst xs) → ¬ Z a → eO K Z H ps xs → Rep K Z H (.lst ps) (.ref a)
 | j4 {a : Addr} {ep : Nat} {ys : List (Key × V)} {kvs : List (Key × PV)} : Rd H a (.dK ys ep) → ¬ Z a → ys.map (·.1) = kvs.map (·.1) → eO K Z H (kvs.map (·.2)) (ys.map (·.2)) → Rep K Z H (.j4 kvs) (.ref a)
inductive eO (K : PySem.W.Frag) (Z : dY) (H : Hp) : List PV → List V → Prop
 | nil : eO K Z H [] []
 | cons {p : PV} {v : V} {ps : List PV} {vs : List V} : Rep K Z H p v → eO K Z H ps vs → eO K Z H (p :: ps) (v :: vs)
end
structure LP (Z Z' : dY) (H H' : Hp) : Prop where
 tup : ∀ a xs, H a = some (.tup xs) → H' a = some (.tup xs)
 obj : ∀ a o, H a = some o → ¬ Z a → H' a = some o ∧ ¬ Z' a
theorem LP.rd {Z Z' : dY} {H H' : Hp} (k : LP Z Z' H H') {a : Addr} {o : HO} (h : Rd H a o) (n : ¬ Z a) : Rd H' a o ∧ ¬ Z' a := by
 rcases h with h | ⟨u, h⟩
 ·exact ⟨.inl (k.obj _ _ h n).1, (k.obj _ _ h n).2⟩
 ·exact ⟨.inr ⟨u, (k.obj _ _ h n).1⟩, (k.obj _ _ h n).2⟩
mutual
theorem Rep.i7 {K : PySem.W.Frag} {Z Z' : dY} {H H' : Hp} (k : LP Z Z' H H') : ∀ {p : PV} {v : V}, Rep K Z H p v → Rep K Z' H' p v
 | _, _, .aZ => .aZ
 | _, _, .bl b => .bl b
 | _, _, .int b => .int b
 | _, _, .str b => .str b
 | _, _, .ty b => .ty b
 | _, _, .tup h r => .tup (h.elim (fun h => .inl (k.tup _ _ h)) .inr) (eO.i7 k r)
 | _, _, .lst h n r => .lst (k.rd h n).1 (k.rd h n).2 (eO.i7 k r)
 | _, _, .j4 h n e r => .j4 (k.rd h n).1 (k.rd h n).2 e (eO.i7 k r)
theorem eO.i7 {K : PySem.W.Frag} {Z Z' : dY} {H H' : Hp} (k : LP Z Z' H H') : ∀ {p : List PV} {v : List V}, eO K Z H p v → eO K Z' H' p v
 | _, _, .nil => .nil
 | _, _, .cons h r => .cons (Rep.i7 k h) (eO.i7 k r)
end
theorem eO.length {K : PySem.W.Frag} {Z : dY} {H : Hp} : ∀ {ps : List PV} {vs : List V}, eO K Z H ps vs → ps.length = vs.length
 | _, _, .nil => rfl
 | _, _, .cons _ r => by rw [List.length_cons, List.length_cons, eO.length r]
noncomputable def LstAt (K : PySem.W.Frag) (H : Hp) (a : Addr) (xs : List V) : Prop := Rd H a (.lst xs) ∨ RC K a xs
theorem LstAt.sq {K : PySem.W.Frag} {H : Hp} {a : Addr} {xs : List V} (h : LstAt K H a xs) : aX K H a xs := h
inductive Red (K : PySem.W.Frag) (Z : dY) (H : Hp) : PV → V → Prop
 | rep {p : PV} {v : V} : Rep K Z H p v → Red K Z H p v
 | lst {a : Addr} {xs : List V} {ps : List PV} : LstAt K H a xs → eO K Z H ps xs → Red K Z H (.lst ps) (.ref a)
 | j4 {a : Addr} {ep : Nat} {ys : List (Key × V)} {kvs : List (Key × PV)} : Rd H a (.dK ys ep) → ys.map (·.1) = kvs.map (·.1) → eO K Z H (kvs.map (·.2)) (ys.map (·.2)) → Red K Z H (.j4 kvs) (.ref a)
section
variable {K : PySem.W.Frag} {Z : dY} {H : Hp} {v : V}
theorem Red.bl {i : Bool} (h : Red K Z H (.bl i) v) : v = .bl i := by cases h with | rep h => cases h; rfl
theorem Red.aZ (h : Red K Z H .aZ v) : v = .aZ := by cases h with | rep h => cases h; rfl
end
inductive Sl where
 | val (p : PV) | own (p : PV) | loc (p : PV) | bor (p : PV)
noncomputable def Sl.pv : Sl → PV
 | .val p => p | .own p => p | .loc p => p | .bor p => p
noncomputable def Sl.OQ : Sl → Bool
 | .own _ => true | .loc _ => true | _ => false
noncomputable abbrev En := List (Option Sl)
inductive GO (K : PySem.W.Frag) (Z : dY) (H : Hp) (a : Addr) : PV → Prop
 | lst {xs : List V} {ps : List PV} : H a = some (.lst xs) → eO K Z H ps xs → GO K Z H a (.lst ps)
 | j4 {ep : Nat} {ys : List (Key × V)} {kvs : List (Key × PV)} : H a = some (.dK ys ep) → ys.map (·.1) = kvs.map (·.1) → eO K Z H (kvs.map (·.2)) (ys.map (·.2)) → GO K Z H a (.j4 kvs)
inductive LJ (K : PySem.W.Frag) (Z : dY) (W : WS) (L : dY) (H : Hp) (a : Addr) : PV → Prop
 | lst {xs : List V} {ps : List PV} : Rd H a (.lst xs) → W.old a → ¬ aw W a → ¬ L a → eO K Z H ps xs → LJ K Z W L H a (.lst ps)
 | TX {xs : List V} {ps : List PV} : RC K a xs → eO K Z H ps xs → LJ K Z W L H a (.lst ps)
 | j4 {ep : Nat} {ys : List (Key × V)} {kvs : List (Key × PV)} : Rd H a (.dK ys ep) → W.old a → ¬ aw W a → ¬ L a → ys.map (·.1) = kvs.map (·.1) → eO K Z H (kvs.map (·.2)) (ys.map (·.2)) → LJ K Z W L H a (.j4 kvs)
noncomputable def QU (K : PySem.W.Frag) (Z : dY) (W : WS) (L : dY) (H : Hp) (i : Nat) (v : V) : Sl → Prop
 | .val p => Rep K Z H p v
 | .own p => ∃ a, v = .ref a ∧ W i a ∧ GO K Z H a p
 | .loc p => ∃ a, v = .ref a ∧ L a ∧ GO K Z H a p
 | .bor p => ∃ a, v = .ref a ∧ LJ K Z W L H a p
structure tH (K : PySem.W.Frag) (Z : dY) (W : WS) (L : dY) (H : Hp) (σ : St) (e : En) : Prop where
 len : e.length = σ.length
 at' : ∀ (i : Nat) s, e[i]? = some (some s) → ∃ v, σ[i]? = some (some v) ∧ QU K Z W L H i v s
 T7 : ∀ (i j : Nat) s t, i ≠ j → e[i]? = some (some s) → e[j]? = some (some t) → s.OQ = true → t.OQ = true → σ[i]? ≠ σ[j]?
structure TJ (O M : dY) (W : WS) (L : dY) (H : Hp) : Prop where
 old : ∀ a, O a → H a ≠ none
 mo : ∀ a, M a → O a
 wm : ∀ i a, W i a → M a
 loc : ∀ a, L a → H a ≠ none ∧ ¬ O a
noncomputable def SR (σ : St) (e : En) (a : Addr) : Prop := ∀ (i : Nat) s, e[i]? = some (some s) → s.OQ = true → σ[i]? ≠ some (some (.ref a))
inductive Bv where
 | val (p : PV) | slot (i : Nat) | new (p : PV)
noncomputable def rd (e : En) (i : Nat) : Option PV := match e[i]? with
 | some (some s) => some s.pv
 | _ => none
noncomputable def Bv.get (e : En) : Bv → Option PV
 | .val p => some p
 | .new p => some p
 | .slot i => rd e i
noncomputable def Bv.weak : Bv → Bv
 | .new p => .val p
 | b => b
noncomputable def RB (K : PySem.W.Frag) (O M : dY) (W : WS) (L : dY) (H : Hp) (σ : St) (e : En) (v : V) : Bv → Prop
 | .val p => tH K (JL M L) W L H σ e ∧ Rep K (JL M L) H p v
 | .slot i => tH K (JL M L) W L H σ e ∧ σ[i]? = some (some v)
 | .new p => ∃ a, v = .ref a ∧ ¬ O a ∧ ¬ L a ∧ tH K (JL M (JL L (one a))) W (JL L (one a)) H σ e ∧ SR σ e a ∧ GO K (JL M (JL L (one a))) H a p
noncomputable def RV (K : PySem.W.Frag) (Z : dY) (H : Hp) (σ : St) (v : V) : Bv → Prop
 | .val p => Rep K Z H p v
 | .slot i => σ[i]? = some (some v)
 | .new _ => False
noncomputable abbrev FE := En → Option (Bv × En)
noncomputable def Fr (H : Hp) (v : V) : Bv → Prop
 | .new _ => ∀ a, v = .ref a → H a = none
 | _ => True
end Mr
namespace Mr
open PySem L2
section
variable {K : PySem.W.Frag}
end
end Mr
namespace Mr
open PySem L2
section
variable {K : PySem.W.Frag}
end
end Mr
namespace Mr
open PySem L2
section
variable {K : PySem.W.Frag} {Z : dY} {H : Hp}
end
section
variable {K : PySem.W.Frag}
end
end Mr
namespace Mr
open PySem L2
section
variable {K : PySem.W.Frag}
section
variable {O M L : dY} {W : WS} {σ : St} {H1 : Hp} {e1 : En} {l : Addr} {ms : List (Nat × Nat)} {k : Nat} {d9 : List Nat} {ob0 : HO}
end
end
end Mr
namespace Mr
open PySem L2
inductive Kd where
 | v | b | m
 deriving DecidableEq
noncomputable def SX : Kd → PV → Sl
 | .v, p => .val p
 | .m, p => .own p
 | .b, .lst ps => .bor (.lst ps)
 | .b, .j4 ps => .bor (.j4 ps)
 | .b, p => .val p
noncomputable def IE : List Kd → List PV → En
 | k :: ks, p :: ps => some (SX k p) :: IE ks ps
 | _, _ => []
section
variable {K : PySem.W.Frag}
end
end Mr
namespace Mr
open PySem PySem.Spec L2 PyProof.Rows
mutual
inductive Lies (h : Heap) : PV → Value → Prop
 | aZ : Lies h .aZ .none
 | bl (b : Bool) : Lies h (.bl b) (.bool b)
 | int (i : Int) (t : Tok) : Lies h (.int i) (.int i t)
 | str (x : Str) (t : Tok) : Lies h (.str x) (.str x t)
 | tup {a : Addr} {its : List Value} {ps : List PV} : IsTup h a its.toArray → bP h ps its → Lies h (.tup ps) (.ref a)
 | lst {a : Addr} {its : List Value} {ps : List PV} : h.IsList a its.toArray → bP h ps its → Lies h (.lst ps) (.ref a)
inductive bP (h : Heap) : List PV → List Value → Prop
 | nil : bP h [] []
 | cons {p : PV} {v : Value} {ps : List PV} {vs : List Value} : Lies h p v → bP h ps vs → bP h (p :: ps) (v :: vs)
end
noncomputable def mU : Nat → PV → Bool
 | _, .aZ => true
 | _, .bl _ => true
 | _, .int _ => true
 | _, .str _ => true
 | n + 1, .tup ps => ps.all (mU n)
 | n + 1, .lst ps => ps.all (mU n)
 | _, _ => false
section
variable {X : Cx} {pins : List (Addr × Obj)} {σ : L2.St} {H : Hp} {s : Shared}
theorem Rep.lies {Z : dY} (I : Inv X pins σ H s) : ∀ {n : Nat} {p : PV} {x : V} {v : Value}, mU n p = true → Rep X.K Z H p x → RelV x v → Lies s.heap p v
 | n, .aZ, x, v, ok, h, r => by cases h; cases r; exact .aZ
 | n, .bl b, x, v, ok, h, r => by cases h; cases r; exact .bl b
 | n, .int b, x, v, ok, h, r => by cases h; obtain ⟨t, rfl⟩ := r; exact .int b t
 | n, .str b, x, v, ok, h, r => by cases h; obtain ⟨t, rfl⟩ := r; exact .str b t
 | n, .ty b, x, v, ok, h, r => by cases n <;> cases ok
 | n, .j4 b, x, v, ok, h, r => by cases n <;> cases ok
 | 0, .tup ps, x, v, ok, h, r => by cases ok
 | 0, .lst ps, x, v, ok, h, r => by cases ok
 | n + 1, .tup ps, x, v, ok, h, r => by
  cases h with
  | tup h rl =>
   cases r
   obtain ⟨its, rv, pl, _⟩ := I.tuple h.sq
   have key : ∀ (ps : List PV) (xs : List V) (its : List Value), ps.all (mU n) = true → eO X.K Z H ps xs → Vals xs its → bP s.heap ps its := fun ps => by
    induction ps with
    | nil => intro xs its _ h1 h2; cases h1; cases h2; exact .nil
    | cons p ps ih =>
     intro xs its ha h1 h2
     rw [List.all_cons, Bool.and_eq_true] at ha
     cases h1 with
     | cons h1 r1 =>
      cases h2 with
      | cons h2 r2 => exact .cons (Rep.lies I (n := n) ha.1 h1 h2) (ih _ _ ha.2 r1 r2)
   exact .tup pl (key ps _ its ok rl rv)
 | n + 1, .lst ps, x, v, ok, h, r => by
  cases h with
  | lst h nz rl =>
   cases r
   obtain ⟨its, rv, pl, _⟩ := I.list (show aX X.K H _ _ from .inl h)
   have key : ∀ (ps : List PV) (xs : List V) (its : List Value), ps.all (mU n) = true → eO X.K Z H ps xs → Vals xs its → bP s.heap ps its := fun ps => by
    induction ps with
    | nil => intro xs its _ h1 h2; cases h1; cases h2; exact .nil
    | cons p ps ih =>
     intro xs its ha h1 h2
     rw [List.all_cons, Bool.and_eq_true] at ha
     cases h1 with
     | cons h1 r1 =>
      cases h2 with
      | cons h2 r2 => exact .cons (Rep.lies I (n := n) ha.1 h1 h2) (ih _ _ ha.2 r1 r2)
   exact .lst pl.isList (key ps _ its ok rl rv)
theorem eO.lies {Z : dY} (I : Inv X pins σ H s) {n : Nat} : ∀ {ps : List PV} {xs : List V} {its : List Value}, ps.all (mU n) = true → eO X.K Z H ps xs → Vals xs its → bP s.heap ps its
 | [], _, _, _, h1, h2 => by cases h1; cases h2; exact .nil
 | p :: ps, _, _, ha, h1, h2 => by
  rw [List.all_cons, Bool.and_eq_true] at ha
  cases h1 with
  | cons h1 r1 =>
   cases h2 with
   | cons h2 r2 => exact .cons (Rep.lies I (n := n) ha.1 h1 h2) (eO.lies I ha.2 r1 r2)
theorem Red.lies {Z : dY} (I : Inv X pins σ H s) {n : Nat} {p : PV} {x : V} {v : Value} (ok : mU n p = true) (h : Red X.K Z H p x) (r : RelV x v) : Lies s.heap p v := by
 cases h with
 | rep h => exact h.lies I ok r
 | lst h rl =>
  cases r
  cases n with
  | zero => cases ok
  | succ n =>
   obtain ⟨its, rv, pl, _⟩ := I.list h.sq
   exact .lst pl.isList (eO.lies I (n := n) ok rl rv)
 | j4 h e r => cases n <;> cases ok
end
mutual
noncomputable def dP : PV → PV → Bool
 | .aZ, .aZ => true
 | .bl a, .bl b => a == b
 | .bl a, .int b => (if a then 1 else 0) == b
 | .int a, .bl b => a == (if b then 1 else 0)
 | .int a, .int b => a == b
 | .str a, .str b => a == b
 | .tup xs, .tup ys => eM xs ys
 | .lst xs, .lst ys => eM xs ys
 | _, _ => false
noncomputable def eM : List PV → List PV → Bool
 | [], [] => true
 | x :: xs, y :: ys => dP x y && eM xs ys
 | _, _ => false
end
theorem mC {xs ys : List PV} : dP (.tup xs) (.tup ys) = eM xs ys := by rw [dP]
theorem A6 {xs ys : List PV} : dP (.lst xs) (.lst ys) = eM xs ys := by rw [dP]
theorem bP.length {h : Heap} : ∀ {ps : List PV} {vs : List Value}, bP h ps vs → ps.length = vs.length
 | _, _, .nil => rfl
 | _, _, .cons _ r => by rw [List.length_cons, List.length_cons, bP.length r]
theorem bP.get {h : Heap} : ∀ {ps : List PV} {vs : List Value} {i : Nat} {v : Value}, bP h ps vs → vs[i]? = some v → ∃ p, ps[i]? = some p ∧ Lies h p v
 | _, _, _, _, .nil, e => by simp at e
 | _, _, 0, _, .cons q _, e => by simp at e; subst e; exact ⟨_, rfl, q⟩
 | _, _, i + 1, _, .cons _ r, e => by
  obtain ⟨v, h1, h2⟩ := bP.get (i := i) r (by simpa using e)
  exact ⟨v, by simpa using h1, h2⟩
theorem A3 {h : Heap} {a : Addr} {xs ys : Array Value} (h1 : IsTup h a xs) (h2 : IsTup h a ys) : xs = ys := by
 obtain ⟨o, g, _, n, d⟩ := h1
 obtain ⟨o', g', _, n', d'⟩ := h2
 rw [g] at g'
 cases g'
 rw [d] at d'
 injection d'
theorem BY {h : Heap} {a : Addr} {xs ys : Array Value} (h1 : h.IsList a xs) (h2 : h.IsList a ys) : xs = ys := by
 obtain ⟨o, g, _, n, d⟩ := h1
 obtain ⟨o', g', _, n', d'⟩ := h2
 rw [g] at g'
 cases g'
 rw [d] at d'
 injection d'
theorem pB {h : Heap} {a : Addr} {xs ys : Array Value} (h1 : IsTup h a xs) (h2 : h.IsList a ys) : False := by
 obtain ⟨o, g, c, n, d⟩ := h1
 obtain ⟨o', g', c', n', d'⟩ := h2
 rw [g] at g'
 cases g'
 rw [c] at c'
 exact absurd c' (by decide)
mutual
theorem Lies.same {h : Heap} : ∀ {p : PV} {v : Value}, Lies h p v → ∀ {q : PV}, Lies h q v → dP p q = true
 | _, _, .aZ, q, k => by cases k; rfl
 | _, _, .bl b, q, k => by cases k; exact beq_self_eq_true b
 | _, _, .int i t, q, k => by cases k; exact beq_self_eq_true i
 | _, _, .str i t, q, k => by cases k; exact beq_self_eq_true i
 | _, _, .tup ht r, q, k => by
  cases k with
  | tup ht' r' =>
   have e : _ = _ := A3 ht ht'
   have e := congrArg Array.toList e
   simp only [List.toList_toArray] at e
   subst e
   unfold dP
   exact bP.same r r'
  | lst hl r' => exact (pB ht hl).elim
 | _, _, .lst ht r, q, k => by
  cases k with
  | tup ht' r' => exact (pB ht' ht).elim
  | lst hl r' =>
   have e := congrArg Array.toList (BY ht hl)
   simp only [List.toList_toArray] at e
   subst e
   unfold dP
   exact bP.same r r'
theorem bP.same {h : Heap} : ∀ {p : List PV} {v : List Value}, bP h p v → ∀ {q : List PV}, bP h q v → eM p q = true
 | _, _, .nil, q, k => by cases k; rfl
 | _, _, .cons h1 r1, q, k => by
  cases k with
  | cons h2 r2 => unfold eM; rw [Lies.same h1 h2, bP.same r1 r2]; rfl
end
mutual
theorem Lies.fn {h : Heap} : ∀ {p : PV} {v : Value}, Lies h p v → ∀ {q : PV}, Lies h q v → p = q
 | _, _, .aZ, q, k => by cases k; rfl
 | _, _, .bl b, q, k => by cases k; rfl
 | _, _, .int i t, q, k => by cases k; rfl
 | _, _, .str i t, q, k => by cases k; rfl
 | _, _, .tup ht r, q, k => by
  cases k with
  | tup ht' r' =>
   have e := congrArg Array.toList (A3 ht ht')
   simp only [List.toList_toArray] at e
   subst e
   rw [bP.fn r r']
  | lst hl r' => exact (pB ht hl).elim
 | _, _, .lst ht r, q, k => by
  cases k with
  | tup ht' r' => exact (pB ht' ht).elim
  | lst hl r' =>
   have e := congrArg Array.toList (BY ht hl)
   simp only [List.toList_toArray] at e
   subst e
   rw [bP.fn r r']
theorem bP.fn {h : Heap} : ∀ {p : List PV} {v : List Value}, bP h p v → ∀ {q : List PV}, bP h q v → p = q
 | _, _, .nil, q, k => by cases k; rfl
 | _, _, .cons h1 r1, q, k => by
  cases k with
  | cons h2 r2 => rw [Lies.fn h1 h2, bP.fn r1 r2]
end
theorem i9 : ∀ {ps qs : List PV}, ((List.range (min ps.length qs.length)).all (fun j => dP (ps.getD j .aZ) (qs.getD j .aZ)) && ps.length == qs.length) = eM ps qs
 | [], [] => rfl
 | [], _ :: _ => by unfold eM; simp
 | _ :: _, [] => by unfold eM; simp
 | p :: ps, q :: qs => by
  have ih := i9 (ps := ps) (qs := qs)
  unfold eM
  rw [← ih]
  have e : min (p :: ps).length (q :: qs).length = min ps.length qs.length + 1 := by simp only [List.length_cons]; omega
  rw [e, List.range_succ_eq_map, List.all_cons, List.all_map]
  have e2 : ((p :: ps).length == (q :: qs).length) = (ps.length == qs.length) := by
   rw [Bool.eq_iff_iff]; simp
  rw [e2, Bool.and_assoc]
  rfl
section
variable {A : Around} {s : Shared}
theorem toArr {vs : List Value} {j : Nat} (h : j < vs.toArray.size) : vs[j]? = some (vs.toArray[j]) := by simp at h ⊢
theorem qC : ∀ (n : Nat) (A : Around) {p q : PV} {v u : Value}, A.units + n < cLine → mU n p = true → mU n q = true → Lies s.heap p v → Lies s.heap q u → SeqAt.EqAt A s v u (dP p q) := by
 intro n
 induction n with
 | zero =>
  intro A p q v u hu o1 o2 h1 h2
  cases h1 with
  | tup _ _ => cases o1
  | lst _ _ => cases o1
  | aZ =>
   cases h2 with
   | tup _ _ => cases o2
   | lst _ _ => cases o2
   | aZ => exact .same _
   | bl b => exact .none_bool b
   | int b t => exact .none_int b t
   | str b t => exact .none_str b t
  | bl a =>
   cases h2 with
   | tup _ _ => cases o2
   | lst _ _ => cases o2
   | aZ => exact .bool_none a
   | bl b => exact .bool_bool a b
   | int b t => exact .bool_int a b t
   | str b t => exact .bool_str a b t
  | int a t' =>
   cases h2 with
   | tup _ _ => cases o2
   | lst _ _ => cases o2
   | aZ => exact .int_none a t'
   | bl b => exact .int_bool a t' b
   | int b t => exact .int_int a t' b t
   | str b t => exact .int_str a t' b t
  | str a t' =>
   cases h2 with
   | tup _ _ => cases o2
   | lst _ _ => cases o2
   | aZ => exact .str_none a t'
   | bl b => exact .str_bool a t' b
   | int b t => exact .str_int a t' b t
   | str b t => exact .str_str a t' b t
 | succ n ih =>
  intro A p q v u hu o1 o2 h1 h2
  have hu0 : A.units < cLine := by omega
  have hin : A.in1.units = A.units + 1 := rfl
  have els : ∀ {ps qs : List PV} {vs us : List Value}, ps.all (mU n) = true → qs.all (mU n) = true → bP s.heap ps vs → bP s.heap qs us → ∀ (j : Nat) (g1 : j < vs.toArray.size) (g2 : j < us.toArray.size), SeqAt.EqAt A.in1 s vs.toArray[j] us.toArray[j] (dP (ps.getD j .aZ) (qs.getD j .aZ)) := fun {ps qs vs us} a1 a2 l1 l2 j g1 g2 => by
   obtain ⟨x, ex, rx⟩ := l1.get (toArr g1)
   obtain ⟨y, ey, ry⟩ := l2.get (toArr g2)
   rw [List.getD_eq_getElem?_getD, List.getD_eq_getElem?_getD, ex, ey]
   exact ih A.in1 (by omega) (List.all_eq_true.mp a1 _ (List.mem_of_getElem? ex)) (List.all_eq_true.mp a2 _ (List.mem_of_getElem? ey)) rx ry
  cases h1 with
  | tup ht r =>
   cases h2 with
   | tup ht' r' =>
    rename_i a its ps a' its' ps'
    by_cases hab : a = a'
    ·subst hab
     rw [Lies.same (.tup ht r) (.tup ht' r')]
     exact .same _
    ·refine .of_refs hab ?_
     have e : dP (.tup ps) (.tup ps') = ((List.range (min its.toArray.size its'.toArray.size)).all (fun j => dP (ps.getD j .aZ) (ps'.getD j .aZ)) && its.toArray.size == its'.toArray.size) := by
      rw [mC, ← i9, r.length, r'.length, List.size_toArray, List.size_toArray]
     rw [e]
     exact SeqAt.RcAt.tuples (e := fun j => dP (ps.getD j .aZ) (ps'.getD j .aZ)) ht ht' hu0 (els o1 o2 r r')
   | lst hl r' => exact .tuple_list ht hl hu0
   | aZ => exact .tuple_none ht hu0
   | bl b => exact .tuple_bool b ht hu0
   | int b t => exact .tuple_int b t ht hu0
   | str b t => exact .tuple_str b t ht hu0
  | lst ht r =>
   cases h2 with
   | tup ht' r' => exact .list_tuple ht ht' hu0
   | lst ht' r' =>
    rename_i a its ps a' its' ps'
    by_cases hab : a = a'
    ·subst hab
     rw [Lies.same (.lst ht r) (.lst ht' r')]
     exact .same _
    ·refine .of_refs hab ?_
     by_cases hsz : its.length = its'.length
     ·have e : dP (.lst ps) (.lst ps') = (List.range its.toArray.size).all (fun j => dP (ps.getD j .aZ) (ps'.getD j .aZ)) := by
       rw [A6, ← i9, r.length, r'.length, List.size_toArray, ← hsz, Nat.min_self, beq_self_eq_true, Bool.and_true]
      rw [e]
      exact SeqAt.RcAt.lists (e := fun j => dP (ps.getD j .aZ) (ps'.getD j .aZ)) ht ht' (by simp [hsz]) hu0 (els o1 o2 r r')
     ·have e : dP (.lst ps) (.lst ps') = false := by
       rw [A6, ← i9, r.length, r'.length, show (its.length == its'.length) = false by simp [hsz], Bool.and_false]
      rw [e]
      exact SeqAt.RcAt.lists_lengths ht ht' (by simp [hsz]) hu0
   | aZ => exact .list_none ht hu0
   | bl b => exact .list_bool b ht hu0
   | int b t => exact .list_int b t ht hu0
   | str b t => exact .list_str b t ht hu0
  | aZ =>
   cases h2 with
   | tup ht' r' => exact .none_tuple ht' hu0
   | lst hl r' => exact .none_list hl hu0
   | aZ => exact .same _
   | bl b => exact .none_bool b
   | int b t => exact .none_int b t
   | str b t => exact .none_str b t
  | bl a =>
   cases h2 with
   | tup ht' r' => exact .bool_tuple a ht' hu0
   | lst hl r' => exact .bool_list a hl hu0
   | aZ => exact .bool_none a
   | bl b => exact .bool_bool a b
   | int b t => exact .bool_int a b t
   | str b t => exact .bool_str a b t
  | int a t' =>
   cases h2 with
   | tup ht' r' => exact .int_tuple a t' ht' hu0
   | lst hl r' => exact .int_list a t' hl hu0
   | aZ => exact .int_none a t'
   | bl b => exact .int_bool a t' b
   | int b t => exact .int_int a t' b t
   | str b t => exact .int_str a t' b t
  | str a t' =>
   cases h2 with
   | tup ht' r' => exact .str_tuple a t' ht' hu0
   | lst hl r' => exact .str_list a t' hl hu0
   | aZ => exact .str_none a t'
   | bl b => exact .str_bool a t' b
   | int b t => exact .str_int a t' b t
   | str b t => exact .str_str a t' b t
end
noncomputable def N0 : PV → Option (List PV)
 | .lst ps => some ps
 | .tup ps => some ps
 | _ => none
noncomputable def SO (K : PySem.W.Frag) (neg : Bool) : R2 := fun x y H Q => ∃ p q ps, Red K DQ H p x ∧ Red K DQ H q y ∧ N0 q = some ps ∧ mU 8 p = true ∧ ps.all (mU 8) = true ∧ Q (.bl (if neg then !ps.any (fun z => dP z p) else ps.any fun z => dP z p)) H
section
variable {X : Cx} {k : Nat}
theorem bP.any {h : Heap} {e : Value → Bool} {f : PV → Bool} (he : ∀ {q : PV} {y : Value}, Lies h q y → e y = f q) : ∀ {ps : List PV} {its : List Value}, bP h ps its → its.any e = ps.any f
 | _, _, .nil => rfl
 | _, _, .cons h r => by rw [List.any_cons, List.any_cons, he h, bP.any he r]
theorem GK {s : Shared} {A : Around} {p : PV} {u : Value} (hu : A.units + 8 < cLine) (op : mU 8 p = true) (hp : Lies s.heap p u) {ps : List PV} {its : List Value} (ops : ps.all (mU 8) = true) (hl : bP s.heap ps its) :
  ∃ e : Value → Bool, (∀ y, y ∈ its.toArray → SeqAt.EqAt A s y u (e y)) ∧ its.toArray.any e = ps.any fun z => dP z p := by
 classical
 let e : Value → Bool := fun y => if c : ∃ q, Lies s.heap q y then dP c.choose p else false
 have he : ∀ {q : PV} {y : Value}, Lies s.heap q y → e y = dP q p := fun {q y} h => by
  have c : ∃ q, Lies s.heap q y := ⟨q, h⟩
  show (if c : ∃ q, Lies s.heap q y then dP c.choose p else false) = _
  rw [dif_pos c, Lies.fn c.choose_spec h]
 refine ⟨e, fun y hy => ?_, ?_⟩
 ·obtain ⟨j, hj⟩ := List.getElem?_of_mem (show y ∈ its by simpa using hy)
  obtain ⟨q, h1, h2⟩ := hl.get hj
  rw [he h2]
  exact qC 8 A hu (List.all_eq_true.mp ops _ (List.mem_of_getElem? h1)) op h2 hp
 ·rw [List.any_toArray]
  exact bP.any (fun h => he h) hl
theorem LV (K : PySem.W.Frag) (hr : eA k X.A) (hK : X.K = K := by rfl) : iK X (compareOp .NotIn) (SO K true) := by
 subst hK
 intro pins s σ H x y v u Q I rx ry h
 obtain ⟨p, q, ps, h1, h2, hi, o1, o2, hQ⟩ := h
 have hu : X.A.in1.units + 8 < cLine := by have := hr.un; show X.A.units + 1 + 8 < _; omega
 have lp := h1.lies I o1 rx
 cases q with
 | lst qs =>
  cases hi
  cases h2.lies I (n := 9) (p := .lst _) o2 ry with
  | lst hl r =>
   obtain ⟨e, e1, e2⟩ := GK hu o1 lp o2 r
   exact SeqAt.notIn_listAt e hl e1 (by rw [e2]; exact bG I hQ rfl)
 | tup qs =>
  cases hi
  cases h2.lies I (n := 9) (p := .tup _) o2 ry with
  | tup hl r =>
   obtain ⟨e, e1, e2⟩ := GK hu o1 lp o2 r
   exact SeqAt.notIn_tupleAt e hl e1 (by rw [e2]; exact bG I hQ rfl)
 | _ => cases hi
end
end Mr
namespace Mr
open PySem PySem.Spec L2 PyProof.Rows
section
variable {K : PySem.W.Frag}
noncomputable def T1 (g : Int → Int → PV) : PV → PV → Option Bv
 | .int i, .int j => some (.val (g i j))
 | _, _ => none
noncomputable def C6 : PV → PV → Option Bv := T1 fun i j => .int (i - j)
end
end Mr
namespace Mr
open PySem PySem.Spec L2 PyProof.Rows
section
variable {K : PySem.W.Frag}
noncomputable def BZ : V → List V → Hp → VK → Prop := fun x vs H Q => ∃ z y, x = .str z ∧ vs = [.str y] ∧ (y.length == 0) = false ∧ z.length ≤ sizeLine ∧ ∀ p, H p = none → Q (.ref p) (upd H p (.tup [.str (Txt.partition z y).1, .str (Txt.partition z y).2.1, .str (Txt.partition z y).2.2]))
end
end Mr
namespace Mr
open PySem PySem.Spec L2 PyProof.Rows
end Mr
namespace Mr
open PySem PySem.Spec L2 PyProof.Rows
end Mr
namespace L2
open PySem PySem.Spec PyProof.Rows
noncomputable def HS (K : PySem.W.Frag) (a : Addr) : It :=
 ⟨fun i H => ∃ xs x, aX K H a xs ∧ xs[i]? = some x, fun i H v H' => ∃ t, H t = none ∧ v = .ref t ∧ ∀ xs, aX K H a xs → ∃ x, xs[i]? = some x ∧ H' = upd H t (.tup [.int i, x]), fun i H => ∃ xs, aX K H a xs ∧ xs.length = i⟩
theorem AD {P : Program} {w : World} {K : PySem.W.Frag} {elts : List Expr} {x1} {pos : Pos} (a it e : Addr) (hei : e ≠ it) : Turn P w K (.Tuple elts x1 pos) (HS K a) [e, it] e (fun i h => (∃ old, IsEnum h e it i old) ∧ h.IsListIter it a i) where
 mem := by simp
 obj := fun i h st b hb => by
  obtain ⟨⟨old, he⟩, o, ho, c, d⟩ := st
  rcases List.mem_cons.mp hb with z | z
  ·subst z; exact ⟨_, he, fun v z => by cases z⟩
  ·have z : b = it := by simpa using z
   subst z; exact ⟨o, ho, fun v z => by rw [d] at z; cases z⟩
 keep := fun i h h' st k => ⟨let ⟨old, he⟩ := st.1; ⟨old, k e (by simp) _ he⟩, st.2.at fun o q => k it (by simp) o q⟩
 item := by
  intro X hP hw hK hc i pins s σ H E I hf st hg
  subst hP hw hK
  obtain ⟨xs, x, hq, hx⟩ := hg
  obtain ⟨its, rv, p, hz⟩ := I.list hq
  obtain ⟨u, hu, ru⟩ := rv.get hx
  obtain ⟨⟨old, he⟩, ht⟩ := st
  have hne : a ≠ it := fun z => by
   obtain ⟨o, ho, c, _⟩ := ht
   obtain ⟨o', _, ho', c', _, _⟩ := p
   subst z
   rw [ho] at ho'; cases ho'
   rw [c] at c'
   exact absurd (Value.type.inj c') (by decide)
  have hae : a ≠ e := fun z => by
   obtain ⟨o', _, ho', c', _, _⟩ := p
   subst z
   rw [he] at ho'; cases ho'
   exact absurd (Value.type.inj c') (by decide)
  have hlt : i < its.toArray.size := by have := (List.getElem?_eq_some_iff.mp hu).1; simpa using this
  refine wpAny_pyNext_enum_itemD (Draws.list (A := X.A.in1) (by exact I.ok.hd hc) it a hne its.toArray) he ⟨ht, p.isList⟩ hlt hei (by simp [hei, Ne.symm hae]) fun v h' tk hPv ho' st' htup hsz hk => ?_
  have ev : v = u := by
   have h1 : its[i]? = some v := by simpa using hPv
   rw [hu] at h1; exact (Option.some.inj h1).symm
  subst ev
  refine ⟨_, rfl, wpAny_letOwnedTupleGo_enum (s := { s with heap := h', toks := tk + 1 }) ho' fun h2 he2 sb => ?_⟩
  have hTe : s.heap.objs.size ≠ e := fun z => by
   have := Heap.lt_size he; rw [← z] at this; exact Nat.lt_irrefl _ this
  have hTi : s.heap.objs.size ≠ it := fun z => by
   obtain ⟨o, ho, _⟩ := ht
   have := Heap.lt_size ho; rw [← z] at this; exact Nat.lt_irrefl _ this
  have hk2 : ∀ b o, b ∉ [e, it] → s.heap.get? b = some o → h2.get? b = some o := fun b o hb q =>
   sb.extBut b o (fun z => hb (by simp [z])) (hk b o (fun z => hb (by simp [z])) (fun z => hb (by simp [z])) q)
  have I1 : Inv X pins σ H { s with heap := h2, toks := tk + 1 } := I.tZ hk2 hf
  have hfr : H s.heap.objs.size = none := I.bY.fresh (Nat.le_refl _)
  have htup2 : h2.get? s.heap.objs.size = some { cls := .type "tuple", data := .seq #[.int i tk, v] } := sb.extBut _ _ hTe htup
  have I2 : Inv X pins σ (upd H s.heap.objs.size (.tup [.int i, x])) { s with heap := h2, toks := tk + 1 } := by
   refine I.SQ hk2 hf hfr (by simp [hTe, hTi]) ⟨by show 2 ≤ sizeLine; decide, [.int i tk, v], .cons ⟨_, rfl⟩ (.cons ru .nil), mV.of htup2⟩ (fun b hb o q => ?_)
   rcases List.mem_cons.mp hb with r | r
   ·subst r; exact ⟨_, he2⟩
   ·have r : b = it := by simpa using r
    subst r
    obtain ⟨o', ho', _⟩ := st'.1.extBut sb.extBut (Ne.symm hei)
    exact ⟨o', ho'⟩
  refine ⟨.ref s.heap.objs.size, _, I2, rfl, ⟨s.heap.objs.size, hfr, rfl, fun ys hy => ⟨x, by rw [I.xO hy hq]; exact hx, rfl⟩⟩, ⟨⟨_, he2⟩, st'.1.extBut sb.extBut (Ne.symm hei)⟩, fun b hb => ?_⟩
  have hbT : b ≠ s.heap.objs.size := fun z => by
   rcases List.mem_cons.mp hb with r | r
   ·exact hTe (z ▸ r)
   ·have r : b = it := by simpa using r
    exact hTi (z ▸ r)
  rw [aL hbT]
  exact (hf b hb).1
 done := by
  intro X hP hw hK hc i pins s σ H E I hf st hg
  subst hP hw hK
  obtain ⟨xs, hq, hx⟩ := hg
  obtain ⟨its, rv, p, hz⟩ := I.list hq
  obtain ⟨⟨old, he⟩, ht⟩ := st
  have hl := rv.length
  have hne : a ≠ it := fun z => by
   obtain ⟨o, ho, c, _⟩ := ht
   obtain ⟨o', _, ho', c', _, _⟩ := p
   subst z
   rw [ho] at ho'; cases ho'
   rw [c] at c'
   exact absurd (Value.type.inj c') (by decide)
  have ei : (i : Nat) = its.toArray.size := by simp; omega
  subst ei
  obtain ⟨f0, f1, f2, f3, f4, f5⟩ := hf it (by simp)
  exact wpAny_pyNext_enum_endD (Draws.list (A := X.A.in1) (by exact I.ok.hd hc) it a hne its.toArray) he ⟨ht, p.isList⟩ fun h' eb => ⟨rfl, I.turned (t' := s.toks) (fun b o hb e => eb b o hb e) f0 f1 f3 f4 f5⟩
 self := fun _ _ _ _ _ st h => let ⟨_, he⟩ := st.1; wpAny_pyIter_enum he h
section
variable {X : Cx} {elts : List Expr} {x1 : Nat} {tpos : Pos}
noncomputable def mY (K : PySem.W.Frag) (ta : TA) : TI := fun σ H R => ta σ H fun vs H1 => (∃ a xs, vs = [.ref a] ∧ dZ K H1 a xs ∧ R (TK K a) H1) ∨ ∃ a xs, vs = [.ref a] ∧ aX K H1 a xs ∧ R (HS K a) H1
theorem GI {a : Expr} {ta : TA} {p pos : Pos} (hg : Gl X "enumerate") (hm : X.mg "enumerate" = none) (ha : PA X [a] ta) (hs : starEach [a] X.env = [(false, eval a X.env)] := by rfl) : PI X (.Tuple elts x1 tpos) (.Call (.Name "enumerate" p) [a] [] pos) (mY X.K ta) := by
 intro pins s σ H R I h
 refine Call_ (nP I hg hm uA (PyProof.Rows.callWith_type1 (cL (ha pos pins s σ H _ I h) fun us s1 ⟨vs, H1, I1, r1, q1⟩ => ?_) hs rfl))
 rcases q1 with ⟨t, xs, e, hq, q⟩ | ⟨t, xs, e, hq, q⟩
 ·subst e
  obtain ⟨u, rfl, rx⟩ := vals1 r1
  cases rx
  obtain ⟨its, rv, pt, hz⟩ := I1.tuple hq
  refine g8 (show s1.heap.IsTuple t its.toArray from pt) fun h' he ht hsz hk => ?_
  have I2 : Inv X pins σ H1 { s1 with heap := h' } := I1.kept (t' := s1.toks) hk
  refine wpAny_pyIter_enum (s := { s1 with heap := h' }) he ?_
  refine ⟨s1.heap.objs.size + 1, [s1.heap.objs.size + 1, s1.heap.objs.size], _, _, H1, rfl, I2, zJ t s1.heap.objs.size (s1.heap.objs.size + 1) (Nat.succ_ne_self _), ⟨⟨_, he⟩, ht⟩, fun b hb => ?_, q⟩
  rcases List.mem_cons.mp hb with r | r
  ·subst r; exact I1.qY (Nat.le_succ _) (I1.bY.fresh (Nat.le_succ _))
  ·have r : b = s1.heap.objs.size := by simpa using r
   subst r; exact I1.qY (Nat.le_refl _) (I1.bY.fresh (Nat.le_refl _))
 ·subst e
  obtain ⟨u, rfl, rx⟩ := vals1 r1
  cases rx
  obtain ⟨its, rv, pt, hz⟩ := I1.list hq
  refine call_enumerate_list pt.isList fun h' he ht hsz hk => ?_
  have I2 : Inv X pins σ H1 { s1 with heap := h' } := I1.kept (t' := s1.toks) hk
  refine wpAny_pyIter_enum (s := { s1 with heap := h' }) he ?_
  refine ⟨s1.heap.objs.size + 1, [s1.heap.objs.size + 1, s1.heap.objs.size], _, _, H1, rfl, I2, AD t s1.heap.objs.size (s1.heap.objs.size + 1) (Nat.succ_ne_self _), ⟨⟨_, he⟩, ht⟩, fun b hb => ?_, q⟩
  rcases List.mem_cons.mp hb with r | r
  ·subst r; exact I1.qY (Nat.le_succ _) (I1.bY.fresh (Nat.le_succ _))
  ·have r : b = s1.heap.objs.size := by simpa using r
   subst r; exact I1.qY (Nat.le_refl _) (I1.bY.fresh (Nat.le_refl _))
theorem BE (K : PySem.W.Frag) {a : Expr} {ta : TA} {p pos : Pos} (hg : Gl X "enumerate") (hm : X.mg "enumerate" = none) (ha : PA X [a] ta) (h : X.K = K := by rfl) (hs : starEach [a] X.env = [(false, eval a X.env)] := by rfl) :
  PI X (.Tuple elts x1 tpos) (.Call (.Name "enumerate" p) [a] [] pos) (mY K ta) := h ▸ GI hg hm ha hs
end
end L2
namespace Mr
open PySem PySem.Spec L2 PyProof.Rows
section
variable {K : PySem.W.Frag}
end
end Mr
namespace L2
open PySem PySem.Spec PyProof.Rows
section
variable {X : Cx} {e st : Expr} {te ts : TE} {pos p2 : Pos}
end
end L2
namespace Mr
open PySem PySem.Spec L2 PyProof.Rows
section
variable {K : PySem.W.Frag}
end
end Mr
namespace Mr
open PySem PySem.Spec L2 PyProof.Rows
section
variable {K : PySem.W.Frag}
end
end Mr
namespace Mr
open PySem PySem.Spec L2 PyProof.Rows
section
variable {K : PySem.W.Frag}
end
end Mr
namespace Mr
open PySem L2
section
variable {α β : Type} {Q : β → Prop}
end
end Mr
namespace L2
open PySem PySem.Spec PyProof.Rows PySem.W
section
variable {prog : Program} {w : World} {A : Around} {E : Value → Shared → Prop} {s : Shared} {T : String} {r d : Addr} {n : Nat} {Pz : Nat → Value → Prop} {OKh : Heap → Prop}
end
section
variable {X : Cx} {pins : List (Addr × Obj)} {σ : St} {H : Hp} {s s' : Shared}
end
end L2
namespace L2
open PySem PySem.Spec PyProof.Rows PySem.W
section
variable {X : Cx}
end
end L2
namespace L2
open PySem PySem.Spec PyProof.Rows PySem.W
section
variable (prog : Program) (w : World)
variable {prog w}
variable {A : Around} {E : Value → Shared → Prop} {s : Shared}
end
end L2
namespace L2
open PySem PySem.Spec PyProof.Rows PySem.W
section
variable {prog : Program} {w : World} {A : Around} {E : Value → Shared → Prop} {s : Shared}
end
end L2
namespace L2
open PySem PySem.Spec PyProof.Rows PySem.W
section
variable {prog : Program} {w : World} {A : Around} {E : Value → Shared → Prop} {s : Shared}
end
end L2
namespace L2
open PySem PySem.Spec PyProof.Rows PySem.W
section
variable {prog : Program} {w : World} {A : Around} {E : Value → Shared → Prop} {s : Shared}
end
end L2
namespace L2
open PySem PySem.Spec PyProof.Rows PySem.W
section
variable {prog : Program} {w : World} {A : Around} {E : Value → Shared → Prop} {s : Shared}
end
end L2
namespace L2
open PySem PySem.Spec PyProof.Rows PySem.W
section
variable {prog : Program} {w : World} {A : Around} {E : Value → Shared → Prop} {s : Shared}
end
end L2
namespace L2
open PySem PySem.Spec PyProof.Rows PySem.W
section
variable {prog : Program} {w : World} {A : Around} {E : Value → Shared → Prop} {s : Shared}
end
end L2
namespace L2
open PySem PySem.Spec PyProof.Rows PySem.W
section
variable {X : Cx}
end
end L2
namespace Mr
open PySem PySem.Spec L2 PyProof.Rows
section
variable {K : PySem.W.Frag}
end
end Mr
namespace Mr
open PySem PySem.Spec L2 PyProof.Rows PySem.W
noncomputable def fU (lt : PV → PV → Option Bool) : List PV → List PV → Option Bool
 | [], [] => some false
 | [], _ :: _ => some true
 | _ :: _, [] => some false
 | x :: xs, y :: ys => if dP x y = true then fU lt xs ys else lt x y
noncomputable def kN : Nat → PV → PV → Option Bool
 | _, .str a, .str b => some (decide (a.cps.toList < b.cps.toList))
 | _, .int a, .int b => some (decide (a < b))
 | n + 1, .tup xs, .tup ys => fU (kN n) xs ys
 | _, _, _ => none
section
variable {s : Shared}
theorem NH {A : Around} {lt : PV → PV → Option Bool} : ∀ {xs ys : List PV} {us vs : List Value} {c : Bool} {fin : Bool}, bP s.heap xs us → bP s.heap ys vs → (∀ x ∈ xs, ∀ y ∈ ys, ∀ u v, Lies s.heap x u → Lies s.heap y v → SeqAt.EqAt A s u v (dP x y) ∧ ∀ b, lt x y = some b → CY A s u v b) →
  fin = decide (us.length < vs.length) → fU lt xs ys = some c → yI A s fin (us.zip vs) c := by
 intro xs
 induction xs with
 | nil =>
  intro ys us vs c fin h1 h2 hk hf h
  cases h1
  cases h2 <;> (cases h; rw [hf]; exact .done)
 | cons x xs ih =>
  intro ys us vs c fin h1 h2 hk hf h
  cases h1 with
  | cons r1 rr1 =>
   cases h2 with
   | nil => cases h; rw [hf]; exact .done
   | @cons y _ ys _ r2 rr2 =>
    obtain ⟨he, hl⟩ := hk x List.mem_cons_self y List.mem_cons_self _ _ r1 r2
    unfold fU at h
    cases e : dP x y with
    | true =>
     rw [e] at he
     rw [if_pos e] at h
     exact .same he (ih rr1 rr2 (fun a ha b hb => hk a (List.mem_cons_of_mem _ ha) b (List.mem_cons_of_mem _ hb)) (by rw [hf]; simp) h)
    | false =>
     rw [e] at he
     rw [if_neg (by rw [e]; exact Bool.false_ne_true)] at h
     exact .less he (hl c h)
theorem N2 : ∀ (n : Nat) (A : Around) {p q : PV} {v u : Value} {b : Bool}, A.units + n < cLine → mU n p = true → mU n q = true → Lies s.heap p v → Lies s.heap q u → kN n p q = some b → CY A s v u b := by
 intro n
 induction n with
 | zero =>
  intro A p q v u b hu o1 o2 h1 h2 h
  cases p with
  | str x =>
   cases q with
   | str y => cases h; cases h1; cases h2; exact fun prog w E Q q => PySem.P.lt_str q
   | _ => cases h
  | int x =>
   cases q with
   | int y => cases h; cases h1; cases h2; exact fun prog w E Q q => PyProof.Rows.lt_int q
   | _ => cases h
  | _ => cases q <;> cases h
 | succ n ih =>
  intro A p q v u b hu o1 o2 h1 h2 h
  cases p with
  | str x =>
   cases q with
   | str y => cases h; cases h1; cases h2; exact fun prog w E Q q => PySem.P.lt_str q
   | _ => cases h
  | int x =>
   cases q with
   | int y => cases h; cases h1; cases h2; exact fun prog w E Q q => PyProof.Rows.lt_int q
   | _ => cases h
  | tup xs =>
   cases q with
   | tup ys =>
    cases h1 with
    | tup t1 l1 =>
     cases h2 with
     | tup t2 l2 =>
      have hin : A.in1.units = A.units + 1 := rfl
      have o1 : xs.all (mU n) = true := o1
      have o2 : ys.all (mU n) = true := o2
      refine M7 t1 t2 (by omega) ?_
      simpa using NH (A := A.in1) (s := s) l1 l2 (fun x hx y hy u v a b => ⟨qC n A.in1 (by omega) (List.all_eq_true.mp o1 x hx) (List.all_eq_true.mp o2 y hy) a b, fun c hc => ih A.in1 (by omega) (List.all_eq_true.mp o1 x hx) (List.all_eq_true.mp o2 y hy) a b hc⟩) rfl h
   | _ => cases h
  | _ => cases q <;> cases h
theorem GV {prog : Program} {w : World} {A : Around} {fin : Bool} {lt : PV → PV → Option Bool} {C : Bool → Shared → Prop} : ∀ {xs ys : List PV} {us vs : List Value} {c : Bool} (i : Nat), 1 ≤ i → bP s.heap xs us → bP s.heap ys vs →
  (∀ x ∈ xs, ∀ y ∈ ys, ∀ u v, Lies s.heap x u → Lies s.heap y v → SeqAt.EqAt A s u v (dP x y) ∧ ∀ b, lt x y = some b → CY A s u v b) → fin = decide (us.length < vs.length) → fU lt xs ys = some c → C c s → KatLex prog w A true fin C (us.zip vs) i s := by
 intro xs
 induction xs with
 | nil =>
  intro ys us vs c i hi h1 h2 hk hf h hC
  cases h1
  cases h2 <;> (cases h; exact kat_nil (by rw [hf]; exact hC))
 | cons x xs ih =>
  intro ys us vs c i hi h1 h2 hk hf h hC
  cases h1 with
  | cons r1 rr1 =>
   cases h2 with
   | nil => cases h; exact kat_nil (by rw [hf]; exact hC)
   | @cons y _ ys _ r2 rr2 =>
    obtain ⟨he, hl⟩ := hk x List.mem_cons_self y List.mem_cons_self _ _ r1 r2
    refine kat_cons (he prog w _ _ ?_)
    unfold fU at h
    cases e : dP x y with
    | true =>
     rw [if_pos e] at h
     exact kat_yes (ih (i + 1) (by omega) rr1 rr2 (fun a ha b hb => hk a (List.mem_cons_of_mem _ ha) b (List.mem_cons_of_mem _ hb)) (by rw [hf]; simp) h hC)
    | false =>
     rw [if_neg (by rw [e]; exact Bool.false_ne_true)] at h
     refine kat_no ?_
     have e0 : (true && i == 0) = false := by simp; omega
     rw [e0]
     exact kat_one _ _ (hl c h prog w _ _ hC)
noncomputable def EI (b : Bool) : PV → Bool
 | .tup (.str _ :: _) => b
 | .tup (.int _ :: _) => !b
 | _ => false
noncomputable def OW (b : Bool) : String := if b then "str" else "int"
theorem SV {prog : Program} {w : World} {A : Around} {b : Bool} {n : Nat} {ps : List PV} {vs : List Value} (hl : bP s.heap ps vs) (hu : A.units + n < cLine) (led : ∀ p ∈ ps, EI b p = true) (ok : ∀ p ∈ ps, mU (n + 1) p = true)
  {i j : Nat} {c : Bool} {C : Bool → Shared → Prop} {p q : PV} (hp : ps[i]? = some p) (hq : ps[j]? = some q) (hc : kN (n + 1) p q = some c) (hC : C c s) : kas_ask prog w A (tuples' (Value.type (OW b) != Value.type "tuple")) vs i j C s := by
 have kt : (Value.type (OW b) != Value.type "tuple") = true := by cases b <;> decide
 obtain ⟨u, hu1, lu⟩ : ∃ u, vs[i]? = some u ∧ Lies s.heap p u := by
  have hlt : i < vs.length := by rw [← hl.length]; exact (List.getElem?_eq_some_iff.mp hp).1
  obtain ⟨p', e, l⟩ := hl.get (List.getElem?_eq_getElem hlt)
  rw [hp] at e; cases e
  exact ⟨_, List.getElem?_eq_getElem hlt, l⟩
 obtain ⟨v, hv1, lv⟩ : ∃ v, vs[j]? = some v ∧ Lies s.heap q v := by
  have hlt : j < vs.length := by rw [← hl.length]; exact (List.getElem?_eq_some_iff.mp hq).1
  obtain ⟨p', e, l⟩ := hl.get (List.getElem?_eq_getElem hlt)
  rw [hq] at e; cases e
  exact ⟨_, List.getElem?_eq_getElem hlt, l⟩
 have l1 := led p (List.mem_of_getElem? hp)
 have l2 := led q (List.mem_of_getElem? hq)
 have o1 := ok p (List.mem_of_getElem? hp)
 have o2 := ok q (List.mem_of_getElem? hq)
 show wpAny _ _ (keyLt' _ (vs.getD i Value.none) (vs.getD j Value.none)) C _ s
 rw [List.getD_eq_getElem?_getD, hu1, List.getD_eq_getElem?_getD, hv1, kt]
 cases lu with
 | @tup _ us xs t1 r1 =>
  cases lv with
  | @tup _ vs' ys t2 r2 =>
   obtain ⟨oa, ga, _, na, da⟩ := t1
   obtain ⟨ob, gb, _, nb, db⟩ := t2
   refine kat_lt ga da gb db ?_
   have o1 : xs.all (mU n) = true := o1
   have o2 : ys.all (mU n) = true := o2
   have key : ∀ x ∈ xs, ∀ y ∈ ys, ∀ u v, Lies s.heap x u → Lies s.heap y v → SeqAt.EqAt A s u v (dP x y) ∧ ∀ b, kN n x y = some b → CY A s u v b := fun x hx y hy u v a b =>
    ⟨qC n A hu (List.all_eq_true.mp o1 x hx) (List.all_eq_true.mp o2 y hy) a b, fun c hc => N2 n A hu (List.all_eq_true.mp o1 x hx) (List.all_eq_true.mp o2 y hy) a b hc⟩
   have hc : fU (kN n) xs ys = some c := hc
   cases r1 with
   | nil => cases l1
   | @cons x u0 xs us a1 a2 =>
    cases r2 with
    | nil => cases l2
    | @cons y v0 ys vs' b1 b2 =>
     obtain ⟨he, _⟩ := key x List.mem_cons_self y List.mem_cons_self _ _ a1 b1
     refine kat_cons (he prog w _ _ ?_)
     unfold fU at hc
     cases e : dP x y with
     | true =>
      rw [if_pos e] at hc
      exact kat_yes (GV 1 (Nat.le_refl _) a2 b2 (fun a ha b hb => key a (List.mem_cons_of_mem _ ha) b (List.mem_cons_of_mem _ hb)) (by simp) hc hC)
     | false =>
      rw [if_neg (by rw [e]; exact Bool.false_ne_true)] at hc
      refine kat_no ?_
      cases x with
      | str x =>
       cases y with
       | str y =>
        have hc : some (decide (x.cps.toList < y.cps.toList)) = some c := by cases n <;> exact hc
        cases hc
        cases a1
        cases b1
        exact oneLt_str hC
       | int y => cases b <;> cases l1 <;> cases l2
       | _ => cases l2
      | int x =>
       cases y with
       | int y =>
        have hc : some (decide (x < y)) = some c := by cases n <;> exact hc
        cases hc
        cases a1
        cases b1
        exact oneLt_int hC
       | str y => cases b <;> cases l1 <;> cases l2
       | _ => cases l2
      | _ => cases l1
  | _ => cases l2
 | _ => cases l1
end
end Mr
namespace Mr
open PySem PySem.Spec L2 PyProof.Rows PySem.W
noncomputable def iV : Nat → PV → Bool
 | _, .aZ => true
 | _, .int _ => true
 | _, .str _ => true
 | n + 1, .tup ps => ps.all (iV n)
 | _, _ => false
theorem iF : ∀ {n : Nat} {p : PV}, iV n p = true → mU n p = true := by
 intro n
 induction n with
 | zero => intro p h; cases p <;> first | rfl | cases h
 | succ n ih =>
  intro p h
  cases p with
  | tup ps => exact List.all_eq_true.mpr fun x hx => ih (List.all_eq_true.mp h x hx)
  | lst ps => cases h
  | j4 ps => cases h
  | ty x => cases h
  | bl x => cases h
  | _ => rfl
theorem A8 {n : Nat} (ih : ∀ {p q : PV}, iV n p = true → iV n q = true → dP p q = true → p = q) : ∀ {xs ys : List PV}, xs.all (iV n) = true → ys.all (iV n) = true → eM xs ys = true → xs = ys
 | [], [], _, _, _ => rfl
 | [], _ :: _, _, _, h => by simp [eM] at h
 | _ :: _, [], _, _, h => by simp [eM] at h
 | x :: xs, y :: ys, h1, h2, h => by
  simp only [eM, Bool.and_eq_true] at h
  rw [List.all_cons, Bool.and_eq_true] at h1 h2
  rw [ih h1.1 h2.1 h.1, A8 ih h1.2 h2.2 h.2]
theorem qD : ∀ {n : Nat} {p q : PV}, iV n p = true → iV n q = true → dP p q = true → p = q := by
 intro n
 induction n with
 | zero =>
  intro p q h1 h2 h
  cases p <;> cases q <;> first | rfl | (cases h1; done) | (cases h2; done) | (simp [dP] at h; try subst h; try rfl)
 | succ n ih =>
  intro p q h1 h2 h
  cases p with
  | tup xs =>
   cases q with
   | tup ys => rw [mC] at h; rw [A8 ih h1 h2 h]
   | _ => simp [dP] at h
  | lst xs => cases h1
  | j4 xs => cases h1
  | ty xs => cases h1
  | bl xs => cases h1
  | aZ => cases q <;> first | rfl | (simp [dP] at h)
  | int i => cases q <;> first | (cases h2; done) | (simp [dP] at h; try subst h; try rfl)
  | str i => cases q <;> first | (cases h2; done) | (simp [dP] at h; try subst h; try rfl)
theorem sU {n : Nat} (ih : ∀ {p : PV}, iV n p = true → dP p p = true) : ∀ {xs : List PV}, xs.all (iV n) = true → eM xs xs = true
 | [], _ => by simp [eM]
 | x :: xs, h => by
  rw [List.all_cons, Bool.and_eq_true] at h
  simp only [eM, Bool.and_eq_true]
  exact ⟨ih h.1, sU ih h.2⟩
theorem wF : ∀ {n : Nat} {p : PV}, iV n p = true → dP p p = true := by
 intro n
 induction n with
 | zero => intro p h; cases p <;> first | (simp [dP]; done) | cases h
 | succ n ih =>
  intro p h
  cases p with
  | tup xs => rw [mC]; exact sU ih h
  | lst xs => cases h
  | j4 xs => cases h
  | ty xs => cases h
  | bl xs => cases h
  | _ => simp [dP]
noncomputable def code : Nat → PV → List Int
 | _, .str x => x.cps.toList.map (fun c : Nat => (c : Int) + 1) ++ [0]
 | _, .int i => [i]
 | n + 1, .tup xs => xs.flatMap (fun x => 1 :: code n x) ++ [0]
 | _, _ => [0]
noncomputable abbrev jO : List Int → List Int → Bool := iL AR
theorem tX (a r r' : List Int) : jO (a ++ r) (a ++ r') = jO r r' := by
 induction a with
 | nil => rfl
 | cons x a ih =>
  show gC AR x x (jO (a ++ r) (a ++ r')) = _
  exact (gD (A := AR) (a := x)).trans ih
theorem g6 {x y : Int} {r r' : List Int} : jO (x :: r) (y :: r') = if x = y then jO r r' else decide (x < y) := by
 show gC AR x y (jO r r') = _
 rcases fF (A := AR) x y with ⟨a, b⟩ | ⟨a, b⟩ | a
 ·rw [eN a]
  have a := of_decide_eq_true a
  rw [if_neg (by omega), decide_eq_true a]
 ·rw [iM a]
  have a := of_decide_eq_true a
  rw [if_neg (by omega), decide_eq_false (by omega)]
 ·subst a
  rw [if_pos rfl]
  exact gD (A := AR) (a := x)
theorem BW : ∀ (a b : List Nat) (r r' : List Int), jO ((a.map fun c : Nat => (c : Int) + 1) ++ [0] ++ r) ((b.map fun c : Nat => (c : Int) + 1) ++ [0] ++ r') = if a = b then jO r r' else decide (a < b)
 | [], [], r, r' => by
  rw [if_pos rfl]
  exact tX [0] r r'
 | [], y :: b, r, r' => by
  rw [if_neg (by simp)]
  show jO (0 :: r) (((y : Int) + 1) :: _) = _
  rw [g6, if_neg (by omega), decide_eq_true (by omega)]
  exact (decide_eq_true (by simp)).symm
 | x :: a, [], r, r' => by
  rw [if_neg (by simp)]
  show jO (((x : Int) + 1) :: _) (0 :: r') = _
  rw [g6, if_neg (by omega), decide_eq_false (by omega)]
  exact (decide_eq_false (by simp)).symm
 | x :: a, y :: b, r, r' => by
  show jO (((x : Int) + 1) :: ((a.map fun c : Nat => (c : Int) + 1) ++ [0] ++ r)) (((y : Int) + 1) :: ((b.map fun c : Nat => (c : Int) + 1) ++ [0] ++ r')) = _
  rw [g6, BW a b r r']
  by_cases e : x = y
  ·subst e
   rw [if_pos rfl]
   by_cases e2 : a = b
   ·subst e2; rw [if_pos rfl, if_pos rfl]
   ·rw [if_neg e2, if_neg (by simpa using e2)]
    congr 1
    simp [List.cons_lt_cons_iff]
  ·rw [if_neg (by omega), if_neg (by intro z; exact e (List.cons.inj z).1)]
   by_cases h : x < y
   ·rw [decide_eq_true (show (x : Int) + 1 < y + 1 by omega)]
    exact (decide_eq_true (List.cons_lt_cons_iff.mpr (.inl h))).symm
   ·rw [decide_eq_false (show ¬ (x : Int) + 1 < y + 1 by omega)]
    refine (decide_eq_false fun z => ?_).symm
    rcases List.cons_lt_cons_iff.mp z with z | z
    ·exact h z
    ·exact e z.1
theorem wI {n : Nat} (ih : ∀ {p q : PV} {b : Bool} (r r' : List Int), iV n p = true → iV n q = true → kN n p q = some b → jO (code n p ++ r) (code n q ++ r') = if dP p q = true then jO r r' else b) :
  ∀ {xs ys : List PV} {b : Bool} (r r' : List Int), xs.all (iV n) = true → ys.all (iV n) = true → fU (kN n) xs ys = some b →
   jO (xs.flatMap (fun x => 1 :: code n x) ++ [0] ++ r) (ys.flatMap (fun x => 1 :: code n x) ++ [0] ++ r') = if eM xs ys = true then jO r r' else b
 | [], [], b, r, r', _, _, h => by
  rw [if_pos (by simp [eM])]
  exact tX [0] r r'
 | [], y :: ys, b, r, r', _, _, h => by
  cases h
  rw [if_neg (by simp [eM])]
  show jO (0 :: r) (1 :: _) = _
  rw [g6]; rfl
 | x :: xs, [], b, r, r', _, _, h => by
  cases h
  rw [if_neg (by simp [eM])]
  show jO (1 :: _) (0 :: r') = _
  rw [g6]; rfl
 | x :: xs, y :: ys, b, r, r', h1, h2, h => by
  rw [List.all_cons, Bool.and_eq_true] at h1 h2
  have e1 : ∀ (z : PV) (zs : List PV) (w : List Int), (z :: zs).flatMap (fun x => 1 :: code n x) ++ [0] ++ w = 1 :: (code n z ++ (zs.flatMap (fun x => 1 :: code n x) ++ [0] ++ w)) := fun z zs w => by simp
  rw [e1, e1, g6, if_pos rfl]
  unfold fU at h
  cases e : dP x y with
  | true =>
   rw [if_pos e] at h
   have exy := qD h1.1 h2.1 e
   subst exy
   rw [tX, wI ih r r' h1.2 h2.2 h]
   simp only [eM, e, Bool.true_and]
  | false =>
   rw [if_neg (by rw [e]; exact Bool.false_ne_true)] at h
   rw [ih _ _ h1.1 h2.1 h, if_neg (by rw [e]; exact Bool.false_ne_true), if_neg (by simp [eM, e])]
theorem JY : ∀ {n : Nat} {p q : PV} {b : Bool} (r r' : List Int), iV n p = true → iV n q = true → kN n p q = some b → jO (code n p ++ r) (code n q ++ r') = if dP p q = true then jO r r' else b := by
 have str : ∀ {n : Nat} {x y : Str} {b : Bool} (r r' : List Int), kN n (.str x) (.str y) = some b → jO (code n (.str x) ++ r) (code n (.str y) ++ r') = if dP (.str x) (.str y) = true then jO r r' else b := fun {n x y b} r r' h => by
  have h : some (decide (x.cps.toList < y.cps.toList)) = some b := by cases n <;> exact h
  cases h
  have e1 : ∀ z : Str, code n (.str z) = z.cps.toList.map (fun c : Nat => (c : Int) + 1) ++ [0] := fun z => by cases n <;> rfl
  rw [e1, e1, BW]
  by_cases e : x = y
  ·subst e; rw [if_pos rfl, if_pos (by simp [dP])]
  ·rw [if_neg (fun z => e (A7 z)), if_neg (by simpa [dP] using e)]
 have int : ∀ {n : Nat} {x y : Int} {b : Bool} (r r' : List Int), kN n (.int x) (.int y) = some b → jO (code n (.int x) ++ r) (code n (.int y) ++ r') = if dP (.int x) (.int y) = true then jO r r' else b := fun {n x y b} r r' h => by
  have h : some (decide (x < y)) = some b := by cases n <;> exact h
  cases h
  have e1 : ∀ z : Int, code n (.int z) = [z] := fun z => by cases n <;> rfl
  rw [e1, e1]
  show jO (x :: r) (y :: r') = _
  rw [g6]
  by_cases e : x = y
  ·subst e; rw [if_pos rfl, if_pos (by simp [dP])]
  ·rw [if_neg e, if_neg (by simpa [dP] using e)]
 intro n
 induction n with
 | zero =>
  intro p q b r r' h1 h2 h
  cases p with
  | str x => cases q with
   | str y => exact str r r' h
   | _ => cases h
  | int x => cases q with
   | int y => exact int r r' h
   | _ => cases h
  | _ => cases q <;> cases h
 | succ n ih =>
  intro p q b r r' h1 h2 h
  cases p with
  | str x => cases q with
   | str y => exact str r r' h
   | _ => cases h
  | int x => cases q with
   | int y => exact int r r' h
   | _ => cases h
  | tup xs => cases q with
   | tup ys =>
    rw [mC]
    exact wI ih r r' h1 h2 h
   | _ => cases h
  | _ => cases q <;> cases h
end Mr
namespace Mr
open PySem PySem.Spec L2 PyProof.Rows PySem.W
theorem B6 {n : Nat} (ih : ∀ {p q : PV}, kN n p q = some false → kN n q p = some false → dP p q = true) (sym : ∀ p q : PV, dP p q = dP q p) : ∀ {xs ys : List PV}, fU (kN n) xs ys = some false → fU (kN n) ys xs = some false → eM xs ys = true
 | [], [], _, _ => by simp [eM]
 | [], _ :: _, h, _ => by cases h
 | _ :: _, [], _, h => by cases h
 | x :: xs, y :: ys, h, h' => by
  unfold fU at h h'
  rw [sym y x] at h'
  cases e : dP x y with
  | true =>
   rw [if_pos e] at h h'
   simp only [eM, e, Bool.true_and]
   exact B6 ih sym h h'
  | false =>
   rw [if_neg (by rw [e]; exact Bool.false_ne_true)] at h h'
   rw [ih h h'] at e
   cases e
mutual
theorem CA : ∀ p q : PV, dP p q = dP q p
 | .aZ, q => by cases q <;> simp [dP]
 | .bl a, q => by cases q <;> simp only [dP] <;> (rw [Bool.eq_iff_iff, beq_iff_eq, beq_iff_eq]; exact eq_comm)
 | .int a, q => by cases q <;> simp only [dP] <;> (rw [Bool.eq_iff_iff, beq_iff_eq, beq_iff_eq]; exact eq_comm)
 | .str a, q => by cases q <;> simp only [dP] <;> (rw [Bool.eq_iff_iff, beq_iff_eq, beq_iff_eq]; exact eq_comm)
 | .ty a, q => by cases q <;> simp [dP]
 | .j4 a, q => by cases q <;> simp [dP]
 | .tup xs, q => by
  cases q with
  | tup ys => simp only [dP]; exact qF xs ys
  | _ => simp [dP]
 | .lst xs, q => by
  cases q with
  | lst ys => simp only [dP]; exact qF xs ys
  | _ => simp [dP]
theorem qF : ∀ xs ys : List PV, eM xs ys = eM ys xs
 | [], ys => by cases ys <;> simp [eM]
 | x :: xs, [] => by simp [eM]
 | x :: xs, y :: ys => by simp only [eM]; rw [CA x y, qF xs ys]
end
theorem TZ : ∀ {n : Nat} {p q : PV}, kN n p q = some false → kN n q p = some false → dP p q = true := by
 have str : ∀ {x y : Str}, ¬ x.cps.toList < y.cps.toList → ¬ y.cps.toList < x.cps.toList → dP (.str x) (.str y) = true := fun h h' => by
  have e := List.le_antisymm (List.not_lt.mp h') (List.not_lt.mp h)
  rw [A7 e]
  simp [dP]
 have int : ∀ {x y : Int}, ¬ x < y → ¬ y < x → dP (.int x) (.int y) = true := fun h h' => by
  have e : _ = _ := Int.le_antisymm (Int.not_lt.mp h') (Int.not_lt.mp h)
  rw [e]
  simp [dP]
 intro n
 induction n with
 | zero =>
  intro p q h h'
  cases p with
  | str x => cases q with
   | str y => exact str (of_decide_eq_false (Option.some.inj h)) (of_decide_eq_false (Option.some.inj h'))
   | _ => cases h
  | int x => cases q with
   | int y => exact int (of_decide_eq_false (Option.some.inj h)) (of_decide_eq_false (Option.some.inj h'))
   | _ => cases h
  | _ => cases q <;> cases h
 | succ n ih =>
  intro p q h h'
  cases p with
  | str x => cases q with
   | str y => exact str (of_decide_eq_false (Option.some.inj h)) (of_decide_eq_false (Option.some.inj h'))
   | _ => cases h
  | int x => cases q with
   | int y => exact int (of_decide_eq_false (Option.some.inj h)) (of_decide_eq_false (Option.some.inj h'))
   | _ => cases h
  | tup xs => cases q with
   | tup ys => rw [mC]; exact B6 ih CA h h'
   | _ => cases h
  | _ => cases q <;> cases h
noncomputable def nF (n : Nat) (ps : List PV) : Bool := ps.all fun p => iV n p && ps.all fun q => (kN n p q).isSome
noncomputable abbrev uB : KeyOrd := QP AR
noncomputable def rQ (n : Nat) (a b : PV) : Bool := !jO (code n b) (code n a)
noncomputable def w9 (n : Nat) (ps : List PV) : List PV := ps.mergeSort (rQ n)
theorem CW {n : Nat} (a b c : PV) (h1 : rQ n a b = true) (h2 : rQ n b c = true) : rQ n a c = true := by
 unfold rQ at *
 rw [Bool.not_eq_true'] at *
 exact KeyOrd.kle_trans (O := uB) h1 h2
theorem C2 {n : Nat} (a b : PV) : (rQ n a b || rQ n b a) = true := by
 unfold rQ
 rcases fF (A := uB) (code n a) (code n b) with ⟨x, y⟩ | ⟨x, y⟩ | x
 ·rw [show jO (code n b) (code n a) = false from y]; rfl
 ·rw [show jO (code n a) (code n b) = false from y]; simp
 ·rw [x, show jO (code n b) (code n b) = false from uB.irrefl _]; rfl
theorem i0 (n : Nat) (ps : List PV) : (w9 n ps).Perm ps := List.mergeSort_perm ps (rQ n)
theorem mT (n : Nat) (ps : List PV) : (w9 n ps).Pairwise fun a b => rQ n a b = true := List.pairwise_mergeSort CW C2 ps
theorem n5 {n : Nat} : ∀ {a b : List PV}, a.Pairwise (fun x y => rQ n x y = true) → b.Pairwise (fun x y => rQ n x y = true) → a.Perm b → (∀ x ∈ a, ∀ y ∈ a, rQ n x y = true → rQ n y x = true → x = y) → a = b
 | [], b, _, _, p, _ => List.Perm.nil_eq p
 | x :: a, [], _, _, p, _ => absurd p.symm.nil_eq (by simp)
 | x :: a, y :: b, ha, hb, p, an => by
  have hx := (List.pairwise_cons.mp ha).1
  have hy := (List.pairwise_cons.mp hb).1
  have e : x = y := by
   rcases List.mem_cons.mp (p.mem_iff.mp List.mem_cons_self) with z | z
   ·exact z
   ·rcases List.mem_cons.mp (p.mem_iff.mpr List.mem_cons_self) with w | w
    ·exact w.symm
    ·exact an x List.mem_cons_self y (List.mem_cons_of_mem _ w) (hx y w) (hy x z)
  subst e
  rw [n5 (List.pairwise_cons.mp ha).2 (List.pairwise_cons.mp hb).2 p.cons_inv fun u hu v hv => an u (List.mem_cons_of_mem _ hu) v (List.mem_cons_of_mem _ hv)]
theorem oV {n : Nat} {ps : List PV} (h : nF n ps = true) {p q : PV} (hp : p ∈ ps) (hq : q ∈ ps) : kN n p q = some (jO (code n p) (code n q)) := by
 have a := List.all_eq_true.mp h p hp
 have b := List.all_eq_true.mp h q hq
 rw [Bool.and_eq_true] at a b
 have c := List.all_eq_true.mp a.2 q hq
 obtain ⟨v, e⟩ := Option.isSome_iff_exists.mp c
 have c' := List.all_eq_true.mp b.2 p hp
 obtain ⟨v', e'⟩ := Option.isSome_iff_exists.mp c'
 have k := JY [] [] a.1 b.1 e
 rw [List.append_nil, List.append_nil] at k
 rw [e, k]
 cases z : dP p q with
 | false => rw [if_neg Bool.false_ne_true]
 | true =>
  rw [if_pos rfl]
  have epq := qD a.1 b.1 z
  subst epq
  rw [e] at e'
  cases e'
  show some v = some false
  have irr : ∀ {m : Nat} {p : PV} {v : Bool}, iV m p = true → kN m p p = some v → v = false := by
   intro m p v hp h
   cases v with
   | false => rfl
   | true =>
    exfalso
    cases m with
    | zero =>
     cases p with
     | str x => exact absurd (of_decide_eq_true (Option.some.inj h)) (List.lt_irrefl _)
     | int x => exact absurd (of_decide_eq_true (Option.some.inj h)) (by omega)
     | _ => cases h
    | succ m =>
     cases p with
     | str x => exact absurd (of_decide_eq_true (Option.some.inj h)) (List.lt_irrefl _)
     | int x => exact absurd (of_decide_eq_true (Option.some.inj h)) (by omega)
     | tup xs =>
      have key : ∀ {l : List PV}, l.all (iV m) = true → fU (kN m) l l = some false := by
       intro l
       induction l with
       | nil => intro _; rfl
       | cons x l ih =>
        intro hl
        rw [List.all_cons, Bool.and_eq_true] at hl
        unfold fU
        rw [if_pos (wF hl.1)]
        exact ih hl.2
      have := key (show xs.all (iV m) = true from hp)
      rw [show fU (kN m) xs xs = some true from h] at this
      cases this
     | _ => cases h
  rw [irr a.1 e]
theorem xC {n : Nat} {ps : List PV} (h : nF n ps = true) {p q : PV} (hp : p ∈ ps) (hq : q ∈ ps) (h1 : rQ n p q = true) (h2 : rQ n q p = true) : p = q := by
 have a := List.all_eq_true.mp h p hp
 have b := List.all_eq_true.mp h q hq
 rw [Bool.and_eq_true] at a b
 unfold rQ at h1 h2
 rw [Bool.not_eq_true'] at h1 h2
 refine qD a.1 b.1 (TZ (n := n) ?_ ?_)
 ·rw [oV h hp hq, h2]
 ·rw [oV h hq hp, h1]
section
variable {X : Cx} {k : Nat}
noncomputable def O7 (K : PySem.W.Frag) : List V → Hp → VK → Prop := fun xs H Q => ∃ p ys ps b, xs = [.ref p] ∧ aX K H p ys ∧ eO K DQ H ps ys ∧ ys.length < 64 ∧ (∀ x ∈ ps, EI b x = true) ∧ nF 3 ps = true ∧
 ∀ l (ix : List Nat), ix.Perm (List.range ps.length) → (ix.map fun i => ps.getD i .aZ).Pairwise (fun a b => rQ 3 a b = true) → H l = none → Q (.ref l) (upd H l (.lst (ix.map fun i => ys.getD i .aZ)))
theorem sP {s : Shared} {b : Bool} : ∀ {ps : List PV} {vs : List Value}, bP s.heap ps vs → (∀ x ∈ ps, EI b x = true) → ∃ fs, KatTups s.heap vs fs ∧ fs.length = vs.length ∧ ∀ v ∈ fs, (∃ x t, b = true ∧ v = .str x t) ∨ ∃ x t, b = false ∧ v = .int x t
 | [], _, .nil, _ => ⟨[], .nil, rfl, fun _ h => nomatch h⟩
 | p :: ps, _, .cons l r, h => by
  obtain ⟨fs, h1, h2, h3⟩ := sP r fun z hz => h z (List.mem_cons_of_mem _ hz)
  have hp := h p List.mem_cons_self
  cases l with
  | tup t1 r1 =>
   obtain ⟨o, g1, g2, m, g3⟩ := t1
   cases r1 with
   | nil => cases hp
   | cons a1 a2 =>
    cases a1 with
    | str x t =>
     refine ⟨.str x t :: fs, .cons g1 g2 g3 (by simp) h1, by rw [List.length_cons, List.length_cons, h2], fun v hv => ?_⟩
     rcases List.mem_cons.mp hv with e | e
     ·exact .inl ⟨x, t, hp, e⟩
     ·exact h3 v e
    | int x t =>
     refine ⟨.int x t :: fs, .cons g1 g2 g3 (by simp) h1, by rw [List.length_cons, List.length_cons, h2], fun v hv => ?_⟩
     rcases List.mem_cons.mp hv with e | e
     ·exact .inr ⟨x, t, by simpa [EI] using hp, e⟩
     ·exact h3 v e
    | _ => cases hp
  | _ => cases hp
theorem M9 {P : Program} {w : World} {A : Around} {s : Shared} {b : Bool} {ps : List PV} {vs : List Value} (hL : bP s.heap ps vs) (hu : A.units + 2 < cLine) (led : ∀ x ∈ ps, EI b x = true) (ok : ∀ x ∈ ps, mU 3 x = true) (cmp : nF 3 ps = true) (h2 : 2 ≤ vs.length) :
  zI P w A vs (fun p => jM uB (fun i => code 3 (ps.getD i .aZ)) p vs.length) s := by
 have hl := hL.length
 obtain ⟨fs, k1, k2, k3⟩ := sP hL led
 refine ⟨tuples' (Value.type (OW b) != Value.type "tuple"), fun Q E q => kat_kind k1 (by omega) (fun v hv => ?_) (by cases b <;> decide) q, fun G hG => nG.run (n := vs.length) (ans := BF uB (fun i => code 3 (ps.getD i .aZ))) (fun i j C hi hj hC => ?_) (fun p h1 h2 => hG p h1 h2) (KY (by omega)) (NX (by omega))⟩
 ·rcases k3 v hv with ⟨x, t, rfl, rfl⟩ | ⟨x, t, rfl, rfl⟩
  ·exact Looks.of_pure rfl
  ·exact Looks.of_pure rfl
 ·have e1 : ps[i]? = some ps[i] := List.getElem?_eq_getElem (by omega)
  have e2 : ps[j]? = some ps[j] := List.getElem?_eq_getElem (by omega)
  refine SV (n := 2) hL hu led ok e1 e2 (oV cmp (List.getElem_mem _) (List.getElem_mem _)) ?_
  have hC : C (uB.blt (code 3 (ps.getD i .aZ)) (code 3 (ps.getD j .aZ))) _ := hC
  rw [List.getD_eq_getElem?_getD, e1, List.getD_eq_getElem?_getD, e2] at hC
  exact hC
theorem RH {ps : List PV} {p : Array Nat} {m : Nat} (h : jM uB (fun i => code 3 (ps.getD i .aZ)) p m) (hm : p.toList.length = m) : (p.toList.map fun i => ps.getD i .aZ).Pairwise (fun a b => rQ 3 a b = true) := by
 rw [List.pairwise_iff_getElem]
 intro i j hi hj hij
 rw [List.length_map] at hi hj
 have h := h i j (by omega) (by omega)
 rw [List.getElem_map, List.getElem_map]
 have ky : ∀ (i : Nat) (hi : i < p.toList.length), Ky uB (fun i => code 3 (ps.getD i .aZ)) p i = code 3 (ps.getD p.toList[i] .aZ) := fun i hi => by
  unfold Ky
  rw [Array.getD_eq_getD_getElem?, ← Array.getElem?_toList, List.getElem?_eq_getElem hi]
  rfl
 rw [ky i hi, ky j hj] at h
 show (!jO _ _) = true
 rw [Bool.not_eq_true']
 exact h
theorem O2 (K : PySem.W.Frag) (hr : eA k X.A) (hK : X.K = K := by rfl) : eL X (.builtin "sorted") (O7 K) := by
 subst hK
 intro pins s σ H xs us Q I r ⟨p, ys, ps, b, e, hq, rp, h64, led, cmp, q⟩
 subst e
 obtain ⟨u, rfl, rx⟩ := vals1 r
 cases rx
 obtain ⟨vs, rv, pl, hz⟩ := I.list hq
 have hlen := rv.length
 have hpl := rp.length
 have ok : ∀ x ∈ ps, mU 3 x = true := fun x hx => by
  have := List.all_eq_true.mp cmp x hx
  rw [Bool.and_eq_true] at this
  exact iF this.1
 refine wH (R := fun p => jM uB (fun i => code 3 (ps.getD i .aZ)) p vs.length) pl.isList (by omega) (fun l2 h' kp => ?_) (fun h2 i j a b => ?_) fun out p h1 h2 h3 => ?_
 ·have I' := I.kept (t' := s.toks) kp
  have hL : bP h' ps vs := eO.lies I' (n := 3) (List.all_eq_true.mpr ok) rp rv
  exact M9 (s := { s with heap := h' }) hL (by have := hr.un; show X.A.units + 1 + 1 + 2 < _; omega) led ok cmp l2
 ·rw [show i = j by omega]; exact KeyOrd.kle_refl _
 ·have hp : p.toList.Perm (List.range vs.length) := by simpa using Array.perm_iff_toList_perm.mp h1
  have hlt : ∀ i ∈ p.toList, i < vs.length := fun i hi => List.mem_range.mp (hp.mem_iff.mp hi)
  have z2 := pS rv p.toList hlt
  rw [← h3] at z2
  have hpz : p.toList.length = vs.length := by rw [hp.length_eq, List.length_range]
  obtain ⟨c, hat⟩ := sortedAll_at s.heap vs out
  refine ⟨.ref (s.heap.objs.size + 1), _, I.laid (t' := s.toks) (o := .lst (p.toList.map fun i => ys.getD i .aZ)) (fun b o e => sortedAll_old e) (Nat.le_succ _) ⟨by rw [List.length_map, hpz, ← hlen]; exact hz, out.toList, c, z2, hat⟩, rfl, q _ _ (by rw [hpl, hlen]; exact hp) (RH h2 hpz) (I.bY.fresh (Nat.le_succ _))⟩
end
section
variable {K : PySem.W.Frag}
end
end Mr
namespace L2
open PySem PySem.Spec PyProof.Rows
inductive NK where
 | k (x : Key)
 | t (xs : List NK)
noncomputable instance : DecidableEq NK := fun a b => Classical.propDecidable _
mutual
inductive PH (h : Heap) : NK → Value → Prop
 | k {x : Key} {v : Value} : qP x v = true → PH h (.k x) v
 | t {xs : List NK} {a : Addr} {us : List Value} : IsTup h a us.toArray → IsL h xs us → PH h (.t xs) (.ref a)
inductive IsL (h : Heap) : List NK → List Value → Prop
 | nil : IsL h [] []
 | cons {x : NK} {v : Value} {xs : List NK} {vs : List Value} : PH h x v → IsL h xs vs → IsL h (x :: xs) (v :: vs)
end
mutual
noncomputable def TL : NK → Nat
 | .k _ => 0
 | .t xs => S4 xs + 1
noncomputable def S4 : List NK → Nat
 | [] => 0
 | x :: xs => max (TL x) (S4 xs)
end
mutual
noncomputable def QM (w : World) : NK → Int
 | .k x => RP w x
 | .t xs => reduceHash (Builtin.Tuple.tupleHashOf (MV w xs))
noncomputable def MV (w : World) : List NK → List Int
 | [] => []
 | x :: xs => QM w x :: MV w xs
end
mutual
noncomputable def TU : NK → Nat
 | .k _ => 1
 | .t xs => S9 xs + 1
noncomputable def S9 : List NK → Nat
 | [] => 0
 | x :: xs => TU x + S9 xs
end
section
variable {prog : Program} {w : World}
end
end L2
namespace L2
open PySem PySem.Spec PyProof.Rows
section
variable {prog : Program} {w : World}
mutual
theorem PH.keeps {h h' : Heap} (k : ∀ a us, IsTup h a us → IsTup h' a us) : ∀ {x : NK} {v : Value}, PH h x v → PH h' x v
 | _, _, .k e => .k e
 | _, _, .t p l => .t (k _ _ p) (l.keeps k)
theorem IsL.keeps {h h' : Heap} (k : ∀ a us, IsTup h a us → IsTup h' a us) : ∀ {xs : List NK} {vs : List Value}, IsL h xs vs → IsL h' xs vs
 | _, _, .nil => .nil
 | _, _, .cons i r => .cons (i.keeps k) (r.keeps k)
end
end
mutual
inductive MA (H : Hp) : NK → V → Prop
 | k {x : Key} : MA H (.k x) (kV x)
 | t {xs : List NK} {a : Addr} {us : List V} : H a = some (.tup us) → JJ H xs us → MA H (.t xs) (.ref a)
inductive JJ (H : Hp) : List NK → List V → Prop
 | nil : JJ H [] []
 | cons {x : NK} {v : V} {xs : List NK} {vs : List V} : MA H x v → JJ H xs vs → JJ H (x :: xs) (v :: vs)
end
mutual
theorem MA.kp {H H' : Hp} (k : ∀ a us, H a = some (.tup us) → H' a = some (.tup us)) : ∀ {x : NK} {v : V}, MA H x v → MA H' x v
 | _, _, .k => .k
 | _, _, .t p l => .t (k _ _ p) (l.kp k)
theorem JJ.kp {H H' : Hp} (k : ∀ a us, H a = some (.tup us) → H' a = some (.tup us)) : ∀ {xs : List NK} {vs : List V}, JJ H xs vs → JJ H' xs vs
 | _, _, .nil => .nil
 | _, _, .cons i r => .cons (i.kp k) (r.kp k)
end
section
variable {P : Program} {w : World} {H : Hp} {h : Heap}
mutual
theorem MA.is (ok : jL P w H h) : ∀ {x : NK} {v : V} {u : Value}, MA H x v → RelV v u → PH h x u
 | _, _, _, .k, r => .k (RA (P := P) (w := w) r)
 | _, _, _, .t p l, r => by
  obtain ⟨_, its, rs, q, _⟩ := (show dJ P w H h _ (.tup _) from ok _ _ p)
  cases (show _ = Value.ref _ from r)
  exact .t q (l.is ok rs)
theorem JJ.is (ok : jL P w H h) : ∀ {xs : List NK} {vs : List V} {us : List Value}, JJ H xs vs → Vals vs us → IsL h xs us
 | _, _, _, .nil, .nil => .nil
 | _, _, _, .cons i r, .cons a b => .cons (i.is ok a) (r.is ok b)
end
end
noncomputable abbrev NE := List NK × Addr × V
section
variable {P : Program} {w : World} {H : Hp} {h : Heap} {a : Addr} {kvs : List NE} {ep : Nat}
end
section
variable {X : Cx} {pins : List (Addr × Obj)} {σ : St} {H : Hp} {s : Shared} {a : Addr} {y v : V} {u r : Value} {A : Around} {E : Value → Shared → Prop}
end
section
variable {X : Cx} {o i value : Expr} {pos pos' : Pos} {td ty tv : TE} {k : Nat}
end
end L2
namespace L2
open PySem PySem.Spec PyProof.Rows
section
variable {prog : Program} {w : World} {A : Around} {E : Value → Shared → Prop} {s : Shared}
end
section
variable {X : Cx}
end
end L2
namespace L2
open PySem PySem.Spec PyProof.Rows
mutual
inductive FH (H : Hp) : PyData → V → Prop
 | aZ : FH H .none .aZ
 | int (i : Int) : FH H (.int i) (.int i)
 | str (x : Str) : FH H (.str x) (.str x)
 | tup {a : Addr} {us : List V} {ds : List PyData} : H a = some (.tup us) → JK H ds us → FH H (.tuple ds) (.ref a)
inductive JK (H : Hp) : List PyData → List V → Prop
 | nil : JK H [] []
 | cons {d : PyData} {v : V} {ds : List PyData} {vs : List V} : FH H d v → JK H ds vs → JK H (d :: ds) (v :: vs)
end
mutual
theorem FH.kp {H H' : Hp} (k : ∀ a us, H a = some (.tup us) → H' a = some (.tup us)) : ∀ {d : PyData} {v : V}, FH H d v → FH H' d v
 | _, _, .aZ => .aZ
 | _, _, .int i => .int i
 | _, _, .str x => .str x
 | _, _, .tup p l => .tup (k _ _ p) (l.kp k)
theorem JK.kp {H H' : Hp} (k : ∀ a us, H a = some (.tup us) → H' a = some (.tup us)) : ∀ {ds : List PyData} {vs : List V}, JK H ds vs → JK H' ds vs
 | _, _, .nil => .nil
 | _, _, .cons i r => .cons (i.kp k) (r.kp k)
end
section
variable {P : Program} {w : World} {H : Hp} {h : Heap}
mutual
theorem FH.reads (ok : jL P w H h) : ∀ {d : PyData} {v : V} {u : Value}, FH H d v → RelV v u → ∃ as, Reads h u d as
 | _, _, _, .aZ, r => by cases (show _ = Value.none from r); exact ⟨_, .none⟩
 | _, _, _, .int i, r => by obtain ⟨t, e⟩ := (show ∃ t, _ = Value.int i t from r); subst e; exact ⟨_, .int i t⟩
 | _, _, _, .str x, r => by obtain ⟨t, e⟩ := (show ∃ t, _ = Value.str x t from r); subst e; exact ⟨_, .str x t⟩
 | _, _, _, .tup p l, r => by
  obtain ⟨_, its, rs, ⟨o, h1, h2, n, h3⟩, _⟩ := (show dJ P w H h _ (.tup _) from ok _ _ p)
  cases (show _ = Value.ref _ from r)
  obtain ⟨as, q⟩ := l.reads ok rs
  exact ⟨as, .tuple h1 h2 h3 (by simpa using q)⟩
theorem JK.reads (ok : jL P w H h) : ∀ {ds : List PyData} {vs : List V} {us : List Value}, JK H ds vs → Vals vs us → ∃ as, ReadsAll h us ds as
 | _, _, _, .nil, .nil => ⟨_, .nil⟩
 | _, _, _, .cons i r, .cons a b => let ⟨_, q⟩ := i.reads ok a; let ⟨_, q2⟩ := r.reads ok b; ⟨_, .cons q q2⟩
end
end
structure Sm (n k : Nat) (d : PyData) : Prop where
 len : d.shown.length ≤ n
 sh : d.showable = true
 nd : d.hasDict = false
 dp : d.depth ≤ k
theorem Sm.aZ : Sm 4 0 .none := ⟨by simp only [PyData.shown]; decide, by simp [PyData.showable], by simp only [PyData.hasDict], by simp only [PyData.depth, Nat.le_refl]⟩
end L2
namespace L2
open PySem PySem.Spec PyProof.Rows
noncomputable def tO (H H' : Hp) : Prop := ∀ a us, H a = some (.tup us) → H' a = some (.tup us)
theorem aG.kt {H H' : Hp} (s : aG H H') : tO H H' := fun a us e => s a _ e
theorem tO.trans {H H1 H2 : Hp} (a : tO H H1) (b : tO H1 H2) : tO H H2 := fun c us e => b c us (a c us e)
theorem tO.upd {H : Hp} {l : Addr} {xs ys : List V} (e : H l = some (.lst xs)) : tO H (upd H l (.lst ys)) := fun a us h => by rw [aL (QZ h e (fun z => nomatch z))]; exact h
section
variable {k : Nat} {d9 : List Nat} {g : TG} {tt : TT} {te : TE} {σ : St} {H : Hp} {Q : VK} {l : Addr}
end
theorem sT {K : PySem.W.Frag} {a : Addr} {xs : List V} {g : TG} {tb : TS} {D : Ends} {σ : St} {H : Hp} (Pv : Nat → St → Hp → Prop) (h0 : Pv 0 σ H) (hl : ∀ i σ H, i ≤ xs.length → Pv i σ H → aX K H a xs)
  (hs : ∀ i x t σ H, xs[i]? = some x → H t = none → Pv i σ H → g (.ref t) σ (upd H t (.tup [.int i, x])) fun σ2 H2 => tb { D with nx := Pv (i + 1), ct := Pv (i + 1), bk := D.nx } σ2 H2) (hd : ∀ σ H, Pv xs.length σ H → D.nx σ H) :
  ∃ W : Nat → Nat → St → Hp → Prop, (∃ m, W 0 m σ H) ∧ ∀ i m σ H, W i m σ H →
   ((HS K a).stop i H ∧ D.nx σ H) ∨ ((HS K a).go i H ∧ ∃ N : St → Hp → Prop, (∀ σ' H', N σ' H' → ∃ m', m' < m ∧ W (i + 1) m' σ' H') ∧ ∀ x H', (HS K a).IA i H x H' → g x σ H' fun σ2 H2 => tb { D with nx := N, ct := N, bk := D.nx } σ2 H2) := by
 refine ⟨fun i m σ H => m = xs.length - i ∧ i ≤ xs.length ∧ Pv i σ H, ⟨xs.length, by simp, Nat.zero_le _, h0⟩, ?_⟩
 rintro i m σ H ⟨rfl, hi, p⟩
 have q := hl i σ H hi p
 by_cases hlt : i < xs.length
 ·refine .inr ⟨⟨xs, xs[i], q, by simp [hlt]⟩, Pv (i + 1), fun σ' H' p' => ⟨xs.length - (i + 1), by omega, rfl, hlt, p'⟩, fun x H' y => ?_⟩
  obtain ⟨t, ht, rfl, y⟩ := y
  obtain ⟨x, hx, rfl⟩ := y xs q
  exact hs i x t σ H hx ht p
 ·have e : i = xs.length := by omega
  subst e
  exact .inl ⟨⟨xs, q, rfl⟩, hd σ H p⟩
end L2
namespace L2
open PySem PySem.Spec PyProof.Rows Mr
mutual
inductive Tr (H : Hp) : PV → V → Prop
 | aZ : Tr H .aZ .aZ
 | bl (b : Bool) : Tr H (.bl b) (.bl b)
 | int (i : Int) : Tr H (.int i) (.int i)
 | str (x : Str) : Tr H (.str x) (.str x)
 | tup {a : Addr} {us : List V} {ps : List PV} : H a = some (.tup us) → hW H ps us → Tr H (.tup ps) (.ref a)
inductive hW (H : Hp) : List PV → List V → Prop
 | nil : hW H [] []
 | cons {p : PV} {v : V} {ps : List PV} {vs : List V} : Tr H p v → hW H ps vs → hW H (p :: ps) (v :: vs)
end
mutual
theorem Tr.kp {H H' : Hp} (k : tO H H') : ∀ {p : PV} {v : V}, Tr H p v → Tr H' p v
 | _, _, .aZ => .aZ
 | _, _, .bl b => .bl b
 | _, _, .int b => .int b
 | _, _, .str b => .str b
 | _, _, .tup h r => .tup (k _ _ h) (r.kp k)
theorem hW.kp {H H' : Hp} (k : tO H H') : ∀ {p : List PV} {v : List V}, hW H p v → hW H' p v
 | _, _, .nil => .nil
 | _, _, .cons h r => .cons (h.kp k) (r.kp k)
end
mutual
theorem Tr.rep {K : PySem.W.Frag} {Z : dY} {H : Hp} : ∀ {p : PV} {v : V}, Tr H p v → Rep K Z H p v
 | _, _, .aZ => .aZ
 | _, _, .bl b => .bl b
 | _, _, .int b => .int b
 | _, _, .str b => .str b
 | _, _, .tup h r => .tup (.inl h) r.rep
theorem hW.rep {K : PySem.W.Frag} {Z : dY} {H : Hp} : ∀ {p : List PV} {v : List V}, hW H p v → eO K Z H p v
 | _, _, .nil => .nil
 | _, _, .cons h r => .cons h.rep r.rep
end
theorem Tr.G4 {H : Hp} {ps : List PV} {v : V} (h : Tr H (.tup ps) v) : ∃ a us, v = .ref a ∧ H a = some (.tup us) ∧ hW H ps us := by
 cases h with | tup h r => exact ⟨_, _, rfl, h, r⟩
theorem hW.length {H : Hp} : ∀ {ps : List PV} {vs : List V}, hW H ps vs → ps.length = vs.length
 | _, _, .nil => rfl
 | _, _, .cons _ r => by rw [List.length_cons, List.length_cons, r.length]
theorem hW.get {H : Hp} : ∀ {ps : List PV} {vs : List V} {i : Nat} {v : V}, hW H ps vs → vs[i]? = some v → ∃ p, ps[i]? = some p ∧ Tr H p v
 | _, _, _, _, .nil, e => by simp at e
 | _, _, 0, _, .cons h _, e => by simp at e; subst e; exact ⟨_, rfl, h⟩
 | _, _, i + 1, v, .cons _ r, e => by
  obtain ⟨p, h1, h2⟩ := r.get (i := i) (v := v) (by simpa using e)
  exact ⟨p, by simpa using h1, h2⟩
theorem hW.get' {H : Hp} : ∀ {ps : List PV} {vs : List V} {i : Nat} {p : PV}, hW H ps vs → ps[i]? = some p → ∃ v, vs[i]? = some v ∧ Tr H p v
 | _, _, _, _, .nil, e => by simp at e
 | _, _, 0, _, .cons h _, e => by simp at e; subst e; exact ⟨_, rfl, h⟩
 | _, _, i + 1, p, .cons _ r, e => by
  obtain ⟨v, h1, h2⟩ := r.get' (i := i) (p := p) (by simpa using e)
  exact ⟨v, by simpa using h1, h2⟩
theorem hW.app {H : Hp} : ∀ {ps qs : List PV} {vs us : List V}, hW H ps vs → hW H qs us → hW H (ps ++ qs) (vs ++ us)
 | _, _, _, _, .nil, s => s
 | _, _, _, _, .cons h r, s => .cons h (r.app s)
theorem hW.strs {H : Hp} : ∀ {xs : List Str}, hW H (xs.map PV.str) (xs.map V.str)
 | [] => .nil
 | x :: xs => .cons (.str x) hW.strs
mutual
noncomputable def kW : PV → NK
 | .str x => .k (.inr x)
 | .int i => .k (.inl i)
 | .tup ps => .t (lB ps)
 | _ => .k (.inl 0)
noncomputable def lB : List PV → List NK
 | [] => []
 | p :: ps => kW p :: lB ps
end
mutual
noncomputable def keyed : PV → Bool
 | .str _ => true
 | .int _ => true
 | .tup ps => iD ps
 | _ => false
noncomputable def iD : List PV → Bool
 | [] => true
 | p :: ps => keyed p && iD ps
end
mutual
theorem Tr.nk {H : Hp} : ∀ {p : PV} {v : V}, Tr H p v → keyed p = true → MA H (kW p) v
 | _, _, .aZ, h => by simp [keyed] at h
 | _, _, .bl b, h => by simp [keyed] at h
 | _, _, .int i, _ => by simp only [kW]; exact .k (x := .inl i)
 | _, _, .str x, _ => by simp only [kW]; exact .k (x := .inr x)
 | _, _, .tup h r, q => by simp only [kW]; exact .t h (r.nk (by simpa [keyed] using q))
theorem hW.nk {H : Hp} : ∀ {p : List PV} {v : List V}, hW H p v → iD p = true → JJ H (lB p) v
 | _, _, .nil, _ => by simp only [lB]; exact .nil
 | _, _, .cons h r, q => by
  simp only [iD, Bool.and_eq_true] at q
  simp only [lB]
  exact .cons (h.nk q.1) (r.nk q.2)
end
mutual
theorem IB : ∀ {p q : PV}, keyed p = true → keyed q = true → kW p = kW q → p = q
 | .str x, .str y, _, _, e => by simp [kW] at e; rw [e]
 | .str x, .int y, _, _, e => by simp [kW] at e
 | .str x, .tup y, _, _, e => by simp [kW] at e
 | .int x, .str y, _, _, e => by simp [kW] at e
 | .int x, .int y, _, _, e => by simp [kW] at e; rw [e]
 | .int x, .tup y, _, _, e => by simp [kW] at e
 | .tup x, .str y, _, _, e => by simp [kW] at e
 | .tup x, .int y, _, _, e => by simp [kW] at e
 | .tup x, .tup y, h1, h2, e => by
  simp only [kW, NK.t.injEq] at e
  rw [tI (by simpa [keyed] using h1) (by simpa [keyed] using h2) e]
 | .aZ, _, h, _, _ => by simp [keyed] at h
 | .bl _, _, h, _, _ => by simp [keyed] at h
 | .ty _, _, h, _, _ => by simp [keyed] at h
 | .lst _, _, h, _, _ => by simp [keyed] at h
 | .j4 _, _, h, _, _ => by simp [keyed] at h
 | .str _, .aZ, _, h, _ => by simp [keyed] at h
 | .str _, .bl _, _, h, _ => by simp [keyed] at h
 | .str _, .ty _, _, h, _ => by simp [keyed] at h
 | .str _, .lst _, _, h, _ => by simp [keyed] at h
 | .str _, .j4 _, _, h, _ => by simp [keyed] at h
 | .int _, .aZ, _, h, _ => by simp [keyed] at h
 | .int _, .bl _, _, h, _ => by simp [keyed] at h
 | .int _, .ty _, _, h, _ => by simp [keyed] at h
 | .int _, .lst _, _, h, _ => by simp [keyed] at h
 | .int _, .j4 _, _, h, _ => by simp [keyed] at h
 | .tup _, .aZ, _, h, _ => by simp [keyed] at h
 | .tup _, .bl _, _, h, _ => by simp [keyed] at h
 | .tup _, .ty _, _, h, _ => by simp [keyed] at h
 | .tup _, .lst _, _, h, _ => by simp [keyed] at h
 | .tup _, .j4 _, _, h, _ => by simp [keyed] at h
theorem tI : ∀ {p q : List PV}, iD p = true → iD q = true → lB p = lB q → p = q
 | [], [], _, _, _ => rfl
 | [], _ :: _, _, _, e => by simp [lB] at e
 | _ :: _, [], _, _, e => by simp [lB] at e
 | p :: ps, q :: qs, h1, h2, e => by
  have h1 : keyed p = true ∧ iD ps = true := by simpa [iD] using h1
  have h2 : keyed q = true ∧ iD qs = true := by simpa [iD] using h2
  simp only [lB, List.cons.injEq] at e
  rw [IB h1.1 h2.1 e.1, tI h1.2 h2.2 e.2]
end
mutual
noncomputable def yP : PV → PyData
 | .str x => .str x
 | .int i => .int i
 | .tup ps => .tuple (w5 ps)
 | _ => .none
noncomputable def w5 : List PV → List PyData
 | [] => []
 | p :: ps => yP p :: w5 ps
end
mutual
noncomputable def sO : PV → Bool
 | .str _ => true
 | .int _ => true
 | .aZ => true
 | .tup ps => uP ps
 | _ => false
noncomputable def uP : List PV → Bool
 | [] => true
 | p :: ps => sO p && uP ps
end
mutual
theorem Tr.dt {H : Hp} : ∀ {p : PV} {v : V}, Tr H p v → sO p = true → FH H (yP p) v
 | _, _, .aZ, h => by simp only [yP]; exact .aZ
 | _, _, .bl b, h => by simp [sO] at h
 | _, _, .int i, _ => by simp only [yP]; exact .int i
 | _, _, .str x, _ => by simp only [yP]; exact .str x
 | _, _, .tup h r, q => by simp only [yP]; exact .tup h (r.dt (by simpa [sO] using q))
theorem hW.dt {H : Hp} : ∀ {p : List PV} {v : List V}, hW H p v → uP p = true → JK H (w5 p) v
 | _, _, .nil, _ => by simp only [w5]; exact .nil
 | _, _, .cons h r, q => by
  simp only [uP, Bool.and_eq_true] at q
  simp only [w5]
  exact .cons (h.dt q.1) (r.dt q.2)
end
noncomputable def Sh (n k : Nat) (p : PV) : Prop := sO p = true ∧ Sm n k (yP p)
theorem Sh.aZ : Sh 4 0 .aZ := ⟨by simp only [sO], by simp only [yP]; exact Sm.aZ⟩
noncomputable def qT (K : PySem.W.Frag) : List V → Hp → VK → Prop := fun xs H Q => ∃ p ys ps, xs = [.ref p] ∧ aX K H p ys ∧ hW H ps ys ∧ ys.length < 64 ∧ (∀ x ∈ ps, EI true x = true) ∧ nF 3 ps = true ∧
 ∀ l zs, hW H (w9 3 ps) zs → H l = none → Q (.ref l) (upd H l (.lst zs))
theorem hW.pick {H : Hp} {ps : List PV} {ys : List V} (r : hW H ps ys) : ∀ {ix : List Nat}, (∀ i ∈ ix, i < ps.length) → hW H (ix.map fun i => ps.getD i .aZ) (ix.map fun i => ys.getD i .aZ)
 | [], _ => .nil
 | i :: ix, h => by
  have hi := h i List.mem_cons_self
  have e := List.getElem?_eq_getElem hi
  obtain ⟨v, ev, rv⟩ := r.get' e
  refine .cons ?_ (hW.pick r fun j hj => h j (List.mem_cons_of_mem _ hj))
  dsimp only
  rw [List.getD_eq_getElem?_getD, List.getD_eq_getElem?_getD, e, ev]
  exact rv
theorem QY {X : Cx} {k : Nat} (K : PySem.W.Frag) (hr : eA k X.A) (hK : X.K = K := by rfl) : eL X (.builtin "sorted") (qT K) := by
 intro pins s σ H xs us Q I r ⟨p, ys, ps, e, hq, rp, h64, led, cmp, q⟩
 refine O2 K hr hK pins s σ H xs us Q I r ⟨p, ys, ps, true, e, hq, rp.rep, h64, led, cmp, fun l ix h1 h2 hl => q l _ ?_ hl⟩
 have hix : ∀ i ∈ ix, i < ps.length := fun i hi => List.mem_range.mp (h1.mem_iff.mp hi)
 have pm : (ix.map fun i => ps.getD i .aZ).Perm ps := by
  have := h1.map fun i => ps.getD i PV.aZ
  have e : (List.range ps.length).map (fun i => ps.getD i PV.aZ) = ps := by
   apply List.ext_getElem
   ·simp
   ·intro i a1 a2
    simp [List.getElem?_eq_getElem a2]
  rw [e] at this
  exact this
 have es : w9 3 ps = ix.map fun i => ps.getD i .aZ :=
  n5 (mT 3 ps) h2 ((i0 3 ps).trans pm.symm) fun x hx y hy => xC cmp ((i0 3 ps).mem_iff.mp hx) ((i0 3 ps).mem_iff.mp hy)
 rw [es]
 exact rp.pick hix
end L2
namespace L2
open PySem PySem.Spec PyProof.Rows
section
variable {X : Cx} {pos : Pos}
noncomputable def B8 (vs : List V) : TE := fun _ H Q => vs.length ≤ sizeLine ∧ ∀ p, H p = none → Q (.ref p) (upd H p (.lst vs))
end
end L2
namespace L2
open PySem PySem.Spec PyProof.Rows
section
variable {X : Cx} {e st : Expr} {te ts : TE} {pos p2 : Pos}
noncomputable def pK (K : PySem.W.Frag) (te ts : TE) : TE := fun σ H Q => te σ H fun x H1 => ∃ a xs, x = .ref a ∧ aX K H1 a xs ∧ ts σ H1 fun k H2 => k = .int (-1) ∧ aX K H2 a xs ∧ ∀ p zs, H2 p = none → zs.length ≤ xs.length → (∀ z ∈ zs, z ∈ xs) → Q (.ref p) (upd H2 p (.lst zs))
theorem GS (K : PySem.W.Frag) (he : PE X e te) (hs : PE X st ts) (hK : X.K = K := by rfl) : PE X (.Subscript e (.Slice none none (some st) p2) pos) (pK K te ts) := by
 subst hK
 intro pins s σ H Q I h
 refine Subscript_ (cL (he pins s σ H _ I h) fun v s1 ⟨x, H1, I1, r1, a, xs, ex, ha, q1⟩ => ?_)
 subst ex
 cases r1
 refine wpAny_Slice ?_
 rw [evalPart_none]
 refine wpAny_pure ?_
 rw [evalPart_some]
 refine wpAny_pure (cL (hs pins s1 σ H1 _ I1 q1) fun u s2 ⟨k, H2, I2, r2, ek, ha2, q2⟩ => ?_)
 subst ek
 obtain ⟨t, rfl⟩ := r2
 have I3 : Inv X pins σ H2 { s2 with heap := s2.heap.push { cls := .type "slice", data := .fields #[.none, .none, .int (-1) t] } } := I2.kept (t' := s2.toks) fun b ob q => Heap.get?_push_of_some _ q
 obtain ⟨its, rr, pt, hz⟩ := I3.list ha2
 have hlen := rr.length
 refine tail_any (ops := [.ref a, .ref s2.heap.objs.size]) pt.isList.typeIs slot_list_getitem.lookup (wpAny_getItem_list_slice pt.isList (Heap.IsSliceOf.new ..) .none .none (.int (-1) t) (by decide) ?_ (by rw [List.size_toArray] <;> omega)) (by with_unfolding_all rfl)
 have hle := slicePick_size_le its.toArray none none (some (-1))
 unfold slicePick at hle ⊢
 have rz := mZ (f := fun m => m) (sliceRange (sliceBounds none none (some (-1)) its.toArray.size).1 (sliceBounds none none (some (-1)) its.toArray.size).2.1 (sliceBounds none none (some (-1)) its.toArray.size).2.2) rr
 have el : ∀ m : Nat, its.toArray[m]? = its[m]? := fun m => by simp
 simp only [el, List.size_toArray] at hle rz ⊢
 have hl2 := rz.length
 refine ⟨.ref _, _, I3.laid (t' := s2.toks) (o := .lst _) (fun b ob q => Heap.get?_push_of_some _ q) (Nat.le_refl _) ⟨?_, _, 0, rz, Heap.get?_push_size _ rfl⟩, rfl, q2 _ _ (I3.bY.fresh (Nat.le_refl _)) ?_ ?_⟩
 ·exact Nat.le_trans (by rw [hl2]; omega) hz
 ·rw [hl2]; omega
 ·intro z hz'
  obtain ⟨m, _, hm⟩ := List.mem_filterMap.mp hz'
  exact List.mem_of_getElem? hm
end
end L2
namespace My
open PySem L2 Mr PyProof.Rows PySem.Builtin.Str
noncomputable abbrev S (l : List Nat) : Str := ⟨l.toArray⟩
theorem FF (x : Str) : S x.cps.toList = x := by cases x; simp [S]
theorem BU (l : List Nat) : (S l).length = l.length := by show l.toArray.size = _; simp
theorem NZ (l p : List Nat) (i : Nat) : Builtin.Str.subAt (S l) (S p) i = decide ((l.drop i).take p.length = p) := by
 unfold Builtin.Str.subAt
 rw [BU]
 show (l.toArray.extract i (i + p.length) == p.toArray) = _
 rw [Bool.eq_iff_iff, beq_iff_eq, decide_eq_true_eq, ← Array.toList_inj]
 simp [List.extract_eq_take_drop]
theorem OF (l p : List Nat) (i : Nat) : StrLaws.At (S l) (S p) (S l).length i ↔ (i + p.length ≤ l.length ∧ (l.drop i).take p.length = p) := by
 unfold StrLaws.At
 rw [NZ, BU, BU, decide_eq_true_eq]
end My
namespace My
open PySem L2 Mr PyProof.Rows PySem.Builtin.Str
noncomputable def jn (s : List Nat) : List (List Nat) → List Nat
 | [] => []
 | [p] => p
 | p :: q :: r => p ++ s ++ jn s (q :: r)
theorem FL (x y : Str) : Txt.split x y ≠ [] := by
 unfold Txt.split
 split
 ·simp
 ·split
  ·simp
  ·intro h
   have := congrArg List.length h
   rw [length_partsBetween] at this
   simp at this
end My
namespace L2
open PySem PySem.Spec PyProof.Rows Mr My PySem.StrLaws PySem.Builtin.Str
theorem oJ {x y : Str} {hi : Nat} : ∀ {cuts cuts' : List Nat} {a f f' : Nat}, ChainG x y hi a cuts f → (∀ k, f ≤ k → ¬ At x y hi k) → ChainG x y hi a cuts' f' → (∀ k, f' ≤ k → ¬ At x y hi k) → cuts = cuts'
 | [], [], _, _, _, _, _, _, _ => rfl
 | [], c :: r, _, _, _, h, n, h', _ => by
  have e : _ = _ := h
  subst e
  exact absurd h'.2.1 (n c h'.1)
 | c :: r, [], _, _, _, h, _, h', n' => by
  have e : _ = _ := h'
  subst e
  exact absurd h.2.1 (n' c h.1)
 | c :: r, c' :: r', a, f, f', h, n, h', n' => by
  have e : c = c' := by
   rcases Nat.lt_trichotomy c c' with g | g | g
   ·exact absurd h.2.1 (h'.2.2.1 c h.1 g)
   ·exact g
   ·exact absurd h'.2.1 (h.2.2.1 c' h'.1 g)
  subst e
  rw [oJ h.2.2.2 n h'.2.2.2 n']
theorem IP {y : Str} (h : ∀ c ∈ y.cps.toList, c < 128) (x : Str) : ¬ Builtin.Str.strKind x < Builtin.Str.strKind y := by
 have : y.cps.all (· < 256) = true := by
  rw [← Array.all_toList, List.all_eq_true]
  exact fun c hc => decide_eq_true (by have := h c hc; omega)
 have e : Builtin.Str.strKind y = 1 := by unfold Builtin.Str.strKind; rw [if_pos this]
 rw [e]
 unfold Builtin.Str.strKind
 split
 ·omega
 ·split <;> omega
theorem zY {x y : Str} (hy : 1 ≤ y.length) (ha : ∀ c ∈ y.cps.toList, c < 128) {cuts : List Nat} {f : Nat} (h : ChainG x y x.length 0 cuts f) (n : ∀ k, f ≤ k → ¬ At x y x.length k) : Txt.split x y = partsFrom x y.length 0 cuts := by
 obtain ⟨g, h1, h2⟩ := occ_tight x y hy
 have e := oJ h1 h2 h n
 unfold Txt.split
 rw [e]
 have k := IP ha x
 cases cuts with
 | nil =>
  rw [show partsFrom x y.length 0 [] = [x] by show [strSub x 0 x.length] = _; rw [sub_whole]]
  split <;> rfl
 | cons c r =>
  have hc : c + y.length ≤ x.length := h.2.1.1
  rw [if_neg (by simp only [Bool.or_eq_true, decide_eq_true_eq]; omega), if_neg (by simp), partsBetween_eq]
theorem DD {x y : Str} (hy : 1 ≤ y.length) (ha : ∀ c ∈ y.cps.toList, c < 128) (hn : ∀ k, ¬ At x y x.length k) : Txt.split x y = [x] := by
 rw [zY hy ha (cuts := []) (f := 0) rfl (fun k _ => hn k)]
 show [strSub x 0 x.length] = _
 rw [sub_whole]
theorem Q2 {l y : List Nat} {c : Nat} {k : Nat} (hy : y.head? = some c) (h : ∀ d, l[k]? = some d → d ≠ c) : ¬ At (S l) (S y) (S l).length k := by
 rw [OF]
 rintro ⟨h1, h2⟩
 cases y with
 | nil => cases hy
 | cons d y =>
  cases hy
  have e : ((l.drop k).take (c :: y).length)[0]? = some c := by rw [h2]; rfl
  rw [List.getElem?_take_of_lt (by simp), List.getElem?_drop, Nat.add_zero] at e
  exact h c e rfl
theorem EA {a y : List Nat} {c : Nat} (hy : y.head? = some c) (ha : ∀ c ∈ y, c < 128) (hc : c ∉ a) : Txt.split (S a) (S y) = [S a] := by
 refine DD (by rw [BU]; cases y with | nil => cases hy | cons _ _ => simp) ha fun k => Q2 hy fun d hd e => hc (e ▸ List.mem_of_getElem? hd)
noncomputable def EZ (P : Nat → Prop) [DecidablePred P] (w : Nat) : List Nat → Nat → Nat → List Nat
 | [], _, _ => []
 | _ :: _, _, 0 => []
 | i :: l, free, r + 1 => if free ≤ i ∧ P i then i :: EZ P w l (i + w) r else EZ P w l free (r + 1)
theorem pO (P : Nat → Prop) [DecidablePred P] (w : Nat) (l : List Nat) (free : Nat) : EZ P w l free 0 = [] := by cases l <;> rfl
theorem p8 (P : Nat → Prop) [DecidablePred P] (w : Nat) : ∀ (l : List Nat) (free k r : Nat), k ≤ r → EZ P w l free k = (EZ P w l free r).take k
 | [], _, _, _, _ => by simp [EZ]
 | i :: l, free, 0, r, _ => by rw [pO, List.take_zero]
 | i :: l, free, k + 1, 0, h => by omega
 | i :: l, free, k + 1, r + 1, h => by
  unfold EZ
  split
  ·rw [p8 P w l (i + w) k r (by omega)]; rfl
  ·exact p8 P w l free (k + 1) (r + 1) h
theorem oT (s sub : Str) (hi limit : Nat) : ∀ (l : List Nat) (st : Array Nat × Nat), st.fst.size ≤ limit →
  (forIn l st (occBody s sub hi limit)).run.fst.toList = st.fst.toList ++ EZ (fun i => i + sub.length ≤ hi ∧ subAt s sub i = true) sub.length l st.snd (limit - st.fst.size)
 | [], st, _ => by simp [EZ]
 | i :: l, st, h => by
  rw [List.forIn_cons]
  unfold occBody
  split
  ·rename_i hc
   have e := oT s sub hi limit l (st.fst.push i, i + sub.length) (by show (st.fst.push i).size ≤ _; rw [Array.size_push]; omega)
   refine e.trans ?_
   rw [show limit - st.fst.size = (limit - (st.fst.size + 1)) + 1 by omega]
   conv => rhs; unfold EZ
   rw [if_pos ⟨hc.1.1.2, hc.1.2, hc.2⟩]
   dsimp only
   rw [Array.size_push, Array.toList_push, List.append_assoc]
   rfl
  ·rename_i hc
   have e := oT s sub hi limit l (st.fst, st.snd) h
   refine e.trans ?_
   dsimp only
   cases hr : limit - st.fst.size with
   | zero => rw [pO, pO]
   | succ r =>
    conv => rhs; unfold EZ
    rw [if_neg (fun g => hc ⟨⟨⟨by omega, g.1⟩, g.2.1⟩, g.2.2⟩)]
theorem wM (x y : Str) {k r : Nat} (h : k ≤ r) : occurrences x y 0 x.length k = (occurrences x y 0 x.length r).take k := by
 rw [occ_eq, occ_eq, oT _ _ _ _ _ _ (by simp), oT _ _ _ _ _ _ (by simp)]
 simpa using p8 _ _ _ _ _ _ h
theorem pC {x y : Str} : ∀ {k : Nat} {cuts : List Nat} {a f : Nat}, ChainTo x y x.length a cuts f → k < cuts.length → partsFrom x y.length a (cuts.take k) = (partsFrom x y.length a cuts).take k ++ [Str.join y ((partsFrom x y.length a cuts).drop k)]
 | 0, cuts, a, f, h, _ => by
  rw [List.take_zero, List.take_zero, List.drop_zero, join_partsFrom x y cuts a f h]
  rfl
 | k + 1, [], a, f, h, hk => by simp at hk
 | k + 1, c :: r, a, f, h, hk => by
  show strSub x a c :: partsFrom x y.length (c + y.length) (r.take k) = strSub x a c :: _
  rw [pC (k := k) (f := f) h.2.2 (by simpa using hk)]
  rfl
theorem eS (x : Str) (w : Nat) : ∀ (cuts : List Nat) (a : Nat), (partsFrom x w a cuts).length = cuts.length + 1
 | [], _ => rfl
 | c :: r, a => by show _ + 1 = _; rw [eS x w r]; rfl
noncomputable def eV (x y : Str) (k : Nat) : List Str := if (Txt.split x y).length ≤ k then Txt.split x y else (Txt.split x y).take k ++ [Str.join y ((Txt.split x y).drop k)]
theorem D0 {x y : Str} {k : Nat} (hy : 1 ≤ y.length) (hk : 1 ≤ k) : (if (decide (x.length < y.length) || decide (Builtin.Str.strKind x < Builtin.Str.strKind y)) = true then [x] else
  if (occurrences x y 0 x.length k).isEmpty = true then [x] else partsBetween x (occurrences x y 0 x.length k) y.length) = eV x y k := by
 unfold eV
 have hsp : Txt.split x y = if (decide (x.length < y.length) || decide (Builtin.Str.strKind x < Builtin.Str.strKind y)) = true then [x] else
  if (occurrences x y 0 x.length (x.length + 1)).isEmpty = true then [x] else partsBetween x (occurrences x y 0 x.length (x.length + 1)) y.length := rfl
 by_cases h1 : (decide (x.length < y.length) || decide (Builtin.Str.strKind x < Builtin.Str.strKind y)) = true
 ·rw [if_pos h1] at hsp ⊢
  rw [hsp, if_pos (show [x].length ≤ k from hk)]
 ·rw [if_neg h1] at hsp ⊢
  have ho : occurrences x y 0 x.length k = (occurrences x y 0 x.length (x.length + 1)).take k := by
   by_cases g : k ≤ x.length + 1
   ·exact wM x y g
   ·have hl := occ_length_le_len x y 0 x.length k
    have hl2 := wM x y (show x.length + 1 ≤ k by omega)
    rw [List.take_of_length_le (by omega)] at hl2
    rw [hl2, List.take_of_length_le (by omega)]
  obtain ⟨f, hch⟩ := occ_chain x y (x.length + 1)
  rw [ho]
  generalize occurrences x y 0 x.length (x.length + 1) = cuts at hsp hch
  cases cuts with
  | nil =>
   rw [show List.take k ([] : List Nat) = [] by simp]
   rw [if_pos (by rfl)] at hsp ⊢
   rw [hsp, if_pos (show [x].length ≤ k from hk)]
  | cons c r =>
   rw [if_neg (by simp)] at hsp
   rw [if_neg (by cases k with | zero => omega | succ k => simp)]
   rw [hsp, partsBetween_eq, partsBetween_eq, eS]
   by_cases g : (c :: r).length + 1 ≤ k
   ·rw [if_pos g, List.take_of_length_le (by omega)]
   ·rw [if_neg g]
    by_cases g2 : k < (c :: r).length
    ·exact pC hch g2
    ·have e : k = (c :: r).length := by omega
     subst e
     rw [List.take_length]
     have hl := eS x y.length (c :: r) 0
     generalize partsFrom x y.length 0 (c :: r) = P at hl
     have : P.drop (c :: r).length = [P[(c :: r).length]'(by omega)] := by
      rw [List.drop_eq_getElem_cons (by omega), List.drop_of_length_le (by omega)]
     have e2 : [Str.join y (P.drop (c :: r).length)] = P.drop (c :: r).length := by rw [this]; rfl
     rw [e2, List.take_append_drop]
theorem rJ (x y : Str) (k : Nat) : (eV x y k).length ≤ k + 1 := by
 unfold eV
 split
 ·omega
 ·rw [List.length_append, List.length_take]; show _ + 1 ≤ _; omega
end L2
namespace L2
open PySem PySem.Spec PyProof.Rows Mr
section
variable {X : Cx}
theorem lY (x y : Str) (k : Nat) (t u v : Tok) (hk : k ≤ 100) (h1 : 1 ≤ k) (hy : 1 ≤ y.length) (hx : x.length ≤ 1000000) : Meets (Builtin.«str.split» ⟨[.str x t, .str y u, .int k v], []⟩) (fun _ R s =>
  ∀ l tk, l.map (·.1) = eV x y k → R (.ok (.ret (.ref s.heap.objs.size))) { s with toks := tk, heap := s.heap.push { cls := .type "list", data := .seq (strValues l).toArray } }) := by
 have hk' : (decide ((k : Int) < -(2 ^ 63 : Int)) || decide ((k : Int) ≥ 2 ^ 63)) = false := by
  rw [Bool.or_eq_false_iff, decide_eq_false_iff_not, decide_eq_false_iff_not]; omega
 have hlim : limitOf x (k : Int) = k := by unfold limitOf; rw [if_neg (by omega)]; rfl
 have key := D0 (x := x) hy h1
 have hyn : (y.length == 0) = false := by rw [beq_eq_false_iff_ne]; omega
 cases hc : (decide (x.length < y.length) || decide (Builtin.Str.strKind x < Builtin.Str.strKind y)) with
 | true =>
  rw [if_pos hc] at key
  obtain ⟨raising, htree⟩ := split_sep_max_tree x y k t u v hk'
  refine .of_wp fun prog w A R s h => ?_
  rw [htree, hc]
  exact wpAny_bind (wpAny_rule (wpAny_bind (wpAny_newList (wpAny_pure ⟨_, rfl, h [(x, t)] s.toks key⟩) (by show 1 ≤ sizeLine; decide))))
 | false =>
  rw [if_neg (ne_true_of_eq_false hc)] at key
  cases hf : (Builtin.Str.occurrences x y 0 x.length k).isEmpty with
  | true =>
   rw [if_pos hf] at key
   obtain ⟨raising, htree⟩ := split_sep_max_tree x y k t u v hk'
   refine .of_wp fun prog w A R s h => ?_
   rw [htree, hc, hyn, hlim, hf]
   exact wpAny_bind (wpAny_rule (wpAny_bind (wpAny_newList (wpAny_pure ⟨_, rfl, h [(x, t)] s.toks key⟩) (by show 1 ≤ sizeLine; decide))))
  | false =>
   rw [if_neg (ne_true_of_eq_false hf)] at key
   have hl : (Builtin.Str.partsBetween x (Builtin.Str.occurrences x y 0 x.length k) y.length).length ≤ sizeLine := cF (by rw [key]; have := rJ x y k; omega)
   intro prog w A R s h
   have m := meets_str_split_sep_max x y k t u v hk' hc hyn (by rw [hlim]; exact hf) (cF (by omega)) (by rw [hlim]; exact hl)
   rw [hlim] at m
   refine m prog w A R s ?_
   dsimp only
   rw [strsFrom_eq]
   exact h (numbered s.toks _) _ ((numbered_texts _ _).trans key)
noncomputable def lW : V → List V → Hp → VK → Prop := fun x vs H Q => ∃ (z y : Str) (k : Nat), x = .str z ∧ vs = [.str y, .int k] ∧ k ≤ 100 ∧ 1 ≤ k ∧ 1 ≤ y.length ∧ z.length ≤ 1000000 ∧ ∀ l, H l = none → Q (.ref l) (upd H l (.lst ((eV z y k).map V.str)))
theorem DU : MR X "str.split" lW := by
 intro pins s σ H xv vs v us Q I rx rv h
 obtain ⟨x, y, k, rfl, rfl, hk, h1, hy, hx, q⟩ := h
 obtain ⟨t, rfl⟩ := rx
 obtain ⟨u, w', rfl, ⟨t1, rfl⟩, ⟨t2, rfl⟩⟩ := vals2 rv
 refine call_meets F.slot_str_split (typeIs_str _ _ _) F.entry_str_split (F.args_str_split_3 _ _ _) (lY x y k t t1 t2 hk h1 hy hx) fun l tk e => ?_
 exact ⟨.ref s.heap.objs.size, _, I.LZ (ys := (eV x y k).map V.str) (by rw [← e]; exact nA l) (cF (by rw [List.length_map]; have := rJ x y k; omega)), rfl, q _ (I.bY.fresh (Nat.le_refl _))⟩
theorem tN : eL X (.type "int") (fun xs H Q => ∃ z n, xs = [.str z] ∧ z.length ≤ 640 ∧ PySem.intText? z = some n ∧ Q (.int n) H) := by
 intro pins s σ H xs us Q I r h
 obtain ⟨z, n, rfl, hl, hn, q⟩ := h
 obtain ⟨u, rfl, t, rfl⟩ := vals1 r
 exact PySem.W.KIN.call_text hn hl ⟨.int n, H, I.tok _, ⟨_, rfl⟩, q⟩
end
noncomputable def DF (A : Around) (s : Shared) (x y : Value) (c : Bool) : Prop :=
 ∀ (prog : Program) (w : World) (E : Value → Shared → Prop) (Q : Value → Shared → Prop), Q (.bool c) s → wpAny (model prog w) A (richCompare .LtE x y) Q E s
inductive w4 (A : Around) (s : Shared) (fin : Bool) : List (Value × Value) → Bool → Prop
 | done : w4 A s fin [] fin
 | same {p q : Value} {r : List (Value × Value)} {c : Bool} : SeqAt.EqAt A s p q true → w4 A s fin r c → w4 A s fin ((p, q) :: r) c
 | less {p q : Value} {r : List (Value × Value)} {c : Bool} : SeqAt.EqAt A s p q false → DF A s p q c → w4 A s fin ((p, q) :: r) c
section
open PySem.SeqAt
open PySem.AutoSeq1 (wpAny_loadPart')
open PySem.MeetsSeq PySem.MeetsSeq2 PySem.MeetsSeq3
theorem OX (l b : Addr) (us vs : Array Value) (n m : Nat) (d1 d2 : Option Addr) (k1 k2 : Array (Option Value)) (c : Bool) :
  Meets (Builtin.«tuple.__le__» ⟨[.ref l, .ref b], []⟩) (fun A R s => s.heap.get? l = some ⟨.type "tuple", d1, .seq us n, k1⟩ ∧ s.heap.get? b = some ⟨.type "tuple", d2, .seq vs m, k2⟩ ∧
   w4 A.in1 s (decide (us.size ≤ vs.size)) (us.toList.zip vs.toList) c ∧ R (.ok (.ret (.bool c))) s) :=
 .of_wp fun prog w A R s h => by
  obtain ⟨hp, gg, dd, tk, os⟩ := s
  obtain ⟨hl, hb, hx, hr⟩ := h
  have f2 := AutoSeq1.sub_tuple_tuple
  wp_walk using wpAny_loadPart' hl, wpAny_loadPart' hb, wpAny_forIn_list _ (fun rest acc s' => acc.1 = none ∧ s' = ⟨hp, gg, dd, tk, os⟩ ∧ w4 A.in1 ⟨hp, gg, dd, tk, os⟩ (decide (us.size ≤ vs.size)) rest c) _
  case turn =>
   rintro ⟨y, x⟩ rest acc s' ⟨ha, rfl, hx'⟩
   cases hx' with
   | same he hrest =>
    refine wpAny_bind (he prog w _ _ ?_)
    wp_walk
    exact ⟨rfl, rfl, hrest⟩
   | less he hlt =>
    refine wpAny_bind (he prog w _ _ ?_)
    have hq := hlt prog w
    wp_walk using hq
    exact ⟨_, rfl, by simpa using hr⟩
  case fin =>
   rintro ⟨b1, b2⟩ s' ⟨ha, rfl, hx'⟩
   simp only at ha
   subst ha
   cases hx'
   wp_walk
   exact ⟨_, rfl, by simpa [Builtin.Tuple.tupleCompareSizes] using hr⟩
  case h => exact ⟨rfl, rfl, hx⟩
end
theorem PK {A : Around} {s : Shared} {l b : Addr} {us vs : Array Value} {c : Bool} (hl : IsTup s.heap l us) (hb : IsTup s.heap b vs) (hu : A.units < cLine) (hx : w4 A.in1 s (decide (us.size ≤ vs.size)) (us.toList.zip vs.toList) c) :
  DF A s (.ref l) (.ref b) c := by
 intro prog w E Q q
 obtain ⟨⟨c1, d1, t1, k1⟩, g1, e1, n, r1⟩ := id hl
 obtain ⟨⟨c2, d2, t2, k2⟩, g2, e2, m, r2⟩ := id hb
 simp only at e1 r1 e2 r2
 subst e1 r1 e2 r2
 exact richCompare_meets_room (op := .LtE) ⟨_, g1, rfl⟩ ⟨_, g2, rfl⟩ PySem.F.slot_tuple_le PySem.F.entry_tuple_le (PySem.F.args_tuple_le_2 _ _) (OX l b us vs n m d1 d2 k1 k2 c) ⟨g1, g2, hx, (fun x => nomatch x), q⟩ hu
section
variable {s : Shared}
theorem PC {A : Around} {lt : PV → PV → Option Bool} {n : Nat} : ∀ {xs ys : List PV} {us vs : List Value} {c : Bool} {fin : Bool}, bP s.heap xs us → bP s.heap ys vs → (∀ x ∈ xs, iV n x = true) → (∀ x ∈ ys, iV n x = true) → (∀ x ∈ xs, ∀ y ∈ ys, ∀ u v, Lies s.heap x u → Lies s.heap y v → SeqAt.EqAt A s u v (dP x y) ∧ ∀ b, lt y x = some b → DF A s u v (!b)) →
  fin = decide (us.length ≤ vs.length) → fU lt ys xs = some c → w4 A s fin (us.zip vs) (!c) := by
 intro xs
 induction xs with
 | nil =>
  intro ys us vs c fin h1 h2 p1 p2 hk hf h
  cases h1
  cases h2 <;> (cases h; rw [hf]; exact .done)
 | cons x xs ih =>
  intro ys us vs c fin h1 h2 p1 p2 hk hf h
  cases h1 with
  | cons r1 rr1 =>
   cases h2 with
   | nil => cases h; rw [hf]; exact .done
   | @cons y _ ys _ r2 rr2 =>
    obtain ⟨he, hl⟩ := hk x List.mem_cons_self y List.mem_cons_self _ _ r1 r2
    have px := p1 x List.mem_cons_self
    have py := p2 y List.mem_cons_self
    unfold fU at h
    cases e : dP x y with
    | true =>
     rw [e] at he
     have exy := qD px py e
     subst exy
     rw [if_pos e] at h
     exact .same he (ih rr1 rr2 (fun a ha => p1 a (List.mem_cons_of_mem _ ha)) (fun a ha => p2 a (List.mem_cons_of_mem _ ha)) (fun a ha b hb => hk a (List.mem_cons_of_mem _ ha) b (List.mem_cons_of_mem _ hb)) (by rw [hf]; simp) h)
    | false =>
     rw [e] at he
     have e' : ¬ dP y x = true := fun z => by
      have := qD py px z
      subst this
      rw [z] at e
      cases e
     rw [if_neg e'] at h
     exact .less he (hl c h)
theorem OD : ∀ (n : Nat) (A : Around) {p q : PV} {v u : Value} {b : Bool}, A.units + n < cLine → iV n p = true → iV n q = true → Lies s.heap p v → Lies s.heap q u → kN n q p = some b → DF A s v u (!b) := by
 have hs : ∀ (A : Around) {p q : PV} {v u : Value} {b : Bool} (x y : Str), p = .str x → q = .str y → Lies s.heap p v → Lies s.heap q u → some (decide (y.cps.toList < x.cps.toList)) = some b → DF A s v u (!b) := by
  rintro A p q v u b x y rfl rfl h1 h2 h; cases h; cases h1; cases h2; exact fun prog w E Q q => PySem.P.le_str q
 have hi : ∀ (A : Around) {p q : PV} {v u : Value} {b : Bool} (x y : Int), p = .int x → q = .int y → Lies s.heap p v → Lies s.heap q u → some (decide (y < x)) = some b → DF A s v u (!b) := by
  rintro A p q v u b x y rfl rfl h1 h2 h; cases h; cases h1; cases h2
  exact fun prog w E Q q => PyProof.Rows.le_int (by rw [show decide (x ≤ y) = !decide (y < x) by rw [← decide_not]; exact decide_eq_decide.mpr (by omega)]; exact q)
 intro n
 induction n with
 | zero =>
  intro A p q v u b hu o1 o2 h1 h2 h
  cases p with
  | str x =>
   cases q with
   | str y => exact hs A x y rfl rfl h1 h2 h
   | _ => cases h
  | int x =>
   cases q with
   | int y => exact hi A x y rfl rfl h1 h2 h
   | _ => cases h
  | _ => cases q <;> cases h
 | succ n ih =>
  intro A p q v u b hu o1 o2 h1 h2 h
  cases p with
  | str x =>
   cases q with
   | str y => exact hs A x y rfl rfl h1 h2 h
   | _ => cases h
  | int x =>
   cases q with
   | int y => exact hi A x y rfl rfl h1 h2 h
   | _ => cases h
  | tup xs =>
   cases q with
   | tup ys =>
    cases h1 with
    | tup t1 l1 =>
     cases h2 with
     | tup t2 l2 =>
      have hin : A.in1.units = A.units + 1 := rfl
      have o1 : xs.all (iV n) = true := o1
      have o2 : ys.all (iV n) = true := o2
      refine PK t1 t2 (by omega) ?_
      simpa using PC (A := A.in1) (s := s) l1 l2 (List.all_eq_true.mp o1) (List.all_eq_true.mp o2) (fun x hx y hy u v a b => ⟨qC n A.in1 (by omega) (iF (List.all_eq_true.mp o1 x hx)) (iF (List.all_eq_true.mp o2 y hy)) a b, fun c hc => ih A.in1 (by omega) (List.all_eq_true.mp o1 x hx) (List.all_eq_true.mp o2 y hy) a b hc⟩) rfl h
   | _ => cases h
  | _ => cases q <;> cases h
end
section
variable {X : Cx} {k : Nat}
noncomputable def FZ : R2 := fun x y H Q => ∃ p q b, Tr H p x ∧ Tr H q y ∧ iV 3 p = true ∧ iV 3 q = true ∧ kN 3 q p = some b ∧ Q (.bl (!b)) H
theorem OU (hr : eA k X.A) : iK X (compareOp .LtE) FZ := by
 intro pins s σ H x y v u Q I rx ry h
 obtain ⟨p, q, b, h1, h2, o1, o2, hb, hQ⟩ := h
 exact OD 3 X.A (by have := hr.un; omega) o1 o2 ((Red.rep (h1.rep (K := X.K) (Z := DQ))).lies I (iF o1) rx) ((Red.rep (h2.rep (K := X.K) (Z := DQ))).lies I (iF o2) ry) hb _ _ _ _ (bG I hQ rfl)
end
end L2
namespace My
open PySem L2
noncomputable abbrev EX : Str := Str.ofString "abcdefghijklmnopqrstuvwxyz0123456789"
noncomputable def JI (c : Nat) : Bool := !(Builtin.Str.occurrences EX ⟨#[c]⟩ 0 EX.length 1).isEmpty
noncomputable def bT (x : Str) : Bool := decide (1 ≤ (x.length : Int)) && decide ((x.length : Int) ≤ 12) && x.cps.toList.all JI
noncomputable def fJ : V → Bool
 | .str x => bT x
 | _ => false
theorem HI {v : V} (h : ∀ x, v ≠ .str x) : fJ v = false := by
 cases v <;> first | rfl | exact absurd rfl (h _)
noncomputable def uC : Sp := fun vs H Q _ => ∃ v k, vs = [v] ∧ Tg H v k ∧ ∀ H', aG H H' → Q (.bl (fJ v)) H'
noncomputable def jX : V → Bool
 | .int i => decide (0 ≤ i) && decide (i ≤ 99999999)
 | _ => false
noncomputable def BN : Sp := fun vs H Q _ => ∃ v k, vs = [v] ∧ Tg H v k ∧ Q (.bl (decide (k = .int))) H
noncomputable def FT : Sp := fun vs H Q _ => ∃ v k, vs = [v] ∧ Tg H v k ∧ Q (.bl (jX v)) H
theorem J7 {H : Hp} {v : V} {k : Kd} (h : QA H v k) (n : k ≠ .int) : jX v = false := by
 cases k with
 | aZ => cases (show v = .aZ from h); rfl
 | bl => obtain ⟨_, rfl⟩ := h; rfl
 | int => exact absurd rfl n
 | str => obtain ⟨_, rfl⟩ := h; rfl
 | lst => obtain ⟨_, _, rfl, _⟩ := h; rfl
 | tup => obtain ⟨_, _, rfl, _⟩ := h; rfl
 | j4 => obtain ⟨_, _, _, rfl, _⟩ := h; rfl
noncomputable def JH (c : Nat) : Bool := (!decide ((⟨#[c]⟩ : Str).cps.toList < (Str.ofString " ").cps.toList)) && (!decide ((Str.ofString "~").cps.toList < (⟨#[c]⟩ : Str).cps.toList))
noncomputable def gU : V → Bool
 | .str x => !decide (60 < (x.length : Int)) && x.cps.toList.all JH
 | _ => false
theorem IH {v : V} (h : ∀ x, v ≠ .str x) : gU v = false := by
 cases v <;> first | rfl | exact absurd rfl (h _)
noncomputable def CP : Sp := fun vs H Q _ => ∃ v k, vs = [v] ∧ Tg H v k ∧ ∀ H', aG H H' → Q (.bl (gU v)) H'
theorem HA (z : Str) : List.all (List.map (fun c => JH c) z.cps.toList) id = z.cps.toList.all JH := by
 rw [List.all_map]; rfl
theorem IC (z : Str) : List.all (List.map (fun c => JI c) z.cps.toList) id = z.cps.toList.all JI := by
 rw [List.all_map]; rfl
theorem eX {A B : Prop} (h : A) : if (!false) = true then A else B := by rw [if_pos (show (!false) = true from rfl)]; exact h
theorem dO {A B : Prop} (h : B) : if (!true) = true then A else B := by rw [if_neg (show ¬ (!true) = true from Bool.false_ne_true)]; exact h
noncomputable def m9 (H : Hp) (v : V) : Bool := match kA H v with
 | some xs => !decide (9 < (xs.length : Int)) && xs.all fJ
 | none => false
noncomputable def BA (H : Hp) : List V → Bool
 | [n, d, h, r] => fJ n && (jX d && (gU h && m9 H r))
 | _ => false
noncomputable def fW (H : Hp) (v : V) : Bool := match kA H v with
 | some xs => BA H xs
 | none => false
noncomputable def LW : List Str := [Str.ofString "come", Str.ofString "go"]
noncomputable def NW : List Str := [Str.ofString "split", Str.ofString "free", Str.ofString "read", Str.ofString "unread"]
noncomputable abbrev JW : Str := Str.ofString "join"
theorem zB {H : Hp} {xs : List V} (h : xs.length ≠ 4) : BA H xs = false := by
 match xs, h with
 | [], _ => rfl
 | [_], _ => rfl
 | [_, _], _ => rfl
 | [_, _, _], _ => rfl
 | [_, _, _, _], h => exact absurd rfl h
 | _ :: _ :: _ :: _ :: _ :: _, _ => rfl
theorem LX {H H' : Hp} {v : V} (t : r6 0 H v) (s : Kp H H') : m9 H' v = m9 H v := by obtain ⟨k, t⟩ := t; unfold m9; rw [t.GZ s]
theorem L3 {c : V} {r : List V} : rT (c :: r) 0 = some c := bI (j := 0) rfl
noncomputable def RY (f : Hp → V → Bool) (n : Nat) : Sp := fun vs H Q _ => ∃ v, vs = [v] ∧ r6 n H v ∧ ∀ H', aG H H' → Q (.bl (f H v)) H'
end My
namespace My
open PySem L2 Mr PySem.NumText
noncomputable abbrev BL : Str := Str.ofString " "
noncomputable abbrev CM : Str := Str.ofString ","
noncomputable abbrev TC : Str := Str.ofString "-"
noncomputable abbrev NL : Str := Str.ofString "\n"
noncomputable abbrev MJ : Str := Str.ofString "0123456789"
structure Lt where
 n : Str
 d : Int
 h : Str
 row : List Str
noncomputable def Lt.P (x : Lt) : PV := .tup [.str x.n, .int x.d, .str x.h, .tup (x.row.map .str)]
noncomputable def Lt.ok (x : Lt) : Bool := bT x.n && (jX (.int x.d) && (gU (.str x.h) && (!decide (9 < (x.row.length : Int)) && x.row.all bT)))
noncomputable def zC (c : Nat) : Bool := !(Builtin.Str.occurrences MJ ⟨#[c]⟩ 0 MJ.length 1).isEmpty
noncomputable def mF (z : Str) : Bool := !decide (z = Str.ofString "") && z.cps.toList.all zC
noncomputable def j8 (z : Str) : Bool := decide (z.cps.toList.head? = some 48) && !decide (z = Str.ofString "0")
noncomputable def gN (z : Str) : Option Int := if (decide (9 < (z.length : Int)) || !mF z) = true then none else if j8 z = true then none else intText? z
noncomputable def iS (s : Str) : List Str := if s = TC then [] else Txt.split s CM
noncomputable def QR : List Str → Option Lt
 | n :: d :: r :: h :: hs => match gN d with
  | some k => if Lt.ok ⟨n, k, Txt.join BL (h :: hs), iS r⟩ = true then some ⟨n, k, Txt.join BL (h :: hs), iS r⟩ else none
  | none => none
 | _ => none
noncomputable def fO (z : Str) : Option Lt := QR (Txt.split z BL)
inductive Dd where
 | lt (w : Str) (x : Lt)
 | ws (l : List Str)
noncomputable def Dd.P : Dd → PV
 | .lt w x => .tup [.str w, x.P]
 | .ws l => .tup (l.map .str)
noncomputable def R6 : List Str → Bool
 | [a, b] => if LW.contains a = true then false else NW.contains a && bT b
 | [a, b, c] => decide (a = JW) && (bT b && (bT c && !decide (b = c)))
 | _ => false
noncomputable def N1 (row : List Str) : Str := if row.isEmpty = true then Str.ofString "-" else Txt.join (Str.ofString ",") row
noncomputable def SU (n : Str) (d : Int) (h : Str) (row : List Str) : Str := n ++ Str.ofString " " ++ Str.ofString (toString d) ++ Str.ofString " " ++ N1 row ++ Str.ofString " " ++ h
noncomputable def Lt.T (x : Lt) : Str := SU x.n x.d x.h x.row
noncomputable def Dd.T : Dd → Str
 | .lt w x => w ++ Str.ofString " " ++ x.T
 | .ws l => Txt.join (Str.ofString " ") l
noncomputable def Dd.ok : Dd → Bool
 | .lt w x => LW.contains w && x.ok
 | .ws l => R6 l
theorem G7 : NL.cps.toList = [10] := by decide +kernel
theorem J8 (c : Nat) : JI c = true ↔ c ∈ EX.cps.toList := by unfold JI; rw [StrLaws.found_one]; exact decide_eq_true_iff
theorem CQ (c : Nat) : zC c = true ↔ c ∈ MJ.cps.toList := by unfold zC; rw [StrLaws.found_one]; exact decide_eq_true_iff
theorem tK : MJ.cps.toList = [48, 49, 50, 51, 52, 53, 54, 55, 56, 57] := by decide +kernel
theorem gT {x : Str} (h : bT x = true) : 1 ≤ x.length ∧ x.length ≤ 12 := by
 unfold bT at h
 rw [Bool.and_eq_true, Bool.and_eq_true] at h
 have h1 := of_decide_eq_true h.1.1
 have h2 := of_decide_eq_true h.1.2
 omega
theorem HB {x : Str} (h1 : 1 ≤ x.length) (h2 : x.length ≤ 12) (h : ∀ c ∈ x.cps.toList, c ∈ EX.cps.toList) : bT x = true := by
 unfold bT
 rw [Bool.and_eq_true, Bool.and_eq_true, List.all_eq_true]
 exact ⟨⟨decide_eq_true (by omega), decide_eq_true (by omega)⟩, fun c hc => (J8 c).mpr (h c hc)⟩
theorem CK (c : Nat) : JH c = true ↔ 32 ≤ c ∧ c ≤ 126 := by
 unfold JH
 rw [show (Str.ofString " ").cps.toList = [32] by decide +kernel, show (Str.ofString "~").cps.toList = [126] by decide +kernel]
 simp only [Bool.and_eq_true, Bool.not_eq_true', decide_eq_false_iff_not]
 show (¬ [c] < [32]) ∧ (¬ [126] < [c]) ↔ _
 rw [List.cons_lt_cons_iff, List.cons_lt_cons_iff]
 simp
theorem zT {a y : Str} {c : Nat} {r : List Nat} (hy : y.cps.toList = c :: r) (ha : ∀ c ∈ y.cps.toList, c < 128) (hc : c ∉ a.cps.toList) : Txt.split a y = [a] := by
 have h := EA (a := a.cps.toList) (y := y.cps.toList) (c := c) (by rw [hy]; rfl) ha hc
 rw [FF, FF] at h
 exact h
theorem dN (y : Str) (ps : List Str) : Txt.join y ps = Str.join y ps := by
 show Builtin.Str.glued _ ps = _
 rw [StrLaws.glued_eq_join]
theorem NR : ∀ c ∈ NL.cps.toList, c < 128 := by decide +kernel
end My
namespace My
open PySem L2 Mr PySem.NumText
theorem tQ (a b : Str) : (a ++ b).cps.toList = a.cps.toList ++ b.cps.toList := by rw [Str.cps_append, Array.toList_append]
structure Lt.Ok (x : Lt) : Prop where
 nm : bT x.n = true
 d0 : 0 ≤ x.d
 d1 : x.d ≤ 99999999
 hd : x.h.length ≤ 60 ∧ ∀ c ∈ x.h.cps.toList, 32 ≤ c ∧ c ≤ 126
 lr : x.row.length ≤ 9
 xX : ∀ z ∈ x.row, bT z = true
theorem Lt.GQ (x : Lt) : x.ok = true ↔ x.Ok := by
 unfold Lt.ok
 simp only [Bool.and_eq_true]
 constructor
 ·rintro ⟨h1, h2, h3, h4, h5⟩
  simp only [jX, gU, Bool.and_eq_true, decide_eq_true_eq, Bool.not_eq_true', decide_eq_false_iff_not, List.all_eq_true] at h2 h3 h4 h5
  exact ⟨h1, h2.1, h2.2, ⟨by omega, fun c hc => (CK c).mp (h3.2 c hc)⟩, by omega, h5⟩
 ·intro h
  simp only [jX, gU, Bool.and_eq_true, decide_eq_true_eq, Bool.not_eq_true', decide_eq_false_iff_not, List.all_eq_true]
  exact ⟨h.nm, ⟨h.d0, h.d1⟩, ⟨by have := h.hd.1; omega, fun c hc => (CK c).mpr (h.hd.2 c hc)⟩, by have := h.lr; omega, h.xX⟩
theorem kT (y : Str) : Txt.join y [] = Str.empty := by rw [dN]; rfl
theorem mem_join {y : Str} {c : Nat} : ∀ {ps : List Str}, c ∈ (Txt.join y ps).cps.toList → c ∈ y.cps.toList ∨ ∃ p ∈ ps, c ∈ p.cps.toList
 | [], h => by rw [kT] at h; cases h
 | [p], h => by rw [dN] at h; exact .inr ⟨p, List.mem_cons_self, h⟩
 | p :: q :: r, h => by
  have ih := mem_join (y := y) (c := c) (ps := q :: r)
  rw [dN] at h ih
  have h : c ∈ (p ++ y ++ Str.join y (q :: r)).cps.toList := h
  rw [tQ, tQ, List.mem_append, List.mem_append] at h
  rcases h with (h | h) | h
  ·exact .inr ⟨p, List.mem_cons_self, h⟩
  ·exact .inl h
  ·rcases ih h with h | ⟨z, h1, h2⟩
   ·exact .inl h
   ·exact .inr ⟨z, List.mem_cons_of_mem _ h1, h2⟩
theorem eT (z y : Str) : Txt.join y (Txt.split z y) = z := by rw [dN]; exact StrLaws.join_split z y
theorem nL (z y : Str) : ∃ a r, Txt.split z y = a :: r := by
 cases e : Txt.split z y with
 | nil => exact absurd e (FL z y)
 | cons a r => exact ⟨a, r, rfl⟩
end My
namespace L2
open PySem PySem.Spec PyProof.Rows
section
variable {P : Program} {w : World} {B : Around} {FE : Value → Shared → Prop} {s : Shared}
theorem KU {z p q r t m n : Addr} {i j : Nat} {us vs : Array Value} {u v a b : Value} {R : Value → Shared → Prop} (D : ZipApart z p q r t m n)
  (gz : IsZip s.heap z p q .none) (gp : IsPair s.heap p (.ref r) (.ref t)) (gq : IsPair s.heap q a b)
  (g1 : s.heap.IsTupleIter r m i) (g2 : s.heap.IsTupleIter t n j) (gm : s.heap.IsTuple m us) (gn : s.heap.IsTuple n vs) (eu : us[i]? = some u) (ev : vs[j]? = some v)
  (k : ∀ h', IsZip h' z p q (rawInt s.heap.objs.size) → IsPair h' q u v → h'.IsTupleIter r m (i + 1) → h'.IsTupleIter t n (j + 1) → IsPair h' s.heap.objs.size u v → h'.objs.size = s.heap.objs.size + 1 →
   (∀ c o, c ≠ z → c ≠ q → c ≠ r → c ≠ t → s.heap.get? c = some o → h'.get? c = some o) → R (.ref s.heap.objs.size) { s with heap := h' }) :
  wpAny (model P w) B (Builtin.«zip.__next__» ⟨[.ref z], []⟩) (fun fin s' => ∃ v, fin = .done (.ret v) ∧ R v s') FE s := by
 show wpAny _ _ (field (.ref z) 2 >>= _) _ _ _
 refine wpAny_bind (wpAny_field gz rfl (x := .bool false) rfl ?_)
 show wpAny _ _ (field (.ref z) 3 >>= _) _ _ _
 refine wpAny_bind (wpAny_field gz rfl (x := .ref p) rfl ?_)
 refine wpAny_bind (wpAny_seqItems gp rfl ?_)
 show wpAny _ _ (Builtin.SmallTypes.ownedTupleIsFree (.ref z) >>= _) _ _ _
 refine wpAny_bind ?_
 unfold Builtin.SmallTypes.ownedTupleIsFree
 refine wpAny_bind (wpAny_field gz rfl (x := .none) rfl (wpAny_pure ?_))
 simp only [if_true]
 refine wpAny_bind (wpAny_rule ?_)
 refine wpAny_bind (wpAny_field gz rfl (x := .ref q) rfl ?_)
 refine wpAny_bind (wpAny_setField_rec gz (by simp) fun h1 z1 s1 => ?_)
 replace z1 : IsZip h1 z p q .ellipsis := z1
 refine wpAny_bind ?_
 simp only [List.zipIdx_cons, List.zipIdx_nil, List.forIn_cons, List.forIn_nil]
 refine wpAny_bind (wpAny_bind (wpAny_onRaise ?_))
 show wpAny _ _ (Builtin.SmallTypes.nextOf (.ref r) >>= _) _ _ _
 refine wpAny_bind (dX (g1.extBut s1.extBut D.i1z) (gm.extBut s1.extBut D.l1z) eu fun h2 y2 s2 => wpAny_pure ?_)
 have q2 : IsPair h2 q a b := s2.extBut _ _ D.TOi1 (s1.extBut _ _ D.TOz gq)
 refine wpAny_bind (wpAny_seqItems q2 rfl ?_)
 refine wpAny_bind (wpAny_updateSeq_pair q2 fun h3 q3 s3 => ?_)
 replace q3 : IsPair h3 q u b := q3
 refine wpAny_bind (wpAny_letGo (wpAny_pure ?_))
 refine wpAny_bind (wpAny_bind (wpAny_onRaise ?_))
 show wpAny _ _ (Builtin.SmallTypes.nextOf (.ref t) >>= _) _ _ _
 refine wpAny_bind (dX (((g2.extBut s1.extBut D.i2z).extBut s2.extBut D.i12.symm).extBut s3.extBut D.TOi2.symm)
  (((gn.extBut s1.extBut D.l2z).extBut s2.extBut D.l2i1).extBut s3.extBut D.l2TO) ev fun h4 y4 s4 => wpAny_pure ?_)
 have q4 : IsPair h4 q u b := s4.extBut _ _ D.TOi2 q3
 refine wpAny_bind (wpAny_seqItems q4 rfl ?_)
 refine wpAny_bind (wpAny_updateSeq_pair q4 fun h5 q5 s5 => ?_)
 replace q5 : IsPair h5 q u v := q5
 refine wpAny_bind (wpAny_letGo (wpAny_pure (wpAny_pure ?_)))
 refine wpAny_bind (wpAny_seqItems q5 rfl ?_)
 refine wpAny_bind (wpAny_newTuple ?_)
 have esz : h5.objs.size = s.heap.objs.size := by rw [s5.1, s4.1, s3.1, s2.1, s1.1]
 have z5 : IsZip h5 z p q .ellipsis := s5.extBut _ _ D.TOz.symm (s4.extBut _ _ D.i2z.symm (s3.extBut _ _ D.TOz.symm (s2.extBut _ _ D.i1z.symm z1)))
 have k5 : ∀ c o, c ≠ z → c ≠ q → c ≠ r → c ≠ t → s.heap.get? c = some o → h5.get? c = some o := fun c o c1 c2 c3 c4 e =>
  s5.extBut _ _ c2 (s4.extBut _ _ c4 (s3.extBut _ _ c2 (s2.extBut _ _ c3 (s1.extBut _ _ c1 e))))
 have i5 : h5.IsTupleIter r m (i + 1) := ((y2.extBut s3.extBut D.TOi1.symm).extBut s4.extBut D.i12).extBut s5.extBut D.TOi1.symm
 have j5 : h5.IsTupleIter t n (j + 1) := y4.extBut s5.extBut D.TOi2.symm
 have zlt : z < h5.objs.size := Heap.lt_size z5
 show wpAny _ _ (Builtin.SmallTypes.ownedTupleHandOut (.ref z) (.ref h5.objs.size) >>= _) _ _ _
 refine wpAny_bind ?_
 unfold Builtin.SmallTypes.ownedTupleHandOut
 have z6 : IsZip (h5.push { cls := .type "tuple", data := .seq #[u, v] }) z p q .ellipsis := Heap.get?_push_of_some _ z5
 refine wpAny_bind (wpAny_setField_rec z6 (by simp) fun h7 z7 s7 => ?_)
 replace z7 : IsZip h7 z p q (rawInt h5.objs.size) := z7
 refine wpAny_setField_rec z7 (by simp) fun h8 z8 s8 => ?_
 replace z8 : IsZip h8 z p q (rawInt h5.objs.size) := z8
 have up : ∀ c o, c ≠ z → h5.get? c = some o → h8.get? c = some o := fun c o c1 e => s8.extBut _ _ c1 (s7.extBut _ _ c1 (Heap.get?_push_of_some _ e))
 have t8 : IsPair h8 h5.objs.size u v := s8.extBut _ _ (Nat.ne_of_gt zlt) (s7.extBut _ _ (Nat.ne_of_gt zlt) (Heap.get?_push_size _ rfl))
 have e8 : h8.objs.size = h5.objs.size + 1 := by rw [s8.1, s7.1, Heap.size_push]
 rw [esz] at z8 t8 e8
 refine wpAny_pure ⟨_, rfl, ?_⟩
 show R (.ref h5.objs.size) _
 rw [esz]
 exact k h8 z8 (up _ _ D.TOz q5) (i5.at fun o e => up _ o D.i1z e) (j5.at fun o e => up _ o D.i2z e) t8 e8 fun c o c1 c2 c3 c4 e => up c o c1 (k5 c o c1 c2 c3 c4 e)
theorem PU {z p q r t m n : Addr} {i j : Nat} {us vs : Array Value} {a b : Value} {R : Fin → Shared → Prop} (hh : B.handled = none) (D : ZipApart z p q r t m n)
  (gz : IsZip s.heap z p q .none) (gp : IsPair s.heap p (.ref r) (.ref t)) (gq : IsPair s.heap q a b)
  (g1 : s.heap.IsTupleIter r m i) (gm : s.heap.IsTuple m us) (eu : us[i]? = none)
  (k : ∀ h' e, (∀ c o, c ≠ z → c ≠ q → c ≠ r → c ≠ t → s.heap.get? c = some o → h'.get? c = some o) → (∃ o, h'.get? e = some o ∧ o.cls = .type "StopIteration") → FE (.ref e) { s with heap := h' }) :
  wpAny (model P w) B (Builtin.«zip.__next__» ⟨[.ref z], []⟩) R FE s := by
 show wpAny _ _ (field (.ref z) 2 >>= _) _ _ _
 refine wpAny_bind (wpAny_field gz rfl (x := .bool false) rfl ?_)
 show wpAny _ _ (field (.ref z) 3 >>= _) _ _ _
 refine wpAny_bind (wpAny_field gz rfl (x := .ref p) rfl ?_)
 refine wpAny_bind (wpAny_seqItems gp rfl ?_)
 show wpAny _ _ (Builtin.SmallTypes.ownedTupleIsFree (.ref z) >>= _) _ _ _
 refine wpAny_bind ?_
 unfold Builtin.SmallTypes.ownedTupleIsFree
 refine wpAny_bind (wpAny_field gz rfl (x := .none) rfl (wpAny_pure ?_))
 simp only [if_true]
 refine wpAny_bind (wpAny_rule ?_)
 refine wpAny_bind (wpAny_field gz rfl (x := .ref q) rfl ?_)
 refine wpAny_bind (wpAny_setField_rec gz (by simp) fun h1 z1 s1 => ?_)
 replace z1 : IsZip h1 z p q .ellipsis := z1
 refine wpAny_bind ?_
 simp only [List.zipIdx_cons, List.zipIdx_nil, List.forIn_cons, List.forIn_nil]
 refine wpAny_bind (wpAny_bind (wpAny_onRaise ?_))
 show wpAny _ _ (Builtin.SmallTypes.nextOf (.ref r) >>= _) _ _ _
 refine wpAny_bind (fP hh (g1.extBut s1.extBut D.i1z) (gm.extBut s1.extBut D.l1z) eu fun h2 e s2 he => ?_)
 obtain ⟨oe, g, ce⟩ := he
 have z2 : IsZip h2 z p q .ellipsis := s2 _ _ D.i1z.symm z1
 have ez : e ≠ z := fun x => by subst x; rw [z2] at g; cases g; simp at ce
 refine wpAny_setField_rec z2 (by simp) fun h3 _ s3 => k h3 e (fun c o c1 _ c3 _ x => s3.extBut _ _ c1 (s2 _ _ c3 (s1.extBut _ _ c1 x))) ⟨oe, s3.extBut _ _ ez g, ce⟩
theorem LK {z p q r t m n : Addr} {i j : Nat} {us vs : Array Value} {u v a b : Value} {R : Option Value → Shared → Prop} (D : ZipApart z p q r t m n)
  (gz : IsZip s.heap z p q .none) (gp : IsPair s.heap p (.ref r) (.ref t)) (gq : IsPair s.heap q a b)
  (g1 : s.heap.IsTupleIter r m i) (g2 : s.heap.IsTupleIter t n j) (gm : s.heap.IsTuple m us) (gn : s.heap.IsTuple n vs) (eu : us[i]? = some u) (ev : vs[j]? = some v)
  (k : ∀ h', IsZip h' z p q (rawInt s.heap.objs.size) → IsPair h' q u v → h'.IsTupleIter r m (i + 1) → h'.IsTupleIter t n (j + 1) → IsPair h' s.heap.objs.size u v → h'.objs.size = s.heap.objs.size + 1 →
   (∀ c o, c ≠ z → c ≠ q → c ≠ r → c ≠ t → s.heap.get? c = some o → h'.get? c = some o) → R (some (.ref s.heap.objs.size)) { s with heap := h' }) :
  wpAny (model P w) B (pyNext (.ref z)) R FE s := by
 have T : s.TypeIs (.ref z) "zip" := ⟨_, gz, rfl⟩
 unfold pyNext
 exact wpAny_bind (wpAny_attempt (wpAny_callSpecial?_slot (name := Str.ofString "__next__") T F.slot_zip_next
  (wpAny_call_entry F.slot_zip_next T F.entry_zip_next
   (KU D gz gp gq g1 g2 gm gn eu ev fun h' a1 a2 a3 a4 a5 a6 a7 => wpAny_pure (k h' a1 a2 a3 a4 a5 a6 a7)) (F.args_zip_next_1 _))))
theorem LB {z p q r t m n : Addr} {i j : Nat} {us vs : Array Value} {a b : Value} {R : Option Value → Shared → Prop} (hh : B.handled = none) (D : ZipApart z p q r t m n)
  (gz : IsZip s.heap z p q .none) (gp : IsPair s.heap p (.ref r) (.ref t)) (gq : IsPair s.heap q a b)
  (g1 : s.heap.IsTupleIter r m i) (gm : s.heap.IsTuple m us) (eu : us[i]? = none)
  (k : ∀ h', (∀ c o, c ≠ z → c ≠ q → c ≠ r → c ≠ t → s.heap.get? c = some o → h'.get? c = some o) → R none { s with heap := h' }) : wpAny (model P w) B (pyNext (.ref z)) R FE s := by
 have T : s.TypeIs (.ref z) "zip" := ⟨_, gz, rfl⟩
 unfold pyNext
 refine wpAny_bind (wpAny_attempt (wpAny_callSpecial?_slot (name := Str.ofString "__next__") T F.slot_zip_next
  (wpAny_call_entry F.slot_zip_next T F.entry_zip_next (PU (j := j) (n := n) (vs := vs) hh D gz gp gq g1 gm eu fun h' e hk he => ?_) (F.args_zip_next_1 _))))
 obtain ⟨o, ho, hc⟩ := he
 refine wpAny_bind (wpAny_isInstance (T := "StopIteration") (b := true) ⟨o, ho, hc⟩ isSubtype_stop ?_)
 exact wpAny_pure (k _ hk)
end
theorem O4 (m n : Addr) (us vs : Array Value) :
  Meets (Builtin.«zip.__new__» ⟨[.type "zip", .ref m, .ref n], []⟩) (fun _ R s => s.heap.IsTuple m us ∧ s.heap.IsTuple n vs ∧
   ∀ h', IsZip h' (s.heap.objs.size + 4) (s.heap.objs.size + 2) (s.heap.objs.size + 3) .none → IsPair h' (s.heap.objs.size + 2) (.ref s.heap.objs.size) (.ref (s.heap.objs.size + 1)) →
    IsPair h' (s.heap.objs.size + 3) .none .none → h'.IsTupleIter s.heap.objs.size m 0 → h'.IsTupleIter (s.heap.objs.size + 1) n 0 →
    (∀ c o, s.heap.get? c = some o → h'.get? c = some o) → R (.ok (.ret (.ref (s.heap.objs.size + 4)))) { s with heap := h' }) :=
 .of_wp fun prog w A R s h => by
  obtain ⟨hp, g, d, tk, os⟩ := s; obtain ⟨gm, gn, h⟩ := h
  have hsub := sub_zip
  have L1 : Heap.IsTuple (Shared.heap ⟨hp, g, d, tk, os⟩) m us := gm
  have L2 : Heap.IsTuple (Shared.heap ⟨hp.push { cls := .type "tuple_iterator", data := .fields #[.ref m, .int 0 0] }, g, d, tk, os⟩) n vs := let ⟨o, e, r⟩ := gn; ⟨o, Heap.get?_push_of_some _ e, r⟩
  dsimp only at h
  let h1 := hp.push { cls := .type "tuple_iterator", data := .fields #[.ref m, .int 0 0] }
  let h2 := h1.push { cls := .type "tuple_iterator", data := .fields #[.ref n, .int 0 0] }
  let h3 := h2.push { cls := .type "tuple", data := .seq #[.ref hp.objs.size, .ref h1.objs.size] }
  let h4 := h3.push { cls := .type "tuple", data := .seq #[.none, .none] }
  let h5 := h4.push { cls := .type "zip", data := .fields #[.none, .bool false, .bool false, .ref h2.objs.size, .ref h3.objs.size] }
  have z1 : h1.objs.size = hp.objs.size + 1 := Heap.size_push ..
  have z2 : h2.objs.size = hp.objs.size + 2 := by rw [Heap.size_push, z1]
  have z3 : h3.objs.size = hp.objs.size + 3 := by rw [Heap.size_push, z2]
  have z4 : h4.objs.size = hp.objs.size + 4 := by rw [Heap.size_push, z3]
  have a1 : h1.get? hp.objs.size = some _ := Heap.get?_push_size _ rfl
  have a2 : h2.get? h1.objs.size = some _ := Heap.get?_push_size _ rfl
  have a3 : h3.get? h2.objs.size = some _ := Heap.get?_push_size _ rfl
  have a4 : h4.get? h3.objs.size = some _ := Heap.get?_push_size _ rfl
  have a5 : h5.get? h4.objs.size = some _ := Heap.get?_push_size _ rfl
  have u1 : ∀ c o, hp.get? c = some o → h1.get? c = some o := fun c o e => Heap.get?_push_of_some _ e
  have u2 : ∀ c o, h1.get? c = some o → h2.get? c = some o := fun c o e => Heap.get?_push_of_some _ e
  have u3 : ∀ c o, h2.get? c = some o → h3.get? c = some o := fun c o e => Heap.get?_push_of_some _ e
  have u4 : ∀ c o, h3.get? c = some o → h4.get? c = some o := fun c o e => Heap.get?_push_of_some _ e
  have u5 : ∀ c o, h4.get? c = some o → h5.get? c = some o := fun c o e => Heap.get?_push_of_some _ e
  rw [z1] at a2 a3
  rw [z2] at a3 a5
  rw [z3] at a4 a5
  have fin : R (.ok (.ret (.ref h4.objs.size))) ⟨h5, g, d, tk, os⟩ := by
   rw [z4] at a5 ⊢
   exact h h5 a5 (u5 _ _ (u4 _ _ a3)) (u5 _ _ a4) ⟨_, u5 _ _ (u4 _ _ (u3 _ _ (u2 _ _ a1))), rfl, rfl⟩ ⟨_, u5 _ _ (u4 _ _ (u3 _ _ a2)), rfl, rfl⟩ fun c o e => u5 _ _ (u4 _ _ (u3 _ _ (u2 _ _ (u1 _ _ e))))
  wp_walk using wpAny_pyIter_tuple L1, wpAny_pyIter_tuple L2
  exact ⟨_, rfl, fin⟩
section
variable {P : Program} {w : World} {B : Around} {FE : Value → Shared → Prop} {s : Shared}
theorem KW {m n : Addr} {us vs : Array Value} {R : Value → Shared → Prop} (gm : s.heap.IsTuple m us) (gn : s.heap.IsTuple n vs)
  (h : ∀ h', IsZip h' (s.heap.objs.size + 4) (s.heap.objs.size + 2) (s.heap.objs.size + 3) .none → IsPair h' (s.heap.objs.size + 2) (.ref s.heap.objs.size) (.ref (s.heap.objs.size + 1)) →
   IsPair h' (s.heap.objs.size + 3) .none .none → h'.IsTupleIter s.heap.objs.size m 0 → h'.IsTupleIter (s.heap.objs.size + 1) n 0 →
   (∀ c o, s.heap.get? c = some o → h'.get? c = some o) → R (.ref (s.heap.objs.size + 4)) { s with heap := h' }) :
  wpAny (model P w) B (call (.type "zip") [.ref m, .ref n]) R FE s := by
 refine callType_new F.called_zip (by decide) (F.typeCall_zip_2 _ _) (F.newCall_zip_2 _ _) (fun obj => F.args_object_init_3 obj _ _) F.entry_zip_new
  (O4 m n us vs) ⟨gm, gn, fun h' a1 a2 a3 a4 a5 a6 => ?_⟩
 exact ⟨⟨_, a1, rfl⟩, h h' a1 a2 a3 a4 a5 a6⟩
end
noncomputable def KA (K : PySem.W.Frag) (a b : Addr) : It :=
  ⟨fun i H => ∃ xs ys x y, dZ K H a xs ∧ dZ K H b ys ∧ xs[i]? = some x ∧ ys[i]? = some y,
   fun i H v H' => ∃ t, H t = none ∧ v = .ref t ∧ ∀ xs ys, dZ K H a xs → dZ K H b ys → ∃ x y, xs[i]? = some x ∧ ys[i]? = some y ∧ H' = upd H t (.tup [x, y]),
   fun i H => ∃ xs, dZ K H a xs ∧ xs.length ≤ i⟩
theorem C3 {P : Program} {w : World} {K : PySem.W.Frag} {elts : List Expr} {x1} {pos : Pos} (a b z p q r t : Addr) (nd : [z, p, q, r, t].Nodup) (na : a ≠ q) (nb : b ≠ q) :
  Turn P w K (.Tuple elts x1 pos) (KA K a b) [z, p, q, r, t] z (fun i h => IsZip h z p q .none ∧ IsPair h p (.ref r) (.ref t) ∧ (∃ u v, IsPair h q u v) ∧ h.IsTupleIter r a i ∧ h.IsTupleIter t b i) := by
 have nd' := nd
 simp only [List.nodup_cons, List.mem_cons, List.not_mem_nil, or_false, not_or, List.nodup_nil, not_false_eq_true, and_true] at nd'
 obtain ⟨⟨zp, zq, zr, zt⟩, ⟨pq, pr, pt⟩, ⟨qr, qt⟩, rt⟩ := nd'
 have apart : ∀ {s : Shared} {i : Nat} {ua ub : Array Value} {u v : Value}, IsZip s.heap z p q .none → s.heap.IsTupleIter r a i → s.heap.IsTupleIter t b i → s.heap.IsTuple a ua → s.heap.IsTuple b ub → ZipApart z p q r t a b := by
  intro s i ua ub u v hz ⟨o1, e1, c1, _⟩ ⟨o2, e2, c2, _⟩ ⟨oa, ea, ca, _⟩ ⟨ob, eb, cb, _⟩
  have key : ∀ (r : Addr) (o : Obj) (n : String) (l : Addr) (ol : Obj), s.heap.get? r = some o → o.cls = .type n → n ≠ "tuple" → s.heap.get? l = some ol → ol.cls = .type "tuple" → l ≠ r := fun r o n l ol hr cr hn hl cl zz => by
   subst zz
   rw [hr] at hl; cases hl
   rw [cr] at cl
   exact hn (Value.type.inj cl)
  exact ⟨Ne.symm zp, Ne.symm zq, Ne.symm zr, Ne.symm zt, pq, pr, pt, qr, qt, rt, key z _ _ a oa hz rfl (by decide) ea ca, na, key r _ _ a oa e1 c1 (by decide) ea ca, key t _ _ a oa e2 c2 (by decide) ea ca,
   key z _ _ b ob hz rfl (by decide) eb cb, nb, key r _ _ b ob e1 c1 (by decide) eb cb, key t _ _ b ob e2 c2 (by decide) eb cb⟩
 exact {
  mem := by simp
  obj := fun i h st c hb => by
   obtain ⟨hz, hp, ⟨u, v, hq⟩, ⟨o1, h1, _, e1⟩, ⟨o2, h2, _, e2⟩⟩ := st
   simp only [List.mem_cons, List.not_mem_nil, or_false] at hb
   rcases hb with r | r | r | r | r
   ·subst r; exact ⟨_, hz, fun v z => by cases z⟩
   ·subst r; exact ⟨_, hp, fun v z => by cases z⟩
   ·subst r; exact ⟨_, hq, fun v z => by cases z⟩
   ·subst r; exact ⟨o1, h1, fun v z => by rw [e1] at z; cases z⟩
   ·subst r; exact ⟨o2, h2, fun v z => by rw [e2] at z; cases z⟩
  keep := fun i h h' st k => by
   obtain ⟨hz, hp, ⟨u, v, hq⟩, h1, h2⟩ := st
   exact ⟨k z (by simp) _ hz, k p (by simp) _ hp, ⟨u, v, k q (by simp) _ hq⟩, h1.at fun o e => k r (by simp) o e, h2.at fun o e => k t (by simp) o e⟩
  item := by
   intro X hP hw hK hc i pins s σ H E I hf st hg
   subst hP hw hK
   obtain ⟨xs, ys, x, y, hqa, hqb, hx, hy⟩ := hg
   obtain ⟨ia, rva, pa, _⟩ := I.tuple hqa
   obtain ⟨ib, rvb, pb, _⟩ := I.tuple hqb
   obtain ⟨u, hu, ru⟩ := rva.get hx
   obtain ⟨v, hv, rv⟩ := rvb.get hy
   obtain ⟨hz, hp, ⟨c1, c2, hq⟩, h1, h2⟩ := st
   have D := apart (u := u) (v := v) hz h1 h2 pa pb
   have lt : ∀ (r : Addr) (o : Obj), s.heap.get? r = some o → s.heap.objs.size ≠ r := fun r o e zz => by
    have := Heap.lt_size e; rw [← zz] at this; exact Nat.lt_irrefl _ this
   have n0 : s.heap.objs.size ∉ [z, p, q, r, t] := by
    simp only [List.mem_cons, List.not_mem_nil, or_false, not_or]
    exact ⟨lt z _ hz, lt p _ hp, lt q _ hq, let ⟨o, e, _⟩ := h1; lt r o e, let ⟨o, e, _⟩ := h2; lt t o e⟩
   refine LK D hz hp hq h1 h2 pa pb (u := u) (v := v) (by simpa using hu) (by simpa using hv) fun h' hz' hq' h1' h2' hT hsz hk => ?_
   refine ⟨_, rfl, wpAny_letOwnedTupleGo_zip (s := { s with heap := h' }) hz' fun hh2 hz2 sb => ?_⟩
   have hk2 : ∀ c o, c ∉ [z, p, q, r, t] → s.heap.get? c = some o → hh2.get? c = some o := fun c o hb e => by
    simp only [List.mem_cons, List.not_mem_nil, or_false, not_or] at hb
    exact sb.extBut c o hb.1 (hk c o hb.1 hb.2.2.1 hb.2.2.2.1 hb.2.2.2.2 e)
   have hfr : H s.heap.objs.size = none := I.bY.fresh (Nat.le_refl _)
   have hT2 : hh2.get? s.heap.objs.size = some { cls := .type "tuple", data := .seq #[u, v] } := sb.extBut _ _ (lt z _ hz) hT
   have hp2 : IsPair hh2 p (.ref r) (.ref t) := sb.extBut _ _ (Ne.symm zp) (hk p _ (Ne.symm zp) pq pr pt hp)
   have hq2 : IsPair hh2 q u v := sb.extBut _ _ (Ne.symm zq) hq'
   have h12 := h1'.extBut sb.extBut (Ne.symm zr)
   have h22 := h2'.extBut sb.extBut (Ne.symm zt)
   have I2 : Inv X pins σ (upd H s.heap.objs.size (.tup [x, y])) { s with heap := hh2, toks := s.toks } := by
    refine I.SQ hk2 hf hfr n0 ⟨by show 2 ≤ sizeLine; decide, [u, v], .cons ru (.cons rv .nil), mV.of hT2⟩ (fun c hb o e => ?_)
    simp only [List.mem_cons, List.not_mem_nil, or_false] at hb
    rcases hb with g | g | g | g | g
    ·subst g; exact ⟨_, hz2⟩
    ·subst g; exact ⟨_, hp2⟩
    ·subst g; exact ⟨_, hq2⟩
    ·subst g; exact let ⟨o, e, _⟩ := h12; ⟨o, e⟩
    ·subst g; exact let ⟨o, e, _⟩ := h22; ⟨o, e⟩
   refine ⟨.ref s.heap.objs.size, _, I2, rfl, ⟨s.heap.objs.size, hfr, rfl, fun xs' ys' hx' hy' => ⟨x, y, by rw [I.kS hx' hqa]; exact hx, by rw [I.kS hy' hqb]; exact hy, rfl⟩⟩, ⟨hz2, hp2, ⟨u, v, hq2⟩, h12, h22⟩, fun c hb => ?_⟩
   rw [aL fun zz => n0 (by rw [← zz]; exact hb)]
   exact (hf c hb).1
  done := by
   intro X hP hw hK hc i pins s σ H E I hf st hg
   subst hP hw hK
   obtain ⟨xs, hqa, hend⟩ := hg
   obtain ⟨ia, rva, pa, _⟩ := I.tuple hqa
   obtain ⟨hz, hp, ⟨c1, c2, hq⟩, h1, h2⟩ := st
   have l1 := rva.length
   obtain ⟨o1, e1, cc1, _⟩ := id h1
   obtain ⟨o2, e2, cc2, _⟩ := id h2
   obtain ⟨oa, ea, ca, _⟩ := id pa
   have key : ∀ (r : Addr) (o : Obj) (n : String) (l : Addr) (ol : Obj), s.heap.get? r = some o → o.cls = .type n → n ≠ "tuple" → s.heap.get? l = some ol → ol.cls = .type "tuple" → l ≠ r := fun r o n l ol hr cr hn hl cl zz => by
    subst zz
    rw [hr] at hl; cases hl
    rw [cr] at cl
    exact hn (Value.type.inj cl)
   have D : ZipApart z p q r t a a := ⟨Ne.symm zp, Ne.symm zq, Ne.symm zr, Ne.symm zt, pq, pr, pt, qr, qt, rt, key z _ _ a oa hz rfl (by decide) ea ca, na, key r _ _ a oa e1 cc1 (by decide) ea ca, key t _ _ a oa e2 cc2 (by decide) ea ca,
    key z _ _ a oa hz rfl (by decide) ea ca, na, key r _ _ a oa e1 cc1 (by decide) ea ca, key t _ _ a oa e2 cc2 (by decide) ea ca⟩
   refine LB (j := 0) (vs := #[]) (I.ok.hd hc) D hz hp hq h1 pa (by simp; omega) fun h' hk => ⟨rfl, I.tZ (t' := s.toks) (fun c o hb e => ?_) hf⟩
   simp only [List.mem_cons, List.not_mem_nil, or_false, not_or] at hb
   exact hk c o hb.1 hb.2.2.1 hb.2.2.2.1 hb.2.2.2.2 e
  self := fun _ _ _ _ _ st h => wpAny_pyIter_zip st.1 h }
section
variable {X : Cx} {elts : List Expr} {x1 : Nat} {tpos : Pos}
noncomputable def wG (K : PySem.W.Frag) (ta : TA) : TI := fun σ H R => ta σ H fun vs H1 => ∃ a b xs ys, vs = [.ref a, .ref b] ∧ dZ K H1 a xs ∧ dZ K H1 b ys ∧ R (KA K a b) H1
theorem PQ (K : PySem.W.Frag) {a b : Expr} {ta : TA} {p pos : Pos} (hg : Gl X "zip") (hm : X.mg "zip" = none) (ha : PA X [a, b] ta) (hK : X.K = K := by rfl) (hs : starEach [a, b] X.env = [(false, eval a X.env), (false, eval b X.env)] := by rfl) (hs2 : starEach [b] X.env = [(false, eval b X.env)] := by rfl) :
  PI X (.Tuple elts x1 tpos) (.Call (.Name "zip" p) [a, b] [] pos) (wG K ta) := by
 subst hK
 intro pins s σ H R I h
 refine Call_ (nP I hg hm OI (PyProof.Rows.callWith_type1 (cL (ha pos pins s σ H _ I h) fun us s1 ⟨vs, H1, I1, r1, q1⟩ => ?_) (by rw [hs, hs2]) (by rw [hs2]; rfl)))
 obtain ⟨l1, l2, xs, ys, e, hqa, hqb, q⟩ := q1
 subst e
 obtain ⟨u, v, rfl, rx, ry⟩ := vals2 r1
 cases rx
 cases ry
 obtain ⟨ia, rva, pa, _⟩ := I1.tuple hqa
 obtain ⟨ib, rvb, pb, _⟩ := I1.tuple hqb
 have lta : l1 < s1.heap.objs.size := let ⟨_, e, _⟩ := pa; Heap.lt_size e
 have ltb : l2 < s1.heap.objs.size := let ⟨_, e, _⟩ := pb; Heap.lt_size e
 refine KW pa pb fun h' hz hp hq h1 h2 hk => ?_
 have I2 : Inv X pins σ H1 { s1 with heap := h' } := I1.kept (t' := s1.toks) hk
 refine wpAny_pyIter_zip (s := { s1 with heap := h' }) hz ?_
 refine ⟨s1.heap.objs.size + 4, [s1.heap.objs.size + 4, s1.heap.objs.size + 2, s1.heap.objs.size + 3, s1.heap.objs.size, s1.heap.objs.size + 1], _, _, H1, rfl, I2, C3 l1 l2 _ _ _ _ _ (by simp) (Nat.ne_of_lt (Nat.lt_of_lt_of_le lta (Nat.le_add_right _ 3))) (Nat.ne_of_lt (Nat.lt_of_lt_of_le ltb (Nat.le_add_right _ 3))), ⟨hz, hp, ⟨_, _, hq⟩, h1, h2⟩, fun c hb => ?_, q⟩
 have hc : s1.heap.objs.size ≤ c := by
  simp only [List.mem_cons, List.not_mem_nil, or_false] at hb
  rcases hb with r | r | r | r | r <;> (rw [r]; first | exact Nat.le_refl _ | exact Nat.le_add_right _ _)
 exact I1.qY hc (I1.bY.fresh hc)
end
section
variable {k : Nat} {d9 : List Nat} {g : TG} {tt : TT} {te : TE} {σ : St} {H : Hp} {Q : VK} {l : Addr}
theorem D3 {K : PySem.W.Frag} {a b : Addr} {xs ys : List V} (hA : dZ K H a xs) (hB : dZ K H b ys) (hxy : xs.length = ys.length) (f : Nat → V) (Good : St → Prop) (h0 : Good (cN k d9 σ)) (hl : H l = none) (hlen : xs.length < sizeLine)
  (ht : ∀ (i : Nat) x y t σ H1 zs (N : St → Hp → Prop), xs[i]? = some x → ys[i]? = some y → Good σ → aG H H1 → H1 t = none → (upd H1 t (.tup [x, y])) l = some (.lst zs) → zs.length < sizeLine → t ≠ l →
   (∀ σ' H3, Good σ' → QS l (upd H1 t (.tup [x, y])) H3 → H3 l = some (.lst (zs ++ [f i])) → N σ' H3) → cM g tt te l (.ref t) σ (upd H1 t (.tup [x, y])) N)
  (hd : ∀ H', aG H H' → H' l = some (.lst ((List.range xs.length).map f)) → Q (.ref l) H') : jJ (KA K a b) g tt te l (cN k d9 σ) (upd H l (.lst [])) Q := by
 refine kM (KA K a b) xs.length (fun _ => true) f Good h0 hl hlen (fun H' s => ⟨xs, hA.same s, Nat.le_refl _⟩) (fun i H' hi s => ⟨xs, ys, xs[i], ys[i]'(by omega), hA.same s, hB.same s, by simp [hi], by simp⟩) (fun i v σ H1 H2 zs N hi gd s e hz y hN => ?_)
  (fun H' s e => hd H' s (by rw [e, List.filter_eq_self.mpr fun _ _ => rfl]))
 obtain ⟨t, ht0, rfl, hq⟩ := y
 obtain ⟨x, y, hx, hy, rfl⟩ := hq xs ys (hA.same s) (hB.same s)
 have tl : t ≠ l := fun z => by rw [z, e] at ht0; cases ht0
 refine ht i x y t σ H1 zs N hx hy gd s ht0 (by rw [aL (Ne.symm tl)]; exact e) hz tl fun σ' H3 g3 b e3 => hN σ' H3 g3 (fun c o h1 h2 => b c o (aG.upd ht0 c o h1) h2) ?_
 rw [e3, if_pos rfl]
end
end L2
namespace L2
open PySem PySem.Spec PyProof.Rows
section
variable {P : Program} {w : World} {B : Around} {FE : Value → Shared → Prop}
theorem BD {it l : Addr} {us : Array Value} (ne : l ≠ it) : ∀ (n i : Nat) (s : Shared) (R : List Value → Shared → Prop), s.heap.IsListIter it l i → s.heap.IsList l us → i + n ≤ us.size →
  (∀ h', h'.IsListIter it l (i + n) → Heap.SameBut it s.heap h' → R ((us.toList.drop i).take n) { s with heap := h' }) → wpAny (model P w) B (draw (.ref it) n) R FE s
 | 0, i, s, R, g, _, _, k => by
  show wpAny _ _ (pure []) R FE s
  exact wpAny_pure (by simpa using k s.heap g (Heap.SameBut.refl ..))
 | n + 1, i, s, R, g, gl, le, k => by
  have lt : i < us.size := by omega
  show wpAny _ _ (pyNext (.ref it) >>= _) R FE s
  refine wpAny_bind (wpAny_pyNext_list_item g gl (x := us[i]) (by simp [lt]) fun h1 g1 s1 => ?_)
  refine wpAny_bind (wpAny_holding (BD ne n (i + 1) _ _ g1 (gl.extBut s1.extBut ne) (by omega) fun h2 g2 s2 => wpAny_pure ?_))
  have e : us.toList.drop i = us[i] :: us.toList.drop (i + 1) := by simp [List.drop_eq_getElem_cons, lt]
  have z := k h2 (by rw [show i + (n + 1) = i + 1 + n by omega]; exact g2) (s1.trans s2)
  rw [e, List.take_succ_cons] at z
  exact z
theorem HF {s : Shared} {l : Addr} {us : Array Value} {R : List Value → Shared → Prop} (hh : B.handled = none) (gl : s.heap.IsList l us)
  (k : ∀ h', Heap.ExtBut s.heap.objs.size s.heap h' → R us.toList { s with heap := h' }) : wpAny (model P w) B (unpackItems (.ref l) us.size none) R FE s := by
 have ne : l ≠ s.heap.objs.size := by obtain ⟨o, ho, _⟩ := gl; exact Nat.ne_of_lt (Heap.lt_size ho)
 unfold unpackItems
 refine wpAny_bind ?_
 ·unfold notIterableAtAll
  refine wpAny_bind (wpAny_specialOf gl.typeIs slot_list_iter.lookup ?_)
  refine wpAny_pure ?_
  simp only [Bool.false_eq_true, if_false]
  refine wpAny_bind (wpAny_holding (wpAny_pyIter_list gl ?_))
  refine wpAny_bind (wpAny_holding (BD ne us.size 0 _ _ ⟨_, Heap.get?_push_size _ rfl, rfl, rfl⟩ (gl.push _) (by omega) fun h1 g1 s1 => ?_))
  have all : List.take us.size (List.drop 0 us.toList) = us.toList := by
   rw [List.drop_zero]; exact List.take_of_length_le (by simp)
  rw [all]
  rw [if_neg (by simp)]
  have gl1 : h1.IsList l us := (gl.push _).extBut s1.extBut ne
  refine wpAny_bind (wpAny_holding (wpAny_pyNext_list_end hh g1 gl1 (by simp) fun h2 e2 => ?_))
  simp only [Option.isSome_none, Bool.false_eq_true, if_false]
  exact wpAny_pure (k h2 fun b o hb e => e2 b o hb (s1.extBut b o hb (Heap.get?_push_of_some _ e)))
theorem DH {s : Shared} {env : Env} {elts : List Expr} {x1} {pos : Pos} {l : Addr} {us : Array Value} {R : Unit → Shared → Prop} (hh : B.handled = none) (gl : s.heap.IsList l us)
  (hn : (assignEach elts env).length = us.size) (hst : (assignEach elts env).findIdx? (·.1) = none)
  (k : ∀ h', Heap.ExtBut s.heap.objs.size s.heap h' → wpAny (model P w) B (assignInOrder ((assignEach elts env).map (·.2)) us.toList) R FE { s with heap := h' }) :
  wpAny (model P w) B (assign (.Tuple elts x1 pos) env (.ref l)) R FE s := by
 rw [arm_assign_Tuple]
 refine wpAny_bind (wpAny_standAt ?_)
 unfold unpack
 rw [hn, hst]
 exact wpAny_bind (wpAny_holding (HF hh gl k))
end
section
variable {X : Cx} {pos : Pos}
noncomputable def E1 (K : PySem.W.Frag) (n : Nat) (t : JF) : TG := fun v σ H Q => ∃ a xs, v = .ref a ∧ aX K H a xs ∧ xs.length = n ∧ t xs σ H Q
theorem LN (K : PySem.W.Frag) {es : List Expr} {k : Nat} {t : JF} {n : Nat} (hc : X.calm = true) (h : P0 X es t) (hK : X.K = K := by rfl)
  (hn : (assignEach es X.env).length = n := by rfl) (hst : (assignEach es X.env).findIdx? (·.1) = none := by rfl) : PG X (.Tuple es k pos) (E1 K n t) := by
 subst hK
 intro pins s σ H v u Q I r hw
 obtain ⟨a, xs, e1, hq, hl, hw⟩ := hw
 subst e1
 cases r
 obtain ⟨its, rv, pl, hz⟩ := I.list hq
 refine DH (I.ok.hd hc) pl.isList (by simp [hn, ← hl, rv.length]) hst fun h' hx => ?_
 have I1 : Inv X pins σ H { s with heap := h' } := I.kept (t' := s.toks) fun b o e => hx b o (Nat.ne_of_lt (Heap.lt_size e)) e
 exact h pins _ σ H xs _ Q I1 (by simpa using rv) hw
end
section
variable {k : Nat} {d9 : List Nat} {g : TG} {tt : TT} {te : TE} {σ : St} {H : Hp} {Q : VK} {l : Addr}
end
end L2
namespace My
open PySem L2 Mr
theorem vC {H H' : Hp} (k : Kp H H') : tO H H' := fun _ _ e => k.tup e
noncomputable def vZ (K : PySem.W.Frag) : R2 := fun x y H Q => ∃ a ys ps p, y = .ref a ∧ H a = some (.lst ys) ∧ hW H ps ys ∧ Tr H p x ∧ mU 8 p = true ∧ ps.all (mU 8) = true ∧ Q (.bl (!ps.any fun z => dP z p)) H
theorem O0 {X : Cx} {k : Nat} (K : PySem.W.Frag) (hr : eA k X.A) (hK : X.K = K := by rfl) : iK X (compareOp .NotIn) (vZ K) := by
 intro pins s σ H x y v u Q I rx ry ⟨a, ys, ps, p, e, h, t1, t2, o1, o2, q⟩
 subst e
 exact LV K hr hK pins s σ H x _ v u Q I rx ry ⟨p, .lst ps, ps, Red.rep t2.rep, Red.rep (.lst (.inl h) (fun z => z) t1.rep), rfl, o1, o2, q⟩
noncomputable abbrev S5 : Str := Str.ofString "abz09"
noncomputable abbrev EM : Str := Str.ofString ""
theorem J5 : ∀ c ∈ S5.cps.toList, c ∈ EX.cps.toList := by decide +kernel
theorem jY : EM.cps.toList = [] := by decide +kernel
structure Nm (H : Hp) (p g l : Addr) (zs : List Str) : Prop where
 el : H l = some (.lst (zs.map V.str))
 np : l ≠ p
 ng : l ≠ g
 lo : 1 ≤ zs.length
 hi : zs.length ≤ 6
 nm : ∀ z ∈ zs, bT z = true
theorem Nm.fr {H H' : Hp} {p g l : Addr} {zs : List Str} (h : Nm H p g l zs) (f : Fr p g H H') : Nm H' p g l zs := ⟨f _ _ h.el h.np h.ng, h.np, h.ng, h.lo, h.hi, h.nm⟩
noncomputable def GL : Sp := fun vs H Q _ => ∃ p g : Addr, vs = [.ref p] ∧ gI H p g ∧ ∀ (x : Str) H', bT x = true → gI H' p g → Fr p g H H' → Q (.str x) H'
noncomputable def B1 : Sp := fun vs H Q _ => ∃ p g : Addr, vs = [.ref p, .int 6] ∧ gI H p g ∧ ∀ (l : Addr) (zs : List Str) H', H l = none → Nm H' p g l zs → gI H' p g → Fr p g H H' → Q (.ref l) H'
noncomputable def MK : Sp := fun vs H Q _ => ∃ p g : Addr, vs = [.ref p] ∧ gI H p g ∧ ∀ (d : Int) H', 0 ≤ d → d ≤ 99999999 → gI H' p g → Fr p g H H' → Q (.int d) H'
noncomputable def MU (x : Str) : Prop := x.length = 1 ∧ ∀ c ∈ x.cps.toList, 32 ≤ c ∧ c ≤ 126
noncomputable def y6 : Sp := fun vs H Q _ => ∃ p g : Addr, vs = [.ref p] ∧ gI H p g ∧ ∀ (x : Str) H', MU x → gI H' p g → Fr p g H H' → Q (.str x) H'
structure FN (H : Hp) (v : V) (x : Lt) : Prop where
 tr : Tr H x.P v
 ok : x.Ok
theorem FN.kp {H H' : Hp} {v : V} {x : Lt} (h : FN H v x) (k : tO H H') : FN H' v x := ⟨h.tr.kp k, h.ok⟩
structure TR {α : Type} (P : α → PV) (ok : α → Prop) (m : Nat) (H : Hp) (v : V) (xs : List α) : Prop where
 tr : Tr H (.tup (xs.map P)) v
 ok : ∀ x ∈ xs, ok x
 BV : xs.length ≤ m
structure S1 (H : Hp) (v : V) (xs : List Lt) : Prop where
 tp : TR Lt.P Lt.Ok 9 H v xs
 up : (xs.map Lt.P).Pairwise fun a b => kN 3 a b = some true
noncomputable def pF {α : Type} (R : Hp → V → α → Prop) : Sp := fun vs H Q _ => ∃ (p g l : Addr) (zs : List Str), vs = [.ref p, .ref l] ∧ gI H p g ∧ Nm H p g l zs ∧ ∀ (v : V) (x : α) H', R H' v x → gI H' p g → Fr p g H H' → Q v H'
theorem yO {H : Hp} : ∀ {row : List Str} {vs : List V}, hW H (row.map PV.str) vs → vs = row.map V.str
 | [], _, .nil => rfl
 | x :: xs, _, .cons h r => by cases h; rw [yO r]; rfl
theorem FN.of {H : Hp} {a r : Addr} {x : Lt} (ha : H a = some (.tup [.str x.n, .int x.d, .str x.h, .ref r])) (hr : H r = some (.tup (x.row.map V.str))) (ok : x.Ok) : FN H (.ref a) x :=
 ⟨.tup ha (.cons (.str _) (.cons (.int _) (.cons (.str _) (.cons (.tup hr hW.strs) .nil)))), ok⟩
theorem s1 : BL.length = 1 := by decide +kernel
theorem P9 : CM.length = 1 := by decide +kernel
theorem R0 : TC.length = 1 := by decide +kernel
theorem EY : NL.length = 1 := by decide +kernel
theorem s0 : EM.length = 0 := by decide +kernel
theorem bN (a b : Str) : (a ++ b).length = a.length + b.length := strLen_append a b
theorem zS {ys : List Str} {c : Nat} (h : ∀ y ∈ ys, y.length ≤ c) : (ys.map (·.length)).sum ≤ ys.length * c := by
 induction ys with
 | nil => simp
 | cons y ys ih =>
  have h1 := ih fun z hz => h z (List.mem_cons_of_mem _ hz)
  have h2 := h y List.mem_cons_self
  rw [List.map_cons, List.sum_cons, List.length_cons, Nat.succ_mul]
  omega
theorem join_le (z : Str) (ys : List Str) : (Txt.join z ys).length ≤ (ys.map (·.length)).sum + ys.length * z.length := by
 rw [dN]
 exact StrLaws.join_length_le z ys
theorem xH {z : Str} {ys : List Str} (h : ys ≠ []) (h1 : ∀ y ∈ ys, 1 ≤ y.length) : 1 ≤ (Txt.join z ys).length := by
 rw [dN]
 match ys, h, h1 with
 | [x], _, h1 => exact h1 x List.mem_cons_self
 | x :: y :: r, _, h1 =>
  show 1 ≤ (x ++ z ++ Str.join z (y :: r)).length
  rw [bN, bN]
  have := h1 x List.mem_cons_self
  omega
theorem PR {row : List Str} (lr : row.length ≤ 9) (nm : ∀ z ∈ row, bT z = true) : (row.map (·.length)).sum + row.length * (Str.ofString ",").length ≤ 117 := by
 have h := zS (c := 12) fun z hz => (gT (nm z hz)).2
 rw [P9]
 omega
theorem K9 {row : List Str} (lr : row.length ≤ 9) (nm : ∀ z ∈ row, bT z = true) : (N1 row).length ≤ 117 := by
 unfold N1
 split
 ·rw [R0]; omega
 ·exact Nat.le_trans (join_le _ _) (PR lr nm)
theorem FY {d : Int} (d0 : 0 ≤ d) (d1 : d ≤ 99999999) : (Str.ofString (toString d)).length ≤ 9 := PyProof.Rows.toString_length_le d0 (by decide) (by omega)
theorem KI {d : Int} (d0 : 0 ≤ d) (d1 : d ≤ 99999999) : d.natAbs.log2 < 1920 := by
 by_cases h : d.natAbs = 0
 ·rw [h]; decide
 ·refine Nat.lt_of_lt_of_le ((Nat.log2_lt h).mpr (show d.natAbs < 2 ^ 30 by omega)) (by decide)
theorem J9 {α : Type} {T : α → Str} {xs : List α} {c m : Nat} {z : Str} (h : ∀ x ∈ xs, (T x).length ≤ c) (hl : xs.length ≤ m) (hz : z.length ≤ 2) : ((xs.map T).map (·.length)).sum + (xs.map T).length * z.length ≤ m * (c + 2) := by
 have a := zS (ys := xs.map T) (c := c) fun y hy => by obtain ⟨x, hx, rfl⟩ := List.mem_map.mp hy; exact h x hx
 rw [List.length_map] at a ⊢
 have b : xs.length * z.length ≤ xs.length * 2 := Nat.mul_le_mul_left _ hz
 have c' : xs.length * (c + 2) ≤ m * (c + 2) := Nat.mul_le_mul_right _ hl
 rw [Nat.mul_add] at c'
 omega
theorem N4 {p g : Addr} {H : Hp} {l : Addr} {Z : Str} {k : Nat} {d9 : List Nat} {σ : St} {QQ : VK} (n : Nat) (hσ : cN k d9 σ = [none, some (.str Z), some (.ref p)]) (hp : gI H p g) (hl : H l = none) (hn : n ≤ 1000) (hm : 0 < Z.length) (hZ : Z.length ≤ 1000)
  (hQ : ∀ (zs : List Str) (H' : Hp), H' l = some (.lst (zs.map V.str)) → (∀ z ∈ zs, z.length = 1 ∧ ∀ c ∈ z.cps.toList, c ∈ Z.cps.toList) → zs.length = n → gI H' p g → Fr p g H H' → QQ (.ref l) H') :
  jJ (JG 0 n) (hX 0) wY (pV zD (i8 1) (mR iI [] E0 (dH (i8 2) (dH (JU (fun xs H Q => ∃ z, xs = [.str z] ∧ z.length ≤ sizeLine ∧ Q (.int z.length) H) (dH (i8 1) jN)) jN)))) l (cN k d9 σ) (upd H l (.lst [])) QQ := by
 refine lI 0 n p g (fun _ v => ∃ x : Str, v = .str x ∧ x.length = 1 ∧ ∀ c ∈ x.cps.toList, c ∈ Z.cps.toList) (fun σ => ∃ o, σ = [o, some (V.str Z), some (.ref p)]) ⟨_, hσ⟩ hp hl (by omega) (fun _ _ _ _ h => h) ?_ ?_
 ·rintro i σ H4 xs N hi ⟨o, rfl⟩ hp4 hx hxl b4 hN
  unfold cM
  simp only [C4, oR, pV, PZ, tC, i8, rI, EK, rU, JU, dH, jN, hX, mR, wY, zD, qJ, j6, List.getElem?_cons_zero, List.getElem?_cons_succ, List.set_cons_zero, List.set_cons_succ, Option.some.injEq, V.int.injEq, V.str.injEq, V.ref.injEq, List.cons.injEq, and_true, true_and, exists_eq_left, exists_eq_left', exists_eq_right, exists_and_left, exists_and_right, if_true, and_assoc, reduceCtorEq, false_and, exists_false]
  refine ⟨cF (by omega), p, g, _, rfl, hp4, by omega, by omega, fun d H5 d0 d1 hp5 b5 => ?_⟩
  obtain ⟨c, hcm, hc⟩ := mK (z := Z) d0 d1
  exact ⟨_, rfl, cF (by omega), _, hc, hN _ _ _ ⟨_, rfl⟩ ⟨_, rfl, rfl, fun c' h' => by simp at h'; rw [h']; exact hcm⟩ hp5 b5⟩
 ·intro ys H4 hyl hR hy hp4 b4
  have back : ∀ {ys : List V}, (∀ y ∈ ys, ∃ x : Str, y = .str x ∧ x.length = 1 ∧ ∀ c ∈ x.cps.toList, c ∈ Z.cps.toList) → ∃ zs : List Str, ys = zs.map V.str ∧ (∀ z ∈ zs, z.length = 1 ∧ ∀ c ∈ z.cps.toList, c ∈ Z.cps.toList) := by
   intro ys
   induction ys with
   | nil => exact fun _ => ⟨[], rfl, fun _ h => nomatch h⟩
   | cons y ys ih =>
    intro h
    obtain ⟨zs, e, hz⟩ := ih fun z hz => h z (List.mem_cons_of_mem _ hz)
    obtain ⟨x, rfl, hx⟩ := h y List.mem_cons_self
    refine ⟨x :: zs, by rw [e]; rfl, fun z hz' => ?_⟩
    rcases List.mem_cons.mp hz' with r | r
    ·rw [r]; exact hx
    ·exact hz z r
  obtain ⟨zs, e, hz⟩ := back hR
  subst e
  rw [List.length_map] at hyl
  exact hQ zs H4 hy hz hyl hp4 b4
theorem rP {Pr : Str → Prop} : ∀ {ys : List V}, (∀ y ∈ ys, ∃ x : Str, y = .str x ∧ Pr x) → ∃ zs : List Str, ys = zs.map V.str ∧ (∀ z ∈ zs, Pr z)
 | [], _ => ⟨[], rfl, fun _ h => nomatch h⟩
 | y :: ys, h => by
  obtain ⟨zs, e, hz⟩ := rP (ys := ys) fun z hz => h z (List.mem_cons_of_mem _ hz)
  obtain ⟨x, rfl, hx⟩ := h y List.mem_cons_self
  refine ⟨x :: zs, by rw [e]; rfl, fun z hz' => ?_⟩
  rcases List.mem_cons.mp hz' with r | r
  ·rw [r]; exact hx
  ·exact hz z r
theorem DM {Z : Str} {zs : List Str} (hZ : ∀ c ∈ Z.cps.toList, c ∈ EX.cps.toList) (hz : ∀ z ∈ zs, z.length = 1 ∧ ∀ c ∈ z.cps.toList, c ∈ Z.cps.toList) (h0 : 1 ≤ zs.length) (h1 : zs.length ≤ 12) : bT (Txt.join EM zs) = true := by
 refine HB (xH (by intro z; rw [z] at h0; simp at h0) fun y hy => by rw [(hz y hy).1]; exact Nat.le_refl _) ?_ fun c hc => ?_
 ·have h := join_le EM zs
  rw [mL fun y hy => (hz y hy).1, s0] at h
  omega
 ·rcases mem_join hc with h | ⟨q, hq, h⟩
  ·rw [jY] at h; cases h
  ·exact hZ c ((hz q hq).2 c h)
theorem vI {K : PySem.W.Frag} {p g : Addr} {H : Hp} {xs : List V} {m : Nat} {n : Int} {R : V → Hp → Prop} (hp : gI H p g) (hm : xs.length = m) (hn : (m : Int) = n) (h0 : 0 < m) (hb : m ≤ 1000) (h : ∀ v H2, v ∈ xs → gI H2 p g → Fr p g H H2 → R v H2) :
  m ≤ sizeLine ∧ ∀ l, H l = none → iI [.ref p, .int n] (upd H l (.lst xs)) (fun y H2 => ∃ x x_1, y = .int x_1 ∧ aX K H2 l x ∧ ∃ x_2, rT x x_1 = some x_2 ∧ R x_2 H2) E0 := by
 subst hm hn
 refine ⟨cF (by omega), fun l hl => ⟨p, g, _, rfl, hp.new hl, by omega, by omega, fun d H1 d0 d1 hp1 f1 => ?_⟩⟩
 have hl1 := f1 l _ aB (hp.G0 hl).symm (hp.neg hl).symm
 obtain ⟨v, hv1, hv2⟩ := vP d0 d1
 exact ⟨_, _, rfl, aX.of hl1, _, hv2, h v H1 hv1 hp1 ((Fr.of (aG.upd hl)).trans f1)⟩
theorem BJ {K : PySem.W.Frag} {p g l : Addr} {H : Hp} {zs : List Str} {R : V → Hp → Prop} (hN : Nm H p g l zs) (hp : gI H p g) (h : ∀ z H2, z ∈ zs → gI H2 p g → Nm H2 p g l zs → Fr p g H H2 → R (.str z) H2) :
  ∃ x, aX K H l x ∧ iI [.ref p, .int x.length] H (fun y H2 => ∃ x x_1, y = .int x_1 ∧ aX K H2 l x ∧ ∃ x_2, rT x x_1 = some x_2 ∧ R x_2 H2) E0 := by
 have h1 := hN.lo
 have h2 := hN.hi
 refine ⟨_, aX.of hN.el, p, g, _, rfl, hp, by rw [List.length_map]; omega, by rw [List.length_map]; omega, fun d H1 d0 d1 hp1 f1 => ?_⟩
 obtain ⟨v, hv1, hv2⟩ := vP d0 d1
 obtain ⟨z, hz, rfl⟩ := List.mem_map.mp hv1
 have hN1 := hN.fr f1
 exact ⟨_, _, rfl, aX.of hN1.el, _, hv2, h z H1 hz hp1 hN1 f1⟩
theorem QN : IntMulOk (10 ^ Int.toNat 60) (10 ^ Int.toNat 60) := by unfold IntMulOk; decide +kernel
theorem m4 {xs : List V} : pX xs [] = xs.isEmpty := by cases xs <;> rfl
theorem sZ {ns : List Int} : (ns.map V.int).all gE = true := by simp [List.all_map, gE]
theorem T5 {n : Nat} : FX (n + 1) 0 = some 0 := by unfold FX; simp
theorem SS {n : Nat} : seqIndex? 0 (n + 1) = some 0 := by unfold seqIndex?; simp
theorem FU {ns : List Int} {lo hi : Option Int} : ∃ ms : List Int, bZ (ns.map V.int) lo hi = ms.map V.int ∧ ms.length ≤ ns.length := by
 unfold bZ
 rw [List.length_map]
 refine ⟨_, by rw [← List.map_drop, ← List.map_take], ?_⟩
 rw [List.length_take, List.length_drop]
 omega
theorem strAt {row : List Str} {i : Nat} {x : V} (h : (row.map V.str)[i]? = some x) : ∃ n, row[i]? = some n ∧ x = .str n := by
 rw [List.getElem?_map] at h
 cases e : row[i]? with
 | none => rw [e] at h; cases h
 | some n => rw [e] at h; exact ⟨n, rfl, (Option.some.inj h).symm⟩
theorem nY {x : Lt} : iV 3 x.P = true ∧ mU 8 x.P = true := by
 have h : ∀ n, iV (n + 2) x.P = true := fun n => by
  show ([PV.str x.n, PV.int x.d, PV.str x.h, PV.tup (x.row.map PV.str)]).all (iV (n + 1)) = true
  have hr : iV (n + 1) (PV.tup (x.row.map PV.str)) = true := List.all_eq_true.mpr fun p hp => by obtain ⟨z, _, rfl⟩ := List.mem_map.mp hp; cases n <;> rfl
  simp only [List.all_cons, List.all_nil, hr, Bool.and_true]
  rfl
 exact ⟨h 1, iF (h 6)⟩
theorem lD (n : Nat) : ∀ xs ys : List Str, (fU (kN n) (xs.map PV.str) (ys.map PV.str)).isSome = true
 | [], [] => rfl
 | [], _ :: _ => rfl
 | _ :: _, [] => rfl
 | x :: xs, y :: ys => by
  rw [List.map_cons, List.map_cons]
  unfold fU
  split
  ·exact lD n xs ys
  ·cases n <;> rfl
theorem MP (l k : Lt) : (kN 3 l.P k.P).isSome = true := by
 show (fU (kN 2) [PV.str l.n, PV.int l.d, PV.str l.h, PV.tup (l.row.map PV.str)] [PV.str k.n, PV.int k.d, PV.str k.h, PV.tup (k.row.map PV.str)]).isSome = true
 unfold fU
 split
 ·unfold fU
  split
  ·unfold fU
   split
   ·unfold fU
    split
    ·rfl
    ·exact lD 1 _ _
   ·rfl
  ·rfl
 ·rfl
theorem xY (ls : List Lt) : nF 3 (ls.map Lt.P) = true := List.all_eq_true.mpr fun p hp => by
 obtain ⟨l, _, rfl⟩ := List.mem_map.mp hp
 rw [Bool.and_eq_true]
 refine ⟨nY.1, List.all_eq_true.mpr fun q hq => ?_⟩
 obtain ⟨k, _, rfl⟩ := List.mem_map.mp hq
 exact MP l k
theorem sN : ∀ {ps : List PV} {ls : List Lt}, ps.Perm (ls.map Lt.P) → ∃ ks : List Lt, ks.Perm ls ∧ ps = ks.map Lt.P
 | [], ls, h => by have := h.nil_eq; rw [List.eq_nil_of_map_eq_nil this.symm]; exact ⟨[], .refl _, rfl⟩
 | p :: ps, ls, h => by
  obtain ⟨a, l, b, e⟩ : ∃ a l b, ls = a ++ l :: b ∧ l.P = p := by
   obtain ⟨l, hl, e⟩ := List.mem_map.mp (h.mem_iff.mp List.mem_cons_self)
   obtain ⟨a, b, e2⟩ := List.append_of_mem hl
   exact ⟨a, l, b, e2, e⟩
  obtain ⟨e, rfl⟩ := e
  have hp : ls.Perm (l :: (a ++ b)) := by rw [e]; exact List.perm_middle
  obtain ⟨ks, k1, k2⟩ := sN (ps := ps) (ls := a ++ b) ((h.trans (hp.map _)).cons_inv)
  exact ⟨l :: ks, (k1.cons l).trans hp.symm, by rw [k2]; rfl⟩
theorem xR {ls : List Lt} (nd : (ls.map Lt.P).Nodup) : ∃ ks : List Lt, ks.Perm ls ∧ w9 3 (ls.map Lt.P) = ks.map Lt.P ∧ (ks.map Lt.P).Pairwise fun a b => kN 3 a b = some true := by
 obtain ⟨ks, k1, k2⟩ := sN (i0 3 (ls.map Lt.P))
 refine ⟨ks, k1, k2, ?_⟩
 have cm := xY ks
 have s := mT 3 (ls.map Lt.P)
 rw [k2] at s
 have nd2 : (ks.map Lt.P).Nodup := ((k1.map _).nodup_iff).mpr nd
 have key : ∀ {ps : List PV}, (∀ p ∈ ps, p ∈ ks.map Lt.P) → ps.Pairwise (fun a b => rQ 3 a b = true) → ps.Nodup → ps.Pairwise fun a b => kN 3 a b = some true := by
  intro ps
  induction ps with
  | nil => exact fun _ _ _ => .nil
  | cons p ps ih =>
   intro hm hs hn
   have hs := List.pairwise_cons.mp hs
   have hn := List.nodup_cons.mp hn
   refine List.pairwise_cons.mpr ⟨fun q hq => ?_, ih (fun z hz => hm z (List.mem_cons_of_mem _ hz)) hs.2 hn.2⟩
   have hp := hm p List.mem_cons_self
   have hq' := hm q (List.mem_cons_of_mem _ hq)
   rw [oV cm hp hq']
   cases e : jO (code 3 p) (code 3 q) with
   | true => rfl
   | false =>
    have l1 : rQ 3 q p = true := by unfold rQ; rw [e]; rfl
    exact absurd (xC cm hp hq' (hs.1 q hq) l1) fun z => hn.1 (z ▸ hq)
 exact key (fun _ h => h) s nd2
noncomputable def alike : Nat → PV → Bool
 | _, .int _ => true
 | _, .str _ => true
 | _, .bl _ => true
 | _, .aZ => true
 | n + 1, .tup ps => decide (ps.length ≤ 30000) && ps.all (alike n)
 | _, _ => false
noncomputable def PN (n : Nat) : Sp := fun vs H Q _ => ∃ (u v : V) (p : PV), vs = [u, v] ∧ Tr H p u ∧ Tr H p v ∧ alike n p = true ∧ ∀ H', aG H H' → Q (.bl true) H'
theorem zA {n : Nat} {row : List Str} (h : row.length ≤ 30000) : alike (n + 1) (.tup (row.map PV.str)) = true := by
 unfold alike
 rw [Bool.and_eq_true, List.all_eq_true, List.length_map]
 refine ⟨decide_eq_true h, fun p hp => ?_⟩
 obtain ⟨z, _, rfl⟩ := List.mem_map.mp hp
 cases n <;> rfl
theorem yC {n : Nat} {x : Lt} (o : x.Ok) : alike (n + 2) x.P = true := by
 show (decide (_ ≤ 30000) && [PV.str x.n, PV.int x.d, PV.str x.h, PV.tup (x.row.map PV.str)].all (alike (n + 1))) = true
 have := o.lr
 simp only [List.all_cons, List.all_nil, zA (n := n) (row := x.row) (by omega), Bool.and_true]
 rfl
theorem EN {α : Type} {P : α → PV} {n : Nat} {xs : List α} (h : ∀ x ∈ xs, alike n (P x) = true) (hl : xs.length ≤ 30000) : alike (n + 1) (.tup (xs.map P)) = true := by
 unfold alike
 rw [Bool.and_eq_true, List.all_eq_true, List.length_map]
 refine ⟨decide_eq_true hl, fun p hp => ?_⟩
 obtain ⟨z, hz, rfl⟩ := List.mem_map.mp hp
 exact h z hz
theorem p9 : ∀ {n : Nat} {p : PV}, alike n p = true → alike (n + 1) p = true
 | n, .int _, _ => rfl
 | n, .str _, _ => rfl
 | n, .bl _, _ => rfl
 | n, .aZ, _ => rfl
 | 0, .tup _, h => by cases h
 | n + 1, .tup ps, h => by
  have h : (decide (ps.length ≤ 30000) && ps.all (alike n)) = true := h
  show (decide (ps.length ≤ 30000) && ps.all (alike (n + 1))) = true
  rw [Bool.and_eq_true, List.all_eq_true] at h ⊢
  exact ⟨h.1, fun p hp => p9 (h.2 p hp)⟩
 | n, .ty _, h => by cases n <;> cases h
 | n, .lst _, h => by cases n <;> cases h
 | n, .j4 _, h => by cases n <;> cases h
theorem wN {n m : Nat} {p : PV} (h : alike n p = true) (le : n ≤ m) : alike m p = true := by
 induction le with
 | refl => exact h
 | step _ ih => exact p9 ih
noncomputable def RL {α : Type} (P : α → PV) (H : Hp) (v : V) : Option α → Prop
 | some x => Tr H (P x) v
 | none => v = .aZ
noncomputable def DW {α : Type} (f : Str → Option α) (P : α → PV) : Sp := fun vs H Q _ => ∃ z, vs = [.str z] ∧ z.length ≤ 20000 ∧ ∀ v H', aG H H' → RL P H' v (f z) → Q v H'
noncomputable def MO : Sp := fun vs H Q _ => ∃ z, vs = [.str z] ∧ z.length ≤ 100000 ∧ ∀ H', aG H H' → Q (match gN z with | some n => .int n | none => .aZ) H'
noncomputable def MH : Sp := fun vs H Q _ => ∃ z, vs = [.str z] ∧ z.length ≤ 100000 ∧ ∀ H', aG H H' → Q (.bl (mF z)) H'
noncomputable def GF : Sp := fun vs H Q _ => ∃ z, vs = [.str z] ∧ Q (.str z) H
noncomputable def fH (z : Str) : List Str := if Txt.split z NL = [EM] then [] else Txt.split z NL
noncomputable def FO : Sp := fun vs H Q _ => ∃ z, vs = [.str z] ∧ z.length ≤ 100000 ∧ ∀ l H', H l = none → aG H H' → H' l = some (.lst ((fH z).map V.str)) → Q (.ref l) H'
open PySem.StrLaws PySem.Builtin.Str in
theorem fQ (z y : Str) (hy : 1 ≤ y.length) : (Txt.split z y).length ≤ z.length + 2 := by
 unfold Txt.split
 split
 ·simp
 ·split
  ·simp
  ·rw [partsBetween_eq, eS]
   have := occ_length_le_len z y 0 z.length (z.length + 1)
   omega
theorem eB (z y : Str) : ∀ p ∈ Txt.split z y, p.length ≤ z.length := by
 intro p hp
 have e := eT z y
 rw [dN] at e
 have key : ∀ (ps : List Str), p ∈ ps → p.length ≤ (Str.join y ps).length := by
  intro ps
  induction ps with
  | nil => intro h; cases h
  | cons a r ih =>
   intro h
   cases r with
   | nil => rw [List.mem_singleton.mp h]; exact Nat.le_refl _
   | cons b r =>
    show p.length ≤ (a ++ y ++ Str.join y (b :: r)).length
    rw [bN, bN]
    rcases List.mem_cons.mp h with h | h
    ·rw [h]; omega
    ·have := ih h; omega
 have := key _ hp
 rw [e] at this
 exact this
end My
namespace My
open PySem L2 Mr
theorem zW {H : Hp} {a r : Addr} {n h : Str} {dv : V} {row : List Str} (ha : H a = some (.tup [.str n, dv, .str h, .ref r])) (hr : H r = some (.tup (row.map V.str))) :
  fW H (.ref a) = (bT n && (jX dv && (gU (.str h) && (!decide (9 < (row.length : Int)) && row.all bT)))) := by
 unfold fW
 rw [jQ ha]
 show (fJ _ && (_ && (_ && m9 H (.ref r)))) = _
 unfold m9
 rw [jQ hr]
 dsimp only
 rw [List.length_map, List.all_map]
 rfl
theorem AJ {z : Str} {n d r h : Str} {hs : List Str} (e : Txt.split z BL = n :: d :: r :: h :: hs) : eV z BL 3 = [n, d, r, Txt.join BL (h :: hs)] := by
 unfold eV
 rw [e, if_neg (by simp)]
 rw [dN]
 rfl
theorem zE {z : Str} (h : (Txt.split z BL).length < 4) : eV z BL 3 = Txt.split z BL := by
 unfold eV
 rw [if_pos (by omega)]
theorem wU {z : Str} (h : (Txt.split z BL).length < 4) : fO z = none := by
 unfold fO
 generalize Txt.split z BL = l at h
 match l, h with
 | [], _ => rfl
 | [_], _ => rfl
 | [_, _], _ => rfl
 | [_, _, _], _ => rfl
 | _ :: _ :: _ :: _ :: r, h => simp at h; omega
open PySem.StrLaws PySem.Builtin.Str in
theorem JV {z : Str} (h : mF z = true) (hl : z.length ≤ 9) : ∃ n, intText? z = some n := by
 unfold mF at h
 rw [Bool.and_eq_true, List.all_eq_true, Bool.not_eq_true', decide_eq_false_iff_not] at h
 refine ⟨_, PySem.intText_digits (fun c hc => ?_) (fun e => h.1 ?_) (by omega)⟩
 ·have := (CQ c).mp (h.2 c hc)
  rw [tK] at this
  simp only [List.mem_cons, List.mem_nil_iff, or_false] at this
  show 48 ≤ c ∧ c ≤ 57
  omega
 ·exact PM.iW (by rw [e]; decide +kernel)
theorem KR (z : Str) : List.all (List.map (fun c => zC c) z.cps.toList) id = z.cps.toList.all zC := by
 rw [List.all_map]; rfl
noncomputable def uD : Nat → Sp
 | 0 => fun _ _ _ _ => False
 | n + 1 => PN n
open PySem.StrLaws PySem.Builtin.Str in
theorem fT {z y : Str} {H : Hp} {Q : VK} (hy : 1 ≤ y.length) (hz : z.length ≤ 100000) (h : ∀ l, H l = none → Q (.ref l) (upd H l (.lst ((Txt.split z y).map V.str)))) : jG (.str z) [.str y] H Q := by
 have h1 := fQ z y hy
 refine ⟨z, y, rfl, rfl, by rw [beq_eq_false_iff_ne]; omega, by omega, by omega, cF ?_, h⟩
 rw [partsBetween_eq, eS]
 have := occ_length_le_len z y 0 z.length (z.length + 1)
 omega
theorem tJ : ∀ {a b : List Str}, pX (a.map V.str) (b.map V.str) = decide (a = b)
 | [], [] => rfl
 | [], _ :: _ => rfl
 | _ :: _, [] => rfl
 | x :: a, y :: b => by
  show (zZ (.str x) (.str y) && pX (a.map V.str) (b.map V.str)) = _
  rw [tJ]
  by_cases e : x = y
  ·subst e
   rw [show zZ (.str x) (.str x) = true from beq_self_eq_true x]
   simp
  ·rw [show zZ (.str x) (.str y) = false from beq_eq_false_iff_ne.mpr e]
   simp [e]
theorem iX {K : PySem.W.Frag} {te : TE} {y : Str} {σ : St} {H : Hp} {Q : VK} (h : te σ H fun x H1 => M0 K "str" x H1 ∧ jG x [.str y] H1 Q) : HM K "str" jG te (dH (tC (.str y)) jN) σ H Q := h
theorem HX {H : Hp} {a : Addr} {ws : List Str} (h : H a = some (.tup (ws.map V.str))) (h1 : ws.length ≤ 30000) (h2 : ∀ z ∈ ws, z.length ≤ 20000) : Any H (.ref a) :=
 A0 h (by rw [List.length_map]; exact h1) fun y hy => by
  obtain ⟨z, hz, rfl⟩ := List.mem_map.mp hy
  exact vV (by have := h2 z hz; omega)
theorem A4 {z : Str} {x : Lt} (h : fO z = some x) : x.ok = true := by
 unfold fO at h
 generalize Txt.split z BL = l at h
 match l, h with
 | [], h => cases h
 | [_], h => cases h
 | [_, _], h => cases h
 | [_, _, _], h => cases h
 | n :: d :: r :: h :: hs, e =>
  unfold QR at e
  dsimp only at e
  split at e
  ·split at e
   ·rename_i ho
    cases e
    exact ho
   ·cases e
  ·cases e
end My
namespace L2
open PySem PySem.Spec PyProof.Rows PySem.W
structure sE (K : Frag) (C : Addr) : Prop where
 ga : findIn K (.ref C) "__getattribute__" = some (some (.builtin "BaseException.__getattribute__"))
 gt : findIn K (.ref C) "__getattr__" = some none
 sub : mroIn K C (.type "BaseException") = some true
 obj : mroIn K C (.type "object") = some true
 hd : hasDictIn K C = true
 ca : findIn K (.ref C) "__class__" = some (some (.builtin "object.__class__"))
section
variable {prog : Program} {w : World} {A : Around} {E : Value → Shared → Prop} {s : Shared} {K : Frag} {x C : Addr} {ox : Obj} {od : Option Obj} {name : Str}
theorem LG {M : Model} {fJ : Value} {Q : Unit → Shared → Prop} (X : K.In s.heap) (I : InstAt s.heap x ox C od) (c : sE K C) (q : Q () s) :
  wpAny M A (checkBuiltinCall "BaseException.__getattribute__" ⟨[.ref x, fJ], []⟩) Q E s := by
 have sub : Looks M s.heap (isInstance (.ref x) (.type "BaseException")) true := I.type.andThen (looks_mroIn X c.sub)
 exact @check_slot M _ _ s "BaseException.__getattribute__" "BaseException" "__getattribute__" (.ref x) [fJ] [] _ (by decide +kernel) (by decide +kernel) sub (PySem.F.args_bexc_ga (.ref x) fJ) q
theorem M1 {tk : Tok} {expr fill : Bool} {Q : Value → Shared → Prop} (X : K.In s.heap) (I : InstAt s.heap x ox C od) (c : sE K C)
  (h : wpAny (model prog w) A.in1 (Builtin.«object.__getattribute__» ⟨[.ref x, .str name tk], []⟩)
   (fun fin s' => match fin with | .done (.ret v) => wpAny (model prog w) A (handedOut v) Q E s' | .done _ => False | .again c' => c'.quiet = true ∧ codeAny (model prog w) A c' (fun r s'' => match r with | .ok (.ret v) => wpAny (model prog w) A (handedOut v) Q E s'' | _ => False) s') (fun _ _ => False) s) :
  wpAny (model prog w) A (getAttrBy (.ref x) (.str name tk) fill expr) Q E s := by
 have L0 := I.type (M := model prog w)
 have L1 := looks_findIn (M := model prog w) X c.ga
 have L2 := looks_findIn (M := model prog w) X c.gt
 unfold getAttrBy
 refine wpAny_holding (wpAny_bind (L0.here (wpAny_bind (L1.here ?_))))
 dsimp only
 rw [if_neg (show ¬ (onTheHeap (Value.ref C) && (Value.builtin "BaseException.__getattribute__" == Value.builtin "object.__getattribute__")) = true from by show ¬ (true && (Value.builtin "BaseException.__getattribute__" == Value.builtin "object.__getattribute__")) = true; decide +kernel)]
 unfold getAttrByItsOwn hookBefore
 refine wpAny_bind ?_
 rw [if_pos (by rfl)]
 refine L2.here (wpAny_bind (wpAny_attempt (wpAny_holding ?_)))
 unfold callGetattribute
 rw [if_neg (by cases expr <;> decide)]
 unfold boundAndCalled
 rw [PySem.F.attr_ValueError.ga.bind]
 refine wpAny_bind (wpAny_pure ?_)
 refine wpAny_call (codeAny_call_builtin PySem.F.attr_ValueError.ga.plain PySem.F.entry_bexc_ga (LG X I c ?_))
 refine wpAny_mono h (fun fin s' z => ?_) fun _ _ z => z.elim
 rcases fin with (_ | _ | _ | _) | _
 all_goals first | exact z | exact z.elim | skip
 refine ⟨z.1, codeAny_mono z.2 fun r s'' y => ?_⟩
 rcases r with e | (v | _ | _ | _) <;> first | exact y | exact y.elim
theorem QX {v : Value} {expr : Bool} {Q : Value → Shared → Prop} (X : K.In s.heap) (I : InstAt s.heap x ox C od) (c : sE K C) (hf : findObj K C od name = some (.value v)) (hh : handedIn v = true) (h : Q v { s with toks := s.toks + 1 }) :
  wpAny (model prog w) A (getAttr (.ref x) name expr) Q E s := by
 unfold getAttr
 refine wpAny_bind (wpAny_mkText (M1 (s := { s with toks := s.toks + 1 }) X I c ?_))
 have L0 := I.type (M := model prog w)
 have L1 := looks_find (M := model prog w) X I hf
 unfold Builtin.«object.__getattribute__»
 refine wpAny_bind (wpAny_pure (wpAny_bind (wpAny_pure (wpAny_bind (Looks.here (s := { s with toks := s.toks + 1 }) L0 (wpAny_bind (Looks.here (s := { s with toks := s.toks + 1 }) L1 ?_)))))))
 refine wpAny_pure ?_
 show wpAny _ _ (handedOut v) _ _ _
 rw [handedOut_of hh]; exact wpAny_pure h
theorem LC {Q : Option Value → Shared → Prop} (X : K.In s.heap) (I : InstAt s.heap x ox C od) (c : sE K C) (hn : specialIn K (.builtin "object.__class__") "__get__" = some (some (.builtin "getset_descriptor.__get__")))
  (htk : takesIn K (.builtin "object.__class__") = some true) (h : Q (some (.ref C)) { s with toks := s.toks + 1 }) : wpAny (model prog w) A (getAttr? (.ref x) "__class__") Q E s := by
 have hf : findObj K C od "__class__" = some (.bind (.builtin "getset_descriptor.__get__") (.builtin "object.__class__")) := by
  obtain ⟨cd, hc, _⟩ := any_some c.hd
  unfold findObj
  rw [hc, Option.bind_some, c.ca, Option.bind_some]
  simp only [hn, htk, Option.bind_some]
 unfold getAttr? getAttrBy?
 refine wpAny_bind (wpAny_mkText (wpAny_bind (wpAny_attempt (M1 (s := { s with toks := s.toks + 1 }) X I c ?_))))
 have L0 := I.type (M := model prog w)
 have L1 := looks_find (M := model prog w) X I hf
 unfold Builtin.«object.__getattribute__»
 refine wpAny_bind (wpAny_pure (wpAny_bind (wpAny_pure (wpAny_bind (Looks.here (s := { s with toks := s.toks + 1 }) L0 (wpAny_bind (Looks.here (s := { s with toks := s.toks + 1 }) L1 ?_)))))))
 show wpAny _ _ (holding [.builtin "object.__class__"] (call (.builtin "getset_descriptor.__get__") [.builtin "object.__class__", .ref x, .ref C]) >>= ret) _ _ _
 refine wpAny_bind (wpAny_holding (wpAny_call (class_get (s := { s with toks := s.toks + 1 }) (ox := ox) (od := od) X I c.obj ?_)))
 exact wpAny_pure (handed_on rfl (wpAny_pure h))
theorem RN {B : Addr} {v : Value} {vs : Array Value} {sl : Array (Option Value)} {Q : Unit → Shared → Prop} (X : K.In s.heap) (hx : s.heap.get? x = some ⟨.ref C, none, .fields vs, sl⟩) (c : sE K C)
  (mr : (clsIn K C).map (·.mro) = some [.ref C, .ref B, .type "ValueError", .type "Exception", .type "BaseException", .type "object"])
  (hs : findIn K (.ref C) "__setattr__" = some (some (.builtin "object.__setattr__"))) (hna : findIn K (.ref C) name = some none)
  (h : ∀ h', h'.Ns1 s.heap.objs.size (fun y => if y = name then some v else none) → h'.get? x = some ⟨.ref C, some s.heap.objs.size, .fields vs, sl⟩ → (∀ b o, b ≠ x → s.heap.get? b = some o → h'.get? b = some o) → Q () { s with heap := h', toks := s.toks + 2 }) :
  wpAny (model prog w) A (setAttr (.ref x) name v) Q E s := by
 have I : InstAt s.heap x ⟨.ref C, none, .fields vs, sl⟩ C none := ⟨hx, rfl, rfl, trivial⟩
 refine set_plain X I hs ?_
 have SF := PySem.F.store_ValueError
 obtain ⟨cd, hc, hm0⟩ := Option.map_eq_some_iff.mp mr
 have sub : Looks (model prog w) s.heap (isInstance (.ref x) (.type "object")) true := I.type.andThen (looks_mroIn X c.obj)
 refine codeAny_call_builtin SF.slot.plain SF.entry (@check_slot (model prog w) _ _ { s with toks := s.toks + 1 } "object.__setattr__" "object" "__setattr__" (.ref x) [.str name s.toks, v] [] _ SF.kind SF.split sub (SF.args (.ref x) (.str name s.toks) v) ?_)
 have hm : Looks (model prog w) s.heap (mroOf (.ref C)) cd.mro := (looks_clsIn X hc).andThen .now
 rw [osa_eq, refuse_eq]
 refine wpAny_bind (wpAny_bind (Looks.here (s := { s with toks := s.toks + 1 }) I.type (wpAny_bind (Looks.here (s := { s with toks := s.toks + 1 }) hm ?_))))
 rw [hm0, refuseLoop_ref, refuseLoop_ref, SF.passes]
 refine wpAny_pure (wpAny_bind (Looks.here (s := { s with toks := s.toks + 1 }) I.type (wpAny_bind (Looks.here (s := { s with toks := s.toks + 1 }) (looks_findIn X hna) (wpAny_bind (wpAny_pure ?_))))))
 obtain ⟨cd', hc', hd'⟩ := any_some c.hd
 refine wpAny_bind (wpAny_pure (wpAny_bind (wpAny_bind (wpAny_loadPart hx (wpAny_bind (Looks.here (s := { s with toks := s.toks + 1 }) (looks_clsIn X hc') ?_))))))
 rw [hd']
 dsimp only
 have hxs : x ≠ s.heap.objs.size := Nat.ne_of_lt (Heap.lt_size hx)
 have hx₁ : (s.heap.push { cls := .type "dict", data := .dict #[] }).get? x = some ⟨.ref C, none, .fields vs, sl⟩ := Heap.get?_push_of_some _ hx
 refine wpAny_bind (wpAny_alloc' ?_)
 refine wpAny_bind (wpAny_update' hx₁ ?_)
 refine wpAny_pure ?_
 generalize hg : (s.heap.push { cls := .type "dict", data := .dict #[] }).update x (fun o => { cls := o.cls, dict := some s.heap.objs.size, data := o.data, slots := o.slots }) = h2
 have g1 : h2.get? s.heap.objs.size = some { cls := .type "dict", data := .dict #[] } := by
  rw [← hg, Heap.get?_update_ne _ _ _ _ hxs.symm]; exact Heap.get?_push_at rfl rfl
 have g2 : h2.get? x = some ⟨.ref C, some s.heap.objs.size, .fields vs, sl⟩ := by rw [← hg]; exact Heap.get?_update_self _ hx₁ rfl
 have g3 : ∀ b o, b ≠ x → s.heap.get? b = some o → h2.get? b = some o := fun b o n e => by
  rw [← hg, Heap.get?_update_ne _ _ _ _ n]; exact Heap.get?_push_of_some _ e
 have g4 : h2.Ns s.heap.objs.size (fun _ => none) := ⟨_, #[], _, g1, rfl, fun e he => absurd he (by simp), fun _ => rfl⟩
 dsimp only
 unfold Builtin.ObjectAttr.storeInDict Builtin.ObjectAttr.newKeyGuard
 refine wpAny_bind (wpAny_pure (wpAny_bind ?_))
 refine wpAny_nsSet1 (Heap.Ns1.of_empty g4) fun h' hn' hs' => ?_
 obtain ⟨oD, esD, epD, hoD, hdD, hcD⟩ := hn'.count (Within.cons name v Within.nil)
 refine wpAny_bind (wpAny_lookBehind hoD (by rw [hdD]; exact pastItsLine_dict (Nat.le_trans hcD (by rw [List.length_cons, List.length_nil, sizeLine_eq]; omega))) ?_)
 exact wpAny_pure (h _ hn' ((hs'.2 x hxs).trans g2) fun b o n e => (hs'.2 b (Nat.ne_of_lt (Heap.lt_size e))).trans (g3 b o n e))
end
end L2
namespace L2
open PySem PySem.Spec PyProof.Rows
section
variable {M : Model} {A : Around} {E : Value → Shared → Prop} {s : Shared}
structure kE (fs : List Addr) (ch : List Addr) (h h' : Heap) : Prop where
 keep : ∀ b o, b ∉ fs → b ∉ ch → h.get? b = some o → h'.get? b = some o
 slot : ∀ b o, b ∉ ch → h.get? b = some o → ∃ sl, h'.get? b = some { o with slots := sl }
 there : ∀ b o, h.get? b = some o → ∃ o', h'.get? b = some o'
 size : h.objs.size ≤ h'.objs.size
theorem CO {base : Heap} {env : Env} {outer : List Env} {L e : Addr} {oc : Value} {od : Option Addr} {osl : Array (Option Value)} {vs : Array Value} {head : Value} {hn : Bool} {Q : Unit → Shared → Prop}
  (hfr : A.frames = some (env :: outer)) (hl : s.heap.FunFrames base (env :: outer)) (hf : env.frame = some L) (he : s.heap.get? e = some ⟨oc, od, .fields vs, osl⟩) (hsz : 1 < vs.size)
  (h : ∀ h' ts ot, kE (sD (env :: outer)) [e] s.heap h' → h'.get? e = some ⟨oc, od, .fields (vs.setIfInBounds 1 (.ref s.heap.objs.size)), osl⟩ → h'.get? s.heap.objs.size = some ot → ot.data = .fields ts → ts[3]? = some (rawInt L) → Q () { s with heap := h' }) :
  wpAny M A (do let a ← frameOf env; let pl ← entryPlaceOf L hn; let b ← EntryCells.newEntry head a .none (rawInt L) .none pl; setField (.ref e) 1 b) Q E s := by
 have ne : e ∉ sD (env :: outer) := fun hm => by
  obtain ⟨_, o, ho, hnf⟩ := hl.mem hm
  rw [he] at ho; cases ho; exact hnf vs rfl
 refine wpAny_bind (wpAny_frameOf_fun hfr hl hf fun h₁ ⟨z1, z2, z3⟩ => wpAny_bind (wpAny_entryPlaceOf fun pl hpl => ?_))
 unfold EntryCells.newEntry newFields
 refine wpAny_bind (wpAny_newObj_type ?_ (hpl.sizeOk5 _ _ _ _ _))
 have he₁ : h₁.get? e = some ⟨oc, od, .fields vs, osl⟩ := (z2 e ne).trans he
 generalize hts : ([head, Value.ref L, .none, rawInt L, .none] ++ (if pl.isEmpty then List.replicate 6 Value.none else pl)).toArray = ts
 have t3 : ts[3]? = some (rawInt L) := by rw [← hts]; rcases hpl with rfl | ⟨_, _, _, _, _, _, _, rfl⟩ <;> simp
 have hes : e < h₁.objs.size := Heap.lt_size he₁
 have he₂ := Heap.get?_push_of_some (h := h₁) { cls := .type "traceback", dict := none, data := .fields ts } he₁
 refine wpAny_setField he₂ rfl hsz ?_
 have zs : h₁.objs.size = s.heap.objs.size := z1
 rw [zs]
 refine h _ ts { cls := .type "traceback", dict := none, data := .fields ts } ⟨fun b o hb hc q => ?_, fun b o hc q => ?_, fun b o q => ?_, ?_⟩ ?_ ?_ rfl t3
 ·have hbe : e ≠ b := fun z => hc (by rw [z]; exact List.mem_singleton_self _)
  rw [Heap.get?_update_other _ _ hbe]
  exact Heap.get?_push_of_some _ ((z2 b hb).trans q)
 ·have hbe : e ≠ b := fun z => hc (by rw [z]; exact List.mem_singleton_self _)
  obtain ⟨sl, hs⟩ := z3 b o q
  exact ⟨sl, by rw [Heap.get?_update_other _ _ hbe]; exact Heap.get?_push_of_some _ hs⟩
 ·by_cases hbe : e = b
  ·subst hbe
   exact ⟨_, Heap.get?_update_self _ he₂ rfl⟩
  ·obtain ⟨sl, hs⟩ := z3 b o q
   exact ⟨_, by rw [Heap.get?_update_other _ _ hbe]; exact Heap.get?_push_of_some _ hs⟩
 ·rw [← zs]
  simp only [Heap.size_update, Heap.size_push]
  omega
 ·exact Heap.get?_update_self _ he₂ rfl
 ·rw [Heap.get?_update_other _ _ (by rw [← zs]; exact Nat.ne_of_lt hes), ← zs]
  exact Heap.get?_push_size h₁ rfl
noncomputable def K2 (h : Heap) (T : Addr) (fl : Value) : Prop := ∃ ot ts, h.get? T = some ot ∧ ot.data = .fields ts ∧ ts[3]? = some fl
theorem kE.trans {fs fs' ch ch' : List Addr} {h h1 h2 : Heap} {ds : List Addr} {gs : List Addr} (a : kE fs ch h h1) (b : kE fs' ch' h1 h2) (hf : ∀ x ∈ fs, x ∈ gs) (hf' : ∀ x ∈ fs', x ∈ gs) (hc : ∀ x ∈ ch, x ∈ ds) (hc' : ∀ x ∈ ch', x ∈ ds ∨ h.objs.size ≤ x) : kE gs ds h h2 := by
 have out : ∀ {x o}, x ∉ ds → h.get? x = some o → x ∉ ch' := fun {x o} n e z => (hc' x z).elim n fun q => absurd (Heap.lt_size e) (Nat.not_lt.mpr q)
 refine ⟨fun x o h1 h2 q => b.keep x o (fun z => h1 (hf' x z)) (out h2 q) (a.keep x o (fun z => h1 (hf x z)) (fun z => h2 (hc x z)) q), fun x o h2 q => ?_, fun x o q => ?_, Nat.le_trans a.size b.size⟩
 ·obtain ⟨sl, e1⟩ := a.slot x o (fun z => h2 (hc x z)) q
  obtain ⟨sl', e2⟩ := b.slot x _ (out h2 q) e1
  exact ⟨sl', e2⟩
 ·obtain ⟨o1, e1⟩ := a.there x o q
  exact b.there x o1 e1
theorem zR {e T : Addr} {oc : Value} {od : Option Addr} {osl : Array (Option Value)} {vs : Array Value} {fl : Value} {Q : Unit → Shared → Prop} (he : s.heap.get? e = some ⟨oc, od, .fields vs, osl⟩) (h1 : vs[1]? = some (.ref T)) (hT : K2 s.heap T fl) (ne : T ≠ e)
  (h : ∀ h', kE [] [T] s.heap h' → h'.get? e = some ⟨oc, od, .fields vs, osl⟩ → K2 h' T .none → Q () { s with heap := h' }) : wpAny M A (setFlight (.ref e) none) Q E s := by
 obtain ⟨⟨tc, td, tdt, tsl⟩, ts, g1, g2, g3⟩ := hT
 cases g2
 have sz : 3 < ts.size := (Array.getElem?_eq_some_iff.mp g3).1
 refine wpAny_setFlight_none he rfl h1 g1 rfl sz (h _ ⟨fun b o _ hc q => ?_, fun b o hc q => ⟨o.slots, ?_⟩, fun b o q => ?_, ?_⟩ ?_ ⟨_, _, Heap.get?_update_self _ g1 rfl, rfl, ?_⟩)
 ·rw [Heap.get?_update_other _ _ (fun z => hc (by rw [z]; exact List.mem_singleton_self _))]; exact q
 ·rw [Heap.get?_update_other _ _ (fun z => hc (by rw [z]; exact List.mem_singleton_self _))]; exact q
 ·by_cases z : T = b
  ·subst z; exact ⟨_, Heap.get?_update_self _ g1 rfl⟩
  ·exact ⟨o, by rw [Heap.get?_update_other _ _ z]; exact q⟩
 ·rw [Heap.size_update]; exact Nat.le_refl _
 ·rw [Heap.get?_update_other _ _ ne]; exact he
 ·simp [sz]
theorem MB {base : Heap} {env : Env} {outer : List Env} {L e : Addr} {oc : Value} {od : Option Addr} {osl : Array (Option Value)} {vs : Array Value} {Q : Unit → Shared → Prop}
  (hfr : A.frames = some (env :: outer)) (hl : s.heap.FunFrames base (env :: outer)) (hf : env.frame = some L) (he : s.heap.get? e = some ⟨oc, od, .fields vs, osl⟩) (h1 : vs[1]? = some .none)
  (h : ∀ h' vs', kE (sD (env :: outer)) [e] s.heap h' → h'.get? e = some ⟨oc, od, .fields vs', osl⟩ → vs'[1]? = some (.ref s.heap.objs.size) → K2 h' s.heap.objs.size .none → Q () { s with heap := h' }) :
  wpAny M A (leaving env (.ref e)) Q E s := by
 have sz : 1 < vs.size := (Array.getElem?_eq_some_iff.mp h1).1
 unfold leaving noteFrame
 simp only [hf]
 refine wpAny_bind (wpAny_bind (wpAny_field he rfl h1 ?_))
 rw [if_neg (by decide)]
 refine CO hfr hl hf he sz fun h2 ts ot k2 e2 t2 d2 g2 => ?_
 have e21 : (vs.setIfInBounds 1 (Value.ref s.heap.objs.size))[1]? = some (.ref s.heap.objs.size) := by simp [sz]
 refine zR (s := { s with heap := h2 }) e2 e21 ⟨ot, ts, t2, d2, g2⟩ (Nat.ne_of_gt (Heap.lt_size he)) fun h3 k3 e3 t3 => ?_
 exact h h3 _ (k2.trans k3 (fun _ z => z) (fun _ z => nomatch z) (fun _ z => z) fun x z => .inr (by rw [List.mem_singleton.mp z]; exact Nat.le_refl _)) e3 e21 t3
theorem PJ {base : Heap} {env : Env} {outer : List Env} {L e T : Addr} {oc : Value} {od : Option Addr} {osl : Array (Option Value)} {vs : Array Value} {Q : Unit → Shared → Prop}
  (hfr : A.frames = some (env :: outer)) (hl : s.heap.FunFrames base (env :: outer)) (hf : env.frame = some L) (he : s.heap.get? e = some ⟨oc, od, .fields vs, osl⟩) (h1 : vs[1]? = some (.ref T)) (hT : K2 s.heap T .none) (ne : T ≠ e)
  (h : ∀ h' vs', kE (sD (env :: outer)) [e, T] s.heap h' → h'.get? e = some ⟨oc, od, .fields vs', osl⟩ → vs'[1]? = some (.ref s.heap.objs.size) → K2 h' s.heap.objs.size (rawInt L) → Q () { s with heap := h' }) :
  wpAny M A (noteFrame (.ref e) env) Q E s := by
 have sz : 1 < vs.size := (Array.getElem?_eq_some_iff.mp h1).1
 obtain ⟨⟨tc, td, tdt, tsl⟩, ts, g1, g2, g3⟩ := hT
 cases g2
 have sz3 : 3 < ts.size := (Array.getElem?_eq_some_iff.mp g3).1
 unfold noteFrame
 simp only [hf]
 refine wpAny_bind (wpAny_field he rfl h1 ?_)
 rw [if_pos (by rfl)]
 refine wpAny_bind (wpAny_field g1 rfl g3 ?_)
 rw [if_neg (by simp [rawInt])]
 refine wpAny_bind (wpAny_setField g1 rfl sz3 ?_)
 have oth : ∀ b, b ≠ T → (s.heap.update T (Obj.mapFields (·.setIfInBounds 3 Value.none))).get? b = s.heap.get? b := fun b hb => Heap.get?_update_other _ _ (Ne.symm hb)
 have upT := Heap.get?_update_self (Obj.mapFields (·.setIfInBounds 3 Value.none)) g1 rfl
 have k1 : kE [] [T] s.heap (s.heap.update T (Obj.mapFields (·.setIfInBounds 3 Value.none))) := ⟨fun b o _ hc q => by rw [oth b fun z => hc (by rw [z]; exact List.mem_singleton_self _)]; exact q,
  fun b o hc q => ⟨o.slots, by rw [oth b fun z => hc (by rw [z]; exact List.mem_singleton_self _)]; exact q⟩, fun b o q => by
   by_cases z : b = T
   ·subst z; exact ⟨_, upT⟩
   ·exact ⟨o, by rw [oth b z]; exact q⟩, by rw [Heap.size_update]; exact Nat.le_refl _⟩
 have szh : (s.heap.update T (Obj.mapFields (·.setIfInBounds 3 Value.none))).objs.size = s.heap.objs.size := Heap.size_update _ _ _
 refine CO (s := { s with heap := s.heap.update T (Obj.mapFields (·.setIfInBounds 3 Value.none)) }) hfr (hl.of_keeps fun b o q n => ⟨o, (oth b fun z => ?_).trans q, rfl⟩) hf ((oth e (Ne.symm ne)).trans he) sz fun h2 ts2 ot k2 e2 t2 d2 g2 => ?_
 ·subst z; rw [g1] at q; cases q; exact n _ rfl
 ·have e2' : h2.get? e = some ⟨oc, od, .fields (vs.setIfInBounds 1 (Value.ref s.heap.objs.size)), osl⟩ := by rw [← szh]; exact e2
  refine h h2 _ (k1.trans k2 (fun _ z => nomatch z) (fun _ z => z) (fun x z => by rw [List.mem_singleton.mp z]; simp) fun x z => .inl (by rw [List.mem_singleton.mp z]; simp)) e2' (by simp [sz]) ⟨ot, ts2, by rw [← szh]; exact t2, d2, g2⟩
end
end L2
namespace L2
open PySem PySem.Spec PyProof.Rows
noncomputable def XO (a C : Addr) (d : Option Addr) : HO := .ext fun h => ∃ vs sl, h.get? a = some ⟨.ref C, d, .fields vs, sl⟩
section
variable {P : Program} {w : World} {H : Hp} {h h' : Heap} {a C : Addr} {d : Option Addr}
theorem XO.ok {vs : Array Value} {sl : Array (Option Value)} {H : Hp} (e : h.get? a = some ⟨.ref C, d, .fields vs, sl⟩) : dJ P w H h a (XO a C d) :=
 ⟨⟨vs, sl, e⟩, ⟨_, e⟩, fun h1 h2 ⟨vs, sl, e⟩ k => ⟨vs, sl, k _ e⟩⟩
theorem XO.at_ (x : jL P w H h) (e : H a = some (XO a C d)) : ∃ vs sl, h.get? a = some ⟨.ref C, d, .fields vs, sl⟩ := (x a _ e).1
theorem BS {fs ch : List Addr} (x : jL P w H h) (k : kE fs ch h h') (hf : ∀ b ∈ fs, H b = none) (hc : ∀ b ∈ ch, H b = none ∨ b = a) (hH : H a = some (XO a C d)) {vs : Array Value} {sl : Array (Option Value)} (e : h'.get? a = some ⟨.ref C, d, .fields vs, sl⟩) : jL P w H h' := fun b o eb => by
 by_cases hb : b = a
 ·subst hb; rw [hH] at eb; cases eb; exact XO.ok e
 ·refine (x b o eb).i7 (fun c u hcu q => ?_) (fun _ q => q) fun _ _ q => q
  have tr : H c ≠ none := by
   rcases hcu with z | z
   ·rw [z, eb]; exact fun z => nomatch z
   ·rw [z]; exact fun z => nomatch z
  have na : c ≠ a := by
   rcases hcu with z | z
   ·rw [z]; exact hb
   ·rintro rfl; rw [hH] at z; cases z
  exact k.keep c u (fun z => tr (hf c z)) (fun z => (hc c z).elim tr na) q
end
noncomputable def vX (P : Program) (w : World) : DC := fun outer H s E e s' => ∃ (a C T : Addr) (d : Option Addr) (vs : Array Value) (sl : Array (Option Value)) (H' : Hp), e = .ref a ∧ s'.os = s.os ∧ AllBare s'.gens ∧ Un (sD outer) [] H H' s.heap s'.heap ∧ jL P w H' s'.heap ∧
 H' a = some (XO a C d) ∧ s'.heap.get? a = some ⟨.ref C, d, .fields vs, sl⟩ ∧ vs[1]? = some (.ref T) ∧ K2 s'.heap T .none ∧ T ≠ a ∧ H' T = none ∧ s.heap.objs.size ≤ T ∧ E (.ref C) (some a) H'
noncomputable def MW (X : Cx) (E : XK) : Prop := ∀ (pins : List (Addr × Obj)) (σ : St) (H : Hp) (s : Shared) (a C : Addr) (d : Option Addr) (vs : Array Value) (sl : Array (Option Value)), Inv X pins σ H s → H a = some (XO a C d) → s.heap.get? a = some ⟨.ref C, d, .fields vs, sl⟩ →
 vs[1]? = some .none → E (.ref C) (some a) H → X.xe (.ref a) s
theorem xW {P : Program} {w : World} {K : PySem.W.Frag} {mg : Str → Option Value} {base : Heap} {N : List Str} {qual : Str} {scope : Scope} {f : Addr} {cd : Value} {A : Around} {outer : List Env} {s : Shared} {H : Hp} {E : XK} :
  MW (sG (vX P w) P w K mg base N qual scope f cd A outer s H E) E := by
 intro pins σ H1 s1 a C d vs sl I hH he h1 hE
 refine MB I.ok.frames I.stack rfl he h1 fun h' vs' k e' v1 t' => ?_
 have hT : H1 s1.heap.objs.size = none := I.bY.fresh (Nat.le_refl _)
 have nfr : ∀ b o, s.heap.get? b = some o → b ∉ sD outer → b ∉ sD (envOfC qual scope s.heap.objs.size f cd :: outer) := fun b o q n z => by
  rcases List.mem_cons.mp (I.vR b z) with z | z
  ·exact absurd (Heap.lt_size q) (by rw [z]; exact Nat.lt_irrefl _)
  ·exact n z
 have na : ∀ b, H1 b = none → b ∉ [a] := fun b n z => by rw [List.mem_singleton.mp z, hH] at n; cases n
 refine ⟨a, C, _, d, vs', sl, H1, rfl, I.os, I.bare, ⟨fun b o q n hb hx => ?_, fun b o q n hb hx => ?_, I.base.free, fun b o q hx => ?_, I.base.qA, I.base.oQ, I.base.pY⟩, BS I.bY k I.o9 (fun b z => .inr (List.mem_singleton.mp z)) hH e', hH, e', v1, t', ?_, hT, I.sz, hE⟩
 ·exact k.keep b o (nfr b o q hb) (na b (I.base.free b o q n hx)) (I.base.keep b o q n hb hx)
 ·obtain ⟨sl1, q1⟩ := I.base.slot b o q n hb hx
  obtain ⟨sl2, q2⟩ := k.slot b _ (na b (I.base.free b o q n hx)) q1
  exact ⟨sl2, q2⟩
 ·obtain ⟨o1, q1⟩ := I.base.there b o q hx
  exact k.there b o1 q1
 ·exact Nat.ne_of_gt (Heap.lt_size he)
theorem dJ.there {P : Program} {w : World} {H : Hp} {h : Heap} {a : Addr} {o : HO} (x : dJ P w H h a o) : ∃ u, h.get? a = some u := by
 cases o with
 | lst xs => obtain ⟨_, _, _, _, e⟩ := x; exact ⟨_, e⟩
 | tup xs => obtain ⟨_, _, _, p⟩ := x; obtain ⟨ob, e, _⟩ := p.1; exact ⟨_, e⟩
 | dK kvs ep => obtain ⟨_, _, _, _, o, _, e, _⟩ := x; exact ⟨_, e⟩
 | dT kvs => obtain ⟨_, _, _, _, o, _, _, e, _⟩ := x; exact ⟨_, e⟩
 | set S n => obtain ⟨o, _, _, _, e, _⟩ := x; exact ⟨_, e⟩
 | ins C dx fs => obtain ⟨_, _, _, e, _⟩ := x; exact ⟨_, e⟩
 | own y => obtain ⟨_, e⟩ := x; exact ⟨_, e⟩
 | xd fs => obtain ⟨_, ⟨_, _, _, e, _⟩, _⟩ := x; exact ⟨_, e⟩
 | RR lo hi => obtain ⟨_, _, _, e⟩ := x; exact ⟨_, e⟩
 | AK ob u => obtain ⟨e, _⟩ := x; exact ⟨_, e⟩
 | ML ps => exact ⟨_, show h.get? a = some _ from x⟩
 | met f y => exact ⟨_, show h.get? a = some _ from x⟩
 | ext φ => obtain ⟨_, e, _⟩ := x; exact e
theorem Inv.QW {X : Cx} {pins : List (Addr × Obj)} {σ : St} {H : Hp} {s : Shared} {h' : Heap} {a C : Addr} {vs : List Value} (I : Inv X pins σ H s) (m : Heap.MadeExcOf s.heap h' a (.ref C) vs) :
  H a = none ∧ Inv X pins σ (upd H a (XO a C none)) { s with heap := h' } := by
 have hn : H a = none := by
  cases q : H a with
  | none => rfl
  | some o => obtain ⟨u, hu⟩ := (I.bY a o q).there; rw [m.new] at hu; cases hu
 refine ⟨hn, ?_⟩
 obtain ⟨t, he, htn, ht⟩ := m.there
 have nb : ∀ b o, s.heap.get? b = some o → b ≠ a := fun b o q z => by rw [z, m.new] at q; cases q
 have un : Un X.fs [] H (upd H a (XO a C none)) s.heap h' := ⟨fun b u q _ _ _ => m.keeps b u q, fun b u q _ _ _ => ⟨u.slots, m.keeps b u q⟩, fun b u q n _ => by rw [aL (nb b u q)]; exact n, fun b u q _ => ⟨u, m.keeps b u q⟩,
  fun b xs q => by rw [aL (aF q hn)]; exact q, fun b u xs q => by rw [aL (aF q hn)]; exact q, fun b ps q => ⟨#[], by rw [aL (aF q hn), q]; simp⟩⟩
 refine I.un (t' := s.toks) un fun b o eb => ?_
 by_cases hb : b = a
 ·subst hb; rw [aB] at eb; cases eb; exact XO.ok he
 ·rw [aL hb] at eb
  exact (I.bY b o eb).i7 (fun c u _ q => m.keeps c u q) (fun c q => by rw [aL (aF q hn)]; exact q) fun c xs q => by rw [aL (aF q hn)]; exact q
noncomputable abbrev TB : List Value := [.type "ValueError", .type "Exception", .type "BaseException", .type "object"]
noncomputable def D9 (K : PySem.W.Frag) (C : Addr) (tl : List Value) (ini : Option Value) : Bool := match K.lookup C with
 | some ⟨.type "type", _, .cls cd, sl⟩ => (match cd.mro, sl.toList with
  | .ref C' :: bm, [_, _, _, _, some (.builtin n), _] => C' == C && n == "ValueError.__new__" && !cd.hasDel && bm == tl && PySem.W.tailIn K TB bm && PySem.W.nsOkIn K cd.ns && PySem.W.nsIn K cd.ns "__init__" == some ini
  | _, _ => false)
 | _ => false
theorem y0 {K : PySem.W.Frag} {h : Heap} {N : Addr} {x : Str} {v : Value} (X : K.In h) (e : PySem.W.nsOkIn K N = true) (q : PySem.W.nsIn K N x = some (some v)) : h.nsMap N x = some v := by
 have G : h.Ns N (h.nsMap N) := .of_isNs (PySem.W.isNs_of_in X e)
 obtain ⟨o, es, ep, ho, hd, _, hf⟩ := G
 unfold PySem.W.nsIn at q
 split at q
 ·rename_i c d es' n' sl z
  have y := X _ _ z
  rw [ho] at y
  cases y
  cases hd
  split at q
  ·rename_i en he
   cases q
   rw [← hf]
   unfold nsFind findBy
   rw [← Array.find?_toList, he]
   rfl
  ·split at q <;> cases q
 ·cases q
structure R5 (h : Heap) (C : Addr) (tl : List Value) (ini : Option Value) : Prop where
 at_ : ∃ (N : Addr) (nm q : Str) (bs : List Value) (hdct : Bool) (sn : List Str) (sub : List Value) (ab : Bool) (col : Option Bool) (dd : Option Addr) (k0 k1 k2 k3 k5 : Option Value) (mN : Str → Option Value),
  h.get? C = some (excClassObj nm q C N bs tl hdct sn sub ab col dd k0 k1 k2 k3 k5 "ValueError.__new__") ∧ h.Ns N mN ∧ mN "__init__" = ini ∧ OwnTail h TB tl
theorem G5 {K : PySem.W.Frag} {h : Heap} {C : Addr} {tl : List Value} {ini : Option Value} (X : K.In h) (q : D9 K C tl ini = true) : R5 h C tl ini := by
 unfold D9 at q
 split at q
 ·rename_i dd cd sl ho
  split at q
  ·rename_i C' bm k0 k1 k2 k3 n k5 hm hs
   simp only [Bool.and_eq_true, beq_iff_eq, Bool.not_eq_true'] at q
   obtain ⟨⟨⟨⟨⟨⟨rfl, rfl⟩, hdel⟩, rfl⟩, ht⟩, bY⟩, hni⟩ := q
   obtain ⟨nm, bs, mro, ns, qn, hd, sn, sub, ab, col, del⟩ := cd
   dsimp only at hm hdel bY hni
   subst hm hdel
   obtain ⟨l⟩ := sl
   have hs : l = _ := hs
   subst hs
   refine ⟨ns, nm, qn, bs, hd, sn, sub, ab, col, dd, k0, k1, k2, k3, k5, _, X _ _ ho, .of_isNs (PySem.W.isNs_of_in X bY), ?_, PySem.W.tail_of_in X ht⟩
   cases ini with
   | none => exact PySem.W.nsMap_none_of_in X bY hni
   | some v => exact y0 X bY hni
  ·cases q
 ·cases q
end L2
namespace L2
open PySem PySem.Spec PyProof.Rows
noncomputable def XN (a C : Addr) (d : Option Addr) : HO := .ext fun h => ∃ vs sl, h.get? a = some ⟨.ref C, d, .fields vs, sl⟩ ∧ vs[1]? = some .none
theorem XN.ok {P : Program} {w : World} {H : Hp} {h : Heap} {a C : Addr} {d : Option Addr} {vs : Array Value} {sl : Array (Option Value)} (e : h.get? a = some ⟨.ref C, d, .fields vs, sl⟩) (e1 : vs[1]? = some .none) : dJ P w H h a (XN a C d) :=
 ⟨⟨vs, sl, e, e1⟩, ⟨_, e⟩, fun h1 h2 ⟨vs, sl, e, e1⟩ k => ⟨vs, sl, k _ e, e1⟩⟩
theorem XN.at_ {P : Program} {w : World} {H : Hp} {h : Heap} {a C : Addr} {d : Option Addr} (x : jL P w H h) (e : H a = some (XN a C d)) : ∃ vs sl, h.get? a = some ⟨.ref C, d, .fields vs, sl⟩ ∧ vs[1]? = some .none := (x a _ e).1
theorem Inv.raised {X : Cx} {pins : List (Addr × Obj)} {σ : St} {H : Hp} {s : Shared} {a C : Addr} {d : Option Addr} (I : Inv X pins σ H s) (e : H a = some (XN a C d)) : Inv X pins σ (upd H a (XO a C d)) s := by
 obtain ⟨vs, sl, g, _⟩ := XN.at_ I.bY e
 exact I.write (x := a) (e := a) (h' := s.heap) (t' := s.toks) (by rw [e]; exact True.intro) (.inl rfl) (fun b u _ q => q) ⟨_, g⟩ (XO.ok g)
theorem Inv.RI {X : Cx} {pins : List (Addr × Obj)} {σ : St} {H : Hp} {s : Shared} {h' : Heap} {a C : Addr} {vs : List Value} (I : Inv X pins σ H s) (m : Heap.MadeExcOf s.heap h' a (.ref C) vs) :
  H a = none ∧ Inv X pins σ (upd H a (XN a C none)) { s with heap := h' } := by
 obtain ⟨hn, J⟩ := I.QW m
 obtain ⟨t, he, _, _⟩ := m.there
 have J2 := J.write (x := a) (e := a) (o := XN a C none) (h' := h') (t' := s.toks) (by rw [aB]; exact True.intro) (.inl rfl) (fun b u _ q => q) ⟨_, he⟩ (XN.ok he rfl)
 rw [fY] at J2
 exact ⟨hn, J2⟩
section
variable {prog : Program} {w : World} {A : Around} {E : Value → Shared → Prop} {h : Heap} {g : Array GenState} {dr : Drawn} {t : Nat} {os : OsState} {C : Addr} {tl : List Value}
theorem K0 {rest : List Value} {Q : Value → Shared → Prop} {fI : Addr} {oI : Obj} (X : R5 h C tl (some (.ref fI))) (hfI : h.get? fI = some oI) (hfc : oI.cls = .type "function") (hl : rest.length ≤ sizeLine)
  (hq : ∀ h' e, Heap.MadeExcOf h h' e (.ref C) rest → wpAny (model prog w) (A.under (.builtin "type.__call__" ⟨.ref C :: rest, []⟩)) (call (.ref fI) (.ref e :: rest)) (fun r s' => r = .none ∧ Q (.ref e) s') E ⟨h', g, dr, t, os⟩) :
  wpAny (model prog w) A (call (.ref C) rest) Q E ⟨h, g, dr, t, os⟩ := by
 obtain ⟨N, nm, q, bs, hdct, sn, sub, ab, col, dd, k0, k1, k2, k3, k5, mN, hC, hN, hi, T⟩ := X.at_
 have FV := PySem.F.excBase_ValueError
 have y1 := tc_lookup
 have y2 := tc_bind (.ref C)
 have yT : (⟨h, g, dr, t, os⟩ : Shared).TypeIs (.ref C) "type" := ⟨_, hC, rfl⟩
 refine wpAny_call (codeAny_of_tree (show wpAny _ _ (callAny (.ref C) _) _ _ _ from ?_))
 repeat (any_goals (first | assumption | (with_reducible refine wpAny_loadPart_at hC ?_) | wp_step))
 refine ⟨rfl, codeAny_call_builtin_at (Code.quiet_builtin _ (by decide +kernel)) entry_typeCall (wpAny_check_type_call_sub hC ?_)⟩
 repeat (first | (with_reducible refine wpAny_loadPart_at hC ?_) | (with_reducible refine wpAny_madeBy_exc hC ?_) | wp_step)
 refine codeAny_call_builtin_code (Code.quiet_builtin _ FV.quiet) (wpAny_check_new_subU FV FV.hasB T hC (codeAny_exc_new_subU FV FV.hasB FV T hC ?_ hl))
 show wpAny _ _ _ _ _ ⟨(h.push { cls := .type "tuple", data := .seq rest.toArray }).push { cls := .ref C, data := .fields #[.ref h.objs.size, .none, .none, .none, .bool false, .none] }, _, _, _, _⟩
 generalize ho2 : ({ cls := .ref C, data := .fields #[.ref h.objs.size, .none, .none, .none, .bool false, .none] } : Obj) = o2
 generalize ho1 : ({ cls := .type "tuple", data := .seq rest.toArray } : Obj) = o1
 have kk : ∀ b o, h.get? b = some o → ((h.push o1).push o2).get? b = some o := fun b o e => Heap.get?_push_of_some _ (Heap.get?_push_of_some _ e)
 have hgt : ((h.push o1).push o2).get? (h.objs.size + 1) = some o2 := by
  have z := Heap.get?_push_size (h.push o1) (o := o2) (by rw [← ho2]; rfl)
  rwa [Heap.size_push] at z
 have hC₁ := kk _ _ hC
 have hcC : (Value.ref C :: tl).contains (.ref C) = true := by simp
 have hcl : o2.cls = .ref C := by rw [← ho2]
 unfold isInstance
 repeat (first | (with_reducible refine wpAny_loadPart_at hgt ?_; rw [hcl]) | (with_reducible refine wpAny_isSubtype_exc hC₁ ?_; rw [hcC]) | wp_step)
 show wpAny _ _ (typeLookup (.ref C) _) _ _ _
 rw [typeLookup_eq]
 refine wpAny_bind (wpAny_mroOf_exc hC₁ ?_)
 rw [lookupAlong_cons]
 refine wpAny_bind (wpAny_classOwn_exc hC₁ (hN.keeps kk) ?_)
 rw [hi]
 refine wpAny_pure (wpAny_holding (wpAny_bind ?_))
 unfold bindSpecial
 refine wpAny_bind (wpAny_typeOf (T := "function") ⟨_, kk _ _ hfI, hfc⟩ ?_)
 rw [if_pos (by decide)]
 refine wpAny_pure (wpAny_bind (wpAny_mono (hq _ (h.objs.size + 1) ⟨kk, Heap.get?_none_of_le (Nat.le_succ _), h.objs.size, by rw [ho2]; exact hgt, Heap.get?_none_of_le (Nat.le_refl _), ?_⟩) (fun r s' hr => ?_) fun _ _ z => z))
 ·rw [ho1]; exact Heap.get?_push_of_some _ (Heap.get?_push_at rfl (by rw [← ho1]; rfl))
 ·obtain ⟨rfl, hQ⟩ := hr
  wp_walk
  exact hQ
end
end L2
namespace L2
open PySem PySem.Spec PyProof.Rows
theorem x_raise {M : Model} {A : Around} {E : Value → Shared → Prop} {s : Shared} {env : Env} {x : Sem Value} {Q : Flow → Shared → Prop} (hh : A.handled = none)
  (h : wpAny M A x (fun v s₁ => ∃ e C d vs sl tl ini, v = .ref e ∧ R5 s₁.heap C tl ini ∧ s₁.heap.get? e = some ⟨.ref C, d, .fields vs, sl⟩ ∧ vs[1]? = some .none ∧ E (.ref e) s₁) E s) : wpAny M A (raiseStmt env (some x) none) Q E s := by
 unfold raiseStmt
 refine wpAny_bind (cL h fun v s₁ ⟨e, C, d, vs, sl, tl, ini, ev, X, he, h1, hE⟩ => ?_)
 subst ev
 obtain ⟨N, nm, q, bs, hdct, sn, sub, ab, col, dd, k0, k1, k2, k3, k5, mN, hC, hN, hi, T⟩ := X.at_
 obtain ⟨hp, g, dr, tk, os⟩ := s₁
 have hcB : (Value.ref C :: tl).contains (.type "BaseException") = true := by rw [List.contains_cons, T.hasType PySem.F.excBase_ValueError.hasBase, Bool.or_true]
 repeat (first | (with_reducible refine wpAny_loadPart_at he ?_) | (with_reducible refine wpAny_loadPart_at hC ?_) | (with_reducible refine wpAny_isSubtype_exc hC ?_; rw [hcB]) | (with_reducible refine wpAny_field he rfl h1 ?_) | wp_step)
 exact wpAny_raiseNew_none hh hE
section
variable {X : Cx} {x : Str} {C f : Addr} {tl : List Value} {E : XK} {e : Expr} {es : List Expr} {t : TA} {te : TE} {np p pos : Pos} {fd : FuncData} {ps : List Str} {sp : Sp} {k : Nat}
noncomputable def qO (K : PySem.W.Frag) (te : TE) (E : XK) : TS := fun _ σ H => te σ H fun v H1 => ∃ a C d tl ini, v = .ref a ∧ H1 a = some (XN a C d) ∧ D9 K C tl ini = true ∧ E (.ref C) (some a) (upd H1 a (XO a C d))
theorem wD (hp : MW X E) (hc : X.calm = true) (he : PE X e te) : PS X (.Raise (some e) none pos) (qO X.K te E) := by
 intro pins s σ H D I h
 rw [arm_exec_Raise]
 refine wpAny_bind (wpAny_standAt ?_)
 refine x_raise (I.ok.hd hc) ?_
 refine wpAny_bind (cL (he pins s σ H _ I h) fun v s1 ⟨u, H1, I1, r, a, C, d, tl, ini, eu, ha, hC, hE⟩ => wpAny_bind (wpAny_standAt (wpAny_pure ?_)))
 subst eu
 obtain rfl : v = Value.ref a := r
 obtain ⟨vs, sl, g, g1⟩ := XN.at_ I1.bY ha
 exact ⟨a, C, d, vs, sl, tl, ini, rfl, G5 I1.mG hC, g, g1, hp pins σ _ s1 a C d vs sl (I1.raised ha) aB g g1 hE⟩
noncomputable def MD (C : Addr) (t : TA) : TE := fun σ H Q => t σ H fun vs H1 => vs.length ≤ sizeLine ∧ ∀ a, H1 a = none → Q (.ref a) (upd H1 a (XN a C none))
noncomputable def x5 (C : Addr) (sp : Sp) (t : TA) : TE := fun σ H Q => t σ H fun vs H1 => vs.length ≤ sizeLine ∧ ∀ a, H1 a = none → sp (.ref a :: vs) (upd H1 a (XN a C none)) (fun v H2 => v = .aZ ∧ Q (.ref a) H2) E0
theorem CC (hg : Gl X x) (hm : X.mg x = some (.ref C)) (hC : D9 X.K C tl (some (.ref f)) = true) (hk : PySem.W.keepIn X.K (.ref C) = true) (hf : PySem.W.typeIn X.K (.ref f) = some (.type "function"))
  (F : aT X.prog X.w X.K X.mg X.base dF k f fd ps sp) (hr : eA (k + 1) X.A) (hb : Binds X.K fd ps []) (ha : PA X (e :: es) t) (hdb : (x == ("__debug__" : Str)) = false := by decide)
  (he : starEach (e :: es) X.env = (false, eval e X.env) :: starEach es X.env := by rfl) (hpl : (backTo pos (starEach es X.env)).any (·.1) = false := by rfl) : PE X (.Call (.Name x p) (e :: es) [] pos) (x5 C sp t) := by
 intro pins s σ H Q I h
 refine wpAny_Call_Name_kw (mM I hg hm ?_ hdb)
 refine PySem.W.callWith_K (h₀ := X.base) I.ok.mod.RG hk (cL (ha pos pins s σ H _ I h) fun us s1 ⟨vs, H1, I1, r, hl, q⟩ => ⟨I1.mG, ?_⟩) he hpl
 obtain ⟨hh, g, dr, tk, os⟩ := s1
 obtain ⟨o, ho, hc⟩ := Option.map_eq_some_iff.mp hf
 refine K0 (G5 I1.mG hC) (I1.mG _ _ ho) hc (show us.length ≤ _ by rw [← r.length]; exact hl) fun h' a m => ?_
 obtain ⟨hn, J⟩ := I1.RI m
 have hq := q a hn
 have r2 : Vals (V.ref a :: vs) (Value.ref a :: us) := .cons rfl r
 have hl2 : (Value.ref a :: us ++ []).length = ps.length := by rw [List.append_nil, ← r2.length]; exact F.len _ _ _ _ hq
 refine wpAny_call (codeAny_mono (F.run _ X.stack _ _ ⟨Value.ref a :: us, []⟩ (Value.ref a :: us) _ _ E0 (hr.make C us []) (J.IE.make C us []) (by have := hb _ (Value.ref a :: us) J.mG hl2; rw [List.append_nil] at this; exact this) r2 hq) fun r s' hq' => ?_)
 cases r with
 | error e => exact False.elim hq'
 | ok fl =>
  cases fl with
  | ret u =>
   obtain ⟨v, H', I3, rv, ev, q3⟩ := J.after hq'
   subst ev
   exact ⟨rv, ⟨V.ref a, H', I3, rfl, q3⟩⟩
  | next => exact False.elim hq'
  | brk => exact False.elim hq'
  | cont => exact False.elim hq'
end
end L2
namespace L2
open PySem PySem.Spec PyProof.Rows
noncomputable abbrev Cx.held (X : Cx) (a : Addr) (E : Value → Shared → Prop) : Cx := { X with A := X.A.mark (some (.ref a)), calm := false, xe := E }
section
variable {X : Cx} {pins : List (Addr × Obj)} {σ : St} {H : Hp} {s : Shared}
theorem Inv.held (I : Inv X pins σ H s) (a : Addr) (E : Value → Shared → Prop) : Inv (X.held a E) pins σ H s :=
 ⟨⟨I.ok.mod, I.ok.kind, I.ok.glob, I.ok.blt, I.ok.above, I.ok.inj, I.ok.has, I.ok.OJ, (fun z => nomatch z), I.ok.frames, I.ok.P2, I.ok.RQ, I.ok.bs, I.ok.HJ, I.ok.zK, I.ok.xK, I.ok.mD, I.ok.JM⟩, I.os, I.bare, I.base, I.loc, I.cell, I.free, I.iR, I.pin, I.bY, I.len⟩
theorem Inv.OV {a : Addr} {E : Value → Shared → Prop} (ok : X.Ok) (I : Inv (X.held a E) pins σ H s) : Inv X pins σ H s :=
 ⟨ok, I.os, I.bare, I.base, I.loc, I.cell, I.free, I.iR, I.pin, I.bY, I.len⟩
theorem Inv.SN {h' : Heap} {n : Str} {j : Nat} {v : Option Value} {m : Str → Option Value} {t' : Nat} (I : Inv X pins σ H s) (hN : X.N.Nodup) (hj : X.N[j]? = some n) (hn' : s.heap.Ns X.env.locals m)
  (hl : ∀ (i : Nat) (x : Str) (v : V), X.N[i]? = some x → σ[i]? = some (some v) → Q8 X.env.scope x → ∃ u, RelV v u ∧ Look X.env s.heap m x u)
  (hn : h'.Ns X.env.locals (fun x => if x = n then v else m x)) (hs : Heap.SameBut X.env.locals s.heap h') : Inv X pins (σ.set j none) H { s with heap := h', toks := t' } := by
 have HQ := I.HQ
 have nl : ∀ b o, X.fN.heap.get? b = some o → b ≠ X.env.locals := fun b o e => Nat.ne_of_lt (Nat.lt_of_lt_of_le (Heap.lt_size e) I.ok.above)
 refine ⟨I.ok, I.os, I.bare, ⟨fun b o e n hb hx => (hs.2 b (nl b o e)).trans (I.base.keep b o e n hb hx), fun b o e n hb hx => ?_, I.base.free, fun b o e hx => ?_, I.base.qA, I.base.oQ, I.base.pY⟩, ⟨_, hn, fun i y v' e1 e2 e3 => ?_⟩, fun y c e => ?_, I.free, I.iR, fun p hp => ?_, fun b ob e => ?_, by rw [List.length_set]; exact I.len⟩
 ·obtain ⟨sl, e1⟩ := I.base.slot b o e n hb hx
  exact ⟨sl, (hs.2 b (nl b o e)).trans e1⟩
 ·obtain ⟨o', e1⟩ := I.base.there b o e hx
  exact ⟨o', (hs.2 b (nl b o e)).trans e1⟩
 ·by_cases hij : i = j
  ·subst hij
   rw [List.getElem?_set_self (by rw [I.len]; exact (List.getElem?_eq_some_iff.mp hj).1)] at e2
   cases e2
  ·rw [List.getElem?_set_ne (Ne.symm hij)] at e2
   obtain ⟨u', r', q⟩ := hl i y v' e1 e2 e3
   refine ⟨u', r', ?_⟩
   rcases q with ⟨k, e⟩ | ⟨k, c, e, z⟩
   ·refine .inl ⟨k, ?_⟩
    have : y ≠ n := fun e => hij (rL hN e1 (e ▸ hj))
    simp [this, e]
   ·exact .inr ⟨k, c, e, z.sameBut hs (HQ y c e)⟩
 ·obtain ⟨w', z⟩ := I.cell y c e
  exact ⟨w', z.sameBut hs (HQ y c e)⟩
 ·obtain ⟨e, n, ne, nf, d⟩ := I.pin p hp
  exact ⟨(hs.2 p.1 ne).trans e, n, ne, nf, d⟩
 ·refine (I.bY b ob e).i7 (fun c w' hc q => (hs.2 c ?_).trans q) (fun _ q => q) fun _ _ q => q
  rintro rfl
  rcases hc with z | hc
  ·rw [← z, I.free] at e; cases e
  ·rw [I.free] at hc; cases hc
theorem PF {fs ch ex : List Addr} {h h' : Heap} {a : Addr} {o : HO} (k : kE fs ch h h') (hH : H a = some o) (hc : ∀ b ∈ ch, b = a ∨ b ∈ ex) : Un fs ex H H h h' := by
 have nc : ∀ b, H b = none → b ∉ ex → b ∉ ch := fun b n hx z => (hc b z).elim (fun q => by rw [q, hH] at n; cases n) hx
 exact ⟨fun b o q n hb hx => k.keep b o hb (nc b n hx) q, fun b o q n _ hx => k.slot b o (nc b n hx) q, fun _ _ _ n _ => n, fun b o q _ => k.there b o q, fun _ _ q => q, fun _ _ _ q => q, fun _ ps q => ⟨#[], by rw [q]; simp⟩⟩
theorem Inv.mQ (I : Inv X pins σ H s) {T : Addr} (hT : s.heap.objs.size ≤ T) : (T ∈ X.ex ∨ X.fN.heap.objs.size ≤ T) ∧ T ≠ X.env.locals ∧ (∀ x c, X.env.cells.lookup x = some c → c ≠ T) ∧ ∀ p ∈ X.pn ++ pins, p.1 ≠ T :=
 ⟨.inr (Nat.le_trans I.sz hT), Nat.ne_of_gt (Nat.lt_of_lt_of_le I.lt hT), fun x c e => by obtain ⟨v, o, ho, _⟩ := I.cell x c e; exact Nat.ne_of_lt (Nat.lt_of_lt_of_le (Heap.lt_size ho) hT), fun p hp => Nat.ne_of_lt (Nat.lt_of_lt_of_le (Heap.lt_size (I.pin p hp).1) hT)⟩
theorem Inv.MY {a C T : Addr} {d : Option Addr} {vs : Array Value} {sl : Array (Option Value)} {E : Value → Shared → Prop} {Q : Unit → Shared → Prop} {M : Model} (I : Inv X pins σ H s) (hst : X.stack = X.env :: X.outer) (hf : X.env.frame = some X.env.locals) (hH : H a = some (XO a C d)) (he : s.heap.get? a = some ⟨.ref C, d, .fields vs, sl⟩)
  (h1 : vs[1]? = some (.ref T)) (hT : K2 s.heap T .none) (ne : T ≠ a) (hTn : H T = none) (hch : (T ∈ X.ex ∨ X.fN.heap.objs.size ≤ T) ∧ T ≠ X.env.locals ∧ (∀ x c, X.env.cells.lookup x = some c → c ≠ T) ∧ ∀ p ∈ X.pn ++ pins, p.1 ≠ T)
  (h : ∀ h' vs' T', Inv X pins σ H { s with heap := h' } → h'.get? a = some ⟨.ref C, d, .fields vs', sl⟩ → vs'[1]? = some (.ref T') → K2 h' T' .none → T' ≠ a → H T' = none →
   ((T' ∈ X.ex ∨ X.fN.heap.objs.size ≤ T') ∧ T' ≠ X.env.locals ∧ (∀ x c, X.env.cells.lookup x = some c → c ≠ T') ∧ ∀ p ∈ X.pn ++ pins, p.1 ≠ T') → Q () { s with heap := h' }) :
  wpAny M X.A (noteFrame (.ref a) X.env) (fun _ s₂ => wpAny M X.A (setFlight (.ref a) none) Q E s₂) E s := by
 have hs := I.stack
 have hfr := I.ok.frames
 rw [hst] at hs hfr
 refine PJ hfr hs hf he h1 hT ne fun h2 vs2 k2 e2 v2 t2 => ?_
 have J2 : Inv X pins σ H { s with heap := h2 } := I.pJ (s' := { s with heap := h2 }) (ch := [T]) rfl (by rw [hst]; exact PF k2 hH fun b z => by simpa using z)
  (BS I.bY k2 (fun b z => I.o9 b (by rw [hst]; exact z)) (fun b z => by
   rcases List.mem_cons.mp z with q | q
   ·exact .inr q
   ·rw [List.mem_singleton.mp q]; exact .inl hTn) hH e2) I.bare fun b z => by rw [List.mem_singleton.mp z]; exact hch
 have ne2 : s.heap.objs.size ≠ a := Nat.ne_of_gt (Heap.lt_size he)
 have n2 : H s.heap.objs.size = none := I.bY.fresh (Nat.le_refl _)
 refine zR (s := { s with heap := h2 }) e2 v2 t2 ne2 fun h3 k3 e3 t3 => ?_
 have J3 : Inv X pins σ H { s with heap := h3 } := J2.pJ (s' := { s with heap := h3 }) (ch := [s.heap.objs.size]) rfl (PF (fs := sD X.stack) ⟨fun b o _ => k3.keep b o (fun z => nomatch z), k3.slot, k3.there, k3.size⟩ hH fun b z => .inr z)
  (BS J2.bY k3 (fun b z => nomatch z) (fun b z => .inl (by rw [List.mem_singleton.mp z]; exact n2)) hH e3) I.bare fun b z => by rw [List.mem_singleton.mp z]; exact I.mQ (Nat.le_refl _)
 exact h h3 _ _ J3 e3 v2 t3 ne2 n2 (I.mQ (Nat.le_refl _))
end
end L2
namespace L2
open PySem PySem.Spec PyProof.Rows
noncomputable def RZ (H : Hp) (a C : Addr) : Prop := ∃ d, H a = some (XO a C d) ∧ ∀ dx, d = some dx → ∃ fs, H dx = some (.xd fs)
noncomputable def AE (H : Hp) (a C : Addr) (fs : List (Str × V)) : Prop := ∃ dx, H a = some (XO a C (some dx)) ∧ H dx = some (.xd fs)
theorem AE.is {H : Hp} {a C : Addr} {fs : List (Str × V)} (h : AE H a C fs) : RZ H a C := let ⟨dx, h1, h2⟩ := h; ⟨some dx, h1, fun _ e => by cases e; exact ⟨fs, h2⟩⟩
theorem RZ.inst {P : Program} {w : World} {H : Hp} {h : Heap} {a C : Addr} (x : RZ H a C) (ok : jL P w H h) : ∃ ox od, PySem.W.InstAt h a ox C od := by
 obtain ⟨d, h1, h2⟩ := x
 obtain ⟨vs, sl, g⟩ := XO.at_ ok h1
 cases d with
 | none => exact ⟨_, none, g, rfl, rfl, trivial⟩
 | some dx =>
  obtain ⟨fs, z⟩ := h2 dx rfl
  obtain ⟨u, hu⟩ := (ok dx _ z).there
  exact ⟨_, some u, g, rfl, rfl, hu⟩
structure ND (K : PySem.W.Frag) : Prop where
 sp : PySem.W.specialIn K (.builtin "object.__class__") "__get__" = some (some (.builtin "getset_descriptor.__get__"))
 tk : PySem.W.takesIn K (.builtin "object.__class__") = some true
theorem NI {K : PySem.W.Frag} {x C : Addr} (c : sE K C) (g : ND K) : PySem.W.KitX K (.ref x) (.ref C) (fun h => ∃ ox od, PySem.W.InstAt h x ox C od) where
 ty := fun _ _ _ ⟨_, _, I⟩ => I.type
 it := fun _ _ X _ => by
  obtain ⟨cd, hc, _⟩ := PySem.W.any_some c.hd
  unfold PySem.W.clsIn at hc
  split at hc
  ·rename_i ho
   intro A' Q' E' s' k q
   unfold isType loadHead
   exact wpAny_bind (wpAny_loadPart (k _ _ (X _ _ ho)) (wpAny_pure q))
  ·cases hc
 ne := fun h tp dd its n sl X htp => by
  obtain ⟨cd, hc, _⟩ := PySem.W.any_some c.hd
  refine Bool.eq_false_iff.mpr fun q => ?_
  obtain rfl : C = tp := Value.ref.inj (beq_iff_eq.mp q)
  unfold PySem.W.clsIn at hc
  split at hc
  ·rename_i ho
   cases (X _ _ ho).symm.trans htp
  ·cases hc
 ca := fun X ⟨_, _, I⟩ k => LC X I c g.sp g.tk k
section
variable {X : Cx}
noncomputable def G3 (K : PySem.W.Frag) : List V → Hp → VK → Prop := fun xs H Q => ∃ a C y Y b, xs = [.ref a, y] ∧ (∀ v, RelV y v → v = Y) ∧ RZ H a C ∧ sE K C ∧ ND K ∧ PySem.W.kitOne K (.ref C) Y = some b ∧ Q (.bl b) H
theorem xM (K : PySem.W.Frag) (hK : X.K = K := by rfl) : eL X (.builtin "isinstance") (G3 K) := by
 subst hK
 intro pins s σ H xs us Q I r h
 obtain ⟨a, C, y, Y, b, rfl, hY, hx, c, g, e, q⟩ := h
 obtain ⟨u, v, rfl, rx, ry⟩ := vals2 r
 cases rx
 obtain rfl := hY v ry
 exact PySem.W.kia_one (NI c g) I.mG (hx.inst I.bY) e (fun z => nomatch z) fun tk => ⟨.bl b, H, I.tok tk, rfl, q⟩
noncomputable def sJ (K : PySem.W.Frag) (ta : TE) (f : Str) : TE := fun σ H Q => ta σ H fun x H1 => ∃ a C fs v, x = .ref a ∧ AE H1 a C fs ∧ sE K C ∧ zN K C f ∧ fs.lookup f = some v ∧ Q v H1
theorem LA {e : Expr} {f : Str} {ta : TE} {pos : Pos} (he : PE X e ta) (hb : attributeBase e f X.env (eval e X.env) = eval e X.env := by rfl) : PE X (.Attribute e f pos) (sJ X.K ta f) := by
 intro pins s σ H Q I h
 refine JO hb (cL (he pins s σ H _ I h) fun u s1 ⟨x, H1, I1, rx, a, C, fs, v, ex, ⟨dx, h1, h2⟩, c, n, l, q⟩ => ?_)
 subst ex
 obtain rfl : u = Value.ref a := rx
 obtain ⟨vs, sl, g⟩ := XO.at_ I1.bY h1
 obtain ⟨mA, ns, r⟩ := (show dJ X.prog X.w H1 s1.heap dx (.xd fs) from I1.bY dx _ h2)
 obtain ⟨od, ho, hl⟩ := sM ns
 obtain ⟨u, hu, ru⟩ := zP.some_of (v := v) (o := mA f) (by rw [← l]; exact r f)
 exact QX I1.mG ⟨g, rfl, rfl, ho⟩ c (PySem.W.findObj_own c.hd n rfl (by rw [hl, hu])) (EH ru) ⟨v, H1, I1.tok _, ru, q⟩
noncomputable def wQ (K : PySem.W.Frag) (ta tv : TE) (f : Str) : TS := fun D σ H => tv σ H fun y H1 => ta σ H1 fun x H2 => ∃ a C B, x = .ref a ∧ H2 a = some (XN a C none) ∧ sE K C ∧ zN K C f ∧ (PySem.W.clsIn K C).map (·.mro) = some [.ref C, .ref B, .type "ValueError", .type "Exception", .type "BaseException", .type "object"] ∧
 PySem.W.findIn K (.ref C) "__setattr__" = some (some (.builtin "object.__setattr__")) ∧ ∀ dx, H2 dx = none → D.nx σ (upd (upd H2 dx (.xd [(f, y)])) a (XN a C (some dx)))
theorem LO {o value : Expr} {f : Str} {ta tv : TE} {pos pos' : Pos} (ha : PE X o ta) (hv : PE X value tv) (hs : swapsWith value (some (.Attribute o f pos')) pos.line X.env = pure false := by rfl) : PS X (.Assign [.Attribute o f pos'] value pos) (wQ X.K ta tv f) := by
 intro pins s σ H D I h
 refine plainObj_wpAny_Assign_Attribute (cL (hv pins s σ H _ I h) fun u s1 ⟨y, H1, I1, ry, q⟩ => cL (ha pins s1 σ H1 _ I1 q) fun ov s2 ⟨x, H2, I2, rx, a, C, B, ex, ea, c, n, mr, sa, q2⟩ => ?_) hs
 subst ex
 obtain rfl : ov = Value.ref a := rx
 obtain ⟨vs, sl, g, g1⟩ := XN.at_ I2.bY ea
 refine RN I2.mG g c mr sa n fun h' ns' g' kp => ?_
 have hd : H2 s2.heap.objs.size = none := I2.bY.fresh (Nat.le_refl _)
 have nda : s2.heap.objs.size ≠ a := Nat.ne_of_gt (Heap.lt_size g)
 refine ⟨σ, _, ?_, q2 _ hd⟩
 have e1 : upd (upd H2 s2.heap.objs.size (.xd [(f, y)])) a (XN a C (some s2.heap.objs.size)) a = some (XN a C (some s2.heap.objs.size)) := aB
 have nb : ∀ b o, s2.heap.get? b = some o → b ≠ s2.heap.objs.size := fun b o e => Nat.ne_of_lt (Heap.lt_size e)
 have oth : ∀ b u, H2 b = some u → b ≠ a → upd (upd H2 s2.heap.objs.size (.xd [(f, y)])) a (XN a C (some s2.heap.objs.size)) b = some u := fun b u e ne => by rw [aL ne, aL (aF e hd)]; exact e
 refine I2.un (h' := h') (t' := s2.toks + 2) ⟨fun b o q n _ _ => kp b o (fun z => by rw [z, ea] at n; cases n) q, fun b o q n _ _ => ⟨o.slots, kp b o (fun z => by rw [z, ea] at n; cases n) q⟩,
  fun b o q n _ => by rw [aL (fun z => by rw [z, ea] at n; cases n), aL (nb b o q)]; exact n, fun b o q _ => ?_, fun b xs q => oth b _ q fun z => (by rw [z, ea] at q; cases q),
  fun b u xs q => oth b _ q fun z => (by rw [z, ea] at q; cases q), fun b ps q => ⟨#[], by rw [oth b _ q fun z => (by rw [z, ea] at q; cases q)]; simp⟩⟩ fun b u eb => ?_
 ·by_cases z : b = a
  ·subst z; exact ⟨_, g'⟩
  ·exact ⟨o, kp b o z q⟩
 ·by_cases hb : b = a
  ·subst hb; rw [aB] at eb; cases eb; exact XN.ok g' g1
  ·rw [aL hb] at eb
   by_cases hb2 : b = s2.heap.objs.size
   ·subst hb2; rw [aB] at eb; cases eb
    refine ⟨_, ns', fun z => ?_⟩
    show zP (List.lookup z [(f, y)]) (if z = f then some u else none)
    by_cases zf : z = f
    ·subst zf; rw [if_pos rfl]; simp only [List.lookup, beq_self_eq_true]; exact ry
    ·rw [if_neg zf]
     have : (z == f) = false := beq_eq_false_iff_ne.mpr zf
     simp only [List.lookup, this]; exact True.intro
   ·rw [aL hb2] at eb
    refine (I2.bY b u eb).i7 (fun cc v hc q => kp cc v ?_ q) (fun cc q => oth cc _ q fun z => by rw [z, ea] at q; cases q) fun cc xs q => oth cc _ q fun z => by rw [z, ea] at q; cases q
    rcases hc with z | z
    ·rw [z]; exact hb
    ·intro z2; rw [z2, ea] at z; cases z
end
end L2
namespace L2
open PySem PySem.Spec PyProof.Rows
theorem LL.SJ {P : Program} {w : World} {K : PySem.W.Frag} {mg : Str → Option Value} {base : Heap} {x qual : Str} {st : Stmt} {f : Addr} {fd : FuncData} {N ps : List Str} {k : Nat} {sp : Sp} (F : LL K x qual st f fd) (S : aW N ps (aC st)) (len : ∀ vs H Q E, sp vs H Q E → vs.length = ps.length)
  (hb : ∀ (cdv : Value) (A : Around) (outer : List Env) (s : Shared) (H : Hp) (vs : List V) (Q : VK) (E : XK), eA k (A.deeper (envOfC qual (aC st) s.heap.objs.size f cdv)) → sp vs H Q E →
   ∃ t, xD (sG (vX P w) P w K mg base N qual (aC st) f cdv A outer s H E) (aI st) t ∧ t { nx := fun _ H' => Q .aZ H', rt := Q } (start N vs) H) : aT P w K mg base (vX P w) (k + 1) f fd ps sp := by
 obtain ⟨oc, od, kV, doc, pm, an, cdv, ct, osl, rfl, lk, hcd⟩ := F.ex
 exact MG lk hcd S len fun A outer s H vs Q E hr hsp => hb cdv A outer s H vs Q E hr hsp
theorem rR : bootBuiltins "ValueError" = some (.type "ValueError") := by decide +kernel
end L2
namespace L2
open PySem PySem.Spec PyProof.Rows
theorem MQ {P : Program} {w : World} {K : PySem.W.Frag} {mg : Str → Option Value} {base : Heap} {N : List Str} {qual : Str} {scope : Scope} {f : Addr} {cd : Value} {A : Around} {outer : List Env} {s : Shared} {H : Hp} {E : XK} :
  Passes (vX P w) (sG (vX P w) P w K mg base N qual scope f cd A outer s H E) E := by
 intro pins σ H1 s1 e s' I hcx
 obtain ⟨a, C, T, d, vs, sl, H', rfl, os, bare, un, bY, hH, hga, h1, hT, ne, hTn, hTs, hE⟩ := hcx
 have J := I.pJ (ch := []) os un bY bare fun b z => nomatch z
 show wpAny _ _ (leaving _ (.ref a)) _ _ _
 unfold leaving
 refine wpAny_bind ?_
 refine J.MY rfl rfl hH hga h1 hT ne hTn (I.mQ hTs) fun h' vs' T' J3 g3 v3 t3 ne3 n3 ch3 => ?_
 refine ⟨a, C, T', d, vs', sl, H', rfl, J3.os, J3.bare, J3.base, J3.bY, hH, g3, v3, t3, ne3, n3, ?_, hE⟩
 rcases ch3.1 with z | z
 ·cases z
 ·exact z
theorem GC {M : Model} {K : PySem.W.Frag} {cls : Value} {tp e : Addr} {h : Heap} {cs : List Value} (X : K.In h) (LT : PySem.W.Looks M h (typeOf (.ref e)) cls) (hp : ∃ o, h.get? tp = some o ∧ o.cls = .type "tuple" ∧ ∃ n, o.data = .seq cs.toArray n) (hx : ∀ c ∈ cs, PySem.W.exmOne K cls c = some false) :
  PySem.W.Looks M h (excMatches (.ref e) (.ref tp)) false := by
 intro A Q E s k q
 obtain ⟨o, ho, hc, n, hd⟩ := hp
 have L0 : PySem.W.Looks M h (isInstance (.ref tp) (.type "tuple")) true := ((PySem.W.Looks.ld ho).andThen (PySem.W.Looks.of_pure (by rw [hc]))).andThen (PySem.W.Looks.of_pure (by rw [isSubtype_type]; kernel_rfl))
 have LT := LT.keeps k
 have F : ∀ c ∈ cs, PySem.W.Looks M s.heap (isExcClass c) true ∧ PySem.W.Looks M s.heap (isSubtype cls c) false := fun c hcm => by
  obtain ⟨a1, a2⟩ := PySem.W.exm_cls (M := M) X (hx c hcm)
  exact ⟨a1.keeps k, a2.keeps k⟩
 clear hx
 unfold excMatches
 refine wpAny_bind ((L0.keeps k).here ?_)
 rw [if_pos rfl]
 refine wpAny_bind (wpAny_seqItems (k _ _ ho) hd ?_)
 refine wpAny_bind (wpAny_pure ?_)
 dsimp only [Option.getD_some, Option.getD]
 refine wpAny_bind (wpAny_forIn_list _ (fun rest _ s' => s' = s ∧ ∀ c ∈ rest, c ∈ cs) _ ?_ ?_ _ _ ⟨rfl, fun c hc => by simpa using hc⟩)
 ·rintro c rest b s' ⟨rfl, hm⟩
  refine wpAny_bind ((F c (hm c List.mem_cons_self)).1.here ?_)
  simp only [Bool.not_true, Bool.false_eq_true, if_false]
  exact wpAny_pure ⟨rfl, fun c' h' => hm c' (List.mem_cons_of_mem _ h')⟩
 ·rintro b s' ⟨rfl, _⟩
  refine wpAny_bind (LT.here ?_)
  refine wpAny_bind (wpAny_forIn_list _ (fun rest (acc : Option Bool × Unit) s2 => acc.1 = none ∧ s2 = s' ∧ ∀ c ∈ rest, c ∈ cs) _ ?_ ?_ _ _ ⟨rfl, rfl, fun c hc => by simpa using hc⟩)
  ·rintro c rest b s2 ⟨e, rfl, hm⟩
   refine wpAny_bind ((F c (hm c List.mem_cons_self)).2.here ?_)
   simp only [Bool.false_eq_true, if_false]
   exact wpAny_pure ⟨rfl, rfl, fun c' h' => hm c' (List.mem_cons_of_mem _ h')⟩
  ·rintro ⟨b1, b2⟩ s2 ⟨e, rfl, _⟩
   dsimp only at e
   subst e
   exact wpAny_pure q
structure S8 (X : Cx) (pins : List (Addr × Obj)) (σ : St) (H' : Hp) (s' : Shared) (a C : Addr) : Prop where
 inv : Inv X pins σ H' s'
 ex : ∃ T d vs sl, H' a = some (XO a C d) ∧ s'.heap.get? a = some ⟨.ref C, d, .fields vs, sl⟩ ∧ vs[1]? = some (.ref T) ∧ K2 s'.heap T .none ∧ T ≠ a ∧ H' T = none ∧
  ((T ∈ X.ex ∨ X.fN.heap.objs.size ≤ T) ∧ T ≠ X.env.locals ∧ (∀ x c, X.env.cells.lookup x = some c → c ≠ T) ∧ ∀ p ∈ X.pn ++ pins, p.1 ≠ T)
noncomputable def S0 (X : Cx) (e : Expr) (tc : St → Hp → VK → XK → Prop) : Prop := ∀ (EE : Value → Shared → Prop) (pins : List (Addr × Obj)) (s : Shared) (σ : St) (H : Hp) (Q : VK) (E : XK), Inv (X.lP EE) pins σ H s → tc σ H Q E →
 (∀ a C H' s', S8 X pins σ H' s' a C → E (.ref C) (some a) H' → EE (.ref a) s') → wpAny (model X.prog X.w) X.A (eval e X.env) (EP (X.lP EE) pins σ Q) EE s
noncomputable def P6 (X : Cx) (hs : List ExceptHandler) (th : Addr → Value → TS) : Prop := ∀ (pins : List (Addr × Obj)) (s : Shared) (σ : St) (H : Hp) (D : Ends) (a C : Addr), S8 X pins σ H s a C → th a (.ref C) D σ H →
 wpAny (model X.prog X.w) X.A (handleBy (.ref a) X.env hs) (SP X pins D) X.xe s
noncomputable def J0 (sp : Sp) (t : TA) : St → Hp → VK → XK → Prop := fun σ H Q E => t σ H fun vs H1 => sp vs H1 Q E
section
variable {X : Cx}
noncomputable def xJ (i : Nat) (tc : St → Hp → VK → XK → Prop) (th : Addr → Value → TS) : TS := fun D σ H => tc σ H (fun v H1 => D.nx (σ.set i (some v)) H1) fun cls oa H' => ∃ a, oa = some a ∧ th a cls D σ H'
theorem JS {i : Nat} {x : Str} {e : Expr} {h₀ : ExceptHandler} {hs : List ExceptHandler} {tc : St → Hp → VK → XK → Prop} {th : Addr → Value → TS} {px apos pos : Pos} (hst : X.stack = X.env :: X.outer) (hfr : X.env.frame = some X.env.locals)
  (hN : X.N.Nodup) (hi : X.N[i]? = some x) (hx : Loc X.env.scope x) (hc : S0 X e tc) (hh : P6 X (h₀ :: hs) th) (hsw : swapsWith e (some (.Name x px)) apos.line X.env = pure false := by rfl)
  (hf : X.fn x = true ∨ X.env.scope.names.lookup x = some .local := by first | exact .inl rfl | exact .inr rfl | assumption) :
  PS X (.Try [.Assign [.Name x px] e apos] (h₀ :: hs) [] [] pos) (xJ i tc th) := by
 intro pins s σ H D I h
 refine wpAny_Try_except ?_
 generalize hE : (fun (e : Value) (s₁ : Shared) => wpAny (model X.prog X.w) X.A (noteFrame e X.env) (fun _ s₂ => wpAny (model X.prog X.w) X.A (setFlight e none) (fun _ s₃ => wpAny (model X.prog X.w) X.A (handleBy e X.env (h₀ :: hs)) (SP X pins D) X.xe s₃) X.xe s₂) X.xe s₁) = EE
 refine wpAny_execs_cons ?_
 refine wpAny_Assign_Name (cL (hc EE pins s σ H _ _ (I.lP EE) h fun a C H' s' fl q => ?_) fun v s1 ⟨y, H1, I1, r1, q1⟩ => ?_) hsw
 ·obtain ⟨a', ea, hth⟩ := q
  cases ea
  obtain ⟨J, T, d, vs, sl, hH, hga, h1, hT, ne, hTn, ch⟩ := fl
  rw [← hE]
  exact J.MY hst hfr hH hga h1 hT ne hTn ch fun h3 vs3 T3 J3 g3 v3 t3 ne3 n3 ch3 => hh pins _ σ H' D a C ⟨J3, T3, d, vs3, sl, hH, g3, v3, t3, ne3, n3, ch3⟩ hth
 ·exact eP I1.iC hN hi hx r1 (fun s2 I2 => wpAny_execs_nil (wpAny_execs_nil ⟨_, H1, I2, q1⟩)) hf
noncomputable def RE (K : PySem.W.Frag) (Y : Value) (j : Nat) (ts : TS) (tr : Addr → Value → TS) : Addr → Value → TS := fun a cls D σ H => ∃ b, PySem.W.exmOne K cls Y = some b ∧
 if b = true then ts { nx := fun σ' H3 => D.nx (σ'.set j none) H3, rt := fun _ _ => False } (σ.set j (some (.ref a))) H else tr a cls D σ H
noncomputable def QH : Addr → Value → TS := fun _ _ _ _ _ => False
theorem OZ : P6 X [] QH := fun _ _ _ _ _ _ _ _ h => h.elim
theorem QJ {y n : Str} {j : Nat} {ts : TS} {tr : Addr → Value → TS} {Y : Value} {np hpos : Pos} {b₀ : Stmt} {suite : List Stmt} {rest : List ExceptHandler} (hgy : Gl X y) (hmy : X.mg y = some Y) (nd : X.N.Nodup) (hj : X.N[j]? = some n) (hlo : X.env.kindOf n = some .local)
  (hs : ∀ a E, xD (X.held a E) (b₀ :: suite) ts) (hr : P6 X rest tr) (hdy : (y == ("__debug__" : Str)) = false := by decide) :
  P6 X (.ExceptHandler (some (.Name y np)) (some n) (b₀ :: suite) hpos :: rest) (RE X.K Y j ts tr) := by
 intro pins s σ H' D a C fl ⟨b, hex, hth⟩
 obtain ⟨J3, T3, d, vs3, sl, hH, g3, v3, t3, ne3, n3, ch3⟩ := id fl
 have J3m : Inv (X.held a fun _ _ => False) pins σ H' s := J3.held a _
 have LT : PySem.W.Looks (model X.prog X.w) s.heap (typeOf (.ref a)) (.ref C) := (PySem.W.Looks.ld g3).andThen .now
 refine wpAny_handleBy_cons (codeAny_handlers_test (mM (X := X.held a fun _ _ => False) J3m hgy hmy ?_ hdy)) (by intro q; cases q)
 refine PySem.W.Looks.here (PySem.W.exm_one J3.mG LT hex) ?_
 cases b with
 | false => exact hr pins s σ H' D a C fl hth
 | true =>
  refine codeAny_handlers_suite_as ?_
  refine zR (s := s) g3 v3 t3 ne3 fun h4 k4 g4 t4 => ?_
  have J4 : Inv X pins σ H' { s with heap := h4 } := J3.pJ (s' := { s with heap := h4 }) (ch := [T3]) rfl (PF (fs := sD X.stack) ⟨fun b o _ => k4.keep b o (fun z => nomatch z), k4.slot, k4.there, k4.size⟩ hH fun b z => .inr z)
   (BS J3.bY k4 (fun b z => nomatch z) (fun b z => .inl (by rw [List.mem_singleton.mp z]; exact n3)) hH g4) J3.bare fun b z => by rw [List.mem_singleton.mp z]; exact ch3
  refine eP (X := X.held a fun _ _ => False) (v := .ref a) (J4.held a _) nd hj (.inl hlo) rfl (fun s5 I5 => ?_) (.inr hlo)
  refine wpAny_mono (hs a (fun _ _ => False) pins s5 _ H' _ I5 hth) (fun fl s6 z => ?_) fun _ _ z => z.elim
  cases fl with
  | next =>
   obtain ⟨σ', H6, J6, hnx⟩ := z
   have J6x : Inv X pins σ' H6 s6 := J6.OV J3.ok
   obtain ⟨m, hn, hl6⟩ := id J6x.loc
   exact wpAny_nameGoes_keeps hlo hn (by rw [J3.ok.kind]; rfl) fun h7 v hn7 hs7 => ⟨σ'.set j none, H6, J6x.SN nd hj hn hl6 hn7 hs7, hnx⟩
  | brk => obtain ⟨_, _, _, q⟩ := z; exact False.elim q
  | cont => obtain ⟨_, _, _, q⟩ := z; exact False.elim q
  | ret u => obtain ⟨_, _, _, _, _, q⟩ := z; exact False.elim q
inductive nD (X : Cx) : List Expr → List Value → Prop
 | nil : nD X [] []
 | cons {y : Str} {p : Pos} {c : Value} {es : List Expr} {cs : List Value} : Gl X y → X.mg y = some c → (y == ("__debug__" : Str)) = false → starEach (.Name y p :: es) X.env = (false, eval (.Name y p) X.env) :: starEach es X.env → nD X es cs → nD X (.Name y p :: es) (c :: cs)
theorem qS {E : Value → Shared → Prop} {pins : List (Addr × Obj)} {s : Shared} {σ : St} {H : Hp} {pos : Pos} (I : Inv X pins σ H s) : ∀ {es : List Expr} {cs : List Value}, nD X es cs → ∀ Q : List Value → Shared → Prop, Q cs s →
  wpAny (model X.prog X.w) X.A (spliced (backTo pos (starEach es X.env))) Q E s
 | _, _, .nil, Q, q => Calls.spliced_nil q
 | _, _, .cons hg hm hd hs r, Q, q => by
  rw [hs]
  show wpAny _ _ (spliced ((false, eval _ X.env) :: backTo pos (starEach _ X.env))) _ _ s
  refine Calls.spliced_cons (mM I hg hm ?_ hd)
  exact qS I r _ q
noncomputable def IY (K : PySem.W.Frag) (cs : List Value) (tr : Addr → Value → TS) : Addr → Value → TS := fun a cls D σ H => (∀ c ∈ cs, PySem.W.exmOne K cls c = some false) ∧ tr a cls D σ H
theorem OC {es : List Expr} {cs : List Value} {kt : Nat} {tpos hpos : Pos} {nm : Option Str} {body : List Stmt} {rest : List ExceptHandler} {tr : Addr → Value → TS} (hn : nD X es cs) (hl : cs.length ≤ sizeLine) (hr : P6 X rest tr) :
  P6 X (.ExceptHandler (some (.Tuple es kt tpos)) nm body hpos :: rest) (IY X.K cs tr) := by
 intro pins s σ H D a C fl ⟨hex, hth⟩
 obtain ⟨J, T, d, vs, sl, hH, hga, h1, hT, ne, hTn, ch⟩ := id fl
 have J3m : Inv (X.held a fun _ _ => False) pins σ H s := J.held a _
 have hn' : nD (X.held a fun _ _ => False) es cs := by
  clear hex hl
  induction hn with
  | nil => exact .nil
  | cons hg hm hd hs _ ih => exact .cons hg hm hd hs ih
 refine wpAny_handleBy_cons (codeAny_handlers_test (wpAny_Tuple_spliced (qS (X := X.held a fun _ _ => False) J3m hn' _ ⟨hl, ?_⟩))) (by intro q; cases q)
 have kk : ∀ b o, s.heap.get? b = some o → (s.heap.push { cls := .type "tuple", data := .seq cs.toArray }).get? b = some o := fun b o e => Heap.get?_push_of_some _ e
 have J2 := J.kept (t' := s.toks) kk
 have hga2 := kk _ _ hga
 have LT : PySem.W.Looks (model X.prog X.w) (s.heap.push { cls := .type "tuple", data := .seq cs.toArray }) (typeOf (.ref a)) (.ref C) := (PySem.W.Looks.ld hga2).andThen .now
 refine PySem.W.Looks.here (GC J2.mG LT ⟨_, Heap.get?_push_size _ rfl, rfl, 0, rfl⟩ hex) ?_
 obtain ⟨ot, ts, t1, t2, t3⟩ := hT
 exact hr pins _ σ H D a C ⟨J2, T, d, vs, sl, hH, hga2, h1, ⟨ot, ts, kk _ _ t1, t2, t3⟩, ne, hTn, ch⟩ hth
end
end L2
namespace L2
open PySem PySem.Spec PyProof.Rows PySem.W
section
variable {X : Cx}
noncomputable def yY (i j l : Nat) (ta : TA) : TS := fun D σ H => ta σ H fun vs H1 => ∃ v w z, vs = [v, w, z] ∧ D.nx (((σ.set i (some v)).set j (some w)).set l (some z)) H1
theorem LH {i j l : Nat} {x y z : Str} {a b c : Expr} {ta : TA} {pos px py pz pt : Pos} {kt k2 pt2} (hc : X.calm = true) (hN : X.N.Nodup) (hi : X.N[i]? = some x) (hj : X.N[j]? = some y) (hl : X.N[l]? = some z) (hij : i ≠ j) (hil : i ≠ l) (hjl : j ≠ l)
  (hx : X.env.scope.names.lookup x = some .local) (hy : X.env.scope.names.lookup y = some .local) (hz : X.env.scope.names.lookup z = some .local) (ha : PA X [a, b, c] ta)
  (hw : swappedStores [.Tuple [.Name x px, .Name y py, .Name z pz] kt pt] (.Tuple [a, b, c] k2 pt2) X.env = pure (some [x, y, z]))
  (hs : swapsWithSole [.Tuple [.Name x px, .Name y py, .Name z pz] kt pt] (.Tuple [a, b, c] k2 pt2) pos.line X.env = pure false := by rfl) :
  PS X (.Assign [.Tuple [.Name x px, .Name y py, .Name z pz] kt pt] (.Tuple [a, b, c] k2 pt2) pos) (yY i j l ta) := by
 intro pins s σ H D I h
 rw [exec_Assign_arm]
 refine wpAny_bind (wpAny_standAt ?_)
 rw [hs]
 refine wpAny_bind (wpAny_pure ?_)
 rw [if_neg (by decide)]
 refine wpAny_bind (Tuple_ (cL (ha _ pins s σ H _ I h) fun us s1 ⟨vs, H1, I1, r1, q1⟩ => ?_))
 obtain ⟨v, w, q, e1, q1⟩ := q1
 subst e1
 obtain ⟨u1, u2, u3, rfl, rv, xX, rq⟩ : ∃ u1 u2 u3, us = [u1, u2, u3] ∧ RelV v u1 ∧ RelV w u2 ∧ RelV q u3 := by
  cases r1 with
  | cons p q =>
   cases q with
   | cons p' q' =>
    cases q' with
    | cons p2 q2 =>
     cases q2
     exact ⟨_, _, _, rfl, p, p', p2⟩
 refine wpAny_newObj_type ?_ (by show 3 ≤ sizeLine; decide)
 have I2 : Inv X pins σ H1 { s1 with heap := s1.heap.push { cls := .type "tuple", data := .seq [u1, u2, u3].toArray } } := I1.kept (t' := s1.toks) fun b o e => Heap.get?_push_of_some _ e
 rw [hw]
 refine wpAny_bind (wpAny_pure ?_)
 show wpAny (model X.prog X.w) X.A (do rule "assign.swapped-stores"; let items ← unpackItems (.ref s1.heap.objs.size) 3 none; assignInOrder [fun v => bindName X.env z v, fun v => bindName X.env y v, fun v => bindName X.env x v] items.reverse; pure Flow.next) _ _ _
 refine wpAny_bind (wpAny_rule (wpAny_bind (unpackItems_tuple (items := #[u1, u2, u3]) (I.ok.hd hc) (IsTup.new s1.heap _) fun h' hx' => ?_)))
 have I3 := I2.kept (h' := h') (t' := s1.toks) fun b o e => hx' b o (Nat.ne_of_lt (Heap.lt_size e)) e
 show wpAny _ _ (assignInOrder [fun v => bindName X.env z v, fun v => bindName X.env y v, fun v => bindName X.env x v] [u3, u2, u1] >>= fun _ => pure Flow.next) _ _ _
 refine wpAny_bind (assignInOrder_cons (wpAny_bindName (eP I3 hN hl (.inl hz) rq (fun s2 I4 => ?_) (.inr hz))))
 refine assignInOrder_cons (wpAny_bindName (eP I4 hN hj (.inl hy) xX (fun s2 I4' => ?_) (.inr hy)))
 refine assignInOrder_cons (wpAny_bindName (eP I4' hN hi (.inl hx) rv (fun s3 I5 => assignInOrder_nil (wpAny_pure ?_)) (.inr hx)))
 rw [List.set_comm _ _ (Ne.symm hij), List.set_comm _ _ (Ne.symm hil), List.set_comm _ _ (Ne.symm hjl)] at I5
 exact ⟨_, H1, I5, q1⟩
end
end L2
namespace L2
open PySem PySem.Spec PyProof.Rows Mr
noncomputable def DX (A : Around) (s : Shared) (x y : Value) (c : Bool) : Prop :=
 ∀ (prog : Program) (w : World) (E : Value → Shared → Prop) (Q : Value → Shared → Prop), Q (.bool c) s → wpAny (model prog w) A (richCompare .GtE x y) Q E s
inductive n4 (A : Around) (s : Shared) (fin : Bool) : List (Value × Value) → Bool → Prop
 | done : n4 A s fin [] fin
 | same {p q : Value} {r : List (Value × Value)} {c : Bool} : SeqAt.EqAt A s p q true → n4 A s fin r c → n4 A s fin ((p, q) :: r) c
 | less {p q : Value} {r : List (Value × Value)} {c : Bool} : SeqAt.EqAt A s p q false → DX A s p q c → n4 A s fin ((p, q) :: r) c
section
open PySem.SeqAt
open PySem.AutoSeq1 (wpAny_loadPart')
open PySem.MeetsSeq PySem.MeetsSeq2 PySem.MeetsSeq3
theorem M3 (l b : Addr) (us vs : Array Value) (n m : Nat) (d1 d2 : Option Addr) (k1 k2 : Array (Option Value)) (c : Bool) :
  Meets (Builtin.«tuple.__ge__» ⟨[.ref l, .ref b], []⟩) (fun A R s => s.heap.get? l = some ⟨.type "tuple", d1, .seq us n, k1⟩ ∧ s.heap.get? b = some ⟨.type "tuple", d2, .seq vs m, k2⟩ ∧
   n4 A.in1 s (decide (us.size ≥ vs.size)) (us.toList.zip vs.toList) c ∧ R (.ok (.ret (.bool c))) s) :=
 .of_wp fun prog w A R s h => by
  obtain ⟨hp, gg, dd, tk, os⟩ := s
  obtain ⟨hl, hb, hx, hr⟩ := h
  have f2 := AutoSeq1.sub_tuple_tuple
  wp_walk using wpAny_loadPart' hl, wpAny_loadPart' hb, wpAny_forIn_list _ (fun rest acc s' => acc.1 = none ∧ s' = ⟨hp, gg, dd, tk, os⟩ ∧ n4 A.in1 ⟨hp, gg, dd, tk, os⟩ (decide (us.size ≥ vs.size)) rest c) _
  case turn =>
   rintro ⟨y, x⟩ rest acc s' ⟨ha, rfl, hx'⟩
   cases hx' with
   | same he hrest =>
    refine wpAny_bind (he prog w _ _ ?_)
    wp_walk
    exact ⟨rfl, rfl, hrest⟩
   | less he hlt =>
    refine wpAny_bind (he prog w _ _ ?_)
    have hq := hlt prog w
    wp_walk using hq
    exact ⟨_, rfl, by simpa using hr⟩
  case fin =>
   rintro ⟨b1, b2⟩ s' ⟨ha, rfl, hx'⟩
   simp only at ha
   subst ha
   cases hx'
   wp_walk
   exact ⟨_, rfl, by simpa [Builtin.Tuple.tupleCompareSizes] using hr⟩
  case h => exact ⟨rfl, rfl, hx⟩
end
theorem M8 {A : Around} {s : Shared} {l b : Addr} {us vs : Array Value} {c : Bool} (hl : IsTup s.heap l us) (hb : IsTup s.heap b vs) (hu : A.units < cLine) (hx : n4 A.in1 s (decide (us.size ≥ vs.size)) (us.toList.zip vs.toList) c) :
  DX A s (.ref l) (.ref b) c := by
 intro prog w E Q q
 obtain ⟨⟨c1, d1, t1, k1⟩, g1, e1, n, r1⟩ := id hl
 obtain ⟨⟨c2, d2, t2, k2⟩, g2, e2, m, r2⟩ := id hb
 simp only at e1 r1 e2 r2
 subst e1 r1 e2 r2
 exact richCompare_meets_room (op := .GtE) ⟨_, g1, rfl⟩ ⟨_, g2, rfl⟩ PySem.F.slot_tuple_ge PySem.F.entry_tuple_ge (PySem.F.args_tuple_ge_2 _ _) (M3 l b us vs n m d1 d2 k1 k2 c) ⟨g1, g2, hx, (fun x => nomatch x), q⟩ hu
section
variable {s : Shared}
theorem NT {A : Around} {lt : PV → PV → Option Bool} {n : Nat} : ∀ {xs ys : List PV} {us vs : List Value} {c : Bool} {fin : Bool}, bP s.heap xs us → bP s.heap ys vs → (∀ x ∈ xs, iV n x = true) → (∀ x ∈ ys, iV n x = true) → (∀ x ∈ xs, ∀ y ∈ ys, ∀ u v, Lies s.heap x u → Lies s.heap y v → SeqAt.EqAt A s u v (dP x y) ∧ ∀ b, lt x y = some b → DX A s u v (!b)) →
  fin = decide (us.length ≥ vs.length) → fU lt xs ys = some c → n4 A s fin (us.zip vs) (!c) := by
 intro xs
 induction xs with
 | nil =>
  intro ys us vs c fin h1 h2 p1 p2 hk hf h
  cases h1
  cases h2 <;> (cases h; rw [hf]; exact .done)
 | cons x xs ih =>
  intro ys us vs c fin h1 h2 p1 p2 hk hf h
  cases h1 with
  | cons r1 rr1 =>
   cases h2 with
   | nil => cases h; rw [hf]; exact .done
   | @cons y _ ys _ r2 rr2 =>
    obtain ⟨he, hl⟩ := hk x List.mem_cons_self y List.mem_cons_self _ _ r1 r2
    unfold fU at h
    cases e : dP x y with
    | true =>
     rw [e] at he
     rw [if_pos e] at h
     exact .same he (ih rr1 rr2 (fun a ha => p1 a (List.mem_cons_of_mem _ ha)) (fun a ha => p2 a (List.mem_cons_of_mem _ ha)) (fun a ha b hb => hk a (List.mem_cons_of_mem _ ha) b (List.mem_cons_of_mem _ hb)) (by rw [hf]; simp) h)
    | false =>
     rw [e] at he
     rw [if_neg (by rw [e]; exact Bool.false_ne_true)] at h
     exact .less he (hl c h)
theorem ON : ∀ (n : Nat) (A : Around) {p q : PV} {v u : Value} {b : Bool}, A.units + n < cLine → iV n p = true → iV n q = true → Lies s.heap p v → Lies s.heap q u → kN n p q = some b → DX A s v u (!b) := by
 have hs : ∀ (A : Around) {p q : PV} {v u : Value} {b : Bool} (x y : Str), p = .str x → q = .str y → Lies s.heap p v → Lies s.heap q u → some (decide (x.cps.toList < y.cps.toList)) = some b → DX A s v u (!b) := by
  rintro A p q v u b x y rfl rfl h1 h2 h; cases h; cases h1; cases h2; exact fun prog w E Q q => PySem.P.ge_str q
 have hi : ∀ (A : Around) {p q : PV} {v u : Value} {b : Bool} (x y : Int), p = .int x → q = .int y → Lies s.heap p v → Lies s.heap q u → some (decide (x < y)) = some b → DX A s v u (!b) := by
  rintro A p q v u b x y rfl rfl h1 h2 h; cases h; cases h1; cases h2
  exact fun prog w E Q q => PyProof.Rows.ge_int (by rw [show decide (y ≤ x) = !decide (x < y) by rw [← decide_not]; exact decide_eq_decide.mpr (by omega)]; exact q)
 intro n
 induction n with
 | zero =>
  intro A p q v u b hu o1 o2 h1 h2 h
  cases p with
  | str x =>
   cases q with
   | str y => exact hs A x y rfl rfl h1 h2 h
   | _ => cases h
  | int x =>
   cases q with
   | int y => exact hi A x y rfl rfl h1 h2 h
   | _ => cases h
  | _ => cases q <;> cases h
 | succ n ih =>
  intro A p q v u b hu o1 o2 h1 h2 h
  cases p with
  | str x =>
   cases q with
   | str y => exact hs A x y rfl rfl h1 h2 h
   | _ => cases h
  | int x =>
   cases q with
   | int y => exact hi A x y rfl rfl h1 h2 h
   | _ => cases h
  | tup xs =>
   cases q with
   | tup ys =>
    cases h1 with
    | tup t1 l1 =>
     cases h2 with
     | tup t2 l2 =>
      have hin : A.in1.units = A.units + 1 := rfl
      have o1 : xs.all (iV n) = true := o1
      have o2 : ys.all (iV n) = true := o2
      refine M8 t1 t2 (by omega) ?_
      simpa using NT (A := A.in1) (s := s) l1 l2 (List.all_eq_true.mp o1) (List.all_eq_true.mp o2) (fun x hx y hy u v a b => ⟨qC n A.in1 (by omega) (iF (List.all_eq_true.mp o1 x hx)) (iF (List.all_eq_true.mp o2 y hy)) a b, fun c hc => ih A.in1 (by omega) (List.all_eq_true.mp o1 x hx) (List.all_eq_true.mp o2 y hy) a b hc⟩) rfl h
   | _ => cases h
  | _ => cases q <;> cases h
end
section
variable {X : Cx} {k : Nat}
noncomputable def G6 : R2 := fun x y H Q => ∃ p q b, Tr H p x ∧ Tr H q y ∧ iV 3 p = true ∧ iV 3 q = true ∧ kN 3 p q = some b ∧ Q (.bl (!b)) H
theorem N5 (hr : eA k X.A) : iK X (compareOp .GtE) G6 := by
 intro pins s σ H x y v u Q I rx ry h
 obtain ⟨p, q, b, h1, h2, o1, o2, hb, hQ⟩ := h
 exact ON 3 X.A (by have := hr.un; omega) o1 o2 ((Red.rep (h1.rep (K := X.K) (Z := DQ))).lies I (iF o1) rx) ((Red.rep (h2.rep (K := X.K) (Z := DQ))).lies I (iF o2) ry) hb _ _ _ _ (bG I hQ rfl)
noncomputable def x3 (i : Nat) (C : Addr → Prop) (S : Addr → Sp) (t : TA) : St → Hp → VK → XK → Prop := fun σ H Q E => ∃ f, σ[i]? = some (some (.ref f)) ∧ C f ∧ t σ H fun vs H1 => S f vs H1 Q E
theorem LR {i : Nat} {x : Str} {C : Addr → Prop} {S : Addr → Sp} {e : Expr} {es : List Expr} {t : TA} {p cpos : Pos} (hi : X.N[i]? = some x) (hx : Q8 X.env.scope x) (hC : ∀ f, C f → PySem.W.keepIn X.K (.ref f) = true)
  (hS : ∀ f vs H Q E, S f vs H Q E → ∃ (fd : FuncData) (ps : List Str) (k : Nat) (sp : Sp), aT X.prog X.w X.K X.mg X.base (vX X.prog X.w) k f fd ps sp ∧ eA k X.A ∧ Binds X.K fd ps [] ∧ sp vs H Q E)
  (ha : ∀ E, PA (X.lP E) (e :: es) t) (hd : (x == ("__debug__" : Str)) = false := by decide) (hcd : (x == ("__classdict__" : Str)) = false := by decide)
  (he : starEach (e :: es) X.env = (false, eval e X.env) :: starEach es X.env := by rfl) (hpl : (backTo cpos (starEach es X.env)).any (·.1) = false := by rfl) :
  S0 X (.Call (.Name x p) (e :: es) [] cpos) (x3 i C S t) := by
 intro EE pins s σ H Q E I0 h hE
 obtain ⟨f, hf, hc, h⟩ := h
 refine wpAny_Call_Name_kw ?_
 refine cL (pv (X := X.lP EE) i hi hx hd hcd pins s σ H (fun v H1 => v = .ref f ∧ H1 = H) I0 ⟨_, hf, rfl, rfl⟩) fun fv s0 ⟨v, H0, I0', rv, ev, eH⟩ => ?_
 subst ev eH
 obtain rfl : fv = Value.ref f := rv
 refine PySem.W.callWith_K (h₀ := X.base) I0.ok.mod.RG (hC f hc) (cL (ha EE cpos pins s0 σ H0 _ I0' h) fun us s1 ⟨vs, H1, I1, r, q⟩ => ⟨I1.mG, ?_⟩) he hpl
 obtain ⟨fd, ps, k, sp, F, hr, hb, q⟩ := hS _ _ _ _ _ q
 have hl : us.length = ps.length := by rw [← r.length]; exact F.len _ _ _ _ q
 have hb1 := hb s1 us I1.mG (by rw [List.append_nil]; exact hl)
 rw [List.append_nil] at hb1
 refine wpAny_call (codeAny_mono (F.run X.A X.stack s1 H1 ⟨us, []⟩ us vs Q E hr I1.IE hb1 r q) fun rr s' hq => ?_)
 have I1' : Inv X pins σ H1 s1 := I1.iC
 cases rr with
 | ok fl =>
  cases fl with
  | ret u => exact I1.after hq
  | next => exact False.elim hq
  | brk => exact False.elim hq
  | cont => exact False.elim hq
 | error ev =>
  obtain ⟨a, C, T, d, vs1, sl, H', rfl, os, bare, un, bY, hH, hga, h1, hT, ne, hTn, hTs, hex⟩ := hq
  exact hE a C H' s' ⟨I1'.pJ (ch := []) os un bY bare (fun b z => nomatch z), T, d, vs1, sl, hH, hga, h1, hT, ne, hTn, I1'.mQ hTs⟩ hex
theorem GA (K : PySem.W.Frag) {e : Expr} {f : Str} {ta : TE} {pos : Pos} (he : PE X e ta) (hb : attributeBase e f X.env (eval e X.env) = eval e X.env := by rfl) (hK : X.K = K := by rfl) : PE X (.Attribute e f pos) (sJ K ta f) := by
 subst hK; exact LA he hb
theorem bD {op : Operator} {r : R2} {a b : Expr} {ta tb : TE} {pos : Pos} (ho : iK X (binaryOp op) r) (ha : nQ X a ta) (hb : nQ X b tb) : nQ X (.BinOp a op b pos) (pV r ta tb) := ⟨bH ho ha.h hb.h⟩
theorem w8 {r : V → Option Int → Option Int → Hp → VK → Prop} {e : Expr} {te : TE} {lo hi : Option Expr} {tl th} {p2 pos : Pos} (hr : NU X r) (he : nQ X e te) (hl : PO X lo tl) (hu : PO X hi th) : nQ X (.Subscript e (.Slice lo hi none p2) pos) (P8 r te tl th) := ⟨bR hr he.h hl hu⟩
theorem A9 {r : R2} {a b : Expr} {ta tb : TE} {pos : Pos} (hr : O5 X r) (ha : nQ X a ta) (hb : nQ X b tb) (hs : BH b) : nQ X (.Subscript a b pos) (pV r ta tb) := ⟨bC hr ha.h hb.h hs⟩
theorem jB (K : PySem.W.Frag) {o e : Expr} {to te : TE} {apos cpos : Pos} (ho : nQ X o to) (ha : tF X [e] (dH te jN)) (hK : X.K = K := by rfl)
  (hbase : attributeBase o "append" X.env (eval o X.env) = eval o X.env := by rfl)
  (hfew : ((backTo cpos (starEach [e] X.env)).all (fun x => !x.1) && (backToKw cpos (keywordEach [] X.env)).all (fun x => x.1.isSome)
   && decide ([e].length + ([] : List Keyword).length + (if ([] : List Keyword).isEmpty then 0 else 1) < 30)) = true := by rfl)
  (hline : (apos.endLine == cpos.line) = true := by rfl) (hs : starEach [e] X.env = (false, eval e X.env) :: starEach [] X.env := by rfl) (hplain : (backTo cpos (starEach [] X.env)).any (·.1) = false := by rfl) :
  nQ X (.Call (.Attribute o "append" apos) [e] [] cpos) (HM K "list" kL to (dH te jN)) := ⟨cO K PySem.F.plainAttrs_list PySem.F.slot_list_append PySem.F.type_list_append d5 ho.h ha.h hK hbase hfew hline hs hplain⟩
theorem MI {x : Str} {st : Stmt} {ps : List Str} {f : Addr} {fd : FuncData} {sp : Sp} {j k : Nat} {e : Expr} {es : List Expr} {t : TA} {p pos : Pos} (D : Def X.K X.mg x st ps f fd) (G : aT X.prog X.w X.K X.mg X.base dF j f fd ps sp) (hr : eA k X.A) (hjk : j ≤ k) (hg : Gl X x) (ha : tF X (e :: es) t) (hdb : (x == ("__debug__" : Str)) = false := by decide)
  (he : starEach (e :: es) X.env = (false, eval e X.env) :: starEach es X.env := by rfl) (hpl : (backTo pos (starEach es X.env)).any (·.1) = false := by rfl) :
  nQ X (.Call (.Name x p) (e :: es) [] pos) (mR sp [] E0 t) := ⟨bB D G hr hjk hg ha.h hdb he hpl⟩
theorem gO {e : Expr} {te : TE} {pos : Pos} (he : nQ X e te) (hs : swapsWith e none pos.line X.env = pure false := by rfl) : MT X (.Expr e pos) (pM te) := ⟨gQ he.h hs⟩
theorem kO (K : PySem.W.Frag) {tg l : Expr} {tl : TE} {g : TG} {body : List Stmt} {tb : TS} {pos : Pos} (hp : PassesOwn (model X.prog X.w) X.A X.env X.xe) (hc : X.calm = true) (hl : nQ X l tl) (hg : PG X tg g) (hb : wK X body tb) (hK : X.K = K := by rfl)
  (hs : ∀ x, foldedSetIterable l X.env x = pure x := by intro _; rfl) : MT X (.For tg l body [] pos) (LI (wO K tl) g tb) := ⟨iH hp hc (qQ K hl.h hK) hg hb.h hs⟩
theorem lO {i : Nat} {x : Str} {e : Expr} {te : TE} {p' pos : Pos} (hN : X.N.Nodup) (hi : X.N[i]? = some x) (hx : Loc X.env.scope x) (he : nQ X e te) (hsw : swapsWith e (some (.Name x p')) pos.line X.env = pure false := by rfl)
  (hf : X.fn x = true ∨ X.env.scope.names.lookup x = some .local := by first | exact .inl rfl | exact .inr rfl | assumption) : MT X (.Assign [.Name x p'] e pos) (oR te (hX i)) := ⟨bQ hN hi hx he.h hsw hf⟩
theorem JD (K : PySem.W.Frag) {o e : Expr} {es : List Expr} {to : TE} {t : TA} {name : Str} {apos cpos : Pos} {T id : String} {r : V → List V → Hp → VK → Prop} (pa : PlainAttrs T) (slot : Slot T name id) (hty : typeOf (.builtin id) = pure (.type "method_descriptor")) (hm : MR X id r) (ho : nQ X o to) (ha : tF X (e :: es) t) (hK : X.K = K := by rfl)
  (hbase : attributeBase o name X.env (eval o X.env) = eval o X.env := by rfl)
  (hfew : ((backTo cpos (starEach (e :: es) X.env)).all (fun x => !x.1) && (backToKw cpos (keywordEach [] X.env)).all (fun x => x.1.isSome)
   && decide ((e :: es).length + ([] : List Keyword).length + (if ([] : List Keyword).isEmpty then 0 else 1) < 30)) = true := by rfl)
  (hline : (apos.endLine == cpos.line) = true := by rfl) (hs : starEach (e :: es) X.env = (false, eval e X.env) :: starEach es X.env := by rfl) (hplain : (backTo cpos (starEach es X.env)).any (·.1) = false := by rfl) :
  nQ X (.Call (.Attribute o name apos) (e :: es) [] cpos) (HM K T r to t) := ⟨cO K pa slot hty hm ho.h ha.h hK hbase hfew hline hs hplain⟩
theorem gH {e : Expr} {te : TE} {pos : Pos} (he : nQ X e te) : MT X (.Return (some e) pos) (C8 te) := ⟨aU he.h⟩
theorem jD : wK X [] pD := ⟨bJ⟩
theorem oH {c : Expr} {b o : List Stmt} {tt : TT} {tb to : TS} {pos : Pos} (hc : PT X c tt) (hb : wK X b tb) (ho : wK X o to) : MT X (.If c b o pos) (zG tt tb to) := ⟨dI hc hb.h ho.h⟩
end
end L2
namespace My
open PySem L2 Mr PySem.Builtin.Str
noncomputable def yR (z : Str) : Bool := !(decide (z = EM) || (decide (8 < (z.length : Int)) || (decide (1 < (z.length : Int)) && decide (z.cps.toList.head? = some 48)))) && z.cps.toList.all zC
theorem HC : ∀ (cs : List Nat) (a : Nat), (∀ c ∈ cs, 48 ≤ c ∧ c ≤ 57) → a * 10 ^ cs.length ≤ cs.foldl (fun acc c => acc * 10 + (c - 48)) a ∧ cs.foldl (fun acc c => acc * 10 + (c - 48)) a < (a + 1) * 10 ^ cs.length
 | [], a, _ => by simp
 | c :: cs, a, h => by
  have hc := h c List.mem_cons_self
  have ih := HC cs (a * 10 + (c - 48)) fun d hd => h d (List.mem_cons_of_mem _ hd)
  rw [List.foldl_cons, List.length_cons, Nat.pow_succ]
  have p : 0 < 10 ^ cs.length := Nat.pow_pos (by decide)
  generalize 10 ^ cs.length = m at ih p
  generalize List.foldl (fun acc c => acc * 10 + (c - 48)) (a * 10 + (c - 48)) cs = v at ih
  obtain ⟨b, hb⟩ : ∃ b, c = 48 + b := ⟨c - 48, by omega⟩
  subst hb
  have hb9 : b ≤ 9 := by omega
  rw [show 48 + b - 48 = b by omega] at ih
  constructor
  ·refine Nat.le_trans ?_ ih.1
   rw [Nat.mul_comm m 10, ← Nat.mul_assoc]
   exact Nat.mul_le_mul_right m (by omega)
  ·refine Nat.lt_of_lt_of_le ih.2 ?_
   rw [Nat.mul_comm m 10, ← Nat.mul_assoc]
   exact Nat.mul_le_mul_right m (by omega)
theorem uW {z : Str} (h : z.cps.toList.all zC = true) : ∀ c ∈ z.cps.toList, 48 ≤ c ∧ c ≤ 57 := fun c hc => by
 have := (CQ c).mp (List.all_eq_true.mp h c hc)
 rw [tK] at this
 simp only [List.mem_cons, List.mem_nil_iff, or_false] at this
 omega
theorem OY {z : Str} : z = EM ↔ z.cps.toList = [] := ⟨fun h => by rw [h]; exact jY, fun h => PM.iW (by rw [h, jY])⟩
theorem iT (z : Str) : z.cps.toList.length = z.length := by simp [Str.length]
theorem BR {z : Str} (h : z.cps.toList.all zC = true) (h0 : z ≠ EM) (hl : z.length ≤ 9) : intText? z = some ((PySem.NumText.digitsVal z.cps.toList : Nat) : Int) :=
 PySem.intText_digits (fun c hc => uW h c hc) (fun e => h0 (OY.mpr e)) (by omega)
theorem OH {z : Str} (h : z.cps.toList.all zC = true) (h0 : z ≠ EM) : mF z = true := by
 unfold mF; rw [decide_eq_false h0, h]; rfl
theorem KJ {z : Str} (h : yR z = true) : ∃ k, gN z = some k ∧ intText? z = some k ∧ jX (.int k) = true ∧ z.length ≤ 8 := by
 unfold yR at h
 simp only [Bool.and_eq_true, Bool.not_eq_true', Bool.or_eq_false_iff, decide_eq_false_iff_not, Bool.and_eq_false_iff] at h
 obtain ⟨⟨h0, h8, hz⟩, ha⟩ := h
 have e := BR ha h0 (by omega)
 refine ⟨_, ?_, e, ?_, by omega⟩
 ·unfold gN
  rw [decide_eq_false (by omega), OH ha h0]
  have z0 : j8 z = false := by
   unfold j8
   rcases hz with h1 | h1
   ·by_cases e48 : z.cps.toList.head? = some 48
    ·have hl := iT z
     have : z = Str.ofString "0" := by
      refine PM.iW ?_
      rw [show (Str.ofString "0").cps.toList = [48] by decide +kernel]
      cases e : z.cps.toList with
      | nil => rw [e] at e48; cases e48
      | cons c r =>
       rw [e] at e48 hl
       cases e48
       cases r with
       | nil => rfl
       | cons d r => simp at hl; omega
     rw [decide_eq_true this, Bool.not_true, Bool.and_false]
    ·rw [decide_eq_false e48]; rfl
   ·rw [decide_eq_false h1]; rfl
  rw [z0]
  exact e
 ·have b := (HC z.cps.toList 0 (uW ha)).2
  rw [iT] at b
  have p : 10 ^ z.length ≤ 10 ^ 8 := Nat.pow_le_pow_right (by decide) (by omega)
  have : PySem.NumText.digitsVal z.cps.toList < 10 ^ 8 := by unfold PySem.NumText.digitsVal; omega
  unfold jX
  rw [Bool.and_eq_true, decide_eq_true_eq, decide_eq_true_eq]
  omega
theorem NG {z : Str} (h : yR z = false) {k : Int} (hk : gN z = some k) : jX (.int k) = false := by
 unfold gN at hk
 split at hk
 ·cases hk
 rename_i h9
 rw [Bool.or_eq_true, not_or, decide_eq_true_eq] at h9
 split at hk
 ·cases hk
 rename_i hz
 have hc : mF z = true := by cases e : mF z with | true => rfl | false => rw [e] at h9; exact absurd rfl h9.2
 unfold mF at hc
 rw [Bool.and_eq_true, Bool.not_eq_true', decide_eq_false_iff_not] at hc
 obtain ⟨h0, ha⟩ := hc
 have h0 : z ≠ EM := h0
 have e := BR ha h0 (by omega)
 rw [e] at hk
 cases hk
 unfold yR at h
 rw [ha, Bool.and_true, decide_eq_false h0, Bool.false_or, Bool.not_eq_false', Bool.or_eq_true, decide_eq_true_eq, Bool.and_eq_true, decide_eq_true_eq, decide_eq_true_eq] at h
 have n48 : z.length = 9 → z.cps.toList.head? ≠ some 48 := fun hl e48 => by
  refine hz ?_
  unfold j8
  rw [decide_eq_true e48, decide_eq_false (fun q => by rw [q, show (Str.ofString "0").length = 1 by decide +kernel] at hl; cases hl)]; rfl
 have h89 : z.length = 9 := by
  rcases h with h | h
  ·omega
  ·exfalso
   refine hz ?_
   unfold j8
   rw [decide_eq_true h.2, decide_eq_false (fun q => by rw [q, show (Str.ofString "0").length = 1 by decide +kernel] at h; omega)]; rfl
 have hh := n48 h89
 have hl := iT z
 have fg := uW ha
 generalize z.cps.toList = cs at hh hl fg
 cases cs with
 | nil => simp at hl; omega
 | cons c r =>
  have h1 : c ≠ 48 := fun q => hh (by rw [q]; rfl)
  have hc := fg c List.mem_cons_self
  have b := (HC r (0 * 10 + (c - 48)) fun d hd => fg d (List.mem_cons_of_mem _ hd)).1
  have hr : r.length = 8 := by simp at hl; omega
  rw [hr] at b
  have : 100000000 ≤ PySem.NumText.digitsVal (c :: r) := by
   unfold PySem.NumText.digitsVal
   rw [List.foldl_cons]
   refine Nat.le_trans ?_ b
   have : 1 ≤ 0 * 10 + (c - 48) := by omega
   calc 100000000 = 1 * 10 ^ 8 := by decide
    _ ≤ _ := Nat.mul_le_mul_right _ this
  unfold jX
  rw [Bool.and_eq_false_iff, decide_eq_false_iff_not, decide_eq_false_iff_not]
  omega
theorem HK {z n d r h : Str} {hs : List Str} (e : Txt.split z BL = n :: d :: r :: h :: hs) : fO z = (match gN d with | some k => if Lt.ok ⟨n, k, Txt.join BL (h :: hs), iS r⟩ = true then some ⟨n, k, Txt.join BL (h :: hs), iS r⟩ else none | none => none) := by unfold fO; rw [e]; rfl
noncomputable def ltB (y x : Lt) : Bool := (kN 3 y.P x.P).getD false
theorem HY (y x : Lt) : kN 3 y.P x.P = some (ltB y x) := by
 have h := MP y x
 unfold ltB
 cases e : kN 3 y.P x.P with
 | none => rw [e] at h; cases h
 | some b => rfl
noncomputable def lZ : Nat → Option Lt → List Str → Sum Nat (List Lt)
 | _, _, [] => .inr []
 | i, l, r :: rs => match fO r with
  | none => .inl i
  | some x => if (l.any fun y => !ltB y x) = true then .inl i else match lZ (i + 1) (some x) rs with
   | .inl j => .inl j
   | .inr xs => .inr (x :: xs)
noncomputable def EW (z : Str) : Sum Nat (List Lt) := lZ 0 none (fH z)
noncomputable def jZ (xs : List Lt) (i : Nat) (rs : List Str) : Sum Nat (List Lt) := match lZ i xs.getLast? rs with
 | .inl j => .inl j
 | .inr ys => .inr (xs ++ ys)
theorem xB (xs : List Lt) (i : Nat) : jZ xs i [] = .inr xs := by unfold jZ; simp [lZ]
theorem BP {xs : List Lt} {i : Nat} {r : Str} {rs : List Str} (h : fO r = none) : jZ xs i (r :: rs) = .inl i := by unfold jZ lZ; rw [h]
theorem AW {xs : List Lt} {i : Nat} {r : Str} {rs : List Str} {x : Lt} (h : fO r = some x) (hd : (xs.getLast?.any fun y => !ltB y x) = true) : jZ xs i (r :: rs) = .inl i := by
 unfold jZ lZ; rw [h]; dsimp only; rw [if_pos hd]
theorem A2 {xs : List Lt} {i : Nat} {r : Str} {rs : List Str} {x : Lt} (h : fO r = some x) (hd : (xs.getLast?.any fun y => !ltB y x) = false) : jZ xs i (r :: rs) = jZ (xs ++ [x]) (i + 1) rs := by
 have e : jZ xs i (r :: rs) = match (match lZ (i + 1) (some x) rs with | .inl j => Sum.inl j | .inr ys => .inr (x :: ys)) with | .inl j => Sum.inl j | .inr ys => .inr (xs ++ ys) := by
  unfold jZ
  rw [show lZ i xs.getLast? (r :: rs) = _ from by rw [lZ, h]]
  dsimp only
  rw [if_neg (by rw [hd]; exact Bool.false_ne_true)]
 rw [e]
 unfold jZ
 rw [List.getLast?_concat]
 cases lZ (i + 1) (some x) rs with
 | inl j => rfl
 | inr ys => simp
theorem HW (z : Str) : jZ [] 0 (fH z) = EW z := by
 unfold jZ EW
 rw [List.getLast?_nil]
 cases lZ 0 none (fH z) <;> rfl
noncomputable def tV (z : Str) : Sum Nat PV := match fO z with | some x => .inr x.P | none => .inl 0
noncomputable def GG (z : Str) : Sum Nat PV := match EW z with | .inr xs => .inr (.tup (xs.map Lt.P)) | .inl i => .inl i
noncomputable def uO (H : Hp) (v : V) : Sum Nat PV → Prop
 | .inr p => Tr H p v
 | .inl i => ∃ l, v = .ref l ∧ H l = some (.lst [.int (i : Int)])
theorem uO.same {H H' : Hp} {v : V} {o : Sum Nat PV} (h : uO H v o) (s : aG H H') : uO H' v o := by
 cases o with
 | inr p => exact Tr.kp s.kt h
 | inl i => obtain ⟨l, e, h⟩ := h; exact ⟨l, e, s _ _ h⟩
theorem CG {z : Str} : Txt.split z NL = [EM] ↔ z = EM := by
 constructor
 ·intro h
  have := eT z NL
  rw [h, dN] at this
  exact this.symm
 ·rintro rfl
  exact zT G7 NR (by decide +kernel)
end My
namespace My
open PySem L2 Mr PySem.Builtin.Str
noncomputable def mu (zs : List Str) : Nat := (zs.map fun z => z.length + 1).sum
theorem rK : mu [] = 0 := rfl
theorem cS (z : Str) (zs : List Str) : mu (z :: zs) = z.length + 1 + mu zs := rfl
theorem lL (xs ys : List Str) : mu (xs ++ ys) = mu xs + mu ys := by unfold mu; rw [List.map_append, List.sum_append]
theorem mP {y : Str} (hy : y.length = 1) : ∀ (zs : List Str), (Txt.join y zs).length ≤ mu zs ∧ (zs ≠ [] → (Txt.join y zs).length + 1 = mu zs)
 | [] => by rw [kT]; exact ⟨Nat.zero_le _, fun h => absurd rfl h⟩
 | [z] => by
  rw [dN]
  show z.length ≤ _ ∧ (_ → z.length + 1 = _)
  rw [cS, rK]; exact ⟨by omega, fun _ => rfl⟩
 | z :: w :: r => by
  have ih := (mP hy (w :: r)).2 (by simp)
  rw [dN] at ih ⊢
  have e : (Str.join y (z :: w :: r)).length = z.length + y.length + (Str.join y (w :: r)).length := by
   show (z ++ y ++ Str.join y (w :: r)).length = _
   rw [bN, bN]
  rw [e, cS]; omega
theorem qB {z y : Str} (hy : y.length = 1) : mu (Txt.split z y) = z.length + 1 := by
 obtain ⟨a, r, e⟩ := nL z y
 have h := (mP hy (Txt.split z y)).2 (by rw [e]; simp)
 rw [eT] at h
 exact h.symm
theorem JE {zs : List Str} {m : Nat} (hl : zs.length ≤ 2) (h : ∀ z ∈ zs, z.length ≤ m) : mu zs ≤ 2 * (m + 1) := by
 match zs, hl with
 | [], _ => exact Nat.zero_le _
 | [a], _ => have := h a (by simp); rw [cS, rK]; omega
 | [a, b], _ => have := h a (by simp); have := h b (by simp); rw [cS, cS, rK]; omega
theorem BQ {zs : List Str} {k : Nat} {z : Str} (h : zs[k]? = some z) : mu (zs.take k) + (z.length + 1) + mu (zs.drop (k + 1)) = mu zs := by
 have e : zs = zs.take k ++ z :: zs.drop (k + 1) := by
  obtain ⟨hk, e⟩ := List.getElem?_eq_some_iff.mp h
  rw [← e, ← List.drop_eq_getElem_cons hk, List.take_append_drop]
 have := congrArg mu e
 rw [lL, cS] at this
 omega
theorem LU (zs : List Str) (k : Nat) : mu (zs.drop (k + 1)) ≤ mu (zs.drop k) := by
 cases h : zs.drop k with
 | nil => rw [← List.tail_drop, h]; exact Nat.le_refl _
 | cons a r => rw [← List.tail_drop, h, cS]; show mu r ≤ _; omega
theorem rG {xs : List V} (k : Nat) : bZ xs none (some (k : Int)) = xs.take k := by
 unfold bZ
 rw [HT.oS, HT.x8, List.drop_zero, Nat.sub_zero]
 by_cases h : k ≤ xs.length
 ·rw [Nat.min_eq_left h]
 ·rw [Nat.min_eq_right (by omega), List.take_of_length_le (Nat.le_refl _), List.take_of_length_le (by omega)]
theorem vA {xs : List V} (k : Nat) : bZ xs (some (k : Int)) none = xs.drop k := by
 unfold bZ
 rw [HT.oS, HT.x8]
 by_cases h : k ≤ xs.length
 ·rw [Nat.min_eq_left h, List.take_of_length_le (by rw [List.length_drop]; exact Nat.le_refl _)]
 ·rw [Nat.min_eq_right (by omega), List.drop_of_length_le (Nat.le_refl _), List.drop_of_length_le (by omega), List.take_nil]
theorem oX {xs : List V} (k c : Nat) : (bZ xs (some (k : Int)) (some ((k : Int) + (c : Int)))).length ≤ c := by
 unfold bZ
 rw [← Int.natCast_add, HT.oS, HT.oS, List.length_take]
 omega
theorem vT {xs : List V} {lo hi : Option Int} : ∀ v ∈ bZ xs lo hi, v ∈ xs := fun v h => List.mem_of_mem_drop (List.mem_of_mem_take h)
theorem w6 {zs : List Str} {vs : List V} (h : ∀ v ∈ vs, v ∈ zs.map V.str) : ∃ ws : List Str, vs = ws.map V.str ∧ ∀ w ∈ ws, w ∈ zs := by
 induction vs with
 | nil => exact ⟨[], rfl, fun _ h => nomatch h⟩
 | cons v vs ih =>
  obtain ⟨ws, e, hw⟩ := ih fun v hv => h v (List.mem_cons_of_mem _ hv)
  obtain ⟨z, hz, rfl⟩ := List.mem_map.mp (h v List.mem_cons_self)
  exact ⟨z :: ws, by rw [e]; rfl, fun w hw' => (List.mem_cons.mp hw').elim (fun q => q ▸ hz) (hw w)⟩
end My
namespace My
open PySem L2
local macro_rules | `(tactic| walk_at "vc0") => `(tactic| simp only [C4, oR, pV, PZ, tC, i8, rI, EK, rU, JU, dH, jN, C8, yF, zF, hX, zG, lE, pD, vG, CT, pM, mR, P5, E9, ED, Q7, tB, xZ, MC, wC, m7, P8, wB, mO, HM, KG, oN, CV, zD, GW, EC, P7, GJ, FG, xT, yV, IU, LS, A5, IZ, tD, vE, vJ, jG, oU, NP, PX, rJoin, rM, FR, yE, xP, xV, L5, AY, RS, AZ, CD, HG, C9, nC, o8, KP, A1, vS, uH, uS, AX, nI, rB, kL, yS, C6, D1, yQ, IL, M0, L2.start, qJ, j6, gt_iff_lt, ge_iff_le, List.map_cons, List.map_nil, List.cons_append, List.nil_append, List.length_cons, List.length_nil, List.replicate, List.getElem?_cons_zero, List.getElem?_cons_succ, List.set_cons_zero, List.set_cons_succ, Option.some.injEq, V.int.injEq, V.str.injEq, V.bl.injEq, V.ref.injEq, V.ty.injEq, List.cons.injEq, and_true, true_and, exists_eq_left, exists_eq_left', exists_eq_right, exists_and_left, exists_and_right, exists_eq_or_imp, exists_const, Nat.reduceAdd, Nat.reduceSub, ite_true, ite_false, Bool.false_eq_true, if_true, if_false, and_assoc, Bool.not_true, Bool.not_false, Bool.true_and, Bool.false_and, decide_true, decide_false, reduceCtorEq, false_and, exists_false, or_false, false_or, qT, mY, B8, lW, Mr.BZ, FZ, vZ, wG, E1, yY, pK, qO, MD, x5, sJ, wQ, G3, xJ, x3, RE, IY, QH, J0, G6])
local macro_rules | `(tactic| walk_at "vc1") => `(tactic| simp only [C4, oR, pV, PZ, tC, i8, rI, EK, rU, JU, dH, jN, C8, yF, zF, hX, zG, lE, pD, vG, CT, pM, mR, P5, E9, ED, Q7, tB, xZ, MC, wC, m7, P8, wB, mO, KG, oN, CV, zD, GW, EC, P7, GJ, FG, xT, yV, IU, LS, A5, IZ, tD, vE, vJ, jG, oU, NP, PX, rJoin, rM, FR, yE, xP, xV, L5, AY, RS, AZ, CD, HG, C9, nC, o8, KP, A1, vS, uH, uS, AX, nI, rB, kL, yS, C6, D1, yQ, IL, M0, L2.start, qJ, j6, gt_iff_lt, ge_iff_le, List.map_cons, List.map_nil, List.cons_append, List.nil_append, List.length_cons, List.length_nil, List.replicate, List.getElem?_cons_zero, List.getElem?_cons_succ, List.set_cons_zero, List.set_cons_succ, Option.some.injEq, V.int.injEq, V.str.injEq, V.bl.injEq, V.ref.injEq, V.ty.injEq, List.cons.injEq, and_true, true_and, exists_eq_left, exists_eq_left', exists_eq_right, exists_and_left, exists_and_right, exists_eq_or_imp, exists_const, Nat.reduceAdd, Nat.reduceSub, ite_true, ite_false, Bool.false_eq_true, if_true, if_false, and_assoc, Bool.not_true, Bool.not_false, Bool.true_and, Bool.false_and, decide_true, decide_false, reduceCtorEq, false_and, exists_false, or_false, false_or, qT, mY, B8, lW, Mr.BZ, FZ, vZ, wG, E1, yY, pK, qO, MD, x5, sJ, wQ, G3, xJ, x3, RE, IY, QH, J0, G6])
local macro_rules | `(tactic| walk_at "vc2") => `(tactic| simp only [C4, oR, pV, PZ, tC, i8, rI, EK, rU, JU, dH, jN, C8, yF, zF, hX, zG, lE, pD, vG, CT, pM, mR, P5, E9, ED, Q7, tB, xZ, MC, wC, m7, P8, wB, mO, HM, KG, oN, CV, zD, GW, EC, P7, GJ, FG, xT, yV, IU, LS, A5, IZ, tD, vE, vJ, jG, oU, NP, PX, rJoin, rM, FR, yE, xP, xV, L5, AY, RS, AZ, CD, HG, C9, nC, o8, KP, A1, vS, uH, uS, AX, nI, rB, kL, yS, C6, D1, yQ, IL, M0, L2.start, qJ, j6, gt_iff_lt, ge_iff_le, List.map_cons, List.map_nil, List.cons_append, List.nil_append, List.length_cons, List.length_nil, List.replicate, List.getElem?_cons_zero, List.getElem?_cons_succ, List.set_cons_zero, List.set_cons_succ, Option.some.injEq, V.int.injEq, V.str.injEq, V.bl.injEq, V.ref.injEq, V.ty.injEq, List.cons.injEq, and_true, true_and, exists_eq_left, exists_eq_left', exists_eq_right, exists_and_left, exists_and_right, exists_eq_or_imp, exists_const, Nat.reduceAdd, Nat.reduceSub, ite_true, ite_false, Bool.false_eq_true, if_true, if_false, and_assoc, Bool.not_true, Bool.not_false, Bool.true_and, Bool.false_and, decide_true, decide_false, reduceCtorEq, false_and, exists_false, or_false, false_or, qT, mY, B8, lW, Mr.BZ, FZ, vZ, wG, E1, yY, pK, qO, MD, x5, sJ, wQ, G3, xJ, x3, RE, IY, QH, J0, G6, wY])
local macro_rules | `(tactic| walk_at "vc3") => `(tactic| simp only [C4, oR, pV, PZ, tC, i8, rI, EK, rU, JU, dH, jN, C8, yF, zF, hX, zG, lE, pD, vG, CT, pM, mR, P5, E9, ED, Q7, tB, xZ, MC, wC, m7, P8, wB, mO, HM, KG, oN, CV, zD, GW, EC, P7, GJ, FG, xT, yV, IU, LS, A5, IZ, tD, vE, vJ, oU, NP, PX, rJoin, rM, FR, yE, xP, xV, L5, AY, RS, AZ, CD, HG, C9, nC, o8, KP, A1, vS, uH, uS, AX, nI, rB, kL, yS, C6, D1, yQ, IL, M0, L2.start, qJ, j6, gt_iff_lt, ge_iff_le, List.map_cons, List.map_nil, List.cons_append, List.nil_append, List.length_cons, List.length_nil, List.replicate, List.getElem?_cons_zero, List.getElem?_cons_succ, List.set_cons_zero, List.set_cons_succ, Option.some.injEq, V.int.injEq, V.str.injEq, V.bl.injEq, V.ref.injEq, V.ty.injEq, List.cons.injEq, and_true, true_and, exists_eq_left, exists_eq_left', exists_eq_right, exists_and_left, exists_and_right, exists_eq_or_imp, exists_const, Nat.reduceAdd, Nat.reduceSub, ite_true, ite_false, Bool.false_eq_true, if_true, if_false, and_assoc, Bool.not_true, Bool.not_false, Bool.true_and, Bool.false_and, decide_true, decide_false, reduceCtorEq, false_and, exists_false, or_false, false_or, qT, mY, B8, lW, Mr.BZ, FZ, vZ, wG, E1, yY, pK, qO, MD, x5, sJ, wQ, G3, xJ, x3, RE, IY, QH, J0, G6])
noncomputable def top (i : Nat) : Stmt := PySem.Challenge.pw_answertrees_k66_letters_and_packs_judged.main.body.getD i (.Pass ⟨0, 0, 0, 0⟩)
noncomputable abbrev d4 : Stmt := top 6
noncomputable abbrev dW : Stmt := top 7
noncomputable abbrev fK : Stmt := top 8
noncomputable abbrev d6 : Stmt := top 9
noncomputable abbrev eQ : Stmt := top 10
noncomputable abbrev cT : Stmt := top 11
noncomputable abbrev dG : Stmt := top 22
noncomputable abbrev cZ : Stmt := top 25
noncomputable abbrev eE : Stmt := top 26
noncomputable abbrev eJ : Stmt := top 27
noncomputable abbrev fL : Stmt := top 28
noncomputable abbrev cW : Stmt := top 30
noncomputable abbrev cB : Stmt := top 31
noncomputable abbrev cP : Stmt := top 32
noncomputable abbrev cX : Stmt := top 34
noncomputable abbrev dU : Stmt := top 35
noncomputable abbrev dD : Stmt := top 36
noncomputable abbrev cV : Stmt := top 37
noncomputable abbrev eG : Stmt := top 38
noncomputable abbrev dR : Stmt := top 39
noncomputable abbrev bW : Stmt := top 40
noncomputable abbrev dQ : Stmt := top 41
noncomputable abbrev cC : Stmt := top 42
noncomputable abbrev dB : Stmt := top 43
noncomputable abbrev bV : Stmt := top 44
noncomputable abbrev cE : Stmt := top 45
noncomputable abbrev bF : Stmt := top 46
noncomputable abbrev cA : Stmt := top 47
noncomputable abbrev dS : Stmt := top 48
noncomputable abbrev bM : Stmt := top 49
noncomputable abbrev dA : Stmt := top 50
noncomputable abbrev cK : Stmt := top 51
noncomputable abbrev cQ : Stmt := top 52
noncomputable abbrev gJ : Stmt := top 53
noncomputable abbrev jF : Stmt := uZ (top 14)
noncomputable abbrev QG (cl : Nat → Addr) : List Value := [.ref (cl 6), .type "ValueError", .type "Exception", .type "BaseException", .type "object"]
structure Txt (K : PySem.W.Frag) (mg : Str → Option Value) (fs : Nat → Addr) (fds : Nat → FuncData) (tc : Nat → Addr) (u : Nat → Value) (cl : Nat → Addr) (fI : Addr) (fdI : FuncData) : Prop where
 m6 : Def K mg "is_name" d4 ["thing"] (fs 0) (fds 0)
 rO : Def K mg "is_whole" dW ["thing"] (fs 1) (fds 1)
 wJ : Def K mg "is_day" fK ["thing"] (fs 2) (fds 2)
 sY : Def K mg "is_head" d6 ["thing"] (fs 3) (fds 3)
 xU : Def K mg "is_row" eQ ["thing"] (fs 4) (fds 4)
 oF : Def K mg "is_letter" cT ["thing"] (fs 5) (fds 5)
 qU : Def K mg "is_count" dG ["text"] (fs 6) (fds 6)
 oB : Def K mg "number_in" cZ ["text"] (fs 7) (fds 7)
 m5 : Def K mg "checked" eE ["text"] (fs 8) (fds 8)
 sX : Def K mg "rows_in" eJ ["text"] (fs 9) (fds 9)
 g5 : Def K mg "needed" fL ["thing", "row"] (fs 10) (fds 10)
 kD : Def K mg "letter_in" cW ["text"] (fs 11) (fds 11)
 fZ : Def K mg "read_letter" cB ["text"] (fs 12) (fds 12)
 hJ : Def K mg "read_pack" cP ["text"] (fs 13) (fds 13)
 nV : Def K mg "_law_purse" cX ["_law_script"] (fs 14) (fds 14)
 bE : Def K mg "_law_pick" dU ["_law_purse_here", "_law_many"] (fs 15) (fds 15)
 pL : Def K mg "_law_name" dD ["_law_purse_here"] (fs 16) (fds 16)
 oE : Def K mg "_law_names" cV ["_law_purse_here", "_law_many"] (fs 17) (fds 17)
 sL : Def K mg "_law_day" eG ["_law_purse_here"] (fs 18) (fds 18)
 lH : Def K mg "_law_sign" dR ["_law_purse_here"] (fs 19) (fds 19)
 jH : Def K mg "_law_letter" bW ["_law_purse_here", "_law_names_here"] (fs 20) (fds 20)
 pQ : Def K mg "_law_pack" dQ ["_law_purse_here", "_law_names_here"] (fs 21) (fds 21)
 gA : Def K mg "_law_written" cC ["_law_letter_here"] (fs 22) (fds 22)
 jC : Def K mg "_law_same" dB ["_law_found", "_law_due"] (fs 23) (fds 23)
 iG : Def K mg "_law_is_name" bV ["_law_word"] (fs 24) (fds 24)
 mI : Def K mg "_law_is_day" cE ["_law_word"] (fs 25) (fds 25)
 gF : Def K mg "_law_letter_of" bF ["_law_text"] (fs 26) (fds 26)
 lA : Def K mg "_law_pack_of" cA ["_law_text"] (fs 27) (fds 27)
 lQ : Def K mg "_law_told" dS ["_law_reader", "_law_text"] (fs 28) (fds 28)
 iN : Def K mg "_law_or_refused" bM ["_law_thing"] (fs 29) (fds 29)
 kC : Def K mg "_law_agree" dA ["_law_told_here", "_law_due"] (fs 30) (fds 30)
 jE : Def K mg "_law_spoilt" cK ["_law_purse_here", "_law_text"] (fs 31) (fds 31)
 nU : Def K mg "_law_edges" cQ ["_law_letter_here", "_law_one"] (fs 32) (fds 32)
 Q9 : Def K mg "law" gJ ["_law_script"] (fs 33) (fds 33)
 d3 : mg "len" = none
 aQ : mg "isinstance" = none
 kY : mg "str" = none
 iY : mg "all" = none
 lJ : mg "bool" = none
 nW : mg "int" = none
 sS : mg "abs" = none
 d8 : mg "tuple" = none
 fD : mg "range" = none
 fA : mg "enumerate" = none
 jR : mg "sorted" = none
 fM : mg "ValueError" = none
 yL : mg "zip" = none
 jU : mg "list" = none
 sH : mg "max" = none
 xA : mg "min" = none
 uM : mg "NAME_SIGNS" = some (u 0)
 uG : RelV (.str "abcdefghijklmnopqrstuvwxyz0123456789") (u 0)
 rF : mg "LONGEST_NAME" = some (u 1)
 qL : RelV (.int 12) (u 1)
 y7 : mg "LAST_DAY" = some (u 2)
 yZ : RelV (.int 99999999) (u 2)
 qI : mg "LONGEST_HEAD" = some (u 3)
 qX : RelV (.int 60) (u 3)
 rV : mg "LONGEST_ROW" = some (u 4)
 r9 : RelV (.int 9) (u 4)
 C5 : mg "FIGURES" = some (u 5)
 DZ : RelV (.str "0123456789") (u 5)
 qM : mg "MOST_FIGURES" = some (u 6)
 qN : RelV (.int 9) (u 6)
 pE : mg "NoText" = some (.ref (cl 0))
 DP : mg "NoPlace" = some (.ref (cl 1))
 FJ : mg "NoDeed" = some (.ref (cl 2))
 OR : mg "Ring" = some (.ref (cl 3))
 HU : mg "NoWish" = some (.ref (cl 4))
 L4 : mg "NoRow" = some (.ref (cl 5))
 yG : mg "TalkError" = some (.ref (cl 6))
 x0 : D9 K (cl 0) (QG cl) (some (.ref fI)) = true
 S2 : PySem.W.keepIn K (.ref (cl 0)) = true
 xg : ND K
 xc : sE K (cl 0)
 xt : PySem.W.kitOne K (.ref (cl 0)) (.ref (cl 6)) = some true
 xv : PySem.W.kitOne K (.ref (cl 0)) (.type "ValueError") = some true
 xe : ∀ i, i < 6 → PySem.W.exmOne K (.ref (cl 0)) (.ref (cl i)) = some (decide (i = 0))
 mr : (PySem.W.clsIn K (cl 0)).map (·.mro) = some (.ref (cl 0) :: QG cl)
 sa : PySem.W.findIn K (.ref (cl 0)) "__setattr__" = some (some (.builtin "object.__setattr__"))
 na : zN K (cl 0) "row"
 fi : LL K "__init__" "NoText.__init__" jF fI fdI
 ft : PySem.W.typeIn K (.ref fI) = some (.type "function")
 bi : Binds K fdI ["self", "row"] []
theorem ES {K : PySem.W.Frag} {p g : Addr} {H : Hp} {D : Ends} {σ : St} (h0 : σ[0]? = some (some (.ref p))) (hp : gI H p g) (rest : ∀ H1, gI H1 p g → Fr p g H H1 → D.nx σ H1) :
  GY (ED (lE (pV (C9 K) (pV (oN K) (i8 0) (tC (V.int 0))) (yF jN))) (lE (pV NP (pV (oN K) (pV (oN K) (i8 0) (tC (V.int 0))) (tC (V.int 0))) (tC (V.int 0)))))
   (pM (HM K "list" nC (pV (oN K) (i8 0) (tC (V.int 0))) (dH (tC (V.int 0)) jN))) D σ H := by
 refine ⟨fun m σ' H' => σ' = σ ∧ Fr p g H H' ∧ ∃ (xs : List Int) (s c : Int), H' p = some (.lst [.ref g, .int s, .int c]) ∧ H' g = some (.lst (xs.map V.int)) ∧ p ≠ g ∧ xs.length = m, ?_, ?_⟩
 ·obtain ⟨xs, s, c, e1, e2, n⟩ := hp
  exact ⟨xs.length, rfl, Fr.refl, xs, s, c, e1, e2, n, rfl⟩
 ·rintro m σ' H' ⟨rfl, f, xs, s, c, e1, e2, n, hm⟩
  walk_at "vc0"
  refine ⟨_, h0, p, rfl, _, aX.of e1, _, rfl, Nat.zero_le _, fun l hl => ?_⟩
  have e1' : upd H' l (.lst []) p = some (.lst [.ref g, .int s, .int c]) := by rw [aL (aF e1 hl)]; exact e1
  have e2' : upd H' l (.lst []) g = some (.lst (xs.map V.int)) := by rw [aL (aF e2 hl)]; exact e2
  have f' : Fr p g H (upd H' l (.lst [])) := f.new hl
  refine ⟨g, rfl, _, aX.of e2', _, aX.of aB, fun _ => ⟨sZ, rfl⟩, ?_⟩
  rw [m4]
  have hp' : gI (upd H' l (.lst [])) p g := ⟨xs, s, c, e1', e2', n⟩
  cases xs with
  | nil => exact gL (rest _ hp' f')
  | cons x xs =>
   refine fC ⟨_, h0, p, rfl, _, aX.of e1', _, rfl, g, rfl, _, aX.of e2', V.int x, L3, rfl, gG (fun hz => ?_) (fun hz => rest _ hp' f')⟩
   refine ⟨fun σ2 H2 => σ2 = σ' ∧ H2 = upd (upd H' l (.lst [])) g (.lst (xs.map V.int)), ?_, _, h0, p, rfl, _, aX.of e1', _, rfl, .inl ⟨_, aX.of e2'⟩, g, rfl, _, e2', by decide, by decide, 0, SS, ⟨_, rfl⟩, rfl, rfl⟩
   rintro σ2 H2 ⟨rfl, rfl⟩
   refine ⟨xs.length, by rw [← hm]; exact Nat.lt_succ_self _, rfl, fun b o hb n1 n2 => ?_, ⟨s, c, ?_⟩, xs, aB, n, rfl⟩
   ·rw [aL n2]; exact f' b o hb n1 n2
   ·rw [aL n]; exact e1'
theorem L7 {K : PySem.W.Frag} {σ : St} {H : Hp} {D : Ends} {r : Str} (h4 : σ[4]? = some (some (.str r))) (hl : r.length ≤ 20000) (k : ∀ t H2, aG H H2 → H2 t = some (.tup ((iS r).map V.str)) → D.nx (σ.set 6 (some (.ref t))) H2) :
  oR (P5 (lE (pV NP (i8 4) (tC (V.str (Str.ofString "-"))))) (zF jN) (JU (tD K) (dH (HM K "str" jG (i8 4) (dH (tC (V.str (Str.ofString ","))) jN)) jN))) (hX 6) D σ H := by
 walk_at "vc1"
 refine ⟨_, h4, rfl, gG (fun e => ⟨Nat.zero_le _, fun t ht => k t _ (aG.upd ht) ?_⟩) (fun e => ?_)⟩
 ·unfold iS
  rw [if_pos (V.str.inj e), aB]
  rfl
 ·refine iX ⟨_, h4, rfl, fT (by rw [P9]; decide) (by omega) fun l hl2 => ⟨l, rfl, _, aX.of aB, fun t ht => k t _ ((aG.upd hl2).trans (aG.upd ht)) ?_⟩⟩
  rw [aB]
  unfold iS
  rw [if_neg (fun z => e (by rw [z]))]
noncomputable def y8 (cl : Nat → Addr) : Sp := fun vs H Q _ => ∃ (a : Addr) (r : Int), vs = [.ref a, .int r] ∧ H a = some (XN a (cl 0) none) ∧ ∀ dx, H dx = none → Q .aZ (upd (upd H dx (.xd [("row", .int r)])) a (XN a (cl 0) (some dx)))
noncomputable def tY (cl : Nat → Addr) : Sp := fun vs H Q E => ∃ (v : V) (k : Int), vs = [v, .int k] ∧ (v ≠ .aZ → Q v H) ∧ (v = .aZ → ∀ a H', aG H H' → AE H' a (cl 0) [("row", .int k)] → E (.ref (cl 0)) (some a) H')
noncomputable def HD (cl : Nat → Addr) : Sp := fun vs H Q E => ∃ z, vs = [.str z] ∧ z.length ≤ 20000 ∧ (∀ x v H', fO z = some x → aG H H' → Tr H' x.P v → Q v H') ∧ (fO z = none → ∀ a H', aG H H' → AE H' a (cl 0) [("row", .int 0)] → E (.ref (cl 0)) (some a) H')
noncomputable def HV (cl : Nat → Addr) : Sp := fun vs H Q E => ∃ z, vs = [.str z] ∧ z.length ≤ 20000 ∧ (∀ xs v H', EW z = .inr xs → aG H H' → Tr H' (.tup (xs.map Lt.P)) v → Q v H') ∧ (∀ i, EW z = .inl i → ∀ a H', aG H H' → AE H' a (cl 0) [("row", .int (i : Int))] → E (.ref (cl 0)) (some a) H')
noncomputable def MS (fs : Nat → Addr) (f : Addr) : Prop := f = fs 12 ∨ f = fs 13
noncomputable def MM (fs cl : Nat → Addr) (f : Addr) : Sp := fun vs H Q E => (f = fs 12 ∧ HD cl vs H Q E) ∨ (f = fs 13 ∧ HV cl vs H Q E)
noncomputable def E8 (fs : Nat → Addr) : Sp := fun vs H Q _ => ∃ f z, vs = [.ref f, .str z] ∧ z.length ≤ 20000 ∧ ((f = fs 12 ∧ ∀ v H', aG H H' → uO H' v (tV z) → Q v H') ∨ (f = fs 13 ∧ ∀ v H', aG H H' → uO H' v (GG z) → Q v H'))
noncomputable def BX : Sp := fun vs H Q _ => ∃ z v, vs = [v] ∧ RL Lt.P H v (fO z) ∧ ∀ w H', aG H H' → uO H' w (tV z) → Q w H'
noncomputable def BC : Sp := fun vs H Q _ => ∃ u v o, vs = [u, v] ∧ uO H u o ∧ uO H v o ∧ (∀ p, o = .inr p → alike 6 p = true ∧ ∃ ps, p = .tup ps) ∧ ∀ H', aG H H' → Q (.bl true) H'
noncomputable def MF : Sp := fun vs H Q _ => ∃ z, vs = [.str z] ∧ z.length ≤ 20000 ∧ ∀ H', aG H H' → Q (.bl (bT z)) H'
noncomputable def GU : Sp := fun vs H Q _ => ∃ z, vs = [.str z] ∧ z.length ≤ 20000 ∧ ∀ H', aG H H' → Q (.bl (yR z)) H'
noncomputable def FW : Sp := fun vs H Q _ => ∃ z, vs = [.str z] ∧ z.length ≤ 20000 ∧ ∀ v H', aG H H' → uO H' v (GG z) → Q v H'
noncomputable def yA : Sp := fun vs H Q _ => ∃ (p g : Addr) (z : Str), vs = [.ref p, .str z] ∧ gI H p g ∧ z.length ≤ 6000 ∧ ∀ (x : Str) H', x.length ≤ 3 * z.length + 10 → gI H' p g → Fr p g H H' → Q (.str x) H'
noncomputable def B4 : Sp := fun vs H Q _ => ∃ (v : V) (x : Lt) (y : Str), vs = [v, .str y] ∧ FN H v x ∧ bT y = true ∧ ∀ l H' (zs : List Str), aG H H' → H l = none → H' l = some (.lst (zs.map V.str)) → (∀ z ∈ zs, z.length ≤ 9000) → zs.length ≤ 100 → Q (.ref l) H'
theorem HL (zs : List Str) {n : Nat} (hn : n = 1) : (zs.map (·.length)).sum + zs.length * n = mu zs := by
 rw [hn, Nat.mul_one]
 induction zs with
 | nil => rfl
 | cons z zs ih => rw [cS, ← ih, List.map_cons, List.sum_cons, List.length_cons]; omega
theorem sV {y : Str} (hy : y.length = 1) {zs : List Str} {m : Nat} (h : mu zs ≤ m + 1) : (Txt.join y zs).length ≤ m := by
 by_cases e : zs = []
 ·rw [e, kT]; exact Nat.zero_le _
 ·have := (mP hy zs).2 e; omega
theorem CB (rows : List Str) (k : Nat) : ∃ ws : List Str, (List.replicate (Int.toNat 2) (bZ (rows.map V.str) (some (k : Int)) (some ((k : Int) + 1)))).flatten = ws.map V.str ∧ ws.length ≤ 2 ∧ ∀ w ∈ ws, w ∈ rows := by
 have hl := len_rep (bZ (rows.map V.str) (some (k : Int)) (some ((k : Int) + 1))) (Int.toNat 2)
 have hc : (bZ (rows.map V.str) (some (k : Int)) (some ((k : Int) + 1))).length ≤ 1 := oX k 1
 obtain ⟨ws, e, hw⟩ := w6 (zs := rows) (vs := (List.replicate (Int.toNat 2) (bZ (rows.map V.str) (some (k : Int)) (some ((k : Int) + 1)))).flatten) fun v hv => by
  obtain ⟨l, hl, hv⟩ := List.mem_flatten.mp hv
  rw [List.eq_of_mem_replicate hl] at hv
  exact vT v hv
 refine ⟨ws, e, ?_, hw⟩
 rw [e, List.length_map] at hl
 rw [hl, show Int.toNat 2 = 2 from rfl]; omega
theorem FP {rows : List Str} {k : Nat} {vs : List V} (hl : vs.length ≤ (bZ (rows.map V.str) (some (k : Int)) (some ((k : Int) + 2))).length) (hm : ∀ z ∈ vs, z ∈ bZ (rows.map V.str) (some (k : Int)) (some ((k : Int) + 2))) : ∃ ws : List Str, vs = ws.map V.str ∧ ws.length ≤ 2 ∧ ∀ w ∈ ws, w ∈ rows := by
 have hc : (bZ (rows.map V.str) (some (k : Int)) (some ((k : Int) + 2))).length ≤ 2 := oX k 2
 obtain ⟨ws, e, hw⟩ := w6 (zs := rows) (vs := vs) fun v hv => vT v (hm v hv)
 refine ⟨ws, e, ?_, hw⟩
 rw [e, List.length_map] at hl
 omega
theorem RJ {c : Nat} : (⟨#[c]⟩ : Str).length = 1 := rfl
theorem MN {cl : Nat → Addr} {H : Hp} {a dx : Addr} {r : Int} {o o' : HO} (ha : H a = none) (hd : upd H a o dx = none) :
  aG H (upd (upd (upd (upd H a o) dx (.xd [("row", .int r)])) a o') a (XO a (cl 0) (some dx))) ∧ AE (upd (upd (upd (upd H a o) dx (.xd [("row", .int r)])) a o') a (XO a (cl 0) (some dx))) a (cl 0) [("row", .int r)] := by
 have nd : dx ≠ a := fun z => by rw [z, aB] at hd; cases hd
 have hdx : H dx = none := by rw [aL nd] at hd; exact hd
 rw [fY]
 exact ⟨fun b u e => by rw [aL (aF e ha), aL (aF e hdx), aL (aF e ha)]; exact e, dx, aB, by rw [aL nd, aB]⟩
theorem rN {α : Type} {l : List α} {i : Nat} {x : α} (h : l[i]? = some x) : l.drop i = x :: l.drop (i + 1) := by
 obtain ⟨hi, e⟩ := List.getElem?_eq_some_iff.mp h
 rw [← e]; exact List.drop_eq_getElem_cons hi
theorem wL {α : Type} {xs : List α} {n : Nat} (h : xs.length = n + 1) : xs.getLast? = xs[n]? := by
 rw [List.getLast?_eq_getElem?, h]; rfl
theorem x9 (z : Str) : (fH z).length ≤ z.length + 2 ∧ ∀ r ∈ fH z, r.length ≤ z.length := by
 unfold fH
 split
 ·exact ⟨by simp, fun _ h => nomatch h⟩
 ·exact ⟨fQ z NL (by rw [EY]; decide), eB z NL⟩
structure R3 (x : Lt) : Prop where
 nm : x.n.length ≤ 12
 d0 : 0 ≤ x.d
 d1 : x.d ≤ 99999999
 hd : x.h.length ≤ 60
 lr : x.row.length ≤ 10
 xX : ∀ z ∈ x.row, bT z = true
theorem Lt.Ok.w {x : Lt} (o : x.Ok) : R3 x := ⟨(gT o.nm).2, o.d0, o.d1, o.hd.1, by have := o.lr; omega, o.xX⟩
noncomputable def OG : Sp := fun vs H Q _ => ∃ (v : V) (x : Lt), vs = [v] ∧ Tr H x.P v ∧ R3 x ∧ ∀ H', x.T.length ≤ 220 → aG H H' → Q (.str x.T) H'
theorem IG {H : Hp} {v : V} {x : Lt} (h : Tr H x.P v) : ∃ a r, v = .ref a ∧ H a = some (.tup [.str x.n, .int x.d, .str x.h, .ref r]) ∧ H r = some (.tup (x.row.map V.str)) := by
 obtain ⟨a, us, rfl, ha, hu⟩ := Tr.G4 (show Tr H (.tup [.str x.n, .int x.d, .str x.h, .tup (x.row.map .str)]) v from h)
 cases hu with
 | cons h1 hu => cases hu with
  | cons h2 hu => cases hu with
   | cons h3 hu => cases hu with
    | cons h4 hu =>
     cases hu
     cases h1
     cases h2
     cases h3
     obtain ⟨r, ws, rfl, hr, hw⟩ := Tr.G4 h4
     rw [yO hw] at hr
     exact ⟨a, r, rfl, ha, hr⟩
noncomputable def Ed (B : Hp) (l : Addr) (n : Nat) (H : Hp) : Prop := (∀ b o, b ≠ l → B b = some o → H b = some o) ∧ ∃ zs : List Str, H l = some (.lst (zs.map V.str)) ∧ (∀ z ∈ zs, z.length ≤ 9000) ∧ zs.length ≤ n
theorem Ed.trans {B C H : Hp} {l : Addr} {n m : Nat} (a : Ed B l n C) (b : Ed C l m H) : Ed B l m H := ⟨fun c o n h => b.1 c o n (a.1 c o n h), b.2⟩
theorem Ed.same {B C H : Hp} {l : Addr} {n : Nat} (a : Ed B l n C) (s : aG C H) : Ed B l n H := let ⟨zs, e, h⟩ := a.2; ⟨fun c o n h => s _ _ (a.1 c o n h), zs, s _ _ e, h⟩
theorem Ed.app {B H : Hp} {l : Addr} {n m : Nat} {z : Str} {Q : Hp → Prop} (a : Ed B l n H) (hn : n ≤ 100) (hz : z.length ≤ 9000) (hm : n + 1 = m) (q : ∀ H', Ed B l m H' → Q H') : ∃ xs : List V, H l = some (.lst xs) ∧ xs.length < sizeLine ∧ Q (upd H l (.lst (xs ++ [.str z]))) := by
 subst hm
 obtain ⟨s, zs, e, hm, hl⟩ := a
 refine ⟨_, e, o4 (by rw [List.length_map]; omega), q _ ⟨fun b o nb h => by rw [aL nb]; exact s b o nb h, zs ++ [z], by rw [aB, List.map_append]; rfl, ?_, by rw [List.length_append]; show zs.length + 1 ≤ _; omega⟩⟩
 intro w hw
 rcases List.mem_append.mp hw with h | h
 ·exact hm w h
 ·rw [List.mem_singleton.mp h]; exact hz
theorem Ed.O3 {B H : Hp} {l : Addr} {n : Nat} (z : Str) (a : Ed B l n H) (hn : n ≤ 100) (hz : z.length ≤ 9000) : ∃ xs : List V, H l = some (.lst xs) ∧ xs.length < sizeLine ∧ Ed B l (n + 1) (upd H l (.lst (xs ++ [.str z]))) := a.app (Q := fun H' => Ed B l (n + 1) H') hn hz rfl fun _ h => h
noncomputable def O6 (K : PySem.W.Frag) (g : TG) (tb : TS) (D : Ends) (σ : St) (xs : List V) (H1 : Hp) : Prop := ∀ p, H1 p = none → ∃ a, V.ref p = .ref a ∧ (∃ xs', aX K (upd H1 p (.lst xs)) a xs') ∧
  ∃ W : Nat → Nat → St → Hp → Prop, (∃ m, W 0 m σ (upd H1 p (.lst xs))) ∧ ∀ i m σ H, W i m σ H →
   ((DJ K a).stop i H ∧ D.nx σ H) ∨ ((DJ K a).go i H ∧ ∃ N : St → Hp → Prop, (∀ σ' H', N σ' H' → ∃ m', m' < m ∧ W (i + 1) m' σ' H') ∧ ∀ x H', (DJ K a).IA i H x H' → g x σ H' fun σ2 H2 => tb { D with nx := N, ct := N, bk := D.nx } σ2 H2)
theorem m3 {K : PySem.W.Frag} {tl : TA} {g : TG} {tb : TS} {D : Ends} {σ : St} {H : Hp} (h : ∀ F : List V → Hp → Prop, (∀ xs H1, O6 K g tb D σ xs H1 → F xs H1) → tl σ H fun xs H1 => xs.length ≤ sizeLine ∧ F xs H1) : LI (wO K (yF tl)) g tb D σ H := h (O6 K g tb D σ) fun _ _ z => z
theorem nK {K : PySem.W.Frag} {B H : Hp} {l : Addr} {n : Nat} {xs : List V} {g : TG} {tb : TS} {D : Ends} {σ : St} (S : St → Prop) (c : Nat) (hσ : S σ) (h : Ed B l n H)
  (hs : ∀ B' i x σ H', x ∈ xs → i < xs.length → aG H B' → S σ → Ed B' l (n + i * c) H' → g x σ H' fun σ2 H2 => tb { D with nx := fun σ3 H3 => S σ3 ∧ Ed B' l (n + (i + 1) * c) H3, ct := fun σ3 H3 => S σ3 ∧ Ed B' l (n + (i + 1) * c) H3, bk := D.nx } σ2 H2)
  (hd : ∀ σ H', S σ → Ed B l (n + xs.length * c) H' → D.nx σ H') : O6 K g tb D σ xs H := by
 intro l2 h2
 have nl : l2 ≠ l := fun e => by obtain ⟨_, zs, z, _⟩ := h; rw [← e, h2] at z; cases z
 have h0 : Ed B l n (upd H l2 (.lst xs)) := h.same (aG.upd h2)
 refine ⟨l2, rfl, ⟨_, aX.of aB⟩, mB (fun i σ H' => S σ ∧ Ed (upd H l2 (.lst xs)) l (n + i * c) H') ⟨hσ, fun _ _ _ z => z, ?_⟩ (fun i σ H' _ ⟨_, e⟩ => aX.of (e.1 _ _ nl aB)) (fun i x σ H' hx ⟨a, b⟩ => hs _ i x σ H' (List.mem_of_getElem? hx) (List.getElem?_eq_some_iff.mp hx).1 (aG.upd h2) a b) fun σ H' ⟨a, b⟩ => hd σ H' a (h0.trans b)⟩
 rw [Nat.zero_mul]; exact h0.2
theorem CN : ∀ {rs : List Str} {i : Nat} {l : Option Lt} {xs : List Lt}, lZ i l rs = .inr xs → xs.length = rs.length ∧ ∀ x ∈ xs, x.ok = true
 | [], i, l, xs, h => by
  unfold lZ at h
  cases h
  exact ⟨rfl, fun _ h => nomatch h⟩
 | r :: rs, i, l, xs, h => by
  unfold lZ at h
  split at h
  ·cases h
  ·rename_i x hx
   split at h
   ·cases h
   ·split at h
    ·cases h
    ·rename_i ys hy
     cases h
     obtain ⟨a, b⟩ := CN hy
     refine ⟨by rw [List.length_cons, List.length_cons, a], fun z hz => ?_⟩
     rcases List.mem_cons.mp hz with e | e
     ·rw [e]; exact A4 hx
     ·exact b z e
theorem EL {z : Str} {p : Mr.PV} (h : tV z = .inr p) : alike 6 p = true ∧ ∃ ps, p = .tup ps := by
 unfold tV at h
 cases e : fO z with
 | none => rw [e] at h; cases h
 | some x => rw [e] at h; cases h; exact ⟨wN (yC (n := 0) ((x.GQ).mp (A4 e))) (by decide), _, rfl⟩
theorem FQ {z : Str} {p : Mr.PV} (hz : z.length ≤ 20000) (h : GG z = .inr p) : alike 6 p = true ∧ ∃ ps, p = .tup ps := by
 unfold GG at h
 cases e : EW z with
 | inl i => rw [e] at h; cases h
 | inr xs =>
  rw [e] at h
  cases h
  obtain ⟨a, b⟩ := CN (rs := fH z) e
  have := (x9 z).1
  exact ⟨wN (EN (n := 2) (fun x hx => yC (n := 0) ((x.GQ).mp (b x hx))) (by omega)) (by decide), _, rfl⟩
theorem LF {x : Lt} (o : x.Ok) : x.T.length ≤ 210 := by
 unfold Lt.T SU
 rw [bN, bN, bN, bN, bN, bN, s1]
 have h1 := FY o.d0 o.d1
 have h2 := K9 o.lr o.xX
 have h3 := gT o.nm
 have h4 := o.hd.1
 omega
noncomputable def MZ (H : Hp) (m : Nat) (v : V) : Prop := ∃ (t : Addr) (y z : Str), v = .ref t ∧ H t = some (.tup [.str y, .str z]) ∧ y.length ≤ m ∧ z.length ≤ m
theorem MZ.kp {H H' : Hp} {m : Nat} {v : V} (h : MZ H m v) (k : tO H H') : MZ H' m v := let ⟨t, y, z, e, h, a⟩ := h; ⟨t, y, z, e, k _ _ h, a⟩
theorem MZ.mono {H : Hp} {m n : Nat} {v : V} (h : MZ H m v) (k : m ≤ n) : MZ H n v := let ⟨t, y, z, e, h, a, b⟩ := h; ⟨t, y, z, e, h, Nat.le_trans a k, Nat.le_trans b k⟩
noncomputable def II (i : Nat) : Nat := if i = 0 then 1988 else if i ≤ 5 then 5974 else 17932
noncomputable def ER (H : Hp) (l : Addr) (n : Nat) : Prop := ∃ vs : List V, H l = some (.lst vs) ∧ vs.length = n ∧ ∀ i v, vs[i]? = some v → MZ H (II i) v
theorem N7 (i : Nat) : II i ≤ 17932 := by
 unfold II
 repeat' split
 all_goals omega
theorem ER.fr {H H' : Hp} {p g l : Addr} {n : Nat} (h : ER H l n) (f : Fr p g H H') (k : tO H H') (np : l ≠ p) (ng : l ≠ g) : ER H' l n := let ⟨vs, e, hl, hv⟩ := h; ⟨vs, f _ _ e np ng, hl, fun i v hi => (hv i v hi).kp k⟩
theorem ER.same {H H' : Hp} {l : Addr} {n : Nat} (h : ER H l n) (s : aG H H') : ER H' l n := let ⟨vs, e, hl, hv⟩ := h; ⟨vs, s _ _ e, hl, fun i v hi => (hv i v hi).kp s.kt⟩
theorem ER.app {H : Hp} {l t : Addr} {n m : Nat} {y z : Str} (h : ER H l n) (ht : H t = some (.tup [.str y, .str z])) (hy : y.length ≤ II n) (hz : z.length ≤ II n) (hn : n ≤ 1000) (hm : n + 1 = m) : ∃ xs : List V, H l = some (.lst xs) ∧ xs.length < sizeLine ∧ ER (upd H l (.lst (xs ++ [.ref t]))) l m ∧ tO H (upd H l (.lst (xs ++ [.ref t]))) := by
 obtain ⟨vs, e, hl, hv⟩ := h
 have k : tO H (upd H l (.lst (vs ++ [.ref t]))) := tO.upd e
 refine ⟨vs, e, o4 (by omega), ⟨_, aB, by rw [List.length_append, hl]; exact hm, fun i v hi => ?_⟩, k⟩
 rw [List.getElem?_append] at hi
 split at hi
 ·exact (hv i v hi).kp k
 ·rename_i hlt
  have : i - vs.length = 0 := by
   have := (List.getElem?_eq_some_iff.mp hi).1
   simp at this; omega
  rw [this] at hi
  cases hi
  have hin : i = n := by omega
  subst hin
  exact ⟨t, y, z, rfl, k _ _ ht, hy, hz⟩
noncomputable def RM (K : PySem.W.Frag) (g : TG) (tb : TS) (D : Ends) (σ : St) (a : Addr) (H1 : Hp) : Prop :=
  ∃ W : Nat → Nat → St → Hp → Prop, (∃ m, W 0 m σ H1) ∧ ∀ i m σ H, W i m σ H →
   ((DJ K a).stop i H ∧ D.nx σ H) ∨ ((DJ K a).go i H ∧ ∃ N : St → Hp → Prop, (∀ σ' H', N σ' H' → ∃ m', m' < m ∧ W (i + 1) m' σ' H') ∧ ∀ x H', (DJ K a).IA i H x H' → g x σ H' fun σ2 H2 => tb { D with nx := N, ct := N, bk := D.nx } σ2 H2)
theorem B0 {K : PySem.W.Frag} {te : TE} {g : TG} {tb : TS} {D : Ends} {σ : St} {H : Hp} (h : ∀ F : Addr → Hp → Prop, (∀ a H1, RM K g tb D σ a H1 → F a H1) → te σ H fun x H1 => ∃ a, x = .ref a ∧ (∃ xs, aX K H1 a xs) ∧ F a H1) : LI (wO K te) g tb D σ H := h (RM K g tb D σ) fun _ _ z => z
section
variable {P : Program} {w : World} {K : PySem.W.Frag} {mg : Str → Option Value} {base : Heap} {fs : Nat → Addr} {fds : Nat → FuncData} {tc : Nat → Addr} {u : Nat → Value} {cl : Nat → Addr} {fI : Addr} {fdI : FuncData}
theorem LQ (T : Txt K mg fs fds tc u cl fI fdI) {f : Addr} (h : MS fs f) : PySem.W.keepIn K (.ref f) = true := by
 rcases h with rfl | rfl
 ·exact T.fZ.F.kp
 ·exact T.hJ.F.kp
theorem IX (T : Txt K mg fs fds tc u cl fI fdI) {l1 l2 k : Nat} (G1 : aT P w K mg base (vX P w) l1 (fs 12) (fds 12) ["text"] (HD cl)) (G2 : aT P w K mg base (vX P w) l2 (fs 13) (fds 13) ["text"] (HV cl)) {A : Around} (hr : eA k A) (h1 : l1 ≤ k) (h2 : l2 ≤ k) {f : Addr} {vs : List V} {H : Hp} {Q : VK} {E : XK}
  (hh : MM fs cl f vs H Q E) : ∃ (fd : FuncData) (ps : List Str) (k : Nat) (sp : Sp), aT P w K mg base (vX P w) k f fd ps sp ∧ eA k A ∧ Binds K fd ps [] ∧ sp vs H Q E := by
 rcases hh with ⟨rfl, h⟩ | ⟨rfl, h⟩
 ·exact ⟨_, _, _, _, G1, hr.mono h1, T.fZ.b, h⟩
 ·exact ⟨_, _, _, _, G2, hr.mono h2, T.hJ.b, h⟩
theorem LD : aW ["self", "row"] ["self", "row"] (aC jF) := ⟨rfl, rfl, rfl, by decide +kernel, rfl, by decide +kernel, by decide +kernel⟩
theorem KO (T : Txt K mg fs fds tc u cl fI fdI) : aT P w K mg base dF 1 fI fdI ["self", "row"] (y8 cl) := by
 refine T.fi.ok LD (fun vs H Q E h => ?_) (fun cdv A outer s H vs Q E hr h => ?_)
 ·obtain ⟨a, r, rfl, ha, q⟩ := h
  rfl
 ·obtain ⟨a, r, rfl, ha, q⟩ := h
  refine ⟨_, (aO (LO (pv 0) (pv 1))), ?_⟩
  walk_at "vc0"
  exact ⟨cl 0, ha, T.xc, T.na, ⟨_, T.mr⟩, T.sa, q⟩
theorem AF : aW ["thing"] ["thing"] (aC d4) := ⟨rfl, rfl, rfl, by decide +kernel, rfl, by decide +kernel, by decide +kernel⟩
set_option maxHeartbeats 4000000 in
theorem zM (T : Txt K mg fs fds tc u cl fI fdI)  : aT P w K mg base dF 1 (fs 0) (fds 0) ["thing"] uC := by
 refine T.m6.F.ok AF (fun vs H Q E h => ?_) (fun cdv A outer s H vs Q E hr h => ?_)
 ·obtain ⟨v, k, rfl, hT, q⟩ := h
  rfl
 ·obtain ⟨v, k, rfl, hT, q⟩ := h
  refine ⟨_, (aJ (dI (PW.pt (gY (fE (dM (aP (jP K) (by rfl) T.aQ aR (aA (pv 0) (aA (cJ (v := .ty "str") rfl T.kY nJ rfl) aD))))) (fS (fE (HE B9 B9 aE (aP cI (by rfl) T.d3 dE (aA (pv 0) aD)) (fX (v := .int 12) rfl T.rF T.qL)))))) (aO (aU kX)) bJ)
   (aO (aU (aP (vB K rfl) (by rfl) T.iY jA (aA (jK ["sign"] 1 [] ["thing"] (aC d4) rfl rfl rfl (nO (pv 0)) (by decide +kernel) (fun _ => (aY (i := 0) (show (["sign"] : List Str).Nodup by decide +kernel) rfl (Or.inl rfl))) (fun _ => eI) (fun _ => (gM kP (pv 0) (fX (v := .str "abcdefghijklmnopqrstuvwxyz0123456789") rfl T.uM T.uG) (by rfl)))) aD))))), ?_⟩
  refine aH ?_; walk_at "vc0"
  refine ⟨_, hT.is.ty, _, IV k, ?_⟩
  by_cases e : k = .str
  ·subst e
   obtain ⟨x, rfl⟩ := hT.is
   have hx := hT.BV x rfl
   rw [decide_eq_true rfl]
   refine dO ?_
   walk_at "vc0"
   refine ⟨cF (by omega), ?_⟩
   refine gG (fun g1 => ?_) (fun g1 => ?_)
   ·refine OE (fun g2 => ?_) (fun g2 => ?_)
    ·have e : fJ (.str x) = false := by show bT x = false; unfold bT; rw [(by simpa using g2 : decide ((x.length : Int) ≤ 12) = false), Bool.and_false]; rfl
     rw [← e]
     exact q _ (aG.refl _)
    ·have g2 : decide ((x.length : Int) ≤ 12) = true := by simpa using g2
     refine ⟨_, rfl, x, rfl, fun l hl => gS x (fun _ => true) (fun v => match v with | .str z => .bl (!(Builtin.Str.occurrences EX z 0 EX.length 1).isEmpty) | v => v) (fun σ => ∃ o, σ = [o]) ⟨_, rfl⟩ (o4 (by omega)) ?_ ?_⟩
     ·rintro c σ xs N hc hz ⟨o, rfl⟩ hN
      unfold cM
      walk_at "vc2"
      exact ⟨_, aB, hz, by rw [fY]; exact hN _ ⟨_, rfl⟩⟩
     ·refine ⟨l, rfl, x.cps.toList.map fun c => JI c, aX.of ?_, ?_⟩
      ·rw [aB]
       refine congrArg (fun z => some (HO.lst z)) ?_
       rw [List.filter_eq_self.mpr (fun _ _ => rfl), List.map_map]
       unfold lK
       rw [List.map_map]
       rfl
      ·rw [IC]
       have e : fJ (.str x) = x.cps.toList.all JI := by show bT x = _; unfold bT; rw [decide_eq_true g1, g2]; rfl
       rw [← e]
       exact q _ (aG.upd hl)
   ·have e : fJ (.str x) = false := by show bT x = false; unfold bT; rw [decide_eq_false g1]; rfl
    rw [← e]
    exact q _ (aG.refl _)
  ·rw [decide_eq_false e]
   refine eX ?_
   have en := HI (hT.is.CI e)
   rw [← en]
   exact q H (aG.refl _)
theorem xN : aW ["thing"] ["thing"] (aC dW) := ⟨rfl, rfl, rfl, by decide +kernel, rfl, by decide +kernel, by decide +kernel⟩
set_option maxHeartbeats 4000000 in
theorem yW (T : Txt K mg fs fds tc u cl fI fdI)  : aT P w K mg base dF 1 (fs 1) (fds 1) ["thing"] BN := by
 refine T.rO.F.ok xN (fun vs H Q E h => ?_) (fun cdv A outer s H vs Q E hr h => ?_)
 ·obtain ⟨v, k, rfl, hT, q⟩ := h
  rfl
 ·obtain ⟨v, k, rfl, hT, q⟩ := h
  refine ⟨_, (aO (aU (g7 (aP (jP K) (by rfl) T.aQ aR (aA (pv 0) (aA (cJ (v := .ty "int") rfl T.nW tW rfl) aD))) (jV (O9 (aP (jP K) (by rfl) T.aQ aR (aA (pv 0) (aA (cJ (v := .ty "bool") rfl T.lJ vU rfl) aD)))))))), ?_⟩
  walk_at "vc0"
  refine ⟨_, hT.is.ty, _, NF k, ?_⟩
  have hty := hT.is.ty (K := K)
  by_cases e : k = .int
  ·subst e
   rw [decide_eq_true rfl, Bool.true_or]
   refine fC ⟨_, hty, _, BK .int, ?_⟩
   exact q
  ·rw [decide_eq_false e] at q
   by_cases e2 : k = .bl
   ·subst e2
    rw [decide_eq_true (show Kd.bl = Kd.bl from rfl), Bool.or_true]
    exact fC ⟨_, hty, _, BK .bl, q⟩
   ·rw [decide_eq_false e, decide_eq_false e2]
    exact gL q
theorem zV : aW ["thing"] ["thing"] (aC d6) := ⟨rfl, rfl, rfl, by decide +kernel, rfl, by decide +kernel, by decide +kernel⟩
set_option maxHeartbeats 4000000 in
theorem AO (T : Txt K mg fs fds tc u cl fI fdI)  : aT P w K mg base dF 1 (fs 3) (fds 3) ["thing"] CP := by
 refine T.sY.F.ok zV (fun vs H Q E h => ?_) (fun cdv A outer s H vs Q E hr h => ?_)
 ·obtain ⟨v, k, rfl, hT, q⟩ := h
  rfl
 ·obtain ⟨v, k, rfl, hT, q⟩ := h
  refine ⟨_, (aJ (dI (PW.pt (gY (fE (dM (aP (jP K) (by rfl) T.aQ aR (aA (pv 0) (aA (cJ (v := .ty "str") rfl T.kY nJ rfl) aD))))) (fS (aS oM (aP cI (by rfl) T.d3 dE (aA (pv 0) aD)) (fX (v := .int 60) rfl T.qI T.qX) (bA _))))) (aO (aU kX)) bJ)
   (aO (aU (aP (vB K rfl) (by rfl) T.iY jA (aA (jK ["sign"] 1 [] ["thing"] (aC d6) rfl rfl rfl (nO (pv 0)) (by decide +kernel) (fun _ => (aY (i := 0) (show (["sign"] : List Str).Nodup by decide +kernel) rfl (Or.inl rfl))) (fun _ => eI) (fun _ => (qW kR kR aM (pv 0) aM))) aD))))), ?_⟩
  refine aH ?_; walk_at "vc0"
  refine ⟨_, hT.is.ty, _, IV k, ?_⟩
  by_cases e : k = .str
  ·subst e
   obtain ⟨x, rfl⟩ := hT.is
   have hx := hT.BV x rfl
   rw [decide_eq_true rfl]
   refine dO ?_
   walk_at "vc0"
   refine ⟨cF (by omega), ?_⟩
   refine gG (fun g1 => ?_) (fun g1 => ?_)
   ·have e : gU (.str x) = false := by show (!decide (60 < (x.length : Int)) && _) = false; rw [decide_eq_true g1]; rfl
    rw [← e]
    exact q _ (aG.refl _)
   ·refine ⟨_, rfl, x, rfl, fun l hl => gS x (fun _ => true) (fun v => match v with | .str z => .bl ((!decide (z.cps.toList < (Str.ofString " ").cps.toList)) && (!decide ((Str.ofString "~").cps.toList < z.cps.toList))) | v => v) (fun σ => ∃ o, σ = [o]) ⟨_, rfl⟩ (o4 (by omega)) ?_ ?_⟩
    ·rintro c σ xs N hc hz ⟨o, rfl⟩ hN
     have h := hN [some (.str ⟨#[c]⟩)] ⟨_, rfl⟩
     dsimp only at h
     rw [if_pos rfl] at h
     unfold cM
     walk_at "vc2"
     refine OE (fun g => ⟨xs, aB, hz, ?_⟩) (fun g => ⟨xs, aB, hz, ?_⟩)
     ·rw [fY]; rw [g, Bool.true_and] at h; exact h
     ·rw [fY]; rw [Bool.not_eq_true] at g; rw [g, Bool.false_and] at h; exact h
    ·refine ⟨l, rfl, x.cps.toList.map fun c => JH c, aX.of ?_, ?_⟩
     ·rw [aB]
      refine congrArg (fun z => some (HO.lst z)) ?_
      rw [List.filter_eq_self.mpr (fun _ _ => rfl), List.map_map]
      unfold lK
      rw [List.map_map]
      rfl
     ·rw [HA]
      have e : gU (.str x) = x.cps.toList.all JH := by show (!decide (60 < (x.length : Int)) && _) = _; rw [decide_eq_false g1]; rfl
      rw [← e]
      exact q _ (aG.upd hl)
  ·rw [decide_eq_false e]
   refine eX ?_
   have en := IH (hT.is.CI e)
   rw [← en]
   exact q H (aG.refl _)
theorem xS : aW ["text"] ["text"] (aC dG) := ⟨rfl, rfl, rfl, by decide +kernel, rfl, by decide +kernel, by decide +kernel⟩
set_option maxHeartbeats 4000000 in
theorem wA (T : Txt K mg fs fds tc u cl fI fdI)  : aT P w K mg base dF 1 (fs 6) (fds 6) ["text"] MH := by
 refine T.qU.F.ok xS (fun vs H Q E h => ?_) (fun cdv A outer s H vs Q E hr h => ?_)
 ·obtain ⟨x, rfl, hx, q⟩ := h
  rfl
 ·obtain ⟨x, rfl, hx, q⟩ := h
  refine ⟨_, (aO (aU (g7 (gM yN (pv 0) aM (bA _)) (jV (aP (vB K rfl) (by rfl) T.iY jA (aA (jK ["sign"] 1 [] ["text"] (aC dG) rfl rfl rfl (nO (pv 0)) (by decide +kernel) (fun _ => (aY (i := 0) (show (["sign"] : List Str).Nodup by decide +kernel) rfl (Or.inl rfl))) (fun _ => eI) (fun _ => (gM kP (pv 0) (fX (v := .str "0123456789") rfl T.C5 T.DZ) (by rfl)))) aD)))))), ?_⟩
  walk_at "vc0"
  refine ⟨rfl, ?_⟩
  by_cases e : x = Str.ofString ""
  ·rw [decide_eq_true e]
   refine dO ?_
   have e2 : mF x = false := by unfold mF; rw [decide_eq_true e]; rfl
   rw [← e2]
   exact q _ (aG.refl _)
  ·rw [decide_eq_false e]
   refine eX ?_
   refine ⟨_, rfl, x, rfl, fun l hl => gS x (fun _ => true) (fun v => match v with | .str z => .bl (!(Builtin.Str.occurrences MJ z 0 MJ.length 1).isEmpty) | v => v) (fun σ => ∃ o, σ = [o]) ⟨_, rfl⟩ (o4 (by omega)) ?_ ?_⟩
   ·rintro c σ xs N hc hz ⟨o, rfl⟩ hN
    unfold cM
    walk_at "vc2"
    exact ⟨_, aB, hz, by rw [fY]; exact hN _ ⟨_, rfl⟩⟩
   ·refine ⟨l, rfl, x.cps.toList.map fun c => zC c, aX.of ?_, ?_⟩
    ·rw [aB]
     refine congrArg (fun z => some (HO.lst z)) ?_
     rw [List.filter_eq_self.mpr (fun _ _ => rfl), List.map_map]
     unfold lK
     rw [List.map_map]
     rfl
    ·rw [KR]
     have e2 : mF x = x.cps.toList.all zC := by unfold mF; rw [decide_eq_false e]; rfl
     rw [← e2]
     exact q _ (aG.upd hl)
theorem AN : aW ["text"] ["text"] (aC eE) := ⟨rfl, rfl, rfl, by decide +kernel, rfl, by decide +kernel, by decide +kernel⟩
set_option maxHeartbeats 4000000 in
theorem zL (T : Txt K mg fs fds tc u cl fI fdI)  : aT P w K mg base dF 1 (fs 8) (fds 8) ["text"] GF := by
 refine T.m5.F.ok AN (fun vs H Q E h => ?_) (fun cdv A outer s H vs Q E hr h => ?_)
 ·obtain ⟨x, rfl, q⟩ := h
  rfl
 ·obtain ⟨x, rfl, q⟩ := h
  refine ⟨_, (aJ (dI (fE (dM (aP (jP K) (by rfl) T.aQ aR (aA (pv 0) (aA (cJ (v := .ty "str") rfl T.kY nJ rfl) aD))))) (aO GP) bJ)
   (aO (aU (pv 0)))), ?_⟩
  refine aH ?_; walk_at "vc0"
  refine ⟨_, .str _, _, jW, ?_⟩
  exact dO q
theorem gP : aW ["_law_script", "_law_seed", "_law_great", "_law_cell"] ["_law_script"] (aC cX) := ⟨rfl, rfl, rfl, by decide +kernel, rfl, by decide +kernel, by decide +kernel⟩
set_option maxHeartbeats 4000000 in
theorem uF (T : Txt K mg fs fds tc u cl fI fdI)  : aT P w K mg base dF 1 (fs 14) (fds 14) ["_law_script"] (CU K) := by
 refine T.nV.F.ok gP (fun vs H Q E h => ?_) (fun cdv A outer s H vs Q E hr h => ?_)
 ·obtain ⟨a, ns, rfl, hS, hlen, q⟩ := h
  rfl
 ·obtain ⟨a, ns, rfl, hS, hlen, q⟩ := h
  refine ⟨_, (aJ (lN (i := 1) (j := 2) rfl gP.nd rfl rfl (by decide) rfl rfl (aA aE (aA (d7 aD) aD)) rfl)
   (aJ (iH PassesOwn.never rfl (qQ K (bR (EV K) (pv 0) cH (bS aE))) (aY (i := 3) gP.nd rfl (Or.inl rfl)) (aJ (bQ (i := 1) gP.nd rfl (Or.inl rfl) (bH i3 (bH eZ (bH eZ (bH qG (pv 1) aE) (bH i3 (pv 3) aE)) aE) aE))
   (aO (dI (aS QC (aP wW (by rfl) T.sS IS (aA (pv 3) aD)) (bH oW aE aE) (bA _)) (aO (gQ (cO K PySem.F.plainAttrs_list PySem.F.slot_list_append PySem.F.type_list_append d5 (pv 2) (aA (bH i3 (aP wW (by rfl) T.sS IS (aA (pv 3) aD)) (bH JQ (bH oW aE aE) (bH oW aE aE))) aD)))) bJ))))
   (aO (aU (d7 (aA (pv 2) (aA (pv 1) (aA aE aD)))))))), ?_⟩
  refine aH ?_; walk_at "vc0"
  refine ⟨Nat.zero_le _, fun g hg => ?_⟩
  have hS1 := hS.SY (o := .lst []) hg
  refine aH ⟨_, rfl, 63, rfl, a, _, rfl, hS1, fun l hl => ⟨l, rfl, ⟨_, aX.of aB⟩, ?_⟩⟩
  obtain ⟨ms, em, hml⟩ := FU (ns := ns) (lo := none) (hi := some 63)
  rw [em]
  have gl : g ≠ l := aF (aB (H := H) (o := .lst [])) hl
  refine mB (K := K) (a := l) (xs := ms.map V.int) (fun i σ H' => aG H H' ∧ H' l = some (.lst (ms.map V.int)) ∧ ∃ (xs : List Int) (sd : Int) (v3 : Option V), H' g = some (.lst (xs.map V.int)) ∧ xs.length ≤ i ∧ 0 ≤ sd ∧ sd < 2305843009213693951 ∧ σ = [some (.ref a), some (.int sd), some (.ref g), v3]) ?_ ?_ ?_ ?_
  ·exact ⟨(aG.upd hg).trans (aG.upd hl), aB, [], 7, none, by rw [aL gl]; exact aB, Nat.le_refl _, by decide, by decide, rfl⟩
  ·rintro i σ H' _ ⟨_, h, _⟩
   exact aX.of h
  ·rintro i v σ H1 hv ⟨s1, h1, xs, sd, v3, h3, hx, hd0, hd1, rfl⟩
   obtain ⟨c, _, rfl⟩ := List.mem_map.mp (List.mem_of_getElem? hv)
   have hi := (List.getElem?_eq_some_iff.mp hv).1
   rw [List.length_map] at hi
   refine aH ?_; walk_at "vc0"
   have m0 : 0 ≤ (sd * 1000003 + c % 2305843009213693951 + 12345) % 2305843009213693951 := Int.emod_nonneg _ (by decide)
   have m1 : (sd * 1000003 + c % 2305843009213693951 + 12345) % 2305843009213693951 < 2305843009213693951 := Int.emod_lt_of_pos _ (by decide)
   refine ⟨.inl ⟨by omega, by omega⟩, by decide, by decide, by decide, by decide +kernel, gG (fun _ => ?_) (fun _ => ?_)⟩
   ·refine ⟨.inl ⟨_, aX.of h3⟩, by decide, by decide +kernel, by decide, by decide +kernel, QN, by decide +kernel, _, h3, o4 (by rw [List.length_map]; omega), ?_⟩
    refine ⟨fun b o hb => by rw [aL (aF hb hg)]; exact s1 b o hb, by rw [aL gl.symm]; exact h1, xs ++ [_], by rw [aB, List.map_append, List.map_singleton], by rw [List.length_append]; show _ + 1 ≤ _; omega, _, m0, m1, rfl, _, rfl⟩
   ·exact ⟨s1, h1, xs, h3, by omega, _, m0, m1, rfl, _, rfl⟩
  ·rintro σ H1 ⟨s1, h1, xs, sd, v3, h3, hx, hd0, hd1, rfl⟩
   walk_at "vc0"
   refine ⟨by decide, fun p hp => q p g _ ?_ hg ⟨xs, sd, 0, aB, ?_, ?_⟩ (s1.trans (aG.upd hp))⟩
   ·cases e : H p with
    | none => rfl
    | some o => rw [s1 _ _ e] at hp; cases hp
   ·rw [aL (aF h3 hp)]; exact h3
   ·exact (aF h3 hp).symm
theorem fB : aW ["_law_purse_here", "_law_many", "_law_digit", "_law_turn", "_law_prime", "_law_once", "_law_mixed"] ["_law_purse_here", "_law_many"] (aC dU) := ⟨rfl, rfl, rfl, by decide +kernel, rfl, by decide +kernel, by decide +kernel⟩
set_option maxHeartbeats 4000000 in
theorem xI (T : Txt K mg fs fds tc u cl fI fdI)  : aT P w K mg base dF 1 (fs 15) (fds 15) ["_law_purse_here", "_law_many"] iI := by
 refine T.bE.F.ok fB (fun vs H Q E h => ?_) (fun cdv A outer s H vs Q E hr h => ?_)
 ·obtain ⟨p, g, n, rfl, hp, hn0, hn, q⟩ := h
  rfl
 ·obtain ⟨p, g, n, rfl, hp, hn0, hn, q⟩ := h
  refine ⟨_, (aJ (FA PassesOwn.never (PW.pt (m8 (aS (P1 K hr) (bC (iZ K) (pv 0) aE (fun _ _ => rfl)) (d7 aD) (bA _)) (kJ (aS jI (bC (iZ K) (bC (iZ K) (pv 0) aE (fun _ _ => rfl)) aE (fun _ _ => rfl)) aE (bA _))))) (aO (gQ (cO K PySem.F.plainAttrs_list PySem.F.slot_list_pop PySem.F.type_list_pop HN (bC (iZ K) (pv 0) aE (fun _ _ => rfl)) (aA aE aD)))))
   (aJ (dI (aS (P1 K hr) (bC (iZ K) (pv 0) aE (fun _ _ => rfl)) (d7 aD) (bA _)) (aJ (bQ (i := 2) fB.nd rfl (Or.inl rfl) (bH i3 (bC (iZ K) (bC (iZ K) (pv 0) aE (fun _ _ => rfl)) aE (fun _ _ => rfl)) (pv 1)))
   (aJ (vN (bH lV (bC (iZ K) (bC (iZ K) (pv 0) aE (fun _ _ => rfl)) aE (fun _ _ => rfl)) (pv 1)) (G9 (bC (iZ K) (pv 0) aE (fun _ _ => rfl)) aE set_list))
   (aO (aU (pv 2))))) bJ)
   (aJ (vN (bH eZ (bC (iZ K) (pv 0) aE (fun _ _ => rfl)) aE) (G9 (pv 0) aE set_list))
   (aJ (bQ (i := 3) fB.nd rfl (Or.inl rfl) (bC (iZ K) (pv 0) aE (fun _ _ => rfl)))
   (aJ (bQ (i := 4) fB.nd rfl (Or.inl rfl) (bC (iZ K) (iO (bK (ew aE) (bK (ew aE) (bK (ew aE) (bK (ew aE) (bK (ew aE) (bK (ew aE) (bK (ew aE) bO)))))))).h (bH i3 (pv 3) aE) (fun _ _ => rfl)))
   (aJ (bQ (i := 5) fB.nd rfl (Or.inl rfl) (bH i3 (bH eZ (bC (iZ K) (pv 0) aE (fun _ _ => rfl)) (bH qG aE (pv 3))) aE))
   (aJ (bQ (i := 6) fB.nd rfl (Or.inl rfl) (bH qG (bH i3 (bH oW (pv 5) aE) aE) (bH eZ (bH qG aE (pv 3)) aE)))
   (aO (aU (bH i3 (bH lV (bH i3 (bH eZ (pv 6) (bH lV (bC (iZ K) (pv 0) aE (fun _ _ => rfl)) aE)) (pv 4)) aE) (pv 1))))))))))), ?_⟩
  refine aH (ES (σ := [some (.ref p), some (.int n), none, none, none, none, none]) rfl hp fun H1 hp1 f1 => ?_)
  obtain ⟨xs, sd, c, e1, e2, ne⟩ := id hp1
  dsimp only
  refine aH ?_; walk_at "vc0"
  refine ⟨_, aX.of e1, _, rfl, Nat.zero_le _, fun l hl => ?_⟩
  have e1' : upd H1 l (.lst []) p = some (.lst [.ref g, .int sd, .int c]) := by rw [aL (aF e1 hl)]; exact e1
  have e2' : upd H1 l (.lst []) g = some (.lst (xs.map V.int)) := by rw [aL (aF e2 hl)]; exact e2
  have f' : Fr p g H (upd H1 l (.lst [])) := f1.new hl
  refine ⟨g, rfl, _, aX.of e2', _, aX.of aB, fun _ => ⟨sZ, rfl⟩, ?_⟩
  rw [m4]
  cases xs with
  | cons x xs =>
   refine fC ?_
   refine aH ?_; walk_at "vc0"
   refine ⟨_, aX.of e1', _, rfl, g, rfl, _, aX.of e2', V.int x, L3, x, rfl, hn0, ?_⟩
   refine aH ?_; walk_at "vc0"
   refine ⟨_, aX.of e1', _, rfl, g, rfl, _, aX.of e2', V.int x, L3, x, rfl, ⟨hn0, by omega⟩, _, aX.of e1', _, rfl, g, rfl, _, e2', 0, T5, ?_⟩
   refine q _ _ (Int.emod_nonneg _ (by omega)) (Int.emod_lt_of_pos _ hn0) ⟨x / n :: xs, sd, c, ?_, aB, ne⟩ (fun b o hb n1 n2 => ?_)
   ·rw [aL ne]; exact e1'
   ·rw [aL n2]; exact f' b o hb n1 n2
  | nil =>
   refine gL ?_
   refine aH ?_; walk_at "vc0"
   refine ⟨_, aX.of e1', _, rfl, _, rfl, _, e1', _, rfl, ?_⟩
   generalize hH2 : upd (upd H1 l (.lst [])) p _ = H2
   have e1'' : H2 p = some (.lst [.ref g, .int sd, .int (c + 1)]) := by rw [← hH2]; exact aB
   have e2'' : H2 g = some (.lst (([] : List Int).map V.int)) := by rw [← hH2, aL ne.symm]; exact e2'
   have f2 : Fr p g H H2 := fun b o hb n1 n2 => by rw [← hH2, aL n1]; exact f' b o hb n1 n2
   refine aH ?_; walk_at "vc0"
   refine ⟨_, aX.of e1'', _, rfl, ?_⟩
   refine aH ?_; walk_at "vc0"
   refine ⟨by decide, fun l2 hl2 => ⟨by decide, _, aX.of aB, ?_⟩⟩
   have m0 : 0 ≤ (c + 1) % 7 := Int.emod_nonneg _ (by decide)
   have m1 : (c + 1) % 7 < 7 := Int.emod_lt_of_pos _ (by decide)
   obtain ⟨v, hv1, hv2⟩ := vP (xs := [V.int 2147483629, V.int 2147483587, V.int 2147483579, V.int 2147483563, V.int 2147483549, V.int 2147483543, V.int 2147483497]) m0 m1
   obtain ⟨pr, rfl, hpr⟩ : ∃ pr : Int, v = .int pr ∧ 0 < pr := by
    simp only [List.mem_cons, List.mem_nil_iff, or_false] at hv1
    rcases hv1 with h | h | h | h | h | h | h <;> exact ⟨_, h, by decide⟩
   refine ⟨_, hv2, ?_⟩
   have e1n : upd H2 l2 (.lst [V.int 2147483629, V.int 2147483587, V.int 2147483579, V.int 2147483563, V.int 2147483549, V.int 2147483543, V.int 2147483497]) p = some (.lst [.ref g, .int sd, .int (c + 1)]) := by rw [aL (aF e1'' hl2)]; exact e1''
   have e2n : upd H2 l2 (.lst [V.int 2147483629, V.int 2147483587, V.int 2147483579, V.int 2147483563, V.int 2147483549, V.int 2147483543, V.int 2147483497]) g = some (.lst (([] : List Int).map V.int)) := by rw [aL (aF e2'' hl2)]; exact e2''
   have f3 := f2.new (o := .lst [V.int 2147483629, V.int 2147483587, V.int 2147483579, V.int 2147483563, V.int 2147483549, V.int 2147483543, V.int 2147483497]) hl2
   generalize upd H2 l2 (.lst [V.int 2147483629, V.int 2147483587, V.int 2147483579, V.int 2147483563, V.int 2147483549, V.int 2147483543, V.int 2147483497]) = H3 at e1n e2n f3
   refine aH ?_; walk_at "vc0"
   refine ⟨_, aX.of e1n, _, rfl, .inl ⟨by decide, by decide⟩, _, rfl, by decide, ?_⟩
   have o0 : 0 ≤ (sd + 65537 * (c + 1)) % 2147483647 := Int.emod_nonneg _ (by decide)
   have o1 : (sd + 65537 * (c + 1)) % 2147483647 < 2147483647 := Int.emod_lt_of_pos _ (by decide)
   generalize (sd + 65537 * (c + 1)) % 2147483647 = on at o0 o1
   refine aH ?_; walk_at "vc0"
   have b1 := intBits_le_64 (k := on) (by omega) (by omega)
   have w0 : 0 ≤ on ^ Int.toNat 5 % 2147483647 := Int.emod_nonneg _ (by decide)
   have w1 : on ^ Int.toNat 5 % 2147483647 < 2147483647 := Int.emod_lt_of_pos _ (by decide)
   refine ⟨by decide, by omega, by decide, .inl ⟨by decide, by decide⟩, .inl ⟨by omega, by omega⟩, ?_⟩
   refine ⟨_, aX.of e1n, _, rfl, _, rfl, ⟨by decide, by decide⟩, hpr, ⟨by decide, by decide⟩, hn0, ?_⟩
   exact q _ _ (Int.emod_nonneg _ (by omega)) (Int.emod_lt_of_pos _ hn0) ⟨[], sd, c + 1, e1n, e2n, ne⟩ f3
theorem qH : aW ["_law_letter_here"] ["_law_letter_here"] (aC cC) := ⟨rfl, rfl, rfl, by decide +kernel, rfl, by decide +kernel, by decide +kernel⟩
set_option maxHeartbeats 4000000 in
theorem pZ (T : Txt K mg fs fds tc u cl fI fdI)  : aT P w K mg base dF 1 (fs 22) (fds 22) ["_law_letter_here"] OG := by
 refine T.gA.F.ok qH (fun vs H Q E h => ?_) (fun cdv A outer s H vs Q E hr h => ?_)
 ·obtain ⟨v, x, rfl, hR, ok, q⟩ := h
  rfl
 ·obtain ⟨v, x, rfl, hR, ok, q⟩ := h
  refine boxed ⟨_, (cD (gH (bD aN (bD aN (bD aN (bD aN (bD aN (bD aN (ew (bC (CF K) (pv 0) aE (fun _ _ => rfl))) (ew aM)) (ew (eF vK (by rfl) T.kY nJ (aA (bC (CF K) (pv 0) aE (fun _ _ => rfl)) aD)))) (ew aM)) (ew (OB (cO K PySem.F.plainAttrs_str PySem.F.slot_str_join PySem.F.type_str_join (Q6 K) aM (aA (bC (CF K) (pv 0) aE (fun _ _ => rfl)) aD)) (jV aM)))) (ew aM)) (ew (bC (CF K) (pv 0) aE (fun _ _ => rfl)))))), ?_⟩
  obtain ⟨n, d, h, row⟩ := x
  obtain ⟨a, r, rfl, ha, hr2⟩ := IG hR
  dsimp only at ha hr2
  walk_at "vc0"
  have h1 := FY (show (0 : Int) ≤ d from ok.d0) ok.d1
  have lr : row.length ≤ 10 := ok.lr
  have h2 : (row.map (·.length)).sum + row.length * (Str.ofString ",").length ≤ 130 := by
   have := zS (ys := row) (c := 12) fun y hy => (gT (ok.xX y hy)).2
   rw [show (Str.ofString ",").length = 1 from P9]; omega
  have h3 := Nat.le_trans (join_le (Str.ofString ",") row) h2
  have h4 : n.length ≤ 12 := ok.nm
  have h5 : h.length ≤ 60 := ok.hd
  have ht := dZ.of (K := K) ha
  have q' : ∀ (t : Str) H', t = SU n d h row → t.length ≤ 220 → aG H H' → Q (.str t) H' := fun t H' e hl s => by subst e; exact q H' hl s
  refine ⟨_, ht, _, rfl, _, rfl, cF (by rw [s1]; omega), _, ht, _, rfl, _, rfl, KI ok.d0 ok.d1, ?_⟩
  simp only [bN, s1, R0]
  refine ⟨cF (by omega), cF (by omega), _, ht, _, rfl, _, rfl, row, dZ.of hr2, by omega, cF (by omega), ?_⟩
  cases row with
  | nil =>
   rw [kT]
   refine gL ⟨cF (by omega), cF (by omega), _, ht, _, rfl, _, rfl, cF (by omega), q' _ H (by rfl) (by simp only [bN, s1, R0]; omega) (aG.refl _)⟩
  | cons z zs =>
   have hpos := xH (z := Str.ofString ",") (ys := z :: zs) (by simp) fun y hy => (gT (ok.xX y hy)).1
   rw [show (((Txt.join (Str.ofString ",") (z :: zs)).length : Int) != 0) = true by simp; omega]
   refine fC ⟨cF (by omega), cF (by omega), _, ht, _, rfl, _, rfl, cF (by omega), q' _ H (by rfl) (by simp only [bN, s1, R0]; omega) (aG.refl _)⟩
theorem pP : aW ["_law_word"] ["_law_word"] (aC bV) := ⟨rfl, rfl, rfl, by decide +kernel, rfl, by decide +kernel, by decide +kernel⟩
set_option maxHeartbeats 4000000 in
theorem rE (T : Txt K mg fs fds tc u cl fI fdI)  : aT P w K mg base dF 1 (fs 24) (fds 24) ["_law_word"] MF := by
 refine T.iG.F.ok pP (fun vs H Q E h => ?_) (fun cdv A outer s H vs Q E hr h => ?_)
 ·obtain ⟨x, rfl, hx, q⟩ := h
  rfl
 ·obtain ⟨x, rfl, hx, q⟩ := h
  refine ⟨_, (aJ (dI (PW.pt (gY (aS jI (pv 0) aM (bA _)) (fS (aS oM (aP cI (by rfl) T.d3 dE (aA (pv 0) aD)) aE (bA _))))) (aO (aU kX)) bJ)
   (aO (aU (aP (vB K rfl) (by rfl) T.iY jA (aA (jK ["_law_sign_here"] 1 [] ["_law_word"] (aC bV) rfl rfl rfl (nO (pv 0)) (by decide +kernel) (fun _ => (aY (i := 0) (show (["_law_sign_here"] : List Str).Nodup by decide +kernel) rfl (Or.inl rfl))) (fun _ => eI) (fun _ => (gM kP (pv 0) aM (by rfl)))) aD))))), ?_⟩
  refine aH ?_; walk_at "vc0"
  have nb : bT x = (decide (1 ≤ (x.length : Int)) && decide ((x.length : Int) ≤ 12) && x.cps.toList.all JI) := rfl
  refine ⟨rfl, gG (fun e => ?_) (fun e => ⟨cF (by omega), gG (fun g => ?_) (fun g => ?_)⟩)⟩
  ·have nb' : bT x = false := by rw [e]; decide +kernel
   rw [nb'] at q
   exact q H (aG.refl _)
  ·rw [decide_eq_false (show ¬ (x.length : Int) ≤ 12 by omega), Bool.and_false, Bool.false_and] at nb
   rw [nb] at q
   exact q H (aG.refl _)
  ·have h1 : 1 ≤ x.length := Nat.pos_of_ne_zero fun z => e (PM.iW (by rw [show (Str.ofString "").cps.toList = [] from jY]; exact List.eq_nil_of_length_eq_zero (by rw [iT]; exact z)))
   rw [decide_eq_true (show (1 : Int) ≤ x.length by omega), decide_eq_true (show (x.length : Int) ≤ 12 by omega), Bool.true_and, Bool.true_and] at nb
   refine ⟨_, rfl, x, rfl, fun l hl => gS x (fun _ => true) (fun v => match v with | .str z => .bl (!(Builtin.Str.occurrences EX z 0 EX.length 1).isEmpty) | v => v) (fun σ => ∃ o, σ = [o]) ⟨_, rfl⟩ (o4 (by omega)) ?_ ?_⟩
   ·rintro c σ xs N hc hz ⟨o, rfl⟩ hN
    unfold cM
    walk_at "vc2"
    exact ⟨_, aB, hz, by rw [fY]; exact hN _ ⟨_, rfl⟩⟩
   ·refine ⟨l, rfl, x.cps.toList.map fun c => JI c, aX.of ?_, ?_⟩
    ·rw [aB]
     refine congrArg (fun z => some (HO.lst z)) ?_
     rw [List.filter_eq_self.mpr (fun _ _ => rfl), List.map_map]
     unfold lK
     rw [List.map_map]
     rfl
    ·rw [List.all_map]
     show Q (V.bl (x.cps.toList.all JI)) _
     rw [← nb]
     exact q _ (aG.upd hl)
theorem sF : aW ["_law_word"] ["_law_word"] (aC cE) := ⟨rfl, rfl, rfl, by decide +kernel, rfl, by decide +kernel, by decide +kernel⟩
set_option maxHeartbeats 4000000 in
theorem rZ (T : Txt K mg fs fds tc u cl fI fdI)  : aT P w K mg base dF 1 (fs 25) (fds 25) ["_law_word"] GU := by
 refine T.mI.F.ok sF (fun vs H Q E h => ?_) (fun cdv A outer s H vs Q E hr h => ?_)
 ·obtain ⟨x, rfl, hx, q⟩ := h
  rfl
 ·obtain ⟨x, rfl, hx, q⟩ := h
  refine ⟨_, (aJ (dI (PW.pt (gY (aS jI (pv 0) aM (bA _)) (gY (aS oM (aP cI (by rfl) T.d3 dE (aA (pv 0) aD)) aE (bA _)) (fS (PW.pt (m8 (aS oM (aP cI (by rfl) T.d3 dE (aA (pv 0) aD)) aE (bA _)) (kJ (aS jI (bC mX (pv 0) aE (fun _ _ => rfl)) aM (bA _))))))))) (aO (aU kX)) bJ)
   (aO (aU (aP (vB K rfl) (by rfl) T.iY jA (aA (jK ["_law_sign_here"] 1 [] ["_law_word"] (aC cE) rfl rfl rfl (nO (pv 0)) (by decide +kernel) (fun _ => (aY (i := 0) (show (["_law_sign_here"] : List Str).Nodup by decide +kernel) rfl (Or.inl rfl))) (fun _ => eI) (fun _ => (gM kP (pv 0) aM (by rfl)))) aD))))), ?_⟩
  refine aH ?_; walk_at "vc0"
  have nb : yR x = (!(decide (x = EM) || (decide (8 < (x.length : Int)) || (decide (1 < (x.length : Int)) && decide (x.cps.toList.head? = some 48)))) && x.cps.toList.all zC) := rfl
  have last : yR x = x.cps.toList.all zC → yM (QE (i8 0)) 1 [] (hX 0) wY (pV (fun x y H Q => ∃ i, x = V.str i ∧ ∃ x, y = V.str x ∧ Q (V.bl !(Builtin.Str.occurrences x i 0 x.length 1).isEmpty) H) (i8 0) (tC (V.str (Str.ofString "0123456789")))) [some (V.str x)] H fun x H1 => ∃ p, x = V.ref p ∧ ∃ x, aX K H1 p (lK x) ∧ Q (V.bl (x.all id)) H1 := fun nb => by
   refine ⟨_, rfl, x, rfl, fun l hl => gS x (fun _ => true) (fun v => match v with | .str z => .bl (!(Builtin.Str.occurrences MJ z 0 MJ.length 1).isEmpty) | v => v) (fun σ => ∃ o, σ = [o]) ⟨_, rfl⟩ (o4 (by omega)) ?_ ?_⟩
   ·rintro c σ xs N hc hz ⟨o, rfl⟩ hN
    unfold cM
    walk_at "vc2"
    exact ⟨_, aB, hz, by rw [fY]; exact hN _ ⟨_, rfl⟩⟩
   ·refine ⟨l, rfl, x.cps.toList.map fun c => zC c, aX.of ?_, ?_⟩
    ·rw [aB]
     refine congrArg (fun z => some (HO.lst z)) ?_
     rw [List.filter_eq_self.mpr (fun _ _ => rfl), List.map_map]
     unfold lK
     rw [List.map_map]
     rfl
    ·rw [List.all_map]
     show Q (V.bl (x.cps.toList.all zC)) _
     rw [← nb]
     exact q _ (aG.upd hl)
  refine ⟨rfl, gG (fun e => ?_) (fun e => ⟨cF (by omega), gG (fun g => ?_) (fun g => ⟨cF (by omega), gG (fun g1 => ⟨cF (by omega), ?_⟩) (fun g1 => ?_)⟩)⟩)⟩
  ·rw [decide_eq_true (show x = EM from e), Bool.true_or, Bool.not_true, Bool.false_and] at nb
   rw [nb] at q
   exact q H (aG.refl _)
  ·rw [decide_eq_true g, Bool.true_or, Bool.or_true, Bool.not_true, Bool.false_and] at nb
   rw [nb] at q
   exact q H (aG.refl _)
  ·rw [decide_eq_false (show ¬ x = EM from e), decide_eq_false g, decide_eq_true g1, Bool.true_and, Bool.false_or, Bool.false_or] at nb
   obtain ⟨c, r, hc⟩ : ∃ c r, x.cps.toList = c :: r := by
    have hl := iT x
    cases ec : x.cps.toList with
    | nil => rw [ec] at hl; simp at hl; omega
    | cons c r => exact ⟨c, r, rfl⟩
   refine ⟨c, by rw [hc]; exact bI (j := 0) rfl, rfl, ?_⟩
   rw [show decide (x.cps.toList.head? = some 48) = decide (c = 48) from decide_eq_decide.mpr (by rw [hc]; simp)] at nb
   refine gG (fun e0 => ?_) (fun e0 => ?_)
   ·have c48 : c = 48 := by rw [show Str.ofString "0" = ⟨#[48]⟩ from by decide +kernel] at e0; cases e0; rfl
    rw [decide_eq_true c48, Bool.not_true, Bool.false_and] at nb
    rw [nb] at q
    exact q H (aG.refl _)
   ·have c48 : ¬ c = 48 := fun z => e0 (by rw [z]; decide +kernel)
    rw [decide_eq_false c48, Bool.not_false, Bool.true_and] at nb
    exact last nb
  ·rw [decide_eq_false (show ¬ x = EM from e), decide_eq_false g, decide_eq_false g1, Bool.false_and, Bool.false_or, Bool.false_or, Bool.not_false, Bool.true_and] at nb
   exact last nb
theorem mE : aW ["_law_thing"] ["_law_thing"] (aC bM) := ⟨rfl, rfl, rfl, by decide +kernel, rfl, by decide +kernel, by decide +kernel⟩
set_option maxHeartbeats 4000000 in
theorem lT (T : Txt K mg fs fds tc u cl fI fdI)  : aT P w K mg base dF 1 (fs 29) (fds 29) ["_law_thing"] BX := by
 refine T.iN.F.ok mE (fun vs H Q E h => ?_) (fun cdv A outer s H vs Q E hr h => ?_)
 ·obtain ⟨z, v, rfl, hv, q⟩ := h
  rfl
 ·obtain ⟨z, v, rfl, hv, q⟩ := h
  refine ⟨_, (aO (aU (g0 (aS nB (pv 0) eU (bA _)) (iO (bK (ew aE) bO)).h (pv 0)))), ?_⟩
  walk_at "vc0"
  cases e : fO z with
  | none =>
   rw [e] at hv
   refine nS hv ⟨by decide, fun p hp => q _ _ (aG.upd hp) ?_⟩
   unfold tV
   rw [e]
   exact ⟨p, rfl, aB⟩
  | some x =>
   rw [e] at hv
   have hv : Tr H x.P v := hv
   refine oA (fun n => by rw [n] at hv; cases hv) (q v H (aG.refl _) ?_)
   unfold tV
   rw [e]
   exact hv
theorem DT : aW ["thing"] ["thing"] (aC fK) := ⟨rfl, rfl, rfl, by decide +kernel, rfl, by decide +kernel, by decide +kernel⟩
set_option maxHeartbeats 4000000 in
theorem DV (T : Txt K mg fs fds tc u cl fI fdI) (G_is_whole : aT P w K mg base dF 1 (fs 1) (fds 1) ["thing"] BN) : aT P w K mg base dF 2 (fs 2) (fds 2) ["thing"] FT := by
 refine T.wJ.F.ok DT (fun vs H Q E h => ?_) (fun cdv A outer s H vs Q E hr h => ?_)
 ·obtain ⟨v, k, rfl, hT, q⟩ := h
  rfl
 ·obtain ⟨v, k, rfl, hT, q⟩ := h
  refine ⟨_, (aO (aU (g7 (bB T.rO G_is_whole hr (by decide) rfl (aA (pv 0) aD)) (jV (qW B9 B9 aE (pv 0) (fX (v := .int 99999999) rfl T.y7 T.yZ)))))), ?_⟩
  walk_at "vc0"
  refine ⟨v, k, rfl, hT, _, rfl, ?_⟩
  by_cases e : k = .int
  ·subst e
   obtain ⟨i, rfl⟩ := hT.is
   rw [decide_eq_true rfl]
   refine fC ⟨_, rfl, gG (fun g => ⟨_, rfl, ?_⟩) (fun g => ?_)⟩
   ·have e : jX (.int i) = decide (i ≤ 99999999) := by show (decide (0 ≤ i) && decide (i ≤ 99999999)) = _; rw [decide_eq_true g, Bool.true_and]
    rw [← e]; exact q
   ·have e : jX (.int i) = false := by show (decide (0 ≤ i) && decide (i ≤ 99999999)) = _; rw [decide_eq_false g, Bool.false_and]
    rw [← e]; exact q
  ·rw [J7 hT.is e] at q
   rw [decide_eq_false e]
   exact gL q
theorem D4 : aW ["thing"] ["thing"] (aC eQ) := ⟨rfl, rfl, rfl, by decide +kernel, rfl, by decide +kernel, by decide +kernel⟩
set_option maxHeartbeats 4000000 in
theorem EJ (T : Txt K mg fs fds tc u cl fI fdI) (G_is_name : aT P w K mg base dF 1 (fs 0) (fds 0) ["thing"] uC) : aT P w K mg base dF 2 (fs 4) (fds 4) ["thing"] (RY m9 1) := by
 refine T.xU.F.ok D4 (fun vs H Q E h => ?_) (fun cdv A outer s H vs Q E hr h => ?_)
 ·obtain ⟨v, rfl, hA, q⟩ := h
  rfl
 ·obtain ⟨v, rfl, hA, q⟩ := h
  refine ⟨_, (aJ (dI (PW.pt (gY (fE (dM (aP (jP K) (by rfl) T.aQ aR (aA (pv 0) (aA (cJ (v := .ty "tuple") rfl T.d8 eR rfl) aD))))) (fS (aS oM (aP (JR K) (by rfl) T.d3 dE (aA (pv 0) aD)) (fX (v := .int 9) rfl T.rV T.r9) (bA _))))) (aO (aU kX)) bJ)
   (aO (aU (aP (vB K rfl) (by rfl) T.iY jA (aA (jK ["part"] 1 [] ["thing"] (aC eQ) rfl rfl rfl (IF K (pv 0)) (by decide +kernel) (fun _ => (aY (i := 0) (show (["part"] : List Str).Nodup by decide +kernel) rfl (Or.inl rfl))) (fun _ => eI) (fun _ => (bB T.m6 G_is_name hr (by decide) rfl (aA (pv 0) aD)))) aD))))), ?_⟩
  obtain ⟨⟨k, hT⟩, hx⟩ := hA
  refine aH ?_; walk_at "vc0"
  refine ⟨_, hT.is.ty, _, JA k, ?_⟩
  rcases hT.tup with ⟨rfl, a, xs, rfl, ha, et⟩ | ⟨n, et⟩
  ·rw [decide_eq_true rfl]
   refine dO ?_
   have hx := hx xs et
   have hxl := hx.1
   have eq : m9 H (.ref a) = (!decide (9 < (xs.length : Int)) && xs.all fJ) := by unfold m9; rw [et]
   rw [eq] at q
   walk_at "vc0"
   refine ⟨_, dZ.of ha, gG (fun g1 => ?_) (fun g1 => ?_)⟩
   ·rw [decide_eq_true g1] at q
    exact q _ (aG.refl _)
   ·rw [decide_eq_false g1] at q
    refine ⟨_, rfl, a, rfl, ⟨_, dZ.of ha⟩, fun l hl0 => C1 (dZ.of ha) (fun v => .bl (fJ v)) (fun σ => ∃ o, σ = [o]) ⟨_, rfl⟩ hl0 (o4 (by omega)) ?_ ?_⟩
    ·rintro i x σ H1 ys N hxi ⟨o, rfl⟩ s1 e1 hz hN
     obtain ⟨k', hk'⟩ := hx.2 x (List.mem_of_getElem? hxi)
     unfold cM
     walk_at "vc2"
     exact ⟨x, k', rfl, hk'.same s1, fun H2 s2 => ⟨ys, s2 _ _ e1, hz, hN _ _ ⟨_, rfl⟩ (fun b o h n => by rw [aL n]; exact s2 b o h) aB⟩⟩
    ·intro H1 s1 e1
     refine ⟨l, rfl, xs.map fJ, aX.of (by rw [e1]; unfold lK; rw [List.map_map]; rfl), ?_⟩
     rw [show (xs.map fJ).all id = (!false && xs.all fJ) from by rw [List.all_map]; rfl]
     exact q _ s1
  ·have eq : m9 H v = false := by unfold m9; rw [et]
   rw [eq] at q
   rw [decide_eq_false n]
   exact eX (q H (aG.refl _))
theorem t9 : aW ["text"] ["text"] (aC cZ) := ⟨rfl, rfl, rfl, by decide +kernel, rfl, by decide +kernel, by decide +kernel⟩
set_option maxHeartbeats 4000000 in
theorem uT (T : Txt K mg fs fds tc u cl fI fdI) (G_is_count : aT P w K mg base dF 1 (fs 6) (fds 6) ["text"] MH) : aT P w K mg base dF 2 (fs 7) (fds 7) ["text"] MO := by
 refine T.oB.F.ok t9 (fun vs H Q E h => ?_) (fun cdv A outer s H vs Q E hr h => ?_)
 ·obtain ⟨x, rfl, hx, q⟩ := h
  rfl
 ·obtain ⟨x, rfl, hx, q⟩ := h
  refine ⟨_, (aJ (dI (PW.pt (gY (aS oM (aP cI (by rfl) T.d3 dE (aA (pv 0) aD)) (fX (v := .int 9) rfl T.qM T.qN) (bA _)) (fS (fE (dM (bB T.qU G_is_count hr (by decide) rfl (aA (pv 0) aD))))))) (aO (aU eU)) bJ)
   (aJ (dI (PW.pt (m8 (aS jI (bC mX (pv 0) aE (fun _ _ => rfl)) aM (bA _)) (kJ (aS yN (pv 0) aM (bA _))))) (aO (aU eU)) bJ)
   (aO (aU (eF tN (by rfl) T.nW tW (aA (pv 0) aD)))))), ?_⟩
  refine aH ?_; walk_at "vc0"
  refine ⟨cF (by omega), gG (fun g => ?_) (fun g => ?_)⟩
  ·have e : gN x = none := by unfold gN; rw [decide_eq_true g]; rfl
   rw [e] at q
   exact q H (aG.refl _)
  refine ⟨x, rfl, hx, fun H1 s1 => ⟨_, rfl, ?_⟩⟩
  have hl : x.length ≤ 9 := by omega
  cases ec : mF x with
  | false =>
   have e : gN x = none := by unfold gN; rw [ec, Bool.not_false, Bool.or_true]; rfl
   rw [e] at q
   exact eX (q H1 s1)
  | true =>
   refine dO ?_
   have h0 : x ≠ Str.ofString "" := by
    intro z
    rw [z] at ec
    exact absurd ec (by decide +kernel)
   obtain ⟨c, r, hc⟩ : ∃ c r, x.cps.toList = c :: r := by
    cases e : x.cps.toList with
    | nil => exact absurd (PM.iW (by rw [e]; decide +kernel)) h0
    | cons c r => exact ⟨c, r, rfl⟩
   have h1 : rT x.cps.toList 0 = some c := by rw [hc]; exact bI (j := 0) rfl
   have ez : decide ((⟨#[c]⟩ : Str) = Str.ofString "0") = decide (x.cps.toList.head? = some 48) := by
    rw [hc, show Str.ofString "0" = ⟨#[48]⟩ from by decide +kernel]
    by_cases e : c = 48
    ·rw [e]; rfl
    ·rw [decide_eq_false (by intro z; cases z; exact e rfl), decide_eq_false (by intro z; cases z; exact e rfl)]
   have nm : gN x = if j8 x = true then none else intText? x := by
    unfold gN
    rw [ec, decide_eq_false g]
    rfl
   obtain ⟨n, hn⟩ := JV ec hl
   refine aH ?_; walk_at "vc0"
   refine ⟨cF (by omega), c, h1, rfl, ?_⟩
   rw [ez]
   have fin : j8 x = false → Q (.int n) H1 := fun z => by
    rw [nm, z, if_neg Bool.false_ne_true, hn] at q
    exact q H1 s1
   cases e1 : decide (x.cps.toList.head? = some 48) with
   | false =>
    refine gL ⟨by omega, n, hn, fin ?_⟩
    unfold j8
    rw [e1]; rfl
   | true =>
    refine fC ⟨rfl, ?_⟩
    by_cases e2 : x = Str.ofString "0"
    ·rw [decide_eq_true e2]
     refine dO ⟨by omega, n, hn, fin ?_⟩
     unfold j8
     rw [e1, decide_eq_true e2]; rfl
    ·rw [decide_eq_false e2]
     refine eX ?_
     have z : j8 x = true := by unfold j8; rw [e1, decide_eq_false e2]; rfl
     rw [nm, z, if_pos rfl] at q
     exact q H1 s1
theorem pN : aW ["text", "rows"] ["text"] (aC eJ) := ⟨rfl, rfl, rfl, by decide +kernel, rfl, by decide +kernel, by decide +kernel⟩
set_option maxHeartbeats 4000000 in
theorem AL (T : Txt K mg fs fds tc u cl fI fdI) (G_checked : aT P w K mg base dF 1 (fs 8) (fds 8) ["text"] GF) : aT P w K mg base dF 2 (fs 9) (fds 9) ["text"] FO := by
 refine T.sX.F.ok pN (fun vs H Q E h => ?_) (fun cdv A outer s H vs Q E hr h => ?_)
 ·obtain ⟨x, rfl, hx, q⟩ := h
  rfl
 ·obtain ⟨x, rfl, hx, q⟩ := h
  refine ⟨_, (aJ (bQ (i := 1) pN.nd rfl (Or.inl rfl) (cO K PySem.F.plainAttrs_str PySem.F.slot_str_split PySem.F.type_str_split gX (bB T.m5 G_checked hr (by decide) rfl (aA (pv 0) aD)) (aA aM aD)))
   (aO (aU (g0 (aS (TV K hr) (pv 1) (iO (bK (ew aM) bO)).h (bA _)) (d7 aD) (pv 1))))), ?_⟩
  refine aH ?_; walk_at "vc1"
  refine iX ⟨_, rfl, x, rfl, rfl, fT (by rw [EY]; decide) hx fun l hl => ⟨by decide, fun p hp => ?_⟩⟩
  have el : upd H l (.lst ((Txt.split x NL).map V.str)) l = some (.lst ((Txt.split x NL).map V.str)) := aB
  have el2 : upd (upd H l (.lst ((Txt.split x NL).map V.str))) p (.lst ([EM].map V.str)) l = some (.lst ((Txt.split x NL).map V.str)) := by rw [aL (aF el hp)]; exact el
  have s2 : aG H (upd (upd H l (.lst ((Txt.split x NL).map V.str))) p (.lst ([EM].map V.str))) := (aG.upd hl).trans (aG.upd hp)
  refine ⟨l, rfl, (Txt.split x NL).map V.str, aX.of el2, [EM].map V.str, aX.of aB, fun _ => ⟨nM, nM⟩, ?_⟩
  rw [tJ]
  refine gG (fun e => ⟨Nat.zero_le _, fun r hr => ?_⟩) (fun e => ?_)
  ·refine q r _ ?_ (s2.trans (aG.upd hr)) (by unfold fH; rw [if_pos e]; exact aB)
   cases e2 : H r with
   | none => rfl
   | some o => exact nomatch (hr.symm.trans (s2 _ _ e2))
  ·exact q l _ hl s2 (by unfold fH; rw [if_neg e]; exact el2)
theorem jT : aW ["_law_purse_here", "_law_signs", "_law_size"] ["_law_purse_here"] (aC dD) := ⟨rfl, rfl, rfl, by decide +kernel, rfl, by decide +kernel, by decide +kernel⟩
set_option maxHeartbeats 4000000 in
theorem yB (T : Txt K mg fs fds tc u cl fI fdI) (G_law_pick : aT P w K mg base dF 1 (fs 15) (fds 15) ["_law_purse_here", "_law_many"] iI) : aT P w K mg base dF 2 (fs 16) (fds 16) ["_law_purse_here"] GL := by
 refine T.pL.F.ok jT (fun vs H Q E h => ?_) (fun cdv A outer s H vs Q E hr h => ?_)
 ·obtain ⟨p, g, rfl, hp, q⟩ := h
  rfl
 ·obtain ⟨p, g, rfl, hp, q⟩ := h
  refine boxed ⟨_, (aV (sw (bQ (i := 1) jT.nd rfl (Or.inr rfl) (bC (iZ K) (iO (bK (ew aM) (bK (ew aM) bO))).h (bH lV (bB T.bE G_law_pick hr (by decide) rfl (aA (pv 0) (aA aE aD))) aE) (fun _ _ => rfl))))
   (aV (lO (i := 2) jT.nd rfl (Or.inl rfl) (A9 (iZ K) (iO (bK (ew aE) (bK (ew aE) (bK (ew aE) (bK (ew aE) (bK (ew aE) (bK (ew aE) bO))))))) (MI T.bE G_law_pick hr (by decide) rfl (zX (ew (pv 0)) (bK (ew aE) bO))) (fun _ _ => rfl)))
   (cD (gH (JD K PySem.F.plainAttrs_str PySem.F.slot_str_join PySem.F.type_str_join (sR K) (ew aM) (tF.mk (aA (jK ["_law_k", "_law_signs", "_law_purse_here"] 1 [1, 0] ["_law_purse_here", "_law_signs", "_law_size"] (aC dD) rfl rfl rfl (fR rfl T.fD (aA (pv 2) aD)) (by decide +kernel) (fun _ => (aY (i := 0) (show (["_law_k", "_law_signs", "_law_purse_here"] : List Str).Nodup by decide +kernel) rfl (Or.inl rfl))) (fun _ => eI) (fun _ => (bC mX (pv 1) (bB T.bE G_law_pick hr (by decide) rfl (aA (pv 2) (aA (aP cI (by rfl) T.d3 dE (aA (pv 1) aD)) aD))) (fun _ _ => rfl)))) aD))))))), ?_⟩
  have e36 : EX.length = 36 := by decide +kernel
  have e5 : S5.length = 5 := by decide +kernel
  refine aH ?_; walk_at "vc0"
  refine ⟨by decide, fun l hl => ⟨p, g, 3, rfl, hp.new hl, by decide, by decide, fun d H1 d0 d1 hp1 f1 => ⟨d, rfl, ⟨by decide, by decide⟩, ?_⟩⟩⟩
  have hl1 := f1 l _ aB (hp.G0 hl).symm (hp.neg hl).symm
  obtain ⟨Z, hZ, hz0, hz1, hzA⟩ : ∃ Z : Str, rT [V.str (Str.ofString "abz09"), V.str (Str.ofString "abcdefghijklmnopqrstuvwxyz0123456789")] (d / 2) = some (.str Z) ∧ 0 < Z.length ∧ Z.length ≤ 1000 ∧ ∀ c ∈ Z.cps.toList, c ∈ EX.cps.toList := by
   have hd : d / 2 = 0 ∨ d / 2 = 1 := by omega
   rcases hd with h | h <;> rw [h]
   ·exact ⟨_, rfl, by rw [e5]; decide, by rw [e5]; decide, J5⟩
   ·exact ⟨_, rfl, by rw [e36]; decide, by rw [e36]; decide, fun _ h => h⟩
  refine ⟨_, aX.of hl1, _, hZ, ?_⟩
  refine aH ?_; walk_at "vc1"
  refine vI (xs := [V.int 1, V.int 2, V.int 2, V.int 3, V.int 5, V.int 12]) hp1 rfl rfl (by decide) (by decide) fun v H2 hv hp2 f2 => ?_
  obtain ⟨m, rfl, hm0, hm1⟩ : ∃ m : Int, v = .int m ∧ 1 ≤ m ∧ m ≤ 12 := by
   simp only [List.mem_cons, List.mem_nil_iff, or_false] at hv
   rcases hv with h | h | h | h | h | h <;> exact ⟨_, h, by decide, by decide⟩
  refine ⟨rfl, _, rfl, _, rfl, by omega, by omega, fun l4 hl4 => N4 (Z := Z) _ rfl hp2 hl4 (by omega) hz0 hz1 fun zs H4 e hz hn hp4 b4 => ?_⟩
  have hzn : (zs.length : Int) = m := by omega
  refine ⟨_, l4, zs, rfl, rfl, aX.of e, by rw [s0, mL fun y hy => (hz y hy).1]; omega, q _ H4 (DM hzA hz (by omega) (by omega)) hp4 ?_⟩
  exact (((Fr.of (aG.upd hl)).trans f1).trans f2).trans b4
theorem qK : aW ["_law_purse_here", "_law_lot"] ["_law_purse_here"] (aC eG) := ⟨rfl, rfl, rfl, by decide +kernel, rfl, by decide +kernel, by decide +kernel⟩
set_option maxHeartbeats 4000000 in
theorem AI (T : Txt K mg fs fds tc u cl fI fdI) (G_law_pick : aT P w K mg base dF 1 (fs 15) (fds 15) ["_law_purse_here", "_law_many"] iI) : aT P w K mg base dF 2 (fs 18) (fds 18) ["_law_purse_here"] MK := by
 refine T.sL.F.ok qK (fun vs H Q E h => ?_) (fun cdv A outer s H vs Q E hr h => ?_)
 ·obtain ⟨p, g, rfl, hp, q⟩ := h
  rfl
 ·obtain ⟨p, g, rfl, hp, q⟩ := h
  refine ⟨_, (aJ (bQ (i := 1) qK.nd rfl (Or.inl rfl) (bB T.bE G_law_pick hr (by decide) rfl (aA (pv 0) (aA aE aD))))
   (aJ (dI (aS qR (pv 1) aE (bA _)) (aO (aU (bH eZ aE (pv 1)))) bJ)
   (aJ (dI (aS qR (pv 1) aE (bA _)) (aO (aU (bH qG (bH nH (pv 1) aE) aE))) bJ)
   (aO (aU (bB T.bE G_law_pick hr (by decide) rfl (aA (pv 0) (aA aE aD)))))))), ?_⟩
  refine aH ?_; walk_at "vc0"
  refine ⟨p, g, 8, rfl, hp, by decide, by decide, fun d H1 d0 d1 hp1 f1 => ?_⟩
  refine aH ?_; walk_at "vc0"
  refine gG (fun g1 => ?_) (fun g1 => ?_)
  ·exact q _ H1 (by omega) (by omega) hp1 f1
  refine aH ?_; walk_at "vc0"
  refine gG (fun g2 => ?_) (fun g2 => ?_)
  ·exact ⟨.inr ⟨by decide, by decide⟩, q _ H1 (by omega) (by omega) hp1 f1⟩
  ·exact ⟨p, g, _, rfl, hp1, by decide, by decide, fun d2 H2 e0 e1 hp2 f2 => q _ H2 e0 (by omega) hp2 (f1.trans f2)⟩
theorem kF : aW ["_law_purse_here", "_law_signs", "_law_few"] ["_law_purse_here"] (aC dR) := ⟨rfl, rfl, rfl, by decide +kernel, rfl, by decide +kernel, by decide +kernel⟩
set_option maxHeartbeats 4000000 in
theorem wR (T : Txt K mg fs fds tc u cl fI fdI) (G_law_pick : aT P w K mg base dF 1 (fs 15) (fds 15) ["_law_purse_here", "_law_many"] iI) : aT P w K mg base dF 2 (fs 19) (fds 19) ["_law_purse_here"] y6 := by
 refine T.lH.F.ok kF (fun vs H Q E h => ?_) (fun cdv A outer s H vs Q E hr h => ?_)
 ·obtain ⟨p, g, rfl, hp, q⟩ := h
  rfl
 ·obtain ⟨p, g, rfl, hp, q⟩ := h
  refine ⟨_, (aJ (bQ (i := 1) kF.nd rfl (Or.inl rfl) aM)
   (aJ (bQ (i := 2) kF.nd rfl (Or.inl rfl) (bB T.bE G_law_pick hr (by decide) rfl (aA (pv 0) (aA aE aD))))
   (aO (aU (g0 (aS jI (pv 2) aE (bA _)) (bC mX aM (bB T.bE G_law_pick hr (by decide) rfl (aA (pv 0) (aA aE aD))) (fun _ _ => rfl)) (bC mX (pv 1) (bB T.bE G_law_pick hr (by decide) rfl (aA (pv 0) (aA aE aD))) (fun _ _ => rfl))))))), ?_⟩
  have r8 : ∀ c ∈ (Str.ofString " -,:+a0?").cps.toList, 32 ≤ c ∧ c ≤ 126 := by decide +kernel
  have r94 : ∀ c ∈ (Str.ofString " !\"#$&'()*+,-./0123456789:;<=>?@ABCDEFGHIJKLMNOPQRSTUVWXYZ[\\]^_`abcdefghijklmnopqrstuvwxyz{|}~").cps.toList, 32 ≤ c ∧ c ≤ 126 := by decide +kernel
  have e8 : (Str.ofString " -,:+a0?").length = 8 := by decide +kernel
  have e94 : (Str.ofString " !\"#$&'()*+,-./0123456789:;<=>?@ABCDEFGHIJKLMNOPQRSTUVWXYZ[\\]^_`abcdefghijklmnopqrstuvwxyz{|}~").length = 94 := by decide +kernel
  refine aH ?_; walk_at "vc0"
  refine aH ?_; walk_at "vc0"
  refine ⟨p, g, _, rfl, hp, by decide, by decide, fun d H1 d0 d1 hp1 f1 => ⟨rfl, gG (fun g1 => ?_) (fun g1 => ?_)⟩⟩
  ·refine ⟨p, g, _, rfl, hp1, by decide, by decide, fun d2 H2 e0 e1 hp2 f2 => ?_⟩
   obtain ⟨c, hcm, hc⟩ := mK (z := Str.ofString " -,:+a0?") e0 (by rw [e8]; exact e1)
   exact ⟨_, rfl, cF (by rw [e8]; decide), _, hc, q _ H2 ⟨rfl, fun d hd => by simp at hd; rw [hd]; exact r8 c hcm⟩ hp2 (f1.trans f2)⟩
  ·refine ⟨p, g, _, rfl, hp1, by decide, by decide, fun d2 H2 e0 e1 hp2 f2 => ?_⟩
   obtain ⟨c, hcm, hc⟩ := mK (z := Str.ofString " !\"#$&'()*+,-./0123456789:;<=>?@ABCDEFGHIJKLMNOPQRSTUVWXYZ[\\]^_`abcdefghijklmnopqrstuvwxyz{|}~") e0 (by rw [e94]; exact e1)
   exact ⟨_, rfl, cF (by rw [e94]; decide), _, hc, q _ H2 ⟨rfl, fun d hd => by simp at hd; rw [hd]; exact r94 c hcm⟩ hp2 (f1.trans f2)⟩
theorem eK : aW ["_law_text", "_law_words", "_law_row", "_law_head"] ["_law_text"] (aC bF) := ⟨rfl, rfl, rfl, by decide +kernel, rfl, by decide +kernel, by decide +kernel⟩
set_option maxHeartbeats 4000000 in
theorem nN (T : Txt K mg fs fds tc u cl fI fdI) (G_law_is_name : aT P w K mg base dF 1 (fs 24) (fds 24) ["_law_word"] MF) (G_law_is_day : aT P w K mg base dF 1 (fs 25) (fds 25) ["_law_word"] GU) : aT P w K mg base dF 2 (fs 26) (fds 26) ["_law_text"] (DW fO Lt.P) := by
 refine T.gF.F.ok eK (fun vs H Q E h => ?_) (fun cdv A outer s H vs Q E hr h => ?_)
 ·obtain ⟨x, rfl, hx, q⟩ := h
  rfl
 ·obtain ⟨x, rfl, hx, q⟩ := h
  refine boxed ⟨_, (aV (sw (bQ (i := 1) eK.nd rfl (Or.inl rfl) (cO K PySem.F.plainAttrs_str PySem.F.slot_str_split PySem.F.type_str_split gX (pv 0) (aA aM aD))))
   (aV (oH (PW.pt (gY (aS qR (aP (xF K) (by rfl) T.d3 dE (aA (pv 1) aD)) aE (bA _)) (gY (fE (dM (bB T.iG G_law_is_name hr (by decide) rfl (aA (bC (iZ K) (pv 1) aE (fun _ _ => rfl)) aD)))) (fS (fE (dM (bB T.mI G_law_is_day hr (by decide) rfl (aA (bC (iZ K) (pv 1) aE (fun _ _ => rfl)) aD)))))))) (cD (gH (ew eU))) jD)
   (aV (sw (lN (i := 2) (j := 3) rfl eK.nd rfl rfl (by decide) rfl rfl (aA (d7 aD) (aA (cO K PySem.F.plainAttrs_str PySem.F.slot_str_join PySem.F.type_str_join (sR K) aM (aA (bR (EV K) (pv 1) (bS aE) cH) aD)) aD)) rfl))
   (aV (oH (aS yN (bC (iZ K) (pv 1) aE (fun _ _ => rfl)) aM (bA _)) (cD (sw (bQ (i := 2) eK.nd rfl (Or.inl rfl) (cO K PySem.F.plainAttrs_str PySem.F.slot_str_split PySem.F.type_str_split gX (bC (iZ K) (pv 1) aE (fun _ _ => rfl)) (aA aM aD))))) jD)
   (aV (oH (PW.pt (gY (aS oM (aP (xF K) (by rfl) T.d3 dE (aA (pv 2) aD)) aE (bA _)) (fS (fE (dM (aP (vB K rfl) (by rfl) T.iY jA (aA (jK ["_law_name_here"] 1 [] ["_law_text", "_law_words", "_law_row", "_law_head"] (aC bF) rfl rfl rfl (qQ K (pv 2)) (by decide +kernel) (fun _ => (aY (i := 0) (show (["_law_name_here"] : List Str).Nodup by decide +kernel) rfl (Or.inl rfl))) (fun _ => eI) (fun _ => (bB T.iG G_law_is_name hr (by decide) rfl (aA (pv 0) aD)))) aD))))))) (cD (gH (ew eU))) jD)
   (aV (oH (PW.pt (gY (aS oM (aP cI (by rfl) T.d3 dE (aA (pv 3) aD)) aE (bA _)) (fS (fE (dM (aP (vB K rfl) (by rfl) T.iY jA (aA (jK ["_law_sign_here"] 1 [] ["_law_text", "_law_words", "_law_row", "_law_head"] (aC bF) rfl rfl rfl (nO (pv 3)) (by decide +kernel) (fun _ => (aY (i := 0) (show (["_law_sign_here"] : List Str).Nodup by decide +kernel) rfl (Or.inl rfl))) (fun _ => eI) (fun _ => (qW kR kR aM (pv 0) aM))) aD))))))) (cD (gH (ew eU))) jD)
   (cD (gH (QT (PB (A9 (iZ K) (ew (pv 1)) (ew aE) (fun _ _ => rfl)) (FI (ew (eF tN (by rfl) T.nW tW (aA (bC (iZ K) (pv 1) aE (fun _ _ => rfl)) aD))) (zX (ew (pv 3)) (FI (ew (eF (DA K) (by rfl) T.d8 eR (aA (pv 2) aD))) bO))))))))))))), ?_⟩
  refine aH ?_; walk_at "vc1"
  refine iX ⟨_, rfl, rfl, fT (by rw [s1]; decide) (by omega) fun l hl => ?_⟩
  have s1' := aG.upd (o := .lst ((Txt.split x BL).map V.str)) hl
  have el : upd H l (.lst ((Txt.split x BL).map V.str)) l = some (.lst ((Txt.split x BL).map V.str)) := aB
  generalize upd H l (.lst ((Txt.split x BL).map V.str)) = H1 at s1' el
  have pl := eB x BL
  refine aH ?_; walk_at "vc0"
  by_cases BV : (Txt.split x BL).length < 4
  ·refine ⟨_, aX.of el, nS (by rw [List.length_map]; omega) (q .aZ H1 s1' (by rw [wU BV]; rfl))⟩
  obtain ⟨n, d, r, h, hs, e⟩ : ∃ n d r h hs, Txt.split x BL = n :: d :: r :: h :: hs := by
   generalize Txt.split x BL = ps at BV
   match ps, BV with
   | n :: d :: r :: h :: hs, _ => exact ⟨n, d, r, h, hs, rfl⟩
   | [], f => exact absurd (by decide) f
   | [_], f => exact absurd (by simp) f
   | [_, _], f => exact absurd (by simp) f
   | [_, _, _], f => exact absurd (by simp) f
  have lb := HK e
  have ml := qB (z := x) s1
  rw [e] at el pl
  have ln := pl n (by simp)
  have ld := pl d (by simp)
  have lr := pl r (by simp)
  have lh : (Txt.join BL (h :: hs)).length ≤ x.length := by
   have h1 := (mP s1 (h :: hs)).2 (by simp)
   rw [e, cS, cS, cS, ← h1] at ml
   omega
  have no : ∀ H', aG H H' → fO x = none → Q .aZ H' := fun H' s' hn => q .aZ H' s' (by rw [hn]; rfl)
  refine ⟨_, aX.of el, oA (by simp only [List.map_cons, List.length_cons]; omega) ⟨_, aX.of el, _, L3, n, rfl, by omega, fun H2 s2 => ⟨_, rfl, ?_⟩⟩⟩
  cases hn : bT n with
  | false =>
   refine eX (no H2 (s1'.trans s2) ?_)
   rw [lb]
   cases gN d with
   | none => rfl
   | some k =>
    dsimp only
    rw [if_neg]
    unfold Lt.ok
    rw [hn, Bool.false_and]; exact Bool.false_ne_true
  | true =>
  have s2' := s1'.trans s2
  have el2 := s2 _ _ el
  refine dO ⟨_, aX.of el2, _, bI (j := 1) rfl, d, rfl, by omega, fun H3 s3 => ⟨_, rfl, ?_⟩⟩
  cases hd : yR d with
  | false =>
   refine eX (no H3 (s2'.trans s3) ?_)
   rw [lb]
   cases hk : gN d with
   | none => rfl
   | some k =>
    dsimp only
    rw [if_neg]
    unfold Lt.ok
    rw [NG hd hk, Bool.false_and, Bool.and_false]; exact Bool.false_ne_true
  | true =>
  obtain ⟨k, hk, hik, hdv, l8⟩ := KJ hd
  rw [hk] at lb
  dsimp only at lb
  have s3' := s2'.trans s3
  have el3 := s3 _ _ el2
  refine dO ?_
  refine aH ?_; walk_at "vc0"
  refine ⟨Nat.zero_le _, fun p hp => ⟨_, aX.of (by rw [aL (aF el3 hp)]; exact el3), fun p2 hp2 => ?_⟩⟩
  have s4 := (aG.upd (o := .lst []) hp).trans (aG.upd (o := .lst (bZ (List.map V.str (n :: d :: r :: h :: hs)) (some 3) none)) hp2)
  have ep : upd (upd H3 p (.lst [])) p2 (.lst (bZ (List.map V.str (n :: d :: r :: h :: hs)) (some 3) none)) p = some (.lst []) := by rw [aL (aF aB hp2)]; exact aB
  have ep2 : upd (upd H3 p (.lst [])) p2 (.lst (bZ (List.map V.str (n :: d :: r :: h :: hs)) (some 3) none)) p2 = some (.lst ((h :: hs).map V.str)) := by rw [aB, show bZ (List.map V.str (n :: d :: r :: h :: hs)) (some (3 : Int)) none = _ from vA 3]; rfl
  generalize upd (upd H3 p (.lst [])) p2 (.lst (bZ (List.map V.str (n :: d :: r :: h :: hs)) (some 3) none)) = H4 at s4 ep ep2
  have s4' := s3'.trans s4
  have el4 := s4 _ _ el3
  refine ⟨h :: hs, aX.of ep2, ?_, ?_⟩
  ·have hmu := (mP s1 (h :: hs)).2 (by simp)
   have : mu (h :: hs) ≤ x.length + 1 := by rw [e, cS, cS, cS] at ml; omega
   have e1 : (List.map (fun x => x.length) (h :: hs)).sum + (h :: hs).length * (Str.ofString " ").length = mu (h :: hs) := by
    rw [s1, Nat.mul_one]
    generalize h :: hs = zs
    induction zs with
    | nil => rfl
    | cons z zs ih => rw [cS, ← ih, List.map_cons, List.sum_cons, List.length_cons]; omega
   rw [e1]; omega
  generalize Txt.join BL (h :: hs) = hd at lh lb
  have row : ∀ (D : Ends), (∀ a H5, aG H4 H5 → H5 a = some (.lst ((iS r).map V.str)) → D.nx [some (.str x), some (.ref l), some (.ref a), some (.str hd)] H5) → zG (lE (pV PX (pV (oN K) (i8 1) (tC (V.int 2))) (tC (V.str (Str.ofString "-"))))) (oR (HM K "str" jG (pV (oN K) (i8 1) (tC (V.int 2))) (dH (tC (V.str (Str.ofString ","))) jN)) (hX 2)) pD D [some (.str x), some (.ref l), some (.ref p), some (.str hd)] H4 := by
   intro D k
   walk_at "vc1"
   refine ⟨_, aX.of el4, _, bI (j := 2) rfl, rfl, ?_⟩
   by_cases g : r = Str.ofString "-"
   ·rw [decide_eq_true (by rw [g])]
    refine dO (k p H4 (aG.refl _) ?_)
    rw [ep]; unfold iS; rw [if_pos g]; rfl
   ·rw [decide_eq_false (fun z => g (V.str.inj z))]
    refine eX (iX ?_)
    walk_at "vc3"
    refine ⟨_, aX.of el4, _, bI (j := 2) rfl, trivial, fT (by rw [P9]; decide) (by omega) fun l5 hl5 => k l5 _ (aG.upd hl5) ?_⟩
    rw [aB]; unfold iS; rw [if_neg g]
  refine aH (row _ fun a H5 s5 ha => ?_)
  have s5' := s4'.trans s5
  have el5 := s5 _ _ el4
  have rl : (iS r).length ≤ 30000 ∧ ∀ z ∈ iS r, z.length ≤ 20000 := by
   unfold iS
   split
   ·exact ⟨Nat.zero_le _, fun _ h => nomatch h⟩
   ·exact ⟨Nat.le_trans (fQ r CM (by rw [P9]; decide)) (by omega), fun z hz => Nat.le_trans (eB r CM z hz) (by omega)⟩
  generalize iS r = row at ha rl lb
  dsimp only
  refine aH ?_; walk_at "vc0"
  have nol : Lt.ok ⟨n, k, hd, row⟩ = (gU (.str hd) && (!decide (9 < (row.length : Int)) && row.all bT)) := by
   unfold Lt.ok
   rw [hn, hdv, Bool.true_and, Bool.true_and]
  rw [nol] at lb
  have rml : (row.map V.str).length = row.length := List.length_map ..
  refine ⟨_, aX.of ha, gG (fun g => no H5 s5' ?_) (fun g => ?_)⟩
  ·rw [lb, decide_eq_true (by rw [rml] at g; exact g), Bool.not_true, Bool.false_and, Bool.and_false]; rfl
  rw [decide_eq_false (by rw [rml] at g; exact g), Bool.not_false, Bool.true_and] at lb
  refine ⟨_, rfl, a, rfl, ⟨_, aX.of ha⟩, fun l6 hl6 => DK (aX.of ha) (row.map fun z => V.bl (bT z)) (by rw [List.length_map, List.length_map]) (fun σ => ∃ o, σ = [o]) ⟨_, rfl⟩ hl6 (o4 (by omega)) ?_ ?_⟩
  ·rintro i y z σ H6 zs N hy hz' ⟨o, rfl⟩ s6 e6 hz hN
   obtain ⟨w', hw, rfl⟩ := strAt hy
   rw [List.getElem?_map, hw] at hz'
   cases hz'
   unfold cM
   walk_at "vc2"
   exact ⟨w', rfl, rl.2 w' (List.mem_of_getElem? hw), fun H7 s7 => ⟨zs, s7 _ _ e6, hz, hN _ _ ⟨_, rfl⟩ (fun b o h n => by rw [aL n]; exact s7 b o h) aB⟩⟩
  intro H6 s6 e6
  refine ⟨l6, rfl, row.map bT, aX.of (by rw [e6]; unfold lK; rw [List.map_map]; rfl), ?_⟩
  have s6' := s5'.trans s6
  have el6 := s6 _ _ el5
  have ha6 := s6 _ _ ha
  rw [List.all_map, show row.all (id ∘ bT) = row.all bT from rfl]
  cases hra : row.all bT with
  | false =>
   refine eX (no H6 s6' ?_)
   rw [lb, hra, Bool.and_false]; rfl
  | true =>
  rw [hra, Bool.and_true] at lb
  refine dO ?_
  refine aH ?_; walk_at "vc0"
  refine ⟨cF (by omega), gG (fun g1 => no H6 s6' ?_) (fun g1 => ?_)⟩
  ·rw [lb, show gU (.str hd) = false by show (!decide (60 < (hd.length : Int)) && _) = false; rw [decide_eq_true g1]; rfl]; rfl
  have hv : gU (.str hd) = hd.cps.toList.all JH := by show (!decide (60 < (hd.length : Int)) && _) = _; rw [decide_eq_false g1]; rfl
  rw [hv] at lb
  refine ⟨_, rfl, hd, rfl, fun l7 hl7 => gS hd (fun _ => true) (fun v => match v with | .str z => .bl ((!decide (z.cps.toList < (Str.ofString " ").cps.toList)) && (!decide ((Str.ofString "~").cps.toList < z.cps.toList))) | v => v) (fun σ => ∃ o, σ = [o]) ⟨_, rfl⟩ (o4 (by omega)) ?_ ?_⟩
  ·rintro c σ xs N hc hz ⟨o, rfl⟩ hN
   have h := hN [some (.str ⟨#[c]⟩)] ⟨_, rfl⟩
   dsimp only at h
   rw [if_pos rfl] at h
   unfold cM
   walk_at "vc2"
   refine OE (fun g => ⟨xs, aB, hz, ?_⟩) (fun g => ⟨xs, aB, hz, ?_⟩)
   ·rw [fY]; rw [g, Bool.true_and] at h; exact h
   ·rw [fY]; rw [Bool.not_eq_true] at g; rw [g, Bool.false_and] at h; exact h
  refine ⟨l7, rfl, hd.cps.toList.map fun c => JH c, aX.of ?_, ?_⟩
  ·rw [aB]
   refine congrArg (fun z => some (HO.lst z)) ?_
   rw [List.filter_eq_self.mpr (fun _ _ => rfl), List.map_map]
   unfold lK
   rw [List.map_map]
   rfl
  rw [HA]
  have s7 := aG.upd (o := .lst ((((hd.cps.toList.map fun c => V.str ⟨#[c]⟩).filter fun _ => true).map fun v => match v with | .str z => .bl ((!decide (z.cps.toList < (Str.ofString " ").cps.toList)) && (!decide ((Str.ofString "~").cps.toList < z.cps.toList))) | v => v))) hl7
  generalize upd H6 l7 _ = H7 at s7
  have s7' := s6'.trans s7
  cases bY : hd.cps.toList.all JH with
  | false =>
   refine eX (no H7 s7' ?_)
   rw [lb, bY]; rfl
  | true =>
  rw [bY] at lb
  refine dO ?_
  have el7 := s7 _ _ el6
  have ha7 := s7 _ _ ha6
  refine ⟨_, aX.of el7, _, L3, _, aX.of el7, _, bI (j := 1) rfl, d, rfl, by omega, k, hik, _, aX.of ha7, fun t ht => ⟨by decide, fun b hb => q _ _ ((s7'.trans (aG.upd ht)).trans (aG.upd hb)) ?_⟩⟩
  rw [lb, if_pos rfl]
  exact .tup aB (.cons (.str _) (.cons (.int _) (.cons (.str _) (.cons (.tup (by rw [aL (aF aB hb)]; exact aB) hW.strs) .nil))))
theorem cG : aW ["_law_letter_here", "_law_one", "_law_name_here", "_law_found", "_law_head", "_law_size", "_law_word", "_law_text"] ["_law_letter_here", "_law_one"] (aC cQ) := ⟨rfl, rfl, rfl, by decide +kernel, rfl, by decide +kernel, by decide +kernel⟩
set_option maxHeartbeats 4000000 in
theorem t6 (T : Txt K mg fs fds tc u cl fI fdI) (G_law_written : aT P w K mg base dF 1 (fs 22) (fds 22) ["_law_letter_here"] OG) : aT P w K mg base dF 2 (fs 32) (fds 32) ["_law_letter_here", "_law_one"] B4 := by
 refine T.nU.F.ok cG (fun vs H Q E h => ?_) (fun cdv A outer s H vs Q E hr h => ?_)
 ·obtain ⟨v, x, y, rfl, hL, hy, q⟩ := h
  rfl
 ·obtain ⟨v, x, y, rfl, hL, hy, q⟩ := h
  refine boxed ⟨_, (aV (sw (lN (i := 2) (j := 3) rfl cG.nd rfl rfl (by decide) rfl rfl (aA (bR j9 (bH aN (bC (CF K) (pv 0) aE (fun _ _ => rfl)) aM) cH (bS aE)) (aA (d7 aD) aD)) rfl))
   (aV (lO (i := 4) cG.nd rfl (Or.inl rfl) (w8 j9 (bD aN (ew (bC (CF K) (pv 0) aE (fun _ _ => rfl))) (bD tU (ew aM) (ew aE))) cH (bS aE)))
   (aV (kO K PassesOwn.never rfl (iO (bK (ew aE) (bK (ew aE) (bK (ew aE) (bK (ew aE) bO))))) (aY (i := 5) cG.nd rfl (Or.inl rfl)) (cD (gO (jB K (ew (pv 3)) (FI (MI T.gA G_law_written hr (by decide) rfl (kG (bD BM (ew (bR BG (pv 0) cH (bS aE))) (ew (iE (aA (bR BG (bH BM (bC (CF K) (pv 0) aE (fun _ _ => rfl)) (bH JZ (iE (aA (pv 1) aD)) aE)) cH (bS (pv 5))) aD)))) bO)) bO)))))
   (aV (kO K PassesOwn.never rfl (iO (zX (ew (pv 2)) (kG (bD aN (ew (pv 2)) (ew aM)) (PB (w8 j9 (ew (pv 2)) cH (bS aE)) (bK (ew aM) (bK (ew aM) (bK (ew aM) bO))))))) (aY (i := 6) cG.nd rfl (Or.inl rfl)) (cD (gO (jB K (ew (pv 3)) (kG (bD aN (bD aN (ew (pv 6)) (ew aM)) (ew (pv 4))) bO)))))
   (aV (kO K PassesOwn.never rfl (iO (bK (ew aM) (bK (ew aM) (bK (ew aM) (bK (ew aM) (bK (ew aM) (bK (ew aM) (bK (ew aM) (bK (ew aM) (kG (bD tU (ew aM) (ew aE)) (kG (bD tU (ew aM) (ew aE)) (bK (ew aM) (bK (ew aM) bO))))))))))))) (aY (i := 6) cG.nd rfl (Or.inl rfl)) (cD (gO (jB K (ew (pv 3)) (kG (bD aN (bD aN (bD aN (bD aN (bD aN (bD aN (ew (pv 2)) (ew aM)) (ew (pv 6))) (ew aM)) (ew (pv 1))) (ew aM)) (ew (bC (CF K) (pv 0) aE (fun _ _ => rfl)))) bO)))))
   (aV (kO K PassesOwn.never rfl (iO (kG (bD aN (ew (pv 4)) (ew aM)) (zX (ew (pv 4)) (bK (ew aM) (bK (ew aM) (kG (bD aN (ew (bR j9 (pv 4) cH (bS aE))) (ew aM)) bO)))))) (aY (i := 7) cG.nd rfl (Or.inl rfl)) (cD (gO (jB K (ew (pv 3)) (kG (bD aN (bD aN (ew (pv 2)) (ew aM)) (ew (pv 7))) bO)))))
   (aV (kO K PassesOwn.never rfl (iO (bK (ew aM) (bK (ew aM) (bK (ew aM) (bK (ew aM) (bK (ew aM) (bK (ew aM) (bK (ew aM) bO)))))))) (aY (i := 7) cG.nd rfl (Or.inl rfl)) (aV (gO (jB K (ew (pv 3)) (kG (bD aN (bD aN (bD aN (ew (pv 2)) (ew aM)) (ew (pv 7))) (ew aM)) bO)))
   (aV (gO (jB K (ew (pv 3)) (kG (bD aN (bD aN (bD aN (bD aN (bD aN (ew (pv 2)) (ew aM)) (ew (pv 1))) (ew (pv 7))) (ew (pv 1))) (ew aM)) bO)))
   (cD (gO (jB K (ew (pv 3)) (kG (bD aN (bD aN (bD aN (bD aN (ew (pv 2)) (ew aM)) (ew (pv 7))) (ew (pv 1))) (ew aM)) bO)))))))
   (aV (kO K PassesOwn.never rfl (iO (bK (ew aM) (bK (ew aM) (bK (ew aM) (bK (ew aM) (bK (ew aM) (bK (ew aM) bO))))))) (aY (i := 7) cG.nd rfl (Or.inl rfl)) (aV (gO (jB K (ew (pv 3)) (kG (bD aN (ew (pv 2)) (ew (pv 7))) bO)))
   (cD (gO (jB K (ew (pv 3)) (kG (bD aN (bD aN (ew aM) (ew (pv 2))) (ew (pv 7))) bO))))))
   (cD (gH (ew (pv 3)))))))))))), ?_⟩
  have hw := Lt.Ok.w hL.ok
  obtain ⟨yl1, yl2⟩ := gT hy
  obtain ⟨a, r, rfl, ha, hr2⟩ := IG hL.tr
  obtain ⟨xn, xd, xh, row⟩ := x
  dsimp only at ha hr2
  have nl : xn.length ≤ 12 := hw.nm
  have hl : xh.length ≤ 60 := hw.hd
  have ht := dZ.of (K := K) ha
  have l12 : (Str.ofString "abcdefghijkl").length = 12 := by decide +kernel
  refine aH ?_; walk_at "vc0"
  refine ⟨_, ht, _, L3, _, rfl, cF (by rw [l12]; omega), cF (by rw [bN, l12]; omega), Nat.zero_le _, fun l hl0 => ?_⟩
  have nh : (Txt.slice (xn ++ Str.ofString "abcdefghijkl") none (some 12)).length ≤ 24 := Nat.le_trans (Txt.slice_le _ _ _) (by rw [bN, l12]; omega)
  generalize Txt.slice (xn ++ Str.ofString "abcdefghijkl") none (some 12) = nm at nh
  have E0 : Ed H l 0 (upd H l (.lst [])) := ⟨fun b o nb h => by rw [aL nb]; exact h, [], aB, (fun _ h => nomatch h), Nat.le_refl _⟩
  have s0 : aG H (upd H l (.lst [])) := aG.upd hl0
  generalize upd H l (.lst []) = H1 at E0 s0
  have nal : a ≠ l := aF ha hl0
  have nrl : r ≠ l := aF hr2 hl0
  refine aH ?_; walk_at "vc0"
  refine ⟨_, dZ.of (s0 _ _ ha), _, bI (j := 2) rfl, by decide, by decide, by decide +kernel, fun hx hxl _ => ⟨xh, rfl, cF (by omega), cF (by rw [bN]; omega), ?_⟩⟩
  have hhl : (Txt.slice (xh ++ hx) none (some 60)).length ≤ 120 := Nat.le_trans (Txt.slice_le _ _ _) (by rw [bN]; omega)
  generalize Txt.slice (xh ++ hx) none (some 60) = hd at hhl
  have ha1 := s0 _ _ ha
  have hr1 := s0 _ _ hr2
  refine aH (m3 fun F hF => ?_)
  walk_at "vc0"
  refine ⟨cF (by decide), hF _ _ (nK (fun σ => ∃ o5 o6 o7, σ = [some (.ref a), some (.str y), some (.str nm), some (.ref l), some (.str hd), o5, o6, o7]) 1 ⟨_, _, _, rfl⟩ E0 ?_ ?_)⟩
  ·rintro B' i x σ H' hx hi sB ⟨o5, o6, o7, rfl⟩ E'
   obtain ⟨k, rfl, k1⟩ : ∃ k : Nat, x = .int (k : Int) ∧ k ≤ 10 := by
    simp only [List.mem_cons, List.mem_nil_iff, or_false] at hx
    rcases hx with rfl | rfl | rfl | rfl
    ·exact ⟨0, rfl, by decide⟩
    ·exact ⟨1, rfl, by decide⟩
    ·exact ⟨9, rfl, by decide⟩
    ·exact ⟨10, rfl, by decide⟩
   have i4 : i < 4 := hi
   have ha2 := E'.1 _ _ nal (sB _ _ ha1)
   have hr2' := E'.1 _ _ nrl (sB _ _ hr1)
   obtain ⟨zs0, el0, _⟩ := id E'.2
   walk_at "vc0"
   have c3 : bZ [V.str xn, V.int xd, V.str xh, V.ref r] none (some 3) = [V.str xn, V.int xd, V.str xh] := rG 3
   have lr : row.length ≤ 10 := hw.lr
   refine ⟨.inl ⟨_, aX.of el0⟩, _, ha2, fun p1 K1 t1 b1 => ⟨_, dZ.of (t1 _ _ ha2), _, bI (j := 3) rfl, cF (by decide), fun p2 n2 => ⟨_, aB, by decide, by decide, fun p3 K3 t3 b3 => ⟨r, rfl, _, t3 _ _ (aG.upd n2 _ _ (t1 _ _ hr2')), _, b3, cF (by rw [List.length_map, List.length_replicate]; show row.length + 10 ≤ _; omega), fun p4 K4 t4 b4 => ⟨_, b4, fun p5 K5 t5 b5 => ⟨cF (by decide), fun p6 n6 => ?_⟩⟩⟩⟩⟩⟩
   rw [c3] at b1
   have eW : bZ (row.map V.str ++ List.replicate (Int.toNat 10) (V.str y)) none (some (k : Int)) = ((row ++ List.replicate 10 y).take k).map V.str := by
    rw [rG, List.map_take, List.map_append, List.map_replicate]; rfl
   rw [eW] at b5
   have ok' : R3 ⟨xn, xd, xh, (row ++ List.replicate 10 y).take k⟩ := ⟨hw.nm, hw.d0, hw.d1, hw.hd, by rw [List.length_take]; omega, fun z hz => by
    rcases List.mem_append.mp (List.mem_of_mem_take hz) with h | h
    ·exact hw.xX z h
    ·rw [List.eq_of_mem_replicate h]; exact hy⟩
   generalize (row ++ List.replicate 10 y).take k = row' at b5 ok'
   have t15 := ((((aG.upd (o := .tup [V.str y]) n2).trans t3).trans t4).trans t5).trans (aG.upd (o := .tup [.ref p5]) n6)
   have tA := t1.trans t15
   refine ⟨_, t15 _ _ b1, _, aB, cF (show 4 ≤ 16777216 by decide), fun p7 K7 t7 b7 => ⟨_, ⟨xn, xd, xh, row'⟩, rfl, .tup b7 (.cons (.str _) (.cons (.int _) (.cons (.str _) (.cons (.tup (t7 _ _ (aG.upd n6 _ _ b5)) hW.strs) .nil)))), ok', fun K8 txl t8 => ?_⟩⟩
   exact Ed.app (z := Lt.T ⟨xn, xd, xh, row'⟩) (Q := fun H9 => (∃ x, o7 = x) ∧ Ed B' l (0 + (i + 1) * 1) H9) (E'.same ((tA.trans t7).trans t8)) (by omega) (by omega) (by omega) fun H9 e9 => ⟨⟨_, rfl⟩, e9⟩
  clear hF
  clear F
  rintro σ H2 ⟨o5, o6, o7, rfl⟩ E2
  have ha2 := E2.1 _ _ nal ha
  dsimp only
  have E2 : Ed H l 4 H2 := E2
  refine aH (m3 fun F hF => ?_)
  walk_at "vc0"
  have lm : (Str.ofString "m").length = 1 := by decide +kernel
  refine ⟨cF (by omega), cF (by omega), cF (by decide), hF _ _ (nK (fun σ => ∃ o5 o6 o7, σ = [some (.ref a), some (.str y), some (.str nm), some (.ref l), some (.str hd), o5, o6, o7]) 1 ⟨_, _, _, rfl⟩ E2 ?_ ?_)⟩
  ·rintro B' i x σ H' hx hi sB ⟨o5, o6, o7, rfl⟩ E'
   obtain ⟨z, rfl, zl⟩ : ∃ z : Str, x = .str z ∧ z.length ≤ 26 := by
    simp only [List.mem_cons, List.mem_nil_iff, or_false] at hx
    rcases hx with rfl | rfl | rfl | rfl | rfl | rfl
    ·exact ⟨_, rfl, by omega⟩
    ·exact ⟨_, rfl, by rw [bN]; omega⟩
    ·exact ⟨_, rfl, Nat.le_trans (Txt.slice_le _ _ _) (by omega)⟩
    all_goals exact ⟨_, rfl, by decide +kernel⟩
   have i6 : i < 6 := hi
   obtain ⟨zs0, el0, _⟩ := id E'.2
   walk_at "vc0"
   have l5 : (Str.ofString " 0 - ").length = 5 := by decide +kernel
   exact ⟨.inl ⟨_, aX.of el0⟩, cF (by omega), cF (by rw [bN]; omega), Ed.app (z := z ++ Str.ofString " 0 - " ++ hd) (Q := fun H9 => (∃ x, o7 = x) ∧ Ed B' l (4 + (i + 1) * 1) H9) E' (by omega) (by rw [bN, bN]; omega) (by omega) fun H9 e9 => ⟨⟨_, rfl⟩, e9⟩⟩
  clear hF
  clear F
  rintro σ H3 ⟨o5', o6', o7', rfl⟩ E3
  have E3 : Ed H l 10 H3 := E3
  have ha3 := E3.1 _ _ nal ha
  dsimp only
  refine aH (m3 fun F hF => ?_)
  walk_at "vc0"
  refine ⟨by decide, by decide, by decide +kernel, fun w7 hw7 _ => ⟨by decide, by decide, by decide +kernel, fun w0 hw0 _ => ⟨cF (by decide), hF _ _ (nK (fun σ => ∃ o5 o6 o7, σ = [some (.ref a), some (.str y), some (.str nm), some (.ref l), some (.str hd), o5, o6, o7]) 1 ⟨_, _, _, rfl⟩ E3 ?_ ?_)⟩⟩⟩
  ·rintro B' i x σ H' hx hi sB ⟨o5, o6, o7, rfl⟩ E'
   obtain ⟨z, rfl, zl⟩ : ∃ z : Str, x = .str z ∧ z.length ≤ 4400 := by
    simp only [List.mem_cons, List.mem_nil_iff, or_false] at hx
    rcases hx with rfl | rfl | rfl | rfl | rfl | rfl | rfl | rfl | rfl | rfl | rfl | rfl
    case inr.inr.inr.inr.inr.inr.inr.inr.inl => exact ⟨_, rfl, by omega⟩
    case inr.inr.inr.inr.inr.inr.inr.inr.inr.inl => exact ⟨_, rfl, by omega⟩
    all_goals exact ⟨_, rfl, by decide +kernel⟩
   have i6 : i < 12 := hi
   obtain ⟨zs0, el0, _⟩ := id E'.2
   have ha4 := E'.1 _ _ nal (sB _ _ ha3)
   walk_at "vc0"
   have lb := s1
   exact ⟨.inl ⟨_, aX.of el0⟩, cF (by rw [s1]; omega), cF (by simp only [bN, s1]; omega), cF (by simp only [bN, s1]; omega), cF (by simp only [bN, s1]; omega), cF (by simp only [bN, s1]; omega), _, dZ.of ha4, _, bI (j := 2) rfl, xh, rfl, cF (by simp only [bN, s1]; omega),
    Ed.app (z := nm ++ Str.ofString " " ++ z ++ Str.ofString " " ++ y ++ Str.ofString " " ++ xh) (Q := fun H9 => (∃ x, o7 = x) ∧ Ed B' l (10 + (i + 1) * 1) H9) E' (by omega) (by simp only [bN, s1]; omega) (by omega) fun H9 e9 => ⟨⟨_, rfl⟩, e9⟩⟩
  clear hF
  clear F
  rintro σ H4 ⟨o5', o6', o7', rfl⟩ E4
  have E4 : Ed H l 22 H4 := E4
  dsimp only
  refine aH (m3 fun F hF => ?_)
  walk_at "vc0"
  have lx : (Str.ofString "x").length = 1 := by decide +kernel
  have hd59 : (Txt.slice hd none (some 59)).length ≤ 120 := Nat.le_trans (Txt.slice_le _ _ _) hhl
  refine ⟨cF (by omega), cF (by omega), cF (by rw [s1]; omega), cF (by decide), hF _ _ (nK (fun σ => ∃ o5 o6 o7, σ = [some (.ref a), some (.str y), some (.str nm), some (.ref l), some (.str hd), o5, o6, o7]) 1 ⟨_, _, _, rfl⟩ E4 ?_ ?_)⟩
  ·rintro B' i x σ H' hx hi sB ⟨o5, o6, o7, rfl⟩ E'
   obtain ⟨z, rfl, zl⟩ : ∃ z : Str, x = .str z ∧ z.length ≤ 130 := by
    simp only [List.mem_cons, List.mem_nil_iff, or_false] at hx
    rcases hx with rfl | rfl | rfl | rfl | rfl
    ·exact ⟨_, rfl, by rw [bN]; omega⟩
    ·exact ⟨_, rfl, by omega⟩
    ·exact ⟨_, rfl, by decide +kernel⟩
    ·exact ⟨_, rfl, by decide +kernel⟩
    ·exact ⟨_, rfl, by rw [bN, s1]; omega⟩
   have i6 : i < 5 := hi
   obtain ⟨zs0, el0, _⟩ := id E'.2
   walk_at "vc0"
   have l5 : (Str.ofString " 7 - ").length = 5 := by decide +kernel
   exact ⟨.inl ⟨_, aX.of el0⟩, cF (by omega), cF (by rw [bN]; omega), Ed.app (z := nm ++ Str.ofString " 7 - " ++ z) (Q := fun H9 => (∃ x, some (V.str z) = x) ∧ Ed B' l (22 + (i + 1) * 1) H9) E' (by omega) (by rw [bN, bN]; omega) (by omega) fun H9 e9 => ⟨⟨_, rfl⟩, e9⟩⟩
  clear hF
  clear F
  rintro σ H5 ⟨o5', o6', o7', rfl⟩ E5
  have E5 : Ed H l 27 H5 := E5
  dsimp only
  refine aH (m3 fun F hF => ?_)
  walk_at "vc0"
  refine ⟨cF (by decide), hF _ _ (nK (fun σ => ∃ o5 o6 o7, σ = [some (.ref a), some (.str y), some (.str nm), some (.ref l), some (.str hd), o5, o6, o7]) 3 ⟨_, _, _, rfl⟩ E5 ?_ ?_)⟩
  ·rintro B' i x σ H' hx hi sB ⟨o5, o6, o7, rfl⟩ E'
   obtain ⟨z, rfl, zl⟩ : ∃ z : Str, x = .str z ∧ z.length ≤ 10 := by
    simp only [List.mem_cons, List.mem_nil_iff, or_false] at hx
    rcases hx with rfl | rfl | rfl | rfl | rfl | rfl | rfl
    all_goals exact ⟨_, rfl, by decide +kernel⟩
   have i6 : i < 7 := hi
   obtain ⟨zs0, el0, _⟩ := id E'.2
   have l5 : (Str.ofString " 7 ").length = 3 := by decide +kernel
   have l2' : (Str.ofString " x").length = 2 := by decide +kernel
   refine aH ?_; walk_at "vc0"
   obtain ⟨xs, ex, xl, e1⟩ := Ed.O3 (nm ++ Str.ofString " 7 " ++ z ++ Str.ofString " x") E' (by omega) (by simp only [bN, l5, l2']; omega)
   refine ⟨.inl ⟨_, aX.of el0⟩, cF (by simp only [bN, l5, l2']; omega), cF (by simp only [bN, l5, l2']; omega), cF (by simp only [bN, l5, l2']; omega), xs, ex, xl, ?_⟩
   obtain ⟨zs1, el1, _⟩ := id e1.2
   generalize upd H' l (.lst (xs ++ [V.str (nm ++ Str.ofString " 7 " ++ z ++ Str.ofString " x")])) = Ha at e1 el1
   refine aH ?_; walk_at "vc0"
   obtain ⟨xs, ex, xl, e2⟩ := Ed.O3 (nm ++ Str.ofString " 7 " ++ y ++ z ++ y ++ Str.ofString " x") e1 (by omega) (by simp only [bN, l5, l2']; omega)
   refine ⟨.inl ⟨_, aX.of el1⟩, cF (by simp only [bN, l5, l2']; omega), cF (by simp only [bN, l5, l2']; omega), cF (by simp only [bN, l5, l2']; omega), cF (by simp only [bN, l5, l2']; omega), cF (by simp only [bN, l5, l2']; omega), xs, ex, xl, ?_⟩
   obtain ⟨zs2, el2, _⟩ := id e2.2
   generalize upd Ha l (.lst (xs ++ [V.str (nm ++ Str.ofString " 7 " ++ y ++ z ++ y ++ Str.ofString " x")])) = Hb at e2 el2
   exact ⟨.inl ⟨_, aX.of el2⟩, cF (by simp only [bN, l5, l2']; omega), cF (by simp only [bN, l5, l2']; omega), cF (by simp only [bN, l5, l2']; omega), cF (by simp only [bN, l5, l2']; omega),
    Ed.app (z := nm ++ Str.ofString " 7 " ++ z ++ y ++ Str.ofString " x") (Q := fun H9 => (∃ x, some (V.str z) = x) ∧ Ed B' l (27 + (i + 1) * 3) H9) e2 (by omega) (by simp only [bN, l5, l2']; omega) (by omega) fun H9 e9 => ⟨⟨_, rfl⟩, e9⟩⟩
  clear hF
  clear F
  rintro σ H6 ⟨o5', o6', o7', rfl⟩ E6
  have E6 : Ed H l 48 H6 := E6
  dsimp only
  refine aH (m3 fun F hF => ?_)
  walk_at "vc0"
  refine ⟨cF (by decide), hF _ _ (nK (fun σ => ∃ o5 o6 o7, σ = [some (.ref a), some (.str y), some (.str nm), some (.ref l), some (.str hd), o5, o6, o7]) 2 ⟨_, _, _, rfl⟩ E6 ?_ ?_)⟩
  ·rintro B' i x σ H' hx hi sB ⟨o5, o6, o7, rfl⟩ E'
   obtain ⟨z, rfl, zl⟩ : ∃ z : Str, x = .str z ∧ z.length ≤ 10 := by
    simp only [List.mem_cons, List.mem_nil_iff, or_false] at hx
    rcases hx with rfl | rfl | rfl | rfl | rfl | rfl
    all_goals exact ⟨_, rfl, by decide +kernel⟩
   have i6 : i < 6 := hi
   obtain ⟨zs0, el0, _⟩ := id E'.2
   refine aH ?_; walk_at "vc0"
   obtain ⟨xs, ex, xl, e1⟩ := Ed.O3 (nm ++ z) E' (by omega) (by simp only [bN]; omega)
   refine ⟨.inl ⟨_, aX.of el0⟩, cF (by omega), xs, ex, xl, .inl ⟨_, aX.of aB⟩, cF (by rw [s1]; omega), cF (by rw [bN, s1]; omega), ?_⟩
   exact Ed.app (z := Str.ofString " " ++ nm ++ z) (Q := fun H9 => (∃ x, some (V.str z) = x) ∧ Ed B' l (48 + (i + 1) * 2) H9) e1 (by omega) (by rw [bN, bN, s1]; omega) (by omega) fun H9 e9 => ⟨⟨_, rfl⟩, e9⟩
  clear hF
  clear F
  rintro σ H7 ⟨o5', o6', o7', rfl⟩ E7
  have E7 : Ed H l 60 H7 := E7
  dsimp only
  obtain ⟨zs, el, zm, zl⟩ := E7.2
  walk_at "vc0"
  exact q l H7 zs (fun b o hb => E7.1 b o (aF hb hl0) hb) hl0 el zm (by omega)
theorem uN : aW ["thing"] ["thing"] (aC cT) := ⟨rfl, rfl, rfl, by decide +kernel, rfl, by decide +kernel, by decide +kernel⟩
set_option maxHeartbeats 4000000 in
theorem vH (T : Txt K mg fs fds tc u cl fI fdI) (G_is_name : aT P w K mg base dF 1 (fs 0) (fds 0) ["thing"] uC) (G_is_day : aT P w K mg base dF 2 (fs 2) (fds 2) ["thing"] FT) (G_is_head : aT P w K mg base dF 1 (fs 3) (fds 3) ["thing"] CP) (G_is_row : aT P w K mg base dF 2 (fs 4) (fds 4) ["thing"] (RY m9 1)) : aT P w K mg base dF 3 (fs 5) (fds 5) ["thing"] (RY fW 2) := by
 refine T.oF.F.ok uN (fun vs H Q E h => ?_) (fun cdv A outer s H vs Q E hr h => ?_)
 ·obtain ⟨v, rfl, hA, q⟩ := h
  rfl
 ·obtain ⟨v, rfl, hA, q⟩ := h
  refine ⟨_, (aJ (dI (PW.pt (gY (fE (dM (aP (jP K) (by rfl) T.aQ aR (aA (pv 0) (aA (cJ (v := .ty "tuple") rfl T.d8 eR rfl) aD))))) (fS (aS yN (aP (JR K) (by rfl) T.d3 dE (aA (pv 0) aD)) aE (bA _))))) (aO (aU kX)) bJ)
   (aO (aU (g7 (bB T.m6 G_is_name hr (by decide) rfl (aA (bC (CF K) (pv 0) aE (fun _ _ => rfl)) aD)) (g7 (bB T.wJ G_is_day hr (by decide) rfl (aA (bC (CF K) (pv 0) aE (fun _ _ => rfl)) aD)) (g7 (bB T.sY G_is_head hr (by decide) rfl (aA (bC (CF K) (pv 0) aE (fun _ _ => rfl)) aD)) (jV (bB T.xU G_is_row hr (by decide) rfl (aA (bC (CF K) (pv 0) aE (fun _ _ => rfl)) aD))))))))), ?_⟩
  obtain ⟨⟨k, hT⟩, hx⟩ := hA
  refine aH ?_; walk_at "vc0"
  refine ⟨_, hT.is.ty, _, JA k, ?_⟩
  rcases hT.tup with ⟨rfl, a, xs, rfl, ha, et⟩ | ⟨n, et⟩
  ·rw [decide_eq_true rfl]
   refine dO ?_
   have hx := hx xs et
   walk_at "vc0"
   refine ⟨_, dZ.of ha, rfl, ?_⟩
   by_cases h4 : xs.length = 4
   ·match xs, h4 with
    | [n, d, x, r], _ =>
     have eq : fW H (.ref a) = (fJ n && (jX d && (gU x && m9 H r))) := by unfold fW; rw [et]; rfl
     rw [eq] at q
     obtain ⟨kn, tn⟩ := (hx.2 n (by simp)).tg
     obtain ⟨kd, td⟩ := (hx.2 d (by simp)).tg
     obtain ⟨kx, tx⟩ := (hx.2 x (by simp)).tg
     have tr := hx.2 r (by simp)
     rw [decide_eq_true (show (([n, d, x, r] : List V).length : Int) = 4 from rfl)]
     refine dO ⟨_, dZ.of ha, _, rfl, n, kn, rfl, tn, fun H1 s1 => ⟨_, rfl, ?_⟩⟩
     cases e1 : fJ n with
     | false => rw [e1] at q; exact gL (q H1 s1)
     | true =>
      rw [e1, Bool.true_and] at q
      refine fC ⟨_, (dZ.of ha).same s1, _, rfl, d, kd, rfl, td.same s1, ⟨_, rfl, ?_⟩⟩
      cases e2 : jX d with
      | false => rw [e2] at q; exact gL (q H1 s1)
      | true =>
       rw [e2, Bool.true_and] at q
       refine fC ⟨_, (dZ.of ha).same s1, _, rfl, x, kx, rfl, tx.same s1, fun H2 s2 => ⟨_, rfl, ?_⟩⟩
       cases e3 : gU x with
       | false => rw [e3] at q; exact gL (q H2 (s1.trans s2))
       | true =>
        rw [e3, Bool.true_and] at q
        refine fC ⟨_, (dZ.of ha).same (s1.trans s2), _, rfl, r, rfl, tr.kp (.of (s1.trans s2)), fun H3 s3 => ?_⟩
        rw [LX tr.tg (.of (s1.trans s2))]
        exact q H3 ((s1.trans s2).trans s3)
   ·have eq : fW H (.ref a) = false := by unfold fW; rw [et]; exact zB h4
    rw [eq] at q
    rw [decide_eq_false (show ¬ (xs.length : Int) = 4 by omega)]
    exact eX (q H (aG.refl _))
  ·have eq : fW H v = false := by unfold fW; rw [et]
   rw [eq] at q
   rw [decide_eq_false n]
   exact eX (q H (aG.refl _))
theorem EU : aW ["thing", "row"] ["thing", "row"] (aC fL) := ⟨rfl, rfl, rfl, by decide +kernel, rfl, by decide +kernel, by decide +kernel⟩
set_option maxHeartbeats 4000000 in
theorem DO (T : Txt K mg fs fds tc u cl fI fdI) (G_init : aT P w K mg base dF 1 fI fdI ["self", "row"] (y8 cl))  : aT P w K mg base (vX P w) 3 (fs 10) (fds 10) ["thing", "row"] (tY cl) := by
 refine T.g5.F.SJ EU (fun vs H Q E h => ?_) (fun cdv A outer s H vs Q E hr h => ?_)
 ·obtain ⟨v, k, rfl, q, qe⟩ := h
  rfl
 ·obtain ⟨v, k, rfl, q, qe⟩ := h
  refine ⟨_, (aJ (dI (aS nB (pv 0) eU (bA _)) (aO (wD xW rfl (CC rfl T.pE T.x0 T.S2 T.ft G_init (hr.mono (by decide)) T.bi (aA (pv 1) aD)))) bJ)
   (aO (aU (pv 0)))), ?_⟩
  refine aH ?_; walk_at "vc0"
  by_cases e : v = .aZ
  ·refine nS e ⟨by decide, fun a ha => ⟨a, k, rfl, aB, fun dx hdx => ⟨rfl, cl 0, some dx, aB, ⟨_, _, T.x0⟩, ?_⟩⟩⟩
   obtain ⟨s1, r1⟩ := MN (r := k) ha hdx
   exact qe e a _ s1 r1
  ·exact oA e (q e)
theorem gR : aW ["_law_purse_here", "_law_many", "_law_found", "_law_turn", "_law_name_here"] ["_law_purse_here", "_law_many"] (aC cV) := ⟨rfl, rfl, rfl, by decide +kernel, rfl, by decide +kernel, by decide +kernel⟩
set_option maxHeartbeats 4000000 in
theorem uL (T : Txt K mg fs fds tc u cl fI fdI) (G_law_name : aT P w K mg base dF 2 (fs 16) (fds 16) ["_law_purse_here"] GL) : aT P w K mg base dF 3 (fs 17) (fds 17) ["_law_purse_here", "_law_many"] B1 := by
 refine T.oE.F.ok gR (fun vs H Q E h => ?_) (fun cdv A outer s H vs Q E hr h => ?_)
 ·obtain ⟨p, g, rfl, hp, q⟩ := h
  rfl
 ·obtain ⟨p, g, rfl, hp, q⟩ := h
  refine ⟨_, (aJ (bQ (i := 2) gR.nd rfl (Or.inl rfl) (d7 aD))
   (aJ (iH PassesOwn.never rfl (fR rfl T.fD (aA (pv 1) aD)) (aY (i := 3) gR.nd rfl (Or.inl rfl)) (aJ (bQ (i := 4) gR.nd rfl (Or.inl rfl) (bB T.pL G_law_name hr (by decide) rfl (aA (pv 0) aD)))
   (aO (dI (aS (O8 K) (pv 4) (pv 2) (by rfl)) (aO (gQ (cO K PySem.F.plainAttrs_list PySem.F.slot_list_append PySem.F.type_list_append d5 (pv 2) (aA (pv 4) aD)))) bJ))))
   (aO (aU (pv 2))))), ?_⟩
  refine aH ?_; walk_at "vc0"
  refine ⟨Nat.zero_le _, fun l hl => ?_⟩
  refine aH ⟨_, rfl, 6, rfl, by decide, by decide, kI (lo := 0) (n := 6) (fun i σ H' => gI H' p g ∧ Fr p g H H' ∧ (∃ zs : List Str, H' l = some (.lst (zs.map V.str)) ∧ (0 < i → 1 ≤ zs.length) ∧ zs.length ≤ i ∧ ∀ z ∈ zs, bT z = true) ∧ ∃ v3 v4, σ = [some (.ref p), some (.int 6), some (.ref l), v3, v4]) ?_ ?_ ?_⟩
  ·exact ⟨hp.new hl, Fr.of (aG.upd hl), ⟨[], aB, (fun h => absurd h (by decide)), Nat.le_refl _, fun _ h => nomatch h⟩, _, _, rfl⟩
  ·rintro i σ H1 hi ⟨hp1, f1, ⟨zs, hz, hz0, hz1, hz2⟩, v3, v4, rfl⟩
   have np : l ≠ p := (hp.G0 hl).symm
   have ng : l ≠ g := (hp.neg hl).symm
   show sC _ _ _ _ _
   refine aH ?_; walk_at "vc0"
   refine ⟨p, g, rfl, hp1, fun x H2 x0 hp2 f2 => ?_⟩
   have hl2 := f2 l _ hz np ng
   walk_at "vc0"
   refine ⟨_, .inl (aX.of hl2), rfl, nM, ?_⟩
   rw [KS]
   cases hc : zs.contains x with
   | false =>
    refine fC ⟨.inl ⟨_, aX.of hl2⟩, _, hl2, o4 (by rw [List.length_map]; omega), hp2.upd np.symm ng.symm, ?_, ⟨zs ++ [x], ?_, ?_, ?_, ?_⟩, ?_⟩
    ·exact fun b o hb n1 n2 => by rw [aL (aF hb hl)]; exact f2 b o (f1 b o hb n1 n2) n1 n2
    ·rw [aB, List.map_append, List.map_singleton]
    ·intro _; rw [List.length_append]; show 1 ≤ _ + 1; omega
    ·rw [List.length_append]; show _ + 1 ≤ _; omega
    ·intro z hz'
     rcases List.mem_append.mp hz' with h | h
     ·exact hz2 z h
     ·rw [List.mem_singleton.mp h]; exact x0
    ·exact ⟨_, rfl⟩
   | true =>
    have hne : 1 ≤ zs.length := by
     cases zs with
     | nil => cases hc
     | cons _ _ => exact Nat.succ_le_succ (Nat.zero_le _)
    exact gL ⟨hp2, f1.trans f2, ⟨zs, hl2, fun _ => hne, by omega, hz2⟩, _, rfl⟩
  ·rintro σ H1 ⟨hp1, f1, ⟨zs, hz, hz0, hz1, hz2⟩, v3, v4, rfl⟩
   exact ⟨_, rfl, q l zs H1 hl ⟨hz, (hp.G0 hl).symm, (hp.neg hl).symm, hz0 (by decide), hz1, hz2⟩ hp1 f1⟩
theorem gB : aW ["_law_purse_here", "_law_names_here", "_law_size", "_law_many", "_law_name_here", "_law_day_here", "_law_row"] ["_law_purse_here", "_law_names_here"] (aC bW) := ⟨rfl, rfl, rfl, by decide +kernel, rfl, by decide +kernel, by decide +kernel⟩
set_option maxHeartbeats 4000000 in
theorem rX (T : Txt K mg fs fds tc u cl fI fdI) (G_law_day : aT P w K mg base dF 2 (fs 18) (fds 18) ["_law_purse_here"] MK) (G_law_pick : aT P w K mg base dF 1 (fs 15) (fds 15) ["_law_purse_here", "_law_many"] iI) (G_law_sign : aT P w K mg base dF 2 (fs 19) (fds 19) ["_law_purse_here"] y6) : aT P w K mg base dF 3 (fs 20) (fds 20) ["_law_purse_here", "_law_names_here"] (pF FN) := by
 refine T.jH.F.ok gB (fun vs H Q E h => ?_) (fun cdv A outer s H vs Q E hr h => ?_)
 ·obtain ⟨p, g, l, zs, rfl, hp, hN, q⟩ := h
  rfl
 ·obtain ⟨p, g, l, zs, rfl, hp, hN, q⟩ := h
  refine boxed ⟨_, (aV (sw (lN (i := 2) (j := 3) rfl gB.nd rfl rfl (by decide) rfl rfl (aA (bC (iZ K) (iO (bK (ew aE) (bK (ew aE) (bK (ew aE) (bK (ew aE) (bK (ew aE) (bK (ew aE) bO))))))).h (bB T.bE G_law_pick hr (by decide) rfl (aA (pv 0) (aA aE aD))) (fun _ _ => rfl)) (aA (bC (iZ K) (iO (bK (ew aE) (bK (ew aE) (bK (ew aE) (bK (ew aE) (bK (ew aE) (bK (ew aE) bO))))))).h (bB T.bE G_law_pick hr (by decide) rfl (aA (pv 0) (aA aE aD))) (fun _ _ => rfl)) aD)) rfl))
   (aV (sw (lN (i := 4) (j := 5) rfl gB.nd rfl rfl (by decide) rfl rfl (aA (bC (iZ K) (pv 1) (bB T.bE G_law_pick hr (by decide) rfl (aA (pv 0) (aA (aP (xF K) (by rfl) T.d3 dE (aA (pv 1) aD)) aD))) (fun _ _ => rfl)) (aA (bB T.sL G_law_day hr (by decide) rfl (aA (pv 0) aD)) aD)) rfl))
   (aV (sw (IK (i := 6) ["_law_k", "_law_names_here", "_law_purse_here"] 1 [1, 0] ["_law_purse_here", "_law_names_here", "_law_size", "_law_many", "_law_name_here", "_law_day_here", "_law_row"] (aC bW) rfl rfl rfl gB.nd rfl rfl (fR rfl T.fD (aA (pv 3) aD)) (by decide +kernel) (fun _ => (aY (i := 0) (show (["_law_k", "_law_names_here", "_law_purse_here"] : List Str).Nodup by decide +kernel) rfl (Or.inl rfl))) (fun _ => eI) (fun _ => (bC (iZ K) (pv 1) (bB T.bE G_law_pick hr (by decide) rfl (aA (pv 2) (aA (aP (xF K) (by rfl) T.d3 dE (aA (pv 1) aD)) aD))) (fun _ _ => rfl)))))
   (cD (gH (QT (zX (ew (pv 4)) (zX (ew (pv 5)) (FI (JD K PySem.F.plainAttrs_str PySem.F.slot_str_join PySem.F.type_str_join (sR K) (ew aM) (tF.mk (aA (jK ["_law_k", "_law_purse_here"] 1 [0] ["_law_purse_here", "_law_names_here", "_law_size", "_law_many", "_law_name_here", "_law_day_here", "_law_row"] (aC bW) rfl rfl rfl (fR rfl T.fD (aA (pv 2) aD)) (by decide +kernel) (fun _ => (aY (i := 0) (show (["_law_k", "_law_purse_here"] : List Str).Nodup by decide +kernel) rfl (Or.inl rfl))) (fun _ => eI) (fun _ => (bB T.lH G_law_sign hr (by decide) rfl (aA (pv 1) aD)))) aD))) (FI (ew (eF (DA K) (by rfl) T.d8 eR (aA (pv 6) aD))) bO)))))))))), ?_⟩
  refine aH ?_; walk_at "vc0"
  refine vI (xs := [V.int 0, V.int 1, V.int 2, V.int 5, V.int 9, V.int 60]) hp rfl rfl (by decide) (by decide) fun v H1 hv hp1 f1 => ?_
  obtain ⟨m, rfl, hm0, hm1⟩ : ∃ m : Int, v = .int m ∧ 0 ≤ m ∧ m ≤ 60 := by
   simp only [List.mem_cons, List.mem_nil_iff, or_false] at hv
   rcases hv with h | h | h | h | h | h <;> exact ⟨_, h, by decide, by decide⟩
  refine vI (xs := [V.int 0, V.int 1, V.int 1, V.int 2, V.int 3, V.int 9]) hp1 rfl rfl (by decide) (by decide) fun v H2 hv hp2 f2 => ?_
  obtain ⟨k, rfl, hk0, hk1⟩ : ∃ m : Int, v = .int m ∧ 0 ≤ m ∧ m ≤ 9 := by
   simp only [List.mem_cons, List.mem_nil_iff, or_false] at hv
   rcases hv with h | h | h | h | h | h <;> exact ⟨_, h, by decide, by decide⟩
  have hN2 := (hN.fr f1).fr f2
  refine aH ?_; walk_at "vc0"
  refine BJ hN2 hp2 fun n H3 hn hp3 hN3 f3 => ?_
  refine ⟨p, g, rfl, hp3, fun d H4 d0 d1 hp4 f4 => ?_⟩
  have hN4 := hN3.fr f4
  refine aH ⟨_, rfl, _, rfl, by omega, by omega, fun l5 hl5 => lI 0 _ p g (fun _ v => ∃ x : Str, v = .str x ∧ bT x = true) (fun σ => ∃ o, σ = [o, some (.ref l), some (.ref p)]) ⟨_, rfl⟩ hp4 hl5 (by omega) (fun _ _ _ _ h => h) ?_ ?_⟩
  ·rintro i σ H5 xs N hi ⟨o, rfl⟩ hp5 hx hxl f5 hNN
   unfold cM
   walk_at "vc2"
   refine BJ (hN4.fr f5) hp5 fun z H6 hz hp6 hN6 f6 => ?_
   exact hNN _ _ _ ⟨_, rfl⟩ ⟨z, rfl, hN.nm z hz⟩ hp6 f6
  ·intro ys H5 hyl hR hy hp5 f5
   obtain ⟨row, e, hrow⟩ := rP hR
   subst e
   rw [List.length_map] at hyl
   have hyne1 : l5 ≠ p := (hp4.G0 hl5).symm
   have hyne2 : l5 ≠ g := (hp4.neg hl5).symm
   walk_at "vc1"
   refine ⟨rfl, _, rfl, _, rfl, by omega, by omega, fun l6 hl6 => lI 0 _ p g (fun _ v => ∃ x : Str, v = .str x ∧ MU x) (fun σ => ∃ o, σ = [o, some (.ref p)]) ⟨_, rfl⟩ hp5 hl6 (by omega) (fun _ _ _ _ h => h) ?_ ?_⟩
   ·rintro i σ H6 xs N hi ⟨o, rfl⟩ hp6 hx hxl f6 hNN
    unfold cM
    walk_at "vc2"
    exact ⟨p, g, rfl, hp6, fun x H7 hx1 hp7 f7 => hNN _ _ _ ⟨_, rfl⟩ ⟨x, rfl, hx1⟩ hp7 f7⟩
   ·intro ys H6 hyl6 hR6 hy6 hp6 f6
    obtain ⟨hs, e, hhs⟩ := rP hR6
    subst e
    rw [List.length_map] at hyl6
    refine ⟨_, l6, hs, rfl, rfl, aX.of hy6, by rw [s0, mL fun y hy => (hhs y hy).1]; omega, ?_⟩
    have hy5 := f6 l5 _ hy hyne1 hyne2
    refine ⟨_, aX.of hy5, fun r hr => ⟨by decide, fun t ht => ?_⟩⟩
    have hjl := join_le (Str.ofString "") hs
    rw [mL fun y hy => (hhs y hy).1, s0] at hjl
    have hr0 : upd H6 r (.tup (row.map V.str)) r = some (.tup (row.map V.str)) := aB
    refine q _ ⟨n, d, Txt.join (Str.ofString "") hs, row⟩ _ (FN.of aB (by rw [aL (aF hr0 ht)]; exact hr0) ⟨hN.nm n hn, d0, d1, ⟨by show (Txt.join _ _).length ≤ 60; omega, fun c hc => ?_⟩, by show row.length ≤ 9; omega, hrow⟩) ((hp6.new hr).new ht) ?_
    ·rcases mem_join hc with h | ⟨y, hy, h⟩
     ·exact absurd h (by rw [show (Str.ofString "").cps.toList = [] from jY]; exact List.not_mem_nil)
     ·exact (hhs y hy).2 c h
    ·exact (((((((f1.trans f2).trans f3).trans f4).trans f5).trans f6).new hr).new ht)
theorem eD : aW ["_law_text", "_law_found", "_law_at", "_law_row", "_law_letter_here"] ["_law_text"] (aC cA) := ⟨rfl, rfl, rfl, by decide +kernel, rfl, by decide +kernel, by decide +kernel⟩
set_option maxHeartbeats 4000000 in
theorem pH (T : Txt K mg fs fds tc u cl fI fdI) (G_law_letter_of : aT P w K mg base dF 2 (fs 26) (fds 26) ["_law_text"] (DW fO Lt.P)) : aT P w K mg base dF 3 (fs 27) (fds 27) ["_law_text"] FW := by
 refine T.lA.F.ok eD (fun vs H Q E h => ?_) (fun cdv A outer s H vs Q E hr h => ?_)
 ·obtain ⟨x, rfl, hx, q⟩ := h
  rfl
 ·obtain ⟨x, rfl, hx, q⟩ := h
  refine ⟨_, (aJ (bQ (i := 1) eD.nd rfl (Or.inl rfl) (d7 aD))
   (aJ (dI (aS jI (pv 0) aM (bA _)) (aO (aU (iE aD))) bJ)
   (aJ (iH PassesOwn.never rfl (BE K rfl T.fA (aA (cO K PySem.F.plainAttrs_str PySem.F.slot_str_split PySem.F.type_str_split gX (pv 0) (aA aM aD)) aD)) (lU (n := 2) K rfl (cR (aY (i := 2) eD.nd rfl (Or.inl rfl)) (cR (aY (i := 3) eD.nd rfl (Or.inl rfl)) kK))) (aJ (bQ (i := 4) eD.nd rfl (Or.inl rfl) (bB T.gF G_law_letter_of hr (by decide) rfl (aA (pv 3) aD)))
   (aJ (dI (PW.pt (gY (aS nB (pv 4) eU (bA _)) (fS (PW.pt (m8 (aS (P1 K hr) (pv 1) (d7 aD) (bA _)) (kJ (aS (N5 hr) (bC (iZ K) (pv 1) (xQ pT aE) (fun _ _ => rfl)) (pv 4) (bA _)))))))) (aO (aU (d7 (aA (pv 2) aD)))) bJ)
   (aO (gQ (cO K PySem.F.plainAttrs_list PySem.F.slot_list_append PySem.F.type_list_append d5 (pv 1) (aA (pv 4) aD)))))))
   (aO (aU (eF (DA K) (by rfl) T.d8 eR (aA (pv 1) aD))))))), ?_⟩
  refine aH ?_; walk_at "vc0"
  refine ⟨Nat.zero_le _, fun p hp => ?_⟩
  have s1' := aG.upd (o := .lst []) hp
  have ep0 : upd H p (.lst []) p = some (.lst []) := aB
  refine aH ?_; walk_at "vc1"
  refine ⟨rfl, gG (fun e => ⟨Nat.zero_le _, fun t ht => q _ _ (s1'.trans (aG.upd ht)) ?_⟩) (fun e => ?_)⟩
  ·have e2 : EW x = .inr [] := by
    unfold EW fH
    rw [if_pos (CG.mpr e)]; rfl
   unfold GG
   rw [e2]
   exact .tup aB .nil
  have er : fH x = Txt.split x NL := by unfold fH; rw [if_neg fun z => e (CG.mp z)]
  have rf1 := fQ x NL (by rw [EY]; decide)
  have rf2 := eB x NL
  have p0 := HW x
  rw [er] at p0
  refine aH (iX ⟨_, rfl, rfl, fT (by rw [EY]; decide) (by omega) fun l hl1 => .inr ⟨l, _, rfl, aX.of aB, sT (K := K) (a := l) (xs := (Txt.split x NL).map V.str) (fun i σ H' => aG H H' ∧ H' l = some (.lst ((Txt.split x NL).map V.str)) ∧ (∃ (vs : List V), H' p = some (.lst vs) ∧ ∃ (xs : List Lt), hW H' (xs.map Lt.P) vs ∧ xs.length = i ∧ jZ xs i ((Txt.split x NL).drop i) = EW x) ∧ ∃ v2 v3 v4, σ = [some (.str x), some (.ref p), v2, v3, v4]) ?_ (fun i σ H' _ ⟨_, h, _⟩ => aX.of h) ?_ ?_⟩⟩)
  ·exact ⟨s1'.trans (aG.upd hl1), aB, ⟨[], aG.upd hl1 _ _ ep0, [], .nil, rfl, p0⟩, _, _, _, rfl⟩
  ·rintro i w t σ H2 hi ht ⟨s2, el2, ⟨vs, ep, xs, tl, lx, hpk⟩, v2, v3, v4, rfl⟩
   have lp : l ≠ p := fun e => by rw [e, ep0] at hl1; cases hl1
   obtain ⟨r, hr0, rfl⟩ := strAt hi
   have hil : i < (Txt.split x NL).length := (List.getElem?_eq_some_iff.mp hr0).1
   rw [rN hr0] at hpk
   have hrl := rf2 r (List.mem_of_getElem? hr0)
   have st := aG.upd (o := .tup [.int i, .str r]) ht
   walk_at "vc0"
   refine ⟨_, dZ.of aB, rfl, _, _, rfl, _, _, rfl, rfl, ?_⟩
   show sC _ _ _ _ _
   refine aH ?_; walk_at "vc0"
   refine ⟨r, rfl, by omega, fun v H3 s3 h3 => ?_⟩
   have s23 := st.trans s3
   have s03 := s2.trans s23
   have ep3 := s23 _ _ ep
   have tl3 := tl.kp s23.kt
   have len := tl3.length
   rw [List.length_map, lx] at len
   dsimp only
   refine aH ?_; walk_at "vc0"
   cases hy : fO r with
   | none =>
    rw [hy] at h3
    rw [BP hy] at hpk
    refine nS h3 ⟨by decide, fun b hb => q _ _ (s03.trans (aG.upd hb)) ?_⟩
    unfold GG
    rw [← hpk]
    exact ⟨b, rfl, aB⟩
   | some y =>
   rw [hy] at h3
   have h3 : Tr H3 y.P v := h3
   refine oA (fun n => by rw [n] at h3; cases h3) ⟨Nat.zero_le _, fun b hb => ?_⟩
   have s4 := aG.upd (o := .lst []) hb
   have ep4 := s4 _ _ ep3
   have el4 := s4 _ _ (s23 _ _ el2)
   have h4 := h3.kp s4.kt
   have tl4 := tl3.kp s4.kt
   have e4 : upd H3 b (.lst []) b = some (.lst []) := aB
   have s04 := s03.trans s4
   generalize upd H3 b (.lst []) = H4 at s4 ep4 el4 h4 tl4 e4 s04
   have next : ∀ (up : (xs.getLast?.any fun w => !ltB w y) = false), (aG H (upd H4 p (.lst (vs ++ [v])))) ∧ (upd H4 p (.lst (vs ++ [v]))) l = some (.lst ((Txt.split x NL).map V.str)) ∧ (∃ vs', (upd H4 p (.lst (vs ++ [v]))) p = some (.lst vs') ∧ ∃ xs', hW (upd H4 p (.lst (vs ++ [v]))) (xs'.map Lt.P) vs' ∧ xs'.length = i + 1 ∧ jZ xs' (i + 1) ((Txt.split x NL).drop (i + 1)) = EW x) := by
    intro up
    refine ⟨fun c o hc => ?_, by rw [aL lp]; exact el4, _, aB, xs ++ [y], ?_, by rw [List.length_append, lx]; rfl, ?_⟩
    ·rw [aL (aF hc hp)]; exact s04 _ _ hc
    ·have k3 := tO.upd (ys := vs ++ [v]) ep4
     rw [List.map_append]
     exact (tl4.kp k3).app (.cons (h4.kp k3) .nil)
    ·rw [← hpk, A2 hy up]
   have hv : vs.length < sizeLine := o4 (by omega)
   refine ⟨vs, aX.of ep4, [], aX.of e4, fun e => ?_, ?_⟩
   ·obtain rfl := List.eq_nil_of_length_eq_zero e
    exact ⟨rfl, rfl⟩
   rw [m4]
   rcases List.eq_nil_or_concat vs with e | ⟨us, w, e⟩ <;> (try rw [List.concat_eq_append] at e)
   ·subst e
    have ex : xs = [] := List.eq_nil_of_length_eq_zero (by rw [lx, len]; rfl)
    have nx := next (by rw [ex]; rfl)
    exact dO ⟨.inl ⟨_, aX.of ep4⟩, _, ep4, hv, nx.1, nx.2.1, nx.2.2, _, rfl⟩
   ·subst e
    have lu : us.length + 1 = i := by rw [len, List.length_append]; rfl
    obtain ⟨p', ep', tp⟩ := tl4.get (i := us.length) (v := w) (by simp)
    rw [List.getElem?_map] at ep'
    obtain ⟨yl, hyl, rfl⟩ := Option.map_eq_some_iff.mp ep'
    have hgl : xs.getLast? = some yl := by rw [wL (n := us.length) (by omega)]; exact hyl
    rw [show (us ++ [w]).isEmpty = false by cases us <;> rfl]
    refine eX ⟨_, aX.of ep4, w, q0 us w, _, tp, _, h4, nY.1, nY.1, _, HY yl y, ?_⟩
    cases eb : ltB yl y with
    | true =>
     have nx := next (by rw [hgl]; show (!ltB yl y) = false; rw [eb]; rfl)
     exact dO ⟨.inl ⟨_, aX.of ep4⟩, _, ep4, hv, nx.1, nx.2.1, nx.2.2, _, rfl⟩
    | false =>
     refine eX ⟨by decide, fun c hc => q _ _ (s04.trans (aG.upd hc)) ?_⟩
     unfold GG
     rw [← hpk, AW hy (by rw [hgl]; show (!ltB yl y) = true; rw [eb]; rfl)]
     exact ⟨c, rfl, aB⟩
  ·rintro σ H2 ⟨s2, el2, ⟨vs, ep, xs, tl, lx, hpk⟩, v2, v3, v4, rfl⟩
   rw [List.length_map, List.drop_length, xB] at hpk
   walk_at "vc0"
   refine ⟨_, aX.of ep, fun a ha => q _ _ (s2.trans (aG.upd ha)) ?_⟩
   unfold GG
   rw [← hpk]
   exact .tup aB (tl.kp (aG.upd ha).kt)
theorem bU : aW ["_law_purse_here", "_law_text", "_law_lot", "_law_at", "_law_rows", "_law_k", "_law_sign_here", "_law_words", "_law_j", "_law_some"] ["_law_purse_here", "_law_text"] (aC cK) := ⟨rfl, rfl, rfl, by decide +kernel, rfl, by decide +kernel, by decide +kernel⟩
set_option maxHeartbeats 4000000 in
theorem rW (T : Txt K mg fs fds tc u cl fI fdI) (G_law_pick : aT P w K mg base dF 1 (fs 15) (fds 15) ["_law_purse_here", "_law_many"] iI) (G_law_sign : aT P w K mg base dF 2 (fs 19) (fds 19) ["_law_purse_here"] y6) : aT P w K mg base dF 3 (fs 31) (fds 31) ["_law_purse_here", "_law_text"] yA := by
 refine T.jE.F.ok bU (fun vs H Q E h => ?_) (fun cdv A outer s H vs Q E hr h => ?_)
 ·obtain ⟨p, g, z, rfl, hp, hz, q⟩ := h
  rfl
 ·obtain ⟨p, g, z, rfl, hp, hz, q⟩ := h
  refine boxed ⟨_, (aV (sw (LH (i := 2) (j := 3) (l := 4) rfl bU.nd rfl rfl rfl (by decide) (by decide) (by decide) rfl rfl rfl (aA (bB T.bE G_law_pick hr (by decide) rfl (aA (pv 0) (aA aE aD))) (aA (bB T.bE G_law_pick hr (by decide) rfl (aA (pv 0) (aA (bH eZ (aP cI (by rfl) T.d3 dE (aA (pv 1) aD)) aE) aD))) (aA (cO K PySem.F.plainAttrs_str PySem.F.slot_str_split PySem.F.type_str_split gX (pv 1) (aA aM aD)) aD))) rfl))
   (aV (sw (lN (i := 5) (j := 6) rfl bU.nd rfl rfl (by decide) rfl rfl (aA (bB T.bE G_law_pick hr (by decide) rfl (aA (pv 0) (aA (aP (xF K) (by rfl) T.d3 dE (aA (pv 4) aD)) aD))) (aA (bC mX (bH aN (bB T.lH G_law_sign hr (by decide) rfl (aA (pv 0) aD)) aM) (bB T.bE G_law_pick hr (by decide) rfl (aA (pv 0) (aA aE aD))) (fun _ _ => rfl)) aD)) rfl))
   (aV (sw (bQ (i := 7) bU.nd rfl (Or.inl rfl) (cO K PySem.F.plainAttrs_str PySem.F.slot_str_split PySem.F.type_str_split gX (bC (iZ K) (pv 4) (pv 5) (fun _ _ => rfl)) (aA aM aD))))
   (aV (sw (bQ (i := 8) bU.nd rfl (Or.inl rfl) (bB T.bE G_law_pick hr (by decide) rfl (aA (pv 0) (aA (aP (xF K) (by rfl) T.d3 dE (aA (pv 7) aD)) aD)))))
   (aV (oH (aS qR (pv 2) aE (bA _)) (cD (gH (bD aN (bD aN (ew (bR j9 (pv 1) cH (bS (pv 3)))) (ew (pv 6))) (ew (bR j9 (pv 1) (bS (pv 3)) cH))))) jD)
   (aV (oH (aS qR (pv 2) aE (bA _)) (cD (gH (bD aN (bD aN (ew (bR j9 (pv 1) cH (bS (pv 3)))) (ew (bC (iZ K) (d7 (aA (pv 6) (aA (pv 6) (aA aM aD)))) (bH nH (pv 2) aE) (fun _ _ => rfl)))) (ew (bR j9 (pv 1) (bS (bH eZ (pv 3) aE)) cH))))) jD)
   (aV (oH (aS jI (pv 2) aE (bA _)) (cD (gH (bD aN (ew (pv 1)) (ew aM)))) jD)
   (aV (oH (aS qR (pv 2) aE (bA _)) (aV (lO (i := 9) bU.nd rfl (Or.inl rfl) (A9 (iZ K) (iO (kG (bD G8 (ew (bR (EV K) (pv 4) (bS (pv 5)) (bS (bH eZ (pv 5) aE)))) (ew aE)) (PB (ew (GS K (bR (EV K) (pv 4) (bS (pv 5)) (bS (bH eZ (pv 5) aE))) (xQ pT aE))) (NB (iO bO) bO)))) (bD nH (ew (pv 2)) (ew aE)) (fun _ _ => rfl)))
   (cD (lO (i := 4) bU.nd rfl (Or.inl rfl) (bD lG (bD lG (ew (bR (EV K) (pv 4) cH (bS (pv 5)))) (ew (pv 9))) (ew (bR (EV K) (pv 4) (bS (bH eZ (pv 5) (bC (iZ K) (iO (bK (ew aE) (bK (ew aE) (bK (ew aE) bO)))).h (bH nH (pv 2) aE) (fun _ _ => rfl)))) cH)))))) (aV (lO (i := 9) bU.nd rfl (Or.inl rfl) (A9 (iZ K) (iO (kG (bD G8 (ew (bR (EV K) (pv 7) (bS (pv 8)) (bS (bH eZ (pv 8) aE)))) (ew aE)) (NB (iO bO) (NB (iO (kG (bD aN (ew aM) (ew (bC (iZ K) (pv 7) (pv 8) (fun _ _ => rfl)))) bO)) bO)))) (bD nH (ew (pv 2)) (ew aE)) (fun _ _ => rfl)))
   (aV (lO (i := 7) bU.nd rfl (Or.inl rfl) (bD lG (bD lG (ew (bR (EV K) (pv 7) cH (bS (pv 8)))) (ew (pv 9))) (ew (bR (EV K) (pv 7) (bS (bH eZ (pv 8) aE)) cH))))
   (cD (lO (i := 4) bU.nd rfl (Or.inl rfl) (bD lG (bD lG (ew (bR (EV K) (pv 4) cH (bS (pv 5)))) (ew (d7 (aA (cO K PySem.F.plainAttrs_str PySem.F.slot_str_join PySem.F.type_str_join (sR K) aM (aA (pv 7) aD)) aD)))) (ew (bR (EV K) (pv 4) (bS (bH eZ (pv 5) aE)) cH))))))))
   (cD (gH (JD K PySem.F.plainAttrs_str PySem.F.slot_str_join PySem.F.type_str_join (sR K) (ew aM) (zX (ew (pv 4)) bO)))))))))))), ?_⟩
  refine aH ?_; walk_at "vc1"
  refine ⟨p, g, 12, rfl, hp, by decide, by decide, fun lot H1 l0 l1 hp1 f1 => ⟨cF (by omega), p, g, _, rfl, hp1, by omega, by omega, fun at' H2 a0 a1 hp2 f2 => ?_⟩⟩
  have f02 := f1.trans f2
  refine iX ⟨_, rfl, rfl, fT (by rw [EY]; decide) (by omega) fun l hl => ?_⟩
  have sp2 := aG.upd (o := .lst ((Txt.split z NL).map V.str)) hl
  have el : upd H2 l (.lst ((Txt.split z NL).map V.str)) l = some (.lst ((Txt.split z NL).map V.str)) := aB
  have np := (hp2.G0 hl).symm
  have ng := (hp2.neg hl).symm
  have hp3 := hp2.new (o := .lst ((Txt.split z NL).map V.str)) hl
  have f03 := f02.new (o := .lst ((Txt.split z NL).map V.str)) hl
  have hln : H l = none := by
   cases e : H l with
   | none => rfl
   | some o => rw [f02 l o e np ng] at hl; cases hl
  clear hl
  generalize upd H2 l (.lst ((Txt.split z NL).map V.str)) = H3 at sp2 el hp3 f03
  clear hp hp1 hp2 f1 f2 f02
  obtain ⟨r0, rr, er⟩ := nL z NL
  have ml := qB (z := z) EY
  have rf1 := fQ z NL (by rw [EY]; decide)
  have rf2 := eB z NL
  have npos : 0 < (Txt.split z NL).length := by rw [er]; simp
  generalize Txt.split z NL = rows at el ml rf1 rf2 npos
  clear er
  refine aH ?_; walk_at "vc0"
  have rml : (rows.map V.str).length = rows.length := List.length_map ..
  have z6 : (Str.ofString " \n,-0A").length = 6 := by decide +kernel
  refine ⟨_, aX.of el, p, g, _, rfl, hp3, by omega, by omega, fun k H4 k0 k1 hp4 f4 => ⟨p, g, rfl, hp4, fun sg H5 hsg hp5 f5 => ⟨sg, rfl, cF (by rw [hsg.1, z6]; decide), p, g, 7, rfl, hp5, by decide, by decide, fun j7 H6 j0 j1 hp6 f6 => ?_⟩⟩⟩
  obtain ⟨c, _, hc⟩ := mK (z := sg ++ Str.ofString " \n,-0A") j0 (by rw [bN, hsg.1, z6]; exact j1)
  refine ⟨j7, rfl, cF (by rw [bN, hsg.1, z6]; decide), c, hc, ?_⟩
  have f36 := (f4.trans f5).trans f6
  have f06 := f03.trans f36
  have el6 := f36 _ _ el np ng
  obtain ⟨kn, rfl⟩ : ∃ kn : Nat, k = (kn : Int) := ⟨k.toNat, by omega⟩
  have hkn : kn < rows.length := by rw [rml] at k1; omega
  have hr : rows[kn]? = some (rows[kn]) := List.getElem?_eq_getElem hkn
  generalize rows[kn] = r at hr
  have hrm : (rows.map V.str)[kn]? = some (.str r) := by rw [List.getElem?_map, hr]; rfl
  have hrl := rf2 r (List.mem_of_getElem? hr)
  clear f4 f5 f6 hp4 hp5 hp3 f36 f03 el
  refine aH ?_; walk_at "vc3"
  refine ⟨_, aX.of el6, _, bI hrm, trivial, fT (by rw [s1]; decide) (by omega) fun l2 hl2 => ?_⟩
  have np2 := (hp6.G0 hl2).symm
  have ng2 := (hp6.neg hl2).symm
  have s7 := aG.upd (o := .lst ((Txt.split r BL).map V.str)) hl2
  have e2 : upd H6 l2 (.lst ((Txt.split r BL).map V.str)) l2 = some (.lst ((Txt.split r BL).map V.str)) := aB
  have hp7 := hp6.new (o := .lst ((Txt.split r BL).map V.str)) hl2
  have f07 := f06.new (o := .lst ((Txt.split r BL).map V.str)) hl2
  have el7 := s7 _ _ el6
  clear hl2
  generalize upd H6 l2 (.lst ((Txt.split r BL).map V.str)) = H7 at s7 e2 hp7 f07 el7
  obtain ⟨w0, wr, ew⟩ := nL r BL
  have mlw := qB (z := r) s1
  have wf1 := fQ r BL (by rw [s1]; decide)
  have wf2 := eB r BL
  have wpos : 0 < (Txt.split r BL).length := by rw [ew]; simp
  generalize Txt.split r BL = words at e2 mlw wf1 wf2 wpos
  clear ew hp6 f06 el6 s7
  refine aH ?_; walk_at "vc0"
  have wml : (words.map V.str).length = words.length := List.length_map ..
  refine ⟨_, aX.of e2, p, g, _, rfl, hp7, by omega, by omega, fun jj H8 jj0 jj1 hp8 f8 => ?_⟩
  obtain ⟨jn, rfl⟩ : ∃ jn : Nat, jj = (jn : Int) := ⟨jj.toNat, by omega⟩
  have hjn : jn < words.length := by rw [wml] at jj1; omega
  have hw : words[jn]? = some (words[jn]) := List.getElem?_eq_getElem hjn
  generalize words[jn] = w at hw
  have hwm : (words.map V.str)[jn]? = some (.str w) := by rw [List.getElem?_map, hw]; rfl
  have hwl := wf2 w (List.mem_of_getElem? hw)
  have el8 := f8 _ _ el7 np ng
  have e28 := f8 _ _ e2 np2 ng2
  have f08 := f07.trans f8
  clear f8 hp7 e2 el7 f07
  have hsl : ∀ (lo hi : Option Int), (Txt.slice z lo hi).length ≤ z.length := fun lo hi => Txt.slice_le z lo hi
  refine aH ?_; walk_at "vc0"
  refine gG (fun g1 => ?_) (fun g1 => ?_)
  ·refine ⟨cF (by omega), cF (by have := hsl none (some at'); rw [RJ]; omega), cF (by omega), cF (by have := hsl none (some at'); have := hsl (some at') none; rw [bN, RJ]; omega), q _ H8 (by have := hsl none (some at'); have := hsl (some at') none; rw [bN, bN, RJ]; omega) hp8 f08⟩
  refine aH ?_; walk_at "vc0"
  have h01 := hsl none (some at')
  have h02 := hsl (some (at' + 1)) none
  refine gG (fun g2 => ?_) (fun g2 => ?_)
  ·refine ⟨cF (by omega), o4 (by decide), fun a ha => ?_⟩
   have hq : ∀ y : Str, y.length ≤ 1 → ∃ x, V.str y = V.str x ∧ (Txt.slice z none (some at')).length + x.length ≤ sizeLine ∧ z.length ≤ sizeLine ∧ (Txt.slice z none (some at') ++ x).length + (Txt.slice z (some (at' + 1)) none).length ≤ sizeLine ∧ Q (V.str (Txt.slice z none (some at') ++ x ++ Txt.slice z (some (at' + 1)) none)) (upd H8 a (HO.lst [V.str { cps := #[c] }, V.str { cps := #[c] }, V.str (Str.ofString "")])) := fun y hy =>
    ⟨y, rfl, cF (by omega), cF (by omega), cF (by rw [bN]; omega), q _ _ (by rw [bN, bN]; omega) (hp8.new ha) (f08.new ha)⟩
   obtain rfl | rfl | rfl : lot = 2 ∨ lot = 3 ∨ lot = 4 := by omega
   ·exact ⟨_, aX.of aB, _, bI (j := 0) rfl, hq _ (by rw [RJ]; exact Nat.le_refl _)⟩
   ·exact ⟨_, aX.of aB, _, bI (j := 1) rfl, hq _ (by rw [RJ]; exact Nat.le_refl _)⟩
   ·exact ⟨_, aX.of aB, _, bI (j := 2) rfl, hq _ (by rw [show (Str.ofString "").length = 0 from rfl]; exact Nat.zero_le _)⟩
  refine aH ?_; walk_at "vc0"
  refine ⟨rfl, gG (fun g3 => ?_) (fun g3 => ?_)⟩
  ·exact ⟨cF (by rw [EY]; omega), q _ _ (by rw [bN, EY]; omega) hp8 f08⟩
  have fin : ∀ (zs : List Str) (a : Addr) (H' : Hp), gI H' p g → Fr p g H H' → H' a = some (.lst (zs.map V.str)) → mu zs ≤ 3 * z.length + 11 → ∃ ys : List Str, aX K H' a (ys.map V.str) ∧ (ys.map (fun x => x.length)).sum + ys.length * (Str.ofString "\n").length ≤ 16777216 ∧ Q (.str (Txt.join (Str.ofString "\n") ys)) H' := fun zs a H' hp' f' ea hm =>
   ⟨zs, aX.of ea, by rw [HL zs EY]; omega, q _ _ (sV EY (by omega)) hp' f'⟩
  have mt := BQ hr
  have vrl : (rows.map V.str).length ≤ 6002 := by rw [rml]; omega
  have vwl : (words.map V.str).length ≤ 6002 := by rw [wml]; omega
  refine aH ?_; walk_at "vc0"
  refine gG (fun g4 => ?_) (fun g4 => ?_)
  ·refine aH ?_
   obtain ⟨ws1, ew1, wl1, wm1⟩ := CB rows kn
   have ln1 : (bZ (rows.map V.str) (some (kn : Int)) (some ((kn : Int) + 1))).length ≤ 1 := oX kn 1
   walk_at "vc0"
   refine ⟨_, aX.of el8, fun p1 h1 => ⟨_, 2, _, rfl, rfl, aB, by decide, by decide, cF (by rw [show Int.toNat 2 = 2 from rfl]; omega), fun p2 h2 => ?_⟩⟩
   rw [ew1]
   have s2 := (aG.upd (o := .lst (bZ (rows.map V.str) (some (kn : Int)) (some ((kn : Int) + 1)))) h1).trans (aG.upd (o := .lst (ws1.map V.str)) h2)
   have e2' : upd (upd H8 p1 (.lst (bZ (rows.map V.str) (some (kn : Int)) (some ((kn : Int) + 1))))) p2 (.lst (ws1.map V.str)) p2 = some (.lst (ws1.map V.str)) := aB
   clear ew1 ln1 h1 h2
   generalize upd (upd H8 p1 (.lst (bZ (rows.map V.str) (some (kn : Int)) (some ((kn : Int) + 1))))) p2 (.lst (ws1.map V.str)) = Ha at s2 e2'
   refine ⟨_, aX.of (s2 _ _ el8), fun p3 h3 => ⟨_, aX.of aB, aX.of aB, fun p4 vs h4 hl hm => ⟨Nat.zero_le _, fun p5 h5 => ?_⟩⟩⟩
   obtain ⟨ws2, rfl, wl2, wm2⟩ := FP hl hm
   have s3 := ((aG.upd (o := .lst (bZ (rows.map V.str) (some (kn : Int)) (some ((kn : Int) + 2)))) h3).trans (aG.upd (o := .lst (ws2.map V.str)) h4)).trans (aG.upd (o := .lst []) h5)
   have e4' := aG.upd (o := .lst []) h5 p4 (.lst (ws2.map V.str)) aB
   have e5' : upd (upd (upd Ha p3 (.lst (bZ (rows.map V.str) (some (kn : Int)) (some ((kn : Int) + 2))))) p4 (.lst (ws2.map V.str))) p5 (.lst []) p5 = some (.lst []) := aB
   generalize upd (upd (upd Ha p3 (.lst (bZ (rows.map V.str) (some (kn : Int)) (some ((kn : Int) + 2))))) p4 (.lst (ws2.map V.str))) p5 (.lst []) = Hb at s3 e4' e5'
   clear h3 h4 h5 hl hm
   refine ⟨o4 (by decide), fun p6 h6 => ⟨_, aX.of aB, ?_⟩⟩
   have s6 := aG.upd (o := .lst [.ref p2, .ref p4, .ref p5]) h6
   have sc := (s2.trans s3).trans s6
   obtain ⟨a, ws, hat, ha, wl, wm⟩ : ∃ (a : Addr) (ws : List Str), rT [V.ref p2, V.ref p4, V.ref p5] (lot - 6) = some (.ref a) ∧ upd Hb p6 (.lst [.ref p2, .ref p4, .ref p5]) a = some (.lst (ws.map V.str)) ∧ ws.length ≤ 2 ∧ ∀ w ∈ ws, w ∈ rows := by
    obtain rfl | rfl | rfl : lot = 6 ∨ lot = 7 ∨ lot = 8 := by omega
    ·exact ⟨_, ws1, bI (j := 0) rfl, s6 _ _ (s3 _ _ e2'), wl1, wm1⟩
    ·exact ⟨_, ws2, bI (j := 1) rfl, s6 _ _ e4', wl2, wm2⟩
    ·exact ⟨_, [], bI (j := 2) rfl, s6 _ _ e5', Nat.zero_le _, fun _ h => nomatch h⟩
   obtain ⟨d, hat2, hd⟩ : ∃ d : Nat, rT [V.int 1, V.int 2, V.int 1] (lot - 6) = some (.int d) ∧ mu (rows.drop (kn + d)) ≤ mu (rows.drop (kn + 1)) := by
    obtain rfl | rfl | rfl : lot = 6 ∨ lot = 7 ∨ lot = 8 := by omega
    ·exact ⟨1, bI (j := 0) rfl, Nat.le_refl _⟩
    ·exact ⟨2, bI (j := 1) rfl, LU rows (kn + 1)⟩
    ·exact ⟨1, bI (j := 2) rfl, Nat.le_refl _⟩
   refine ⟨_, hat, ?_⟩
   have mw := JE (m := z.length) wl fun w h => rf2 w (wm w h)
   have elc := sc _ _ el8
   have hpc := hp8.same sc
   have f0c := f08.trans (.of sc)
   generalize upd Hb p6 (.lst [.ref p2, .ref p4, .ref p5]) = Hc at ha elc hpc f0c
   clear s2 e2' s3 e4' e5' s6 sc hat h6 wl1 wm1 wl2 wm2
   walk_at "vc0"
   have tl1 : (rows.take kn).length ≤ rows.length := by rw [List.length_take]; omega
   have tl2 : (rows.drop (kn + d)).length ≤ rows.length := by rw [List.length_drop]; omega
   refine ⟨_, aX.of elc, fun q1 k1 => ?_⟩
   rw [rG, ← List.map_take]
   refine ⟨_, aB, _, aG.upd k1 _ _ ha, cF (by rw [List.length_map, List.length_map]; omega), fun q2 k2 => ?_⟩
   have u2 := (aG.upd (o := .lst ((rows.take kn).map V.str)) k1).trans (aG.upd (o := .lst ((rows.take kn).map V.str ++ ws.map V.str)) k2)
   have e2' : upd (upd Hc q1 (.lst ((rows.take kn).map V.str))) q2 (.lst ((rows.take kn).map V.str ++ ws.map V.str)) q2 = some (.lst ((rows.take kn ++ ws).map V.str)) := by rw [aB, List.map_append]
   generalize upd (upd Hc q1 (.lst ((rows.take kn).map V.str))) q2 (.lst ((rows.take kn).map V.str ++ ws.map V.str)) = Hd at u2 e2'
   refine ⟨o4 (by decide), fun q3 k3 => ⟨_, aX.of aB, _, hat2, (d : Int), rfl, _, aX.of (aG.upd k3 _ _ (u2 _ _ elc)), fun q4 k4 => ?_⟩⟩
   rw [← Int.natCast_add, vA, ← List.map_drop]
   have u4 := (aG.upd (o := .lst [.int 1, .int 2, .int 1]) k3).trans (aG.upd (o := .lst ((rows.drop (kn + d)).map V.str)) k4)
   refine ⟨_, u4 _ _ e2', _, aB, cF (by rw [List.length_map, List.length_map, List.length_append]; omega), fun q5 k5 => ?_⟩
   have u5 := (u2.trans u4).trans (aG.upd (o := .lst ((rows.take kn ++ ws).map V.str ++ (rows.drop (kn + d)).map V.str)) k5)
   exact fin (rows.take kn ++ ws ++ rows.drop (kn + d)) q5 _ (hpc.same u5) (f0c.trans (.of u5)) (by rw [aB, List.map_append (l₁ := rows.take kn ++ ws)]) (by rw [lL, lL]; omega)
  refine aH ?_
  obtain ⟨ws1, ew1, wl1, wm1⟩ := CB words jn
  have ln1 : (bZ (words.map V.str) (some (jn : Int)) (some ((jn : Int) + 1))).length ≤ 1 := oX jn 1
  have z0l : (Str.ofString "0").length = 1 := by decide +kernel
  walk_at "vc0"
  refine ⟨_, aX.of e28, fun p1 h1 => ⟨_, 2, _, rfl, rfl, aB, by decide, by decide, cF (by rw [show Int.toNat 2 = 2 from rfl]; omega), fun p2 h2 => ?_⟩⟩
  rw [ew1]
  have s2 := (aG.upd (o := .lst (bZ (words.map V.str) (some (jn : Int)) (some ((jn : Int) + 1)))) h1).trans (aG.upd (o := .lst (ws1.map V.str)) h2)
  have e2' : upd (upd H8 p1 (.lst (bZ (words.map V.str) (some (jn : Int)) (some ((jn : Int) + 1))))) p2 (.lst (ws1.map V.str)) p2 = some (.lst (ws1.map V.str)) := aB
  clear ew1 ln1 h1 h2
  generalize upd (upd H8 p1 (.lst (bZ (words.map V.str) (some (jn : Int)) (some ((jn : Int) + 1))))) p2 (.lst (ws1.map V.str)) = Ha at s2 e2'
  refine ⟨Nat.zero_le _, fun p3 h3 => ?_⟩
  have s3 := aG.upd (o := .lst []) h3
  have e3 : upd Ha p3 (.lst []) p3 = some (.lst []) := aB
  refine ⟨_, aX.of (s3 _ _ (s2 _ _ e28)), _, bI hwm, w, rfl, cF (by rw [z0l]; omega), o4 (by decide), fun p4 h4 => ?_⟩
  have s4 := aG.upd (o := .lst [V.str (Str.ofString "0" ++ w)]) h4
  have e4 : upd (upd Ha p3 (.lst [])) p4 (.lst [V.str (Str.ofString "0" ++ w)]) p4 = some (.lst ([Str.ofString "0" ++ w].map V.str)) := aB
  generalize upd (upd Ha p3 (.lst [])) p4 (.lst [V.str (Str.ofString "0" ++ w)]) = Hb at s4 e4
  refine ⟨o4 (by decide), fun p6 h6 => ⟨_, aX.of aB, ?_⟩⟩
  have s6 := aG.upd (o := .lst [.ref p2, .ref p3, .ref p4]) h6
  have s36 := (s3.trans s4).trans s6
  have sc := s2.trans s36
  obtain ⟨a, ws, hat, ha, wl, wm⟩ : ∃ (a : Addr) (ws : List Str), rT [V.ref p2, V.ref p3, V.ref p4] (lot - 9) = some (.ref a) ∧ upd Hb p6 (.lst [.ref p2, .ref p3, .ref p4]) a = some (.lst (ws.map V.str)) ∧ ws.length ≤ 2 ∧ mu ws ≤ 2 * r.length + 2 := by
   obtain rfl | rfl | rfl : lot = 9 ∨ lot = 10 ∨ lot = 11 := by omega
   ·exact ⟨_, ws1, bI (j := 0) rfl, s36 _ _ e2', wl1, by have := JE wl1 fun x h => wf2 x (wm1 x h); omega⟩
   ·exact ⟨_, [], bI (j := 1) rfl, s6 _ _ (s4 _ _ e3), Nat.zero_le _, Nat.zero_le _⟩
   ·exact ⟨_, [Str.ofString "0" ++ w], bI (j := 2) rfl, s6 _ _ e4, Nat.le_succ _, by rw [cS, rK, bN, z0l]; omega⟩
  refine ⟨_, hat, ?_⟩
  have elc := sc _ _ el8
  have e2c := sc _ _ e28
  have hpc := hp8.same sc
  have f0c := f08.trans (.of sc)
  generalize upd Hb p6 (.lst [.ref p2, .ref p3, .ref p4]) = Hc at ha elc e2c hpc f0c
  clear s2 e2' s3 e3 s4 e4 s6 s36 sc hat h6 wl1 wm1 h3 h4
  refine aH ?_; walk_at "vc0"
  have mtw := BQ hw
  have tl1 : (words.take jn).length ≤ words.length := by rw [List.length_take]; omega
  have tl2 : (words.drop (jn + 1)).length ≤ words.length := by rw [List.length_drop]; omega
  have rl1 : (rows.take kn).length ≤ rows.length := by rw [List.length_take]; omega
  have rl2 : (rows.drop (kn + 1)).length ≤ rows.length := by rw [List.length_drop]; omega
  refine ⟨_, aX.of e2c, fun q1 k1 => ?_⟩
  rw [rG, ← List.map_take]
  refine ⟨_, aB, _, aG.upd k1 _ _ ha, cF (by rw [List.length_map, List.length_map]; omega), fun q2 k2 => ?_⟩
  have u2 := (aG.upd (o := .lst ((words.take jn).map V.str)) k1).trans (aG.upd (o := .lst ((words.take jn).map V.str ++ ws.map V.str)) k2)
  have e2' : upd (upd Hc q1 (.lst ((words.take jn).map V.str))) q2 (.lst ((words.take jn).map V.str ++ ws.map V.str)) q2 = some (.lst ((words.take jn ++ ws).map V.str)) := by rw [aB, List.map_append]
  generalize upd (upd Hc q1 (.lst ((words.take jn).map V.str))) q2 (.lst ((words.take jn).map V.str ++ ws.map V.str)) = Hd at u2 e2'
  refine ⟨_, aX.of (u2 _ _ e2c), fun q3 k3 => ?_⟩
  rw [show (jn : Int) + 1 = ((jn + 1 : Nat) : Int) from rfl, vA, ← List.map_drop]
  refine ⟨_, aG.upd k3 _ _ e2', _, aB, cF (by rw [List.length_map, List.length_map, List.length_append]; omega), fun q4 k4 => ?_⟩
  have u4 := u2.trans ((aG.upd (o := .lst ((words.drop (jn + 1)).map V.str)) k3).trans (aG.upd (o := .lst ((words.take jn ++ ws).map V.str ++ (words.drop (jn + 1)).map V.str)) k4))
  have e4' : upd (upd Hd q3 (.lst ((words.drop (jn + 1)).map V.str))) q4 (.lst ((words.take jn ++ ws).map V.str ++ (words.drop (jn + 1)).map V.str)) q4 = some (.lst ((words.take jn ++ ws ++ words.drop (jn + 1)).map V.str)) := by rw [aB, List.map_append (l₁ := words.take jn ++ ws)]
  have mW : mu (words.take jn ++ ws ++ words.drop (jn + 1)) ≤ 3 * r.length + 3 := by rw [lL, lL]; omega
  generalize words.take jn ++ ws ++ words.drop (jn + 1) = W at e4' mW
  generalize upd (upd Hd q3 (.lst ((words.drop (jn + 1)).map V.str))) q4 (.lst ((words.take jn ++ ws).map V.str ++ (words.drop (jn + 1)).map V.str)) = He at u4 e4'
  refine ⟨_, aX.of (u4 _ _ elc), fun q5 k5 => ?_⟩
  rw [rG, ← List.map_take]
  refine ⟨W, aX.of (aG.upd k5 _ _ e4'), by rw [HL W s1]; omega, o4 (by decide), fun q6 k6 => ?_⟩
  have jl := sV (y := BL) s1 (m := 3 * r.length + 2) mW
  have jl : (Txt.join (Str.ofString " ") W).length ≤ 3 * r.length + 2 := jl
  generalize Txt.join (Str.ofString " ") W = J at jl k6
  have u6 := u4.trans ((aG.upd (o := .lst ((rows.take kn).map V.str)) k5).trans (aG.upd (o := .lst [V.str J]) k6))
  have e5' := aG.upd (o := .lst [V.str J]) k6 q5 (.lst ((rows.take kn).map V.str)) aB
  have e6' : upd (upd He q5 (.lst ((rows.take kn).map V.str))) q6 (.lst [V.str J]) q6 = some (.lst ([J].map V.str)) := aB
  generalize upd (upd He q5 (.lst ((rows.take kn).map V.str))) q6 (.lst [V.str J]) = Hf at u6 e5' e6'
  refine ⟨_, e5', _, e6', cF (by rw [List.length_map, List.length_map]; show (rows.take kn).length + 1 ≤ _; omega), fun q7 k7 => ?_⟩
  have u7 := u6.trans (aG.upd (o := .lst ((rows.take kn).map V.str ++ [J].map V.str)) k7)
  have e7' : upd Hf q7 (.lst ((rows.take kn).map V.str ++ [J].map V.str)) q7 = some (.lst ((rows.take kn ++ [J]).map V.str)) := by rw [aB, List.map_append]
  generalize upd Hf q7 (.lst ((rows.take kn).map V.str ++ [J].map V.str)) = Hg at u7 e7'
  refine ⟨_, aX.of (u7 _ _ elc), fun q8 k8 => ?_⟩
  rw [show (kn : Int) + 1 = ((kn + 1 : Nat) : Int) from rfl, vA, ← List.map_drop]
  refine ⟨_, aG.upd k8 _ _ e7', _, aB, cF (by rw [List.length_map, List.length_map, List.length_append]; show (rows.take kn).length + 1 + _ ≤ _; omega), fun q9 k9 => ?_⟩
  have u9 := u7.trans ((aG.upd (o := .lst ((rows.drop (kn + 1)).map V.str)) k8).trans (aG.upd (o := .lst ((rows.take kn ++ [J]).map V.str ++ (rows.drop (kn + 1)).map V.str)) k9))
  exact fin (rows.take kn ++ [J] ++ rows.drop (kn + 1)) q9 _ (hpc.same u9) (f0c.trans (.of u9)) (by rw [aB, List.map_append (l₁ := rows.take kn ++ [J])]) (by rw [lL, lL, cS, rK]; omega)
theorem cY : aW ["text", "parts", "name", "day", "names", "head", "row", "letter"] ["text"] (aC cW) := ⟨rfl, rfl, rfl, by decide +kernel, rfl, by decide +kernel, by decide +kernel⟩
set_option maxHeartbeats 4000000 in
theorem uX (T : Txt K mg fs fds tc u cl fI fdI) (G_number_in : aT P w K mg base dF 2 (fs 7) (fds 7) ["text"] MO) (G_is_letter : aT P w K mg base dF 3 (fs 5) (fds 5) ["thing"] (RY fW 2)) : aT P w K mg base dF 4 (fs 11) (fds 11) ["text"] (DW fO Lt.P) := by
 refine T.kD.F.ok cY (fun vs H Q E h => ?_) (fun cdv A outer s H vs Q E hr h => ?_)
 ·obtain ⟨x, rfl, hx, q⟩ := h
  rfl
 ·obtain ⟨x, rfl, hx, q⟩ := h
  refine ⟨_, (aJ (bQ (i := 1) cY.nd rfl (Or.inl rfl) (cO K PySem.F.plainAttrs_str PySem.F.slot_str_split PySem.F.type_str_split DU (pv 0) (aA aM (aA aE aD))))
   (aJ (dI (aS qR (aP (xF K) (by rfl) T.d3 dE (aA (pv 1) aD)) aE (bA _)) (aO (aU eU)) bJ)
   (aJ (vN (pv 1) (LN (n := 4) K rfl (cR (aY (i := 2) cY.nd rfl (Or.inl rfl)) (cR (aY (i := 3) cY.nd rfl (Or.inl rfl)) (cR (aY (i := 4) cY.nd rfl (Or.inl rfl)) (cR (aY (i := 5) cY.nd rfl (Or.inl rfl)) kK))))))
   (aJ (bQ (i := 6) cY.nd rfl (Or.inl rfl) (g0 (aS jI (pv 4) aM (bA _)) (iE aD) (eF (DA K) (by rfl) T.d8 eR (aA (cO K PySem.F.plainAttrs_str PySem.F.slot_str_split PySem.F.type_str_split gX (pv 4) (aA aM aD)) aD))))
   (aJ (bQ (i := 7) cY.nd rfl (Or.inl rfl) (iE (aA (pv 2) (aA (bB T.oB G_number_in hr (by decide) rfl (aA (pv 3) aD)) (aA (pv 5) (aA (pv 6) aD))))))
   (aO (aU (g0 (dM (bB T.oF G_is_letter hr (by decide) rfl (aA (pv 7) aD))) (pv 7) eU)))))))), ?_⟩
  refine aH ?_; walk_at "vc1"
  refine ⟨_, rfl, rfl, x, BL, 3, rfl, rfl, by decide, by decide, by rw [s1]; decide, by omega, fun l hl => ?_⟩
  have s1' := aG.upd (o := .lst ((eV x BL 3).map V.str)) hl
  have el : upd H l (.lst ((eV x BL 3).map V.str)) l = some (.lst ((eV x BL 3).map V.str)) := aB
  generalize upd H l (.lst ((eV x BL 3).map V.str)) = H1 at s1' el
  by_cases BV : (Txt.split x BL).length < 4
  ·rw [zE BV] at el
   rw [wU BV] at q
   refine aH ?_; walk_at "vc0"
   exact ⟨_, aX.of el, nS (by rw [List.length_map]; omega) (q _ H1 s1' rfl)⟩
  obtain ⟨n, d, r, h, hs, e⟩ : ∃ n d r h hs, Txt.split x BL = n :: d :: r :: h :: hs := by
   generalize Txt.split x BL = ps at BV
   match ps, BV with
   | n :: d :: r :: h :: hs, _ => exact ⟨n, d, r, h, hs, rfl⟩
   | [], f => exact absurd (by decide) f
   | [_], f => exact absurd (by simp) f
   | [_, _], f => exact absurd (by simp) f
   | [_, _, _], f => exact absurd (by simp) f
  rw [AJ e] at el
  have pl := eB x BL
  rw [e] at pl
  have ln := pl n (by simp)
  have ld := pl d (by simp)
  have lr := pl r (by simp)
  have lh : (Txt.join BL (h :: hs)).length ≤ 20000 := by
   have ej := congrArg Str.length (eT x BL)
   rw [e, dN] at ej
   rw [dN]
   have e4 : (n ++ BL ++ (d ++ BL ++ (r ++ BL ++ Str.join BL (h :: hs)))).length = x.length := ej
   rw [bN, bN, bN, bN, bN, bN] at e4
   omega
  have eq0 : fO x = (match gN d with | some k => if Lt.ok ⟨n, k, Txt.join BL (h :: hs), iS r⟩ = true then some ⟨n, k, Txt.join BL (h :: hs), iS r⟩ else none | none => none) := by unfold fO; rw [e]; rfl
  rw [eq0] at q
  clear eq0 pl
  generalize Txt.join BL (h :: hs) = hd at lh el q
  refine aH ?_; walk_at "vc0"
  refine ⟨_, aX.of el, oA (by simp) ?_⟩
  refine aH ?_; walk_at "vc0"
  refine ⟨_, aX.of el, rfl, _, _, rfl, _, _, rfl, _, _, rfl, _, _, rfl, rfl, ?_⟩
  refine aH (L7 rfl (by omega) fun t H2 s2 ht => ?_)
  dsimp only [List.set_cons_succ, List.set_cons_zero]
  have rl : (iS r).length ≤ 30000 ∧ ∀ z ∈ iS r, z.length ≤ 20000 := by
   unfold iS
   split
   ·exact ⟨Nat.zero_le _, fun _ h => nomatch h⟩
   ·exact ⟨Nat.le_trans (fQ r CM (by rw [P9]; decide)) (by omega), fun z hz => Nat.le_trans (eB r CM z hz) (by omega)⟩
  generalize iS r = row at ht rl q
  refine aH ?_; walk_at "vc0"
  refine ⟨d, rfl, by omega, fun H3 s3 => ⟨by decide, fun a ha => ?_⟩⟩
  have ht3 := s3 _ _ ht
  have at' : t ≠ a := fun z => by rw [← z, ht3] at ha; cases ha
  have sA := ((s1'.trans s2).trans s3).trans (aG.upd (o := .tup [V.str n, (match gN d with | some k => V.int k | none => V.aZ), .str hd, .ref t]) ha)
  have ht4 : upd H3 a (.tup [V.str n, (match gN d with | some k => V.int k | none => V.aZ), .str hd, .ref t]) t = some (.tup (row.map V.str)) := by rw [aL at']; exact ht3
  have ha4 : upd H3 a (.tup [V.str n, (match gN d with | some k => V.int k | none => V.aZ), .str hd, .ref t]) a = some (.tup [V.str n, (match gN d with | some k => V.int k | none => V.aZ), .str hd, .ref t]) := aB
  generalize upd H3 a (.tup [V.str n, (match gN d with | some k => V.int k | none => V.aZ), .str hd, .ref t]) = H4 at sA ht4 ha4
  have hdv : Any H4 (match gN d with | some k => V.int k | none => V.aZ) := by
   cases gN d with
   | none => exact KL
   | some k => exact J1
  have anyA : Any H4 (.ref a) := A0 ha4 (by show 4 ≤ 30000; decide) fun y hy => by
   simp only [List.mem_cons, List.mem_nil_iff, or_false] at hy
   rcases hy with rfl | rfl | rfl | rfl
   ·exact vV (by omega)
   ·exact hdv
   ·exact vV (by omega)
   ·exact HX ht4 rl.1 rl.2
  refine ⟨_, rfl, anyA 2, fun H5 s5 => ⟨_, rfl, ?_⟩⟩
  rw [zW ha4 ht4]
  cases hn : gN d with
  | none =>
   rw [hn] at q
   have e0 : (bT n && (jX V.aZ && (gU (.str hd) && (!decide (9 < (row.length : Int)) && row.all bT)))) = false := by rw [show jX V.aZ = false from rfl, Bool.false_and, Bool.and_false]
   rw [e0]
   exact gL (q _ H5 (sA.trans s5) rfl)
  | some k =>
   rw [hn] at q ha4
   dsimp only at q ha4 ⊢
   show if (Lt.ok ⟨n, k, hd, row⟩) = true then _ else _
   cases ok : Lt.ok ⟨n, k, hd, row⟩ with
   | false =>
    rw [ok] at q
    exact gL (q _ H5 (sA.trans s5) rfl)
   | true =>
    rw [ok] at q
    refine fC (q _ H5 (sA.trans s5) ?_)
    exact .tup (s5 _ _ ha4) (.cons (.str _) (.cons (.int _) (.cons (.str _) (.cons (.tup (s5 _ _ ht4) hW.strs) .nil))))
theorem iB : aW ["_law_purse_here", "_law_names_here", "_law_found", "_law_k", "_law_letter_here"] ["_law_purse_here", "_law_names_here"] (aC dQ) := ⟨rfl, rfl, rfl, by decide +kernel, rfl, by decide +kernel, by decide +kernel⟩
set_option maxHeartbeats 4000000 in
theorem yU (T : Txt K mg fs fds tc u cl fI fdI) (G_law_letter : aT P w K mg base dF 3 (fs 20) (fds 20) ["_law_purse_here", "_law_names_here"] (pF FN)) (G_law_pick : aT P w K mg base dF 1 (fs 15) (fds 15) ["_law_purse_here", "_law_many"] iI) : aT P w K mg base dF 4 (fs 21) (fds 21) ["_law_purse_here", "_law_names_here"] (pF S1) := by
 refine T.pQ.F.ok iB (fun vs H Q E h => ?_) (fun cdv A outer s H vs Q E hr h => ?_)
 ·obtain ⟨p, g, l, zs, rfl, hp, hN, q⟩ := h
  rfl
 ·obtain ⟨p, g, l, zs, rfl, hp, hN, q⟩ := h
  refine ⟨_, (aJ (bQ (i := 2) iB.nd rfl (Or.inl rfl) (d7 aD))
   (aJ (iH PassesOwn.never rfl (fR rfl T.fD (aA (bC (iZ K) (iO (bK (ew aE) (bK (ew aE) (bK (ew aE) (bK (ew aE) (bK (ew aE) (bK (ew aE) bO))))))).h (bB T.bE G_law_pick hr (by decide) rfl (aA (pv 0) (aA aE aD))) (fun _ _ => rfl)) aD)) (aY (i := 3) iB.nd rfl (Or.inl rfl)) (aJ (bQ (i := 4) iB.nd rfl (Or.inl rfl) (bB T.jH G_law_letter hr (by decide) rfl (aA (pv 0) (aA (pv 1) aD))))
   (aO (dI (aS (O0 K hr) (pv 4) (pv 2) (by rfl)) (aO (gQ (cO K PySem.F.plainAttrs_list PySem.F.slot_list_append PySem.F.type_list_append d5 (pv 2) (aA (pv 4) aD)))) bJ))))
   (aO (aU (eF (DA K) (by rfl) T.d8 eR (aA (aP (QY K hr) (by rfl) T.jR EO (aA (pv 2) aD)) aD)))))), ?_⟩
  refine aH ?_; walk_at "vc0"
  refine ⟨Nat.zero_le _, fun l1 hl1 => ?_⟩
  have np : l1 ≠ p := (hp.G0 hl1).symm
  have ng : l1 ≠ g := (hp.neg hl1).symm
  refine aH ⟨by decide, fun l2 hl2 => ⟨_, rfl, p, g, 6, rfl, (hp.new hl1).new hl2, by decide, by decide, fun d H2 d0 d1 hp2 f2 => ?_⟩⟩
  have hl2' := f2 l2 _ aB ((hp.new hl1).G0 hl2).symm ((hp.new hl1).neg hl2).symm
  obtain ⟨m, hm, hm0, hm1⟩ : ∃ m : Int, rT [V.int 0, V.int 1, V.int 2, V.int 3, V.int 5, V.int 9] d = some (.int m) ∧ 0 ≤ m ∧ m ≤ 9 := by
   have hd : d = 0 ∨ d = 1 ∨ d = 2 ∨ d = 3 ∨ d = 4 ∨ d = 5 := by omega
   rcases hd with rfl | rfl | rfl | rfl | rfl | rfl <;> exact ⟨_, rfl, by decide, by decide⟩
  have h1' : upd (upd H l1 (.lst [])) l2 (.lst [V.int 0, V.int 1, V.int 2, V.int 3, V.int 5, V.int 9]) l1 = some (.lst []) := by rw [aL (aF (aB (H := H) (o := .lst [])) hl2)]; exact aB
  have f2' : Fr p g H H2 := (((Fr.of (aG.upd hl1)).new hl2).trans f2)
  refine ⟨l2, _, d, _, rfl, rfl, aX.of hl2', hm, m, rfl, by omega, by omega, kI (fun i σ H' => gI H' p g ∧ Fr p g H H' ∧ (∃ (vs : List V) (xs : List Lt), H' l1 = some (.lst vs) ∧ xs.length ≤ i ∧ hW H' (xs.map Lt.P) vs ∧ (∀ x ∈ xs, x.Ok) ∧ (xs.map Lt.P).Nodup) ∧ ∃ v3 v4, σ = [some (.ref p), some (.ref l), some (.ref l1), v3, v4]) ?_ ?_ ?_⟩
  ·exact ⟨hp2, f2', ⟨[], [], f2 l1 _ h1' np ng, Nat.le_refl _, .nil, (fun _ h => nomatch h), .nil⟩, _, _, rfl⟩
  ·rintro i σ H3 hi ⟨hp3, f3, ⟨vs, xs, hv, hvl, htr, bY, hnd⟩, v3, v4, rfl⟩
   show sC _ _ _ _ _
   refine aH ?_; walk_at "vc0"
   refine ⟨p, g, l, zs, rfl, hp3, hN.fr f3, fun v x H5 hvt hp5 f5 => ?_⟩
   have hv5 := f5 l1 _ hv np ng
   have k5 := f5.kp hp3 hp5
   have htr5 := htr.kp (vC k5)
   have lx := htr.length
   rw [List.length_map] at lx
   walk_at "vc0"
   refine ⟨vs, hv5, _, htr5, x.P, hvt.tr, nY.2, List.all_eq_true.mpr fun z hz => by obtain ⟨y, _, rfl⟩ := List.mem_map.mp hz; exact nY.2, ?_⟩
   have same : ∃ v3 v4, [some (V.ref p), some (V.ref l), some (V.ref l1), some (V.int (0 + (i : Int))), some v] = [some (V.ref p), some (V.ref l), some (V.ref l1), v3, v4] := ⟨_, _, rfl⟩
   cases hc : (xs.map Lt.P).any fun z => Mr.dP z x.P with
   | true => exact gL ⟨hp5, f3.trans f5, ⟨vs, hv5, xs, by omega, htr5, bY, hnd⟩, _, rfl⟩
   | false =>
    have fresh : x.P ∉ xs.map Lt.P := fun hm => by
     have h2 := List.any_eq_false.mp hc x.P hm
     exact h2 (Mr.wF nY.1)
    refine fC ⟨.inl ⟨_, aX.of hv5⟩, _, hv5, o4 (by omega), hp5.upd np.symm ng.symm, fun b o hb n1 n2 => ?_, ⟨vs ++ [v], aB, xs ++ [x], ?_, ?_, ?_, ?_⟩, ?_⟩
    ·rw [aL (aF hb hl1)]
     exact f5 b o (f3 b o hb n1 n2) n1 n2
    ·rw [List.length_append]; show _ + 1 ≤ _; omega
    ·rw [List.map_append]
     exact (htr5.kp (tO.upd hv5)).app (.cons (hvt.tr.kp (tO.upd hv5)) .nil)
    ·intro y hy
     rcases List.mem_append.mp hy with h | h
     ·exact bY y h
     ·rw [List.mem_singleton.mp h]; exact hvt.ok
    ·rw [List.map_append]
     refine List.nodup_append.mpr ⟨hnd, by simp, fun a ha b hb => ?_⟩
     have eb : b = x.P := by simpa using hb
     rw [eb]
     exact fun z => fresh (z ▸ ha)
    ·exact ⟨_, rfl⟩
  ·rintro σ H3 ⟨hp3, f3, ⟨vs, xs, hv, hvl, htr, bY, hnd⟩, v3, v4, rfl⟩
   have lx := htr.length
   rw [List.length_map] at lx
   obtain ⟨ks, kp, ke, kup⟩ := xR hnd
   walk_at "vc0"
   refine ⟨_, aX.of hv, _, htr, by omega, (fun z hz => by obtain ⟨y, _, rfl⟩ := List.mem_map.mp hz; rfl), xY xs, fun l4 out tro hl4 => ⟨_, aX.of aB, fun l5 hl5 => ?_⟩⟩
   rw [ke] at tro
   have s45 := (aG.upd (o := .lst out) hl4).trans (aG.upd (o := .tup out) hl5)
   exact q _ ks _ ⟨⟨.tup aB (tro.kp s45.kt), fun y hy => bY y (kp.mem_iff.mp hy), by rw [kp.length_eq]; omega⟩, kup⟩ ((hp3.new hl4).new hl5) ((f3.new hl4).new hl5)
theorem rA : aW ["text"] ["text"] (aC cB) := ⟨rfl, rfl, rfl, by decide +kernel, rfl, by decide +kernel, by decide +kernel⟩
set_option maxHeartbeats 4000000 in
theorem pG (T : Txt K mg fs fds tc u cl fI fdI) (G_needed : aT P w K mg base (vX P w) 3 (fs 10) (fds 10) ["thing", "row"] (tY cl)) (G_letter_in : aT P w K mg base dF 4 (fs 11) (fds 11) ["text"] (DW fO Lt.P)) (G_checked : aT P w K mg base dF 1 (fs 8) (fds 8) ["text"] GF) : aT P w K mg base (vX P w) 5 (fs 12) (fds 12) ["text"] (HD cl) := by
 refine T.fZ.F.SJ rA (fun vs H Q E h => ?_) (fun cdv A outer s H vs Q E hr h => ?_)
 ·obtain ⟨z, rfl, hz, q, qe⟩ := h
  rfl
 ·obtain ⟨z, rfl, hz, q, qe⟩ := h
  refine ⟨_, (aO (aU (uI G_needed (hr.mono (by decide)) rfl T.g5.m T.g5.F.kp T.g5.b .nil MQ (aA (bB T.kD G_letter_in hr (by decide) rfl (aA (bB T.m5 G_checked hr (by decide) rfl (aA (pv 0) aD)) aD)) (aA aE aD))))), ?_⟩
  walk_at "vc0"
  refine ⟨z, rfl, z, rfl, hz, fun v H1 s1 h => ?_⟩
  cases e : fO z with
  | none =>
   rw [e] at h
   refine ⟨v, 0, rfl, fun n => absurd h n, fun _ a H2 s2 x => qe e a H2 (s1.trans s2) x⟩
  | some x =>
   rw [e] at h
   exact ⟨v, 0, rfl, fun _ => q x v H1 e s1 h, fun n => by rw [n] at h; cases h⟩
theorem fG : aW ["text", "letters", "at", "row", "letter"] ["text"] (aC cP) := ⟨rfl, rfl, rfl, by decide +kernel, rfl, by decide +kernel, by decide +kernel⟩
set_option maxHeartbeats 4000000 in
theorem uK (T : Txt K mg fs fds tc u cl fI fdI) (G_init : aT P w K mg base dF 1 fI fdI ["self", "row"] (y8 cl)) (G_rows_in : aT P w K mg base dF 2 (fs 9) (fds 9) ["text"] FO) (G_needed : aT P w K mg base (vX P w) 3 (fs 10) (fds 10) ["thing", "row"] (tY cl)) (G_letter_in : aT P w K mg base dF 4 (fs 11) (fds 11) ["text"] (DW fO Lt.P)) : aT P w K mg base (vX P w) 5 (fs 13) (fds 13) ["text"] (HV cl) := by
 refine T.hJ.F.SJ fG (fun vs H Q E h => ?_) (fun cdv A outer s H vs Q E hr h => ?_)
 ·obtain ⟨z, rfl, hz, q, qe⟩ := h
  rfl
 ·obtain ⟨z, rfl, hz, q, qe⟩ := h
  refine ⟨_, (aJ (bQ (i := 1) fG.nd rfl (Or.inl rfl) (d7 aD))
   (aJ (iH PassesOwn.leaving rfl (BE K rfl T.fA (aA (bB T.sX G_rows_in hr (by decide) rfl (aA (pv 0) aD)) aD)) (lU (n := 2) K rfl (cR (aY (i := 2) fG.nd rfl (Or.inl rfl)) (cR (aY (i := 3) fG.nd rfl (Or.inl rfl)) kK))) (aJ (bQ (i := 4) fG.nd rfl (Or.inl rfl) (uI G_needed (hr.mono (by decide)) rfl T.g5.m T.g5.F.kp T.g5.b .nil MQ (aA (bB T.kD G_letter_in hr (by decide) rfl (aA (pv 3) aD)) (aA (pv 2) aD))))
   (aJ (dI (PW.pt (m8 (IT (pv 1) (fun _ => rfl)) (kJ (aS (OU hr) (pv 4) (bC (iZ K) (pv 1) (xQ pT aE) (fun _ _ => rfl)) (bA _))))) (aO (wD xW rfl (CC rfl T.pE T.x0 T.S2 T.ft G_init (hr.mono (by decide)) T.bi (aA (pv 2) aD)))) bJ)
   (aO (gQ (cO K PySem.F.plainAttrs_list PySem.F.slot_list_append PySem.F.type_list_append d5 (pv 1) (aA (pv 4) aD)))))))
   (aO (aU (eF (DA K) (by rfl) T.d8 eR (aA (pv 1) aD)))))), ?_⟩
  refine aH ?_; walk_at "vc0"
  refine ⟨Nat.zero_le _, fun p hp => ?_⟩
  obtain ⟨rf1, rf2⟩ := x9 z
  refine aH ⟨_, rfl, z, rfl, (by omega), fun l H1 hl1 s1 el => .inr ⟨l, _, rfl, aX.of el, sT (K := K) (a := l) (xs := (fH z).map V.str) (fun i σ H' => aG H H' ∧ H' l = some (.lst ((fH z).map V.str)) ∧ (∃ (vs : List V) (xs : List Lt), H' p = some (.lst vs) ∧ hW H' (xs.map Lt.P) vs ∧ xs.length = i ∧ jZ xs i ((fH z).drop i) = EW z) ∧ ∃ v2 v3 v4, σ = [some (.str z), some (.ref p), v2, v3, v4]) ?_ (fun i σ H' _ ⟨_, h, _⟩ => aX.of h) ?_ ?_⟩⟩
  ·exact ⟨(aG.upd hp).trans s1, el, ⟨[], [], s1 _ _ aB, .nil, rfl, HW z⟩, _, _, _, rfl⟩
  ·rintro i x t σ H2 hi ht ⟨s2, el2, ⟨vs, xs, ep, tl, lx, hpk⟩, v2, v3, v4, rfl⟩
   have lp : l ≠ p := fun e => by rw [e, aB] at hl1; cases hl1
   obtain ⟨r, hr0, rfl⟩ := strAt hi
   have hil : i < (fH z).length := (List.getElem?_eq_some_iff.mp hr0).1
   rw [rN hr0] at hpk
   have hrl := rf2 r (List.mem_of_getElem? hr0)
   have st := aG.upd (o := .tup [.int i, .str r]) ht
   walk_at "vc0"
   refine ⟨_, dZ.of aB, rfl, _, _, rfl, _, _, rfl, rfl, ?_⟩
   show sC _ _ _ _ _
   refine aH ?_; walk_at "vc0"
   refine ⟨r, rfl, by omega, fun v H3 s3 h3 => ?_⟩
   have s23 := st.trans s3
   have s03 := s2.trans s23
   cases hy : fO r with
   | none =>
    rw [hy] at h3
    rw [BP hy] at hpk
    exact ⟨v, i, rfl, fun n => absurd h3 n, fun _ a H4 s4 x4 => qe i hpk.symm a H4 (s03.trans s4) x4⟩
   | some y =>
   rw [hy] at h3
   have h3 : Tr H3 y.P v := h3
   refine ⟨v, i, rfl, fun _ => ?_, fun n => by rw [n] at h3; cases h3⟩
   have ep3 := s23 _ _ ep
   have tl3 := tl.kp s23.kt
   have len := tl3.length
   rw [List.length_map, lx] at len
   have next : ∀ (up : (xs.getLast?.any fun w => !ltB w y) = false), (aG H (upd H3 p (.lst (vs ++ [v])))) ∧ (upd H3 p (.lst (vs ++ [v]))) l = some (.lst ((fH z).map V.str)) ∧ (∃ vs', (upd H3 p (.lst (vs ++ [v]))) p = some (.lst vs') ∧ ∃ xs', hW (upd H3 p (.lst (vs ++ [v]))) (xs'.map Lt.P) vs' ∧ xs'.length = i + 1 ∧ jZ xs' (i + 1) ((fH z).drop (i + 1)) = EW z) := by
    intro up
    refine ⟨fun b o hb => ?_, by rw [aL lp]; exact s23 _ _ el2, _, aB, xs ++ [y], ?_, by rw [List.length_append, lx]; rfl, ?_⟩
    ·rw [aL (aF hb hp)]; exact s03 _ _ hb
    ·have k3 := tO.upd (ys := vs ++ [v]) ep3
     rw [List.map_append]
     exact (tl3.kp k3).app (.cons (h3.kp k3) .nil)
    ·rw [← hpk, A2 hy up]
   refine aH ?_; walk_at "vc0"
   have hv : vs.length < sizeLine := o4 (by omega)
   rcases List.eq_nil_or_concat vs with e | ⟨us, w, e⟩ <;> (try rw [List.concat_eq_append] at e)
   ·subst e
    have ex : xs = [] := List.eq_nil_of_length_eq_zero (by rw [lx, len]; rfl)
    have nx := next (by rw [ex]; rfl)
    exact ⟨false, .inl ⟨_, aX.of ep3, rfl⟩, gL ⟨.inl ⟨_, aX.of ep3⟩, _, ep3, hv, nx.1, nx.2.1, nx.2.2, _, rfl⟩⟩
   ·subst e
    have lu : us.length + 1 = i := by rw [len, List.length_append]; rfl
    obtain ⟨p', ep', tp⟩ := tl3.get (i := us.length) (v := w) (by simp)
    rw [List.getElem?_map] at ep'
    obtain ⟨yl, hyl, rfl⟩ := Option.map_eq_some_iff.mp ep'
    have hgl : xs.getLast? = some yl := by rw [wL (n := us.length) (by omega)]; exact hyl
    refine ⟨true, .inl ⟨_, aX.of ep3, by cases us <;> rfl⟩, fC ⟨_, aX.of ep3, w, q0 us w, _, h3, _, tp, nY.1, nY.1, _, HY yl y, ?_⟩⟩
    cases eb : ltB yl y with
    | true =>
     have nx := next (by rw [hgl]; show (!ltB yl y) = false; rw [eb]; rfl)
     exact gL ⟨.inl ⟨_, aX.of ep3⟩, _, ep3, hv, nx.1, nx.2.1, nx.2.2, _, rfl⟩
    | false =>
     refine fC ⟨by decide, fun a ha => ⟨a, i, rfl, aB, fun dx hdx => ⟨rfl, cl 0, some dx, aB, ⟨_, _, T.x0⟩, ?_⟩⟩⟩
     obtain ⟨s4, r4⟩ := MN (r := (i : Int)) ha hdx
     refine qe i ?_ a _ (s03.trans s4) r4
     rw [← hpk, AW hy (by rw [hgl]; show (!ltB yl y) = true; rw [eb]; rfl)]
  ·rintro σ H2 ⟨s2, el2, ⟨vs, xs, ep, tl, lx, hpk⟩, v2, v3, v4, rfl⟩
   rw [List.length_map, List.drop_length, xB] at hpk
   walk_at "vc0"
   exact ⟨_, aX.of ep, fun a ha => q xs _ _ hpk.symm (s2.trans (aG.upd ha)) (.tup aB (tl.kp (aG.upd ha).kt))⟩
theorem e7 : aW ["_law_reader", "_law_text", "_law_found", "_law_row", "e"] ["_law_reader", "_law_text"] (aC dS) := ⟨rfl, rfl, rfl, by decide +kernel, rfl, by decide +kernel, by decide +kernel⟩
set_option maxHeartbeats 4000000 in
theorem yD (T : Txt K mg fs fds tc u cl fI fdI) (G_read_letter : aT P w K mg base (vX P w) 5 (fs 12) (fds 12) ["text"] (HD cl)) (G_read_pack : aT P w K mg base (vX P w) 5 (fs 13) (fds 13) ["text"] (HV cl)) : aT P w K mg base dF 6 (fs 28) (fds 28) ["_law_reader", "_law_text"] (E8 fs) := by
 refine T.lQ.F.ok e7 (fun vs H Q E h => ?_) (fun cdv A outer s H vs Q E hr h => ?_)
 ·obtain ⟨f, z, rfl, hz, q⟩ := h
  rfl
 ·obtain ⟨f, z, rfl, hz, q⟩ := h
  refine ⟨_, (aJ (vN (iE (aA eU (aA eU aD))) (lU (n := 2) K rfl (cR (aY (i := 2) e7.nd rfl (Or.inl rfl)) (cR (aY (i := 3) e7.nd rfl (Or.inl rfl)) kK))))
   (aJ (JS (i := 2) rfl rfl e7.nd rfl (Or.inl rfl) (LR (i := 0) (C := MS fs) (S := MM fs cl) rfl (Or.inl rfl) (fun f hc => LQ T hc) (fun f vs H Q E hh => IX T G_read_letter G_read_pack hr (by decide) (by decide) hh) (fun _ => (aA (pv 1) aD))) (OC (.cons rfl T.FJ (by decide) rfl (.cons rfl T.DP (by decide) rfl (.cons rfl T.L4 (by decide) rfl (.cons rfl T.HU (by decide) rfl (.cons rfl T.OR (by decide) rfl .nil))))) (by show 5 ≤ _; decide) (QJ (j := 4) rfl T.pE e7.nd rfl rfl (fun _ _ => (aO (bQ (i := 3) e7.nd rfl (Or.inl rfl) (g0 (PW.pt (m8 (dM (aP (xM K) (by rfl) T.aQ aR (aA (pv 4) (aA (fX (v := .ref (cl 6)) rfl T.yG rfl) aD)))) (kJ (dM (aP (xM K) (by rfl) T.aQ aR (aA (pv 4) (aA (cJ (v := .ty "ValueError") rfl T.fM rR rfl) aD))))))) (GA K (pv 4)) aM)))) OZ)))
   (aO (aU (g0 (aS nB (pv 3) eU (bA _)) (pv 2) (d7 (aA (pv 3) aD))))))), ?_⟩
  refine aH ?_; walk_at "vc0"
  refine ⟨by decide, fun p hp => ⟨_, dZ.of aB, rfl, _, _, rfl, _, _, rfl, rfl, ?_⟩⟩
  have s0' := aG.upd (o := .tup [V.aZ, V.aZ]) hp
  generalize upd H p (.tup [V.aZ, V.aZ]) = H0 at s0'
  refine aH ?_
  walk_at "vc0"
  rcases q with ⟨e, q⟩ | ⟨e, q⟩
  ·refine ⟨.inl e, .inl ⟨e, z, rfl, hz, fun x v H1 hx s1 t => q v H1 (s0'.trans s1) ?_, fun hn a H1 s1 hx => ⟨a, rfl, fun c hc => by
    simp only [List.mem_cons, List.mem_nil_iff, or_false] at hc
    rcases hc with rfl | rfl | rfl | rfl | rfl <;> exact T.xe _ (by decide), true, T.xe 0 (by decide), fC ⟨cl 0, _, (fun v h => h), hx.is, T.xc, T.xg, _, T.xt, fC ⟨cl 0, _, (fun v h => h), hx.is, T.xc, T.xg, _, T.xv, fC ⟨cl 0, _, hx, T.xc, T.na, _, rfl, oA (fun n => nomatch n) ⟨by decide, fun p hp => q _ _ ((s0'.trans s1).trans (aG.upd hp)) ?_⟩⟩⟩⟩⟩⟩⟩
   ·unfold tV; rw [hx]; exact t
   ·unfold tV; rw [hn]; exact ⟨p, rfl, aB⟩
  ·refine ⟨.inr e, .inr ⟨e, z, rfl, hz, fun xs v H1 hx s1 t => q v H1 (s0'.trans s1) ?_, fun i hn a H1 s1 hx => ⟨a, rfl, fun c hc => by
    simp only [List.mem_cons, List.mem_nil_iff, or_false] at hc
    rcases hc with rfl | rfl | rfl | rfl | rfl <;> exact T.xe _ (by decide), true, T.xe 0 (by decide), fC ⟨cl 0, _, (fun v h => h), hx.is, T.xc, T.xg, _, T.xt, fC ⟨cl 0, _, (fun v h => h), hx.is, T.xc, T.xg, _, T.xv, fC ⟨cl 0, _, hx, T.xc, T.na, _, rfl, oA (fun n => nomatch n) ⟨by decide, fun p hp => q _ _ ((s0'.trans s1).trans (aG.upd hp)) ?_⟩⟩⟩⟩⟩⟩⟩
   ·unfold GG; rw [hx]; exact t
   ·unfold GG; rw [hn]; exact ⟨p, rfl, aB⟩
theorem xE : aW ["_law_found", "_law_due"] ["_law_found", "_law_due"] (aC dB) := ⟨rfl, rfl, rfl, by decide +kernel, rfl, by decide +kernel, by decide +kernel⟩
set_option maxHeartbeats 4000000 in
theorem eC (T : Txt K mg fs fds tc u cl fI fdI)  (m : Nat) (G_law_same : aT P w K mg base dF (1 + m) (fs 23) (fds 23) ["_law_found", "_law_due"] (uD m)) : aT P w K mg base dF (1 + m + 1) (fs 23) (fds 23) ["_law_found", "_law_due"] (uD (m + 1)) := by
 refine T.jC.F.ok xE (fun vs H Q E h => ?_) (fun cdv A outer s H vs Q E hr h => ?_)
 ·obtain ⟨u, v, p, rfl, hu, hv, al, q⟩ := h
  rfl
 ·obtain ⟨u, v, p, rfl, hu, hv, al, q⟩ := h
  refine ⟨_, (aJ (dI (dM (aP (jP K) (by rfl) T.aQ aR (aA (pv 1) (aA (cJ (v := .ty "tuple") rfl T.d8 eR rfl) aD)))) (aJ (dI (PW.pt (gY (fE (dM (aP (jP K) (by rfl) T.aQ aR (aA (pv 0) (aA (cJ (v := .ty "tuple") rfl T.d8 eR rfl) aD))))) (fS (aS yN (aP (JR K) (by rfl) T.d3 dE (aA (pv 0) aD)) (aP (JR K) (by rfl) T.d3 dE (aA (pv 1) aD)) (bA _))))) (aO (aU kX)) bJ)
   (aO (aU (aP (vB K rfl) (by rfl) T.iY jA (aA (jK ["_law_one", "_law_other"] 2 [] ["_law_found", "_law_due"] (aC dB) rfl rfl rfl (PQ K rfl T.yL (aA (pv 0) (aA (pv 1) aD))) (by decide +kernel) (fun _ => (lU (n := 2) K rfl (cR (aY (i := 0) (show (["_law_one", "_law_other"] : List Str).Nodup by decide +kernel) rfl (Or.inl rfl)) (cR (aY (i := 1) (show (["_law_one", "_law_other"] : List Str).Nodup by decide +kernel) rfl (Or.inl rfl)) kK)))) (fun _ => eI) (fun _ => (bB T.jC G_law_same hr (by omega) rfl (aA (pv 0) (aA (pv 1) aD))))) aD))))) bJ)
   (aJ (dI (aS nB (pv 1) eU (bA _)) (aO (aU (gM nB (pv 0) eU (bA _)))) bJ)
   (aJ (dI (dM (aP (jP K) (by rfl) T.aQ aR (aA (pv 1) (aA (cJ (v := .ty "str") rfl T.kY nJ rfl) aD)))) (aO (aU (g7 (aP (jP K) (by rfl) T.aQ aR (aA (pv 0) (aA (cJ (v := .ty "str") rfl T.kY nJ rfl) aD))) (jV (gM jI (pv 0) (pv 1) (bA _)))))) bJ)
   (aO (aU (g7 (aP (jP K) (by rfl) T.aQ aR (aA (pv 0) (aA (cJ (v := .ty "int") rfl T.nW tW rfl) aD))) (g7 (gM jI (aP (jP K) (by rfl) T.aQ aR (aA (pv 0) (aA (cJ (v := .ty "bool") rfl T.lJ vU rfl) aD))) (aP (jP K) (by rfl) T.aQ aR (aA (pv 1) (aA (cJ (v := .ty "bool") rfl T.lJ vU rfl) aD))) (bA _)) (jV (gM jI (pv 0) (pv 1) (bA _)))))))))), ?_⟩
  have kb : ∀ (a b : String) (c : Bool), PySem.W.kitOne K (.type a) (.type b) = some c → PySem.W.kitOne K (.type a) (.type b) = some c := fun _ _ _ h => h
  refine aH ?_; walk_at "vc0"
  cases hu with
  | tup ha hp =>
   cases hv with
   | tup hb hq =>
    rename_i a us ps b ws
    obtain ⟨k, rfl⟩ : ∃ k, m = k + 1 := by cases m with
     | zero => cases al
     | succ k => exact ⟨k, rfl⟩
    have al : (decide (ps.length ≤ 30000) && ps.all (alike k)) = true := al
    rw [Bool.and_eq_true, decide_eq_true_iff, List.all_eq_true] at al
    have l1 := hp.length
    have l2 := hq.length
    refine ⟨_, .tup hb, _, nR, fC ?_⟩
    refine aH ?_; walk_at "vc0"
    refine ⟨_, .tup ha, _, nR, dO ⟨_, dZ.of ha, _, dZ.of hb, ?_⟩⟩
    rw [show (us.length : Int) = (ws.length : Int) by omega, decide_eq_true rfl]
    refine ⟨rfl, dO ⟨_, rfl, _, rfl, a, b, us, ws, rfl, dZ.of ha, dZ.of hb, fun l hl => D3 (dZ.of ha) (dZ.of hb) (by omega) (fun _ => V.bl true) (fun σ => ∃ o o2, σ = [o, o2]) ⟨_, _, rfl⟩ hl (o4 (by omega)) ?_ ?_⟩⟩
    ·rintro i x y t σ H1 zs N hx hy ⟨o, o2, rfl⟩ s1 ht el hz tl hN
     obtain ⟨p1, ep1, t1⟩ := hp.get hx
     obtain ⟨p2, ep2, t2⟩ := hq.get hy
     have e12 : p1 = p2 := by rw [ep1] at ep2; exact Option.some.inj ep2
     subst e12
     have st := aG.upd (o := .tup [x, y]) ht
     unfold cM
     walk_at "vc2"
     refine ⟨_, dZ.of aB, rfl, _, _, rfl, _, _, rfl, rfl, ?_⟩
     refine ⟨x, y, p1, rfl, (t1.kp s1.kt).kp st.kt, (t2.kp s1.kt).kp st.kt, al.2 p1 (List.mem_of_getElem? ep1), fun H2 s2 => ⟨zs, s2 _ _ el, hz, hN _ _ ⟨_, _, rfl⟩ (fun b o h n => by rw [aL n]; exact s2 b o h) aB⟩⟩
    ·intro H1 s1 el
     refine ⟨l, rfl, (List.range us.length).map fun _ => true, aX.of (by rw [el]; unfold lK; rw [List.map_map]; rfl), ?_⟩
     rw [show ((List.range us.length).map fun _ => true).all id = true by rw [List.all_map]; simp]
     exact q H1 s1
  | aZ =>
   cases hv
   refine ⟨_, .aZ, _, (show PySem.W.kitOne K (.type "NoneType") (.type "tuple") = some false by kernel_rfl), gL ?_⟩
   refine aH ?_; walk_at "vc0"
   exact q H (aG.refl _)
  | bl b =>
   cases hv
   refine ⟨_, .bl b, _, (show PySem.W.kitOne K (.type "bool") (.type "tuple") = some false by kernel_rfl), gL ?_⟩
   refine aH ?_; walk_at "vc0"
   refine aH ?_; walk_at "vc0"
   have kb : PySem.W.kitOne K (.type "bool") (.type "bool") = some true := by rfl
   exact ⟨_, .bl b, _, (show PySem.W.kitOne K (.type "bool") (.type "str") = some false by kernel_rfl), gL ⟨_, .bl b, _, (show PySem.W.kitOne K (.type "bool") (.type "int") = some true by kernel_rfl), fC ⟨_, .bl b, _, kb, _, .bl b, _, kb, rfl, nS rfl ⟨rfl, q H (aG.refl _)⟩⟩⟩⟩
  | int i =>
   cases hv
   refine ⟨_, .int i, _, (show PySem.W.kitOne K (.type "int") (.type "tuple") = some false by kernel_rfl), gL ?_⟩
   refine aH ?_; walk_at "vc0"
   refine aH ?_; walk_at "vc0"
   have kb : PySem.W.kitOne K (.type "int") (.type "bool") = some false := by kernel_rfl
   exact ⟨_, .int i, _, (show PySem.W.kitOne K (.type "int") (.type "str") = some false by kernel_rfl), gL ⟨_, .int i, _, (show PySem.W.kitOne K (.type "int") (.type "int") = some true by rfl), fC ⟨_, .int i, _, kb, _, .int i, _, kb, rfl, nS rfl ⟨rfl, q H (aG.refl _)⟩⟩⟩⟩
  | str x =>
   cases hv
   refine ⟨_, .str x, _, (show PySem.W.kitOne K (.type "str") (.type "tuple") = some false by kernel_rfl), gL ?_⟩
   refine aH ?_; walk_at "vc0"
   refine aH ?_; walk_at "vc0"
   exact ⟨_, .str x, _, jW, fC ⟨_, .str x, _, jW, fC ⟨rfl, q H (aG.refl _)⟩⟩⟩
theorem vL : aW ["_law_told_here", "_law_due"] ["_law_told_here", "_law_due"] (aC dA) := ⟨rfl, rfl, rfl, by decide +kernel, rfl, by decide +kernel, by decide +kernel⟩
set_option maxHeartbeats 4000000 in
theorem uQ (T : Txt K mg fs fds tc u cl fI fdI) (G_law_same : aT P w K mg base dF 8 (fs 23) (fds 23) ["_law_found", "_law_due"] (uD 7)) : aT P w K mg base dF 9 (fs 30) (fds 30) ["_law_told_here", "_law_due"] BC := by
 refine T.kC.F.ok vL (fun vs H Q E h => ?_) (fun cdv A outer s H vs Q E hr h => ?_)
 ·obtain ⟨u, v, o, rfl, hu, hv, al, q⟩ := h
  rfl
 ·obtain ⟨u, v, o, rfl, hu, hv, al, q⟩ := h
  refine ⟨_, (aJ (dI (PW.pt (gY (dM (aP (jP K) (by rfl) T.aQ aR (aA (pv 1) (aA (cJ (v := .ty "list") rfl T.jU pA rfl) aD)))) (fS (dM (aP (jP K) (by rfl) T.aQ aR (aA (pv 0) (aA (cJ (v := .ty "list") rfl T.jU pA rfl) aD))))))) (aO (aU (g7 (aP (jP K) (by rfl) T.aQ aR (aA (pv 1) (aA (cJ (v := .ty "list") rfl T.jU pA rfl) aD))) (g7 (aP (jP K) (by rfl) T.aQ aR (aA (pv 0) (aA (cJ (v := .ty "list") rfl T.jU pA rfl) aD))) (jV (bB T.jC G_law_same hr (by decide) rfl (aA (bC (iZ K) (pv 0) aE (fun _ _ => rfl)) (aA (bC (iZ K) (pv 1) aE (fun _ _ => rfl)) aD)))))))) bJ)
   (aO (aU (bB T.jC G_law_same hr (by decide) rfl (aA (pv 0) (aA (pv 1) aD)))))), ?_⟩
  refine aH ?_; walk_at "vc0"
  cases o with
  | inl i =>
   obtain ⟨l1, rfl, h1⟩ := hu
   obtain ⟨l2, rfl, h2⟩ := hv
   have k1 : PySem.W.kitOne K (.type "list") (.type "list") = some true := by rfl
   refine ⟨_, .lst h2, _, k1, fC ⟨_, .lst h2, _, k1, fC ⟨_, .lst h1, _, k1, fC ⟨l1, rfl, _, aX.of h1, _, L3, l2, rfl, _, aX.of h2, _, L3, _, _, .int i, rfl, .int _, .int _, rfl, fun H' s' => q H' s'⟩⟩⟩⟩
  | inr p =>
   obtain ⟨al, ps, rfl⟩ := al p rfl
   obtain ⟨a1, us, rfl, h1, t1⟩ := Tr.G4 hu
   obtain ⟨a2, ws, rfl, h2, t2⟩ := Tr.G4 hv
   have k1 : PySem.W.kitOne K (.type "tuple") (.type "list") = some false := by kernel_rfl
   refine ⟨_, .tup h2, _, k1, gL ⟨_, .tup h1, _, k1, gL ?_⟩⟩
   exact ⟨_, _, _, rfl, hu, hv, al, fun H' s' => q H' s'⟩
theorem gZ : aW ["_law_script", "_law_purse_here", "_law_turn", "_law_names_here", "_law_letter_here", "_law_pack_here", "_law_tried", "_law_k", "_law_ahead", "_law_text", "_law_rows"] ["_law_script"] (aC gJ) := ⟨rfl, rfl, rfl, by decide +kernel, rfl, by decide +kernel, by decide +kernel⟩
set_option maxHeartbeats 4000000 in
theorem N8 (T : Txt K mg fs fds tc u cl fI fdI) (G_law_purse : aT P w K mg base dF 1 (fs 14) (fds 14) ["_law_script"] (CU K)) (G_law_names : aT P w K mg base dF 3 (fs 17) (fds 17) ["_law_purse_here", "_law_many"] B1) (G_law_edges : aT P w K mg base dF 2 (fs 32) (fds 32) ["_law_letter_here", "_law_one"] B4) (G_law_letter : aT P w K mg base dF 3 (fs 20) (fds 20) ["_law_purse_here", "_law_names_here"] (pF FN)) (G_law_pack : aT P w K mg base dF 4 (fs 21) (fds 21) ["_law_purse_here", "_law_names_here"] (pF S1)) (G_law_written : aT P w K mg base dF 1 (fs 22) (fds 22) ["_law_letter_here"] OG) (G_law_agree : aT P w K mg base dF 9 (fs 30) (fds 30) ["_law_told_here", "_law_due"] BC) (G_law_spoilt : aT P w K mg base dF 3 (fs 31) (fds 31) ["_law_purse_here", "_law_text"] yA) (G_law_told : aT P w K mg base dF 6 (fs 28) (fds 28) ["_law_reader", "_law_text"] (E8 fs)) (G_read_letter : aT P w K mg base (vX P w) 5 (fs 12) (fds 12) ["text"] (HD cl)) (G_law_or_refused : aT P w K mg base dF 1 (fs 29) (fds 29) ["_law_thing"] BX) (G_read_pack : aT P w K mg base (vX P w) 5 (fs 13) (fds 13) ["text"] (HV cl)) (G_law_pack_of : aT P w K mg base dF 3 (fs 27) (fds 27) ["_law_text"] FW) (G_law_letter_of : aT P w K mg base dF 2 (fs 26) (fds 26) ["_law_text"] (DW fO Lt.P)) : aT P w K mg base dF 10 (fs 33) (fds 33) ["_law_script"] (BB K) := by
 refine T.Q9.F.ok gZ (fun vs H Q E h => ?_) (fun cdv A outer s H vs Q E hr h => ?_)
 ·obtain ⟨a, ns, rfl, hS, hlen, q⟩ := h
  rfl
 ·obtain ⟨a, ns, rfl, hS, hlen, q⟩ := h
  refine ⟨_, (aJ (bQ (i := 1) gZ.nd rfl (Or.inl rfl) (bB T.nV G_law_purse hr (by decide) rfl (aA (pv 0) aD)))
   (aJ (iH PassesOwn.never rfl (fR rfl T.fD (aA (aP (tG rfl) (by rfl) T.sH HZ (aA aE (aA (aP (DS rfl) (by rfl) T.xA OM (aA aE (aA (aP (xF K) (by rfl) T.d3 dE (aA (pv 0) aD)) aD))) aD))) aD)) (aY (i := 2) gZ.nd rfl (Or.inl rfl)) (aJ (bQ (i := 3) gZ.nd rfl (Or.inl rfl) (bB T.oE G_law_names hr (by decide) rfl (aA (pv 1) (aA aE aD))))
   (aJ (lN (i := 4) (j := 5) rfl gZ.nd rfl rfl (by decide) rfl rfl (aA (bB T.jH G_law_letter hr (by decide) rfl (aA (pv 1) (aA (pv 3) aD))) (aA (bB T.pQ G_law_pack hr (by decide) rfl (aA (pv 1) (aA (pv 3) aD))) aD)) rfl)
   (aJ (bQ (i := 6) gZ.nd rfl (Or.inl rfl) (d7 (aA (iE (aA (bB T.gA G_law_written hr (by decide) rfl (aA (pv 4) aD)) (aA (cO K PySem.F.plainAttrs_str PySem.F.slot_str_join PySem.F.type_str_join (sR K) aM (aA (jK ["_law_each"] 1 [] ["_law_script", "_law_purse_here", "_law_turn", "_law_names_here", "_law_letter_here", "_law_pack_here", "_law_tried", "_law_k", "_law_ahead", "_law_text", "_law_rows"] (aC gJ) rfl rfl rfl (IF K (pv 5)) (by decide +kernel) (fun _ => (aY (i := 0) (show (["_law_each"] : List Str).Nodup by decide +kernel) rfl (Or.inl rfl))) (fun _ => eI) (fun _ => (bB T.gA G_law_written hr (by decide) rfl (aA (pv 0) aD)))) aD)) aD))) aD)))
   (aJ (iH PassesOwn.never rfl (fR rfl T.fD (aA aE aD)) (aY (i := 7) gZ.nd rfl (Or.inl rfl)) (aJ (bQ (i := 8) gZ.nd rfl (Or.inl rfl) (bC (iZ K) (pv 6) (aP (tG rfl) (by rfl) T.sH HZ (aA aE (aA (bH nH (pv 7) aE) aD))) (fun _ _ => rfl)))
   (aO (gQ (cO K PySem.F.plainAttrs_list PySem.F.slot_list_append PySem.F.type_list_append d5 (pv 6) (aA (iE (aA (bB T.jE G_law_spoilt hr (by decide) rfl (aA (pv 1) (aA (bC (CF K) (pv 8) aE (fun _ _ => rfl)) aD))) (aA (bB T.jE G_law_spoilt hr (by decide) rfl (aA (pv 1) (aA (bC (CF K) (pv 8) aE (fun _ _ => rfl)) aD))) aD))) aD))))))
   (aJ (iH PassesOwn.never rfl (qQ K (bB T.nU G_law_edges hr (by decide) rfl (aA (pv 4) (aA (bC (iZ K) (pv 3) (xQ pT aE) (fun _ _ => rfl)) aD)))) (aY (i := 9) gZ.nd rfl (Or.inl rfl)) (aO (gQ (cO K PySem.F.plainAttrs_list PySem.F.slot_list_append PySem.F.type_list_append d5 (pv 6) (aA (iE (aA (pv 9) (aA (pv 9) aD))) aD)))))
   (aO (iH PassesOwn.never rfl (qQ K (bH lG (pv 6) (bR (EV K) (pv 6) (bS (xQ pT aE)) cH))) (lU (n := 2) K rfl (cR (aY (i := 9) gZ.nd rfl (Or.inl rfl)) (cR (aY (i := 10) gZ.nd rfl (Or.inl rfl)) kK))) (aJ (dI (fE (dM (bB T.kC G_law_agree hr (by decide) rfl (aA (bB T.lQ G_law_told hr (by decide) rfl (aA (fX (v := .ref (fs 12)) rfl T.fZ.m rfl) (aA (pv 9) aD))) (aA (bB T.iN G_law_or_refused hr (by decide) rfl (aA (bB T.gF G_law_letter_of hr (by decide) rfl (aA (pv 9) aD)) aD)) aD))))) (aO (aU kX)) bJ)
   (aO (dI (fE (dM (bB T.kC G_law_agree hr (by decide) rfl (aA (bB T.lQ G_law_told hr (by decide) rfl (aA (fX (v := .ref (fs 13)) rfl T.hJ.m rfl) (aA (pv 10) aD))) (aA (bB T.lA G_law_pack_of hr (by decide) rfl (aA (pv 10) aD)) aD))))) (aO (aU kX)) bJ)))))))))))
   (aO (aU kX)))), ?_⟩
  refine aH ?_; walk_at "vc0"
  refine ⟨a, ns, rfl, hS, hlen, fun p g H1 np0 ng0 hp1 s1' => ?_⟩
  have hm := turns (L := ((ns.map V.int).length : Int)) (c := 3) (by decide)
  refine aH ⟨_, rfl, a, _, rfl, hS.same s1', _, _, rfl, _, _, rfl, _, rfl, by omega, by omega, kI (fun i σ H' => gI H' p g ∧ aG H H' ∧ ∃ v2 v3 v4 v5 v6 v7 v8 v9 v10, σ = [some (V.ref a), some (V.ref p), v2, v3, v4, v5, v6, v7, v8, v9, v10]) ⟨hp1, s1', _, _, _, _, _, _, _, _, _, rfl⟩ ?_ ?_⟩
  ·rintro i σ H2 hi ⟨hp2, s2, v2, v3, v4, v5, v6, v7, v8, v9, v10, rfl⟩
   show sC _ _ _ _ _
   refine aH ?_; walk_at "vc0"
   refine ⟨p, g, rfl, hp2, fun l zs H3 hl hN3 hp3 f3 => ?_⟩
   refine aH ?_; walk_at "vc0"
   refine ⟨p, g, l, zs, rfl, hp3, hN3, fun v x H4 hx4 hp4 f4 => ⟨p, g, l, zs, rfl, hp4, hN3.fr f4, fun vk xk H5 hk5 hp5 f5 => ?_⟩⟩
   refine aH ?_; walk_at "vc1"
   have hx5 := hx4.kp (vC (f5.kp hp4 hp5))
   have hN5 := (hN3.fr f4).fr f5
   have f25 := (f3.trans f4).trans f5
   refine ⟨v, x, rfl, hx5.tr, Lt.Ok.w hx5.ok, fun H6 tl6 s6 => ?_⟩
   obtain ⟨ak, vks, rfl, hak, hAk⟩ := id hk5.tp.tr.G4
   have ak6 := s6 _ _ hak
   have hAk6 := hAk.kp s6.kt
   have lk := hAk6.length
   rw [List.length_map] at lk
   have fk := hk5.tp.BV
   refine ⟨rfl, _, rfl, ak, rfl, ⟨_, dZ.of ak6⟩, fun l7 hl7 => D7 (dZ.of ak6) ((xk.map Lt.T).map V.str) (by rw [List.length_map, List.length_map]; exact lk) (fun σ => ∃ o, σ = [o]) ⟨_, rfl⟩ hl7 (o4 (by omega)) ?_ ?_⟩
   ·rintro i' y y' σ H8 zz N hy hy' ⟨o, rfl⟩ s8 e8 hz hNN
    obtain ⟨t, ht, rfl⟩ := strAt hy'
    rw [List.getElem?_map] at ht
    obtain ⟨w, hw, rfl⟩ := Option.map_eq_some_iff.mp ht
    obtain ⟨pp, hpp, tr⟩ := hAk6.get hy
    rw [List.getElem?_map, hw] at hpp
    have hpp := (Option.some.inj hpp).symm
    subst hpp
    unfold cM
    walk_at "vc2"
    exact ⟨y, w, rfl, tr.kp s8.kt, (hk5.tp.ok w (List.mem_of_getElem? hw)).w, fun H9 _ s9 => ⟨zz, s9 _ _ e8, hz, hNN _ _ ⟨_, rfl⟩ (fun b o h n => by rw [aL n]; exact s9 b o h) aB⟩⟩
   ·intro H8 s8 e8
    have jl := J9 (T := Lt.T) (z := NL) (c := 210) (m := 9) (fun x hx => LF (hk5.tp.ok x hx)) fk (by rw [EY]; decide)
    have jl2 := Nat.le_trans (join_le NL (xk.map Lt.T)) jl
    refine ⟨_, l7, _, rfl, rfl, aX.of e8, Nat.le_trans jl (by decide), cF (by decide), fun t1 n1 => ⟨cF (by decide), fun lt n2 => ?_⟩⟩
    have s58 := s6.trans s8
    have jl2 : (Txt.join (Str.ofString "\n") (xk.map Lt.T)).length ≤ 9 * (210 + 2) := jl2
    generalize Txt.join (Str.ofString "\n") (xk.map Lt.T) = J at jl2 n2
    have s59 := (s58.trans (aG.upd (o := .tup [.str x.T, .str J]) n1)).trans (aG.upd (o := .lst [.ref t1]) n2)
    have hT9 : ER (upd (upd H8 t1 (.tup [.str x.T, .str J])) lt (.lst [.ref t1])) lt 1 := by
     refine ⟨[.ref t1], aB, rfl, fun i v hi => ?_⟩
     cases i with
     | zero =>
      cases hi
      exact ⟨t1, x.T, J, rfl, aG.upd n2 _ _ aB, Nat.le_trans tl6 (by decide), Nat.le_trans jl2 (by decide)⟩
     | succ i => cases hi
    have hp9 := hp5.same s59
    have hx9 := hx5.kp s59.kt
    have hN9 := hN5.fr (.of s59)
    have f29 := f25.trans (.of s59)
    have ltn : H5 lt = none := by
     cases e : H5 lt with
     | none => rfl
     | some o => rw [(s58.trans (aG.upd (o := .tup [.str x.T, .str J]) n1)) lt o e] at n2; cases n2
    have ltp := (hp5.G0 ltn).symm
    have ltg := (hp5.neg ltn).symm
    have ltl : l ≠ lt := fun e => by rw [← e, hN5.el] at ltn; cases ltn
    have ltH : H lt = none := by
     cases e : H lt with
     | none => rfl
     | some o => rw [f25 lt o (s2 lt o e) ltp ltg] at ltn; cases ltn
    have sH9 : aG H (upd (upd H8 t1 (.tup [.str x.T, .str J])) lt (.lst [.ref t1])) := fun b o hb => f29 b o (s2 b o hb) (aF hb np0) (aF hb ng0)
    generalize upd (upd H8 t1 (.tup [.str x.T, .str J])) lt (.lst [.ref t1]) = H9 at hT9 hp9 hx9 hN9 sH9
    clear f29 s59 s58 f25 hN5 hx5 e8 n1 n2 s8 s6 hak hAk ak6 hAk6 hk5 hx4 hN3 hp5 hp4 hp3 f3 f4 f5 ltn jl
    refine aH ⟨_, rfl, by decide, by decide, kI (lo := 0) (n := 8) (fun k σ H' => gI H' p g ∧ aG H H' ∧ FN H' v x ∧ Nm H' p g l zs ∧ ER H' lt (k + 1) ∧ ∃ v7 v8, σ = [some (.ref a), some (.ref p), some (.int (0 + i)), some (.ref l), some v, some (.ref ak), some (.ref lt), v7, v8, v9, v10]) ⟨hp9, sH9, hx9, hN9, hT9, _, _, rfl⟩ ?_ ?_⟩
    ·clear hp9 hx9 hN9 hT9 sH9
     rintro k σ H10 hk ⟨hp10, s10, hx10, hN10, hT10, v7', v8', rfl⟩
     show sC _ _ _ _ _
     refine aH ?_; walk_at "vc0"
     obtain ⟨vs, evs, lvs, hvs⟩ := id hT10
     have hj : (if (0 : Int) < 0 + (k : Int) - 4 then 0 + (k : Int) - 4 else 0) = ((k - 4 : Nat) : Int) := by split <;> omega
     have hb : 3 * II (k - 4) + 10 ≤ II (k + 1) ∧ II (k - 4) ≤ 6000 := by
      unfold II
      rw [if_neg (Nat.succ_ne_zero k)]
      by_cases h0 : k - 4 = 0
      ·rw [if_pos h0, if_pos (by omega)]; omega
      ·rw [if_neg h0, if_pos (by omega), if_neg (by omega)]; omega
     have hv : vs[k - 4]? = some (vs[k - 4]'(by omega)) := List.getElem?_eq_getElem _
     obtain ⟨t, y1, z1, e1, et, ly, lz⟩ := hvs _ _ hv
     rw [e1] at hv
     rw [hj]
     refine ⟨_, aX.of evs, _, bI hv, .inl ⟨_, aX.of evs⟩, t, rfl, _, dZ.of et, _, L3, ?_⟩
     refine ⟨p, g, y1, rfl, hp10, by omega, fun y2 H11 ly2 hp11 f11 => ?_⟩
     have k11 := vC (f11.kp hp10 hp11)
     refine ⟨t, rfl, _, dZ.of (k11 _ _ et), _, bI (j := 1) rfl, p, g, z1, rfl, hp11, by omega, fun z2 H12 lz2 hp12 f12 => ⟨cF (by decide), fun t3 n3 => ?_⟩⟩
     have k12 := vC (f12.kp hp11 hp12)
     have s3 := aG.upd (o := .tup [.str y2, .str z2]) n3
     have T13 := ((hT10.fr f11 k11 ltp ltg).fr f12 k12 ltp ltg).same s3
     obtain ⟨xs, ex, hxl, T14, k14⟩ := T13.app (t := t3) (y := y2) (z := z2) (m := k + 1 + 1) aB (by omega) (by omega) (by omega) rfl
     have hN13 := ((hN10.fr f11).fr f12).fr (.of s3)
     have k13 := ((k11.trans k12).trans s3.kt).trans k14
     have hp13 := (hp12.new (o := .tup [.str y2, .str z2]) n3)
     have s13 : aG H (upd H12 t3 (.tup [.str y2, .str z2])) := fun b o hb => s3 b o (f12 b o (f11 b o (s10 b o hb) (aF hb np0) (aF hb ng0)) (aF hb np0) (aF hb ng0))
     refine ⟨xs, ex, hxl, hp13.upd (fun e => ltp e.symm) (fun e => ltg e.symm), fun b o hb => by rw [aL (aF hb ltH)]; exact s13 b o hb, hx10.kp k13, ⟨by rw [aL ltl]; exact hN13.el, hN13.np, hN13.ng, hN13.lo, hN13.hi, hN13.nm⟩, T14, _, rfl⟩
    ·clear hp9 hx9 hN9 hT9 sH9
     rintro σ H10 ⟨hp10, s10, hx10, hN10, hT10, v7', v8', rfl⟩
     have hT10 : ER H10 lt 9 := hT10
     dsimp only
     refine aH (B0 fun F hF => ?_)
     walk_at "vc0"
     obtain ⟨us, w, e⟩ : ∃ us w, zs = us ++ [w] := by
      rcases List.eq_nil_or_concat zs with e | ⟨us, w, e⟩
      ·have := hN10.lo; rw [e] at this; cases this
      ·rw [List.concat_eq_append] at e; exact ⟨us, w, e⟩
     have hla : rT (zs.map V.str) (-1) = some (.str w) := by rw [e, List.map_append]; exact q0 _ _
     refine ⟨_, aX.of hN10.el, _, hla, v, x, w, rfl, hx10, hN10.nm w (by rw [e]; simp), fun l9 H11 ws s11 hn9 e9 wb wl => ⟨l9, rfl, ⟨_, aX.of e9⟩, hF _ _ (mB (fun i' σ H' => gI H' p g ∧ aG H H' ∧ H' l9 = some (.lst (ws.map V.str)) ∧ ER H' lt (9 + i') ∧ ∃ v7 v8 v9 v10, σ = [some (.ref a), some (.ref p), some (.int (0 + i)), some (.ref l), some v, some (.ref ak), some (.ref lt), v7, v8, v9, v10]) ⟨hp10.same s11, s10.trans s11, e9, hT10.same s11, _, _, _, _, rfl⟩ (fun _ _ _ _ ⟨_, _, h, _⟩ => aX.of h) ?_ ?_)⟩⟩
     ·have l9t : l9 ≠ lt := fun e => by obtain ⟨_, h, _⟩ := hT10; rw [← e, hn9] at h; cases h
      clear hF
      clear F
      rintro i' x' σ H12 hx' ⟨hp12, s12, e12, hT12, v7'', v8'', v9'', v10'', rfl⟩
      obtain ⟨z, hz, rfl⟩ := strAt hx'
      have hi' := (List.getElem?_eq_some_iff.mp hz).1
      have zb := wb z (List.mem_of_getElem? hz)
      obtain ⟨vs12, e12', _⟩ := id hT12
      have b9 : II (9 + i') = 17932 := by unfold II; rw [if_neg (by omega), if_neg (by omega)]
      walk_at "vc0"
      refine ⟨.inl ⟨_, aX.of e12'⟩, cF (by decide), fun t3 n3 => ?_⟩
      have s3 := aG.upd (o := .tup [.str z, .str z]) n3
      obtain ⟨xs, ex, hxl, T14, k14⟩ := (hT12.same s3).app (t := t3) (y := z) (z := z) (m := 9 + (i' + 1)) aB (by omega) (by omega) (by omega) rfl
      refine ⟨xs, ex, hxl, (hp12.same s3).upd (fun e => ltp e.symm) (fun e => ltg e.symm), fun b o hb => by rw [aL (aF hb ltH)]; exact s3 _ _ (s12 b o hb), by rw [aL l9t]; exact s3 _ _ e12, T14, _, rfl⟩
     ·clear hF
      clear F
      rintro σ H12 ⟨hp12, s12, e12, hT12, v7'', v8'', v9'', v10'', rfl⟩
      clear hT10 hp10 s10 hx10 hN10 hla e9
      rw [List.length_map] at hT12
      dsimp only
      refine B0 fun F hF => ?_
      walk_at "vc0"
      obtain ⟨vs, evs, lvs, hvs⟩ := hT12
      have hV : ∀ v ∈ vs ++ bZ vs (some (-1)) none, MZ H12 17932 v := fun v hv => by
       have hv : v ∈ vs := (List.mem_append.mp hv).elim (fun h => h) (vT v)
       obtain ⟨i, hi⟩ := List.getElem?_of_mem hv
       exact (hvs i v hi).mono (N7 i)
      have cl1 : (bZ vs (some (-1)) none).length ≤ vs.length := by unfold bZ; rw [List.length_take, List.length_drop]; omega
      refine ⟨_, aX.of evs, fun q1 n1 => ⟨vs, aG.upd n1 _ _ evs, _, aB, cF (by omega), fun q2 n2 => ⟨⟨_, aX.of aB⟩, hF _ _ ?_⟩⟩⟩
      have s14 := (aG.upd (o := .lst (bZ vs (some (-1)) none)) n1).trans (aG.upd (o := .lst (vs ++ bZ vs (some (-1)) none)) n2)
      have e14 : upd (upd H12 q1 (.lst (bZ vs (some (-1)) none))) q2 (.lst (vs ++ bZ vs (some (-1)) none)) q2 = some (.lst (vs ++ bZ vs (some (-1)) none)) := aB
      generalize upd (upd H12 q1 (.lst (bZ vs (some (-1)) none))) q2 (.lst (vs ++ bZ vs (some (-1)) none)) = H14 at s14 e14
      generalize vs ++ bZ vs (some (-1)) none = xs at hV e14
      clear cl1 hvs
      refine mB (fun i' σ H' => aG H14 H' ∧ ∃ v7 v8 v9 v10, σ = [some (.ref a), some (.ref p), some (.int (0 + i)), some (.ref l), some v, some (.ref ak), some (.ref lt), v7, v8, v9, v10]) ⟨aG.refl _, _, _, _, _, rfl⟩ (fun _ _ _ _ ⟨h, _⟩ => aX.of (h _ _ e14)) ?_ ?_
      ·clear hF
       clear F
       rintro i' x' σ H15 hx' ⟨s15, v7'', v8'', v9'', v10'', rfl⟩
       obtain ⟨t, y, z, rfl, et, ly, lz⟩ := hV x' (List.mem_of_getElem? hx')
       have et := s15 _ _ (s14 _ _ et)
       walk_at "vc0"
       refine ⟨_, dZ.of et, rfl, _, _, rfl, _, _, rfl, rfl, ?_⟩
       show sC _ _ _ _ _
       refine aH ?_; walk_at "vc0"
       refine ⟨fs 12, y, rfl, by omega, .inl ⟨rfl, fun u1 H16 s16 r16 => ⟨y, rfl, by omega, fun u2 H17 s17 o17 => ⟨y, u2, rfl, o17, fun u3 H18 s18 r18 => ⟨u1, u3, tV y, rfl, r16.same (s17.trans s18), r18, fun p hp => EL hp, fun H19 s19 => ⟨true, rfl, dO ?_⟩⟩⟩⟩⟩⟩
       refine ⟨fs 13, z, rfl, by omega, .inr ⟨rfl, fun w1 H20 s20 r20 => ⟨z, rfl, by omega, fun w2 H21 s21 r21 => ⟨w1, w2, GG z, rfl, r20.same s21, r21, fun p hp => FQ (by omega) hp, fun H22 s22 => ⟨true, rfl, dO ⟨?_, _, rfl⟩⟩⟩⟩⟩⟩
       exact ((((((s15.trans s16).trans s17).trans s18).trans s19).trans s20).trans s21).trans s22
      ·rintro σ H15 ⟨s15, v7'', v8'', v9'', v10'', rfl⟩
       have s16 := s14.trans s15
       exact ⟨hp12.same s16, fun b o hb => s16 _ _ (s12 b o hb), _, _, _, _, _, _, _, _, _, rfl⟩
  ·rintro σ H2 ⟨hp2, s2, v2, v3, v4, v5, v6, v7, v8, v9, v10, rfl⟩
   walk_at "vc0"
   exact q H2
end
theorem all_mk {l : W.OpenLaw} {w : World} {K : W.Frag} {h : Heap} {mg : Str → Option Value} {fa fI f0 f1 f2 f3 f4 f5 f6 f7 f8 f9 f10 f11 f12 f13 f14 f15 f16 f17 f18 f19 f20 f21 f22 f23 f24 f25 f26 f27 f28 f29 f30 f31 f32 f33 c_0 c_1 c_2 c_3 c_4 c_5 c_6 : Addr} (X : K.In h) (G : h.Ns mainGlobals mg) (hfa : mg "law" = some (.ref fa))
  {od0 an0 od1 an1 od2 an2 od3 an3 od4 an4 od5 an5 od6 an6 od7 an7 od8 an8 od9 an9 od10 an10 od11 an11 od12 an12 od13 an13 od14 an14 od15 an15 od16 an16 od17 an17 od18 an18 od19 an19 od20 an20 od21 an21 od22 an22 od23 an23 od24 an24 od25 an25 od26 an26 od27 an27 od28 an28 od29 an29 od30 an30 od31 an31 od32 an32 od33 an33 od34 an34 : Option Addr} {sl0 sl1 sl2 sl3 sl4 sl5 sl6 sl7 sl8 sl9 sl10 sl11 sl12 sl13 sl14 sl15 sl16 sl17 sl18 sl19 sl20 sl21 sl22 sl23 sl24 sl25 sl26 sl27 sl28 sl29 sl30 sl31 sl32 sl33 sl34 : Array (Option Value)} {oc0 kV0 dc0 pm0 cd0 ct0 oc1 kV1 dc1 pm1 cd1 ct1 oc2 kV2 dc2 pm2 cd2 ct2 oc3 kV3 dc3 pm3 cd3 ct3 oc4 kV4 dc4 pm4 cd4 ct4 oc5 kV5 dc5 pm5 cd5 ct5 oc6 kV6 dc6 pm6 cd6 ct6 oc7 kV7 dc7 pm7 cd7 ct7 oc8 kV8 dc8 pm8 cd8 ct8 oc9 kV9 dc9 pm9 cd9 ct9 oc10 kV10 dc10 pm10 cd10 ct10 oc11 kV11 dc11 pm11 cd11 ct11 oc12 kV12 dc12 pm12 cd12 ct12 oc13 kV13 dc13 pm13 cd13 ct13 oc14 kV14 dc14 pm14 cd14 ct14 oc15 kV15 dc15 pm15 cd15 ct15 oc16 kV16 dc16 pm16 cd16 ct16 oc17 kV17 dc17 pm17 cd17 ct17 oc18 kV18 dc18 pm18 cd18 ct18 oc19 kV19 dc19 pm19 cd19 ct19 oc20 kV20 dc20 pm20 cd20 ct20 oc21 kV21 dc21 pm21 cd21 ct21 oc22 kV22 dc22 pm22 cd22 ct22 oc23 kV23 dc23 pm23 cd23 ct23 oc24 kV24 dc24 pm24 cd24 ct24 oc25 kV25 dc25 pm25 cd25 ct25 oc26 kV26 dc26 pm26 cd26 ct26 oc27 kV27 dc27 pm27 cd27 ct27 oc28 kV28 dc28 pm28 cd28 ct28 oc29 kV29 dc29 pm29 cd29 ct29 oc30 kV30 dc30 pm30 cd30 ct30 oc31 kV31 dc31 pm31 cd31 ct31 oc32 kV32 dc32 pm32 cd32 ct32 oc33 kV33 dc33 pm33 cd33 ct33 oc34 kV34 dc34 pm34 cd34 ct34 : Value} {tk0 tk1 tk2 tk3 tk4 tk5 tk6 : Tok}
  (a0 : W.nsIn K mainGlobals "is_name" = some (some (.ref f0)))
  (l0 : K.lookup f0 = some ⟨oc0, od0, .func (W.fnOf "is_name" "is_name" (aK d4) (aI d4) (aC d4) .none kV0 dc0 pm0 an0 cd0 ct0), sl0⟩)
  (c0 : W.codeIn K cd0 "is_name" = true)
  (k0 : W.keepIn K (.ref f0) = true)
  (a1 : W.nsIn K mainGlobals "is_whole" = some (some (.ref f1)))
  (l1 : K.lookup f1 = some ⟨oc1, od1, .func (W.fnOf "is_whole" "is_whole" (aK dW) (aI dW) (aC dW) .none kV1 dc1 pm1 an1 cd1 ct1), sl1⟩)
  (c1 : W.codeIn K cd1 "is_whole" = true)
  (k1 : W.keepIn K (.ref f1) = true)
  (a2 : W.nsIn K mainGlobals "is_day" = some (some (.ref f2)))
  (l2 : K.lookup f2 = some ⟨oc2, od2, .func (W.fnOf "is_day" "is_day" (aK fK) (aI fK) (aC fK) .none kV2 dc2 pm2 an2 cd2 ct2), sl2⟩)
  (c2 : W.codeIn K cd2 "is_day" = true)
  (k2 : W.keepIn K (.ref f2) = true)
  (a3 : W.nsIn K mainGlobals "is_head" = some (some (.ref f3)))
  (l3 : K.lookup f3 = some ⟨oc3, od3, .func (W.fnOf "is_head" "is_head" (aK d6) (aI d6) (aC d6) .none kV3 dc3 pm3 an3 cd3 ct3), sl3⟩)
  (c3 : W.codeIn K cd3 "is_head" = true)
  (k3 : W.keepIn K (.ref f3) = true)
  (a4 : W.nsIn K mainGlobals "is_row" = some (some (.ref f4)))
  (l4 : K.lookup f4 = some ⟨oc4, od4, .func (W.fnOf "is_row" "is_row" (aK eQ) (aI eQ) (aC eQ) .none kV4 dc4 pm4 an4 cd4 ct4), sl4⟩)
  (c4 : W.codeIn K cd4 "is_row" = true)
  (k4 : W.keepIn K (.ref f4) = true)
  (a5 : W.nsIn K mainGlobals "is_letter" = some (some (.ref f5)))
  (l5 : K.lookup f5 = some ⟨oc5, od5, .func (W.fnOf "is_letter" "is_letter" (aK cT) (aI cT) (aC cT) .none kV5 dc5 pm5 an5 cd5 ct5), sl5⟩)
  (c5 : W.codeIn K cd5 "is_letter" = true)
  (k5 : W.keepIn K (.ref f5) = true)
  (a6 : W.nsIn K mainGlobals "is_count" = some (some (.ref f6)))
  (l6 : K.lookup f6 = some ⟨oc6, od6, .func (W.fnOf "is_count" "is_count" (aK dG) (aI dG) (aC dG) .none kV6 dc6 pm6 an6 cd6 ct6), sl6⟩)
  (c6 : W.codeIn K cd6 "is_count" = true)
  (k6 : W.keepIn K (.ref f6) = true)
  (a7 : W.nsIn K mainGlobals "number_in" = some (some (.ref f7)))
  (l7 : K.lookup f7 = some ⟨oc7, od7, .func (W.fnOf "number_in" "number_in" (aK cZ) (aI cZ) (aC cZ) .none kV7 dc7 pm7 an7 cd7 ct7), sl7⟩)
  (c7 : W.codeIn K cd7 "number_in" = true)
  (k7 : W.keepIn K (.ref f7) = true)
  (a8 : W.nsIn K mainGlobals "checked" = some (some (.ref f8)))
  (l8 : K.lookup f8 = some ⟨oc8, od8, .func (W.fnOf "checked" "checked" (aK eE) (aI eE) (aC eE) .none kV8 dc8 pm8 an8 cd8 ct8), sl8⟩)
  (c8 : W.codeIn K cd8 "checked" = true)
  (k8 : W.keepIn K (.ref f8) = true)
  (a9 : W.nsIn K mainGlobals "rows_in" = some (some (.ref f9)))
  (l9 : K.lookup f9 = some ⟨oc9, od9, .func (W.fnOf "rows_in" "rows_in" (aK eJ) (aI eJ) (aC eJ) .none kV9 dc9 pm9 an9 cd9 ct9), sl9⟩)
  (c9 : W.codeIn K cd9 "rows_in" = true)
  (k9 : W.keepIn K (.ref f9) = true)
  (a10 : W.nsIn K mainGlobals "needed" = some (some (.ref f10)))
  (l10 : K.lookup f10 = some ⟨oc10, od10, .func (W.fnOf "needed" "needed" (aK fL) (aI fL) (aC fL) .none kV10 dc10 pm10 an10 cd10 ct10), sl10⟩)
  (c10 : W.codeIn K cd10 "needed" = true)
  (k10 : W.keepIn K (.ref f10) = true)
  (a11 : W.nsIn K mainGlobals "letter_in" = some (some (.ref f11)))
  (l11 : K.lookup f11 = some ⟨oc11, od11, .func (W.fnOf "letter_in" "letter_in" (aK cW) (aI cW) (aC cW) .none kV11 dc11 pm11 an11 cd11 ct11), sl11⟩)
  (c11 : W.codeIn K cd11 "letter_in" = true)
  (k11 : W.keepIn K (.ref f11) = true)
  (a12 : W.nsIn K mainGlobals "read_letter" = some (some (.ref f12)))
  (l12 : K.lookup f12 = some ⟨oc12, od12, .func (W.fnOf "read_letter" "read_letter" (aK cB) (aI cB) (aC cB) .none kV12 dc12 pm12 an12 cd12 ct12), sl12⟩)
  (c12 : W.codeIn K cd12 "read_letter" = true)
  (k12 : W.keepIn K (.ref f12) = true)
  (a13 : W.nsIn K mainGlobals "read_pack" = some (some (.ref f13)))
  (l13 : K.lookup f13 = some ⟨oc13, od13, .func (W.fnOf "read_pack" "read_pack" (aK cP) (aI cP) (aC cP) .none kV13 dc13 pm13 an13 cd13 ct13), sl13⟩)
  (c13 : W.codeIn K cd13 "read_pack" = true)
  (k13 : W.keepIn K (.ref f13) = true)
  (a14 : W.nsIn K mainGlobals "_law_purse" = some (some (.ref f14)))
  (l14 : K.lookup f14 = some ⟨oc14, od14, .func (W.fnOf "_law_purse" "_law_purse" (aK cX) (aI cX) (aC cX) .none kV14 dc14 pm14 an14 cd14 ct14), sl14⟩)
  (c14 : W.codeIn K cd14 "_law_purse" = true)
  (k14 : W.keepIn K (.ref f14) = true)
  (a15 : W.nsIn K mainGlobals "_law_pick" = some (some (.ref f15)))
  (l15 : K.lookup f15 = some ⟨oc15, od15, .func (W.fnOf "_law_pick" "_law_pick" (aK dU) (aI dU) (aC dU) .none kV15 dc15 pm15 an15 cd15 ct15), sl15⟩)
  (c15 : W.codeIn K cd15 "_law_pick" = true)
  (k15 : W.keepIn K (.ref f15) = true)
  (a16 : W.nsIn K mainGlobals "_law_name" = some (some (.ref f16)))
  (l16 : K.lookup f16 = some ⟨oc16, od16, .func (W.fnOf "_law_name" "_law_name" (aK dD) (aI dD) (aC dD) .none kV16 dc16 pm16 an16 cd16 ct16), sl16⟩)
  (c16 : W.codeIn K cd16 "_law_name" = true)
  (k16 : W.keepIn K (.ref f16) = true)
  (a17 : W.nsIn K mainGlobals "_law_names" = some (some (.ref f17)))
  (l17 : K.lookup f17 = some ⟨oc17, od17, .func (W.fnOf "_law_names" "_law_names" (aK cV) (aI cV) (aC cV) .none kV17 dc17 pm17 an17 cd17 ct17), sl17⟩)
  (c17 : W.codeIn K cd17 "_law_names" = true)
  (k17 : W.keepIn K (.ref f17) = true)
  (a18 : W.nsIn K mainGlobals "_law_day" = some (some (.ref f18)))
  (l18 : K.lookup f18 = some ⟨oc18, od18, .func (W.fnOf "_law_day" "_law_day" (aK eG) (aI eG) (aC eG) .none kV18 dc18 pm18 an18 cd18 ct18), sl18⟩)
  (c18 : W.codeIn K cd18 "_law_day" = true)
  (k18 : W.keepIn K (.ref f18) = true)
  (a19 : W.nsIn K mainGlobals "_law_sign" = some (some (.ref f19)))
  (l19 : K.lookup f19 = some ⟨oc19, od19, .func (W.fnOf "_law_sign" "_law_sign" (aK dR) (aI dR) (aC dR) .none kV19 dc19 pm19 an19 cd19 ct19), sl19⟩)
  (c19 : W.codeIn K cd19 "_law_sign" = true)
  (k19 : W.keepIn K (.ref f19) = true)
  (a20 : W.nsIn K mainGlobals "_law_letter" = some (some (.ref f20)))
  (l20 : K.lookup f20 = some ⟨oc20, od20, .func (W.fnOf "_law_letter" "_law_letter" (aK bW) (aI bW) (aC bW) .none kV20 dc20 pm20 an20 cd20 ct20), sl20⟩)
  (c20 : W.codeIn K cd20 "_law_letter" = true)
  (k20 : W.keepIn K (.ref f20) = true)
  (a21 : W.nsIn K mainGlobals "_law_pack" = some (some (.ref f21)))
  (l21 : K.lookup f21 = some ⟨oc21, od21, .func (W.fnOf "_law_pack" "_law_pack" (aK dQ) (aI dQ) (aC dQ) .none kV21 dc21 pm21 an21 cd21 ct21), sl21⟩)
  (c21 : W.codeIn K cd21 "_law_pack" = true)
  (k21 : W.keepIn K (.ref f21) = true)
  (a22 : W.nsIn K mainGlobals "_law_written" = some (some (.ref f22)))
  (l22 : K.lookup f22 = some ⟨oc22, od22, .func (W.fnOf "_law_written" "_law_written" (aK cC) (aI cC) (aC cC) .none kV22 dc22 pm22 an22 cd22 ct22), sl22⟩)
  (c22 : W.codeIn K cd22 "_law_written" = true)
  (k22 : W.keepIn K (.ref f22) = true)
  (a23 : W.nsIn K mainGlobals "_law_same" = some (some (.ref f23)))
  (l23 : K.lookup f23 = some ⟨oc23, od23, .func (W.fnOf "_law_same" "_law_same" (aK dB) (aI dB) (aC dB) .none kV23 dc23 pm23 an23 cd23 ct23), sl23⟩)
  (c23 : W.codeIn K cd23 "_law_same" = true)
  (k23 : W.keepIn K (.ref f23) = true)
  (a24 : W.nsIn K mainGlobals "_law_is_name" = some (some (.ref f24)))
  (l24 : K.lookup f24 = some ⟨oc24, od24, .func (W.fnOf "_law_is_name" "_law_is_name" (aK bV) (aI bV) (aC bV) .none kV24 dc24 pm24 an24 cd24 ct24), sl24⟩)
  (c24 : W.codeIn K cd24 "_law_is_name" = true)
  (k24 : W.keepIn K (.ref f24) = true)
  (a25 : W.nsIn K mainGlobals "_law_is_day" = some (some (.ref f25)))
  (l25 : K.lookup f25 = some ⟨oc25, od25, .func (W.fnOf "_law_is_day" "_law_is_day" (aK cE) (aI cE) (aC cE) .none kV25 dc25 pm25 an25 cd25 ct25), sl25⟩)
  (c25 : W.codeIn K cd25 "_law_is_day" = true)
  (k25 : W.keepIn K (.ref f25) = true)
  (a26 : W.nsIn K mainGlobals "_law_letter_of" = some (some (.ref f26)))
  (l26 : K.lookup f26 = some ⟨oc26, od26, .func (W.fnOf "_law_letter_of" "_law_letter_of" (aK bF) (aI bF) (aC bF) .none kV26 dc26 pm26 an26 cd26 ct26), sl26⟩)
  (c26 : W.codeIn K cd26 "_law_letter_of" = true)
  (k26 : W.keepIn K (.ref f26) = true)
  (a27 : W.nsIn K mainGlobals "_law_pack_of" = some (some (.ref f27)))
  (l27 : K.lookup f27 = some ⟨oc27, od27, .func (W.fnOf "_law_pack_of" "_law_pack_of" (aK cA) (aI cA) (aC cA) .none kV27 dc27 pm27 an27 cd27 ct27), sl27⟩)
  (c27 : W.codeIn K cd27 "_law_pack_of" = true)
  (k27 : W.keepIn K (.ref f27) = true)
  (a28 : W.nsIn K mainGlobals "_law_told" = some (some (.ref f28)))
  (l28 : K.lookup f28 = some ⟨oc28, od28, .func (W.fnOf "_law_told" "_law_told" (aK dS) (aI dS) (aC dS) .none kV28 dc28 pm28 an28 cd28 ct28), sl28⟩)
  (c28 : W.codeIn K cd28 "_law_told" = true)
  (k28 : W.keepIn K (.ref f28) = true)
  (a29 : W.nsIn K mainGlobals "_law_or_refused" = some (some (.ref f29)))
  (l29 : K.lookup f29 = some ⟨oc29, od29, .func (W.fnOf "_law_or_refused" "_law_or_refused" (aK bM) (aI bM) (aC bM) .none kV29 dc29 pm29 an29 cd29 ct29), sl29⟩)
  (c29 : W.codeIn K cd29 "_law_or_refused" = true)
  (k29 : W.keepIn K (.ref f29) = true)
  (a30 : W.nsIn K mainGlobals "_law_agree" = some (some (.ref f30)))
  (l30 : K.lookup f30 = some ⟨oc30, od30, .func (W.fnOf "_law_agree" "_law_agree" (aK dA) (aI dA) (aC dA) .none kV30 dc30 pm30 an30 cd30 ct30), sl30⟩)
  (c30 : W.codeIn K cd30 "_law_agree" = true)
  (k30 : W.keepIn K (.ref f30) = true)
  (a31 : W.nsIn K mainGlobals "_law_spoilt" = some (some (.ref f31)))
  (l31 : K.lookup f31 = some ⟨oc31, od31, .func (W.fnOf "_law_spoilt" "_law_spoilt" (aK cK) (aI cK) (aC cK) .none kV31 dc31 pm31 an31 cd31 ct31), sl31⟩)
  (c31 : W.codeIn K cd31 "_law_spoilt" = true)
  (k31 : W.keepIn K (.ref f31) = true)
  (a32 : W.nsIn K mainGlobals "_law_edges" = some (some (.ref f32)))
  (l32 : K.lookup f32 = some ⟨oc32, od32, .func (W.fnOf "_law_edges" "_law_edges" (aK cQ) (aI cQ) (aC cQ) .none kV32 dc32 pm32 an32 cd32 ct32), sl32⟩)
  (c32 : W.codeIn K cd32 "_law_edges" = true)
  (k32 : W.keepIn K (.ref f32) = true)
  (a33 : W.nsIn K mainGlobals "law" = some (some (.ref f33)))
  (l33 : K.lookup f33 = some ⟨oc33, od33, .func (W.fnOf "law" "law" (aK gJ) (aI gJ) (aC gJ) .none kV33 dc33 pm33 an33 cd33 ct33), sl33⟩)
  (c33 : W.codeIn K cd33 "law" = true)
  (k33 : W.keepIn K (.ref f33) = true)
  (d3 : W.nsIn K mainGlobals "len" = some none)
  (aQ : W.nsIn K mainGlobals "isinstance" = some none)
  (kY : W.nsIn K mainGlobals "str" = some none)
  (iY : W.nsIn K mainGlobals "all" = some none)
  (lJ : W.nsIn K mainGlobals "bool" = some none)
  (nW : W.nsIn K mainGlobals "int" = some none)
  (sS : W.nsIn K mainGlobals "abs" = some none)
  (d8 : W.nsIn K mainGlobals "tuple" = some none)
  (fD : W.nsIn K mainGlobals "range" = some none)
  (fA : W.nsIn K mainGlobals "enumerate" = some none)
  (jR : W.nsIn K mainGlobals "sorted" = some none)
  (fM : W.nsIn K mainGlobals "ValueError" = some none)
  (yL : W.nsIn K mainGlobals "zip" = some none)
  (jU : W.nsIn K mainGlobals "list" = some none)
  (sH : W.nsIn K mainGlobals "max" = some none)
  (xA : W.nsIn K mainGlobals "min" = some none)
  (e_NAME_SIGNS : W.nsIn K mainGlobals "NAME_SIGNS" = some (some (.str (Str.ofString "abcdefghijklmnopqrstuvwxyz0123456789") tk0)))
  (e_LONGEST_NAME : W.nsIn K mainGlobals "LONGEST_NAME" = some (some (.int 12 tk1)))
  (e_LAST_DAY : W.nsIn K mainGlobals "LAST_DAY" = some (some (.int 99999999 tk2)))
  (e_LONGEST_HEAD : W.nsIn K mainGlobals "LONGEST_HEAD" = some (some (.int 60 tk3)))
  (e_LONGEST_ROW : W.nsIn K mainGlobals "LONGEST_ROW" = some (some (.int 9 tk4)))
  (e_FIGURES : W.nsIn K mainGlobals "FIGURES" = some (some (.str (Str.ofString "0123456789") tk5)))
  (e_MOST_FIGURES : W.nsIn K mainGlobals "MOST_FIGURES" = some (some (.int 9 tk6)))
  (e0 : W.nsIn K mainGlobals "NoText" = some (some (.ref c_0)))
  (e1 : W.nsIn K mainGlobals "NoPlace" = some (some (.ref c_1)))
  (e2 : W.nsIn K mainGlobals "NoDeed" = some (some (.ref c_2)))
  (e3 : W.nsIn K mainGlobals "Ring" = some (some (.ref c_3)))
  (e4 : W.nsIn K mainGlobals "NoWish" = some (some (.ref c_4)))
  (e5 : W.nsIn K mainGlobals "NoRow" = some (some (.ref c_5)))
  (e6 : W.nsIn K mainGlobals "TalkError" = some (some (.ref c_6)))
  (ei : W.findIn K (.ref c_0) "__init__" = some (some (.ref fI)))
  (li : K.lookup fI = some ⟨oc34, od34, .func (W.fnOf "__init__" "NoText.__init__" (aK jF) (aI jF) (aC jF) .none kV34 dc34 pm34 an34 cd34 ct34), sl34⟩)
  (ci : W.codeIn K cd34 "NoText.__init__" = true)
  (ki : W.keepIn K (.ref fI) = true)
  (ti : W.typeIn K (.ref fI) = some (.type "function"))
  (x0 : D9 K c_0 [.ref c_6, .type "ValueError", .type "Exception", .type "BaseException", .type "object"] (some (.ref fI)) = true)
  (p0 : W.keepIn K (.ref c_0) = true)
  (g1 : W.specialIn K (.builtin "object.__class__") "__get__" = some (some (.builtin "getset_descriptor.__get__")))
  (g2 : W.takesIn K (.builtin "object.__class__") = some true)
  (q1 : W.findIn K (.ref c_0) "__getattribute__" = some (some (.builtin "BaseException.__getattribute__")))
  (q2 : W.findIn K (.ref c_0) "__getattr__" = some none)
  (q3 : W.mroIn K c_0 (.type "BaseException") = some true)
  (q4 : W.mroIn K c_0 (.type "object") = some true)
  (q5 : W.hasDictIn K c_0 = true)
  (q6 : W.findIn K (.ref c_0) "__class__" = some (some (.builtin "object.__class__")))
  (xt : W.kitOne K (.ref c_0) (.ref c_6) = some true)
  (xv : W.kitOne K (.ref c_0) (.type "ValueError") = some true)
  (xe0 : W.exmOne K (.ref c_0) (.ref c_0) = some true)
  (xe1 : W.exmOne K (.ref c_0) (.ref c_1) = some false)
  (xe2 : W.exmOne K (.ref c_0) (.ref c_2) = some false)
  (xe3 : W.exmOne K (.ref c_0) (.ref c_3) = some false)
  (xe4 : W.exmOne K (.ref c_0) (.ref c_4) = some false)
  (xe5 : W.exmOne K (.ref c_0) (.ref c_5) = some false)
  (m0 : (W.clsIn K c_0).map (·.mro) = some (.ref c_0 :: [.ref c_6, .type "ValueError", .type "Exception", .type "BaseException", .type "object"]))
  (sa : W.findIn K (.ref c_0) "__setattr__" = some (some (.builtin "object.__setattr__")))
  (na : W.findIn K (.ref c_0) "row" = some none)
  : ∃ fd : FuncData, (∀ (s : Shared) (v : Value), BindsTo s fd ⟨[v], []⟩ [("_law_script", v)]) ∧ ∀ base : Heap, K.In base → base.Ns mainGlobals mg → aT l.prog w K mg base dF 10 fa fd ["_law_script"] (BB K) := by
 have e := hfa.symm.trans (W.mg_of X G a33)
 cases e
 have F0 := bL (st := d4) l0 c0 k0
 have b0 := F0.binds (ps := ["thing"]) fun _ _ _ _ _ _ us hl => match us, hl with | [_], _ => rfl
 have F1 := bL (st := dW) l1 c1 k1
 have b1 := F1.binds (ps := ["thing"]) fun _ _ _ _ _ _ us hl => match us, hl with | [_], _ => rfl
 have F2 := bL (st := fK) l2 c2 k2
 have b2 := F2.binds (ps := ["thing"]) fun _ _ _ _ _ _ us hl => match us, hl with | [_], _ => rfl
 have F3 := bL (st := d6) l3 c3 k3
 have b3 := F3.binds (ps := ["thing"]) fun _ _ _ _ _ _ us hl => match us, hl with | [_], _ => rfl
 have F4 := bL (st := eQ) l4 c4 k4
 have b4 := F4.binds (ps := ["thing"]) fun _ _ _ _ _ _ us hl => match us, hl with | [_], _ => rfl
 have F5 := bL (st := cT) l5 c5 k5
 have b5 := F5.binds (ps := ["thing"]) fun _ _ _ _ _ _ us hl => match us, hl with | [_], _ => rfl
 have F6 := bL (st := dG) l6 c6 k6
 have b6 := F6.binds (ps := ["text"]) fun _ _ _ _ _ _ us hl => match us, hl with | [_], _ => rfl
 have F7 := bL (st := cZ) l7 c7 k7
 have b7 := F7.binds (ps := ["text"]) fun _ _ _ _ _ _ us hl => match us, hl with | [_], _ => rfl
 have F8 := bL (st := eE) l8 c8 k8
 have b8 := F8.binds (ps := ["text"]) fun _ _ _ _ _ _ us hl => match us, hl with | [_], _ => rfl
 have F9 := bL (st := eJ) l9 c9 k9
 have b9 := F9.binds (ps := ["text"]) fun _ _ _ _ _ _ us hl => match us, hl with | [_], _ => rfl
 have F10 := bL (st := fL) l10 c10 k10
 have b10 := F10.binds (ps := ["thing", "row"]) fun _ _ _ _ _ _ us hl => match us, hl with | [_, _], _ => rfl
 have F11 := bL (st := cW) l11 c11 k11
 have b11 := F11.binds (ps := ["text"]) fun _ _ _ _ _ _ us hl => match us, hl with | [_], _ => rfl
 have F12 := bL (st := cB) l12 c12 k12
 have b12 := F12.binds (ps := ["text"]) fun _ _ _ _ _ _ us hl => match us, hl with | [_], _ => rfl
 have F13 := bL (st := cP) l13 c13 k13
 have b13 := F13.binds (ps := ["text"]) fun _ _ _ _ _ _ us hl => match us, hl with | [_], _ => rfl
 have F14 := bL (st := cX) l14 c14 k14
 have b14 := F14.binds (ps := ["_law_script"]) fun _ _ _ _ _ _ us hl => match us, hl with | [_], _ => rfl
 have F15 := bL (st := dU) l15 c15 k15
 have b15 := F15.binds (ps := ["_law_purse_here", "_law_many"]) fun _ _ _ _ _ _ us hl => match us, hl with | [_, _], _ => rfl
 have F16 := bL (st := dD) l16 c16 k16
 have b16 := F16.binds (ps := ["_law_purse_here"]) fun _ _ _ _ _ _ us hl => match us, hl with | [_], _ => rfl
 have F17 := bL (st := cV) l17 c17 k17
 have b17 := F17.binds (ps := ["_law_purse_here", "_law_many"]) fun _ _ _ _ _ _ us hl => match us, hl with | [_, _], _ => rfl
 have F18 := bL (st := eG) l18 c18 k18
 have b18 := F18.binds (ps := ["_law_purse_here"]) fun _ _ _ _ _ _ us hl => match us, hl with | [_], _ => rfl
 have F19 := bL (st := dR) l19 c19 k19
 have b19 := F19.binds (ps := ["_law_purse_here"]) fun _ _ _ _ _ _ us hl => match us, hl with | [_], _ => rfl
 have F20 := bL (st := bW) l20 c20 k20
 have b20 := F20.binds (ps := ["_law_purse_here", "_law_names_here"]) fun _ _ _ _ _ _ us hl => match us, hl with | [_, _], _ => rfl
 have F21 := bL (st := dQ) l21 c21 k21
 have b21 := F21.binds (ps := ["_law_purse_here", "_law_names_here"]) fun _ _ _ _ _ _ us hl => match us, hl with | [_, _], _ => rfl
 have F22 := bL (st := cC) l22 c22 k22
 have b22 := F22.binds (ps := ["_law_letter_here"]) fun _ _ _ _ _ _ us hl => match us, hl with | [_], _ => rfl
 have F23 := bL (st := dB) l23 c23 k23
 have b23 := F23.binds (ps := ["_law_found", "_law_due"]) fun _ _ _ _ _ _ us hl => match us, hl with | [_, _], _ => rfl
 have F24 := bL (st := bV) l24 c24 k24
 have b24 := F24.binds (ps := ["_law_word"]) fun _ _ _ _ _ _ us hl => match us, hl with | [_], _ => rfl
 have F25 := bL (st := cE) l25 c25 k25
 have b25 := F25.binds (ps := ["_law_word"]) fun _ _ _ _ _ _ us hl => match us, hl with | [_], _ => rfl
 have F26 := bL (st := bF) l26 c26 k26
 have b26 := F26.binds (ps := ["_law_text"]) fun _ _ _ _ _ _ us hl => match us, hl with | [_], _ => rfl
 have F27 := bL (st := cA) l27 c27 k27
 have b27 := F27.binds (ps := ["_law_text"]) fun _ _ _ _ _ _ us hl => match us, hl with | [_], _ => rfl
 have F28 := bL (st := dS) l28 c28 k28
 have b28 := F28.binds (ps := ["_law_reader", "_law_text"]) fun _ _ _ _ _ _ us hl => match us, hl with | [_, _], _ => rfl
 have F29 := bL (st := bM) l29 c29 k29
 have b29 := F29.binds (ps := ["_law_thing"]) fun _ _ _ _ _ _ us hl => match us, hl with | [_], _ => rfl
 have F30 := bL (st := dA) l30 c30 k30
 have b30 := F30.binds (ps := ["_law_told_here", "_law_due"]) fun _ _ _ _ _ _ us hl => match us, hl with | [_, _], _ => rfl
 have F31 := bL (st := cK) l31 c31 k31
 have b31 := F31.binds (ps := ["_law_purse_here", "_law_text"]) fun _ _ _ _ _ _ us hl => match us, hl with | [_, _], _ => rfl
 have F32 := bL (st := cQ) l32 c32 k32
 have b32 := F32.binds (ps := ["_law_letter_here", "_law_one"]) fun _ _ _ _ _ _ us hl => match us, hl with | [_, _], _ => rfl
 have F33 := bL (st := gJ) l33 c33 k33
 have b33 := F33.binds (ps := ["_law_script"]) fun _ _ _ _ _ _ us hl => match us, hl with | [_], _ => rfl
 have Fi := bL (st := jF) li ci ki
 have bi := Fi.binds (ps := ["self", "row"]) fun _ _ _ _ _ _ us hl => match us, hl with | [_, _], _ => rfl
 have T : Txt K mg (fun i => ([f0, f1, f2, f3, f4, f5, f6, f7, f8, f9, f10, f11, f12, f13, f14, f15, f16, f17, f18, f19, f20, f21, f22, f23, f24, f25, f26, f27, f28, f29, f30, f31, f32, fa] : List Addr).getD i 0) (fun i => ([W.fnOf "is_name" "is_name" (aK d4) (aI d4) (aC d4) .none kV0 dc0 pm0 an0 cd0 ct0, W.fnOf "is_whole" "is_whole" (aK dW) (aI dW) (aC dW) .none kV1 dc1 pm1 an1 cd1 ct1, W.fnOf "is_day" "is_day" (aK fK) (aI fK) (aC fK) .none kV2 dc2 pm2 an2 cd2 ct2, W.fnOf "is_head" "is_head" (aK d6) (aI d6) (aC d6) .none kV3 dc3 pm3 an3 cd3 ct3, W.fnOf "is_row" "is_row" (aK eQ) (aI eQ) (aC eQ) .none kV4 dc4 pm4 an4 cd4 ct4, W.fnOf "is_letter" "is_letter" (aK cT) (aI cT) (aC cT) .none kV5 dc5 pm5 an5 cd5 ct5, W.fnOf "is_count" "is_count" (aK dG) (aI dG) (aC dG) .none kV6 dc6 pm6 an6 cd6 ct6, W.fnOf "number_in" "number_in" (aK cZ) (aI cZ) (aC cZ) .none kV7 dc7 pm7 an7 cd7 ct7, W.fnOf "checked" "checked" (aK eE) (aI eE) (aC eE) .none kV8 dc8 pm8 an8 cd8 ct8, W.fnOf "rows_in" "rows_in" (aK eJ) (aI eJ) (aC eJ) .none kV9 dc9 pm9 an9 cd9 ct9, W.fnOf "needed" "needed" (aK fL) (aI fL) (aC fL) .none kV10 dc10 pm10 an10 cd10 ct10, W.fnOf "letter_in" "letter_in" (aK cW) (aI cW) (aC cW) .none kV11 dc11 pm11 an11 cd11 ct11, W.fnOf "read_letter" "read_letter" (aK cB) (aI cB) (aC cB) .none kV12 dc12 pm12 an12 cd12 ct12, W.fnOf "read_pack" "read_pack" (aK cP) (aI cP) (aC cP) .none kV13 dc13 pm13 an13 cd13 ct13, W.fnOf "_law_purse" "_law_purse" (aK cX) (aI cX) (aC cX) .none kV14 dc14 pm14 an14 cd14 ct14, W.fnOf "_law_pick" "_law_pick" (aK dU) (aI dU) (aC dU) .none kV15 dc15 pm15 an15 cd15 ct15, W.fnOf "_law_name" "_law_name" (aK dD) (aI dD) (aC dD) .none kV16 dc16 pm16 an16 cd16 ct16, W.fnOf "_law_names" "_law_names" (aK cV) (aI cV) (aC cV) .none kV17 dc17 pm17 an17 cd17 ct17, W.fnOf "_law_day" "_law_day" (aK eG) (aI eG) (aC eG) .none kV18 dc18 pm18 an18 cd18 ct18, W.fnOf "_law_sign" "_law_sign" (aK dR) (aI dR) (aC dR) .none kV19 dc19 pm19 an19 cd19 ct19, W.fnOf "_law_letter" "_law_letter" (aK bW) (aI bW) (aC bW) .none kV20 dc20 pm20 an20 cd20 ct20, W.fnOf "_law_pack" "_law_pack" (aK dQ) (aI dQ) (aC dQ) .none kV21 dc21 pm21 an21 cd21 ct21, W.fnOf "_law_written" "_law_written" (aK cC) (aI cC) (aC cC) .none kV22 dc22 pm22 an22 cd22 ct22, W.fnOf "_law_same" "_law_same" (aK dB) (aI dB) (aC dB) .none kV23 dc23 pm23 an23 cd23 ct23, W.fnOf "_law_is_name" "_law_is_name" (aK bV) (aI bV) (aC bV) .none kV24 dc24 pm24 an24 cd24 ct24, W.fnOf "_law_is_day" "_law_is_day" (aK cE) (aI cE) (aC cE) .none kV25 dc25 pm25 an25 cd25 ct25, W.fnOf "_law_letter_of" "_law_letter_of" (aK bF) (aI bF) (aC bF) .none kV26 dc26 pm26 an26 cd26 ct26, W.fnOf "_law_pack_of" "_law_pack_of" (aK cA) (aI cA) (aC cA) .none kV27 dc27 pm27 an27 cd27 ct27, W.fnOf "_law_told" "_law_told" (aK dS) (aI dS) (aC dS) .none kV28 dc28 pm28 an28 cd28 ct28, W.fnOf "_law_or_refused" "_law_or_refused" (aK bM) (aI bM) (aC bM) .none kV29 dc29 pm29 an29 cd29 ct29, W.fnOf "_law_agree" "_law_agree" (aK dA) (aI dA) (aC dA) .none kV30 dc30 pm30 an30 cd30 ct30, W.fnOf "_law_spoilt" "_law_spoilt" (aK cK) (aI cK) (aC cK) .none kV31 dc31 pm31 an31 cd31 ct31, W.fnOf "_law_edges" "_law_edges" (aK cQ) (aI cQ) (aC cQ) .none kV32 dc32 pm32 an32 cd32 ct32, W.fnOf "law" "law" (aK gJ) (aI gJ) (aC gJ) .none kV33 dc33 pm33 an33 cd33 ct33] : List FuncData).getD i (W.fnOf "law" "law" (aK gJ) (aI gJ) (aC gJ) .none kV33 dc33 pm33 an33 cd33 ct33)) (fun i => ([0, 0, 0, 0, 0, 0, 0] : List Addr).getD i 0) (fun i => ([.str (Str.ofString "abcdefghijklmnopqrstuvwxyz0123456789") tk0, .int 12 tk1, .int 99999999 tk2, .int 60 tk3, .int 9 tk4, .str (Str.ofString "0123456789") tk5, .int 9 tk6] : List Value).getD i .none) (fun i => ([c_0, c_1, c_2, c_3, c_4, c_5, c_6] : List Addr).getD i 0) fI (W.fnOf "__init__" "NoText.__init__" (aK jF) (aI jF) (aC jF) .none kV34 dc34 pm34 an34 cd34 ct34) := ⟨⟨F0, W.mg_of X G a0, b0⟩, ⟨F1, W.mg_of X G a1, b1⟩, ⟨F2, W.mg_of X G a2, b2⟩, ⟨F3, W.mg_of X G a3, b3⟩, ⟨F4, W.mg_of X G a4, b4⟩, ⟨F5, W.mg_of X G a5, b5⟩, ⟨F6, W.mg_of X G a6, b6⟩, ⟨F7, W.mg_of X G a7, b7⟩, ⟨F8, W.mg_of X G a8, b8⟩, ⟨F9, W.mg_of X G a9, b9⟩, ⟨F10, W.mg_of X G a10, b10⟩, ⟨F11, W.mg_of X G a11, b11⟩, ⟨F12, W.mg_of X G a12, b12⟩, ⟨F13, W.mg_of X G a13, b13⟩, ⟨F14, W.mg_of X G a14, b14⟩, ⟨F15, W.mg_of X G a15, b15⟩, ⟨F16, W.mg_of X G a16, b16⟩, ⟨F17, W.mg_of X G a17, b17⟩, ⟨F18, W.mg_of X G a18, b18⟩, ⟨F19, W.mg_of X G a19, b19⟩, ⟨F20, W.mg_of X G a20, b20⟩, ⟨F21, W.mg_of X G a21, b21⟩, ⟨F22, W.mg_of X G a22, b22⟩, ⟨F23, W.mg_of X G a23, b23⟩, ⟨F24, W.mg_of X G a24, b24⟩, ⟨F25, W.mg_of X G a25, b25⟩, ⟨F26, W.mg_of X G a26, b26⟩, ⟨F27, W.mg_of X G a27, b27⟩, ⟨F28, W.mg_of X G a28, b28⟩, ⟨F29, W.mg_of X G a29, b29⟩, ⟨F30, W.mg_of X G a30, b30⟩, ⟨F31, W.mg_of X G a31, b31⟩, ⟨F32, W.mg_of X G a32, b32⟩, ⟨F33, W.mg_of X G a33, b33⟩, W.mg_none_of X G d3, W.mg_none_of X G aQ, W.mg_none_of X G kY, W.mg_none_of X G iY, W.mg_none_of X G lJ, W.mg_none_of X G nW, W.mg_none_of X G sS, W.mg_none_of X G d8, W.mg_none_of X G fD, W.mg_none_of X G fA, W.mg_none_of X G jR, W.mg_none_of X G fM, W.mg_none_of X G yL, W.mg_none_of X G jU, W.mg_none_of X G sH, W.mg_none_of X G xA, W.mg_of X G e_NAME_SIGNS, ⟨_, rfl⟩, W.mg_of X G e_LONGEST_NAME, ⟨_, rfl⟩, W.mg_of X G e_LAST_DAY, ⟨_, rfl⟩, W.mg_of X G e_LONGEST_HEAD, ⟨_, rfl⟩, W.mg_of X G e_LONGEST_ROW, ⟨_, rfl⟩, W.mg_of X G e_FIGURES, ⟨_, rfl⟩, W.mg_of X G e_MOST_FIGURES, ⟨_, rfl⟩, W.mg_of X G e0, W.mg_of X G e1, W.mg_of X G e2, W.mg_of X G e3, W.mg_of X G e4, W.mg_of X G e5, W.mg_of X G e6, x0, p0, ⟨g1, g2⟩, ⟨q1, q2, q3, q4, q5, q6⟩, xt, xv, fun i h => match i, h with | 0, _ => xe0 | 1, _ => xe1 | 2, _ => xe2 | 3, _ => xe3 | 4, _ => xe4 | 5, _ => xe5 | (_ + 6), h => absurd h (by omega), m0, sa, na, Fi, ti, bi⟩
 refine ⟨W.fnOf "law" "law" (aK gJ) (aI gJ) (aC gJ) .none kV33 dc33 pm33 an33 cd33 ct33, fun s v => .of_eq rfl, fun base _ _ => ?_⟩
 have G_init := KO (P := l.prog) (w := w) (base := base) T
 have G_is_name := zM (P := l.prog) (w := w) (base := base) T
 have G_is_whole := yW (P := l.prog) (w := w) (base := base) T
 have G_is_head := AO (P := l.prog) (w := w) (base := base) T
 have G_is_count := wA (P := l.prog) (w := w) (base := base) T
 have G_checked := zL (P := l.prog) (w := w) (base := base) T
 have G_law_purse := uF (P := l.prog) (w := w) (base := base) T
 have G_law_pick := xI (P := l.prog) (w := w) (base := base) T
 have G_law_written := pZ (P := l.prog) (w := w) (base := base) T
 have G_law_is_name := rE (P := l.prog) (w := w) (base := base) T
 have G_law_is_day := rZ (P := l.prog) (w := w) (base := base) T
 have G_law_or_refused := lT (P := l.prog) (w := w) (base := base) T
 have G_is_day := DV (P := l.prog) (w := w) (base := base) T G_is_whole
 have G_is_row := EJ (P := l.prog) (w := w) (base := base) T G_is_name
 have G_number_in := uT (P := l.prog) (w := w) (base := base) T G_is_count
 have G_rows_in := AL (P := l.prog) (w := w) (base := base) T G_checked
 have G_law_name := yB (P := l.prog) (w := w) (base := base) T G_law_pick
 have G_law_day := AI (P := l.prog) (w := w) (base := base) T G_law_pick
 have G_law_sign := wR (P := l.prog) (w := w) (base := base) T G_law_pick
 have G_law_letter_of := nN (P := l.prog) (w := w) (base := base) T G_law_is_name G_law_is_day
 have G_law_edges := t6 (P := l.prog) (w := w) (base := base) T G_law_written
 have G_is_letter := vH (P := l.prog) (w := w) (base := base) T G_is_name G_is_day G_is_head G_is_row
 have G_needed := DO (P := l.prog) (w := w) (base := base) T G_init
 have G_law_names := uL (P := l.prog) (w := w) (base := base) T G_law_name
 have G_law_letter := rX (P := l.prog) (w := w) (base := base) T G_law_day G_law_pick G_law_sign
 have G_law_pack_of := pH (P := l.prog) (w := w) (base := base) T G_law_letter_of
 have G_law_spoilt := rW (P := l.prog) (w := w) (base := base) T G_law_pick G_law_sign
 have G_letter_in := uX (P := l.prog) (w := w) (base := base) T G_number_in G_is_letter
 have G_law_pack := yU (P := l.prog) (w := w) (base := base) T G_law_letter G_law_pick
 have G_read_letter := pG (P := l.prog) (w := w) (base := base) T G_needed G_letter_in G_checked
 have G_read_pack := uK (P := l.prog) (w := w) (base := base) T G_init G_rows_in G_needed G_letter_in
 have G_law_told := yD (P := l.prog) (w := w) (base := base) T G_read_letter G_read_pack
 have G_law_same_1 := eC (P := l.prog) (w := w) (base := base) T  0 GX
 have G_law_same_2 := eC (P := l.prog) (w := w) (base := base) T  1 G_law_same_1
 have G_law_same_3 := eC (P := l.prog) (w := w) (base := base) T  2 G_law_same_2
 have G_law_same_4 := eC (P := l.prog) (w := w) (base := base) T  3 G_law_same_3
 have G_law_same_5 := eC (P := l.prog) (w := w) (base := base) T  4 G_law_same_4
 have G_law_same_6 := eC (P := l.prog) (w := w) (base := base) T  5 G_law_same_5
 have G_law_same_7 := eC (P := l.prog) (w := w) (base := base) T  6 G_law_same_6
 have G_law_same := G_law_same_7
 have G_law_agree := uQ (P := l.prog) (w := w) (base := base) T G_law_same
 exact N8 T G_law_purse G_law_names G_law_edges G_law_letter G_law_pack G_law_written G_law_agree G_law_spoilt G_law_told G_read_letter G_law_or_refused G_read_pack G_law_pack_of G_law_letter_of
theorem walk {l : PySem.W.OpenLaw} {q : Program} {loose : List Str} {XP : (Str → Option Value) → Heap → Prop} {YP : World → Heap → Prop} {d : DefRec} {K : Params → PySem.W.Frag} (hn : l.most = some 63) (hdf : d.params.defaults = [])
  (hY : ∀ (w : World) (h : Heap), YP w h → (K w.params).In h)
  (F : ∀ (w : World) (mg : Str → Option Value) (fa : Addr) (h : Heap), (K w.params).In h → h.Ns mainGlobals mg → mg d.name = some (.ref fa) →
   ∃ fd : FuncData, (∀ (s : Shared) (u : Value), BindsTo s fd ⟨[u], []⟩ [("_law_script", u)]) ∧ ∀ base : Heap, (K w.params).In base → base.Ns mainGlobals mg → aT l.prog w (K w.params) mg base dF 10 fa fd ["_law_script"] (BB (K w.params))) :
  PySem.W.WalkO q loose XP YP l.row.toRowW d [] (fun f vs => PySem.call f vs) :=
 L2.L6 (n := 63) (k := 10) (x := "_law_script") (CX := fun _ => dF) (sp := fun w => BB (K w.params)) hn (by decide) hdf ⟨rfl, by decide, by decide, rfl⟩ hY F (fun _ _ a ns hl _ hS => ⟨a, ns, rfl, hS, hl, fun _ => rfl⟩) fun _ _ _ _ _ z => z
end My
open PySem PySem.W PyProof.Rows
set_option maxRecDepth 100000 in
set_option maxHeartbeats 0 in
theorem PySem.Challenge.cw_answertrees_k66_letters_and_packs_judged_holds : PySem.Challenge.rw_answertrees_k66_letters_and_packs_judged.Holds := by
 refine PySem.W.holds_law My.TY fun said => PySem.W.holds_open (q := My.RX) (loose := []) (XP := PySem.W.XL My.RX []) (YP := PySem.W.InK My.S7) (N := My.TH) My.T2 (PySem.W.InK.of fun _ => by kernel_rfl) PySem.W.InK.keeps (fun s e => PySem.W.xl_of s (Bool.and_eq_true_iff.mp e).1) PySem.W.XL.keeps (by rfl) (by rfl) (by rfl) (fun s e => PySem.W.recFacts_of (Bool.and_eq_true_iff.mp e).2) rfl said (by decide +kernel) ⟨rfl, rfl, rfl, rfl, rfl, by decide +kernel⟩ ?hw ?hc
 case hw => w_witness2
 k_fill
 refine My.walk (l := PySem.Challenge.rw_answertrees_k66_letters_and_packs_judged) rfl rfl (fun w h Y => Y) ?F
 case F =>
  intro w mg fa h KX G hmg
  refine' My.all_mk KX G hmg ?a0 ?l0 ?c0 ?k0 ?a1 ?l1 ?c1 ?k1 ?a2 ?l2 ?c2 ?k2 ?a3 ?l3 ?c3 ?k3 ?a4 ?l4 ?c4 ?k4 ?a5 ?l5 ?c5 ?k5 ?a6 ?l6 ?c6 ?k6 ?a7 ?l7 ?c7 ?k7 ?a8 ?l8 ?c8 ?k8 ?a9 ?l9 ?c9 ?k9 ?a10 ?l10 ?c10 ?k10 ?a11 ?l11 ?c11 ?k11 ?a12 ?l12 ?c12 ?k12 ?a13 ?l13 ?c13 ?k13 ?a14 ?l14 ?c14 ?k14 ?a15 ?l15 ?c15 ?k15 ?a16 ?l16 ?c16 ?k16 ?a17 ?l17 ?c17 ?k17 ?a18 ?l18 ?c18 ?k18 ?a19 ?l19 ?c19 ?k19 ?a20 ?l20 ?c20 ?k20 ?a21 ?l21 ?c21 ?k21 ?a22 ?l22 ?c22 ?k22 ?a23 ?l23 ?c23 ?k23 ?a24 ?l24 ?c24 ?k24 ?a25 ?l25 ?c25 ?k25 ?a26 ?l26 ?c26 ?k26 ?a27 ?l27 ?c27 ?k27 ?a28 ?l28 ?c28 ?k28 ?a29 ?l29 ?c29 ?k29 ?a30 ?l30 ?c30 ?k30 ?a31 ?l31 ?c31 ?k31 ?a32 ?l32 ?c32 ?k32 ?a33 ?l33 ?c33 ?k33 ?d3 ?aQ ?kY ?iY ?lJ ?nW ?sS ?d8 ?fD ?fA ?jR ?fM ?yL ?jU ?sH ?xA ?e_NAME_SIGNS ?e_LONGEST_NAME ?e_LAST_DAY ?e_LONGEST_HEAD ?e_LONGEST_ROW ?e_FIGURES ?e_MOST_FIGURES ?e0 ?e1 ?e2 ?e3 ?e4 ?e5 ?e6 ?ei ?li ?ci ?ki ?ti ?x0 ?p0 ?g1 ?g2 ?q1 ?q2 ?q3 ?q4 ?q5 ?q6 ?xt ?xv ?xe0 ?xe1 ?xe2 ?xe3 ?xe4 ?xe5 ?m0 ?sa ?na
  case a0 | l0 | c0 | k0 | a1 | l1 | c1 | k1 | a2 | l2 | c2 | k2 | a3 | l3 | c3 | k3 | a4 | l4 | c4 | k4 | a5 | l5 | c5 | k5 | a6 | l6 | c6 | k6 | a7 | l7 | c7 | k7 | a8 | l8 | c8 | k8 | a9 | l9 | c9 | k9 | a10 | l10 | c10 | k10 | a11 | l11 | c11 | k11 | a12 | l12 | c12 | k12 | a13 | l13 | c13 | k13 | a14 | l14 | c14 | k14 | a15 | l15 | c15 | k15 | a16 | l16 | c16 | k16 | a17 | l17 | c17 | k17 | a18 | l18 | c18 | k18 | a19 | l19 | c19 | k19 | a20 | l20 | c20 | k20 | a21 | l21 | c21 | k21 | a22 | l22 | c22 | k22 | a23 | l23 | c23 | k23 | a24 | l24 | c24 | k24 | a25 | l25 | c25 | k25 | a26 | l26 | c26 | k26 | a27 | l27 | c27 | k27 | a28 | l28 | c28 | k28 | a29 | l29 | c29 | k29 | a30 | l30 | c30 | k30 | a31 | l31 | c31 | k31 | a32 | l32 | c32 | k32 | a33 | l33 | c33 | k33 | d3 | aQ | kY | iY | lJ | nW | sS | d8 | fD | fA | jR | fM | yL | jU | sH | xA | e_NAME_SIGNS | e_LONGEST_NAME | e_LAST_DAY | e_LONGEST_HEAD | e_LONGEST_ROW | e_FIGURES | e_MOST_FIGURES | e0 | e1 | e2 | e3 | e4 | e5 | e6 | ei | li | ci | ki | ti => k_is
  case x0 => kernel_rfl
  case p0 | g1 | g2 | q1 | q2 | q3 | q4 | q5 | q6 => k_is
  case xt | xv | xe0 | xe1 | xe2 | xe3 | xe4 | xe5 | m0 => kernel_rfl
  case sa | na => k_is
#print axioms PySem.Challenge.cw_answertrees_k66_letters_and_packs_judged_holds
