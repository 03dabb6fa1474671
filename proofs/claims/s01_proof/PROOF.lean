import PyProof.Rows.All
import Wide.All
import OpenK.AllK
import Wide.FinOn
import PyProof.EqAt
import PyProof.EqKinds
import PyProof.TupleCall
import KE.BitLaws
import Open.SpecLaws
import KE.OsHead
import KE.OsGo
import PyVbdlan
import PySem.Challenge.RW_bloodbath_s01_answers
set_option Elab.async false
set_option linter.all false
set_option maxRecDepth 100000
namespace Hd
open PySem PySem.W
abbrev pw : Program := PySem.Challenge.pw_bloodbath_s01_answers
def top (i : Nat) : Stmt := PySem.Challenge.pw_bloodbath_s01_answers.main.body.getD i (.Pass ⟨0, 0, 0, 0⟩)
def inC (s : Stmt) (j : Nat) : Stmt := match s with
  | .ClassDef _ _ _ body _ _ _ _ _ _ _ => body.getD j (.Pass ⟨0, 0, 0, 0⟩)
  | _ => .Pass ⟨0, 0, 0, 0⟩
def dA (s : Stmt) : Arguments := match s with
  | .FunctionDef _ a _ _ _ _ _ _ _ _ => a
  | _ => { posonlyargs := [], args := [], vararg := none, kwonlyargs := [], kw_defaults := [], kwarg := none, defaults := [] }
def dB (s : Stmt) : List Stmt := match s with
  | .FunctionDef _ _ b _ _ _ _ _ _ _ => b
  | _ => []
def dS (s : Stmt) : Scope := match s with
  | .FunctionDef _ _ _ _ _ _ sc _ _ _ => sc
  | _ => { kind := .function, names := [], isGenerator := false, isCoroutine := false }
/-- the text without the two tables that no look reads -/
def view : Program := { pw with main := { pw.main with body := [top 0, top 1, top 2, top 3, top 4, top 5, top 6, top 7, top 8, top 9, top 10, top 11, top 12, top 13, top 14, top 15, top 16, top 17, top 19, top 20, top 21, top 22, top 23, top 24, top 25, top 26, top 27, top 28, top 29, top 30, top 31, top 32, top 33, top 34, top 35, top 36, top 37, top 38, top 39, top 40, top 41, top 42, top 44, top 45, top 46, top 47] } }
abbrev so (s : String) : Str := Str.ofString s
abbrev kh (P : Params) (s : Str) := PyData.keyHash P s
/-- what the top leaves, as far as the calls reach it -/
noncomputable def K : Params → Frag := fun P => (nat_lit 2, { cls := .none, data := Data.dict #[] }) :: (nat_lit 3, { cls := .type "dict", data := Data.dict #[{ hash := kh P (so "__name__"), key := .str (so "__name__") 165, val := .str (so "bloodbath.device") 333 }, { hash := kh P (so "__doc__"), key := .str (so "__doc__") 166, val := .none }, { hash := kh P (so "__package__"), key := .str (so "__package__") 167, val := .none }, { hash := kh P (so "__loader__"), key := .str (so "__loader__") 168, val := .builtin "__main__.__loader__#opaque" }, { hash := kh P (so "__spec__"), key := .str (so "__spec__") 169, val := .none }, { hash := kh P (so "__annotations__"), key := .str (so "__annotations__") 170, val := .ref 6 }, { hash := kh P (so "__builtins__"), key := .str (so "__builtins__") 171, val := .ref 4 }, { hash := kh P (so "__file__"), key := .str (so "__file__") 173, val := .str (so "/claim/cut.py") 172 }, { hash := kh P (so "__cached__"), key := .str (so "__cached__") 174, val := .none }, { hash := kh P (so "crossing"), key := .str (so "crossing") 199, val := .ref 21 }, { hash := kh P (so "Solute"), key := .str (so "Solute") 332, val := .ref 108 }, { hash := kh P (so "OUT_OF_RANGE"), key := .str (so "OUT_OF_RANGE") 337, val := .int (-1) 336 }, { hash := kh P (so "NOT_LAID"), key := .str (so "NOT_LAID") 340, val := .int (-2) 339 }, { hash := kh P (so "NOT_THERE"), key := .str (so "NOT_THERE") 343, val := .int (-3) 342 }, { hash := kh P (so "FEWER_SOLUTES"), key := .str (so "FEWER_SOLUTES") 346, val := .int (-4) 345 }, { hash := kh P (so "POOL_TOO_SMALL"), key := .str (so "POOL_TOO_SMALL") 349, val := .int (-5) 348 }, { hash := kh P (so "TOO_MUCH_GIVEN"), key := .str (so "TOO_MUCH_GIVEN") 352, val := .int (-6) 351 }, { hash := kh P (so "TOO_MANY_TICKS"), key := .str (so "TOO_MANY_TICKS") 355, val := .int (-7) 354 }, { hash := kh P (so "NO_SHARE"), key := .str (so "NO_SHARE") 358, val := .int (-8) 357 }, { hash := kh P (so "MOST_GIVEN"), key := .str (so "MOST_GIVEN") 360, val := .int 10000000000 359 }, { hash := kh P (so "MOST_TICKS"), key := .str (so "MOST_TICKS") 362, val := .int 20000 361 }, { hash := kh P (so "FIRST_VOLUME"), key := .str (so "FIRST_VOLUME") 364, val := .int 1000000 363 }, { hash := kh P (so "LAY"), key := .str (so "LAY") 366, val := .int 0 365 }, { hash := kh P (so "RATES"), key := .str (so "RATES") 368, val := .int 3 367 }, { hash := kh P (so "RANGES"), key := .str (so "RANGES") 431, val := .ref 163 }, { hash := kh P (so "SOLUTE_AT"), key := .str (so "SOLUTE_AT") 459, val := .ref 164 }, { hash := kh P (so "Rate"), key := .str (so "Rate") 513, val := .ref 202 }, { hash := kh P (so "Device"), key := .str (so "Device") 553, val := .ref 223 }, { hash := kh P (so "lay"), key := .str (so "lay") 562, val := .ref 234 }, { hash := kh P (so "set_share"), key := .str (so "set_share") 571, val := .ref 241 }, { hash := kh P (so "set_fresh"), key := .str (so "set_fresh") 580, val := .ref 248 }, { hash := kh P (so "set_rates"), key := .str (so "set_rates") 588, val := .ref 255 }, { hash := kh P (so "set_pools"), key := .str (so "set_pools") 596, val := .ref 262 }, { hash := kh P (so "give_dose"), key := .str (so "give_dose") 605, val := .ref 269 }, { hash := kh P (so "set_growth"), key := .str (so "set_growth") 614, val := .ref 276 }, { hash := kh P (so "set_round"), key := .str (so "set_round") 622, val := .ref 283 }, { hash := kh P (so "pass_ticks"), key := .str (so "pass_ticks") 637, val := .ref 290 }, { hash := kh P (so "run_ticks"), key := .str (so "run_ticks") 645, val := .ref 297 }, { hash := kh P (so "tell_blood"), key := .str (so "tell_blood") 651, val := .ref 302 }, { hash := kh P (so "tell_bath"), key := .str (so "tell_bath") 657, val := .ref 307 }, { hash := kh P (so "tell_patient"), key := .str (so "tell_patient") 667, val := .ref 314 }, { hash := kh P (so "tell_totals"), key := .str (so "tell_totals") 676, val := .ref 321 }, { hash := kh P (so "set_mark"), key := .str (so "set_mark") 685, val := .ref 328 }, { hash := kh P (so "common_divisor"), key := .str (so "common_divisor") 694, val := .ref 335 }, { hash := kh P (so "share_gone"), key := .str (so "share_gone") 704, val := .ref 342 }, { hash := kh P (so "tell_extraction"), key := .str (so "tell_extraction") 713, val := .ref 349 }, { hash := kh P (so "tell_reduction"), key := .str (so "tell_reduction") 722, val := .ref 356 }, { hash := kh P (so "tell_profile"), key := .str (so "tell_profile") 731, val := .ref 363 }, { hash := kh P (so "tell_look"), key := .str (so "tell_look") 741, val := .ref 370 }, { hash := kh P (so "tell_would"), key := .str (so "tell_would") 750, val := .ref 377 }, { hash := kh P (so "CALLS"), key := .str (so "CALLS") 751, val := .ref 378 }, { hash := kh P (so "in_range"), key := .str (so "in_range") 761, val := .ref 385 }, { hash := kh P (so "names_missing_solute"), key := .str (so "names_missing_solute") 770, val := .ref 392 }, { hash := kh P (so "answer"), key := .str (so "answer") 779, val := .ref 399 }, { hash := kh P (so "answers"), key := .str (so "answers") 791, val := .ref 406 }] 55 }) :: (nat_lit 15, { cls := .type "tuple", data := Data.seq #[] }) :: (nat_lit 17, { cls := .type "tuple", data := Data.seq #[.str (so "a") 192, .str (so "v") 193, .str (so "b") 194, .str (so "w") 195, .str (so "z") 196] }) :: (nat_lit 18, { cls := .type "tuple", data := Data.seq #[] }) :: (nat_lit 20, { cls := .type "code", data := Data.fields #[.str (so "crossing") 189, .str (so "crossing") 190, .str (so "/claim/cut.py") 191, .int 2 0, .int 5 0, .int 0 0, .int 0 0, .int 3 0, .ref 15, .bool true, .int 181 0, .ref 16, .none, .ref 17, .ref 18, .ref 19, .int 197 0, .int 2 0, .str (so "/claim/cut.py") 198] }) :: (nat_lit 21, { cls := .type "function", data := Data.func { name := so "crossing", qualname := so "crossing", params := dA (top 1), body := FuncBody.stmts (dB (top 1)), scope := dS (top 1), globals := 3, closure := [], defaults := .none, kwdefaults := .none, pyModule := .str (so "bloodbath.solute") 187, code := .ref 20 } }) :: (nat_lit 29, { cls := .type "tuple", data := Data.seq #[] }) :: (nat_lit 31, { cls := .type "tuple", data := Data.seq #[.str (so "self") 215] }) :: (nat_lit 32, { cls := .type "tuple", data := Data.seq #[] }) :: (nat_lit 34, { cls := .type "code", data := Data.fields #[.str (so "__init__") 212, .str (so "Solute.__init__") 213, .str (so "/claim/cut.py") 214, .int 10 0, .int 1 0, .int 0 0, .int 0 0, .int 3 0, .ref 29, .bool true, .int 181 0, .ref 30, .none, .ref 31, .ref 32, .ref 33, .int 216 0, .int 10 0, .str (so "/claim/cut.py") 217] }) :: (nat_lit 35, { cls := .type "function", data := Data.func { name := so "__init__", qualname := so "Solute.__init__", params := dA (inC (top 2) 0), body := FuncBody.stmts (dB (inC (top 2) 0)), scope := dS (inC (top 2) 0), globals := 3, closure := [], defaults := .none, kwdefaults := .none, pyModule := .str (so "bloodbath.solute") 187, code := .ref 34 } }) :: (nat_lit 36, { cls := .type "tuple", data := Data.seq #[] }) :: (nat_lit 38, { cls := .type "tuple", data := Data.seq #[.str (so "self") 222, .str (so "cells") 223] }) :: (nat_lit 39, { cls := .type "tuple", data := Data.seq #[] }) :: (nat_lit 41, { cls := .type "code", data := Data.fields #[.str (so "lay_cells") 219, .str (so "Solute.lay_cells") 220, .str (so "/claim/cut.py") 221, .int 27 0, .int 2 0, .int 0 0, .int 0 0, .int 3 0, .ref 36, .bool true, .int 181 0, .ref 37, .none, .ref 38, .ref 39, .ref 40, .int 224 0, .int 27 0, .str (so "/claim/cut.py") 225] }) :: (nat_lit 42, { cls := .type "function", data := Data.func { name := so "lay_cells", qualname := so "Solute.lay_cells", params := dA (inC (top 2) 1), body := FuncBody.stmts (dB (inC (top 2) 1)), scope := dS (inC (top 2) 1), globals := 3, closure := [], defaults := .none, kwdefaults := .none, pyModule := .str (so "bloodbath.solute") 187, code := .ref 41 } }) :: (nat_lit 43, { cls := .type "tuple", data := Data.seq #[] }) :: (nat_lit 45, { cls := .type "tuple", data := Data.seq #[.str (so "self") 230, .str (so "which") 231, .str (so "mass") 232] }) :: (nat_lit 46, { cls := .type "tuple", data := Data.seq #[] }) :: (nat_lit 48, { cls := .type "code", data := Data.fields #[.str (so "dose") 227, .str (so "Solute.dose") 228, .str (so "/claim/cut.py") 229, .int 32 0, .int 3 0, .int 0 0, .int 0 0, .int 3 0, .ref 43, .bool true, .int 181 0, .ref 44, .none, .ref 45, .ref 46, .ref 47, .int 233 0, .int 32 0, .str (so "/claim/cut.py") 234] }) :: (nat_lit 49, { cls := .type "function", data := Data.func { name := so "dose", qualname := so "Solute.dose", params := dA (inC (top 2) 2), body := FuncBody.stmts (dB (inC (top 2) 2)), scope := dS (inC (top 2) 2), globals := 3, closure := [], defaults := .none, kwdefaults := .none, pyModule := .str (so "bloodbath.solute") 187, code := .ref 48 } }) :: (nat_lit 50, { cls := .type "tuple", data := Data.seq #[] }) :: (nat_lit 52, { cls := .type "tuple", data := Data.seq #[.str (so "self") 239] }) :: (nat_lit 53, { cls := .type "tuple", data := Data.seq #[] }) :: (nat_lit 55, { cls := .type "code", data := Data.fields #[.str (so "mark") 236, .str (so "Solute.mark") 237, .str (so "/claim/cut.py") 238, .int 39 0, .int 1 0, .int 0 0, .int 0 0, .int 3 0, .ref 50, .bool true, .int 181 0, .ref 51, .none, .ref 52, .ref 53, .ref 54, .int 240 0, .int 39 0, .str (so "/claim/cut.py") 241] }) :: (nat_lit 56, { cls := .type "function", data := Data.func { name := so "mark", qualname := so "Solute.mark", params := dA (inC (top 2) 3), body := FuncBody.stmts (dB (inC (top 2) 3)), scope := dS (inC (top 2) 3), globals := 3, closure := [], defaults := .none, kwdefaults := .none, pyModule := .str (so "bloodbath.solute") 187, code := .ref 55 } }) :: (nat_lit 57, { cls := .type "tuple", data := Data.seq #[] }) :: (nat_lit 59, { cls := .type "tuple", data := Data.seq #[.str (so "self") 246, .str (so "counted") 247] }) :: (nat_lit 60, { cls := .type "tuple", data := Data.seq #[] }) :: (nat_lit 62, { cls := .type "code", data := Data.fields #[.str (so "totals") 243, .str (so "Solute.totals") 244, .str (so "/claim/cut.py") 245, .int 44 0, .int 1 0, .int 0 0, .int 0 0, .int 3 0, .ref 57, .bool true, .int 181 0, .ref 58, .none, .ref 59, .ref 60, .ref 61, .int 248 0, .int 44 0, .str (so "/claim/cut.py") 249] }) :: (nat_lit 63, { cls := .type "function", data := Data.func { name := so "totals", qualname := so "Solute.totals", params := dA (inC (top 2) 4), body := FuncBody.stmts (dB (inC (top 2) 4)), scope := dS (inC (top 2) 4), globals := 3, closure := [], defaults := .none, kwdefaults := .none, pyModule := .str (so "bloodbath.solute") 187, code := .ref 62 } }) :: (nat_lit 64, { cls := .type "tuple", data := Data.seq #[] }) :: (nat_lit 66, { cls := .type "tuple", data := Data.seq #[.str (so "self") 254, .str (so "other") 255] }) :: (nat_lit 67, { cls := .type "tuple", data := Data.seq #[] }) :: (nat_lit 69, { cls := .type "code", data := Data.fields #[.str (so "twin") 251, .str (so "Solute.twin") 252, .str (so "/claim/cut.py") 253, .int 48 0, .int 1 0, .int 0 0, .int 0 0, .int 3 0, .ref 64, .bool true, .int 181 0, .ref 65, .none, .ref 66, .ref 67, .ref 68, .int 256 0, .int 48 0, .str (so "/claim/cut.py") 257] }) :: (nat_lit 70, { cls := .type "function", data := Data.func { name := so "twin", qualname := so "Solute.twin", params := dA (inC (top 2) 5), body := FuncBody.stmts (dB (inC (top 2) 5)), scope := dS (inC (top 2) 5), globals := 3, closure := [], defaults := .none, kwdefaults := .none, pyModule := .str (so "bloodbath.solute") 187, code := .ref 69 } }) :: (nat_lit 71, { cls := .type "tuple", data := Data.seq #[] }) :: (nat_lit 73, { cls := .type "tuple", data := Data.seq #[.str (so "self") 262, .str (so "device") 263, .str (so "blood_moves") 264, .str (so "bath_moves") 265] }) :: (nat_lit 74, { cls := .type "tuple", data := Data.seq #[] }) :: (nat_lit 76, { cls := .type "code", data := Data.fields #[.str (so "tick") 259, .str (so "Solute.tick") 260, .str (so "/claim/cut.py") 261, .int 67 0, .int 4 0, .int 0 0, .int 0 0, .int 3 0, .ref 71, .bool true, .int 181 0, .ref 72, .none, .ref 73, .ref 74, .ref 75, .int 266 0, .int 67 0, .str (so "/claim/cut.py") 267] }) :: (nat_lit 77, { cls := .type "function", data := Data.func { name := so "tick", qualname := so "Solute.tick", params := dA (inC (top 2) 6), body := FuncBody.stmts (dB (inC (top 2) 6)), scope := dS (inC (top 2) 6), globals := 3, closure := [], defaults := .none, kwdefaults := .none, pyModule := .str (so "bloodbath.solute") 187, code := .ref 76 } }) :: (nat_lit 78, { cls := .type "tuple", data := Data.seq #[] }) :: (nat_lit 80, { cls := .type "tuple", data := Data.seq #[.str (so "self") 272, .str (so "device") 273, .str (so "gone") 274] }) :: (nat_lit 81, { cls := .type "tuple", data := Data.seq #[] }) :: (nat_lit 83, { cls := .type "code", data := Data.fields #[.str (so "mix_pools") 269, .str (so "Solute.mix_pools") 270, .str (so "/claim/cut.py") 271, .int 75 0, .int 2 0, .int 0 0, .int 0 0, .int 3 0, .ref 78, .bool true, .int 181 0, .ref 79, .none, .ref 80, .ref 81, .ref 82, .int 275 0, .int 75 0, .str (so "/claim/cut.py") 276] }) :: (nat_lit 84, { cls := .type "function", data := Data.func { name := so "mix_pools", qualname := so "Solute.mix_pools", params := dA (inC (top 2) 7), body := FuncBody.stmts (dB (inC (top 2) 7)), scope := dS (inC (top 2) 7), globals := 3, closure := [], defaults := .none, kwdefaults := .none, pyModule := .str (so "bloodbath.solute") 187, code := .ref 83 } }) :: (nat_lit 85, { cls := .type "tuple", data := Data.seq #[] }) :: (nat_lit 87, { cls := .type "tuple", data := Data.seq #[.str (so "self") 281, .str (so "device") 282, .str (so "last") 283, .str (so "again") 284, .str (so "volume") 285, .str (so "drawn") 286] }) :: (nat_lit 88, { cls := .type "tuple", data := Data.seq #[] }) :: (nat_lit 90, { cls := .type "code", data := Data.fields #[.str (so "move_blood") 278, .str (so "Solute.move_blood") 279, .str (so "/claim/cut.py") 280, .int 82 0, .int 2 0, .int 0 0, .int 0 0, .int 3 0, .ref 85, .bool true, .int 181 0, .ref 86, .none, .ref 87, .ref 88, .ref 89, .int 287 0, .int 82 0, .str (so "/claim/cut.py") 288] }) :: (nat_lit 91, { cls := .type "function", data := Data.func { name := so "move_blood", qualname := so "Solute.move_blood", params := dA (inC (top 2) 8), body := FuncBody.stmts (dB (inC (top 2) 8)), scope := dS (inC (top 2) 8), globals := 3, closure := [], defaults := .none, kwdefaults := .none, pyModule := .str (so "bloodbath.solute") 187, code := .ref 90 } }) :: (nat_lit 92, { cls := .type "tuple", data := Data.seq #[] }) :: (nat_lit 94, { cls := .type "tuple", data := Data.seq #[.str (so "self") 293, .str (so "along") 294] }) :: (nat_lit 95, { cls := .type "tuple", data := Data.seq #[] }) :: (nat_lit 97, { cls := .type "code", data := Data.fields #[.str (so "move_bath") 290, .str (so "Solute.move_bath") 291, .str (so "/claim/cut.py") 292, .int 92 0, .int 2 0, .int 0 0, .int 0 0, .int 3 0, .ref 92, .bool true, .int 181 0, .ref 93, .none, .ref 94, .ref 95, .ref 96, .int 295 0, .int 92 0, .str (so "/claim/cut.py") 296] }) :: (nat_lit 98, { cls := .type "function", data := Data.func { name := so "move_bath", qualname := so "Solute.move_bath", params := dA (inC (top 2) 9), body := FuncBody.stmts (dB (inC (top 2) 9)), scope := dS (inC (top 2) 9), globals := 3, closure := [], defaults := .none, kwdefaults := .none, pyModule := .str (so "bloodbath.solute") 187, code := .ref 97 } }) :: (nat_lit 99, { cls := .type "tuple", data := Data.seq #[] }) :: (nat_lit 101, { cls := .type "tuple", data := Data.seq #[.str (so "self") 301, .str (so "device") 302, .str (so "blood") 303, .str (so "bath") 304, .str (so "i") 305, .str (so "gone") 306] }) :: (nat_lit 102, { cls := .type "tuple", data := Data.seq #[] }) :: (nat_lit 104, { cls := .type "code", data := Data.fields #[.str (so "cross_membrane") 298, .str (so "Solute.cross_membrane") 299, .str (so "/claim/cut.py") 300, .int 101 0, .int 2 0, .int 0 0, .int 0 0, .int 3 0, .ref 99, .bool true, .int 181 0, .ref 100, .none, .ref 101, .ref 102, .ref 103, .int 307 0, .int 101 0, .str (so "/claim/cut.py") 308] }) :: (nat_lit 105, { cls := .type "function", data := Data.func { name := so "cross_membrane", qualname := so "Solute.cross_membrane", params := dA (inC (top 2) 10), body := FuncBody.stmts (dB (inC (top 2) 10)), scope := dS (inC (top 2) 10), globals := 3, closure := [], defaults := .none, kwdefaults := .none, pyModule := .str (so "bloodbath.solute") 187, code := .ref 104 } }) :: (nat_lit 106, { cls := .type "tuple", data := Data.seq #[.str (so "at_mark") 310, .str (so "bath") 311, .str (so "blood") 312, .str (so "came_out") 313, .str (so "come") 314, .str (so "fresh") 315, .str (so "given") 316, .str (so "growth") 317, .str (so "pool1") 318, .str (so "pool2") 319, .str (so "produced") 320, .str (so "share") 321, .str (so "spent") 322, .str (so "thrown") 323, .str (so "went_in") 324] }) :: (nat_lit 107, { cls := .type "dict", data := Data.dict #[{ hash := kh P (so "__module__"), key := .str (so "__module__") 207, val := .str (so "bloodbath.solute") 187 }, { hash := kh P (so "__firstlineno__"), key := .str (so "__firstlineno__") 211, val := .int 8 210 }, { hash := kh P (so "__init__"), key := .str (so "__init__") 218, val := .ref 35 }, { hash := kh P (so "lay_cells"), key := .str (so "lay_cells") 226, val := .ref 42 }, { hash := kh P (so "dose"), key := .str (so "dose") 235, val := .ref 49 }, { hash := kh P (so "mark"), key := .str (so "mark") 242, val := .ref 56 }, { hash := kh P (so "totals"), key := .str (so "totals") 250, val := .ref 63 }, { hash := kh P (so "twin"), key := .str (so "twin") 258, val := .ref 70 }, { hash := kh P (so "tick"), key := .str (so "tick") 268, val := .ref 77 }, { hash := kh P (so "mix_pools"), key := .str (so "mix_pools") 277, val := .ref 84 }, { hash := kh P (so "move_blood"), key := .str (so "move_blood") 289, val := .ref 91 }, { hash := kh P (so "move_bath"), key := .str (so "move_bath") 297, val := .ref 98 }, { hash := kh P (so "cross_membrane"), key := .str (so "cross_membrane") 309, val := .ref 105 }, { hash := kh P (so "__static_attributes__"), key := .str (so "__static_attributes__") 325, val := .ref 106 }, { hash := kh P (so "__dict__"), key := .str (so "__dict__") 327, val := .ref 109 }, { hash := kh P (so "__weakref__"), key := .str (so "__weakref__") 329, val := .ref 110 }, { hash := kh P (so "__doc__"), key := .str (so "__doc__") 330, val := .none }] 4 }) :: (nat_lit 108, { cls := .type "type", data := Data.cls { name := so "Solute", bases := [.type "object"], mro := [.ref 108, .type "object"], ns := 107, qualname := so "Solute" }, slots := #[none, none, some (.str (so "Solute") 200), some (.str (so "Solute") 208), some (.builtin "object.__new__"), some (.bool true)] }) :: (nat_lit 109, { cls := .type "getset_descriptor", data := Data.fields #[.str (so "__dict__") 326, .ref 108, .builtin "function.__dict__", .builtin "function.__dict__#set"] }) :: (nat_lit 110, { cls := .type "getset_descriptor", data := Data.fields #[.str (so "__weakref__") 328, .ref 108, .builtin "ExceptionGroup.__weakref__", .none] }) :: (nat_lit 113, { cls := .type "tuple", data := Data.seq #[.int 2 369, .int 32 370] }) :: (nat_lit 114, { cls := .type "tuple", data := Data.seq #[.int 1 371, .int 10000 372] }) :: (nat_lit 115, { cls := .type "tuple", data := Data.seq #[.int 1 373, .int 10000 374] }) :: (nat_lit 116, { cls := .type "tuple", data := Data.seq #[.int 1 375, .int 4 376] }) :: (nat_lit 117, { cls := .type "tuple", data := Data.seq #[.int 0 377, .int 1 378] }) :: (nat_lit 118, { cls := .type "tuple", data := Data.seq #[.ref 113, .ref 114, .ref 115, .ref 116, .ref 117] }) :: (nat_lit 119, { cls := .type "tuple", data := Data.seq #[.int 0 379, .int 3 380] }) :: (nat_lit 120, { cls := .type "tuple", data := Data.seq #[.int 0 381, .int 1000 382] }) :: (nat_lit 121, { cls := .type "tuple", data := Data.seq #[.ref 119, .ref 120] }) :: (nat_lit 122, { cls := .type "tuple", data := Data.seq #[.int 0 383, .int 3 384] }) :: (nat_lit 123, { cls := .type "tuple", data := Data.seq #[.int 0 385, .int 1000000 386] }) :: (nat_lit 124, { cls := .type "tuple", data := Data.seq #[.ref 122, .ref 123] }) :: (nat_lit 125, { cls := .type "tuple", data := Data.seq #[.int 0 387, .int 1000 388] }) :: (nat_lit 126, { cls := .type "tuple", data := Data.seq #[.int 1 389, .int 1000 390] }) :: (nat_lit 127, { cls := .type "tuple", data := Data.seq #[.int 0 391, .int 1000 392] }) :: (nat_lit 128, { cls := .type "tuple", data := Data.seq #[.int 1 393, .int 1000 394] }) :: (nat_lit 129, { cls := .type "tuple", data := Data.seq #[.ref 125, .ref 126, .ref 127, .ref 128] }) :: (nat_lit 130, { cls := .type "tuple", data := Data.seq #[.int 0 395, .int 1000000 396] }) :: (nat_lit 131, { cls := .type "tuple", data := Data.seq #[.int 0 397, .int 1000000 398] }) :: (nat_lit 132, { cls := .type "tuple", data := Data.seq #[.int 0 399, .int 1000 400] }) :: (nat_lit 133, { cls := .type "tuple", data := Data.seq #[.ref 130, .ref 131, .ref 132] }) :: (nat_lit 134, { cls := .type "tuple", data := Data.seq #[.int 0 401, .int 3 402] }) :: (nat_lit 135, { cls := .type "tuple", data := Data.seq #[.int 0 403, .int 1 404] }) :: (nat_lit 136, { cls := .type "tuple", data := Data.seq #[.int 0 405, .int 1000000000 406] }) :: (nat_lit 137, { cls := .type "tuple", data := Data.seq #[.ref 134, .ref 135, .ref 136] }) :: (nat_lit 138, { cls := .type "tuple", data := Data.seq #[.int 0 407, .int 3 408] }) :: (nat_lit 139, { cls := .type "tuple", data := Data.seq #[.int 0 409, .int 1000000 410] }) :: (nat_lit 140, { cls := .type "tuple", data := Data.seq #[.ref 138, .ref 139] }) :: (nat_lit 141, { cls := .type "tuple", data := Data.seq #[.int 0 411, .int 1000 412] }) :: (nat_lit 142, { cls := .type "tuple", data := Data.seq #[.ref 141] }) :: (nat_lit 143, { cls := .type "tuple", data := Data.seq #[.int 1 413, .int 600 414] }) :: (nat_lit 144, { cls := .type "tuple", data := Data.seq #[.ref 143] }) :: (nat_lit 145, { cls := .type "tuple", data := Data.seq #[.int 0 415, .int 31 416] }) :: (nat_lit 146, { cls := .type "tuple", data := Data.seq #[.ref 145] }) :: (nat_lit 147, { cls := .type "tuple", data := Data.seq #[.int 0 417, .int 31 418] }) :: (nat_lit 148, { cls := .type "tuple", data := Data.seq #[.ref 147] }) :: (nat_lit 149, { cls := .type "tuple", data := Data.seq #[] }) :: (nat_lit 150, { cls := .type "tuple", data := Data.seq #[.int 0 419, .int 3 420] }) :: (nat_lit 151, { cls := .type "tuple", data := Data.seq #[.ref 150] }) :: (nat_lit 152, { cls := .type "tuple", data := Data.seq #[] }) :: (nat_lit 153, { cls := .type "tuple", data := Data.seq #[.int 0 421, .int 3 422] }) :: (nat_lit 154, { cls := .type "tuple", data := Data.seq #[.ref 153] }) :: (nat_lit 155, { cls := .type "tuple", data := Data.seq #[.int 0 423, .int 3 424] }) :: (nat_lit 156, { cls := .type "tuple", data := Data.seq #[.ref 155] }) :: (nat_lit 157, { cls := .type "tuple", data := Data.seq #[.int 0 425, .int 3 426] }) :: (nat_lit 158, { cls := .type "tuple", data := Data.seq #[.ref 157] }) :: (nat_lit 159, { cls := .type "tuple", data := Data.seq #[] }) :: (nat_lit 160, { cls := .type "tuple", data := Data.seq #[.int 1 427, .int 600 428] }) :: (nat_lit 161, { cls := .type "tuple", data := Data.seq #[.int 0 429, .int 3 430] }) :: (nat_lit 162, { cls := .type "tuple", data := Data.seq #[.ref 160, .ref 161] }) :: (nat_lit 163, { cls := .type "tuple", data := Data.seq #[.ref 118, .ref 121, .ref 124, .ref 129, .ref 133, .ref 137, .ref 140, .ref 142, .ref 144, .ref 146, .ref 148, .ref 149, .ref 151, .ref 152, .ref 154, .ref 156, .ref 158, .ref 159, .ref 162] }) :: (nat_lit 164, { cls := .type "dict", data := Data.dict #[{ hash := 1, key := .int 1 432, val := .int 0 433 }, { hash := 2, key := .int 2 434, val := .int 0 435 }, { hash := 5, key := .int 5 436, val := .int 0 437 }, { hash := 6, key := .int 6 438, val := .int 0 439 }, { hash := 12, key := .int 12 440, val := .int 0 441 }, { hash := 14, key := .int 14 442, val := .int 0 443 }, { hash := 15, key := .int 15 444, val := .int 0 445 }, { hash := 16, key := .int 16 446, val := .int 0 447 }, { hash := 18, key := .int 18 448, val := .int 1 449 }] 9 }) :: (nat_lit 172, { cls := .type "tuple", data := Data.seq #[] }) :: (nat_lit 174, { cls := .type "tuple", data := Data.seq #[.str (so "self") 475, .str (so "times") 476, .str (so "span") 477] }) :: (nat_lit 175, { cls := .type "tuple", data := Data.seq #[] }) :: (nat_lit 177, { cls := .type "code", data := Data.fields #[.str (so "__init__") 472, .str (so "Rate.__init__") 473, .str (so "/claim/cut.py") 474, .int 126 0, .int 3 0, .int 0 0, .int 0 0, .int 3 0, .ref 172, .bool true, .int 181 0, .ref 173, .none, .ref 174, .ref 175, .ref 176, .int 478 0, .int 126 0, .str (so "/claim/cut.py") 479] }) :: (nat_lit 178, { cls := .type "function", data := Data.func { name := so "__init__", qualname := so "Rate.__init__", params := dA (inC (top 19) 0), body := FuncBody.stmts (dB (inC (top 19) 0)), scope := dS (inC (top 19) 0), globals := 3, closure := [], defaults := .none, kwdefaults := .none, pyModule := .str (so "bloodbath.device") 333, code := .ref 177 } }) :: (nat_lit 179, { cls := .type "tuple", data := Data.seq #[] }) :: (nat_lit 181, { cls := .type "tuple", data := Data.seq #[.str (so "self") 484] }) :: (nat_lit 182, { cls := .type "tuple", data := Data.seq #[] }) :: (nat_lit 184, { cls := .type "code", data := Data.fields #[.str (so "restart") 481, .str (so "Rate.restart") 482, .str (so "/claim/cut.py") 483, .int 131 0, .int 1 0, .int 0 0, .int 0 0, .int 3 0, .ref 179, .bool true, .int 181 0, .ref 180, .none, .ref 181, .ref 182, .ref 183, .int 485 0, .int 131 0, .str (so "/claim/cut.py") 486] }) :: (nat_lit 185, { cls := .type "function", data := Data.func { name := so "restart", qualname := so "Rate.restart", params := dA (inC (top 19) 1), body := FuncBody.stmts (dB (inC (top 19) 1)), scope := dS (inC (top 19) 1), globals := 3, closure := [], defaults := .none, kwdefaults := .none, pyModule := .str (so "bloodbath.device") 333, code := .ref 184 } }) :: (nat_lit 186, { cls := .type "tuple", data := Data.seq #[] }) :: (nat_lit 188, { cls := .type "tuple", data := Data.seq #[.str (so "self") 491] }) :: (nat_lit 189, { cls := .type "tuple", data := Data.seq #[] }) :: (nat_lit 191, { cls := .type "code", data := Data.fields #[.str (so "gather") 488, .str (so "Rate.gather") 489, .str (so "/claim/cut.py") 490, .int 134 0, .int 1 0, .int 0 0, .int 0 0, .int 3 0, .ref 186, .bool true, .int 181 0, .ref 187, .none, .ref 188, .ref 189, .ref 190, .int 492 0, .int 134 0, .str (so "/claim/cut.py") 493] }) :: (nat_lit 192, { cls := .type "function", data := Data.func { name := so "gather", qualname := so "Rate.gather", params := dA (inC (top 19) 2), body := FuncBody.stmts (dB (inC (top 19) 2)), scope := dS (inC (top 19) 2), globals := 3, closure := [], defaults := .none, kwdefaults := .none, pyModule := .str (so "bloodbath.device") 333, code := .ref 191 } }) :: (nat_lit 193, { cls := .type "tuple", data := Data.seq #[] }) :: (nat_lit 195, { cls := .type "tuple", data := Data.seq #[.str (so "self") 498, .str (so "other") 499] }) :: (nat_lit 196, { cls := .type "tuple", data := Data.seq #[] }) :: (nat_lit 198, { cls := .type "code", data := Data.fields #[.str (so "twin") 495, .str (so "Rate.twin") 496, .str (so "/claim/cut.py") 497, .int 141 0, .int 1 0, .int 0 0, .int 0 0, .int 3 0, .ref 193, .bool true, .int 181 0, .ref 194, .none, .ref 195, .ref 196, .ref 197, .int 500 0, .int 141 0, .str (so "/claim/cut.py") 501] }) :: (nat_lit 199, { cls := .type "function", data := Data.func { name := so "twin", qualname := so "Rate.twin", params := dA (inC (top 19) 3), body := FuncBody.stmts (dB (inC (top 19) 3)), scope := dS (inC (top 19) 3), globals := 3, closure := [], defaults := .none, kwdefaults := .none, pyModule := .str (so "bloodbath.device") 333, code := .ref 198 } }) :: (nat_lit 200, { cls := .type "tuple", data := Data.seq #[.str (so "parts") 503, .str (so "span") 504, .str (so "times") 505] }) :: (nat_lit 201, { cls := .type "dict", data := Data.dict #[{ hash := kh P (so "__module__"), key := .str (so "__module__") 467, val := .str (so "bloodbath.device") 333 }, { hash := kh P (so "__firstlineno__"), key := .str (so "__firstlineno__") 471, val := .int 124 470 }, { hash := kh P (so "__init__"), key := .str (so "__init__") 480, val := .ref 178 }, { hash := kh P (so "restart"), key := .str (so "restart") 487, val := .ref 185 }, { hash := kh P (so "gather"), key := .str (so "gather") 494, val := .ref 192 }, { hash := kh P (so "twin"), key := .str (so "twin") 502, val := .ref 199 }, { hash := kh P (so "__static_attributes__"), key := .str (so "__static_attributes__") 506, val := .ref 200 }, { hash := kh P (so "__dict__"), key := .str (so "__dict__") 508, val := .ref 203 }, { hash := kh P (so "__weakref__"), key := .str (so "__weakref__") 510, val := .ref 204 }, { hash := kh P (so "__doc__"), key := .str (so "__doc__") 511, val := .none }] 4 }) :: (nat_lit 202, { cls := .type "type", data := Data.cls { name := so "Rate", bases := [.type "object"], mro := [.ref 202, .type "object"], ns := 201, qualname := so "Rate" }, slots := #[none, none, some (.str (so "Rate") 460), some (.str (so "Rate") 468), some (.builtin "object.__new__"), some (.bool true)] }) :: (nat_lit 203, { cls := .type "getset_descriptor", data := Data.fields #[.str (so "__dict__") 507, .ref 202, .builtin "function.__dict__", .builtin "function.__dict__#set"] }) :: (nat_lit 204, { cls := .type "getset_descriptor", data := Data.fields #[.str (so "__weakref__") 509, .ref 202, .builtin "ExceptionGroup.__weakref__", .none] }) :: (nat_lit 214, { cls := .type "tuple", data := Data.seq #[] }) :: (nat_lit 216, { cls := .type "tuple", data := Data.seq #[.str (so "self") 529] }) :: (nat_lit 217, { cls := .type "tuple", data := Data.seq #[] }) :: (nat_lit 219, { cls := .type "code", data := Data.fields #[.str (so "__init__") 526, .str (so "Device.__init__") 527, .str (so "/claim/cut.py") 528, .int 147 0, .int 1 0, .int 0 0, .int 0 0, .int 3 0, .ref 214, .bool true, .int 181 0, .ref 215, .none, .ref 216, .ref 217, .ref 218, .int 530 0, .int 147 0, .str (so "/claim/cut.py") 531] }) :: (nat_lit 220, { cls := .type "function", data := Data.func { name := so "__init__", qualname := so "Device.__init__", params := dA (inC (top 20) 0), body := FuncBody.stmts (dB (inC (top 20) 0)), scope := dS (inC (top 20) 0), globals := 3, closure := [], defaults := .none, kwdefaults := .none, pyModule := .str (so "bloodbath.device") 333, code := .ref 219 } }) :: (nat_lit 221, { cls := .type "tuple", data := Data.seq #[.str (so "along") 533, .str (so "bath_rate") 534, .str (so "bath_volume") 535, .str (so "between") 536, .str (so "blood_rate") 537, .str (so "blood_volume") 538, .str (so "cells") 539, .str (so "laid") 540, .str (so "round_share") 541, .str (so "solutes") 542, .str (so "ticks") 543, .str (so "volume1") 544, .str (so "volume2") 545] }) :: (nat_lit 222, { cls := .type "dict", data := Data.dict #[{ hash := kh P (so "__module__"), key := .str (so "__module__") 521, val := .str (so "bloodbath.device") 333 }, { hash := kh P (so "__firstlineno__"), key := .str (so "__firstlineno__") 525, val := .int 145 524 }, { hash := kh P (so "__init__"), key := .str (so "__init__") 532, val := .ref 220 }, { hash := kh P (so "__static_attributes__"), key := .str (so "__static_attributes__") 546, val := .ref 221 }, { hash := kh P (so "__dict__"), key := .str (so "__dict__") 548, val := .ref 224 }, { hash := kh P (so "__weakref__"), key := .str (so "__weakref__") 550, val := .ref 225 }, { hash := kh P (so "__doc__"), key := .str (so "__doc__") 551, val := .none }] 4 }) :: (nat_lit 223, { cls := .type "type", data := Data.cls { name := so "Device", bases := [.type "object"], mro := [.ref 223, .type "object"], ns := 222, qualname := so "Device" }, slots := #[none, none, some (.str (so "Device") 514), some (.str (so "Device") 522), some (.builtin "object.__new__"), some (.bool true)] }) :: (nat_lit 224, { cls := .type "getset_descriptor", data := Data.fields #[.str (so "__dict__") 547, .ref 223, .builtin "function.__dict__", .builtin "function.__dict__#set"] }) :: (nat_lit 225, { cls := .type "getset_descriptor", data := Data.fields #[.str (so "__weakref__") 549, .ref 223, .builtin "ExceptionGroup.__weakref__", .none] }) :: (nat_lit 228, { cls := .type "tuple", data := Data.seq #[] }) :: (nat_lit 230, { cls := .type "tuple", data := Data.seq #[.str (so "device") 557, .str (so "given") 558, .str (so "solute") 559] }) :: (nat_lit 231, { cls := .type "tuple", data := Data.seq #[] }) :: (nat_lit 233, { cls := .type "code", data := Data.fields #[.str (so "lay") 554, .str (so "lay") 555, .str (so "/claim/cut.py") 556, .int 161 0, .int 2 0, .int 0 0, .int 0 0, .int 3 0, .ref 228, .bool true, .int 181 0, .ref 229, .none, .ref 230, .ref 231, .ref 232, .int 560 0, .int 161 0, .str (so "/claim/cut.py") 561] }) :: (nat_lit 234, { cls := .type "function", data := Data.func { name := so "lay", qualname := so "lay", params := dA (top 21), body := FuncBody.stmts (dB (top 21)), scope := dS (top 21), globals := 3, closure := [], defaults := .none, kwdefaults := .none, pyModule := .str (so "bloodbath.device") 333, code := .ref 233 } }) :: (nat_lit 235, { cls := .type "tuple", data := Data.seq #[] }) :: (nat_lit 237, { cls := .type "tuple", data := Data.seq #[.str (so "device") 566, .str (so "given") 567, .str (so "solute") 568] }) :: (nat_lit 238, { cls := .type "tuple", data := Data.seq #[] }) :: (nat_lit 240, { cls := .type "code", data := Data.fields #[.str (so "set_share") 563, .str (so "set_share") 564, .str (so "/claim/cut.py") 565, .int 178 0, .int 2 0, .int 0 0, .int 0 0, .int 3 0, .ref 235, .bool true, .int 181 0, .ref 236, .none, .ref 237, .ref 238, .ref 239, .int 569 0, .int 178 0, .str (so "/claim/cut.py") 570] }) :: (nat_lit 241, { cls := .type "function", data := Data.func { name := so "set_share", qualname := so "set_share", params := dA (top 22), body := FuncBody.stmts (dB (top 22)), scope := dS (top 22), globals := 3, closure := [], defaults := .none, kwdefaults := .none, pyModule := .str (so "bloodbath.device") 333, code := .ref 240 } }) :: (nat_lit 242, { cls := .type "tuple", data := Data.seq #[] }) :: (nat_lit 244, { cls := .type "tuple", data := Data.seq #[.str (so "device") 575, .str (so "given") 576, .str (so "solute") 577] }) :: (nat_lit 245, { cls := .type "tuple", data := Data.seq #[] }) :: (nat_lit 247, { cls := .type "code", data := Data.fields #[.str (so "set_fresh") 572, .str (so "set_fresh") 573, .str (so "/claim/cut.py") 574, .int 182 0, .int 2 0, .int 0 0, .int 0 0, .int 3 0, .ref 242, .bool true, .int 181 0, .ref 243, .none, .ref 244, .ref 245, .ref 246, .int 578 0, .int 182 0, .str (so "/claim/cut.py") 579] }) :: (nat_lit 248, { cls := .type "function", data := Data.func { name := so "set_fresh", qualname := so "set_fresh", params := dA (top 23), body := FuncBody.stmts (dB (top 23)), scope := dS (top 23), globals := 3, closure := [], defaults := .none, kwdefaults := .none, pyModule := .str (so "bloodbath.device") 333, code := .ref 247 } }) :: (nat_lit 249, { cls := .type "tuple", data := Data.seq #[] }) :: (nat_lit 251, { cls := .type "tuple", data := Data.seq #[.str (so "device") 584, .str (so "given") 585] }) :: (nat_lit 252, { cls := .type "tuple", data := Data.seq #[] }) :: (nat_lit 254, { cls := .type "code", data := Data.fields #[.str (so "set_rates") 581, .str (so "set_rates") 582, .str (so "/claim/cut.py") 583, .int 186 0, .int 2 0, .int 0 0, .int 0 0, .int 3 0, .ref 249, .bool true, .int 181 0, .ref 250, .none, .ref 251, .ref 252, .ref 253, .int 586 0, .int 186 0, .str (so "/claim/cut.py") 587] }) :: (nat_lit 255, { cls := .type "function", data := Data.func { name := so "set_rates", qualname := so "set_rates", params := dA (top 24), body := FuncBody.stmts (dB (top 24)), scope := dS (top 24), globals := 3, closure := [], defaults := .none, kwdefaults := .none, pyModule := .str (so "bloodbath.device") 333, code := .ref 254 } }) :: (nat_lit 256, { cls := .type "tuple", data := Data.seq #[] }) :: (nat_lit 258, { cls := .type "tuple", data := Data.seq #[.str (so "device") 592, .str (so "given") 593] }) :: (nat_lit 259, { cls := .type "tuple", data := Data.seq #[] }) :: (nat_lit 261, { cls := .type "code", data := Data.fields #[.str (so "set_pools") 589, .str (so "set_pools") 590, .str (so "/claim/cut.py") 591, .int 190 0, .int 2 0, .int 0 0, .int 0 0, .int 3 0, .ref 256, .bool true, .int 181 0, .ref 257, .none, .ref 258, .ref 259, .ref 260, .int 594 0, .int 190 0, .str (so "/claim/cut.py") 595] }) :: (nat_lit 262, { cls := .type "function", data := Data.func { name := so "set_pools", qualname := so "set_pools", params := dA (top 25), body := FuncBody.stmts (dB (top 25)), scope := dS (top 25), globals := 3, closure := [], defaults := .none, kwdefaults := .none, pyModule := .str (so "bloodbath.device") 333, code := .ref 261 } }) :: (nat_lit 263, { cls := .type "tuple", data := Data.seq #[] }) :: (nat_lit 265, { cls := .type "tuple", data := Data.seq #[.str (so "device") 600, .str (so "given") 601, .str (so "solute") 602] }) :: (nat_lit 266, { cls := .type "tuple", data := Data.seq #[] }) :: (nat_lit 268, { cls := .type "code", data := Data.fields #[.str (so "give_dose") 597, .str (so "give_dose") 598, .str (so "/claim/cut.py") 599, .int 197 0, .int 2 0, .int 0 0, .int 0 0, .int 3 0, .ref 263, .bool true, .int 181 0, .ref 264, .none, .ref 265, .ref 266, .ref 267, .int 603 0, .int 197 0, .str (so "/claim/cut.py") 604] }) :: (nat_lit 269, { cls := .type "function", data := Data.func { name := so "give_dose", qualname := so "give_dose", params := dA (top 26), body := FuncBody.stmts (dB (top 26)), scope := dS (top 26), globals := 3, closure := [], defaults := .none, kwdefaults := .none, pyModule := .str (so "bloodbath.device") 333, code := .ref 268 } }) :: (nat_lit 270, { cls := .type "tuple", data := Data.seq #[] }) :: (nat_lit 272, { cls := .type "tuple", data := Data.seq #[.str (so "device") 609, .str (so "given") 610, .str (so "solute") 611] }) :: (nat_lit 273, { cls := .type "tuple", data := Data.seq #[] }) :: (nat_lit 275, { cls := .type "code", data := Data.fields #[.str (so "set_growth") 606, .str (so "set_growth") 607, .str (so "/claim/cut.py") 608, .int 203 0, .int 2 0, .int 0 0, .int 0 0, .int 3 0, .ref 270, .bool true, .int 181 0, .ref 271, .none, .ref 272, .ref 273, .ref 274, .int 612 0, .int 203 0, .str (so "/claim/cut.py") 613] }) :: (nat_lit 276, { cls := .type "function", data := Data.func { name := so "set_growth", qualname := so "set_growth", params := dA (top 27), body := FuncBody.stmts (dB (top 27)), scope := dS (top 27), globals := 3, closure := [], defaults := .none, kwdefaults := .none, pyModule := .str (so "bloodbath.device") 333, code := .ref 275 } }) :: (nat_lit 277, { cls := .type "tuple", data := Data.seq #[] }) :: (nat_lit 279, { cls := .type "tuple", data := Data.seq #[.str (so "device") 618, .str (so "given") 619] }) :: (nat_lit 280, { cls := .type "tuple", data := Data.seq #[] }) :: (nat_lit 282, { cls := .type "code", data := Data.fields #[.str (so "set_round") 615, .str (so "set_round") 616, .str (so "/claim/cut.py") 617, .int 207 0, .int 2 0, .int 0 0, .int 0 0, .int 3 0, .ref 277, .bool true, .int 181 0, .ref 278, .none, .ref 279, .ref 280, .ref 281, .int 620 0, .int 207 0, .str (so "/claim/cut.py") 621] }) :: (nat_lit 283, { cls := .type "function", data := Data.func { name := so "set_round", qualname := so "set_round", params := dA (top 28), body := FuncBody.stmts (dB (top 28)), scope := dS (top 28), globals := 3, closure := [], defaults := .none, kwdefaults := .none, pyModule := .str (so "bloodbath.device") 333, code := .ref 282 } }) :: (nat_lit 284, { cls := .type "tuple", data := Data.seq #[] }) :: (nat_lit 286, { cls := .type "tuple", data := Data.seq #[.str (so "device") 626, .str (so "solutes") 627, .str (so "blood_rate") 628, .str (so "bath_rate") 629, .str (so "ticks") 630, .str (so "turn") 631, .str (so "blood_moves") 632, .str (so "bath_moves") 633, .str (so "solute") 634] }) :: (nat_lit 287, { cls := .type "tuple", data := Data.seq #[] }) :: (nat_lit 289, { cls := .type "code", data := Data.fields #[.str (so "pass_ticks") 623, .str (so "pass_ticks") 624, .str (so "/claim/cut.py") 625, .int 210 0, .int 5 0, .int 0 0, .int 0 0, .int 3 0, .ref 284, .bool true, .int 181 0, .ref 285, .none, .ref 286, .ref 287, .ref 288, .int 635 0, .int 210 0, .str (so "/claim/cut.py") 636] }) :: (nat_lit 290, { cls := .type "function", data := Data.func { name := so "pass_ticks", qualname := so "pass_ticks", params := dA (top 29), body := FuncBody.stmts (dB (top 29)), scope := dS (top 29), globals := 3, closure := [], defaults := .none, kwdefaults := .none, pyModule := .str (so "bloodbath.device") 333, code := .ref 289 } }) :: (nat_lit 291, { cls := .type "tuple", data := Data.seq #[] }) :: (nat_lit 293, { cls := .type "tuple", data := Data.seq #[.str (so "device") 641, .str (so "given") 642] }) :: (nat_lit 294, { cls := .type "tuple", data := Data.seq #[] }) :: (nat_lit 296, { cls := .type "code", data := Data.fields #[.str (so "run_ticks") 638, .str (so "run_ticks") 639, .str (so "/claim/cut.py") 640, .int 216 0, .int 2 0, .int 0 0, .int 0 0, .int 3 0, .ref 291, .bool true, .int 181 0, .ref 292, .none, .ref 293, .ref 294, .ref 295, .int 643 0, .int 216 0, .str (so "/claim/cut.py") 644] }) :: (nat_lit 297, { cls := .type "function", data := Data.func { name := so "run_ticks", qualname := so "run_ticks", params := dA (top 30), body := FuncBody.stmts (dB (top 30)), scope := dS (top 30), globals := 3, closure := [], defaults := .none, kwdefaults := .none, pyModule := .str (so "bloodbath.device") 333, code := .ref 296 } }) :: (nat_lit 298, { cls := .type "tuple", data := Data.seq #[] }) :: (nat_lit 301, { cls := .type "code", data := Data.fields #[.str (so "tell_blood") 646, .str (so "tell_blood") 647, .str (so "/claim/cut.py") 648, .int 222 0, .int 2 0, .int 0 0, .int 0 0, .int 3 0, .ref 298, .bool true, .int 181 0, .ref 299, .none, .none, .none, .ref 300, .int 649 0, .int 222 0, .str (so "/claim/cut.py") 650] }) :: (nat_lit 302, { cls := .type "function", data := Data.func { name := so "tell_blood", qualname := so "tell_blood", params := dA (top 31), body := FuncBody.stmts (dB (top 31)), scope := dS (top 31), globals := 3, closure := [], defaults := .none, kwdefaults := .none, pyModule := .str (so "bloodbath.device") 333, code := .ref 301 } }) :: (nat_lit 303, { cls := .type "tuple", data := Data.seq #[] }) :: (nat_lit 306, { cls := .type "code", data := Data.fields #[.str (so "tell_bath") 652, .str (so "tell_bath") 653, .str (so "/claim/cut.py") 654, .int 226 0, .int 2 0, .int 0 0, .int 0 0, .int 3 0, .ref 303, .bool true, .int 181 0, .ref 304, .none, .none, .none, .ref 305, .int 655 0, .int 226 0, .str (so "/claim/cut.py") 656] }) :: (nat_lit 307, { cls := .type "function", data := Data.func { name := so "tell_bath", qualname := so "tell_bath", params := dA (top 32), body := FuncBody.stmts (dB (top 32)), scope := dS (top 32), globals := 3, closure := [], defaults := .none, kwdefaults := .none, pyModule := .str (so "bloodbath.device") 333, code := .ref 306 } }) :: (nat_lit 308, { cls := .type "tuple", data := Data.seq #[] }) :: (nat_lit 310, { cls := .type "tuple", data := Data.seq #[.str (so "device") 661, .str (so "given") 662, .str (so "told") 663, .str (so "solute") 664] }) :: (nat_lit 311, { cls := .type "tuple", data := Data.seq #[] }) :: (nat_lit 313, { cls := .type "code", data := Data.fields #[.str (so "tell_patient") 658, .str (so "tell_patient") 659, .str (so "/claim/cut.py") 660, .int 230 0, .int 2 0, .int 0 0, .int 0 0, .int 3 0, .ref 308, .bool true, .int 181 0, .ref 309, .none, .ref 310, .ref 311, .ref 312, .int 665 0, .int 230 0, .str (so "/claim/cut.py") 666] }) :: (nat_lit 314, { cls := .type "function", data := Data.func { name := so "tell_patient", qualname := so "tell_patient", params := dA (top 33), body := FuncBody.stmts (dB (top 33)), scope := dS (top 33), globals := 3, closure := [], defaults := .none, kwdefaults := .none, pyModule := .str (so "bloodbath.device") 333, code := .ref 313 } }) :: (nat_lit 315, { cls := .type "tuple", data := Data.seq #[] }) :: (nat_lit 317, { cls := .type "tuple", data := Data.seq #[.str (so "device") 671, .str (so "given") 672, .str (so "solute") 673] }) :: (nat_lit 318, { cls := .type "tuple", data := Data.seq #[] }) :: (nat_lit 320, { cls := .type "code", data := Data.fields #[.str (so "tell_totals") 668, .str (so "tell_totals") 669, .str (so "/claim/cut.py") 670, .int 236 0, .int 2 0, .int 0 0, .int 0 0, .int 3 0, .ref 315, .bool true, .int 181 0, .ref 316, .none, .ref 317, .ref 318, .ref 319, .int 674 0, .int 236 0, .str (so "/claim/cut.py") 675] }) :: (nat_lit 321, { cls := .type "function", data := Data.func { name := so "tell_totals", qualname := so "tell_totals", params := dA (top 34), body := FuncBody.stmts (dB (top 34)), scope := dS (top 34), globals := 3, closure := [], defaults := .none, kwdefaults := .none, pyModule := .str (so "bloodbath.device") 333, code := .ref 320 } }) :: (nat_lit 322, { cls := .type "tuple", data := Data.seq #[] }) :: (nat_lit 324, { cls := .type "tuple", data := Data.seq #[.str (so "device") 680, .str (so "given") 681, .str (so "solute") 682] }) :: (nat_lit 325, { cls := .type "tuple", data := Data.seq #[] }) :: (nat_lit 327, { cls := .type "code", data := Data.fields #[.str (so "set_mark") 677, .str (so "set_mark") 678, .str (so "/claim/cut.py") 679, .int 239 0, .int 2 0, .int 0 0, .int 0 0, .int 3 0, .ref 322, .bool true, .int 181 0, .ref 323, .none, .ref 324, .ref 325, .ref 326, .int 683 0, .int 239 0, .str (so "/claim/cut.py") 684] }) :: (nat_lit 328, { cls := .type "function", data := Data.func { name := so "set_mark", qualname := so "set_mark", params := dA (top 35), body := FuncBody.stmts (dB (top 35)), scope := dS (top 35), globals := 3, closure := [], defaults := .none, kwdefaults := .none, pyModule := .str (so "bloodbath.device") 333, code := .ref 327 } }) :: (nat_lit 329, { cls := .type "tuple", data := Data.seq #[] }) :: (nat_lit 331, { cls := .type "tuple", data := Data.seq #[.str (so "a") 689, .str (so "b") 690, .str (so "rest") 691] }) :: (nat_lit 332, { cls := .type "tuple", data := Data.seq #[] }) :: (nat_lit 334, { cls := .type "code", data := Data.fields #[.str (so "common_divisor") 686, .str (so "common_divisor") 687, .str (so "/claim/cut.py") 688, .int 243 0, .int 2 0, .int 0 0, .int 0 0, .int 3 0, .ref 329, .bool true, .int 181 0, .ref 330, .none, .ref 331, .ref 332, .ref 333, .int 692 0, .int 243 0, .str (so "/claim/cut.py") 693] }) :: (nat_lit 335, { cls := .type "function", data := Data.func { name := so "common_divisor", qualname := so "common_divisor", params := dA (top 36), body := FuncBody.stmts (dB (top 36)), scope := dS (top 36), globals := 3, closure := [], defaults := .none, kwdefaults := .none, pyModule := .str (so "bloodbath.device") 333, code := .ref 334 } }) :: (nat_lit 336, { cls := .type "tuple", data := Data.seq #[] }) :: (nat_lit 338, { cls := .type "tuple", data := Data.seq #[.str (so "before") 698, .str (so "now") 699, .str (so "gone") 700, .str (so "common") 701] }) :: (nat_lit 339, { cls := .type "tuple", data := Data.seq #[] }) :: (nat_lit 341, { cls := .type "code", data := Data.fields #[.str (so "share_gone") 695, .str (so "share_gone") 696, .str (so "/claim/cut.py") 697, .int 249 0, .int 2 0, .int 0 0, .int 0 0, .int 3 0, .ref 336, .bool true, .int 181 0, .ref 337, .none, .ref 338, .ref 339, .ref 340, .int 702 0, .int 249 0, .str (so "/claim/cut.py") 703] }) :: (nat_lit 342, { cls := .type "function", data := Data.func { name := so "share_gone", qualname := so "share_gone", params := dA (top 37), body := FuncBody.stmts (dB (top 37)), scope := dS (top 37), globals := 3, closure := [], defaults := .none, kwdefaults := .none, pyModule := .str (so "bloodbath.device") 333, code := .ref 341 } }) :: (nat_lit 343, { cls := .type "tuple", data := Data.seq #[] }) :: (nat_lit 345, { cls := .type "tuple", data := Data.seq #[.str (so "device") 708, .str (so "given") 709, .str (so "solute") 710] }) :: (nat_lit 346, { cls := .type "tuple", data := Data.seq #[] }) :: (nat_lit 348, { cls := .type "code", data := Data.fields #[.str (so "tell_extraction") 705, .str (so "tell_extraction") 706, .str (so "/claim/cut.py") 707, .int 255 0, .int 2 0, .int 0 0, .int 0 0, .int 3 0, .ref 343, .bool true, .int 181 0, .ref 344, .none, .ref 345, .ref 346, .ref 347, .int 711 0, .int 255 0, .str (so "/claim/cut.py") 712] }) :: (nat_lit 349, { cls := .type "function", data := Data.func { name := so "tell_extraction", qualname := so "tell_extraction", params := dA (top 38), body := FuncBody.stmts (dB (top 38)), scope := dS (top 38), globals := 3, closure := [], defaults := .none, kwdefaults := .none, pyModule := .str (so "bloodbath.device") 333, code := .ref 348 } }) :: (nat_lit 350, { cls := .type "tuple", data := Data.seq #[] }) :: (nat_lit 352, { cls := .type "tuple", data := Data.seq #[.str (so "device") 717, .str (so "given") 718, .str (so "solute") 719] }) :: (nat_lit 353, { cls := .type "tuple", data := Data.seq #[] }) :: (nat_lit 355, { cls := .type "code", data := Data.fields #[.str (so "tell_reduction") 714, .str (so "tell_reduction") 715, .str (so "/claim/cut.py") 716, .int 258 0, .int 2 0, .int 0 0, .int 0 0, .int 3 0, .ref 350, .bool true, .int 181 0, .ref 351, .none, .ref 352, .ref 353, .ref 354, .int 720 0, .int 258 0, .str (so "/claim/cut.py") 721] }) :: (nat_lit 356, { cls := .type "function", data := Data.func { name := so "tell_reduction", qualname := so "tell_reduction", params := dA (top 39), body := FuncBody.stmts (dB (top 39)), scope := dS (top 39), globals := 3, closure := [], defaults := .none, kwdefaults := .none, pyModule := .str (so "bloodbath.device") 333, code := .ref 355 } }) :: (nat_lit 357, { cls := .type "tuple", data := Data.seq #[] }) :: (nat_lit 359, { cls := .type "tuple", data := Data.seq #[.str (so "device") 726, .str (so "given") 727, .str (so "solute") 728] }) :: (nat_lit 360, { cls := .type "tuple", data := Data.seq #[] }) :: (nat_lit 362, { cls := .type "code", data := Data.fields #[.str (so "tell_profile") 723, .str (so "tell_profile") 724, .str (so "/claim/cut.py") 725, .int 261 0, .int 2 0, .int 0 0, .int 0 0, .int 3 0, .ref 357, .bool true, .int 181 0, .ref 358, .none, .ref 359, .ref 360, .ref 361, .int 729 0, .int 261 0, .str (so "/claim/cut.py") 730] }) :: (nat_lit 363, { cls := .type "function", data := Data.func { name := so "tell_profile", qualname := so "tell_profile", params := dA (top 40), body := FuncBody.stmts (dB (top 40)), scope := dS (top 40), globals := 3, closure := [], defaults := .none, kwdefaults := .none, pyModule := .str (so "bloodbath.device") 333, code := .ref 362 } }) :: (nat_lit 364, { cls := .type "tuple", data := Data.seq #[] }) :: (nat_lit 366, { cls := .type "tuple", data := Data.seq #[.str (so "device") 735, .str (so "given") 736, .str (so "laid") 737, .str (so "so_far") 738] }) :: (nat_lit 367, { cls := .type "tuple", data := Data.seq #[] }) :: (nat_lit 369, { cls := .type "code", data := Data.fields #[.str (so "tell_look") 732, .str (so "tell_look") 733, .str (so "/claim/cut.py") 734, .int 264 0, .int 2 0, .int 0 0, .int 0 0, .int 3 0, .ref 364, .bool true, .int 181 0, .ref 365, .none, .ref 366, .ref 367, .ref 368, .int 739 0, .int 264 0, .str (so "/claim/cut.py") 740] }) :: (nat_lit 370, { cls := .type "function", data := Data.func { name := so "tell_look", qualname := so "tell_look", params := dA (top 41), body := FuncBody.stmts (dB (top 41)), scope := dS (top 41), globals := 3, closure := [], defaults := .none, kwdefaults := .none, pyModule := .str (so "bloodbath.device") 333, code := .ref 369 } }) :: (nat_lit 371, { cls := .type "tuple", data := Data.seq #[] }) :: (nat_lit 373, { cls := .type "tuple", data := Data.seq #[.str (so "device") 745, .str (so "given") 746, .str (so "solute") 747] }) :: (nat_lit 374, { cls := .type "tuple", data := Data.seq #[] }) :: (nat_lit 376, { cls := .type "code", data := Data.fields #[.str (so "tell_would") 742, .str (so "tell_would") 743, .str (so "/claim/cut.py") 744, .int 268 0, .int 2 0, .int 0 0, .int 0 0, .int 3 0, .ref 371, .bool true, .int 181 0, .ref 372, .none, .ref 373, .ref 374, .ref 375, .int 748 0, .int 268 0, .str (so "/claim/cut.py") 749] }) :: (nat_lit 377, { cls := .type "function", data := Data.func { name := so "tell_would", qualname := so "tell_would", params := dA (top 42), body := FuncBody.stmts (dB (top 42)), scope := dS (top 42), globals := 3, closure := [], defaults := .none, kwdefaults := .none, pyModule := .str (so "bloodbath.device") 333, code := .ref 376 } }) :: (nat_lit 378, { cls := .type "tuple", data := Data.seq #[.ref 234, .ref 241, .ref 248, .ref 255, .ref 262, .ref 269, .ref 276, .ref 283, .ref 297, .ref 302, .ref 307, .ref 314, .ref 321, .ref 328, .ref 349, .ref 356, .ref 363, .ref 370, .ref 377] }) :: (nat_lit 379, { cls := .type "tuple", data := Data.seq #[] }) :: (nat_lit 381, { cls := .type "tuple", data := Data.seq #[.str (so "place") 755, .str (so "given") 756, .str (so "bounds") 757, .str (so "i") 758] }) :: (nat_lit 382, { cls := .type "tuple", data := Data.seq #[] }) :: (nat_lit 384, { cls := .type "code", data := Data.fields #[.str (so "in_range") 752, .str (so "in_range") 753, .str (so "/claim/cut.py") 754, .int 273 0, .int 2 0, .int 0 0, .int 0 0, .int 3 0, .ref 379, .bool true, .int 181 0, .ref 380, .none, .ref 381, .ref 382, .ref 383, .int 759 0, .int 273 0, .str (so "/claim/cut.py") 760] }) :: (nat_lit 385, { cls := .type "function", data := Data.func { name := so "in_range", qualname := so "in_range", params := dA (top 44), body := FuncBody.stmts (dB (top 44)), scope := dS (top 44), globals := 3, closure := [], defaults := .none, kwdefaults := .none, pyModule := .str (so "bloodbath.device") 333, code := .ref 384 } }) :: (nat_lit 386, { cls := .type "tuple", data := Data.seq #[] }) :: (nat_lit 388, { cls := .type "tuple", data := Data.seq #[.str (so "device") 765, .str (so "place") 766, .str (so "given") 767] }) :: (nat_lit 389, { cls := .type "tuple", data := Data.seq #[] }) :: (nat_lit 391, { cls := .type "code", data := Data.fields #[.str (so "names_missing_solute") 762, .str (so "names_missing_solute") 763, .str (so "/claim/cut.py") 764, .int 281 0, .int 3 0, .int 0 0, .int 0 0, .int 3 0, .ref 386, .bool true, .int 181 0, .ref 387, .none, .ref 388, .ref 389, .ref 390, .int 768 0, .int 281 0, .str (so "/claim/cut.py") 769] }) :: (nat_lit 392, { cls := .type "function", data := Data.func { name := so "names_missing_solute", qualname := so "names_missing_solute", params := dA (top 45), body := FuncBody.stmts (dB (top 45)), scope := dS (top 45), globals := 3, closure := [], defaults := .none, kwdefaults := .none, pyModule := .str (so "bloodbath.device") 333, code := .ref 391 } }) :: (nat_lit 393, { cls := .type "tuple", data := Data.seq #[] }) :: (nat_lit 395, { cls := .type "tuple", data := Data.seq #[.str (so "device") 774, .str (so "place") 775, .str (so "given") 776] }) :: (nat_lit 396, { cls := .type "tuple", data := Data.seq #[] }) :: (nat_lit 398, { cls := .type "code", data := Data.fields #[.str (so "answer") 771, .str (so "answer") 772, .str (so "/claim/cut.py") 773, .int 283 0, .int 3 0, .int 0 0, .int 0 0, .int 3 0, .ref 393, .bool true, .int 181 0, .ref 394, .none, .ref 395, .ref 396, .ref 397, .int 777 0, .int 283 0, .str (so "/claim/cut.py") 778] }) :: (nat_lit 399, { cls := .type "function", data := Data.func { name := so "answer", qualname := so "answer", params := dA (top 46), body := FuncBody.stmts (dB (top 46)), scope := dS (top 46), globals := 3, closure := [], defaults := .none, kwdefaults := .none, pyModule := .str (so "bloodbath.device") 333, code := .ref 398 } }) :: (nat_lit 400, { cls := .type "tuple", data := Data.seq #[] }) :: (nat_lit 402, { cls := .type "tuple", data := Data.seq #[.str (so "calls") 783, .str (so "device") 784, .str (so "told") 785, .str (so "at") 786, .str (so "behind") 787, .str (so "numbers") 788] }) :: (nat_lit 403, { cls := .type "tuple", data := Data.seq #[] }) :: (nat_lit 405, { cls := .type "code", data := Data.fields #[.str (so "answers") 780, .str (so "answers") 781, .str (so "/claim/cut.py") 782, .int 291 0, .int 1 0, .int 0 0, .int 0 0, .int 3 0, .ref 400, .bool true, .int 181 0, .ref 401, .none, .ref 402, .ref 403, .ref 404, .int 789 0, .int 291 0, .str (so "/claim/cut.py") 790] }) :: (nat_lit 406, { cls := .type "function", data := Data.func { name := so "answers", qualname := so "answers", params := dA (top 47), body := FuncBody.stmts (dB (top 47)), scope := dS (top 47), globals := 3, closure := [], defaults := .none, kwdefaults := .none, pyModule := .str (so "bloodbath.device") 333, code := .ref 405 } }) :: []
def ads : List Addr := [2, 3, 15, 17, 18, 20, 21, 29, 31, 32, 34, 35, 36, 38, 39, 41, 42, 43, 45, 46, 48, 49, 50, 52, 53, 55, 56, 57, 59, 60, 62, 63, 64, 66, 67, 69, 70, 71, 73, 74, 76, 77, 78, 80, 81, 83, 84, 85, 87, 88, 90, 91, 92, 94, 95, 97, 98, 99, 101, 102, 104, 105, 106, 107, 108, 109, 110, 113, 114, 115, 116, 117, 118, 119, 120, 121, 122, 123, 124, 125, 126, 127, 128, 129, 130, 131, 132, 133, 134, 135, 136, 137, 138, 139, 140, 141, 142, 143, 144, 145, 146, 147, 148, 149, 150, 151, 152, 153, 154, 155, 156, 157, 158, 159, 160, 161, 162, 163, 164, 172, 174, 175, 177, 178, 179, 181, 182, 184, 185, 186, 188, 189, 191, 192, 193, 195, 196, 198, 199, 200, 201, 202, 203, 204, 214, 216, 217, 219, 220, 221, 222, 223, 224, 225, 228, 230, 231, 233, 234, 235, 237, 238, 240, 241, 242, 244, 245, 247, 248, 249, 251, 252, 254, 255, 256, 258, 259, 261, 262, 263, 265, 266, 268, 269, 270, 272, 273, 275, 276, 277, 279, 280, 282, 283, 284, 286, 287, 289, 290, 291, 293, 294, 296, 297, 298, 301, 302, 303, 306, 307, 308, 310, 311, 313, 314, 315, 317, 318, 320, 321, 322, 324, 325, 327, 328, 329, 331, 332, 334, 335, 336, 338, 339, 341, 342, 343, 345, 346, 348, 349, 350, 352, 353, 355, 356, 357, 359, 360, 362, 363, 364, 366, 367, 369, 370, 371, 373, 374, 376, 377, 378, 379, 381, 382, 384, 385, 386, 388, 389, 391, 392, 393, 395, 396, 398, 399, 400, 402, 403, 405, 406]
/-- the top's run over a tree of objects -/
def topRunT (bs : String → Option Builtin) (pr : Program) (wd : World) (k0 : Nat) (an : Option Value) : Nat → SharedT → Thread → Option SharedT
  | 0, _, _ => none
  | k + 1, x, y => match through y with
    | true => some x
    | false => match stepOk k0 an y with
      | false => none
      | true => match stepT (denote bs) pr wd x y with
        | some (x2, y2) => topRunT bs pr wd k0 an k x2 y2
        | none => none
theorem topRun_of {bs : String → Option Builtin} {pr : Program} {wd : World} {k0 : Nat} {an : Option Value} : ∀ {k : Nat} {x z : SharedT} {y : Thread}, topRunT bs pr wd k0 an k x y = some z → topRun bs pr wd k0 an k x.abs y = some z.abs
  | 0, _, _, _, q => by cases q
  | k + 1, x, z, y, q => by
    unfold topRunT at q
    unfold topRun
    cases e1 : through y with
    | true => rw [e1] at q; cases q; rfl
    | false =>
      rw [e1] at q
      cases e2 : stepOk k0 an y with
      | false => rw [e2] at q; cases q
      | true =>
        rw [e2] at q
        cases e3 : stepT (denote bs) pr wd x y with
        | none => rw [e3] at q; cases q
        | some u =>
          obtain ⟨x2, y2⟩ := u
          rw [e3] at q
          rw [stepT_spec e3]
          exact topRun_of q
/-- the objects of the boot as a tree -/
noncomputable def bt (P : Params) : BT := ((((((((((BT.nil.ins 0 (boot_o_0 P)).ins 1 (boot_o_1 P)).ins 2 (boot_o_2 P)).ins 3 (boot_o_3 P)).ins 4 (boot_o_4 P)).ins 5 (boot_o_5 P)).ins 6 (boot_o_6 P)).ins 7 (boot_o_7 P)).ins 8 (boot_o_8 P)).ins 9 (boot_o_9 P)).ins 10 (boot_o_10 P)
noncomputable def st0 (P : Params) (os : OsState) : SharedT := ⟨bt P, 11, (boot_heap P).life, Array.mk [], boot_drawn, boot_toks, os⟩
theorem st0_abs (P : Params) (os : OsState) : (st0 P os).abs = ⟨boot_heap P, Array.mk [], boot_drawn, boot_toks, os⟩ := by kernel_rfl
theorem ann_eq (P : Params) : (boot_heap P).nsMap mainGlobals "__annotations__" = some (.ref 6) := by kernel_rfl
theorem isNs0 (P : Params) : (boot_heap P).isNs mainGlobals = true := by kernel_rfl
theorem bo1 : opening pw = plainProg pw.main.scope.names := by kernel_rfl
theorem bo2 : ∀ s, fenceModules? pw s = some s := fun s => by kernel_rfl

theorem ads_eq (P : Params) : ads = (K P).map (·.1) := by kernel_rfl
noncomputable def hook : Hook := kHook K ads ads_eq
abbrev loose : List Str := ["SOLUTE_AT", "CALLS"]
abbrev mods : List Str := importedModules pw.main.body
abbrev Xt : Shared → Bool := fun s => xlAt view [] s && recOk [] s
abbrev fuel : Nat := 5082
noncomputable abbrev runs (w : World) (os : OsState) : Option SharedT := topRunT treeTable pw w 11 (some (.ref 6)) 5082 (st0 w.params os) (topStub pw)
noncomputable def kept (w : World) (r : SharedT) : Bool := staticsOk (importedModules pw.main.body) (boot_heap w.params) r.abs.heap && namesBound pw r.abs.heap && gensDone r.abs && laidKept (boot_heap w.params) r.abs.heap
set_option maxHeartbeats 0
theorem seenF : ∀ (w : World) (os : OsState), (topRunT treeTable pw (w.withFollow "special-get-raises" false) 11 (some (.ref 6)) 5082 (st0 (w.withFollow "special-get-raises" false).params os) (topStub pw)).map (fun r => (kept (w.withFollow "special-get-raises" false) r, openSeen view loose (importedModules pw.main.body) Xt true r.abs)) = some (true, openGood view loose) := fun w os => by kernel_rfl
theorem seenT : ∀ (w : World) (os : OsState), (topRunT treeTable pw (w.withFollow "special-get-raises" true) 11 (some (.ref 6)) 5082 (st0 (w.withFollow "special-get-raises" true).params os) (topStub pw)).map (fun r => (kept (w.withFollow "special-get-raises" true) r, openSeen view loose (importedModules pw.main.body) Xt true r.abs)) = some (true, openGood view loose) := fun w os => by kernel_rfl
theorem heldF : ∀ (w : World) (os : OsState), (topRunT treeTable pw (w.withFollow "special-get-raises" false) 11 (some (.ref 6)) 5082 (st0 (w.withFollow "special-get-raises" false).params os) (topStub pw)).map (fun r => ads.map r.abs.heap.get?) = some ((K (w.withFollow "special-get-raises" false).params).map fun p => some p.2) := fun w os => by kernel_rfl
theorem heldT : ∀ (w : World) (os : OsState), (topRunT treeTable pw (w.withFollow "special-get-raises" true) 11 (some (.ref 6)) 5082 (st0 (w.withFollow "special-get-raises" true).params os) (topStub pw)).map (fun r => ads.map r.abs.heap.get?) = some ((K (w.withFollow "special-get-raises" true).params).map fun p => some p.2) := fun w os => by kernel_rfl
theorem left_w {w : World} (hU : ∀ os : OsState, (topRunT treeTable pw w 11 (some (.ref 6)) 5082 (st0 w.params os) (topStub pw)).map (fun r => (kept w r, openSeen view loose (importedModules pw.main.body) Xt true r.abs)) = some (true, openGood view loose))
    (hV : ∀ os : OsState, (topRunT treeTable pw w 11 (some (.ref 6)) 5082 (st0 w.params os) (topStub pw)).map (fun r => ads.map r.abs.heap.get?) = some ((K w.params).map fun p => some p.2)) :
    (openEnds treeTable pw w 5082).map (fun s => (openSeen view loose (importedModules pw.main.body) Xt true s, hook.obs s)) = some (openGood view loose, hook.val w) := by
  obtain ⟨⟨h, gs, dr, tk, os⟩, e1, e2⟩ := Option.map_eq_some_iff.mp (boot_open (p := pw) (N := 5082) bo1 (by decide) bo2 w)
  obtain ⟨rfl, rfl, rfl, rfl⟩ : h = boot_heap w.params ∧ gs = Array.mk [] ∧ dr = boot_drawn ∧ tk = boot_toks := by
    simp only [Prod.mk.injEq] at e2
    exact e2
  obtain ⟨r, hr, eU⟩ := Option.map_eq_some_iff.mp (hU os)
  obtain ⟨r', hr', eV⟩ := Option.map_eq_some_iff.mp (hV os)
  obtain rfl : r = r' := Option.some.inj (hr.symm.trans hr')
  obtain ⟨eK, eO⟩ := Prod.mk.inj eU
  have run := topRun_of hr
  rw [st0_abs] at run
  have hs : (boot_heap w.params).objs.size = 11 := rfl
  have top : topFrom treeTable pw w 5082 ⟨boot_heap w.params, Array.mk [], boot_drawn, boot_toks, os⟩ = some r.abs := by
    unfold topFrom
    have c : ((boot_heap w.params).isNs mainGlobals && (Array.mk ([] : List GenState)).size == 0) = true := by rw [isNs0]; rfl
    show (match ((boot_heap w.params).isNs mainGlobals && (Array.mk ([] : List GenState)).size == 0) with | true => _ | false => _) = _
    rw [c]
    show (topRun treeTable pw w (boot_heap w.params).objs.size ((boot_heap w.params).nsMap mainGlobals "__annotations__") 5082 _ (topStub pw)).bind _ = _
    rw [hs, ann_eq, run]
    show (match kept w r with | true => some r.abs | false => none) = _
    rw [eK]
  unfold openEnds
  rw [e1]
  show ((topFrom treeTable pw w 5082 ⟨boot_heap w.params, Array.mk [], boot_drawn, boot_toks, os⟩)).map _ = _
  rw [top]
  show some (openSeen view loose (importedModules pw.main.body) Xt true r.abs, ads.map r.abs.heap.get?) = some (openGood view loose, (K w.params).map fun p => some p.2)
  rw [eO, eV]
theorem left : LeftO pw view loose Xt hook.obs hook.val 5082 := fun w =>
  byRow2 "special-get-raises" (P := fun w => (openEnds treeTable pw w 5082).map (fun s => (openSeen view loose (importedModules pw.main.body) Xt true s, hook.obs s)) = some (openGood view loose, hook.val w)) (fun w => left_w (seenF w) (heldF w)) (fun w => left_w (seenT w) (heldT w)) w
end Hd

set_option Elab.async false
set_option linter.all false
set_option maxRecDepth 100000
namespace L2
open PySem PySem.Spec PyProof.Rows

/-- a key: an int or a str -/
abbrev Key := Sum Int Str
def keyIs : Key → Value → Bool
  | .inl k, v => Value.isInt k v
  | .inr x, v => Value.isStrOf x v
def keyH (w : World) : Key → Int
  | .inl k => hashInt k
  | .inr x => hashStr w x
theorem keyIs_shape : ∀ {k : Key} {v : Value}, keyIs k v = true → (∃ i t, k = Sum.inl i ∧ v = Value.int i t) ∨ (∃ x t, k = Sum.inr x ∧ v = Value.str x t)
  | .inl i, v, h => by
    obtain ⟨t, e⟩ := Value.isInt_shape (k := i) (v := v) h
    exact .inl ⟨i, t, rfl, e⟩
  | .inr x, v, h => by
    obtain ⟨t, e⟩ := Value.isStrOf_shape (x := x) (v := v) h
    exact .inr ⟨x, t, rfl, e⟩
theorem key_ll (a b : Int) : decide ((Sum.inl a : Key) = Sum.inl b) = (a == b) := by
  by_cases e : a = b
  · subst e; simp
  · have h : ¬ (Sum.inl a : Key) = Sum.inl b := fun q => e (Sum.inl.inj q)
    rw [decide_eq_false h]
    exact (beq_eq_false_iff_ne.mpr e).symm
theorem key_rr (a b : Str) : decide ((Sum.inr a : Key) = Sum.inr b) = decide (a = b) := by
  by_cases e : a = b
  · subst e; simp
  · have h : ¬ (Sum.inr a : Key) = Sum.inr b := fun q => e (Sum.inr.inj q)
    rw [decide_eq_false h, decide_eq_false e]
theorem key_lr (a : Int) (b : Str) : decide ((Sum.inl a : Key) = Sum.inr b) = false := decide_eq_false (fun q => nomatch q)
theorem key_rl (a : Str) (b : Int) : decide ((Sum.inr a : Key) = Sum.inl b) = false := decide_eq_false (fun q => nomatch q)

def mixKind (prog : Program) (w : World) : PySem.KeyKind prog w Key where
  is := keyIs
  hash := keyH w
  inj := fun v a b ha hb => by
    rcases keyIs_shape ha with ⟨i, t, rfl, rfl⟩ | ⟨x, t, rfl, rfl⟩
    · rcases keyIs_shape hb with ⟨j, u, rfl, e⟩ | ⟨y, u, rfl, e⟩
      · injection e with e1 _; rw [e1]
      · exact nomatch e
    · rcases keyIs_shape hb with ⟨j, u, rfl, e⟩ | ⟨y, u, rfl, e⟩
      · exact nomatch e
      · injection e with e1 _; rw [e1]
  byValue := fun k v h => by
    rcases keyIs_shape h with ⟨i, t, rfl, rfl⟩ | ⟨x, t, rfl, rfl⟩ <;> rfl
  pyHash := fun hv h => by
    rcases keyIs_shape hv with ⟨i, t, rfl, rfl⟩ | ⟨x, t, rfl, rfl⟩
    · exact wpAny_pyHash_int h
    · exact wpAny_pyHash_str h
  eqBool := fun hu hv h => by
    rcases keyIs_shape hu with ⟨i, t, rfl, rfl⟩ | ⟨x, t, rfl, rfl⟩
    · rcases keyIs_shape hv with ⟨j, u, rfl, rfl⟩ | ⟨y, u, rfl, rfl⟩
      · rw [key_ll] at h; exact wpAny_eqBool_int h
      · rw [key_lr] at h; exact SeqAt.EqAt.int_str i t y u _ _ _ _ h
    · rcases keyIs_shape hv with ⟨j, u, rfl, rfl⟩ | ⟨y, u, rfl, rfl⟩
      · rw [key_rl] at h; exact SeqAt.EqAt.str_int x t j u _ _ _ _ h
      · rw [key_rr] at h; exact wpAny_eqBool_str h
  «strs» := fun k x t v h => by
    rcases keyIs_shape h with ⟨i, u, rfl, e⟩ | ⟨y, u, rfl, e⟩
    · exact nomatch e
    · injection e with e1 _
      subst e1
      cases v <;> rfl

end L2

namespace L2
open PySem PySem.Spec PyProof.Rows

/-- a value, without the heap -/
inductive V where
  | non | bl (b : Bool) | int (i : Int) | str (x : Str) | byt (b : Array UInt8) | flt (b : UInt64) | ref (a : Addr) | ty (n : String)
  deriving DecidableEq

def RelV : V → Value → Prop
  | .non, u => u = Value.none
  | .bl b, u => u = Value.bool b
  | .int i, u => ∃ t, u = Value.int i t
  | .str x, u => ∃ t, u = Value.str x t
  | .byt b, u => ∃ t, u = Value.bytes b t
  | .flt b, u => ∃ t, u = Value.float b t
  | .ref a, u => u = Value.ref a
  | .ty n, u => u = Value.type n

abbrev Vals : List V → List Value → Prop := Paired RelV
theorem Vals.length {xs : List V} {us : List Value} (r : Vals xs us) : xs.length = us.length := Paired.length r
theorem Vals.get : ∀ {xs : List V} {us : List Value} {i : Nat} {x : V}, Vals xs us → xs[i]? = some x → ∃ u, us[i]? = some u ∧ RelV x u
  | _, _, _, _, .nil, e => by simp at e
  | _, _, 0, _, .cons r _, e => by simp at e; subst e; exact ⟨_, rfl, r⟩
  | _, _, i + 1, x, .cons _ t, e => by
    obtain ⟨u, h1, h2⟩ := Vals.get (i := i) (x := x) t (by simpa using e)
    exact ⟨u, by simpa using h1, h2⟩
theorem Vals.set {x : V} {u : Value} (r : RelV x u) : ∀ {xs : List V} {us : List Value} (i : Nat), Vals xs us → Vals (xs.set i x) (us.set i u)
  | _, _, _, .nil => .nil
  | _, _, 0, .cons _ t => .cons r t
  | _, _, i + 1, .cons q t => .cons q (Vals.set r i t)
theorem Vals.append : ∀ {xs ys : List V} {us ws : List Value}, Vals xs us → Vals ys ws → Vals (xs ++ ys) (us ++ ws)
  | _, _, _, _, .nil, s => s
  | _, _, _, _, .cons r t, s => .cons r (Vals.append t s)
theorem Vals.take : ∀ {xs : List V} {us : List Value} (n : Nat), Vals xs us → Vals (xs.take n) (us.take n)
  | _, _, 0, _ => .nil
  | _, _, _ + 1, .nil => .nil
  | _, _, n + 1, .cons r t => .cons r (Vals.take n t)
theorem Vals.drop : ∀ {xs : List V} {us : List Value} (n : Nat), Vals xs us → Vals (xs.drop n) (us.drop n)
  | _, _, 0, r => r
  | _, _, _ + 1, .nil => .nil
  | _, _, n + 1, .cons _ t => Vals.drop n t
theorem Vals.none_of : ∀ {xs : List V} {us : List Value} {i : Nat}, Vals xs us → xs[i]? = none → us[i]? = none := fun {xs us i} r e => by
  have h1 := r.length
  have h2 : xs.length ≤ i := List.getElem?_eq_none_iff.mp e
  exact List.getElem?_eq_none_iff.mpr (by omega)

def RelO : Option V → Option Value → Prop
  | some v, some u => RelV v u
  | none, none => True
  | _, _ => False
def KV {κ : Type} : List (κ × V) → List (κ × Value) → Prop := Paired fun (p : κ × V) (q : κ × Value) => p.1 = q.1 ∧ RelV p.2 q.2

/-- a key of a dict (00_mix): an int or a text -/
def kV : Key → V
  | .inl i => .int i
  | .inr x => .str x

/-- what stands at a tracked address -/
inductive HO where
  /-- a list -/
  | lst (xs : List V)
  /-- a tuple (never changes) -/
  | tup (xs : List V)
  /-- a dict whose keys are ints and texts; one whose keys are tuples of ints and texts (the empty one is both) -/
  | dK (kvs : List (Key × V)) | dT (kvs : List (List Key × V))
  /-- a set of ints: its members, its size -/
  | set (S : Int → Bool) (n : Nat)
  /-- an instance of the class at C, its dict at dx, its attributes -/
  | ins (C dx : Addr) (fs : List (Str × V))
  /-- the dict of the instance at x -/
  | own (x : Addr)
  /-- the dict of an exception -/
  | xd (fs : List (Str × V))
  /-- a bound method, f of x -/
  | met (f x : Addr)
  /-- a range object lo, lo + 1, .. below hi -/
  | rng (lo hi : Int)
  /-- a thing that is known to the object (the script; a dict while a loop walks it): read, never written while it is so -/
  | frz (o : Obj) (u : HO)
  /-- a code object's table -/
  | tbl (ps : Array Value)
  /-- any other thing, by what is true of its one object (a def of one's own: SetO a S n := HO.ext fun h => ..) -/
  | ext (φ : Heap → Prop)

abbrev Hp := Addr → Option HO
def upd (H : Hp) (a : Addr) (o : HO) : Hp := fun b => if b = a then some o else H b
theorem upd_same {H : Hp} {a : Addr} {o : HO} : upd H a o a = some o := by unfold upd; rw [if_pos rfl]
theorem upd_ne {H : Hp} {a b : Addr} {o : HO} (h : b ≠ a) : upd H a o b = H b := by unfold upd; rw [if_neg h]
theorem upd_upd {H : Hp} {a : Addr} {o u : HO} : upd (upd H a o) a u = upd H a u := by
  funext b; unfold upd; split <;> rfl
/-- two objects of different content stand apart -/
theorem ne_of {H : Hp} {a b : Addr} {o u : HO} (h : H a = some o) (h' : H b = some u) (d : o ≠ u) : a ≠ b := by
  intro e; subst e; rw [h] at h'; exact d (Option.some.inj h')
theorem ne_of_none {H : Hp} {a b : Addr} {o : HO} (h : H a = some o) (h' : H b = none) : a ≠ b := by
  intro e; subst e; rw [h] at h'; cases h'

section
variable (P : Program) (w : World)
def ObjOk (H : Hp) (h : Heap) (a : Addr) : HO → Prop
  | .lst xs => xs.length ≤ sizeLine ∧ ∃ (its : List Value) (n : Nat), Vals xs its ∧ h.get? a = some { cls := .type "list", data := .seq its.toArray n }
  | .tup xs => xs.length ≤ sizeLine ∧ ∃ its : List Value, Vals xs its ∧ IsTup h a its.toArray
  | .dK kvs => kvs.length ≤ sizeLine ∧ (a == sysModules) = false ∧ ∃ vs, KV kvs vs ∧ h.DictOf (mixKind P w) a vs
  | .dT kvs => kvs.length ≤ sizeLine ∧ (a == sysModules) = false ∧ ∃ xs : List (List Key × Addr × Value),
      Paired (fun (p : List Key × V) (q : List Key × Addr × Value) => p.1 = q.1 ∧ H q.2.1 = some (.tup (p.1.map kV)) ∧ RelV p.2 q.2.2) kvs xs ∧
      ∃ o es ep, h.get? a = some o ∧ o.ExactDict ∧ o.data = .dict es ep ∧ es.toList = xs.map (entryOfKey (tupleKind (mixKind P w))) ∧ (xs.map (·.1)).Nodup
  | .set S n => h.SetOf (intKind P w) a S n
  | .ins C dx fs => H dx = some (.own a) ∧ fs.length ≤ 1000 ∧ dx ≠ a ∧ h.get? a = some (PySem.W.instObj C dx) ∧
      ∃ mA, h.Ns1 dx mA ∧ (∀ f, RelO (fs.lookup f) (mA f)) ∧ PySem.Within mA (fs.map (·.1))
  | .own _ => ∃ o, h.get? a = some o
  | .xd fs => ∃ mA, h.Ns1 a mA ∧ ∀ f, RelO (fs.lookup f) (mA f)
  | .rng lo hi => ∃ t u v, h.get? a = some { cls := .type "range", data := .fields #[.int lo t, .int hi u, .int 1 v] }
  | .frz o u => h.get? a = some o ∧ ObjOk H h a u
  | .tbl ps => h.get? a = some { cls := .none, data := .fields ps }
  | .met f x => h.get? a = some (PySem.W.methodObj (.ref f) (.ref x))
  | .ext φ => φ h ∧ (∃ o, h.get? a = some o) ∧ ∀ h1 h2 : Heap, φ h1 → (∀ o, h1.get? a = some o → h2.get? a = some o) → φ h2
/-- the abstract heap is held -/
def HOk (H : Hp) (h : Heap) : Prop := ∀ a o, H a = some o → ObjOk P w H h a o
end

section
variable {P : Program} {w : World} {H H' : Hp} {h h' : Heap} {a : Addr} {o : HO}
theorem ObjOk.lt (x : ObjOk P w H h a o) : a < h.objs.size := by
  cases o with
  | lst xs => obtain ⟨_, _, _, _, e⟩ := x; exact Heap.lt_size e
  | tup xs => obtain ⟨_, _, _, p⟩ := x; exact p.lt
  | dK kvs => obtain ⟨_, _, _, _, o, _, _, e, _⟩ := x; exact Heap.lt_size e
  | dT kvs => obtain ⟨_, _, _, _, o, _, _, e, _⟩ := x; exact Heap.lt_size e
  | set S n => obtain ⟨o, _, _, _, e, _⟩ := x; exact Heap.lt_size e
  | ins C dx fs => obtain ⟨_, _, _, e, _⟩ := x; exact Heap.lt_size e
  | own y => obtain ⟨_, e⟩ := x; exact Heap.lt_size e
  | xd fs => obtain ⟨_, ⟨_, _, _, e, _⟩, _⟩ := x; exact Heap.lt_size e
  | rng lo hi => obtain ⟨_, _, _, e⟩ := x; exact Heap.lt_size e
  | frz ob u => obtain ⟨e, _⟩ := x; exact Heap.lt_size e
  | tbl ps => exact Heap.lt_size (show h.get? a = some _ from x)
  | met f y => exact Heap.lt_size (show h.get? a = some _ from x)
  | ext φ => obtain ⟨_, ⟨_, e⟩, _⟩ := x; exact Heap.lt_size e
theorem Paired.mapP {α β : Type} {F G : α → β → Prop} : ∀ {l₁ : List α} {l₂ : List β}, Paired F l₁ l₂ → (∀ a b, F a b → G a b) → Paired G l₁ l₂
  | _, _, .nil, _ => .nil
  | _, _, .cons r t, f => .cons (f _ _ r) (Paired.mapP t f)
/-- what an object's description leans on: its own object, its own dict, the tuples -/
theorem ObjOk.stay (x : ObjOk P w H h a o) (k : ∀ b u, (b = a ∨ H b = some (.own a)) → h.get? b = some u → h'.get? b = some u)
    (ho : ∀ b, H b = some (.own a) → H' b = some (.own a)) (ht : ∀ b xs, H b = some (.tup xs) → H' b = some (.tup xs)) : ObjOk P w H' h' a o := by
  induction o with
  | lst xs => obtain ⟨z, its, n, r, e⟩ := x; exact ⟨z, its, n, r, k _ _ (.inl rfl) e⟩
  | tup xs => obtain ⟨z, its, r, ob, e, c⟩ := x; exact ⟨z, its, r, ob, k _ _ (.inl rfl) e, c⟩
  | dK kvs => obtain ⟨z, y, vs, r, ob, es, ep, e, c⟩ := x; exact ⟨z, y, vs, r, ob, es, ep, k _ _ (.inl rfl) e, c⟩
  | dT kvs =>
    obtain ⟨z, y, xs, r, ob, es, ep, e, c⟩ := x
    exact ⟨z, y, xs, Paired.mapP r fun p q z => ⟨z.1, ht _ _ z.2.1, z.2.2⟩, ob, es, ep, k _ _ (.inl rfl) e, c⟩
  | set S n => obtain ⟨ob, es, ep, t, e, c⟩ := x; exact ⟨ob, es, ep, t, k _ _ (.inl rfl) e, c⟩
  | ins C dx fs =>
    obtain ⟨d, z, ne, e, mA, ⟨od, es, ep, e2, c⟩, r⟩ := x
    exact ⟨ho _ d, z, ne, k _ _ (.inl rfl) e, mA, ⟨od, es, ep, k _ _ (.inr d) e2, c⟩, r⟩
  | own y => obtain ⟨ob, e⟩ := x; exact ⟨ob, k _ _ (.inl rfl) e⟩
  | xd fs => obtain ⟨mA, ⟨od, es, ep, e, c⟩, r⟩ := x; exact ⟨mA, ⟨od, es, ep, k _ _ (.inl rfl) e, c⟩, r⟩
  | rng lo hi => obtain ⟨t, u, v, e⟩ := x; exact ⟨t, u, v, k _ _ (.inl rfl) e⟩
  | frz ob u ih => obtain ⟨e, q⟩ := x; exact ⟨k _ _ (.inl rfl) e, ih q⟩
  | tbl ps =>
    have e : h.get? a = some { cls := .none, data := .fields ps } := x
    show h'.get? a = some { cls := .none, data := .fields ps }
    exact k a _ (.inl rfl) e
  | met f y =>
    have e : h.get? a = some (PySem.W.methodObj (.ref f) (.ref y)) := x
    show h'.get? a = some (PySem.W.methodObj (.ref f) (.ref y))
    exact k a _ (.inl rfl) e
  | ext φ => obtain ⟨p, ⟨o, e⟩, st⟩ := x; exact ⟨st _ _ p fun o q => k _ _ (.inl rfl) q, ⟨o, k _ _ (.inl rfl) e⟩, st⟩
theorem HOk.lt (x : HOk P w H h) (e : H a = some o) : a < h.objs.size := (x a o e).lt
theorem HOk.fresh (x : HOk P w H h) (e : h.objs.size ≤ a) : H a = none := by
  cases q : H a with
  | none => rfl
  | some u => exact absurd (Nat.lt_of_lt_of_le (x.lt q) e) (Nat.lt_irrefl _)
/-- every object of the heap is kept -/
theorem HOk.kept (x : HOk P w H h) (k : ∀ b u, h.get? b = some u → h'.get? b = some u) : HOk P w H h' := fun a o e =>
  (x a o e).stay (fun b u _ q => k b u q) (fun _ q => q) fun _ _ q => q
/-- a new object is laid and tracked -/
theorem HOk.laid (x : HOk P w H h) (k : ∀ b u, h.get? b = some u → h'.get? b = some u) (hp : h.objs.size ≤ a) (new : ObjOk P w (upd H a o) h' a o) : HOk P w (upd H a o) h' := fun b u e => by
  have hn := x.fresh hp
  by_cases hb : b = a
  · subst hb; rw [upd_same] at e; cases e; exact new
  · rw [upd_ne hb] at e
    exact (x b u e).stay (fun c v _ q => k c v q) (fun c q => by rw [upd_ne (ne_of_none q hn)]; exact q) fun c xs q => by rw [upd_ne (ne_of_none q hn)]; exact q
end

/-- what may be read as u: it is u, or a known u -/
def Rd (H : Hp) (a : Addr) (u : HO) : Prop := H a = some u ∨ ∃ o, H a = some (.frz o u)
theorem Rd.of {H : Hp} {a : Addr} {u : HO} (h : H a = some u) : Rd H a u := .inl h
theorem Rd.ok {P : Program} {w : World} {H : Hp} {h : Heap} {a : Addr} {u : HO} (r : Rd H a u) (x : HOk P w H h) : ObjOk P w H h a u := by
  rcases r with r | ⟨o, r⟩
  · exact x a u r
  · obtain ⟨_, q⟩ := x a _ r
    exact q
/-- what may be written -/
def Mut : Option HO → Prop
  | some (.lst _) => True
  | some (.dK _) => True
  | some (.dT _) => True
  | some (.set _ _) => True
  | some (.ins _ _ _) => True
  | some (.ext _) => True
  | _ => False
section
variable {P : Program} {w : World} {H : Hp} {h h' : Heap} {x e : Addr} {o' : HO}
/-- the object at e is changed: x itself, or the dict of the instance x -/
theorem HOk.write (ok : HOk P w H h) (mu : Mut (H x)) (he : e = x ∨ H e = some (.own x)) (k : ∀ b u, b ≠ e → h.get? b = some u → h'.get? b = some u) (heo : ∃ u, h'.get? e = some u)
    (new : ObjOk P w (upd H x o') h' x o') : HOk P w (upd H x o') h' := fun b u q => by
  have nown : ∀ c y, H c = some (.own y) → c ≠ x := fun c y r z => by subst z; rw [r] at mu; exact mu
  have ntup : ∀ c xs, H c = some (.tup xs) → c ≠ x := fun c xs r z => by subst z; rw [r] at mu; exact mu
  by_cases hb : b = x
  · subst hb; rw [upd_same] at q; cases q; exact new
  · rw [upd_ne hb] at q
    by_cases hbe : b = e
    · have q' : H b = some (.own x) := by
        rcases he with z | z
        · exact absurd (hbe.trans z) hb
        · rw [hbe]; exact z
      rw [q] at q'; cases q'
      obtain ⟨v, hv⟩ := heo
      exact ⟨v, by rw [hbe]; exact hv⟩
    · refine (ok b u q).stay (fun c v hc r => k c v ?_ r) (fun c r => by rw [upd_ne (nown c b r)]; exact r) fun c xs r => by rw [upd_ne (ntup c xs r)]; exact r
      rcases hc with rfl | hc
      · exact hbe
      · rintro rfl
        rcases he with z | z
        · exact nown c b hc z
        · rw [hc] at z; cases z; exact hb rfl
end

structure Un (fs ex : List Addr) (H H' : Hp) (h h' : Heap) : Prop where
  keep : ∀ b o, h.get? b = some o → H b = none → b ∉ fs → b ∉ ex → h'.get? b = some o
  slot : ∀ b o, h.get? b = some o → H b = none → b ∈ fs → b ∉ ex → ∃ sl, h'.get? b = some { o with slots := sl }
  free : ∀ b o, h.get? b = some o → H b = none → b ∉ ex → H' b = none
  there : ∀ b o, h.get? b = some o → b ∉ ex → ∃ o', h'.get? b = some o'
  tups : ∀ b xs, H b = some (.tup xs) → H' b = some (.tup xs)
  frzs : ∀ b o u, H b = some (.frz o u) → H' b = some (.frz o u)
  tbls : ∀ b ps, H b = some (.tbl ps) → ∃ more, H' b = some (.tbl (ps ++ more))
section
variable {fs fs' ex ex' : List Addr} {H H1 H2 : Hp} {h h1 h2 h' : Heap} {a x e : Addr} {o : HO}
theorem Un.any (u : Un fs ex H H1 h h1) {b : Addr} {ob : Obj} (q : h.get? b = some ob) (n : H b = none) (hx : b ∉ ex) : ∃ sl, h1.get? b = some { ob with slots := sl } := by
  by_cases hb : b ∈ fs
  · exact u.slot b ob q n hb hx
  · exact ⟨ob.slots, u.keep b ob q n hb hx⟩
theorem Un.trans (a : Un fs ex H H1 h h1) (b : Un fs ex H1 H2 h1 h2) : Un fs ex H H2 h h2 where
  keep := fun c ob q n hc hx => b.keep c ob (a.keep c ob q n hc hx) (a.free c ob q n hx) hc hx
  slot := fun c ob q n hc hx => by
    obtain ⟨sl, e1⟩ := a.slot c ob q n hc hx
    obtain ⟨sl', e2⟩ := b.slot c _ e1 (a.free c ob q n hx) hc hx
    exact ⟨sl', e2⟩
  free := fun c ob q n hx => by
    obtain ⟨o', e1⟩ := a.there c ob q hx
    exact b.free c o' e1 (a.free c ob q n hx) hx
  there := fun c ob q hx => by
    obtain ⟨o', e1⟩ := a.there c ob q hx
    exact b.there c o' e1 hx
  tups := fun c xs q => b.tups c xs (a.tups c xs q)
  frzs := fun c ob xs q => b.frzs c ob xs (a.frzs c ob xs q)
  tbls := fun c ps q => by
    obtain ⟨m1, e1⟩ := a.tbls c ps q
    obtain ⟨m2, e2⟩ := b.tbls c _ e1
    exact ⟨m1 ++ m2, by rw [e2, Array.append_assoc]⟩
theorem Un.kept (k : ∀ b u, h.get? b = some u → h'.get? b = some u) : Un fs ex H H h h' :=
  ⟨fun b ob q _ _ _ => k b ob q, fun b ob q _ _ _ => ⟨ob.slots, k b ob q⟩, fun _ _ _ n _ => n, fun b ob q _ => ⟨ob, k b ob q⟩, fun _ _ q => q, fun _ _ _ q => q, fun _ ps q => ⟨#[], by rw [q]; simp⟩⟩
theorem Un.refl : Un fs ex H H h h := Un.kept fun _ _ q => q
theorem Un.laid (k : ∀ b u, h.get? b = some u → h'.get? b = some u) (hp : h.objs.size ≤ a) (hn : H a = none) : Un fs ex H (upd H a o) h h' where
  keep := fun b u q _ _ _ => k b u q
  slot := fun b u q _ _ _ => ⟨u.slots, k b u q⟩
  free := fun b u q n _ => by rw [upd_ne (Nat.ne_of_lt (Nat.lt_of_lt_of_le (Heap.lt_size q) hp))]; exact n
  there := fun b u q _ => ⟨u, k b u q⟩
  tups := fun b xs q => by rw [upd_ne (ne_of_none q hn)]; exact q
  frzs := fun b u xs q => by rw [upd_ne (ne_of_none q hn)]; exact q
  tbls := fun b ps q => ⟨#[], by rw [upd_ne (ne_of_none q hn), q]; simp⟩
theorem Un.write (mu : Mut (H x)) (he : e = x ∨ H e = some (.own x)) (k : ∀ b u, b ≠ e → h.get? b = some u → h'.get? b = some u) (heo : ∃ u, h'.get? e = some u) : Un fs ex H (upd H x o) h h' := by
  have hx : ∀ b, H b = none → b ≠ x := fun b n z => by subst z; rw [n] at mu; exact mu
  have hb : ∀ b, H b = none → b ≠ e := fun b n z => by
    subst z
    rcases he with r | r
    · exact hx b n r
    · rw [n] at r; cases r
  have hm : ∀ b u, H b = some u → ¬ Mut (some u) → b ≠ x := fun b u q nm z => by subst z; rw [q] at mu; exact nm mu
  refine ⟨fun b u q n _ _ => k b u (hb b n) q, fun b u q n _ _ => ⟨u.slots, k b u (hb b n) q⟩, fun b u q n _ => by rw [upd_ne (hx b n)]; exact n, fun b u q _ => ?_,
    fun b xs q => by rw [upd_ne (hm b _ q fun z => z)]; exact q, fun b u xs q => by rw [upd_ne (hm b _ q fun z => z)]; exact q, fun b ps q => ⟨#[], by rw [upd_ne (hm b _ q fun z => z), q]; simp⟩⟩
  by_cases hbe : b = e
  · subst hbe; exact heo
  · exact ⟨u, k b u hbe q⟩
theorem Un.mono (u : Un fs ex H H1 h h1) (hs : ∀ b ∈ fs, b ∈ fs') (hx : ∀ b ∈ ex, b ∈ ex') : Un fs' ex' H H1 h h1 :=
  ⟨fun b ob q n hb he => u.keep b ob q n (fun z => hb (hs b z)) fun z => he (hx b z), fun _ _ q n _ he => u.any q n fun z => he (hx _ z), fun b ob q n he => u.free b ob q n fun z => he (hx b z), fun b ob q he => u.there b ob q fun z => he (hx b z), u.tups, u.frzs, u.tbls⟩
end

def trk (h : Heap) (H : Hp) : List Addr := (List.range h.objs.size).filter fun a => (H a).isSome
def hidT (h : Heap) (H : Hp) : Heap := PySem.W.hideAll h (trk h H)
theorem hidT_size (h : Heap) (H : Hp) : (hidT h H).objs.size = h.objs.size := PySem.W.hideAll_size _ _
theorem hidT_get {h : Heap} {H : Hp} {b : Addr} {o : Obj} (e : h.get? b = some o) (n : H b = none) : (hidT h H).get? b = some o :=
  PySem.W.hideAll_get _ e fun hm => by
    have q : (H b).isSome = true := (List.mem_filter.mp hm).2
    rw [n] at q; simp at q
theorem of_hidT {h : Heap} {H : Hp} {b : Addr} {o : Obj} (e : (hidT h H).get? b = some o) : h.get? b = some o ∧ H b = none := by
  have e' : h.get? b = some o := PySem.W.of_hideAll (trk h H) e
  refine ⟨e', ?_⟩
  cases q : H b with
  | none => rfl
  | some x =>
    have hm : b ∈ trk h H := List.mem_filter.mpr ⟨List.mem_range.mpr (Heap.lt_size e'), by simp [q]⟩
    have z : (hidT h H).get? b = none := PySem.W.hideAll_none (trk h H) hm
    rw [z] at e; cases e

def allNews (g h : Heap) (L : Addr) : List (Addr × Obj) := (List.range h.objs.size).filterMap fun a => if a = L ∨ (g.get? a).isSome = true then none else (h.get? a).map fun o => (a, o)
def rest (g h : Heap) (L d : Addr) : List (Addr × Obj) := (allNews g h L).filter fun p => decide (p.1 ≠ d)
end L2

namespace L2
open PySem PySem.Spec PyProof.Rows

/-- the module's facts, over the base: the heap at the law's entry without what is tracked there -/
structure Mod (K : PySem.W.Frag) (mg : Str → Option Value) (base : Heap) : Prop where
  kin : K.In base
  glob : base.Ns mainGlobals mg
  blt : ∃ mb, base.Ns builtinsNs mb ∧ ∀ x : Str, x ≠ "__name__" → mb x = bootBuiltins x
  nolimit : base.NoLimit

/-- the context: a def's body (or a comprehension's block) running. base: fixed through the whole law; s₀, H₀: the entry; outer: the frames whose slots others may change (a def's callers); stack: all frames that run;
   ex: iterators that were made ahead of the entry and are walked here (a comprehension's); fn: the names whose cells were made at the entry (a def: all; a comprehension's block: its own); calm: not within an except suite; pn: pins that every state bears; xe: what is wanted of an exception that leaves the code -/
structure Cx where
  prog : Program
  w : World
  K : PySem.W.Frag
  mg : Str → Option Value
  base : Heap
  A : Around
  N : List Str
  s_0 : Shared
  H_0 : Hp
  env : Env
  outer : List Env
  stack : List Env
  ex : List Addr
  fn : Str → Bool
  calm : Bool
  pn : List (Addr × Obj)
  xe : Value → Shared → Prop
/-- the callers' frames -/
def frs (l : List Env) : List Addr := l.filterMap (·.frame)
abbrev Cx.fs (X : Cx) : List Addr := frs X.outer

def Vis (sc : Scope) (x : Str) : Prop := sc.names.lookup x = some .local ∨ sc.names.lookup x = some .cell ∨ sc.names.lookup x = some .free
def Loc (sc : Scope) (x : Str) : Prop := sc.names.lookup x = some .local ∨ sc.names.lookup x = some .cell
def Look (env : Env) (h : Heap) (m : Str → Option Value) (x : Str) (u : Value) : Prop :=
  (env.kindOf x = some .local ∧ m x = some u) ∨ ((env.kindOf x = some .cell ∨ env.kindOf x = some .free) ∧ ∃ c, env.cells.lookup x = some c ∧ h.IsCell c (some u))

structure Cx.Ok (X : Cx) : Prop where
  mod : Mod X.K X.mg X.base
  kind : X.env.scope.kind = .function
  glob : X.env.globals = mainGlobals
  blt : X.env.builtins = builtinsNs
  above : X.s_0.heap.objs.size ≤ X.env.locals
  inj : ∀ x y c, X.env.cells.lookup x = some c → X.env.cells.lookup y = some c → x = y
  has : ∀ x, (X.env.kindOf x = some .cell ∨ X.env.kindOf x = some .free) → ∃ c, X.env.cells.lookup x = some c
  cab : ∀ x c, X.fn x = true → X.env.cells.lookup x = some c → X.s_0.heap.objs.size ≤ c
  hd : X.calm = true → X.A.handled = none
  frames : X.A.frames = some X.stack
  stk : X.stack = X.outer ∨ (X.stack = X.env :: X.outer ∧ X.env.frame = some X.env.locals)
  exf : ∀ b ∈ X.ex, b ≠ X.env.locals ∧ ∀ x c, X.env.cells.lookup x = some c → c ≠ b
  bs : ∀ b o, X.base.get? b = some o → X.s_0.heap.get? b = some o ∧ X.H_0 b = none
  bsz : X.base.objs.size ≤ X.s_0.heap.objs.size
  noex : ∀ b o, X.base.get? b = some o → b ∉ X.ex
  exfs : ∀ b ∈ X.ex, b ∉ X.fs
  funs : X.s_0.heap.FunFrames X.base X.outer
  frf : ∀ b ∈ X.fs, X.H_0 b = none

structure Inv (X : Cx) (pins : List (Addr × Obj)) (σ : List (Option V)) (H : Hp) (s : Shared) : Prop where
  ok : X.Ok
  os : s.os = X.s_0.os
  bare : AllBare s.gens
  base : Un X.fs X.ex X.H_0 H X.s_0.heap s.heap
  loc : ∃ m, s.heap.Ns X.env.locals m ∧ ∀ (i : Nat) (x : Str) (v : V), X.N[i]? = some x → σ[i]? = some (some v) → Vis X.env.scope x → ∃ u, RelV v u ∧ Look X.env s.heap m x u
  cell : ∀ x c, X.env.cells.lookup x = some c → ∃ v, s.heap.IsCell c v
  free : H X.env.locals = none
  freeC : ∀ x c, X.env.cells.lookup x = some c → H c = none
  pin : ∀ p ∈ X.pn ++ pins, s.heap.get? p.1 = some p.2 ∧ H p.1 = none ∧ p.1 ≠ X.env.locals ∧ p.1 ∉ X.fs ∧ ∀ v, p.2.data ≠ .cell v
  hok : HOk X.prog X.w H s.heap
  len : σ.length = X.N.length

section
variable {X : Cx} {pins : List (Addr × Obj)} {σ : List (Option V)} {H H' : Hp} {s : Shared} {h' : Heap}

theorem Cx.Ok.nofr (ok : X.Ok) {b : Addr} {o : Obj} (e : X.base.get? b = some o) : b ∉ X.fs := fun hb => by
  have := (ok.funs.mem hb).1
  rw [e] at this; cases this
theorem Inv.bs (I : Inv X pins σ H s) : ∀ b o, X.base.get? b = some o → s.heap.get? b = some o ∧ H b = none := fun b o e =>
  ⟨I.base.keep b o (I.ok.bs b o e).1 (I.ok.bs b o e).2 (I.ok.nofr e) (I.ok.noex b o e), I.base.free b o (I.ok.bs b o e).1 (I.ok.bs b o e).2 (I.ok.noex b o e)⟩
theorem Inv.bk (I : Inv X pins σ H s) : ∀ b o, X.base.get? b = some o → s.heap.get? b = some o := fun b o e => (I.bs b o e).1
theorem Inv.mod (I : Inv X pins σ H s) : Mod X.K X.mg X.base := I.ok.mod
theorem Inv.kIn (I : Inv X pins σ H s) : X.K.In s.heap := I.ok.mod.kin.keeps I.bk
theorem Inv.nolimit (I : Inv X pins σ H s) : s.heap.NoLimit := I.ok.mod.nolimit.keeps I.bk
/-- the frame over the base: for OpenK's rules (K.In X.base is I.mod.kin) -/
theorem Inv.fr (I : Inv X pins σ H s) : ∃ m, Fr X.base X.env.locals s.heap m :=
  let ⟨m, hn, _⟩ := I.loc
  ⟨m, hn, I.bk, Nat.le_trans I.ok.bsz I.ok.above⟩
theorem Inv.lt (I : Inv X pins σ H s) : X.env.locals < s.heap.objs.size := let ⟨_, hn, _⟩ := I.loc; hn.lt
theorem Inv.sz (I : Inv X pins σ H s) : X.s_0.heap.objs.size ≤ s.heap.objs.size := Nat.le_trans I.ok.above (Nat.le_of_lt I.lt)
theorem Inv.nofs (I : Inv X pins σ H s) {a : Addr} (h : s.heap.objs.size ≤ a) : a ∉ X.fs := fun hb => by
  obtain ⟨_, o, ho, _⟩ := I.ok.funs.mem hb
  exact absurd (Nat.lt_of_lt_of_le (Heap.lt_size ho) (Nat.le_trans I.sz h)) (Nat.lt_irrefl _)
theorem Inv.cne (I : Inv X pins σ H s) : ∀ x c, X.env.cells.lookup x = some c → c ≠ X.env.locals := fun x c e z => by
  obtain ⟨v, o, ho, hd⟩ := I.cell x c e
  obtain ⟨m, ⟨o', es, ep, ho', hd', _⟩, _⟩ := I.loc
  rw [z, ho'] at ho; cases ho; rw [hd'] at hd; cases hd
theorem Inv.funs (I : Inv X pins σ H s) : s.heap.FunFrames X.base X.outer := by
  have all : ∀ (l : List Env), (∀ b ∈ frs l, b ∈ X.fs) → X.s_0.heap.FunFrames X.base l → s.heap.FunFrames X.base l := by
    intro l
    induction l with
    | nil => intro _ _; trivial
    | cons env r ih =>
      intro hs hl
      obtain ⟨hk, ⟨L, o, hf, hn, ho, hd⟩, hr⟩ := hl
      have hL : L ∈ X.fs := hs L (by unfold frs; rw [List.filterMap_cons, hf]; exact List.mem_cons_self)
      obtain ⟨sl, e⟩ := I.base.slot L o ho (I.ok.frf L hL) hL fun z => I.ok.exfs L z hL
      exact ⟨hk, ⟨L, _, hf, hn, e, hd⟩, ih (fun b hb => hs b (by unfold frs; rw [List.filterMap_cons, hf]; exact List.mem_cons_of_mem _ hb)) hr⟩
  exact all X.outer (fun _ hb => hb) I.ok.funs

/-- the frames that run, for a call -/
theorem Inv.stack (I : Inv X pins σ H s) : s.heap.FunFrames X.base X.stack := by
  rcases I.ok.stk with e | ⟨e, hf⟩
  · rw [e]; exact I.funs
  · rw [e]
    obtain ⟨m, hn, _⟩ := I.loc
    refine .cons (by rw [I.ok.kind]; decide) hf hn ?_ I.funs
    exact Heap.get?_none_of_le (Nat.le_trans I.ok.bsz I.ok.above)
theorem Inv.stkSub (I : Inv X pins σ H s) : ∀ b ∈ frs X.stack, b ∈ X.env.locals :: X.fs := fun b hb => by
  rcases I.ok.stk with e | ⟨e, hf⟩
  · rw [e] at hb; exact List.mem_cons_of_mem _ hb
  · rw [e] at hb
    unfold frs at hb
    rw [List.filterMap_cons, hf] at hb
    exact hb
theorem Inv.stkFree (I : Inv X pins σ H s) : ∀ b ∈ frs X.stack, H b = none := fun b hb => by
  rcases List.mem_cons.mp (I.stkSub b hb) with e | hb
  · rw [e]; exact I.free
  · obtain ⟨_, o, ho, _⟩ := I.ok.funs.mem hb
    exact I.base.free b o ho (I.ok.frf b hb) fun z => I.ok.exfs b z hb

/-- THE STEP: the untracked objects but the frame and the records at ch are kept (the callers' frames up to slots), the frame's map is kept, the new abstract heap is held -/
theorem Inv.step {g' : Array GenState} {t' : Nat} {d' : Drawn} {ch : List Addr} (I : Inv X pins σ H s)
    (hch : ∀ b ∈ ch, (b ∈ X.ex ∨ X.s_0.heap.objs.size ≤ b) ∧ b ≠ X.env.locals ∧ (∀ x c, X.env.cells.lookup x = some c → c ≠ b) ∧ ∀ p ∈ X.pn ++ pins, p.1 ≠ b)
    (keep : ∀ b o, b ≠ X.env.locals → b ∉ X.fs → b ∉ ch → s.heap.get? b = some o → H b = none → h'.get? b = some o)
    (slot : ∀ b o, b ≠ X.env.locals → b ∈ X.fs → b ∉ ch → s.heap.get? b = some o → H b = none → ∃ sl, h'.get? b = some { o with slots := sl }) (free : ∀ b o, b ∉ ch → s.heap.get? b = some o → H b = none → H' b = none)
    (there : ∀ b o, b ∉ ch → s.heap.get? b = some o → ∃ o', h'.get? b = some o')
    (tups : ∀ b xs, H b = some (.tup xs) → H' b = some (.tup xs)) (frzs : ∀ b o u, H b = some (.frz o u) → H' b = some (.frz o u)) (tbls : ∀ b ps, H b = some (.tbl ps) → ∃ more, H' b = some (.tbl (ps ++ more)))
    (ns : ∀ m, s.heap.Ns X.env.locals m → h'.Ns X.env.locals m) (hok : HOk X.prog X.w H' h') (hg : AllBare g') :
    Inv X pins σ H' { s with heap := h', gens := g', drawn := d', toks := t' } := by
  have neL : ∀ b o, X.s_0.heap.get? b = some o → b ≠ X.env.locals := fun b o e => Nat.ne_of_lt (Nat.lt_of_lt_of_le (Heap.lt_size e) I.ok.above)
  have neC : ∀ b o, X.s_0.heap.get? b = some o → b ∉ X.ex → b ∉ ch := fun b o e hx hb => by
    rcases (hch b hb).1 with z | z
    · exact hx z
    · exact absurd (Nat.lt_of_lt_of_le (Heap.lt_size e) z) (Nat.lt_irrefl _)
  have cellK : ∀ x c, X.env.cells.lookup x = some c → ∀ v, s.heap.IsCell c v → h'.IsCell c v := fun x c e v ⟨o, ho, hd⟩ => by
    have nch : c ∉ ch := fun z => (hch c z).2.2.1 x c e rfl
    by_cases hc : c ∈ X.fs
    · obtain ⟨sl, q⟩ := slot c o (I.cne x c e) hc nch ho (I.freeC x c e)
      exact ⟨_, q, hd⟩
    · exact ⟨o, keep c o (I.cne x c e) hc nch ho (I.freeC x c e), hd⟩
  refine ⟨I.ok, I.os, hg, ⟨fun b o e n hb hx => ?_, fun b o e n hb hx => ?_, fun b o e n hx => ?_, fun b o e hx => ?_, fun b xs e => tups b xs (I.base.tups b xs e), fun b o xs e => frzs b o xs (I.base.frzs b o xs e), fun b ps e => ?_⟩, ?_, fun x c e => ?_, ?_, fun x c e => ?_, fun p hp => ?_, hok, I.len⟩
  · exact keep b o (neL b o e) hb (neC b o e hx) (I.base.keep b o e n hb hx) (I.base.free b o e n hx)
  · obtain ⟨sl, e1⟩ := I.base.slot b o e n hb hx
    obtain ⟨sl', e2⟩ := slot b _ (neL b o e) hb (neC b o e hx) e1 (I.base.free b o e n hx)
    exact ⟨sl', e2⟩
  · obtain ⟨o', e1⟩ := I.base.there b o e hx
    exact free b o' (neC b o e hx) e1 (I.base.free b o e n hx)
  · obtain ⟨o', e1⟩ := I.base.there b o e hx
    exact there b o' (neC b o e hx) e1
  · obtain ⟨m1, e1⟩ := I.base.tbls b ps e
    obtain ⟨m2, e2⟩ := tbls b _ e1
    exact ⟨m1 ++ m2, by rw [e2, Array.append_assoc]⟩
  · obtain ⟨m, hn, hl⟩ := I.loc
    refine ⟨m, ns m hn, fun i x v e1 e2 e3 => ?_⟩
    obtain ⟨u, r, l⟩ := hl i x v e1 e2 e3
    refine ⟨u, r, ?_⟩
    rcases l with l | ⟨k, c, e, z⟩
    · exact .inl l
    · exact .inr ⟨k, c, e, cellK x c e _ z⟩
  · obtain ⟨v, z⟩ := I.cell x c e
    exact ⟨v, cellK x c e v z⟩
  · obtain ⟨m, ⟨o, _, _, ho, _⟩, _⟩ := I.loc
    exact free _ o (fun z => (hch _ z).2.1 rfl) ho I.free
  · obtain ⟨v, o, ho, hd⟩ := I.cell x c e
    exact free c o (fun z => (hch c z).2.2.1 x c e rfl) ho (I.freeC x c e)
  · obtain ⟨e, n, ne, nf, d⟩ := I.pin p hp
    have nch : p.1 ∉ ch := fun z => (hch p.1 z).2.2.2 p hp rfl
    exact ⟨keep p.1 p.2 ne nf nch e n, free p.1 p.2 nch e n, ne, nf, d⟩
/-- .. where the frame's own object is kept too -/
theorem Inv.un {t' : Nat} (I : Inv X pins σ H s) (u : Un X.fs [] H H' s.heap h') (hok : HOk X.prog X.w H' h') : Inv X pins σ H' { s with heap := h', toks := t' } := by
  obtain ⟨m, ⟨o, es, ep, ho, r⟩, _⟩ := id I.loc
  obtain ⟨sl, hL⟩ := u.any ho I.free (by simp)
  exact I.step (g' := s.gens) (d' := s.drawn) (ch := []) (fun _ z => nomatch z) (fun b o _ hb _ e n => u.keep b o e n hb (by simp)) (fun b o _ hb _ e n => u.slot b o e n hb (by simp)) (fun b o _ e n => u.free b o e n (by simp)) (fun b o _ e => u.there b o e (by simp)) u.tups u.frzs u.tbls (fun m' hm => by
    obtain ⟨o', es', ep', ho', r'⟩ := hm
    rw [ho] at ho'; cases ho'
    exact ⟨_, es', ep', hL, r'⟩) hok I.bare
/-- behind a call (or a comprehension's block): the slots of this frame may have changed too, the records at ch may have turned -/
theorem Inv.call {g' : Array GenState} {t' : Nat} {d' : Drawn} {ch : List Addr} (I : Inv X pins σ H s) (u : Un (frs X.stack) ch H H' s.heap h') (hok : HOk X.prog X.w H' h') (hg : AllBare g')
    (hch : ∀ b ∈ ch, (b ∈ X.ex ∨ X.s_0.heap.objs.size ≤ b) ∧ b ≠ X.env.locals ∧ (∀ x c, X.env.cells.lookup x = some c → c ≠ b) ∧ ∀ p ∈ X.pn ++ pins, p.1 ≠ b) :
    Inv X pins σ H' { s with heap := h', gens := g', drawn := d', toks := t' } := by
  obtain ⟨m, ⟨o, es, ep, ho, r⟩, _⟩ := id I.loc
  obtain ⟨sl, hL⟩ := u.any ho I.free fun z => (hch _ z).2.1 rfl
  exact I.step (ch := ch) hch (fun b o hL hb hc e n => u.keep b o e n (fun z => (List.mem_cons.mp (I.stkSub b z)).elim hL hb) hc) (fun b o _ _ hc e n => u.any e n hc) (fun b o hc e n => u.free b o e n hc) (fun b o hc e => u.there b o e hc) u.tups u.frzs u.tbls (fun m' hm => by
    obtain ⟨o', es', ep', ho', r'⟩ := hm
    rw [ho] at ho'; cases ho'
    exact ⟨_, es', ep', hL, r'⟩) hok hg
/-- an untracked record of ours (an iterator) has turned -/
theorem Inv.turned {t' : Nat} {it : Addr} (I : Inv X pins σ H s) (k : ∀ b o, b ≠ it → s.heap.get? b = some o → h'.get? b = some o) (hn : H it = none) (hL : it ≠ X.env.locals)
    (h1 : it ∈ X.ex ∨ X.s_0.heap.objs.size ≤ it) (h2 : ∀ x c, X.env.cells.lookup x = some c → c ≠ it) (h3 : ∀ p ∈ X.pn ++ pins, p.1 ≠ it) : Inv X pins σ H { s with heap := h', toks := t' } := by
  have nit : ∀ b u, H b = some u → b ≠ it := fun b u e z => by rw [z, hn] at e; cases e
  refine I.step (g' := s.gens) (d' := s.drawn) (ch := [it]) (fun b hb => ?_) (fun b o _ _ hc e _ => k b o (fun z => hc (by simp [z])) e) (fun b o _ _ hc e _ => ⟨o.slots, k b o (fun z => hc (by simp [z])) e⟩) (fun _ _ _ _ n => n)
    (fun b o hc e => ⟨o, k b o (fun z => hc (by simp [z])) e⟩) (fun _ _ e => e) (fun _ _ _ e => e) (fun b ps e => ⟨#[], by rw [e]; simp⟩) (fun m hm => ?_) (fun b u e => ?_) I.bare
  · have e : b = it := by simpa using hb
    subst e
    exact ⟨h1, hL, h2, h3⟩
  · obtain ⟨o, es, ep, ho, r⟩ := hm
    exact ⟨o, es, ep, k _ o (Ne.symm hL) ho, r⟩
  · refine (I.hok b u e).stay (fun c v hc q => k c v ?_ q) (fun _ q => q) fun _ _ q => q
    rcases hc with z | z
    · rw [z]; exact nit b u e
    · exact nit c _ z
theorem Inv.tok (I : Inv X pins σ H s) (t : Nat) : Inv X pins σ H { s with toks := t } := I.un (h' := s.heap) (t' := t) Un.refl I.hok
/-- all objects kept -/
theorem Inv.kept {t' : Nat} (I : Inv X pins σ H s) (k : ∀ b u, s.heap.get? b = some u → h'.get? b = some u) : Inv X pins σ H { s with heap := h', toks := t' } := I.un (Un.kept k) (I.hok.kept k)
/-- a new object laid and tracked -/
theorem Inv.laid {a : Addr} {o : HO} {t' : Nat} (I : Inv X pins σ H s) (k : ∀ b u, s.heap.get? b = some u → h'.get? b = some u) (hp : s.heap.objs.size ≤ a) (new : ObjOk X.prog X.w (upd H a o) h' a o) :
    Inv X pins σ (upd H a o) { s with heap := h', toks := t' } := I.un (Un.laid k hp (I.hok.fresh hp)) (I.hok.laid k hp new)
/-- an object written -/
theorem Inv.write {x e : Addr} {o : HO} {t' : Nat} (I : Inv X pins σ H s) (mu : Mut (H x)) (he : e = x ∨ H e = some (.own x)) (k : ∀ b u, b ≠ e → s.heap.get? b = some u → h'.get? b = some u) (heo : ∃ u, h'.get? e = some u)
    (new : ObjOk X.prog X.w (upd H x o) h' x o) : Inv X pins σ (upd H x o) { s with heap := h', toks := t' } := I.un (Un.write mu he k heo) (I.hok.write mu he k heo new)
/-- forgetting slots, pins -/
theorem Inv.weak {σ' : List (Option V)} (I : Inv X pins σ H s) (hl : σ'.length = σ.length) (w : ∀ (i : Nat) v, σ'[i]? = some (some v) → σ[i]? = some (some v)) : Inv X pins σ' H s :=
  ⟨I.ok, I.os, I.bare, I.base, let ⟨m, hn, hl'⟩ := I.loc; ⟨m, hn, fun i x v e1 e2 e3 => hl' i x v e1 (w i v e2) e3⟩, I.cell, I.free, I.freeC, I.pin, I.hok, hl.trans I.len⟩
theorem Inv.pins_of {pins' : List (Addr × Obj)} (I : Inv X pins σ H s) (h : ∀ p ∈ pins', s.heap.get? p.1 = some p.2 ∧ H p.1 = none ∧ p.1 ≠ X.env.locals ∧ p.1 ∉ X.fs ∧ ∀ v, p.2.data ≠ .cell v) : Inv X pins' σ H s :=
  ⟨I.ok, I.os, I.bare, I.base, I.loc, I.cell, I.free, I.freeC, fun p hp => (List.mem_append.mp hp).elim (fun z => I.pin p (List.mem_append_left _ z)) (h p), I.hok, I.len⟩

theorem nodup_ix {N : List Str} (hN : N.Nodup) {i j : Nat} {x : Str} (a : N[i]? = some x) (b : N[j]? = some x) : i = j := by
  obtain ⟨h1, e1⟩ := List.getElem?_eq_some_iff.mp a
  obtain ⟨h2, e2⟩ := List.getElem?_eq_some_iff.mp b
  exact (List.getElem_inj hN).mp (e1.trans e2.symm)

/-- a name is stored; what changed -/
theorem store_ok2 {M : Model} {A : Around} {E : Value → Shared → Prop} {i : Nat} {x : Str} {v : V} {u : Value} {Q : Unit → Shared → Prop} (I : Inv X pins σ H s) (hN : X.N.Nodup) (hi : X.N[i]? = some x) (hx : Loc X.env.scope x) (r : RelV v u)
    (h : ∀ s', Inv X pins (σ.set i (some v)) H s' → (∃ a, Heap.SameBut a s.heap s'.heap ∧ (a = X.env.locals ∨ X.env.cells.lookup x = some a)) → Q () s') (hf : X.fn x = true ∨ X.env.scope.names.lookup x = some .local := by first | exact .inl rfl | exact .inr rfl | assumption) : wpAny M A (storeName X.env x u) Q E s := by
  obtain ⟨m, hn, hl⟩ := id I.loc
  have hcls : (X.env.scope.kind == .class || (X.env.scope.kind == .module && X.env.locals != X.env.globals)) = false := by rw [I.ok.kind]; rfl
  have hiσ : i < σ.length := by rw [I.len]; exact (List.getElem?_eq_some_iff.mp hi).1
  have cne := I.cne
  have tracked : ∀ {a : Addr} {h' : Heap}, (∃ o, s.heap.get? a = some o ∧ H a = none) → Heap.SameBut a s.heap h' → HOk X.prog X.w H h' := fun {a h'} ha hs b ob e => by
    obtain ⟨_, _, hfree⟩ := ha
    refine (I.hok b ob e).stay (fun c w' hc q => (hs.2 c ?_).trans q) (fun _ q => q) fun _ _ q => q
    rintro rfl
    rcases hc with rfl | hc
    · rw [hfree] at e; cases e
    · rw [hfree] at hc; cases hc
  rcases hx with hk | hk
  · refine wpAny_storeName_local hk hn (fun h' hn' hs => ?_) hcls
    obtain ⟨oL, _, _, hoL, _⟩ := id hn
    refine h _ ⟨I.ok, I.os, I.bare, ⟨fun b o e n hb hx => ?_, fun b o e n hb hx => ?_, I.base.free, fun b o e hx => ?_, I.base.tups, I.base.frzs, I.base.tbls⟩, ⟨_, hn', fun j y v' e1 e2 e3 => ?_⟩, fun y c e => ?_, I.free, I.freeC, fun p hp => ?_, tracked ⟨oL, hoL, I.free⟩ hs, by simpa using I.len⟩ ⟨_, hs, .inl rfl⟩
    · exact (hs.2 b (Nat.ne_of_lt (Nat.lt_of_lt_of_le (Heap.lt_size e) I.ok.above))).trans (I.base.keep b o e n hb hx)
    · obtain ⟨sl, e1⟩ := I.base.slot b o e n hb hx
      exact ⟨sl, (hs.2 b (Nat.ne_of_lt (Nat.lt_of_lt_of_le (Heap.lt_size e) I.ok.above))).trans e1⟩
    · obtain ⟨o', e1⟩ := I.base.there b o e hx
      exact ⟨o', (hs.2 b (Nat.ne_of_lt (Nat.lt_of_lt_of_le (Heap.lt_size e) I.ok.above))).trans e1⟩
    · by_cases hj : j = i
      · subst hj
        rw [hi] at e1; cases e1
        rw [List.getElem?_set_self hiσ] at e2
        cases e2
        exact ⟨u, r, .inl ⟨hk, by simp⟩⟩
      · rw [List.getElem?_set_ne (Ne.symm hj)] at e2
        obtain ⟨u', r', q⟩ := hl j y v' e1 e2 e3
        refine ⟨u', r', ?_⟩
        rcases q with ⟨k, e⟩ | ⟨k, c, e, z⟩
        · refine .inl ⟨k, ?_⟩
          have : y ≠ x := fun e => hj (nodup_ix hN e1 (e ▸ hi))
          simp [this, e]
        · exact .inr ⟨k, c, e, z.sameBut hs (cne y c e)⟩
    · obtain ⟨w', z⟩ := I.cell y c e
      exact ⟨w', z.sameBut hs (cne y c e)⟩
    · obtain ⟨e, n, ne, nf, d⟩ := I.pin p hp
      exact ⟨(hs.2 p.1 ne).trans e, n, ne, nf, d⟩
  · have hfn : X.fn x = true := by
      rcases hf with z | z
      · exact z
      · rw [z] at hk; cases hk
    obtain ⟨c, hc⟩ := I.ok.has x (.inl hk)
    obtain ⟨w', z⟩ := I.cell x c hc
    refine wpAny_storeName_cell I.ok.kind hk hc z (fun h' hc' hs => ?_)
    obtain ⟨oc, hoc, hocd⟩ := id z
    refine h { s with heap := h' } ⟨I.ok, I.os, I.bare, ⟨fun b o e n hb hx => ?_, fun b o e n hb hx => ?_, I.base.free, fun b o e hx => ?_, I.base.tups, I.base.frzs, I.base.tbls⟩, ⟨m, hn.sameBut hs (Ne.symm (cne x c hc)), fun j y v' e1 e2 e3 => ?_⟩, fun y c' e => ?_, I.free, I.freeC, fun p hp => ?_, tracked ⟨oc, hoc, I.freeC x c hc⟩ hs, by simpa using I.len⟩ ⟨c, hs, .inr hc⟩
    · exact (hs.2 b (Nat.ne_of_lt (Nat.lt_of_lt_of_le (Heap.lt_size e) (I.ok.cab x c hfn hc)))).trans (I.base.keep b o e n hb hx)
    · obtain ⟨sl, e1⟩ := I.base.slot b o e n hb hx
      exact ⟨sl, (hs.2 b (Nat.ne_of_lt (Nat.lt_of_lt_of_le (Heap.lt_size e) (I.ok.cab x c hfn hc)))).trans e1⟩
    · obtain ⟨o', e1⟩ := I.base.there b o e hx
      exact ⟨o', (hs.2 b (Nat.ne_of_lt (Nat.lt_of_lt_of_le (Heap.lt_size e) (I.ok.cab x c hfn hc)))).trans e1⟩
    · by_cases hj : j = i
      · subst hj
        rw [hi] at e1; cases e1
        rw [List.getElem?_set_self hiσ] at e2
        cases e2
        exact ⟨u, r, .inr ⟨.inl hk, c, hc, hc'⟩⟩
      · rw [List.getElem?_set_ne (Ne.symm hj)] at e2
        obtain ⟨u', r', q⟩ := hl j y v' e1 e2 e3
        refine ⟨u', r', ?_⟩
        rcases q with q | ⟨k, c', e, z'⟩
        · exact .inl q
        · refine .inr ⟨k, c', e, z'.sameBut hs ?_⟩
          rintro rfl
          exact hj (nodup_ix hN e1 (I.ok.inj _ _ _ e hc ▸ hi))
    · by_cases hcc : c' = c
      · subst hcc; exact ⟨_, hc'⟩
      · obtain ⟨w2, z2⟩ := I.cell y c' e
        exact ⟨w2, z2.sameBut hs hcc⟩
    · obtain ⟨e, n, ne, nf, d⟩ := I.pin p hp
      refine ⟨(hs.2 p.1 ?_).trans e, n, ne, nf, d⟩
      intro q
      rw [q, hoc] at e
      have q' : oc = p.2 := Option.some.inj e
      exact d w' (by rw [← q']; exact hocd)
theorem store_ok {M : Model} {A : Around} {E : Value → Shared → Prop} {i : Nat} {x : Str} {v : V} {u : Value} {Q : Unit → Shared → Prop} (I : Inv X pins σ H s) (hN : X.N.Nodup) (hi : X.N[i]? = some x) (hx : Loc X.env.scope x) (r : RelV v u)
    (h : ∀ s', Inv X pins (σ.set i (some v)) H s' → Q () s') (hf : X.fn x = true ∨ X.env.scope.names.lookup x = some .local := by first | exact .inl rfl | exact .inr rfl | assumption) : wpAny M A (storeName X.env x u) Q E s :=
  store_ok2 I hN hi hx r (fun s' I' _ => h s' I') hf
/-- behind a call or a block, the state as it is -/
theorem Inv.call' {s' : Shared} {ch : List Addr} (I : Inv X pins σ H s) (ho : s'.os = s.os) (u : Un (frs X.stack) ch H H' s.heap s'.heap) (hok : HOk X.prog X.w H' s'.heap) (hg : AllBare s'.gens)
    (hch : ∀ b ∈ ch, (b ∈ X.ex ∨ X.s_0.heap.objs.size ≤ b) ∧ b ≠ X.env.locals ∧ (∀ x c, X.env.cells.lookup x = some c → c ≠ b) ∧ ∀ p ∈ X.pn ++ pins, p.1 ≠ b) : Inv X pins σ H' s' := by
  obtain ⟨h', g', d', t', o'⟩ := s'
  have e : o' = s.os := ho
  subst e
  exact I.call (g' := g') (t' := t') (d' := d') u hok hg hch
end

/-- an exception: its class, its own dict's address (where it has one), the abstract heap behind it -/
abbrev XK := Value → Option Addr → Hp → Prop
abbrev St := List (Option V)
abbrev VK := V → Hp → Prop
/-- an expression's reading; a test's; an argument list's -/
abbrev TE := St → Hp → VK → Prop
abbrev TT := St → Hp → (Bool → Hp → Prop) → Prop
abbrev TA := St → Hp → (List V → Hp → Prop) → Prop
/-- what is wanted behind a statement -/
structure Ends where
  nx : St → Hp → Prop
  rt : VK
  bk : St → Hp → Prop := fun _ _ => False
  ct : St → Hp → Prop := fun _ _ => False
abbrev TS := Ends → St → Hp → Prop

def EP (X : Cx) (pins : List (Addr × Obj)) (σ : St) (Q : VK) (u : Value) (s' : Shared) : Prop := ∃ v H', Inv X pins σ H' s' ∧ RelV v u ∧ Q v H'
def TP (X : Cx) (pins : List (Addr × Obj)) (σ : St) (Q : Bool → Hp → Prop) (b : Bool) (s' : Shared) : Prop := ∃ H', Inv X pins σ H' s' ∧ Q b H'
def AP (X : Cx) (pins : List (Addr × Obj)) (σ : St) (Q : List V → Hp → Prop) (us : List Value) (s' : Shared) : Prop := ∃ vs H', Inv X pins σ H' s' ∧ Vals vs us ∧ Q vs H'
def SP (X : Cx) (pins : List (Addr × Obj)) (D : Ends) (f : Flow) (s' : Shared) : Prop :=
  match f with
  | .next => ∃ σ' H', Inv X pins σ' H' s' ∧ D.nx σ' H'
  | .brk => ∃ σ' H', Inv X pins σ' H' s' ∧ D.bk σ' H'
  | .cont => ∃ σ' H', Inv X pins σ' H' s' ∧ D.ct σ' H'
  | .ret u => ∃ v σ' H', Inv X pins σ' H' s' ∧ RelV v u ∧ D.rt v H'

def PE (X : Cx) (e : Expr) (t : TE) : Prop :=
  ∀ (pins : List (Addr × Obj)) (s : Shared) (σ : St) (H : Hp) (Q : VK), Inv X pins σ H s → t σ H Q → wpAny (model X.prog X.w) X.A (eval e X.env) (EP X pins σ Q) X.xe s
def PT (X : Cx) (e : Expr) (t : TT) : Prop :=
  ∀ (pins : List (Addr × Obj)) (s : Shared) (σ : St) (H : Hp) (Q : Bool → Hp → Prop), Inv X pins σ H s → t σ H Q → wpAny (model X.prog X.w) X.A (isTrue e X.env (eval e X.env)) (TP X pins σ Q) X.xe s
/-- a test whatever its 'whole' is (and, or) -/
def PW (X : Cx) (e : Expr) (t : TT) : Prop :=
  ∀ (whole : Sem Value) (pins : List (Addr × Obj)) (s : Shared) (σ : St) (H : Hp) (Q : Bool → Hp → Prop), Inv X pins σ H s → t σ H Q → wpAny (model X.prog X.w) X.A (isTrue e X.env whole) (TP X pins σ Q) X.xe s
theorem PW.pt {X : Cx} {e : Expr} {t : TT} (h : PW X e t) : PT X e t := h _
/-- an argument list (no star), from the left -/
def PA (X : Cx) (es : List Expr) (t : TA) : Prop :=
  ∀ (pos : Pos) (pins : List (Addr × Obj)) (s : Shared) (σ : St) (H : Hp) (Q : List V → Hp → Prop), Inv X pins σ H s → t σ H Q → wpAny (model X.prog X.w) X.A (spliced (backTo pos (starEach es X.env))) (AP X pins σ Q) X.xe s
def PS (X : Cx) (st : Stmt) (t : TS) : Prop :=
  ∀ (pins : List (Addr × Obj)) (s : Shared) (σ : St) (H : Hp) (D : Ends), Inv X pins σ H s → t D σ H → wpAny (model X.prog X.w) X.A (exec st X.env) (SP X pins D) X.xe s
def PSs (X : Cx) (st : List Stmt) (t : TS) : Prop :=
  ∀ (pins : List (Addr × Obj)) (s : Shared) (σ : St) (H : Hp) (D : Ends), Inv X pins σ H s → t D σ H → wpAny (model X.prog X.w) X.A (execs st X.env) (SP X pins D) X.xe s
/-- weaken the end -/
theorem thn {α : Type} {t : Sem α} {Q Q' : α → Shared → Prop} {M : Model} {A : Around} {E : Value → Shared → Prop} {s : Shared} (h : wpAny M A t Q E s) (hQ : ∀ a s, Q a s → Q' a s) : wpAny M A t Q' E s := wpAny_mono h hQ fun _ _ x => x
end L2

namespace L2
open PySem PySem.Spec PyProof.Rows
section
variable {X : Cx}

/-- two expressions in a row -/
theorem bin {a b : Expr} {ta tb : TE} (ha : PE X a ta) (hb : PE X b tb) {pins : List (Addr × Obj)} {s : Shared} {σ : St} {H : Hp} {R : V → V → Hp → Prop} (I : Inv X pins σ H s) (h : ta σ H fun x H1 => tb σ H1 fun y H2 => R x y H2)
    {α : Type} {Q : α → Shared → Prop} {f : Value → Value → Sem α}
    (hf : ∀ v u s2 x y H2, Inv X pins σ H2 s2 → RelV x v → RelV y u → R x y H2 → wpAny (model X.prog X.w) X.A (f v u) Q X.xe s2) :
    wpAny (model X.prog X.w) X.A (eval a X.env) (fun v s₁ => wpAny (model X.prog X.w) X.A (eval b X.env) (fun u s₂ => wpAny (model X.prog X.w) X.A (f v u) Q X.xe s₂) X.xe s₁) X.xe s := by
  refine thn (ha pins s σ H _ I h) fun v s1 ⟨x, H1, I1, r1, q1⟩ => ?_
  refine thn (hb pins s1 σ H1 _ I1 q1) fun u s2 ⟨y, H2, I2, r2, q2⟩ => ?_
  exact hf v u s2 x y H2 I2 r1 r2 q2

def tVar (i : Nat) : TE := fun σ H Q => ∃ v, σ[i]? = some (some v) ∧ Q v H
def tC (v : V) : TE := fun _ H Q => Q v H
theorem pe_var {i : Nat} {x : Str} {pos : Pos} (hN : X.N[i]? = some x) (hv : Vis X.env.scope x) (hd : (x == ("__debug__" : Str)) = false := by decide) (hcd : (x == ("__classdict__" : Str)) = false := by decide) : PE X (.Name x pos) (tVar i) := by
  intro pins s σ H Q I h
  obtain ⟨v, e, h⟩ := h
  obtain ⟨m, hn, hl⟩ := I.loc
  obtain ⟨u, r, l⟩ := hl i x v hN e hv
  have fin : EP X pins σ Q u s := ⟨v, H, I, r, h⟩
  rcases l with ⟨hk, hm⟩ | ⟨hk, c, hc, hcell⟩
  · exact wpAny_Name (wpAny_loadName_local I.ok.kind hk hn hm fin) hd
  · rcases hk with hk | hk
    · exact wpAny_Name (wpAny_loadName_cell I.ok.kind hk hc hcell fin) hd
    · exact wpAny_Name (wpAny_loadName_free I.ok.kind hk hc hcell fin hcd) hd
theorem pe_int {i j pos} : PE X (.Constant (.int i) j pos) (tC (.int i)) := fun _ _ _ H _ I h => wpAny_Constant_int ⟨.int i, H, I.tok _, ⟨_, rfl⟩, h⟩
theorem pe_bl {b j pos} : PE X (.Constant (.bool b) j pos) (tC (.bl b)) := fun _ _ _ H _ I h => Constant_bool ⟨.bl b, H, I, rfl, h⟩
/-- a global name of the def -/
def Gl (X : Cx) (x : Str) : Prop := X.env.kindOf x = some .globalImplicit
theorem ld_glob {E : Value → Shared → Prop} {pins : List (Addr × Obj)} {s : Shared} {σ : St} {H : Hp} {x : Str} {u : Value} {pos : Pos} {Q : Value → Shared → Prop} (I : Inv X pins σ H s) (hg : Gl X x) (hm : X.mg x = some u) (h : Q u s)
    (hd : (x == ("__debug__" : Str)) = false := by decide) : wpAny (model X.prog X.w) X.A (eval (.Name x pos) X.env) Q E s :=
  Calls.Name_function_global I.ok.kind hg (Calls.loadGlobal_global (by rw [I.ok.glob]; exact I.mod.glob.keeps I.bk) hm h) hd
theorem ld_blt {E : Value → Shared → Prop} {pins : List (Addr × Obj)} {s : Shared} {σ : St} {H : Hp} {x : Str} {u : Value} {pos : Pos} {Q : Value → Shared → Prop} (I : Inv X pins σ H s) (hg : Gl X x) (hm : X.mg x = none) (hv : bootBuiltins x = some u) (h : Q u s)
    (hn : x ≠ "__name__" := by decide) (hd : (x == ("__debug__" : Str)) = false := by decide) : wpAny (model X.prog X.w) X.A (eval (.Name x pos) X.env) Q E s := by
  obtain ⟨mb, h1, h2⟩ := I.mod.blt
  exact Calls.Name_function_global I.ok.kind hg (Calls.loadGlobal_builtin (by rw [I.ok.glob]; exact I.mod.glob.keeps I.bk) hm (by rw [I.ok.blt]; exact h1.keeps I.bk) ((h2 x hn).trans hv) h) hd
/-- a module's constant, a class, a function, as a value -/
theorem pe_glob {x : Str} {v : V} {u : Value} {pos : Pos} (hg : Gl X x) (hm : X.mg x = some u) (r : RelV v u) (hd : (x == ("__debug__" : Str)) = false := by decide) : PE X (.Name x pos) (tC v) :=
  fun _ _ _ H _ I h => ld_glob I hg hm ⟨v, H, I, r, h⟩ hd
variable {a b : Expr} {ta tb : TE} {pos : Pos}
def PC (X : Cx) (op : CmpOp) (a b : Expr) (t : TE) : Prop :=
  ∀ (pins : List (Addr × Obj)) (s : Shared) (σ : St) (H : Hp) (Q : VK), Inv X pins σ H s → t σ H Q →
    wpAny (model X.prog X.w) X.A (eval a X.env) (fun v s₁ => wpAny (model X.prog X.w) X.A (eval b X.env) (fun u s₂ => wpAny (model X.prog X.w) X.A (compareOp op v u) (EP X pins σ Q) X.xe s₂) X.xe s₁) X.xe s
theorem nobehind (b : Expr) {op : CmpOp} (h : op ≠ .In) (h2 : op ≠ .NotIn) : behindInMarks op b = false := by
  have e1 : (op == CmpOp.In) = false := by cases op <;> first | rfl | exact absurd rfl h
  have e2 : (op == CmpOp.NotIn) = false := by cases op <;> first | rfl | exact absurd rfl h2
  cases b <;> simp [behindInMarks, e1, e2]
/-- a comparison as a value, as a test -/
def tB (t : TE) : TT := fun σ H Q => t σ H fun x H1 => ∃ c, x = .bl c ∧ Q c H1
theorem pe_cmp {op : CmpOp} {t : TE} (h : PC X op a b t) (h1 : behindInMarks op b = false := by first | exact nobehind _ (by decide) (by decide) | rfl) : PE X (.Compare a [op] [b] pos) t := fun pins s σ H Q I hw => wpAny_Compare1 (h pins s σ H Q I hw) h1
theorem pt_cmp {op : CmpOp} {t : TE} (h : PC X op a b t) (h1 : behindInMarks op b = false := by first | exact nobehind _ (by decide) (by decide) | rfl) : PT X (.Compare a [op] [b] pos) (tB t) := by
  intro pins s σ H Q I hw
  refine wpAny_isTrue_Compare1 (thn (h pins s σ H _ I hw) fun v s1 h1 => thn h1 fun u s2 h2 => thn h2 fun c s3 ⟨x, H1, I1, r1, q1⟩ => ?_) h1
  obtain ⟨d, rfl, q⟩ := q1
  cases r1
  exact wpAny_truthy_bool ⟨H1, I1, q⟩
/-- an expression whose value is a bool, as a test -/
theorem pt_val {e : Expr} {t : TE} (h : PE X e t) (he : ∀ whole, isTrue e X.env whole = (do let v ← whole; standAt e.pos; holding [v] (truthy v)) := by intro _; rfl) : PT X e (tB t) := by
  intro pins s σ H Q I hw
  refine isTrue_plain (thn (h pins s σ H _ I hw) fun v s1 ⟨x, H1, I1, r1, q1⟩ => ?_) (he _)
  obtain ⟨d, rfl, q⟩ := q1
  cases r1
  exact wpAny_truthy_bool ⟨H1, I1, q⟩

variable {tA tB' : TT} {rest : List Expr}
def tAnd (t u : TT) : TT := fun σ H Q => t σ H fun c H1 => if c = true then u σ H1 Q else Q false H1
def tOr (t u : TT) : TT := fun σ H Q => t σ H fun c H1 => if c = true then Q true H1 else u σ H1 Q
def tNot (t : TT) : TT := fun σ H Q => t σ H fun c H1 => Q (!c) H1
theorem pw_and1 (ha : PT X a tA) : PW X (.BoolOp .And [a] pos) tA := by
  intro wh pins s σ H Q I h
  refine isTrue_and (thn (ha pins s σ H Q I h) fun c s1 e => ?_)
  cases c with
  | true => exact isTrue_and_nil e
  | false => exact e
theorem pw_or1 (ha : PT X a tA) : PW X (.BoolOp .Or [a] pos) tA := by
  intro wh pins s σ H Q I h
  refine isTrue_or (thn (ha pins s σ H Q I h) fun c s1 e => ?_)
  cases c with
  | false => exact isTrue_or_nil e
  | true => exact e
theorem pw_and (ha : PT X a tA) (hb : PW X (.BoolOp .And (b :: rest) pos) tB') : PW X (.BoolOp .And (a :: b :: rest) pos) (tAnd tA tB') := by
  intro wh pins s σ H Q I h
  refine isTrue_and (thn (ha pins s σ H _ I h) fun c s1 ⟨H1, I1, q1⟩ => ?_)
  cases c with
  | true => exact hb wh pins s1 σ H1 Q I1 q1
  | false => exact ⟨H1, I1, q1⟩
theorem pw_or (ha : PT X a tA) (hb : PW X (.BoolOp .Or (b :: rest) pos) tB') : PW X (.BoolOp .Or (a :: b :: rest) pos) (tOr tA tB') := by
  intro wh pins s σ H Q I h
  refine isTrue_or (thn (ha pins s σ H _ I h) fun c s1 ⟨H1, I1, q1⟩ => ?_)
  cases c with
  | true => exact ⟨H1, I1, q1⟩
  | false => exact hb wh pins s1 σ H1 Q I1 q1
theorem pt_not (ha : PT X a tA) : PT X (.UnaryOp .Not a pos) (tNot tA) := by
  intro pins s σ H Q I h
  exact isTrue_not (ha pins s σ H (fun c H1 => Q (!c) H1) I h)
/-- .. as values (bools) -/
def tAndV (ta tb : TE) : TE := fun σ H Q => ta σ H fun x H1 => ∃ c, x = .bl c ∧ if c = true then tb σ H1 Q else Q (.bl false) H1
def tOrV (ta tb : TE) : TE := fun σ H Q => ta σ H fun x H1 => ∃ c, x = .bl c ∧ if c = true then Q (.bl true) H1 else tb σ H1 Q
def tNotV (ta : TE) : TE := fun σ H Q => ta σ H fun x H1 => ∃ c, x = .bl c ∧ Q (.bl (!c)) H1
theorem pe_one {op} {t : TE} (h : PE X a t) : PE X (.BoolOp op [a] pos) t := fun pins s σ H Q I hw => BoolOp_one (h pins s σ H Q I hw)
theorem pe_and (ha : PE X a ta) (hb : PE X (.BoolOp .And (b :: rest) pos) tb) : PE X (.BoolOp .And (a :: b :: rest) pos) (tAndV ta tb) := by
  intro pins s σ H Q I h
  refine BoolOp_and (thn (ha pins s σ H _ I h) fun v s1 ⟨x, H1, I1, r1, q1⟩ => ?_)
  obtain ⟨c, rfl, q1⟩ := q1
  cases r1
  refine wpAny_truthy_bool ?_
  cases c with
  | true => exact hb pins s1 σ H1 Q I1 q1
  | false => exact ⟨.bl false, H1, I1, rfl, q1⟩
end
end L2

namespace L2
open PySem PySem.Spec PyProof.Rows

def SqL (K : PySem.W.Frag) (H : Hp) (a : Addr) (xs : List V) : Prop :=
  Rd H a (.lst xs) ∨
    ∃ (o : Obj) (its : Array Value) (n : Nat), K.lookup a = some o ∧ o.cls = .type "list" ∧ o.dict = none ∧ o.data = .seq its n ∧ its.size ≤ sizeLine ∧ Vals xs its.toList
def SqT (K : PySem.W.Frag) (H : Hp) (a : Addr) (xs : List V) : Prop :=
  Rd H a (.tup xs) ∨
    ∃ (o : Obj) (its : Array Value) (n : Nat), K.lookup a = some o ∧ o.cls = .type "tuple" ∧ o.data = .seq its n ∧ its.size ≤ sizeLine ∧ Vals xs its.toList
def absV : Value → Option V
  | .none => some .non
  | .bool b => some (.bl b)
  | .int i _ => some (.int i)
  | .str x _ => some (.str x)
  | .bytes b _ => some (.byt b)
  | .float b _ => some (.flt b)
  | .ref a => some (.ref a)
  | .type n => some (.ty n)
  | _ => none
theorem RelV.abs {x : V} {u : Value} (r : RelV x u) : absV u = some x := by
  cases x with
  | non => cases r; rfl
  | bl _ => cases r; rfl
  | int _ => obtain ⟨t, rfl⟩ := r; rfl
  | str _ => obtain ⟨t, rfl⟩ := r; rfl
  | byt _ => obtain ⟨t, rfl⟩ := r; rfl
  | flt _ => obtain ⟨t, rfl⟩ := r; rfl
  | ref _ => cases r; rfl
  | ty _ => cases r; rfl
theorem RelV.inj {x y : V} {u : Value} (r : RelV x u) (q : RelV y u) : x = y := Option.some.inj (r.abs.symm.trans q.abs)
theorem Vals.inj : ∀ {xs ys : List V} {us : List Value}, Vals xs us → Vals ys us → xs = ys
  | _, _, _, .nil, .nil => rfl
  | _, _, _, .cons r t, .cons r' t' => by rw [r.inj r', Vals.inj t t']
section
variable {X : Cx} {pins : List (Addr × Obj)} {σ : St} {H : Hp} {s : Shared} {a : Addr} {xs ys : List V}
theorem SqL.of {K : PySem.W.Frag} (h : H a = some (.lst xs)) : SqL K H a xs := .inl (.inl h)
theorem SqT.of {K : PySem.W.Frag} (h : H a = some (.tup xs)) : SqT K H a xs := .inl (.inl h)
theorem Inv.list (I : Inv X pins σ H s) (h : SqL X.K H a xs) : ∃ its : List Value, Vals xs its ∧ PlainL s.heap a its.toArray ∧ xs.length ≤ sizeLine := by
  rcases h with h | ⟨o, its, n, hk, hc, hd, hs, hz, r⟩
  · obtain ⟨z, its, n, r, e⟩ := h.ok I.hok
    exact ⟨its, r, ⟨_, n, e, rfl, rfl, rfl⟩, z⟩
  · refine ⟨its.toList, r, ⟨o, n, I.kIn a o hk, hc, hd, by simpa using hs⟩, ?_⟩
    have e := r.length
    simp only [Array.length_toList] at e
    omega
theorem Inv.tuple (I : Inv X pins σ H s) (h : SqT X.K H a xs) : ∃ its : List Value, Vals xs its ∧ IsTup s.heap a its.toArray ∧ xs.length ≤ sizeLine := by
  rcases h with h | ⟨o, its, n, hk, hc, hs, hz, r⟩
  · obtain ⟨z, its, r, p⟩ := h.ok I.hok
    exact ⟨its, r, p, z⟩
  · refine ⟨its.toList, r, ⟨o, I.kIn a o hk, hc, n, by simpa using hs⟩, ?_⟩
    have e := r.length
    simp only [Array.length_toList] at e
    omega
theorem Inv.list_inj (I : Inv X pins σ H s) (h : SqL X.K H a xs) (h' : SqL X.K H a ys) : xs = ys := by
  obtain ⟨its, r, ⟨o, n, e, _, _, d⟩, _⟩ := I.list h
  obtain ⟨its', r', ⟨o', n', e', _, _, d'⟩, _⟩ := I.list h'
  rw [e] at e'; cases e'
  rw [d] at d'
  injection d' with d1 _
  have : its = its' := by simpa using congrArg Array.toList d1
  subst this
  exact r.inj r'
end

abbrev Cx.wish (X : Cx) (E : Value → Shared → Prop) : Cx := { X with xe := E }
/-- no exception leaves -/
abbrev Cx.nox (X : Cx) : Cx := X.wish fun _ _ => False
theorem Cx.Ok.wish {X : Cx} (ok : X.Ok) (E : Value → Shared → Prop) : (X.wish E).Ok :=
  ⟨ok.mod, ok.kind, ok.glob, ok.blt, ok.above, ok.inj, ok.has, ok.cab, ok.hd, ok.frames, ok.stk, ok.exf, ok.bs, ok.bsz, ok.noex, ok.exfs, ok.funs, ok.frf⟩
theorem Cx.Ok.unwish {X : Cx} {E : Value → Shared → Prop} (ok : (X.wish E).Ok) : X.Ok :=
  ⟨ok.mod, ok.kind, ok.glob, ok.blt, ok.above, ok.inj, ok.has, ok.cab, ok.hd, ok.frames, ok.stk, ok.exf, ok.bs, ok.bsz, ok.noex, ok.exfs, ok.funs, ok.frf⟩
section
variable {X : Cx} {pins : List (Addr × Obj)} {σ : St} {H : Hp} {s : Shared} {E : Value → Shared → Prop}
theorem Inv.wish (I : Inv X pins σ H s) (E : Value → Shared → Prop) : Inv (X.wish E) pins σ H s := ⟨I.ok.wish E, I.os, I.bare, I.base, I.loc, I.cell, I.free, I.freeC, I.pin, I.hok, I.len⟩
theorem Inv.unwish (I : Inv (X.wish E) pins σ H s) : Inv X pins σ H s := ⟨I.ok.unwish, I.os, I.bare, I.base, I.loc, I.cell, I.free, I.freeC, I.pin, I.hok, I.len⟩
theorem SP.unwish {D : Ends} {f : Flow} {s' : Shared} (h : SP (X.wish E) pins D f s') : SP X pins D f s' := by
  cases f with
  | next => obtain ⟨σ', H', I, q⟩ := h; exact ⟨σ', H', I.unwish, q⟩
  | brk => obtain ⟨σ', H', I, q⟩ := h; exact ⟨σ', H', I.unwish, q⟩
  | cont => obtain ⟨σ', H', I, q⟩ := h; exact ⟨σ', H', I.unwish, q⟩
  | ret u => obtain ⟨v, σ', H', I, r, q⟩ := h; exact ⟨v, σ', H', I.unwish, r, q⟩
theorem PE.nox {e : Expr} {t : TE} (h : PE X.nox e t) : PE X e t := fun pins s σ H Q I hw =>
  wpAny_mono (h pins s σ H Q (I.wish _) hw) (fun _ _ ⟨v, H', I', r, q⟩ => ⟨v, H', I'.unwish, r, q⟩) fun _ _ z => False.elim z
theorem PT.nox {e : Expr} {t : TT} (h : PT X.nox e t) : PT X e t := fun pins s σ H Q I hw =>
  wpAny_mono (h pins s σ H Q (I.wish _) hw) (fun _ _ ⟨H', I', q⟩ => ⟨H', I'.unwish, q⟩) fun _ _ z => False.elim z
theorem PSs.nox {st : List Stmt} {t : TS} (h : PSs X.nox st t) : PSs X st t := fun pins s σ H D I hw =>
  wpAny_mono (h pins s σ H D (I.wish _) hw) (fun _ _ q => q.unwish) fun _ _ z => False.elim z
end

section
variable {X : Cx} {st : Stmt} {rest : List Stmt} {t u : TS} {e : Expr} {te : TE} {pos : Pos}
def tNext : TS := fun D σ H => D.nx σ H
def tSeq (t u : TS) : TS := fun D σ H => t { D with nx := u D } σ H
theorem pss_nil : PSs X [] tNext := fun _ _ σ H _ I h => wpAny_execs_nil ⟨σ, H, I, h⟩
theorem pss_cons (h1 : PS X st t) (h2 : PSs X rest u) : PSs X (st :: rest) (tSeq t u) := by
  intro pins s σ H D I h
  refine wpAny_execs_cons (thn (h1 pins s σ H { D with nx := u D } I h) fun f s1 q => ?_)
  cases f with
  | next =>
    obtain ⟨σ', H', I', q⟩ := q
    exact h2 pins s1 σ' H' D I' q
  | ret v => exact q
  | brk => exact q
  | cont => exact q
theorem pss_one (h1 : PS X st t) : PSs X [st] t := by
  intro pins s σ H D I h
  refine wpAny_execs_cons (thn (h1 pins s σ H D I h) fun f s1 q => ?_)
  cases f with
  | next => exact wpAny_execs_nil q
  | ret v => exact q
  | brk => exact q
  | cont => exact q
/-- in a def's body nothing is shown -/
theorem Inv.quiet {pins : List (Addr × Obj)} {σ : St} {H : Hp} {s : Shared} (I : Inv X pins σ H s) : interactive X.env = false := by simp [interactive, I.ok.kind]
/-- an expression whose value is dropped -/
def tDrop (te : TE) : TS := fun D σ H => te σ H fun _ H1 => D.nx σ H1
theorem ps_expr (he : PE X e te) (hs : swapsWith e none pos.line X.env = pure false := by rfl) : PS X (.Expr e pos) (tDrop te) := by
  intro pins s σ H D I h
  exact wpAny_Expr_any (thn (he pins s σ H _ I h) fun v s1 ⟨x, H1, I1, r1, q1⟩ => ⟨σ, H1, I1, q1⟩) I.quiet hs
def tRet (te : TE) : TS := fun D σ H => te σ H D.rt
theorem ps_ret (he : PE X e te) : PS X (.Return (some e) pos) (tRet te) := by
  intro pins s σ H D I h
  exact wpAny_Return_some (thn (he pins s σ H _ I h) fun v s1 ⟨x, H1, I1, r1, q1⟩ => ⟨x, σ, H1, I1, r1, q1⟩)
def tRetN : TS := fun D _ H => D.rt .non H
def tIfS (c : TT) (t u : TS) : TS := fun D σ H => c σ H fun b H1 => if b = true then t D σ H1 else u D σ H1
theorem ps_if {c : Expr} {a b : List Stmt} {tc : TT} (hc : PT X c tc) (ha : PSs X a t) (hb : PSs X b u) : PS X (.If c a b pos) (tIfS tc t u) := by
  intro pins s σ H D I h
  refine wpAny_If (thn (hc pins s σ H _ I h) fun d s1 ⟨H1, I1, q1⟩ => ?_)
  cases d with
  | true => exact ha pins s1 σ H1 D I1 q1
  | false => exact hb pins s1 σ H1 D I1 q1
end

abbrev TG := V → St → Hp → (St → Hp → Prop) → Prop
def PG (X : Cx) (target : Expr) (t : TG) : Prop :=
  ∀ (pins : List (Addr × Obj)) (s : Shared) (σ : St) (H : Hp) (v : V) (u : Value) (Q : St → Hp → Prop), Inv X pins σ H s → RelV v u → t v σ H Q →
    wpAny (model X.prog X.w) X.A (assign target X.env u) (fun _ s' => ∃ σ' H', Inv X pins σ' H' s' ∧ Q σ' H') X.xe s
/-- o[i] = v, by values -/
abbrev TSet := V → V → V → Hp → (Hp → Prop) → Prop
def PSet (X : Cx) (t : TSet) : Prop :=
  ∀ (pins : List (Addr × Obj)) (s : Shared) (σ : St) (H : Hp) (o i v : V) (ov iv u : Value) (Q : Hp → Prop), Inv X pins σ H s → RelV o ov → RelV i iv → RelV v u → t o i v H Q →
    wpAny (model X.prog X.w) X.A (setItem ov iv u) (fun _ s' => ∃ H', Inv X pins σ H' s' ∧ Q H') X.xe s
/-- a op= b, by values -/
abbrev TIp := V → V → Hp → VK → Prop
def PIp (X : Cx) (op : Operator) (t : TIp) : Prop :=
  ∀ (pins : List (Addr × Obj)) (s : Shared) (σ : St) (H : Hp) (x y : V) (v u : Value) (Q : VK), Inv X pins σ H s → RelV x v → RelV y u → t x y H Q →
    wpAny (model X.prog X.w) X.A (inplaceOp op v u) (EP X pins σ Q) X.xe s
section
variable {X : Cx} {pos : Pos}
def gName (i : Nat) : TG := fun v σ H Q => Q (σ.set i (some v)) H
theorem pg_name {i : Nat} {x : Str} (hN : X.N.Nodup) (hi : X.N[i]? = some x) (hx : Loc X.env.scope x) (hf : X.fn x = true ∨ X.env.scope.names.lookup x = some .local := by first | exact .inl rfl | exact .inr rfl | assumption) : PG X (.Name x pos) (gName i) := by
  intro pins s σ H v u Q I r h
  exact wpAny_assign_Name (store_ok I hN hi hx r (fun s' I' => ⟨_, H, I', h⟩) hf)
/-- target = value -/
def tAsg (te : TE) (g : TG) : TS := fun D σ H => te σ H fun x H1 => g x σ H1 D.nx
/-- name = value -/
theorem ps_set {i : Nat} {x : Str} {e : Expr} {te : TE} {pos' : Pos} (hN : X.N.Nodup) (hi : X.N[i]? = some x) (hx : Loc X.env.scope x) (he : PE X e te) (hs : swapsWith e (some (.Name x pos')) pos.line X.env = pure false := by rfl) (hf : X.fn x = true ∨ X.env.scope.names.lookup x = some .local := by first | exact .inl rfl | exact .inr rfl | assumption) :
    PS X (.Assign [.Name x pos'] e pos) (tAsg te (gName i)) := by
  intro pins s σ H D I h
  refine wpAny_Assign_Name (thn (he pins s σ H _ I h) fun v s1 ⟨y, H1, I1, r1, q1⟩ => ?_) hs
  exact store_ok I1 hN hi hx r1 (fun s2 I2 => ⟨_, H1, I2, q1⟩) hf
/-- name op= e -/
def tAug (i : Nat) (te : TE) (ti : TIp) : TS := fun D σ H => ∃ x, σ[i]? = some (some x) ∧ te σ H fun y H1 => ti x y H1 fun z H2 => D.nx (σ.set i (some z)) H2
/-- o[i] op= e -/
def tAugS (to ti te : TE) (tget : V → V → Hp → VK → Prop) (tip : TIp) (tset : TSet) : TS := fun D σ H => to σ H fun o H1 => ti σ H1 fun i H2 => tget o i H2 fun x H3 => te σ H3 fun y H4 => tip x y H4 fun z H5 => tset o i z H5 fun H6 => D.nx σ H6
/-- o[i], by values -/
def PGet (X : Cx) (t : V → V → Hp → VK → Prop) : Prop :=
  ∀ (pins : List (Addr × Obj)) (s : Shared) (σ : St) (H : Hp) (o i : V) (ov iv : Value) (Q : VK), Inv X pins σ H s → RelV o ov → RelV i iv → t o i H Q →
    wpAny (model X.prog X.w) X.A (getItem ov iv) (EP X pins σ Q) X.xe s
theorem ps_augS {o i e : Expr} {to ti te : TE} {tget : V → V → Hp → VK → Prop} {tip : TIp} {tset : TSet} {op : Operator} {tpos : Pos} (ho : PE X o to) (hi : PE X i ti) (hg : PGet X tget) (he : PE X e te) (hp : PIp X op tip) (hs : PSet X tset)
    (ha : ∀ ov iv new, augStore i ov iv new = (do holding [new, ov, iv] (setItem ov iv new); release [new, ov, iv] []; pure .next) := by intros; rfl) : PS X (.AugAssign (.Subscript o i tpos) op e pos) (tAugS to ti te tget tip tset) := by
  intro pins s σ H D I h
  refine wpAny_AugAssign_SubscriptAny (thn (ho pins s σ H _ I h) fun ov s1 ⟨x1, H1, I1, r1, q1⟩ => ?_) ha
  refine thn (hi pins s1 σ H1 _ I1 q1) fun iv s2 ⟨x2, H2, I2, r2, q2⟩ => ?_
  refine thn (hg pins s2 σ H2 x1 x2 ov iv _ I2 r1 r2 q2) fun old s3 ⟨x3, H3, I3, r3, q3⟩ => ?_
  refine thn (he pins s3 σ H3 _ I3 q3) fun v s4 ⟨x4, H4, I4, r4, q4⟩ => ?_
  refine thn (hp pins s4 σ H4 x3 x4 old v _ I4 r3 r4 q4) fun new s5 ⟨x5, H5, I5, r5, q5⟩ => ?_
  exact thn (hs pins s5 σ H5 x1 x2 x5 ov iv new _ I5 r1 r2 r5 q5) fun _ s6 ⟨H6, I6, q6⟩ => ⟨σ, H6, I6, q6⟩
/-- ints -/
def ipI (f : Int → Int → Int) : TIp := fun x y H Q => ∃ i j, x = .int i ∧ y = .int j ∧ Q (.int (f i j)) H
theorem ip_add : PIp X .Add (ipI fun i j => i + j) := by
  intro pins s σ H x y v u Q I r1 r2 h
  obtain ⟨i, j, e1, e2, q⟩ := h
  subst e1; subst e2
  obtain ⟨t, rfl⟩ := r1
  obtain ⟨t', rfl⟩ := r2
  exact iadd_int ⟨.int _, H, I.tok _, ⟨_, rfl⟩, q⟩
theorem ip_sub : PIp X .Sub (ipI fun i j => i - j) := by
  intro pins s σ H x y v u Q I r1 r2 h
  obtain ⟨i, j, e1, e2, q⟩ := h
  subst e1; subst e2
  obtain ⟨t, rfl⟩ := r1
  obtain ⟨t', rfl⟩ := r2
  exact isub_int ⟨.int _, H, I.tok _, ⟨_, rfl⟩, q⟩
end

section
variable {X : Cx} {pos : Pos}
/-- the invariant W with its measure -/
def tWhile (c : TT) (tb : TS) : TS := fun D σ H => ∃ W : Nat → St → Hp → Prop, (∃ m, W m σ H) ∧ ∀ m σ H, W m σ H →
  c σ H fun b H1 => if b = true then ∃ N : St → Hp → Prop, (∀ σ' H', N σ' H' → ∃ m', m' < m ∧ W m' σ' H') ∧ tb { D with nx := N, ct := N, bk := D.nx } σ H1 else D.nx σ H1
theorem ps_while {c : Expr} {body : List Stmt} {tc : TT} {tb : TS} (hp : PassesOwn (model X.prog X.w) X.A X.env X.xe) (hc : PT X c tc) (hb : PSs X body tb) : PS X (.While c body [] pos) (tWhile tc tb) := by
  intro pins s σ H D I h
  obtain ⟨W, ⟨m0, w0⟩, turn⟩ := h
  refine wpAny_While (codeAny_whileLoop (fun n s' => ∃ σ' H', Inv X pins σ' H' s' ∧ W n σ' H') ?_ m0 ⟨σ, H, I, w0⟩)
  rintro n s1 ⟨σ1, H1, I1, w1⟩
  refine wpAny_passesOwn hp (thn (hc pins s1 σ1 H1 _ I1 (turn n σ1 H1 w1)) fun b s2 ⟨H2, I2, q2⟩ => ?_)
  cases b with
  | true =>
    obtain ⟨N, hN, q2⟩ := q2
    rw [if_pos rfl]
    refine wpAny_passesOwn hp (thn (hb pins s2 σ1 H2 _ I2 q2) fun f s3 q3 => ?_)
    cases f with
    | next =>
      obtain ⟨σ3, H3, I3, n3⟩ := q3
      obtain ⟨m', hm, w3⟩ := hN σ3 H3 n3
      exact ⟨m', hm, σ3, H3, I3, w3⟩
    | cont =>
      obtain ⟨σ3, H3, I3, n3⟩ := q3
      obtain ⟨m', hm, w3⟩ := hN σ3 H3 n3
      exact ⟨m', hm, σ3, H3, I3, w3⟩
    | brk => exact q3
    | ret v => exact q3
  | false =>
    rw [if_neg Bool.false_ne_true]
    exact wpAny_execs_nil ⟨σ1, H2, I2, q2⟩
end

/-- at turn i: it yields x (the heap may grow), or it stops -/
structure It where
  go : Nat → Hp → Prop
  yld : Nat → Hp → V → Hp → Prop
  stop : Nat → Hp → Prop
/-- the iterator's own objects may turn: they are not the frame's, not pinned, younger than the entry (or a comprehension's own) -/
def FpOk (X : Cx) (pins : List (Addr × Obj)) (H : Hp) (b : Addr) : Prop :=
  H b = none ∧ b ≠ X.env.locals ∧ b ∉ X.fs ∧ (b ∈ X.ex ∨ X.s_0.heap.objs.size ≤ b) ∧ (∀ x c, X.env.cells.lookup x = some c → c ≠ b) ∧ ∀ p ∈ X.pn ++ pins, p.1 ≠ b
theorem Inv.fpOk {X : Cx} {pins : List (Addr × Obj)} {σ : St} {H H' : Hp} {s : Shared} {b : Addr} (I : Inv X pins σ H s) (hb : s.heap.objs.size ≤ b) (hn : H' b = none) : FpOk X pins H' b := by
  refine ⟨hn, Nat.ne_of_gt (Nat.lt_of_lt_of_le I.lt hb), I.nofs hb, .inr (Nat.le_trans I.sz hb), fun x c e z => ?_, fun p hp z => ?_⟩
  · obtain ⟨v, q⟩ := I.cell x c e
    exact absurd (Nat.lt_of_lt_of_le q.lt (by rw [z]; exact hb)) (Nat.lt_irrefl _)
  · exact absurd (Nat.lt_of_lt_of_le (Heap.lt_size (I.pin p hp).1) (by rw [z]; exact hb)) (Nat.lt_irrefl _)
structure Turn (P : Program) (w : World) (K : PySem.W.Frag) (tg : Expr) (J : It) (fp : List Addr) (it : Addr) (tn : Nat → Heap → Prop) : Prop where
  mem : it ∈ fp
  obj : ∀ i h, tn i h → ∀ b ∈ fp, ∃ o, h.get? b = some o ∧ ∀ v, o.data ≠ .cell v
  keep : ∀ i h h', tn i h → (∀ b ∈ fp, ∀ o, h.get? b = some o → h'.get? b = some o) → tn i h'
  item : ∀ (X : Cx), X.prog = P → X.w = w → X.K = K → X.calm = true → ∀ (i : Nat) (pins : List (Addr × Obj)) (s : Shared) (σ : St) (H : Hp) (E : Value → Shared → Prop), Inv X pins σ H s → (∀ b ∈ fp, FpOk X pins H b) → tn i s.heap → J.go i H →
    wpAny (model P w) X.A (pyNext (.ref it)) (fun r s1 => ∃ u, r = some u ∧
      wpAny (model P w) X.A (letOwnedTupleGo tg (.ref it) u) (fun _ s2 => ∃ x H', Inv X pins σ H' s2 ∧ RelV x u ∧ J.yld i H x H' ∧ tn (i + 1) s2.heap ∧ ∀ b ∈ fp, H' b = none) E s1) E s
  done : ∀ (X : Cx), X.prog = P → X.w = w → X.K = K → X.calm = true → ∀ (i : Nat) (pins : List (Addr × Obj)) (s : Shared) (σ : St) (H : Hp) (E : Value → Shared → Prop), Inv X pins σ H s → (∀ b ∈ fp, FpOk X pins H b) → tn i s.heap → J.stop i H →
    wpAny (model P w) X.A (pyNext (.ref it)) (fun r s1 => r = none ∧ Inv X pins σ H s1) E s
  self : ∀ (A : Around) (i : Nat) (s : Shared) (Q : Value → Shared → Prop) (E : Value → Shared → Prop), tn i s.heap → Q (.ref it) s → wpAny (model P w) A (pyIter (.ref it)) Q E s
abbrev TI := St → Hp → (It → Hp → Prop) → Prop
/-- an iterator has come -/
def PIE (X : Cx) (pins : List (Addr × Obj)) (σ : St) (tg : Expr) (R : It → Hp → Prop) (itv : Value) (s2 : Shared) : Prop :=
  ∃ (it : Addr) (fp : List Addr) (tn : Nat → Heap → Prop) (J : It) (H' : Hp), itv = .ref it ∧ Inv X pins σ H' s2 ∧ Turn X.prog X.w X.K tg J fp it tn ∧ tn 0 s2.heap ∧ (∀ b ∈ fp, FpOk X pins H' b) ∧ R J H'
def PI (X : Cx) (tg iter : Expr) (wi : TI) : Prop :=
  ∀ (pins : List (Addr × Obj)) (s : Shared) (σ : St) (H : Hp) (R : It → Hp → Prop), Inv X pins σ H s → wi σ H R →
    wpAny (model X.prog X.w) X.A (eval iter X.env) (fun v s1 => wpAny (model X.prog X.w) X.A (pyIter v) (PIE X pins σ tg R) X.xe s1) X.xe s

/-- the step ahead of the store is nothing for an iterator that keeps no tuple -/
theorem go_of {M : Model} {A : Around} {E : Value → Shared → Prop} {s : Shared} {tg : Expr} {it : Addr} {u : Value} {o : Obj} {n : String} {vs : Array Value} {Q : Unit → Shared → Prop} (ho : s.heap.get? it = some o) (hc : o.cls = .type n) (hd : o.data = .fields vs)
    (hn : ["enumerate", "zip", "dict_itemiterator", "dict_reverseitemiterator", "odict_iterator", "itertools.zip_longest", "itertools.pairwise"].contains n = false) (hQ : Q () s) : wpAny M A (letOwnedTupleGo tg (.ref it) u) Q E s := by
  unfold letOwnedTupleGo
  cases tg <;> first
    | exact wpAny_pure hQ
    | (cases u <;> first
        | exact wpAny_pure hQ
        | (refine wpAny_bind (wpAny_load ho ?_)
           rw [hc, hd]
           show wpAny M A (if (["enumerate", "zip", "dict_itemiterator", "dict_reverseitemiterator", "odict_iterator", "itertools.zip_longest", "itertools.pairwise"].contains n && vs[0]? == some (rawInt _)) = true then _ else _) Q E s
           rw [if_neg (by intro h; rw [hn, Bool.false_and] at h; cases h)]
           exact wpAny_pure hQ))

/-- the list at a, as it stands at each turn (a loop may append to it) -/
def Itl (K : PySem.W.Frag) (a : Addr) : It :=
  ⟨fun i H => ∃ xs x, SqL K H a xs ∧ xs[i]? = some x, fun i H x H' => H' = H ∧ ∀ xs, SqL K H a xs → xs[i]? = some x, fun i H => ∃ xs, SqL K H a xs ∧ xs.length ≤ i⟩
/-- lo, lo + 1, .. (n of them) -/
def Itr (lo : Int) (n : Nat) : It := ⟨fun i _ => i < n, fun i H x H' => H' = H ∧ x = .int (lo + i), fun i _ => n ≤ i⟩
theorem turn_list {P : Program} {w : World} {K : PySem.W.Frag} {tg : Expr} (a it : Addr) : Turn P w K tg (Itl K a) [it] it (fun i h => h.IsListIter it a i) where
  mem := by simp
  obj := fun i h st b hb => by
    have e : b = it := by simpa using hb
    subst e
    obtain ⟨o, e, c, d⟩ := st
    exact ⟨o, e, fun v z => by rw [d] at z; cases z⟩
  keep := fun i h h' st k => st.at fun o e => k it (by simp) o e
  item := by
    intro X hP hw hK hc i pins s σ H E I hf st hg
    subst hP hw hK
    obtain ⟨xs, x, hq, hx⟩ := hg
    obtain ⟨its, rv, p, hz⟩ := I.list hq
    obtain ⟨u, hu, ru⟩ := rv.get hx
    obtain ⟨f0, f1, f2, f3, f4, f5⟩ := hf it (by simp)
    refine wpAny_pyNext_list_item st p.isList (x := u) (by simpa using hu) fun h' st' sb => ?_
    have I1 : Inv X pins σ H { s with heap := h' } := I.turned (t' := s.toks) (fun b o hb e => (sb.2 b hb).trans e) f0 f1 f3 f4 f5
    obtain ⟨o, e, c, d⟩ := id st'
    exact ⟨u, rfl, go_of (s := { s with heap := h' }) e c d (by decide) ⟨x, H, I1, ru, ⟨rfl, fun ys hy => by rw [I.list_inj hy hq]; exact hx⟩, st', fun b hb => (hf b hb).1⟩⟩
  done := by
    intro X hP hw hK hc i pins s σ H E I hf st hg
    subst hP hw hK
    obtain ⟨xs, hq, hx⟩ := hg
    obtain ⟨its, rv, p, hz⟩ := I.list hq
    obtain ⟨f0, f1, f2, f3, f4, f5⟩ := hf it (by simp)
    have hl := rv.length
    exact wpAny_pyNext_list_end (I.ok.hd hc) st p.isList (by simp; omega) fun h' eb => ⟨rfl, I.turned (t' := s.toks) (fun b o hb e => eb b o hb e) f0 f1 f3 f4 f5⟩
  self := fun _ _ _ _ _ st h => wpAny_pyIter_listiter st h
theorem turn_range {P : Program} {w : World} {K : PySem.W.Frag} {tg : Expr} (it : Addr) (lo : Int) (n : Nat) : Turn P w K tg (Itr lo n) [it] it (fun i h => IsRangeIter h it (lo + (i : Nat) * 1) ((n : Int) - (i : Nat)) 1) where
  mem := by simp
  obj := fun i h st b hb => by
    have e : b = it := by simpa using hb
    subst e
    exact ⟨_, st, fun v z => by
      have z' : Data.fields _ = Data.cell v := z
      cases z'⟩
  keep := fun i h h' st k => k it (by simp) _ st
  item := by
    intro X hP hw hK hc i pins s σ H E I hf st hg
    subst hP hw hK
    obtain ⟨f0, f1, f2, f3, f4, f5⟩ := hf it (by simp)
    have W := Walks.range (prog := X.prog) (w := X.w) (I.ok.hd hc) it lo 1 n
    refine W.item i s _ _ hg st fun v h' tk hv st' kk => ?_
    obtain ⟨t, rfl⟩ := hv
    have I1 : Inv X pins σ H { s with heap := h', toks := tk } := I.turned (fun b o hb e => kk b o (by simpa using hb) e) f0 f1 f3 f4 f5
    refine ⟨_, rfl, go_of (s := { s with heap := h', toks := tk }) (n := "range_iterator") st' rfl rfl (by decide) ⟨.int (lo + i), H, I1, ⟨t, ?_⟩, ⟨rfl, rfl⟩, st', fun b hb => (hf b hb).1⟩⟩
    rw [Int.mul_one]
  done := by
    intro X hP hw hK hc i pins s σ H E I hf st hg
    subst hP hw hK
    obtain ⟨f0, f1, f2, f3, f4, f5⟩ := hf it (by simp)
    exact wpAny_pyNext_range_end (I.ok.hd hc) st (by have : n ≤ i := hg; omega) fun h' eb => ⟨rfl, I.turned (t' := s.toks) (fun b o hb e => eb b o hb e) f0 f1 f3 f4 f5⟩
  self := fun _ _ _ _ _ st h => wpAny_pyIter_rangeiter st h
end L2

namespace L2
open PySem PySem.Spec PyProof.Rows
section
variable {X : Cx} {tg : Expr}
def iList (K : PySem.W.Frag) (tl : TE) : TI := fun σ H R => tl σ H fun x H1 => ∃ a, x = .ref a ∧ (∃ xs, SqL K H1 a xs) ∧ R (Itl K a) H1
theorem pi_list {l : Expr} {tl : TE} (hl : PE X l tl) : PI X tg l (iList X.K tl) := by
  intro pins s σ H R I h
  refine thn (hl pins s σ H _ I h) fun v s1 ⟨x, H1, I1, r1, q1⟩ => ?_
  obtain ⟨a, e, ⟨xs, hq⟩, q⟩ := q1
  subst e
  cases r1
  obtain ⟨its, rv, p, hz⟩ := I1.list hq
  refine wpAny_pyIter_list p.isList ?_
  refine ⟨s1.heap.objs.size, [s1.heap.objs.size], _, _, H1, rfl, I1.kept (t' := s1.toks) fun b o e => Heap.get?_push_of_some _ e, turn_list a _, ⟨_, Heap.get?_push_size _ rfl, rfl, rfl⟩, fun b hb => ?_, q⟩
  have e : b = s1.heap.objs.size := by simpa using hb
  subst e
  exact I1.fpOk (Nat.le_refl _) (I1.hok.fresh (Nat.le_refl _))
/-- a range object just made, walked -/
theorem range_it {pins : List (Addr × Obj)} {σ : St} {H : Hp} {s : Shared} {R : It → Hp → Prop} {E : Value → Shared → Prop} {lo hi : Int} {t u v : Tok} {tk : Nat} (I : Inv X pins σ H s) (h1 : -(2 ^ 62) ≤ lo) (h2 : lo < 2 ^ 62) (h3 : -(2 ^ 62) ≤ hi) (h4 : hi < 2 ^ 62)
    (q : R (Itr lo (hi - lo).toNat) H) : wpAny (model X.prog X.w) X.A (pyIter (.ref s.heap.objs.size)) (PIE X pins σ tg R) E { s with heap := s.heap.push { cls := .type "range", data := .fields #[.int lo t, .int hi u, .int 1 v] }, toks := tk } := by
  refine wpAny_pyIter_range (IsRange.new ..) (small_one h1 h2 h3 h4) ?_
  have I1 : Inv X pins σ H { s with heap := s.heap.push { cls := .type "range", data := .fields #[.int lo t, .int hi u, .int 1 v] }, toks := tk } := I.kept fun b o e => Heap.get?_push_of_some _ e
  refine ⟨(s.heap.push { cls := .type "range", data := .fields #[.int lo t, .int hi u, .int 1 v] }).objs.size, [(s.heap.push { cls := .type "range", data := .fields #[.int lo t, .int hi u, .int 1 v] }).objs.size], _, _, H, rfl,
    I1.kept (t' := tk) fun b o e => Heap.get?_push_of_some _ e, turn_range _ lo (hi - lo).toNat, ?_, fun b hb => ?_, q⟩
  · have e1 : lo + ((0 : Nat) : Int) * 1 = lo := by simp
    have e2 : (((hi - lo).toNat : Nat) : Int) - ((0 : Nat) : Int) = Builtin.Range.rangeSize lo hi 1 := by rw [rangeSize_one]; split <;> omega
    show IsRangeIter _ _ (lo + ((0 : Nat) : Int) * 1) ((((hi - lo).toNat : Nat) : Int) - ((0 : Nat) : Int)) 1
    rw [e1, e2]
    exact Heap.get?_push_size _ rfl
  · have e : b = (s.heap.push { cls := .type "range", data := .fields #[.int lo t, .int hi u, .int 1 v] }).objs.size := by simpa using hb
    subst e
    exact I1.fpOk (Nat.le_refl _) (I1.hok.fresh (Nat.le_refl _))
def iRng1 (ta : TA) : TI := fun σ H R => ta σ H fun vs H1 => ∃ j : Int, vs = [.int j] ∧ -(2 ^ 62) ≤ j ∧ j < 2 ^ 62 ∧ R (Itr 0 j.toNat) H1
theorem pi_range1 {a : Expr} {ta : TA} {p pos : Pos} (hg : Gl X "range") (hm : X.mg "range" = none) (ha : PA X [a] ta) (hs : starEach [a] X.env = [(false, eval a X.env)] := by rfl) : PI X tg (.Call (.Name "range" p) [a] [] pos) (iRng1 ta) := by
  intro pins s σ H R I h
  refine Call_ (ld_blt I hg hm boot_range (PyProof.Rows.callWith_type1 (thn (ha pos pins s σ H _ I h) fun us s1 ⟨vs, H1, I1, r1, q1⟩ => ?_) hs rfl))
  obtain ⟨j, e, q1, q2, q⟩ := q1
  subst e
  cases r1 with
  | cons r rr =>
    cases rr
    obtain ⟨t, rfl⟩ := r
    exact call_range_1 (range_it I1 (by omega) (by omega) q1 q2 (by simpa using q))
/-- W: the invariant by the turn and a measure; N: what the body is to reach -/
def tFor (wi : TI) (g : TG) (tb : TS) : TS := fun D σ H => wi σ H fun J H1 => ∃ W : Nat → Nat → St → Hp → Prop, (∃ m, W 0 m σ H1) ∧ ∀ i m σ H, W i m σ H →
  (J.stop i H ∧ D.nx σ H) ∨ (J.go i H ∧ ∃ N : St → Hp → Prop, (∀ σ' H', N σ' H' → ∃ m', m' < m ∧ W (i + 1) m' σ' H') ∧ ∀ x H', J.yld i H x H' → g x σ H' fun σ2 H2 => tb { D with nx := N, ct := N, bk := D.nx } σ2 H2)
/-- the records at fp as they stand -/
def pinsAt (fp : List Addr) (h : Heap) : List (Addr × Obj) := fp.filterMap fun b => (h.get? b).map fun o => (b, o)
theorem mem_pinsAt {fp : List Addr} {h : Heap} {b : Addr} {o : Obj} (hb : b ∈ fp) (e : h.get? b = some o) : (b, o) ∈ pinsAt fp h := List.mem_filterMap.mpr ⟨b, hb, by rw [e]; rfl⟩
theorem of_pinsAt {fp : List Addr} {h : Heap} {p : Addr × Obj} (hp : p ∈ pinsAt fp h) : p.1 ∈ fp ∧ h.get? p.1 = some p.2 := by
  obtain ⟨b, hb, e⟩ := List.mem_filterMap.mp hp
  cases q : h.get? b with
  | none => rw [q] at e; cases e
  | some o =>
    rw [q] at e
    have e' : (b, o) = p := Option.some.inj e
    subst e'
    exact ⟨hb, q⟩
theorem Inv.pinned {pins : List (Addr × Obj)} {σ : St} {H : Hp} {s : Shared} {fp : List Addr} (I : Inv X pins σ H s) (hf : ∀ b ∈ fp, FpOk X pins H b) (ho : ∀ b ∈ fp, ∃ o, s.heap.get? b = some o ∧ ∀ v, o.data ≠ .cell v) : Inv X (pins ++ pinsAt fp s.heap) σ H s :=
  I.pins_of fun p hp => (List.mem_append.mp hp).elim (fun z => I.pin p (List.mem_append_right _ z)) fun z => by
    obtain ⟨hb, e⟩ := of_pinsAt z
    obtain ⟨f0, f1, f2, _⟩ := hf p.1 hb
    obtain ⟨o, e', d⟩ := ho p.1 hb
    rw [e] at e'; cases e'
    exact ⟨e, f0, f1, f2, d⟩
theorem Inv.unpinned {pins pl : List (Addr × Obj)} {σ : St} {H : Hp} {s : Shared} (I : Inv X (pins ++ pl) σ H s) : Inv X pins σ H s := I.pins_of fun p hp => I.pin p (List.mem_append_right _ (List.mem_append_left _ hp))
theorem ps_for {iter : Expr} {body : List Stmt} {wi : TI} {g : TG} {tb : TS} {pos : Pos} (hp : PassesOwn (model X.prog X.w) X.A X.env X.xe) (hc : X.calm = true) (hi : PI X tg iter wi) (hg : PG X tg g) (hb : PSs X body tb)
    (hs : ∀ x, foldedSetIterable iter X.env x = pure x := by intro _; rfl) : PS X (.For tg iter body [] pos) (tFor wi g tb) := by
  intro pins s σ H D I h
  refine wpAny_For (thn (hi pins s σ H _ I h) fun v s1 h1 => thn h1 fun itv s2 h2 => ?_) hs
  obtain ⟨it, fp, tn, J, H2, e, I2, T, st2, f2, W, ⟨m0, w0⟩, turn⟩ := h2
  subst e
  -- what stays true of the iterator's objects through the loop
  have stat : ∀ {H' : Hp}, (∀ b ∈ fp, H' b = none) → ∀ b ∈ fp, FpOk X pins H' b := fun hn b hb => ⟨hn b hb, (f2 b hb).2⟩
  refine codeAny_forLoop_any (fun n s' => ∃ i σ' H', Inv X pins σ' H' s' ∧ tn i s'.heap ∧ (∀ b ∈ fp, H' b = none) ∧ W i n σ' H') ?_ m0 ⟨0, σ, H2, I2, st2, fun b hb => (f2 b hb).1, w0⟩
  rintro n s3 ⟨i, σ3, H3, I3, st3, fr3, w3⟩
  rcases turn i n σ3 H3 w3 with ⟨stop, qn⟩ | ⟨go, N, hN, step⟩
  · refine wpAny_passesOwn hp (thn (T.done X rfl rfl rfl hc i pins s3 σ3 H3 X.xe I3 (stat fr3) st3 stop) fun r s4 ⟨hr, I4⟩ => ?_)
    subst hr
    exact wpAny_execs_nil ⟨σ3, H3, I4, qn⟩
  · refine wpAny_passesOwn hp (thn (T.item X rfl rfl rfl hc i pins s3 σ3 H3 X.xe I3 (stat fr3) st3 go) fun r s4 ⟨u, hr, h4⟩ => ?_)
    subst hr
    refine wpAny_passesOwn hp (thn h4 fun _ s5 ⟨x, H5, I5, r5, y5, st5, fr5⟩ => ?_)
    have I5' := I5.pinned (stat fr5) (T.obj _ _ st5)
    refine wpAny_passesOwn hp (thn (hg _ s5 σ3 H5 x u _ I5' r5 (step x H5 y5)) fun _ s6 ⟨σ6, H6, I6, q6⟩ => ?_)
    refine wpAny_passesOwn hp (thn (hb _ s6 σ6 H6 _ I6 q6) fun f s7 q7 => ?_)
    have again : ∀ {σ7 : St} {H7 : Hp}, Inv X (pins ++ pinsAt fp s5.heap) σ7 H7 s7 → N σ7 H7 → ∃ m, m < n ∧ ∃ i σ' H', Inv X pins σ' H' s7 ∧ tn i s7.heap ∧ (∀ b ∈ fp, H' b = none) ∧ W i m σ' H' := fun {σ7 H7} I7 n7 => by
      obtain ⟨m', hm, w7⟩ := hN σ7 H7 n7
      refine ⟨m', hm, i + 1, σ7, H7, I7.unpinned, T.keep _ _ _ st5 fun b hb o e => (I7.pin (b, o) (List.mem_append_right _ (List.mem_append_right _ (mem_pinsAt hb e)))).1, fun b hb => ?_, w7⟩
      obtain ⟨o, e, d⟩ := T.obj _ _ st5 b hb
      exact (I7.pin (b, o) (List.mem_append_right _ (List.mem_append_right _ (mem_pinsAt hb e)))).2.1
    cases f with
    | next => obtain ⟨σ7, H7, I7, n7⟩ := q7; exact again I7 n7
    | cont => obtain ⟨σ7, H7, I7, n7⟩ := q7; exact again I7 n7
    | brk => obtain ⟨σ7, H7, I7, q7⟩ := q7; exact ⟨σ7, H7, I7.unpinned, q7⟩
    | ret v => obtain ⟨x7, σ7, H7, I7, r7, q7⟩ := q7; exact ⟨x7, σ7, H7, I7.unpinned, r7, q7⟩
end

/-- over a list that the body leaves as it is -/
theorem for_list {K : PySem.W.Frag} {a : Addr} {xs : List V} {g : TG} {tb : TS} {D : Ends} {σ : St} {H : Hp} (Pv : Nat → St → Hp → Prop) (h0 : Pv 0 σ H) (hl : ∀ i σ H, i ≤ xs.length → Pv i σ H → SqL K H a xs)
    (hs : ∀ i x σ H, xs[i]? = some x → Pv i σ H → g x σ H fun σ2 H2 => tb { D with nx := Pv (i + 1), ct := Pv (i + 1), bk := D.nx } σ2 H2) (hd : ∀ σ H, Pv xs.length σ H → D.nx σ H) :
    ∃ W : Nat → Nat → St → Hp → Prop, (∃ m, W 0 m σ H) ∧ ∀ i m σ H, W i m σ H →
      ((Itl K a).stop i H ∧ D.nx σ H) ∨ ((Itl K a).go i H ∧ ∃ N : St → Hp → Prop, (∀ σ' H', N σ' H' → ∃ m', m' < m ∧ W (i + 1) m' σ' H') ∧ ∀ x H', (Itl K a).yld i H x H' → g x σ H' fun σ2 H2 => tb { D with nx := N, ct := N, bk := D.nx } σ2 H2) := by
  refine ⟨fun i m σ H => m = xs.length - i ∧ i ≤ xs.length ∧ Pv i σ H, ⟨xs.length, by simp, Nat.zero_le _, h0⟩, ?_⟩
  rintro i m σ H ⟨rfl, hi, p⟩
  have q := hl i σ H hi p
  by_cases hlt : i < xs.length
  · refine .inr ⟨⟨xs, xs[i], q, by simp [hlt]⟩, Pv (i + 1), fun σ' H' p' => ⟨xs.length - (i + 1), by omega, rfl, hlt, p'⟩, fun x H' y => ?_⟩
    obtain ⟨e, y⟩ := y
    subst e
    exact hs i x σ _ (y xs q) p
  · have e : i = xs.length := by omega
    subst e
    exact .inl ⟨⟨xs, q, Nat.le_refl _⟩, hd σ H p⟩
theorem for_range {lo : Int} {n : Nat} {g : TG} {tb : TS} {D : Ends} {σ : St} {H : Hp} (Pv : Nat → St → Hp → Prop) (h0 : Pv 0 σ H)
    (hs : ∀ i σ H, i < n → Pv i σ H → g (.int (lo + i)) σ H fun σ2 H2 => tb { D with nx := Pv (i + 1), ct := Pv (i + 1), bk := D.nx } σ2 H2) (hd : ∀ σ H, Pv n σ H → D.nx σ H) :
    ∃ W : Nat → Nat → St → Hp → Prop, (∃ m, W 0 m σ H) ∧ ∀ i m σ H, W i m σ H →
      ((Itr lo n).stop i H ∧ D.nx σ H) ∨ ((Itr lo n).go i H ∧ ∃ N : St → Hp → Prop, (∀ σ' H', N σ' H' → ∃ m', m' < m ∧ W (i + 1) m' σ' H') ∧ ∀ x H', (Itr lo n).yld i H x H' → g x σ H' fun σ2 H2 => tb { D with nx := N, ct := N, bk := D.nx } σ2 H2) := by
  refine ⟨fun i m σ H => m = n - i ∧ i ≤ n ∧ Pv i σ H, ⟨n, by simp, Nat.zero_le _, h0⟩, ?_⟩
  rintro i m σ H ⟨rfl, hi, p⟩
  by_cases hlt : i < n
  · refine .inr ⟨hlt, Pv (i + 1), fun σ' H' p' => ⟨n - (i + 1), by omega, rfl, hlt, p'⟩, fun x H' y => ?_⟩
    obtain ⟨e, y⟩ := y
    subst e y
    exact hs i σ _ hlt p
  · have e : i = n := by omega
    subst e
    exact .inl ⟨Nat.le_refl _, hd σ H p⟩
/-- while, by a word and a measure of the state -/
theorem while_by {c : TT} {tb : TS} {D : Ends} {σ : St} {H : Hp} (Pv : St → Hp → Prop) (μ : St → Hp → Nat) (h0 : Pv σ H)
    (hs : ∀ σ H, Pv σ H → c σ H fun b H1 => if b = true then tb { D with nx := fun σ' H' => Pv σ' H' ∧ μ σ' H' < μ σ H, ct := fun σ' H' => Pv σ' H' ∧ μ σ' H' < μ σ H, bk := D.nx } σ H1 else D.nx σ H1)
    (mono : ∀ σ H Q Q', (∀ b H1, Q b H1 → Q' b H1) → c σ H Q → c σ H Q') : tWhile c tb D σ H := by
  refine ⟨fun m σ H => m = μ σ H ∧ Pv σ H, ⟨_, rfl, h0⟩, ?_⟩
  rintro m σ H ⟨rfl, p⟩
  refine mono σ H _ _ (fun b H1 q => ?_) (hs σ H p)
  cases b with
  | true => exact ⟨_, fun σ' H' ⟨p', l⟩ => ⟨_, l, rfl, p'⟩, q⟩
  | false => exact q
end L2

namespace L2
open PySem PySem.Spec PyProof.Rows

abbrev R2 := V → V → Hp → VK → Prop
/-- a two-place operation on values: f is binaryOp op, inplaceOp op or compareOp op -/
def OpR (X : Cx) (f : Value → Value → Sem Value) (r : R2) : Prop :=
  ∀ (pins : List (Addr × Obj)) (s : Shared) (σ : St) (H : Hp) (x y : V) (v u : Value) (Q : VK), Inv X pins σ H s → RelV x v → RelV y u → r x y H Q →
    wpAny (model X.prog X.w) X.A (f v u) (EP X pins σ Q) X.xe s
/-- a one-place operation -/
def UnR (X : Cx) (f : Value → Sem Value) (r : V → Hp → VK → Prop) : Prop :=
  ∀ (pins : List (Addr × Obj)) (s : Shared) (σ : St) (H : Hp) (x : V) (v : Value) (Q : VK), Inv X pins σ H s → RelV x v → r x H Q →
    wpAny (model X.prog X.w) X.A (f v) (EP X pins σ Q) X.xe s
/-- a call of a value that is known (a builtin, a type) with values -/
def CallR (X : Cx) (f : Value) (r : List V → Hp → VK → Prop) : Prop :=
  ∀ (pins : List (Addr × Obj)) (s : Shared) (σ : St) (H : Hp) (xs : List V) (us : List Value) (Q : VK), Inv X pins σ H s → Vals xs us → r xs H Q →
    wpAny (model X.prog X.w) X.A (call f us) (EP X pins σ Q) X.xe s
def tOp (r : R2) (ta tb : TE) : TE := fun σ H Q => ta σ H fun x H1 => tb σ H1 fun y H2 => r x y H2 Q
def tUn (r : V → Hp → VK → Prop) (ta : TE) : TE := fun σ H Q => ta σ H fun x H1 => r x H1 Q
/-- ints in, under C, and a value out -/
def rI (C : Int → Int → Prop) (g : Int → Int → V) : R2 := fun x y H Q => ∃ i j, x = .int i ∧ y = .int j ∧ C i j ∧ Q (g i j) H
def rI0 (g : Int → Int → V) : R2 := fun x y H Q => ∃ i j, x = .int i ∧ y = .int j ∧ Q (g i j) H
def rU (g : Int → V) : V → Hp → VK → Prop := fun x H Q => ∃ i, x = .int i ∧ Q (g i) H

section
variable {X : Cx} {a b c : Expr} {ta tb tc : TE} {pos : Pos}

theorem binT (ha : PE X a ta) (hb : PE X b tb) {pins : List (Addr × Obj)} {s : Shared} {σ : St} {H : Hp} {R : V → V → Hp → Prop} (I : Inv X pins σ H s)
    (h : ta σ H fun x H1 => tb σ H1 fun y H2 => R x y H2) {Q : Value → Shared → Prop} {f : Value → Value → Sem Value}
    (hf : ∀ v u s2 x y H2, Inv X pins σ H2 s2 → RelV x v → RelV y u → R x y H2 → wpAny (model X.prog X.w) X.A (f v u) Q X.xe s2) :
    wpAny (model X.prog X.w) X.A (eval a X.env) (fun v s₁ => wpAny (model X.prog X.w) X.A (eval b X.env) (fun u s₂ => wpAny (model X.prog X.w) X.A (f v u) Q X.xe s₂) X.xe s₁) X.xe s := by
  refine thn (ha pins s σ H _ I h) fun v s1 ⟨x, H1, I1, r1, q1⟩ => ?_
  refine thn (hb pins s1 σ H1 _ I1 q1) fun u s2 ⟨y, H2, I2, r2, q2⟩ => ?_
  exact hf v u s2 x y H2 I2 r1 r2 q2

theorem pe_op {op : Operator} {r : R2} (ho : OpR X (binaryOp op) r) (ha : PE X a ta) (hb : PE X b tb) : PE X (.BinOp a op b pos) (tOp r ta tb) := by
  intro pins s σ H Q I h
  exact wpAny_BinOp (binT ha hb I h fun v u s2 x y H2 I2 rx ry q => ho pins s2 σ H2 x y v u Q I2 rx ry q)
theorem pe_un {op : UnaryOp} {r : V → Hp → VK → Prop} (ho : UnR X (unaryOp op) r) (ha : PE X a ta) : PE X (.UnaryOp op a pos) (tUn r ta) := by
  intro pins s σ H Q I h
  exact UnaryOp_ (thn (ha pins s σ H _ I h) fun v s1 ⟨x, H1, I1, r1, q1⟩ => ho pins s1 σ H1 x v Q I1 r1 q1)
theorem opI {f : Value → Value → Sem Value} {C : Int → Int → Prop} {g : Int → Int → Int}
    (rule : ∀ (i j : Int) (t u : Tok) (s : Shared) (Q : Value → Shared → Prop) (E : Value → Shared → Prop), C i j → Q (.int (g i j) s.toks) { s with toks := s.toks + 1 } → wpAny (model X.prog X.w) X.A (f (.int i t) (.int j u)) Q E s) :
    OpR X f (rI C fun i j => .int (g i j)) := by
  intro pins s σ H x y v u Q I rx ry h
  obtain ⟨i, j, rfl, rfl, hc, q⟩ := h
  obtain ⟨t, rfl⟩ := rx
  obtain ⟨t', rfl⟩ := ry
  exact rule i j t t' s _ _ hc ⟨.int (g i j), H, I.tok _, ⟨_, rfl⟩, q⟩
theorem opI0 {f : Value → Value → Sem Value} {g : Int → Int → Int}
    (rule : ∀ (i j : Int) (t u : Tok) (s : Shared) (Q : Value → Shared → Prop) (E : Value → Shared → Prop), Q (.int (g i j) s.toks) { s with toks := s.toks + 1 } → wpAny (model X.prog X.w) X.A (f (.int i t) (.int j u)) Q E s) :
    OpR X f (rI0 fun i j => .int (g i j)) := by
  intro pins s σ H x y v u Q I rx ry h
  obtain ⟨i, j, rfl, rfl, q⟩ := h
  obtain ⟨t, rfl⟩ := rx
  obtain ⟨t', rfl⟩ := ry
  exact rule i j t t' s _ _ ⟨.int (g i j), H, I.tok _, ⟨_, rfl⟩, q⟩
theorem opB0 {f : Value → Value → Sem Value} {g : Int → Int → Bool}
    (rule : ∀ (i j : Int) (t u : Tok) (s : Shared) (Q : Value → Shared → Prop) (E : Value → Shared → Prop), Q (.bool (g i j)) s → wpAny (model X.prog X.w) X.A (f (.int i t) (.int j u)) Q E s) :
    OpR X f (rI0 fun i j => .bl (g i j)) := by
  intro pins s σ H x y v u Q I rx ry h
  obtain ⟨i, j, rfl, rfl, q⟩ := h
  obtain ⟨t, rfl⟩ := rx
  obtain ⟨t', rfl⟩ := ry
  exact rule i j t t' s _ _ ⟨.bl (g i j), H, I, rfl, q⟩

def CMul (i j : Int) : Prop := (-(2 ^ 64) < i ∧ i < 2 ^ 64) ∨ (-(2 ^ 64) < j ∧ j < 2 ^ 64)
theorem CMul.ok {i j : Int} (h : CMul i j) : IntMulOk i j := by
  rcases h with ⟨h1, h2⟩ | ⟨h1, h2⟩
  · exact .of_left (intBits_le_64 h1 h2)
  · exact .of_right (intBits_le_64 h1 h2)
theorem op_add : OpR X (binaryOp .Add) (rI0 fun i j => .int (i + j)) := opI0 fun _ _ _ _ _ _ _ q => add_int q
theorem op_sub : OpR X (binaryOp .Sub) (rI0 fun i j => .int (i - j)) := opI0 fun _ _ _ _ _ _ _ q => sub_int q
theorem op_mul : OpR X (binaryOp .Mult) (rI CMul fun i j => .int (i * j)) := opI fun _ _ _ _ _ _ _ hc q => mul_int q hc.ok
/-- % by a positive divisor of any size -/
theorem op_mod : OpR X (binaryOp .Mod) (rI (fun _ j => 0 < j) fun i j => .int (i % j)) := opI fun i j _ _ _ _ _ hc q => by
  have h1 : (0 : Int) < j := hc
  exact mod_int' (by omega) (by rw [Int.fmod_eq_emod_of_nonneg i (by omega)]; exact q)
theorem unI {f : Value → Sem Value} {g : Int → Int}
    (rule : ∀ (i : Int) (t : Tok) (s : Shared) (Q : Value → Shared → Prop) (E : Value → Shared → Prop), Q (.int (g i) s.toks) { s with toks := s.toks + 1 } → wpAny (model X.prog X.w) X.A (f (.int i t)) Q E s) :
    UnR X f (rU fun i => .int (g i)) := by
  intro pins s σ H x v Q I rx h
  obtain ⟨i, rfl, q⟩ := h
  obtain ⟨t, rfl⟩ := rx
  exact rule i t s _ _ ⟨.int (g i), H, I.tok _, ⟨_, rfl⟩, q⟩
theorem un_neg : UnR X (unaryOp .USub) (rU fun i => .int (-i)) := unI fun _ _ _ _ _ q => neg_int q
end

/-- the scalars that == tells apart as data does -/
def scal : V → V → Bool
  | .non, .non => true | .non, .int _ => true | .int _, .non => true | .non, .bl _ => true | .bl _, .non => true | .non, .str _ => true | .str _, .non => true
  | .int _, .int _ => true | .bl _, .bl _ => true | .str _, .str _ => true | .byt _, .byt _ => true
  | .int _, .str _ => true | .str _, .int _ => true | .bl _, .str _ => true | .str _, .bl _ => true
  | _, _ => false
def rEq : R2 := fun x y H Q => scal x y = true ∧ Q (.bl (decide (x = y))) H
def rNe : R2 := fun x y H Q => scal x y = true ∧ Q (.bl (!decide (x = y))) H

theorem dec_int {i j : Int} : decide (V.int i = V.int j) = (i == j) := by
  rw [Bool.eq_iff_iff]
  simp
theorem dec_bl {i j : Bool} : decide (V.bl i = V.bl j) = (i == j) := by
  rw [Bool.eq_iff_iff]
  simp
theorem dec_str {i j : Str} : decide (V.str i = V.str j) = (i == j) := by
  rw [Bool.eq_iff_iff]
  simp
theorem dec_byt {i j : Array UInt8} : decide (V.byt i = V.byt j) = (i.toList == j.toList) := by
  rw [Bool.eq_iff_iff]
  cases i
  cases j
  simp

section
variable {X : Cx} {a b c : Expr} {ta tb tc : TE} {pos : Pos}
theorem fin_bl {pins : List (Addr × Obj)} {σ : St} {H : Hp} {s : Shared} {Q : VK} {k k' : Bool} (I : Inv X pins σ H s) (q : Q (.bl k) H) (e : k = k') : EP X pins σ Q (.bool k') s := by
  subst e
  exact ⟨.bl k, H, I, rfl, q⟩
theorem op_eq : OpR X (compareOp .Eq) rEq := by
  intro pins s σ H x y v u Q I rx ry h
  obtain ⟨hs, q⟩ := h
  cases x with
  | non =>
    cases rx
    cases y with
    | non => cases ry; exact PySem.EqNone.eq_none_none (fin_bl I q (by simp))
    | bl j => cases ry; exact PySem.EqNone.eq_none_bool (fin_bl I q (by simp))
    | int j => obtain ⟨t', rfl⟩ := ry; exact PySem.EqNone.eq_none_int (fin_bl I q (by simp))
    | str j => obtain ⟨t', rfl⟩ := ry; exact PySem.EqNone.eq_none_str (fin_bl I q (by simp))
    | _ => exact absurd (show false = true from hs) Bool.false_ne_true
  | bl i =>
    cases rx
    cases y with
    | non => cases ry; exact PySem.EqNone.eq_bool_none (fin_bl I q (by simp))
    | bl j => cases ry; exact eq_bool (fin_bl I q dec_bl)
    | str j => obtain ⟨t', rfl⟩ := ry; exact PySem.EqMixed.eq_bool_str (fin_bl I q (by simp))
    | _ => exact absurd (show false = true from hs) Bool.false_ne_true
  | int i =>
    obtain ⟨t, rfl⟩ := rx
    cases y with
    | non => cases ry; exact PySem.EqNone.eq_int_none (fin_bl I q (by simp))
    | int j => obtain ⟨t', rfl⟩ := ry; exact eq_int (fin_bl I q dec_int)
    | str j => obtain ⟨t', rfl⟩ := ry; exact PySem.EqMixed.eq_int_str (fin_bl I q (by simp))
    | _ => exact absurd (show false = true from hs) Bool.false_ne_true
  | str i =>
    obtain ⟨t, rfl⟩ := rx
    cases y with
    | non => cases ry; exact PySem.EqNone.eq_str_none (fin_bl I q (by simp))
    | bl j => cases ry; exact PySem.EqMixed.eq_str_bool (fin_bl I q (by simp))
    | int j => obtain ⟨t', rfl⟩ := ry; exact PySem.EqMixed.eq_str_int (fin_bl I q (by simp))
    | str j => obtain ⟨t', rfl⟩ := ry; exact eq_str (fin_bl I q dec_str)
    | _ => exact absurd (show false = true from hs) Bool.false_ne_true
  | byt i =>
    obtain ⟨t, rfl⟩ := rx
    cases y with
    | byt j => obtain ⟨t', rfl⟩ := ry; exact PySem.W.eq_bytes (fin_bl I q dec_byt)
    | _ => exact absurd (show false = true from hs) Bool.false_ne_true
  | _ => cases y <;> exact absurd (show false = true from hs) Bool.false_ne_true
theorem op_ne : OpR X (compareOp .NotEq) rNe := by
  intro pins s σ H x y v u Q I rx ry h
  obtain ⟨hs, q⟩ := h
  cases x with
  | non =>
    cases rx
    cases y with
    | non => cases ry; exact PySem.EqNone.ne_none_none (fin_bl I q (by simp))
    | bl j => cases ry; exact PySem.EqNone.ne_none_bool (fin_bl I q (by simp))
    | int j => obtain ⟨t', rfl⟩ := ry; exact PySem.EqNone.ne_none_int (fin_bl I q (by simp))
    | str j => obtain ⟨t', rfl⟩ := ry; exact PySem.EqNone.ne_none_str (fin_bl I q (by simp))
    | _ => exact absurd (show false = true from hs) Bool.false_ne_true
  | bl i =>
    cases rx
    cases y with
    | non => cases ry; exact PySem.EqNone.ne_bool_none (fin_bl I q (by simp))
    | bl j => cases ry; exact ne_bool (fin_bl I q (congrArg not dec_bl))
    | str j => obtain ⟨t', rfl⟩ := ry; exact PySem.EqMixed.ne_bool_str (fin_bl I q (by simp))
    | _ => exact absurd (show false = true from hs) Bool.false_ne_true
  | int i =>
    obtain ⟨t, rfl⟩ := rx
    cases y with
    | non => cases ry; exact PySem.EqNone.ne_int_none (fin_bl I q (by simp))
    | int j => obtain ⟨t', rfl⟩ := ry; exact ne_int (fin_bl I q (congrArg not dec_int))
    | str j => obtain ⟨t', rfl⟩ := ry; exact PySem.EqMixed.ne_int_str (fin_bl I q (by simp))
    | _ => exact absurd (show false = true from hs) Bool.false_ne_true
  | str i =>
    obtain ⟨t, rfl⟩ := rx
    cases y with
    | non => cases ry; exact PySem.EqNone.ne_str_none (fin_bl I q (by simp))
    | bl j => cases ry; exact PySem.EqMixed.ne_str_bool (fin_bl I q (by simp))
    | int j => obtain ⟨t', rfl⟩ := ry; exact PySem.EqMixed.ne_str_int (fin_bl I q (by simp))
    | str j => obtain ⟨t', rfl⟩ := ry; exact ne_str (fin_bl I q (congrArg not dec_str))
    | _ => exact absurd (show false = true from hs) Bool.false_ne_true
  | byt i =>
    obtain ⟨t, rfl⟩ := rx
    cases y with
    | byt j => obtain ⟨t', rfl⟩ := ry; exact PySem.W.ne_bytes (fin_bl I q (congrArg not dec_byt))
    | _ => exact absurd (show false = true from hs) Bool.false_ne_true
  | _ => cases y <;> exact absurd (show false = true from hs) Bool.false_ne_true

theorem op_lt : OpR X (compareOp .Lt) (rI0 fun i j => .bl (decide (i < j))) := opB0 fun _ _ _ _ _ _ _ q => lt_int q
theorem op_le : OpR X (compareOp .LtE) (rI0 fun i j => .bl (decide (i ≤ j))) := opB0 fun _ _ _ _ _ _ _ q => le_int q
theorem op_gt : OpR X (compareOp .Gt) (rI0 fun i j => .bl (decide (j < i))) := opB0 fun _ _ _ _ _ _ _ q => gt_int q
theorem op_ge : OpR X (compareOp .GtE) (rI0 fun i j => .bl (decide (j ≤ i))) := opB0 fun _ _ _ _ _ _ _ q => ge_int q
/-- two rules for one operation: by cases -/
theorem OpR.or {f : Value → Value → Sem Value} {r r' : R2} (h : OpR X f r) (h' : OpR X f r') : OpR X f (fun x y H Q => r x y H Q ∨ r' x y H Q) := by
  intro pins s σ H x y v u Q I rx ry q
  rcases q with q | q
  · exact h pins s σ H x y v u Q I rx ry q
  · exact h' pins s σ H x y v u Q I rx ry q

theorem nomark (b : Expr) {op : CmpOp} (h : op ≠ .In := by decide) (h2 : op ≠ .NotIn := by decide) : behindInMarks op b = false := by
  have e1 : (op == CmpOp.In) = false := by cases op <;> first | rfl | exact absurd rfl h
  have e2 : (op == CmpOp.NotIn) = false := by cases op <;> first | rfl | exact absurd rfl h2
  cases b <;> simp [behindInMarks, e1, e2]
/-- a comparison as a value; hm: nomark b, or (for in, not in) by with_unfolding_all rfl -/
theorem pe_cmpR {op : CmpOp} {r : R2} (ho : OpR X (compareOp op) r) (ha : PE X a ta) (hb : PE X b tb) (hm : behindInMarks op b = false) : PE X (.Compare a [op] [b] pos) (tOp r ta tb) := by
  intro pins s σ H Q I h
  exact wpAny_Compare1 (binT ha hb I h fun v u s2 x y H2 I2 rx ry q => ho pins s2 σ H2 x y v u Q I2 rx ry q) hm
/-- a reading of a value as a test -/
def tTest (t : TE) : TT := fun σ H Q => t σ H fun x H' => ∃ k, x = .bl k ∧ Q k H'
theorem pt_cmpR {op : CmpOp} {r : R2} (ho : OpR X (compareOp op) r) (ha : PE X a ta) (hb : PE X b tb) (hm : behindInMarks op b = false) : PT X (.Compare a [op] [b] pos) (tTest (tOp r ta tb)) := by
  intro pins s σ H Q I h
  refine wpAny_isTrue_Compare1 (thn (ha pins s σ H _ I h) fun v s1 ⟨x, H1, I1, r1, q1⟩ => thn (hb pins s1 σ H1 _ I1 q1) fun u s2 ⟨y, H2, I2, r2, q2⟩ =>
    thn (ho pins s2 σ H2 x y v u _ I2 r1 r2 q2) fun c s3 ⟨z, H3, I3, r3, k, e, q3⟩ => ?_) hm
  subst e
  cases r3
  exact wpAny_truthy_bool ⟨H3, I3, q3⟩
theorem line63 : (sizeLine : Nat) < 2 ^ 63 := by rw [sizeLine_eq]; decide
theorem vals1 {x : V} {us : List Value} (r : Vals [x] us) : ∃ u, us = [u] ∧ RelV x u := by
  cases r with
  | cons r1 r2 => cases r2; exact ⟨_, rfl, r1⟩
theorem call_abs : CallR X (.builtin "abs") (fun xs H Q => ∃ i, xs = [.int i] ∧ Q (.int (if i < 0 then -i else i)) H) := by
  intro pins s σ H xs us Q I r h
  obtain ⟨i, rfl, q⟩ := h
  obtain ⟨u, rfl, t, rfl⟩ := vals1 r
  exact call_abs_int fun u tk => ⟨.int (if i < 0 then -i else i), H, I.tok _, ⟨_, rfl⟩, q⟩
end
end L2

namespace L2
open PySem PySem.Spec PyProof.Rows

structure ObjM (h : Heap) (x dx C : Addr) (mA : Str → Option Value) : Prop where
  obj : h.get? x = some (PySem.W.instObj C dx)
  ns : h.Ns1 dx mA
  ne : dx ≠ x

theorem lookIn_ns {h : Heap} {dx : Addr} {mA : Str → Option Value} (n : h.Ns1 dx mA) : ∃ od, h.get? dx = some od ∧ ∀ name, PySem.W.lookIn name od = some (mA name) := by
  obtain ⟨o, es, ep, ho, hd, hk, _, hm⟩ := n
  refine ⟨o, ho, fun name => ?_⟩
  have e := hm name
  unfold nsFind findBy at e
  rw [← Array.find?_toList] at e
  unfold PySem.W.lookIn
  rw [hd]
  dsimp only
  split
  · rename_i y q
    rw [q] at e
    exact congrArg some e
  · rename_i q
    rw [q] at e
    have a : es.toList.any (·.refKey) = false := by
      rw [List.any_eq_false]
      intro y hy
      obtain ⟨z, t, hkey⟩ := hk y (Array.mem_toList_iff.mp hy)
      simp [DictEntry.refKey, hkey]
    have a' : ¬ es.toList.any (·.refKey) = true := by rw [a]; exact Bool.false_ne_true
    rw [if_neg a']
    exact congrArg some e

theorem ObjM.look {h : Heap} {x dx C : Addr} {mA : Str → Option Value} (I : ObjM h x dx C mA) : ∃ od, PySem.W.InstAt h x (PySem.W.instObj C dx) C (some od) ∧ ∀ name, PySem.W.lookIn name od = some (mA name) :=
  let ⟨od, ho, hl⟩ := lookIn_ns I.ns
  ⟨od, ⟨I.obj, rfl, rfl, ho⟩, hl⟩

section
variable {prog : Program} {w : World} {A : Around} {E : Value → Shared → Prop} {s : Shared} {K : PySem.W.Frag} {x dx C f : Addr} {mA : Str → Option Value} {name : Str} {v : Value}

theorem get_map {expr : Bool} {Q : Value → Shared → Prop} (X : K.In s.heap) (I : ObjM s.heap x dx C mA) (hg : PySem.W.plainGet K C name = true) (hh : PySem.W.hasDictIn K C = true)
    (ha : PySem.W.findIn K (.ref C) name = some none) (hv : mA name = some v) (hv' : PySem.W.handedIn v = true) (h : Q v { s with toks := s.toks + 1 }) :
    wpAny (model prog w) A (getAttr (.ref x) name expr) Q E s := by
  obtain ⟨od, J, hl⟩ := I.look
  exact PySem.W.get_value X J (PySem.W.plainGet_of hg).1 (PySem.W.findObj_own hh ha rfl (by rw [hl, hv])) hv' h

theorem get_meth {pl : Sem Bool} {Q : Value × List Value → Shared → Prop} (X : K.In s.heap) (I : ObjM s.heap x dx C mA) (hg : PySem.W.plainGet K C name = true)
    (hf : PySem.W.findIn K (.ref C) name = some (some (.ref f))) (ht : PySem.W.isFn K (.ref f) = true) (hv : mA name = none) (h : Q (.ref f, [.ref x]) s) :
    wpAny (model prog w) A (getMethod (.ref x) name pl) Q E s := by
  obtain ⟨od, J, hl⟩ := I.look
  exact PySem.W.method_fn X J (PySem.W.plainGet_of hg).1 (PySem.W.plainGet_of hg).2 hf (beq_iff_eq.mp ht) (by show (PySem.W.lookIn name od).map (·.isSome) = some false; rw [hl, hv]; rfl) h

theorem set_map {ns : List Str} {Q : Unit → Shared → Prop} (X : K.In s.heap) (I : ObjM s.heap x dx C mA)
    (hs : PySem.W.findIn K (.ref C) "__setattr__" = some (some (.builtin "object.__setattr__"))) (hp : PySem.W.plainOver K C = true) (ht : PySem.W.takerIn K C name = some none) (hh : PySem.W.hasDictIn K C = true)
    (hw : PySem.Within mA ns) (hsz : ns.length ≤ sizeLine)
    (h : ∀ h', ObjM h' x dx C (fun y => if y = name then some v else mA y) → Heap.SameBut dx s.heap h' → Q () { s with heap := h', toks := s.toks + 2 }) :
    wpAny (model prog w) A (setAttr (.ref x) name v) Q E s := by
  obtain ⟨od, J, hl⟩ := I.look
  refine PySem.W.set_plain X J hs (PySem.W.osa_open (s := { s with toks := s.toks + 1 }) (r := none) X J hp ht fun b => ?_)
  obtain ⟨cd, hc, hd'⟩ := PySem.W.any_some hh
  have hx : s.heap.get? x = some ⟨.ref C, some dx, .plain, #[]⟩ := I.obj
  refine wpAny_bind (wpAny_pure (wpAny_bind (wpAny_bind (wpAny_loadPart hx (wpAny_bind (PySem.W.Looks.here (s := { s with toks := s.toks + 1 }) (PySem.W.looks_clsIn X hc) ?_))))))
  rw [hd']
  refine wpAny_pure (a := some dx) (wpAny_bind (wpAny_pure (wpAny_bind ?_)))
  refine wpAny_nsSet1 (s := { s with toks := s.toks + 1 }) I.ns fun h' hn2 hs2 => ?_
  obtain ⟨oD, esD, epD, hoD, hdD, hcD⟩ := hn2.count (PySem.Within.cons name v hw)
  refine wpAny_bind (wpAny_lookBehind hoD (by rw [hdD]; exact pastItsLine_dict (Nat.le_trans hcD (by rw [List.length_cons]; omega))) ?_)
  exact wpAny_pure (h _ ⟨(hs2.2 _ (Ne.symm I.ne)).trans I.obj, hn2, I.ne⟩ hs2)

/-- C(..): the dict at the heap's end, the instance behind it; then its __init__ -/
theorem make_map {R : Result → Shared → Prop} {vs : List Value} {kw : List (Str × Value)} (X : K.In s.heap) (hm : PySem.W.makesIn K C = true)
    (hi : PySem.W.findIn K (.ref C) "__init__" = some (some (.ref f))) (hf : PySem.W.typeIn K (.ref f) = some (.type "function"))
    (h : codeAny (model prog w) (A.under (.builtin "type.__call__" ⟨.ref C :: vs, kw⟩)) (.call (.ref f) ⟨.ref (s.heap.objs.size + 1) :: vs, kw⟩) (PySem.W.InitBack (s.heap.objs.size + 1) R)
      { s with heap := (s.heap.push PySem.W.emptyDict).push (PySem.W.instObj C s.heap.objs.size) }) :
    codeAny (model prog w) A (.call (.ref C) ⟨vs, kw⟩) R s := by
  obtain ⟨hh, g, d, t, os⟩ := s
  exact PySem.W.make_core (PySem.W.makes_of X hm) (PySem.W.looks_findIn X hi) (fun self => PySem.W.bind_fn X self hf) (.inl rfl) h
end

def putF (f : Str) (v : V) : List (Str × V) → List (Str × V)
  | [] => [(f, v)]
  | (g, x) :: r => if g = f then (g, v) :: r else (g, x) :: putF f v r
theorem lookup_putF (f g : Str) (v : V) : ∀ fs : List (Str × V), (putF f v fs).lookup g = if g = f then some v else fs.lookup g
  | [] => by
    show List.lookup g [(f, v)] = _
    by_cases h : g = f
    · have hb : (g == f) = true := beq_iff_eq.mpr h
      simp only [List.lookup, hb, if_pos h]
    · have hb : (g == f) = false := beq_eq_false_iff_ne.mpr h
      simp only [List.lookup, hb, if_neg h]
  | (k, x) :: r => by
    have ih := lookup_putF f g v r
    rw [show putF f v ((k, x) :: r) = (if k = f then (k, v) :: r else (k, x) :: putF f v r) from rfl]
    by_cases hk : k = f
    · rw [if_pos hk]
      by_cases h : g = k
      · have hb : (g == k) = true := beq_iff_eq.mpr h
        simp only [List.lookup, hb, if_pos (h.trans hk)]
      · have hb : (g == k) = false := beq_eq_false_iff_ne.mpr h
        simp only [List.lookup, hb, if_neg (fun e : g = f => h (e.trans hk.symm))]
    · rw [if_neg hk]
      by_cases h : g = k
      · have hb : (g == k) = true := beq_iff_eq.mpr h
        simp only [List.lookup, hb, if_neg (fun e : g = f => hk (h.symm.trans e))]
      · have hb : (g == k) = false := beq_eq_false_iff_ne.mpr h
        simp only [List.lookup, hb]
        exact ih
theorem keys_putF (f : Str) (v : V) : ∀ fs : List (Str × V), f ∈ (putF f v fs).map (·.1) ∧ ∀ g, g ∈ fs.map (·.1) → g ∈ (putF f v fs).map (·.1)
  | [] => ⟨by simp [putF], fun g h => by simp at h⟩
  | (k, x) :: r => by
    obtain ⟨i1, i2⟩ := keys_putF f v r
    rw [show putF f v ((k, x) :: r) = (if k = f then (k, v) :: r else (k, x) :: putF f v r) from rfl]
    by_cases hk : k = f
    · rw [if_pos hk]
      subst hk
      exact ⟨by simp, fun g h => by simpa using h⟩
    · rw [if_neg hk]
      refine ⟨?_, fun g h => ?_⟩
      · rw [List.map_cons]
        exact List.mem_cons_of_mem _ i1
      · rw [List.map_cons] at h ⊢
        rcases List.mem_cons.mp h with e | e
        · exact List.mem_cons.mpr (.inl e)
        · exact List.mem_cons_of_mem _ (i2 g e)
theorem length_putF (f : Str) (v : V) : ∀ fs : List (Str × V), (putF f v fs).length ≤ fs.length + 1
  | [] => by simp [putF]
  | (k, x) :: r => by
    have ih := length_putF f v r
    rw [show putF f v ((k, x) :: r) = (if k = f then (k, v) :: r else (k, x) :: putF f v r) from rfl]
    by_cases hk : k = f
    · rw [if_pos hk, List.length_cons, List.length_cons]; omega
    · rw [if_neg hk, List.length_cons, List.length_cons]; omega

theorem RelO.some_of {v : V} {o : Option Value} (r : RelO (some v) o) : ∃ u, o = some u ∧ RelV v u := by
  cases o with
  | none => exact (show False from r).elim
  | some u => exact ⟨u, rfl, r⟩
theorem RelO.none_of {o : Option Value} (r : RelO none o) : o = none := by
  cases o with
  | none => rfl
  | some u => exact (show False from r).elim
theorem handed_of {v : V} {u : Value} (r : RelV v u) : PySem.W.handedIn u = true := by
  cases v with
  | non => cases (show u = Value.none from r); rfl
  | bl b => cases (show u = Value.bool b from r); rfl
  | int i => obtain ⟨t, e⟩ := (show ∃ t, u = Value.int i t from r); cases e; rfl
  | str x => obtain ⟨t, e⟩ := (show ∃ t, u = Value.str x t from r); cases e; rfl
  | byt b => obtain ⟨t, e⟩ := (show ∃ t, u = Value.bytes b t from r); cases e; rfl
  | flt b => obtain ⟨t, e⟩ := (show ∃ t, u = Value.float b t from r); cases e; rfl
  | ref a => cases (show u = Value.ref a from r); rfl
  | ty n => cases (show u = Value.type n from r); rfl

section
variable {P : Program} {w : World} {H H' : Hp} {h h' : Heap} {a C dx : Addr} {fs fs' : List (Str × V)}
theorem ins_get (hok : HOk P w H h) (e : H a = some (.ins C dx fs)) : ∃ mA, ObjM h a dx C mA ∧ (∀ f, RelO (fs.lookup f) (mA f)) ∧ PySem.Within mA (fs.map (·.1)) ∧ fs.length ≤ 1000 ∧ H dx = some (.own a) := by
  obtain ⟨d, z, ne, ob, mA, n, r, q⟩ := (show ObjOk P w H h a (.ins C dx fs) from hok a _ e)
  exact ⟨mA, ⟨ob, n, ne⟩, r, q, z, d⟩
end

structure Cls (K : PySem.W.Frag) (C : Addr) : Prop where
  pg : PySem.W.plainGet K C Str.empty = true
  hd : PySem.W.hasDictIn K C = true
  po : PySem.W.plainOver K C = true
  sa : PySem.W.findIn K (.ref C) "__setattr__" = some (some (.builtin "object.__setattr__"))
theorem Cls.get {K : PySem.W.Frag} {C : Addr} (c : Cls K C) (f : Str) : PySem.W.plainGet K C f = true := c.pg
/-- no class of it has the name -/
def NoAttr (K : PySem.W.Frag) (C : Addr) (f : Str) : Prop := PySem.W.findIn K (.ref C) f = some none
theorem NoAttr.taker {K : PySem.W.Frag} {C : Addr} {f : Str} (n : NoAttr K C f) : PySem.W.takerIn K C f = some none := by
  unfold PySem.W.takerIn
  rw [show PySem.W.findIn K (.ref C) f = some none from n]
  rfl
/-- a constant of the class -/
structure Con (K : PySem.W.Frag) (C : Addr) (f : Str) (v : V) (u : Value) : Prop where
  at_ : PySem.W.findIn K (.ref C) f = some (some u)
  rel : RelV v u
  get : PySem.W.specialIn K u "__get__" = some none
  cp : PySem.W.copiedNames.contains f = false
/-- a method: a plain def of the class or of one above it -/
structure Meth (K : PySem.W.Frag) (C : Addr) (m : Str) (f : Addr) : Prop where
  at_ : PySem.W.findIn K (.ref C) m = some (some (.ref f))
  fn : PySem.W.isFn K (.ref f) = true
  kp : PySem.W.keepIn K (.ref f) = true

section
variable {X : Cx} {pins : List (Addr × Obj)} {σ : St} {H : Hp} {s : Shared} {a C dx : Addr} {fs : List (Str × V)} {f : Str} {v : V} {A : Around} {E : Value → Shared → Prop}

theorem getattr_ok {b : Bool} {Q : Value → Shared → Prop} (I : Inv X pins σ H s) (e : H a = some (.ins C dx fs)) (c : Cls X.K C) (n : NoAttr X.K C f) (l : fs.lookup f = some v)
    (h : ∀ u s', Inv X pins σ H s' → RelV v u → Q u s') : wpAny (model X.prog X.w) A (getAttr (.ref a) f b) Q E s := by
  obtain ⟨mA, O, r, _, _, _⟩ := ins_get I.hok e
  obtain ⟨u, hu, ru⟩ := RelO.some_of (v := v) (o := mA f) (by rw [← l]; exact r f)
  exact get_map I.kIn O (c.get f) c.hd n hu (handed_of ru) (h u _ (I.tok _) ru)

theorem getmeth_ok {m : Str} {g : Addr} {pl : Sem Bool} {Q : Value × List Value → Shared → Prop} (I : Inv X pins σ H s) (e : H a = some (.ins C dx fs)) (c : Cls X.K C) (k : Meth X.K C m g) (l : fs.lookup m = none)
    (h : Q (.ref g, [.ref a]) s) : wpAny (model X.prog X.w) A (getMethod (.ref a) m pl) Q E s := by
  obtain ⟨mA, O, r, _, _, _⟩ := ins_get I.hok e
  have hn : mA m = none := RelO.none_of (by rw [← l]; exact r m)
  exact get_meth I.kIn O (c.get m) k.at_ k.fn hn h

theorem setattr_ok {y : V} {u : Value} {Q : Unit → Shared → Prop} (I : Inv X pins σ H s) (e : H a = some (.ins C dx fs)) (c : Cls X.K C) (n : NoAttr X.K C f) (hl : fs.length < 1000) (ry : RelV y u)
    (h : ∀ s', Inv X pins σ (upd H a (.ins C dx (putF f y fs))) s' → Q () s') : wpAny (model X.prog X.w) A (setAttr (.ref a) f u) Q E s := by
  obtain ⟨mA, O, r, wi, _, ho⟩ := ins_get I.hok e
  have hz : (fs.map (·.1)).length ≤ sizeLine := by rw [List.length_map, sizeLine_eq]; omega
  refine set_map I.kIn O c.sa c.po n.taker c.hd wi hz fun h' O' sb => h _ ?_
  have hd : ∃ o, h'.get? dx = some o := let ⟨o, _, _, e', _⟩ := O'.ns; ⟨o, e'⟩
  refine I.write (x := a) (e := dx) (by rw [e]; exact True.intro) (.inr ho) (fun b q hb z => (sb.2 b hb).trans z) hd ?_
  refine ⟨by rw [upd_ne O.ne]; exact ho, ?_, O.ne, O'.obj, _, O'.ns, fun g => ?_, fun g hg => ?_⟩
  · have := length_putF f y fs; omega
  · show RelO ((putF f y fs).lookup g) (if g = f then some u else mA g)
    rw [lookup_putF]
    by_cases q : g = f
    · rw [if_pos q, if_pos q]; exact ry
    · rw [if_neg q, if_neg q]; exact r g
  · by_cases q : g = f
    · rw [q]; exact (keys_putF f y fs).1
    · refine (keys_putF f y fs).2 g (wi g fun z => hg ?_)
      show (if g = f then some u else mA g) = none
      rw [if_neg q]; exact z

/-- a new instance, tracked, without attributes -/
theorem Inv.made (I : Inv X pins σ H s) : Inv X pins σ (upd (upd H s.heap.objs.size (.own (s.heap.objs.size + 1))) (s.heap.objs.size + 1) (.ins C s.heap.objs.size []))
    { s with heap := (s.heap.push PySem.W.emptyDict).push (PySem.W.instObj C s.heap.objs.size) } := by
  have e1 : (s.heap.push PySem.W.emptyDict).get? s.heap.objs.size = some PySem.W.emptyDict := Heap.get?_push_size s.heap rfl
  have e2 : ((s.heap.push PySem.W.emptyDict).push (PySem.W.instObj C s.heap.objs.size)).get? (s.heap.objs.size + 1) = some (PySem.W.instObj C s.heap.objs.size) := by
    have := Heap.get?_push_size (s.heap.push PySem.W.emptyDict) (o := PySem.W.instObj C s.heap.objs.size) rfl
    rwa [Heap.size_push] at this
  have e3 : (s.heap.push PySem.W.emptyDict).Ns s.heap.objs.size (fun _ => none) := ⟨PySem.W.emptyDict, #[], _, e1, rfl, (fun e he => absurd he (by simp)), fun _ => rfl⟩
  have I1 := I.laid (a := s.heap.objs.size) (o := .own (s.heap.objs.size + 1)) (h' := s.heap.push PySem.W.emptyDict) (t' := s.toks) (fun b u q => Heap.get?_push_of_some _ q) (Nat.le_refl _) ⟨_, e1⟩
  refine I1.laid (a := s.heap.objs.size + 1) (o := .ins C s.heap.objs.size []) (t' := s.toks) (fun b u q => Heap.get?_push_of_some _ q) (Nat.le_of_eq (Heap.size_push _ _)) ?_
  have ne : s.heap.objs.size ≠ s.heap.objs.size + 1 := Nat.ne_of_lt (Nat.lt_succ_self _)
  refine ⟨by rw [upd_ne ne, upd_same], Nat.zero_le _, ne, e2, fun _ => none, (Heap.Ns1.of_empty e3).at fun o q => Heap.get?_push_of_some _ q, fun _ => True.intro, fun y hy => absurd rfl hy⟩

/-- e.f where nothing but the object is asked: through attributeBase (super) and the last hold -/
theorem attr_of {prog : Program} {w : World} {env : Env} {e : Expr} {f : Str} {pos : Pos} {s : Shared} {Q : Value → Shared → Prop} (hb : attributeBase e f env (eval e env) = eval e env)
    (h : wpAny (model prog w) A (eval e env) (fun o s₁ => wpAny (model prog w) A (getAttr o f true) Q E s₁) E s) : wpAny (model prog w) A (eval (.Attribute e f pos) env) Q E s :=
  Attribute_any_ h (by rw [arm_eval_Attribute, hb])
end

/-- e.f, an attribute of the instance -/
def tFld (K : PySem.W.Frag) (ta : TE) (f : Str) : TE := fun σ H Q => ta σ H fun x H1 => ∃ a C dx fs v, x = .ref a ∧ H1 a = some (.ins C dx fs) ∧ Cls K C ∧ NoAttr K C f ∧ fs.lookup f = some v ∧ Q v H1
/-- e.f = value -/
def sFld (K : PySem.W.Frag) (ta tv : TE) (f : Str) : TS := fun D σ H => tv σ H fun y H1 => ta σ H1 fun x H2 => ∃ a C dx fs, x = .ref a ∧ H2 a = some (.ins C dx fs) ∧ Cls K C ∧ NoAttr K C f ∧ fs.length < 1000 ∧
  D.nx σ (upd H2 a (.ins C dx (putF f y fs)))
/-- an augmented operator on two values -/
def InOp (X : Cx) (op : Operator) (rd : V → V → Hp → VK → Prop) : Prop :=
  ∀ (pins : List (Addr × Obj)) (s : Shared) (σ : St) (H : Hp) (x y : V) (u v : Value) (Q : VK), Inv X pins σ H s → RelV x u → RelV y v → rd x y H Q → wpAny (model X.prog X.w) X.A (inplaceOp op u v) (EP X pins σ Q) X.xe s
/-- e.f op= value -/
def sFldAug (K : PySem.W.Frag) (ta tv : TE) (rd : V → V → Hp → VK → Prop) (f : Str) : TS := fun D σ H => ta σ H fun x H1 => ∃ a C dx fs v, x = .ref a ∧ H1 a = some (.ins C dx fs) ∧ Cls K C ∧ NoAttr K C f ∧ fs.lookup f = some v ∧
  tv σ H1 fun y H2 => rd v y H2 fun z H3 => ∃ dx' fs', H3 a = some (.ins C dx' fs') ∧ fs'.length < 1000 ∧ D.nx σ (upd H3 a (.ins C dx' (putF f z fs')))

section
variable {X : Cx} {o e value : Expr} {f : Str} {pos pos' tpos : Pos} {ta tv : TE}
theorem pe_fld (he : PE X e ta) (hb : attributeBase e f X.env (eval e X.env) = eval e X.env) : PE X (.Attribute e f pos) (tFld X.K ta f) := by
  intro pins s σ H Q I h
  refine attr_of hb (thn (he pins s σ H _ I h) fun u s1 ⟨x, H1, I1, rx, a, C, dx, fs, v, ex, ea, c, n, l, q⟩ => ?_)
  subst ex
  obtain rfl : u = Value.ref a := rx
  exact getattr_ok I1 ea c n l fun u' s2 I2 ru => ⟨v, H1, I2, ru, q⟩
theorem ps_fld (ha : PE X o ta) (hv : PE X value tv) (hs : swapsWith value (some (.Attribute o f pos')) pos.line X.env = pure false) : PS X (.Assign [.Attribute o f pos'] value pos) (sFld X.K ta tv f) := by
  intro pins s σ H D I h
  refine plainObj_wpAny_Assign_Attribute (thn (hv pins s σ H _ I h) fun u s1 ⟨y, H1, I1, ry, q⟩ => thn (ha pins s1 σ H1 _ I1 q) fun ov s2 ⟨x, H2, I2, rx, a, C, dx, fs, ex, ea, c, n, l, q2⟩ => ?_) hs
  subst ex
  obtain rfl : ov = Value.ref a := rx
  exact setattr_ok I2 ea c n l ry fun s3 I3 => ⟨σ, _, I3, q2⟩
theorem ps_fldaug {op : Operator} {rd : V → V → Hp → VK → Prop} (ha : PE X o ta) (hv : PE X value tv) (hop : InOp X op rd) : PS X (.AugAssign (.Attribute o f tpos) op value pos) (sFldAug X.K ta tv rd f) := by
  intro pins s σ H D I h
  refine wpAny_AugAssign_AttributeAny (thn (ha pins s σ H _ I h) fun ov s1 ⟨x, H1, I1, rx, a, C, dx, fs, v, ex, ea, c, n, l, q⟩ => ?_)
  subst ex
  obtain rfl : ov = Value.ref a := rx
  refine getattr_ok I1 ea c n l fun u s2 I2 ru => thn (hv pins s2 σ H1 _ I2 q) fun w3 s3 ⟨y, H2, I3, ry, q3⟩ => thn (hop pins s3 σ H2 v y u w3 _ I3 ru ry q3) fun w4 s4 ⟨z, H3, I4, rz, dx', fs', ea', l', q4⟩ => ?_
  exact setattr_ok I4 ea' c n l' rz fun s5 I5 => ⟨σ, _, I5, q4⟩
def rAdd : V → V → Hp → VK → Prop := fun x y H Q => ∃ i j, x = .int i ∧ y = .int j ∧ Q (.int (i + j)) H
def rSub : V → V → Hp → VK → Prop := fun x y H Q => ∃ i j, x = .int i ∧ y = .int j ∧ Q (.int (i - j)) H
theorem in_add : InOp X .Add rAdd := by
  rintro pins s σ H x y u v Q I rx ry ⟨i, j, rfl, rfl, q⟩
  obtain ⟨t, rfl⟩ := (show ∃ t, u = Value.int i t from rx)
  obtain ⟨t', rfl⟩ := (show ∃ t', v = Value.int j t' from ry)
  exact PyProof.Rows.iadd_int ⟨.int (i + j), H, I.tok _, ⟨_, rfl⟩, q⟩
theorem in_sub : InOp X .Sub rSub := by
  rintro pins s σ H x y u v Q I rx ry ⟨i, j, rfl, rfl, q⟩
  obtain ⟨t, rfl⟩ := (show ∃ t, u = Value.int i t from rx)
  obtain ⟨t', rfl⟩ := (show ∃ t', v = Value.int j t' from ry)
  exact PyProof.Rows.isub_int ⟨.int (i - j), H, I.tok _, ⟨_, rfl⟩, q⟩

/-- what is between an instance and its method: the tree of a method call -/
theorem methcall_of {pl : Sem Bool} {m : Str} {apos : Pos} {args : List Expr} {pins : List (Addr × Obj)} {s : Shared} {σ : St} {H : Hp} {Q : Value → Shared → Prop} {te : TE} (he : PE X e te) (I : Inv X pins σ H s)
    (h : te σ H fun x H1 => ∃ a C dx fs g, x = .ref a ∧ H1 a = some (.ins C dx fs) ∧ Cls X.K C ∧ Meth X.K C m g ∧ fs.lookup m = none ∧
      ∀ s1, Inv X pins σ H1 s1 → wpAny (model X.prog X.w) X.A (callWith pos (.ref g) [.ref a] (backTo pos (starEach args X.env)) (backToKw pos (keywordEach [] X.env))) Q X.xe s1)
    (ht : eval (.Call (.Attribute e m apos) args [] pos) X.env = (do
      let ov ← eval e X.env
      standAt apos.atName
      let (f, first) ← holding [ov] (getMethod ov m pl)
      callWith pos f first (backTo pos (starEach args X.env)) (backToKw pos (keywordEach [] X.env)))) :
    wpAny (model X.prog X.w) X.A (eval (.Call (.Attribute e m apos) args [] pos) X.env) Q X.xe s := by
  refine PySem.W.methodCall_KW (pl := pl) (thn (he pins s σ H _ I h) fun u s1 ⟨x, H1, I1, rx, a, C, dx, fs, g, ex, ea, c, k, l, q⟩ => ?_) ht
  subst ex
  obtain rfl : u = Value.ref a := rx
  exact getmeth_ok I1 ea c k l (q s1 I1)
end

section
variable {X : Cx} {pins : List (Addr × Obj)} {σ : St} {H : Hp} {s : Shared} {A : Around} {E : Value → Shared → Prop} {Q : Value → Shared → Prop} {c : Value} {b : Bool}
/-- the type of a value, as the fragment's deciders take it; for an instance its class -/
inductive TyOf (K : PySem.W.Frag) (H : Hp) : V → Value → Prop where
  | non : TyOf K H .non (.type "NoneType")
  | bl (x : Bool) : TyOf K H (.bl x) (.type "bool")
  | int (i : Int) : TyOf K H (.int i) (.type "int")
  | str (x : Str) : TyOf K H (.str x) (.type "str")
  | flt (x : UInt64) : TyOf K H (.flt x) (.type "float")
  | lst {a : Addr} {xs : List V} (e : H a = some (.lst xs)) : TyOf K H (.ref a) (.type "list")
  | frz {a : Addr} {o : Obj} {xs : List V} (e : H a = some (.frz o (.lst xs))) : TyOf K H (.ref a) (.type "list")
  | tup {a : Addr} {xs : List V} (e : H a = some (.tup xs)) : TyOf K H (.ref a) (.type "tuple")
  | dK {a : Addr} {kvs : List (Key × V)} (e : H a = some (.dK kvs)) : TyOf K H (.ref a) (.type "dict")
  | dT {a : Addr} {kvs : List (List Key × V)} (e : H a = some (.dT kvs)) : TyOf K H (.ref a) (.type "dict")
  | ins {a C dx : Addr} {fs : List (Str × V)} (e : H a = some (.ins C dx fs)) (cl : Cls K C) (ha : PySem.W.findIn K (.ref C) "__class__" = some (some (.builtin "object.__class__")))
      (hn : PySem.W.specialIn K (.builtin "object.__class__") "__get__" = some (some (.builtin "getset_descriptor.__get__"))) (htk : PySem.W.takesIn K (.builtin "object.__class__") = some true)
      (hm : PySem.W.mroIn K C (.type "object") = some true) : TyOf K H (.ref a) (.ref C)
end
end L2

namespace L2
open PySem PySem.Spec PyProof.Rows

structure Room (k : Nat) (A : Around) : Prop where
  hd : A.handled = none
  dp : A.depth + 3 * k + 5 < recursionLimit
  un : A.units + 16 * k + 200 < cLine
theorem Room.mono {j k : Nat} {A : Around} (r : Room k A) (h : j ≤ k) : Room j A := ⟨r.hd, by have := r.dp; omega, by have := r.un; omega⟩
theorem Room.deeper {k : Nat} {A : Around} (r : Room (k + 1) A) (env : Env) : Room k (A.deeper env) :=
  ⟨r.hd, by have := r.dp; show A.depth + 1 + 3 * k + 5 < _; omega, by have := r.un; show A.units + 3 + 16 * k + 200 < _; omega⟩
theorem make_depth {A : Around} {C : Addr} {us : List Value} {kw : List (Str × Value)} : (A.under (.builtin "type.__call__" ⟨.ref C :: us, kw⟩)).depth = A.depth + 1 := by
  first | rfl | simp [Around.under, Code.weight, Code.isCreation, Code.isGuard, Code.isCaller, Code.frames, Code.isFrame, guardIds]
theorem make_units {A : Around} {C : Addr} {us : List Value} {kw : List (Str × Value)} : (A.under (.builtin "type.__call__" ⟨.ref C :: us, kw⟩)).units = A.units + 1 := by
  first | rfl | simp [Around.under, Code.cUnits, Code.frames, Code.isFrame]
theorem Room.make {k : Nat} {A : Around} (r : Room (k + 1) A) (C : Addr) (us : List Value) (kw : List (Str × Value)) : Room k (A.under (.builtin "type.__call__" ⟨.ref C :: us, kw⟩)) :=
  ⟨r.hd, by have := r.dp; rw [make_depth]; omega, by have := r.un; rw [make_units]; omega⟩
theorem Room.depth {k : Nat} {A : Around} (r : Room k A) : A.depth < recursionLimit := by have := r.dp; omega
theorem Room.units {k : Nat} {A : Around} (r : Room k A) : A.units + 64 < cLine := by have := r.un; omega
def tNil : TA := fun _ H Q => Q [] H
def tCons (ta : TE) (tr : TA) : TA := fun σ H Q => ta σ H fun x H1 => tr σ H1 fun xs H2 => Q (x :: xs) H2
section
variable {X : Cx} {e : Expr} {es : List Expr} {te : TE} {t : TA} {pos : Pos}
theorem pa_nil : PA X [] tNil := fun _ _ _ _ H Q I h => Calls.spliced_nil ⟨[], H, I, .nil, h⟩
theorem pa_cons (ha : PE X e te) (hr : PA X es t) (hs : starEach (e :: es) X.env = (false, eval e X.env) :: starEach es X.env := by rfl) : PA X (e :: es) (tCons te t) := by
  intro pos pins s σ H Q I h
  rw [hs]
  show wpAny _ _ (spliced ((false, eval e X.env) :: backTo pos (starEach es X.env))) _ _ s
  refine Calls.spliced_cons (thn (ha pins s σ H _ I h) fun u s1 ⟨x, H1, I1, r1, q1⟩ => ?_)
  exact thn (hr pos pins s1 σ H1 _ I1 q1) fun us s2 ⟨xs, H2, I2, r2, q2⟩ => ⟨x :: xs, H2, I2, .cons r1 r2, q2⟩

def tLst (t : TA) : TE := fun σ H Q => t σ H fun xs H1 => xs.length ≤ sizeLine ∧ ∀ p, H1 p = none → Q (.ref p) (upd H1 p (.lst xs))
theorem pe_lst (h : PA X es t) : PE X (.List es pos) (tLst t) := by
  intro pins s σ H Q I hq
  refine wpAny_List_spliced (thn (h pos pins s σ H _ I hq) fun us s1 ⟨xs, H1, I1, r, z, q⟩ => ⟨by rw [← r.length]; exact z, ?_⟩)
  have hf : H1 s1.heap.objs.size = none := I1.hok.fresh (Nat.le_refl _)
  refine ⟨.ref s1.heap.objs.size, upd H1 s1.heap.objs.size (.lst xs), I1.laid (t' := s1.toks) (fun b u e => Heap.get?_push_of_some _ e) (Nat.le_refl _) ?_, rfl, q _ hf⟩
  exact ⟨z, us, 0, r, Heap.get?_push_size _ rfl⟩
end

/-- a def's promise: the bound arguments in the parameters' order, the heap, the wanted end, the wanted exception -/
abbrev Sp := List V → Hp → VK → XK → Prop
/-- how an exception lies behind a call (file 08 gives it): the callers' frames, abstract heap and state ahead of the call, the wish, the exception, the state -/
abbrev CXT := List Env → Hp → Shared → XK → Value → Shared → Prop

/-- the state at a call -/
structure Env0 (P : Program) (w : World) (K : PySem.W.Frag) (mg : Str → Option Value) (base : Heap) (A : Around) (outer : List Env) (s : Shared) (H : Hp) : Prop where
  frames : A.frames = some outer
  mod : Mod K mg base
  bs : ∀ b o, base.get? b = some o → s.heap.get? b = some o ∧ H b = none
  bsz : base.objs.size ≤ s.heap.objs.size
  funs : s.heap.FunFrames base outer
  frf : ∀ b ∈ frs outer, H b = none
  hok : HOk P w H s.heap
  bare : AllBare s.gens
/-- a call's end -/
def CE (outer : List Env) (P : Program) (w : World) (H : Hp) (s : Shared) (Q : VK) (u : Value) (s' : Shared) : Prop :=
  ∃ v H', s'.os = s.os ∧ AllBare s'.gens ∧ Un (frs outer) [] H H' s.heap s'.heap ∧ HOk P w H' s'.heap ∧ RelV v u ∧ Q v H'
def CR (CX : CXT) (outer : List Env) (P : Program) (w : World) (H : Hp) (s : Shared) (Q : VK) (E : XK) (r : Result) (s' : Shared) : Prop :=
  match r with
  | .ok (.ret u) => CE outer P w H s Q u s'
  | .ok _ => False
  | .error e => CX outer H s E e s'
structure FnOk (P : Program) (w : World) (K : PySem.W.Frag) (mg : Str → Option Value) (base : Heap) (CX : CXT) (k : Nat) (f : Addr) (fd : FuncData) (ps : List Str) (sp : Sp) : Prop where
  len : ∀ vs H Q E, sp vs H Q E → vs.length = ps.length
  run : ∀ (A : Around) (outer : List Env) (s : Shared) (H : Hp) (args : Args) (us : List Value) (vs : List V) (Q : VK) (E : XK), Room k A → Env0 P w K mg base A outer s H → BindsTo s fd args (ps.zip us) → Vals vs us → sp vs H Q E →
    codeAny (model P w) A (.call (.ref f) args) (CR CX outer P w H s Q E) s
theorem FnOk.mono {P : Program} {w : World} {K : PySem.W.Frag} {mg : Str → Option Value} {base : Heap} {CX : CXT} {j k : Nat} {f : Addr} {fd : FuncData} {ps : List Str} {sp : Sp} (F : FnOk P w K mg base CX j f fd ps sp) (h : j ≤ k) :
    FnOk P w K mg base CX k f fd ps sp := ⟨F.len, fun A outer s H args us vs Q E hr => F.run A outer s H args us vs Q E (hr.mono h)⟩
theorem Env0.make {P : Program} {w : World} {K : PySem.W.Frag} {mg : Str → Option Value} {base : Heap} {A : Around} {outer : List Env} {s : Shared} {H : Hp} (e : Env0 P w K mg base A outer s H) (C : Addr) (us : List Value) (kw : List (Str × Value)) :
    Env0 P w K mg base (A.under (.builtin "type.__call__" ⟨.ref C :: us, kw⟩)) outer s H := ⟨by first | exact e.frames | (simpa [Around.under, Code.envs, Code.isFrame, pushEnvs] using e.frames), e.mod, e.bs, e.bsz, e.funs, e.frf, e.hok, e.bare⟩
section
variable {X : Cx} {pins : List (Addr × Obj)} {σ : St} {H : Hp} {s s' : Shared}
/-- from a body: what a callee wants -/
theorem Inv.env0 (I : Inv X pins σ H s) : Env0 X.prog X.w X.K X.mg X.base X.A X.stack s H :=
  ⟨I.ok.frames, I.ok.mod, I.bs, Nat.le_trans I.ok.bsz I.sz, I.stack, I.stkFree, I.hok, I.bare⟩
/-- behind a call -/
theorem Inv.after {Q : VK} {u : Value} (I : Inv X pins σ H s) (h : CE X.stack X.prog X.w H s Q u s') : EP X pins σ Q u s' := by
  obtain ⟨v, H', os, bare, un, hok, r, q⟩ := h
  obtain ⟨hh, g, d, t, os'⟩ := s'
  obtain rfl : os' = s.os := os
  exact ⟨v, H', I.call (h' := hh) (g' := g) (d' := d) (t' := t) (ch := []) un hok bare (fun b z => absurd z (by simp)), r, q⟩
end

/-- f(..): the written arguments, then the defaults dvs; E: what is wanted of an exception -/
def tCall (sp : Sp) (dvs : List V) (E : XK) (t : TA) : TE := fun σ H Q => t σ H fun vs H1 => sp (vs ++ dvs) H1 Q E
/-- o.m(..) of an instance of the class at C -/
def tMeth (C : Addr) (m : Str) (sp : Sp) (dvs : List V) (E : XK) (ta : TE) (t : TA) : TE := fun σ H Q => ta σ H fun x H1 => ∃ a dx fs, x = .ref a ∧ H1 a = some (.ins C dx fs) ∧ fs.lookup m = none ∧
  t σ H1 fun vs H2 => sp (x :: (vs ++ dvs)) H2 Q E
/-- C(..): a new instance and its dict, then __init__ -/
def tMake (C : Addr) (sp : Sp) (dvs : List V) (E : XK) (t : TA) : TE := fun σ H Q => t σ H fun vs H1 => ∀ x dx, H1 x = none → H1 dx = none → dx ≠ x →
  sp (.ref x :: (vs ++ dvs)) (upd (upd H1 dx (.own x)) x (.ins C dx [])) (fun v H2 => v = .non ∧ Q (.ref x) H2) E

/-- how the parameters are bound: us the positional arguments, kw the keywords' values by name, ds the defaults that fill up -/
def Binds (K : PySem.W.Frag) (fd : FuncData) (ps : List Str) (ds : List Value) : Prop :=
  ∀ (s : Shared) (us : List Value), K.In s.heap → (us ++ ds).length = ps.length → BindsTo s fd ⟨us, []⟩ (ps.zip (us ++ ds))
/-- every parameter is given -/
theorem Binds.all {K : PySem.W.Frag} {fd : FuncData} {ps : List Str} (h : ∀ us : List Value, us.length = ps.length → bindArgs fd ⟨us, []⟩ = pure (ps.zip us)) : Binds K fd ps [] := fun s us _ hl => by
  rw [List.append_nil] at hl ⊢
  exact .of_eq (h us hl)

/-- an exception of a callee reaches what this body wants of exceptions -/
def Passes (CX : CXT) (X : Cx) (E : XK) : Prop := ∀ (pins : List (Addr × Obj)) (σ : St) (H : Hp) (s : Shared) (e : Value) (s' : Shared), Inv X pins σ H s → CX X.stack H s E e s' → X.xe e s'

section
variable {X : Cx} {CX : CXT} {k : Nat} {f C : Addr} {fd : FuncData} {ps : List Str} {sp : Sp} {dvs : List V} {ds : List Value} {E : XK} {x m : Str} {p pos apos : Pos} {e o : Expr} {es : List Expr} {ta : TE} {t : TA}

/-- the callee runs -/
theorem run_fn {pins : List (Addr × Obj)} {σ : St} {H : Hp} {s : Shared} {Q : VK} {us : List Value} {vs : List V} (F : FnOk X.prog X.w X.K X.mg X.base CX k f fd ps sp) (hr : Room k X.A) (hb : Binds X.K fd ps ds) (hd : Vals dvs ds) (hx : Passes CX X E)
    (I : Inv X pins σ H s) (r : Vals vs us) (h : sp (vs ++ dvs) H Q E) : wpAny (model X.prog X.w) X.A (call (.ref f) us) (EP X pins σ Q) X.xe s := by
  have r2 : Vals (vs ++ dvs) (us ++ ds) := r.append hd
  have hl : (us ++ ds).length = ps.length := by rw [← r2.length]; exact F.len _ _ _ _ h
  refine wpAny_call (codeAny_mono (F.run X.A X.stack s H ⟨us, []⟩ (us ++ ds) (vs ++ dvs) Q E hr I.env0 (hb s us I.kIn hl) r2 h) fun r s' hq => ?_)
  cases r with
  | error e => exact hx pins σ H s e s' I hq
  | ok fl =>
    cases fl with
    | ret u => exact I.after hq
    | next => exact False.elim hq
    | brk => exact False.elim hq
    | cont => exact False.elim hq

theorem pe_call (F : FnOk X.prog X.w X.K X.mg X.base CX k f fd ps sp) (hr : Room k X.A) (hg : Gl X x) (hm : X.mg x = some (.ref f)) (hk : PySem.W.keepIn X.K (.ref f) = true) (hb : Binds X.K fd ps ds) (hd : Vals dvs ds) (hx : Passes CX X E)
    (ha : PA X (e :: es) t) (hdb : (x == ("__debug__" : Str)) = false := by decide) (he : starEach (e :: es) X.env = (false, eval e X.env) :: starEach es X.env := by rfl) (hpl : (backTo pos (starEach es X.env)).any (·.1) = false := by rfl) :
    PE X (.Call (.Name x p) (e :: es) [] pos) (tCall sp dvs E t) := by
  intro pins s σ H Q I h
  refine wpAny_Call_Name_kw (ld_glob I hg hm ?_ hdb)
  refine PySem.W.callWith_K (h₀ := X.base) I.ok.mod.kin hk (thn (ha pos pins s σ H _ I h) fun us s1 ⟨vs, H1, I1, r, q⟩ => ⟨I1.kIn, ?_⟩) he hpl
  exact run_fn F hr hb hd hx I1 r q
/-- o.m(e, ..) -/
theorem pe_meth {pl : Sem Bool} (he : PE X o ta) (c : Cls X.K C) (hm : Meth X.K C m f) (F : FnOk X.prog X.w X.K X.mg X.base CX k f fd ps sp) (hr : Room k X.A) (hb : Binds X.K fd ps ds) (hd : Vals dvs ds) (hx : Passes CX X E) (ha : PA X (e :: es) t)
    (hst : starEach (e :: es) X.env = (false, eval e X.env) :: starEach es X.env := by rfl) (hpl : (backTo pos (starEach es X.env)).any (·.1) = false := by rfl)
    (ht : eval (.Call (.Attribute o m apos) (e :: es) [] pos) X.env = (do
      let ov ← eval o X.env
      standAt apos.atName
      let (f, first) ← holding [ov] (getMethod ov m pl)
      callWith pos f first (backTo pos (starEach (e :: es) X.env)) (backToKw pos (keywordEach [] X.env))) := by rfl) :
    PE X (.Call (.Attribute o m apos) (e :: es) [] pos) (tMeth C m sp dvs E ta t) := by
  intro pins s σ H Q I h
  refine PySem.W.methodCall_KW (pl := pl) (thn (he pins s σ H _ I h) fun u s1 ⟨x, H1, I1, rx, a, dx, fs, ex, ea, l, q⟩ => ?_) ht
  subst ex
  obtain rfl : u = Value.ref a := rx
  refine getmeth_ok I1 ea c hm l ?_
  refine PySem.W.callWith_K (first := [.ref a]) (h₀ := X.base) I.ok.mod.kin hm.kp (thn (ha pos pins s1 σ H1 _ I1 q) fun us s2 ⟨vs, H2, I2, r, q2⟩ => ⟨I2.kIn, ?_⟩) hst hpl
  exact run_fn (us := .ref a :: us) (vs := .ref a :: vs) F hr hb hd hx I2 (.cons rfl r) q2
/-- o.m() -/
theorem pe_meth0 {pl : Sem Bool} (he : PE X o ta) (c : Cls X.K C) (hm : Meth X.K C m f) (F : FnOk X.prog X.w X.K X.mg X.base CX k f fd ps sp) (hr : Room k X.A) (hb : Binds X.K fd ps ds) (hd : Vals dvs ds) (hx : Passes CX X E)
    (ht : eval (.Call (.Attribute o m apos) [] [] pos) X.env = (do
      let ov ← eval o X.env
      standAt apos.atName
      let (f, first) ← holding [ov] (getMethod ov m pl)
      callWith pos f first (backTo pos (starEach [] X.env)) (backToKw pos (keywordEach [] X.env))) := by rfl) :
    PE X (.Call (.Attribute o m apos) [] [] pos) (tMeth C m sp dvs E ta tNil) := by
  intro pins s σ H Q I h
  refine PySem.W.methodCall_KW (pl := pl) (thn (he pins s σ H _ I h) fun u s1 ⟨x, H1, I1, rx, a, dx, fs, ex, ea, l, q⟩ => ?_) ht
  subst ex
  obtain rfl : u = Value.ref a := rx
  refine getmeth_ok I1 ea c hm l ?_
  exact PySem.W.callWith_K0 (first := [.ref a]) I1.kIn hm.kp (run_fn (us := [.ref a]) (vs := [.ref a]) F hr hb hd hx I1 (.cons rfl .nil) q)

/-- what a class must have to be made -/
structure Mk (K : PySem.W.Frag) (C f : Addr) : Prop where
  makes : PySem.W.makesIn K C = true
  init : PySem.W.findIn K (.ref C) "__init__" = some (some (.ref f))
  fn : PySem.W.isFn K (.ref f) = true
  kp : PySem.W.keepIn K (.ref C) = true

theorem run_make {pins : List (Addr × Obj)} {σ : St} {H : Hp} {s : Shared} {Q : VK} {us : List Value} {vs : List V} (M : Mk X.K C f) (F : FnOk X.prog X.w X.K X.mg X.base CX k f fd ps sp) (hr : Room (k + 1) X.A) (hb : Binds X.K fd ps ds) (hd : Vals dvs ds)
    (hx : Passes CX X E) (I : Inv X pins σ H s) (r : Vals vs us)
    (h : ∀ x dx, H x = none → H dx = none → dx ≠ x → sp (.ref x :: (vs ++ dvs)) (upd (upd H dx (.own x)) x (.ins C dx [])) (fun v H2 => v = .non ∧ Q (.ref x) H2) E) :
    wpAny (model X.prog X.w) X.A (call (.ref C) us) (EP X pins σ Q) X.xe s := by
  have hq := h (s.heap.objs.size + 1) s.heap.objs.size (I.hok.fresh (Nat.le_succ _)) (I.hok.fresh (Nat.le_refl _)) (Nat.ne_of_lt (Nat.lt_succ_self _))
  have I2 := Inv.made (C := C) I
  have r2 : Vals (V.ref (s.heap.objs.size + 1) :: (vs ++ dvs)) (Value.ref (s.heap.objs.size + 1) :: (us ++ ds)) := .cons rfl (r.append hd)
  have hl : (Value.ref (s.heap.objs.size + 1) :: us ++ ds).length = ps.length := by
    have e := r2.length
    rw [F.len _ _ _ _ hq] at e
    exact e.symm
  refine wpAny_call (make_map (f := f) I.kIn M.makes M.init (beq_iff_eq.mp M.fn) (codeAny_mono (F.run _ X.stack _ _ ⟨Value.ref (s.heap.objs.size + 1) :: us, []⟩ (Value.ref (s.heap.objs.size + 1) :: (us ++ ds)) _ _ E (hr.make C us [])
    (I2.env0.make C us []) (hb _ (Value.ref (s.heap.objs.size + 1) :: us) I2.kIn hl) r2 hq) fun r s' hq' => ?_))
  cases r with
  | error e => exact hx pins σ _ _ e s' I2 hq'
  | ok fl =>
    cases fl with
    | ret u =>
      obtain ⟨v, H', I3, rv, ev, q3⟩ := I2.after hq'
      subst ev
      exact ⟨rv, ⟨V.ref (s.heap.objs.size + 1), H', I3, rfl, q3⟩⟩
    | next => exact False.elim hq'
    | brk => exact False.elim hq'
    | cont => exact False.elim hq'
theorem pe_make (M : Mk X.K C f) (F : FnOk X.prog X.w X.K X.mg X.base CX k f fd ps sp) (hr : Room (k + 1) X.A) (hg : Gl X x) (hm : X.mg x = some (.ref C)) (hb : Binds X.K fd ps ds) (hd : Vals dvs ds) (hx : Passes CX X E)
    (ha : PA X (e :: es) t) (hdb : (x == ("__debug__" : Str)) = false := by decide) (he : starEach (e :: es) X.env = (false, eval e X.env) :: starEach es X.env := by rfl) (hpl : (backTo pos (starEach es X.env)).any (·.1) = false := by rfl) :
    PE X (.Call (.Name x p) (e :: es) [] pos) (tMake C sp dvs E t) := by
  intro pins s σ H Q I h
  refine wpAny_Call_Name_kw (ld_glob I hg hm ?_ hdb)
  refine PySem.W.callWith_K (h₀ := X.base) I.ok.mod.kin M.kp (thn (ha pos pins s σ H _ I h) fun us s1 ⟨vs, H1, I1, r, q⟩ => ⟨I1.kIn, ?_⟩) he hpl
  exact run_make M F hr hb hd hx I1 r q
theorem pe_make0 (M : Mk X.K C f) (F : FnOk X.prog X.w X.K X.mg X.base CX k f fd ps sp) (hr : Room (k + 1) X.A) (hg : Gl X x) (hm : X.mg x = some (.ref C)) (hb : Binds X.K fd ps ds) (hd : Vals dvs ds) (hx : Passes CX X E)
    (hdb : (x == ("__debug__" : Str)) = false := by decide) : PE X (.Call (.Name x p) [] [] pos) (tMake C sp dvs E tNil) := by
  intro pins s σ H Q I h
  refine wpAny_Call_Name_kw (ld_glob I hg hm ?_ hdb)
  exact PySem.W.callWith_K0 I.kIn M.kp (run_make (us := []) M F hr hb hd hx I .nil h)
end

section
variable {X : Cx} {CX : CXT} {k : Nat} {f C : Addr} {fd : FuncData} {ps ks : List Str} {sp : Sp} {E : XK} {x m : Str} {p pos apos kpos : Pos} {e o : Expr} {es : List Expr} {kws : List Keyword} {te ta : TE} {t tk : TA} {nm : Option Str}
/-- how a call with keywords binds: g puts the positional values us and the keywords' values ws (names ks) in the parameters' order, defaults among them -/
structure KBinds (K : PySem.W.Frag) (fd : FuncData) (ps ks : List Str) (g : List Value → List Value → List Value) (gV : List V → List V → List V) : Prop where
  to : ∀ (s : Shared) (us ws : List Value), K.In s.heap → (g us ws).length = ps.length → BindsTo s fd ⟨us, ks.zip ws⟩ (ps.zip (g us ws))
  rel : ∀ {vs : List V} {us : List Value} {zs : List V} {ws : List Value}, Vals vs us → Vals zs ws → Vals (gV vs zs) (g us ws)
variable {g : List Value → List Value → List Value} {gV : List V → List V → List V}
end

/-- names: the parameters first -/
structure FnScope (N P : List Str) (sc : Scope) : Prop where
  kind : sc.kind = .function
  co : sc.isCoroutine = false
  gen : sc.isGenerator = false
  nd : N.Nodup
  pre : N.take P.length = P
  par : ∀ x ∈ P, sc.names.lookup x = some .local ∨ sc.names.lookup x = some .cell
  nofree : ∀ y ∈ sc.names, y.2 ≠ .free

theorem bindL_out {kindOf : Str → Option NameKind} {x : Str} : ∀ {binds : List (Str × Value)} {m : Str → Option Value}, (∀ v, (x, v) ∉ binds) → bindL kindOf binds m x = m x
  | [], _, _ => rfl
  | (n, v) :: r, m, h => by
    unfold bindL
    rw [bindL_out fun w hw => h w (List.mem_cons_of_mem _ hw)]
    split
    · have : x ≠ n := by rintro rfl; exact h v List.mem_cons_self
      simp [this]
    · rfl
theorem bindC_out {kindOf : Str → Option NameKind} {x : Str} : ∀ {binds : List (Str × Value)} {m : Str → Option Value}, (∀ v, (x, v) ∉ binds) → bindC kindOf binds m x = m x
  | [], _, _ => rfl
  | (n, v) :: r, m, h => by
    unfold bindC
    rw [bindC_out fun w hw => h w (List.mem_cons_of_mem _ hw)]
    split
    · rfl
    · have : x ≠ n := by rintro rfl; exact h v List.mem_cons_self
      simp [this]
theorem bindL_get {kindOf : Str → Option NameKind} {x : Str} {v : Value} : ∀ {P : List Str} {vs : List Value} {i : Nat} {m : Str → Option Value}, P.Nodup → P[i]? = some x → vs[i]? = some v → kindOf x = some .local →
    bindL kindOf (P.zip vs) m x = some v
  | [], _, _, _, _, h, _, _ => by simp at h
  | _ :: _, [], _, _, _, _, h, _ => by simp at h
  | p :: P, w :: vs, 0, m, nd, h1, h2, hk => by
    simp at h1 h2; subst h1; subst h2
    show bindL kindOf ((p, w) :: P.zip vs) m p = _
    unfold bindL
    rw [bindL_out fun v hv => (List.nodup_cons.mp nd).1 (List.of_mem_zip hv).1, if_pos hk]
    simp
  | p :: P, w :: vs, i + 1, m, nd, h1, h2, hk => by
    show bindL kindOf ((p, w) :: P.zip vs) m x = _
    unfold bindL
    exact bindL_get (i := i) (List.nodup_cons.mp nd).2 (by simpa using h1) (by simpa using h2) hk
theorem bindC_get {kindOf : Str → Option NameKind} {x : Str} {v : Value} : ∀ {P : List Str} {vs : List Value} {i : Nat} {m : Str → Option Value}, P.Nodup → P[i]? = some x → vs[i]? = some v → kindOf x ≠ some .local →
    bindC kindOf (P.zip vs) m x = some v
  | [], _, _, _, _, h, _, _ => by simp at h
  | _ :: _, [], _, _, _, _, h, _ => by simp at h
  | p :: P, w :: vs, 0, m, nd, h1, h2, hk => by
    simp at h1 h2; subst h1; subst h2
    show bindC kindOf ((p, w) :: P.zip vs) m p = _
    unfold bindC
    rw [bindC_out fun v hv => (List.nodup_cons.mp nd).1 (List.of_mem_zip hv).1, if_neg hk]
    simp
  | p :: P, w :: vs, i + 1, m, nd, h1, h2, hk => by
    show bindC kindOf ((p, w) :: P.zip vs) m x = _
    unfold bindC
    exact bindC_get (i := i) (List.nodup_cons.mp nd).2 (by simpa using h1) (by simpa using h2) hk

/-- the names' values at the entry -/
def start (N : List Str) (vs : List V) : St := vs.map some ++ List.replicate (N.length - vs.length) none

/-- the context of a def's body, at its entry; an exception leaves the frame, then lies as CX says -/
def cxOf (CX : CXT) (P : Program) (w : World) (K : PySem.W.Frag) (mg : Str → Option Value) (base : Heap) (N : List Str) (qual : Str) (scope : Scope) (f : Addr) (cd : Value) (A : Around) (outer : List Env) (s : Shared) (H : Hp) (E : XK) : Cx where
  prog := P
  w := w
  K := K
  mg := mg
  base := base
  A := A.deeper (envOfC qual scope s.heap.objs.size f cd)
  N := N
  s_0 := s
  H_0 := H
  env := envOfC qual scope s.heap.objs.size f cd
  outer := outer
  stack := envOfC qual scope s.heap.objs.size f cd :: outer
  ex := []
  calm := true
  fn := fun _ => true
  pn := []
  xe := fun e s' => wpAny (model P w) (A.deeper (envOfC qual scope s.heap.objs.size f cd)) (leaving (envOfC qual scope s.heap.objs.size f cd) e) (fun _ s'' => CX outer H s E e s'') (fun e' s'' => CX outer H s E e' s'') s'

theorem cell_has {sc : Scope} {n : Nat} {x : Str} (h : sc.names.lookup x = some .cell) : ∃ c, (cellsFrom n sc.names []).lookup x = some c := by
  have q := PySem.W.cellsFrom_some sc.names n [] (.inl h)
  exact Option.isSome_iff_exists.mp q

theorem inv_start {CX : CXT} {P : Program} {w : World} {K : PySem.W.Frag} {mg : Str → Option Value} {base : Heap} {N ps : List Str} {qual : Str} {scope : Scope} {f : Addr} {cd : Value} {A : Around} {outer : List Env} {s s1 : Shared} {H : Hp} {E : XK} {us : List Value} {vs : List V}
    (S : FnScope N ps scope) (hd : A.handled = none) (e0 : Env0 P w K mg base A outer s H) (hl : vs.length = ps.length) (r : Vals vs us)
    (x : InCallC s s.heap.objs.size (bindL (envOfC qual scope s.heap.objs.size f cd).kindOf (ps.zip us) fun _ => none) (cellsFrom (s.heap.objs.size + 1) scope.names []) (bindC (envOfC qual scope s.heap.objs.size f cd).kindOf (ps.zip us) fun _ => none) s1) :
    Inv (cxOf CX P w K mg base N qual scope f cd A outer s H E) [] (start N vs) H s1 := by
  have hpl : ps.length ≤ N.length := by have := congrArg List.length S.pre; rw [List.length_take] at this; omega
  obtain ⟨h1, tk, rfl, hk⟩ := x.done
  have noA : ∀ b : Addr, b ∉ (cxOf CX P w K mg base N qual scope f cd A outer s H E).ex := fun b z => absurd (show b ∈ ([] : List Addr) from z) (by simp)
  refine ⟨⟨e0.mod, S.kind, rfl, rfl, Nat.le_refl _, fun y z c h1 h2 => ?_, fun y hy => ?_, fun y c _ h => ?_, fun _ => hd, Around.frames_deeper e0.frames, .inr ⟨rfl, rfl⟩, fun b z => absurd z (noA b), e0.bs, e0.bsz, fun b _ _ => noA b, fun b z => absurd z (noA b), e0.funs, e0.frf⟩,
    rfl, e0.bare, Un.kept hk, ⟨_, x.toInCall.ns, fun i y v h1 h2 h3 => ?_⟩, fun y c h => ⟨_, x.cell y c h⟩, e0.hok.fresh (Nat.le_refl _), fun y c h => ?_, fun p hp => absurd (show p ∈ ([] : List (Addr × Obj)) from hp) (by simp), e0.hok.kept hk, ?_⟩
  · exact name_of_addr x.apart (PySem.mem_of_lookup h1) (PySem.mem_of_lookup h2)
  · have hy : scope.names.lookup y = some .cell ∨ scope.names.lookup y = some .free := hy
    rcases hy with hy | hy
    · exact cell_has hy
    · exact absurd rfl (S.nofree _ (PySem.mem_of_lookup hy))
  · exact Nat.le_of_lt (x.above y c (PySem.mem_of_lookup h))
  · have hi : i < vs.length := by
      unfold start at h2
      by_cases hi : i < vs.length
      · exact hi
      · rw [List.getElem?_append_right (by simpa using hi)] at h2
        rw [List.getElem?_replicate] at h2
        split at h2 <;> cases h2
    have ha : vs[i]? = some v := by
      unfold start at h2
      rw [List.getElem?_append_left (by simpa using hi), List.getElem?_map] at h2
      cases e : vs[i]? with
      | none => rw [e] at h2; cases h2
      | some a => rw [e] at h2; cases h2; rfl
    obtain ⟨u, hu, rv⟩ := r.get ha
    have hp : ps[i]? = some y := by
      rw [← S.pre, List.getElem?_take_of_lt (by omega)]; exact h1
    have ndP : ps.Nodup := by rw [← S.pre]; exact S.nd.sublist (List.take_sublist _ _)
    refine ⟨u, rv, ?_⟩
    rcases S.par y (List.mem_of_getElem? hp) with k | k
    · exact .inl ⟨k, bindL_get ndP hp hu k⟩
    · obtain ⟨c, e⟩ := cell_has (n := s.heap.objs.size + 1) k
      refine .inr ⟨.inl k, c, e, ?_⟩
      have q := x.cell y c e
      rw [bindC_get ndP hp hu (by show scope.names.lookup y ≠ _; rw [k]; decide)] at q
      exact q
  · exact e0.hok.fresh (Nat.le_of_lt (x.above y c (PySem.mem_of_lookup h)))
  · unfold start
    show _ = N.length
    rw [List.length_append, List.length_map, List.length_replicate]
    omega

/-- THE RULE: a def (or a method) of the text, by its body. The body's reading t is chosen for each entry; it is run at the parameters' values -/
theorem fn_of {CX : CXT} {P : Program} {w : World} {K : PySem.W.Frag} {mg : Str → Option Value} {base : Heap} {k : Nat} {f : Addr} {name qual : Str} {params : Arguments} {body : List Stmt} {scope : Scope} {dV kV doc pm cdv ct oc : Value} {an od : Option Addr}
    {osl : Array (Option Value)} {N ps : List Str} {sp : Sp} (lk : K.lookup f = some ⟨oc, od, .func (PySem.W.fnOf name qual params body scope dV kV doc pm an cdv ct), osl⟩) (hcd : PySem.W.codeIn K cdv qual = true) (S : FnScope N ps scope)
    (len : ∀ vs H Q E, sp vs H Q E → vs.length = ps.length)
    (hbody : ∀ (A : Around) (outer : List Env) (s : Shared) (H : Hp) (vs : List V) (Q : VK) (E : XK), Room k (A.deeper (envOfC qual scope s.heap.objs.size f cdv)) → sp vs H Q E →
      ∃ t, PSs (cxOf CX P w K mg base N qual scope f cdv A outer s H E) body t ∧ t { nx := fun _ H' => Q .non H', rt := Q } (start N vs) H) :
    FnOk P w K mg base CX (k + 1) f (PySem.W.fnOf name qual params body scope dV kV doc pm an cdv ct) ps sp := by
  refine ⟨len, fun A outer s H args us vs Q E hr e0 hb r hsp => ?_⟩
  have hl := len _ _ _ _ hsp
  have KX : K.In s.heap := e0.mod.kin.keeps fun b o e => (e0.bs b o e).1
  have lim : s.heap.NoLimit := e0.mod.nolimit.keeps fun b o e => (e0.bs b o e).1
  have hkind : ∀ y ∈ ps.zip us, scope.names.lookup y.1 = some .local ∨ (scope.names.lookup y.1 = some .cell ∧ ((cellsFrom (s.heap.objs.size + 1) scope.names []).lookup y.1).isSome = true) := fun ⟨n, v⟩ hy => by
    rcases S.par n (List.of_mem_zip hy).1 with q | q
    · exact .inl q
    · exact .inr ⟨q, PySem.W.cellsFrom_some _ _ _ (.inl q)⟩
  refine codeAny_call_function hr.depth (KX _ _ lk) rfl S.co S.gen rfl (PySem.W.codeRec_of KX hcd) (hb _ _ _ _ ?_)
  refine wpAny_newFunctionEnv_cells S.kind hkind fun env he s1 x => ?_
  subst he
  refine ⟨lim.keeps x.toInCall.keep, codeAny_func ?_⟩
  obtain ⟨t, ht, hq⟩ := hbody A outer s H vs Q E (hr.deeper _) hsp
  have I : Inv (cxOf CX P w K mg base N qual scope f cdv A outer s H E) [] (start N vs) H s1 := inv_start S hr.hd e0 hl r x
  refine wpAny_mono (ht [] s1 (start N vs) H _ I hq) (fun fl s' hs => ?_) fun e s' hs => hs
  have fin : ∀ {σ' : St} {H' : Hp} {v : V} {u : Value}, Inv (cxOf CX P w K mg base N qual scope f cdv A outer s H E) [] σ' H' s' → RelV v u → Q v H' → CE outer P w H s Q u s' :=
    fun {σ' H' v u} J rv q => ⟨v, H', J.os, J.bare, J.base, J.hok, rv, q⟩
  cases fl with
  | ret u =>
    obtain ⟨v, σ', H', J, rv, q⟩ := hs
    exact fin J rv q
  | next =>
    obtain ⟨σ', H', J, q⟩ := hs
    exact fin (v := V.non) (u := Value.none) J rfl q
  | brk =>
    obtain ⟨_, _, _, q⟩ := hs
    exact False.elim q
  | cont =>
    obtain ⟨_, _, _, q⟩ := hs
    exact False.elim q
end L2

namespace L2
open PySem PySem.Spec PyProof.Rows
section
variable {X : Cx} {x : Str} {p pos : Pos} {e : Expr} {es : List Expr} {t : TA} {id T : String} {r : List V → Hp → VK → Prop}

def tCB (r : List V → Hp → VK → Prop) (t : TA) : TE := fun σ H Q => t σ H fun vs H1 => r vs H1 Q
/-- f(e, ..), f a built-in function -/
theorem pe_callB (hc : CallR X (.builtin id) r) (hg : Gl X x) (hm : X.mg x = none) (hv : bootBuiltins x = some (.builtin id)) (ha : PA X (e :: es) t) (hn : x ≠ "__name__" := by decide) (hdb : (x == ("__debug__" : Str)) = false := by decide)
    (he : starEach (e :: es) X.env = (false, eval e X.env) :: starEach es X.env := by rfl) (hpl : (backTo pos (starEach es X.env)).any (·.1) = false := by rfl) : PE X (.Call (.Name x p) (e :: es) [] pos) (tCB r t) := by
  intro pins s σ H Q I h
  refine wpAny_Call_Name_kw (ld_blt I hg hm hv ?_ hn hdb)
  exact PyProof.Rows.callWith_builtin1 (thn (ha pos pins s σ H _ I h) fun us s1 ⟨vs, H1, I1, r1, q1⟩ => hc pins s1 σ H1 vs us Q I1 r1 q1) he hpl
/-- T(e, ..), T a built-in type -/
theorem pe_callTy (hc : CallR X (.type T) r) (hg : Gl X x) (hm : X.mg x = none) (hv : bootBuiltins x = some (.type T)) (ha : PA X (e :: es) t) (hn : x ≠ "__name__" := by decide) (hdb : (x == ("__debug__" : Str)) = false := by decide)
    (he : starEach (e :: es) X.env = (false, eval e X.env) :: starEach es X.env := by rfl) (hpl : (backTo pos (starEach es X.env)).any (·.1) = false := by rfl) : PE X (.Call (.Name x p) (e :: es) [] pos) (tCB r t) := by
  intro pins s σ H Q I h
  refine wpAny_Call_Name_kw (ld_blt I hg hm hv ?_ hn hdb)
  exact PyProof.Rows.callWith_type1 (thn (ha pos pins s σ H _ I h) fun us s1 ⟨vs, H1, I1, r1, q1⟩ => hc pins s1 σ H1 vs us Q I1 r1 q1) he hpl
end
end L2

namespace HT
open PySem PyProof.Rows

section
open PySem.SeqAt
open PySem.AutoSeq1 (wpAny_loadPart')
open PySem.MeetsSeq PySem.MeetsSeq2 PySem.MeetsSeq3

end

section
variable {prog : Program} {w : World} {A : Around} {E : Value → Shared → Prop} {s : Shared}

/-- a slice's bound as a place among n (d where it is left out) -/
def sIx (n d : Nat) : Option Int → Nat
  | none => d
  | some v => if v < 0 then (v + (n : Int)).toNat else min v.toNat n
theorem sIx_none (n d : Nat) : sIx n d none = d := rfl
theorem sIx_nat (n d k : Nat) : sIx n d (some (k : Int)) = min k n := by
  show (if (k : Int) < 0 then ((k : Int) + (n : Int)).toNat else min (k : Int).toNat n) = min k n
  rw [if_neg (by omega), Int.toNat_natCast]
end
end HT

namespace L2
open PySem PySem.Spec PyProof.Rows

abbrev TO := St → Hp → (Option Int → Hp → Prop) → Prop
/-- a slice's part (left out, or an int) -/
def PO (X : Cx) (e : Option Expr) (t : TO) : Prop :=
  ∀ (pins : List (Addr × Obj)) (s : Shared) (σ : St) (H : Hp) (Q : Option Int → Hp → Prop), Inv X pins σ H s → t σ H Q →
    wpAny (model X.prog X.w) X.A (evalPart e X.env) (fun u s' => ∃ o H', Inv X pins σ H' s' ∧ IsPart u o ∧ Q o H') X.xe s
def tNoPart : TO := fun _ H Q => Q none H
def tPart (t : TE) : TO := fun σ H Q => t σ H fun x H1 => ∃ i, x = .int i ∧ Q (some i) H1

section
variable {X : Cx} {e : Expr} {te : TE} {lo hi : Option Expr} {tl th : TO} {pos p2 : Pos}

theorem po_none : PO X none tNoPart := by
  intro pins s σ H Q I h
  rw [evalPart_none]
  exact wpAny_pure ⟨none, H, I, .none, h⟩
theorem po_some (h : PE X e te) : PO X (some e) (tPart te) := by
  intro pins s σ H Q I hw
  rw [evalPart_some]
  refine thn (h pins s σ H _ I hw) fun u s1 ⟨x, H1, I1, r1, q1⟩ => ?_
  obtain ⟨i, rfl, q⟩ := q1
  obtain ⟨t, rfl⟩ := r1
  exact ⟨some i, H1, I1, .int i t, q⟩

/-- what a slice of a value is, by values: the slice object stands at sl -/
def SlR (X : Cx) (r : V → Option Int → Option Int → Hp → VK → Prop) : Prop :=
  ∀ (pins : List (Addr × Obj)) (s : Shared) (σ : St) (H : Hp) (x : V) (v vl vu : Value) (lo hi : Option Int) (sl : Addr) (Q : VK), Inv X pins σ H s → RelV x v → s.heap.IsSliceOf sl vl vu .none → IsPart vl lo → IsPart vu hi → r x lo hi H Q →
    ∃ T id, typeLookup (.type T) "__getitem__" = pure (some (.builtin id)) ∧ s.TypeIs v T ∧ wpAny (model X.prog X.w) X.A (getItem v (.ref sl)) (EP X pins σ Q) X.xe s
theorem SlR.or {r r' : V → Option Int → Option Int → Hp → VK → Prop} (h : SlR X r) (h' : SlR X r') : SlR X (fun x lo hi H Q => r x lo hi H Q ∨ r' x lo hi H Q) := by
  intro pins s σ H x v vl vu lo hi sl Q I rx hs pl pu q
  rcases q with q | q
  · exact h pins s σ H x v vl vu lo hi sl Q I rx hs pl pu q
  · exact h' pins s σ H x v vl vu lo hi sl Q I rx hs pl pu q
def tSl (r : V → Option Int → Option Int → Hp → VK → Prop) (te : TE) (tl th : TO) : TE := fun σ H Q => te σ H fun x H1 => tl σ H1 fun l H2 => th σ H2 fun u H3 => r x l u H3 Q
/-- a[lo:hi], any a -/
theorem pe_slice {r : V → Option Int → Option Int → Hp → VK → Prop} (hr : SlR X r) (he : PE X e te) (hl : PO X lo tl) (hu : PO X hi th) : PE X (.Subscript e (.Slice lo hi none p2) pos) (tSl r te tl th) := by
  intro pins s σ H Q I h
  refine Subscript_ (thn (he pins s σ H _ I h) fun v s1 ⟨x, H1, I1, r1, q1⟩ => ?_)
  refine wpAny_Slice (thn (hl pins s1 σ H1 _ I1 q1) fun vl s2 ⟨l, H2, I2, pl, q2⟩ => thn (hu pins s2 σ H2 _ I2 q2) fun vu s3 ⟨u, H3, I3, pu, q3⟩ => ?_)
  rw [evalPart_none]
  refine wpAny_pure ?_
  have I4 : Inv X pins σ H3 { s3 with heap := s3.heap.push { cls := .type "slice", data := .fields #[vl, vu, .none] } } := I3.kept (t' := s3.toks) fun b ob q => Heap.get?_push_of_some _ q
  obtain ⟨T, id, hT, ht, hg⟩ := hr pins { s3 with heap := s3.heap.push { cls := .type "slice", data := .fields #[vl, vu, .none] } } σ H3 x v vl vu l u s3.heap.objs.size Q I4 r1 (Heap.IsSliceOf.new ..) pl pu q3
  show wpAny (model X.prog X.w) X.A (subscriptTail e (.Slice lo hi none p2) v (.ref s3.heap.objs.size)) (EP X pins σ Q) X.xe { s3 with heap := s3.heap.push { cls := .type "slice", data := .fields #[vl, vu, .none] } }
  exact tail_any (ops := [.ref s3.heap.objs.size, v]) ht hT hg (by with_unfolding_all rfl)

/-- the items of xs[lo:hi] -/
def cutV (xs : List V) (lo hi : Option Int) : List V := (xs.drop (HT.sIx xs.length 0 lo)).take (HT.sIx xs.length xs.length hi - HT.sIx xs.length 0 lo)
theorem cutV_length (xs : List V) (lo hi : Option Int) : (cutV xs lo hi).length ≤ xs.length := by
  unfold cutV
  rw [List.length_take, List.length_drop]
  omega
end
end L2

namespace L2
open PySem PySem.Spec PyProof.Rows

/-- the place that an index of any sign means -/
def ixN (n : Nat) (i : Int) : Option Nat := if 0 ≤ i then (if i < n then some i.toNat else none) else if -(n : Int) ≤ i then some (i + n).toNat else none
def atI {α : Type} (xs : List α) (i : Int) : Option α := (ixN xs.length i).bind fun j => xs[j]?
theorem ixN_seq {n : Nat} {i : Int} {j : Nat} (h : ixN n i = some j) : seqIndex? i n = some j ∧ j < n ∧ -(n : Int) ≤ i ∧ i < n := by
  unfold ixN at h
  by_cases h0 : 0 ≤ i
  · rw [if_pos h0] at h
    by_cases h1 : i < n
    · rw [if_pos h1] at h
      have e : i.toNat = j := Option.some.inj h
      exact ⟨by rw [seqIndex_of h0 h1, e], by omega, by omega, h1⟩
    · rw [if_neg h1] at h; cases h
  · rw [if_neg h0] at h
    by_cases h1 : -(n : Int) ≤ i
    · rw [if_pos h1] at h
      have e : (i + n).toNat = j := Option.some.inj h
      exact ⟨by rw [seqIndex_neg (by omega) h1, e], by omega, h1, by omega⟩
    · rw [if_neg h1] at h; cases h
theorem atI_get {α : Type} {xs : List α} {i : Int} {v : α} (h : atI xs i = some v) : ∃ j, seqIndex? i xs.length = some j ∧ xs[j]? = some v ∧ j < xs.length ∧ -(xs.length : Int) ≤ i ∧ i < xs.length := by
  unfold atI at h
  cases e : ixN xs.length i with
  | none => rw [e] at h; cases h
  | some j =>
    rw [e] at h
    obtain ⟨h1, h2, h3, h4⟩ := ixN_seq e
    exact ⟨j, h1, h, h2, h3, h4⟩
theorem atI_nat {α : Type} {xs : List α} {j : Nat} {v : α} (h : xs[j]? = some v) : atI xs (j : Int) = some v := by
  have hj : j < xs.length := (List.getElem?_eq_some_iff.mp h).1
  have e : ixN xs.length (j : Int) = some j := by
    unfold ixN
    rw [if_pos (by omega), if_pos (by omega)]; simp
  unfold atI; rw [e]; exact h
theorem atI_last {α : Type} (xs : List α) (v : α) : atI (xs ++ [v]) (-1) = some v := by
  have hl : (xs ++ [v]).length = xs.length + 1 := by simp
  have e : ixN (xs ++ [v]).length (-1) = some xs.length := by
    unfold ixN
    rw [hl, if_neg (by decide), if_pos (by omega)]
    congr 1
    omega
  unfold atI
  rw [e]
  show (xs ++ [v])[xs.length]? = some v
  simp

/-- what stands as an index of a plain subscript -/
def PlainIx (b : Expr) : Prop := ∀ o i, subscripted b false o i = operate [o, i] (getItem o i)
/-- a subscript by values -/
def IxR (X : Cx) (r : R2) : Prop :=
  ∀ (value slice : Expr) (pins : List (Addr × Obj)) (s : Shared) (σ : St) (H : Hp) (x y : V) (v u : Value) (Q : VK), Inv X pins σ H s → RelV x v → RelV y u → r x y H Q →
    subscripted slice false v u = operate [v, u] (getItem v u) → wpAny (model X.prog X.w) X.A (subscriptTail value slice v u) (EP X pins σ Q) X.xe s
/-- a call of a builtin's method by values: the receiver, the arguments -/
def MtR (X : Cx) (id : String) (r : V → List V → Hp → VK → Prop) : Prop :=
  ∀ (pins : List (Addr × Obj)) (s : Shared) (σ : St) (H : Hp) (x : V) (xs : List V) (v : Value) (us : List Value) (Q : VK), Inv X pins σ H s → RelV x v → Vals xs us → r x xs H Q →
    wpAny (model X.prog X.w) X.A (call (.builtin id) (v :: us)) (EP X pins σ Q) X.xe s
section
variable {X : Cx} {a b : Expr} {ta tb : TE} {pos : Pos}
theorem IxR.or {r r' : R2} (h : IxR X r) (h' : IxR X r') : IxR X (fun x y H Q => r x y H Q ∨ r' x y H Q) := by
  intro value slice pins s σ H x y v u Q I rx ry q hs
  rcases q with q | q
  · exact h value slice pins s σ H x y v u Q I rx ry q hs
  · exact h' value slice pins s σ H x y v u Q I rx ry q hs
theorem MtR.or {id : String} {r r' : V → List V → Hp → VK → Prop} (h : MtR X id r) (h' : MtR X id r') : MtR X id (fun x xs H Q => r x xs H Q ∨ r' x xs H Q) := by
  intro pins s σ H x xs v us Q I rx rs q
  rcases q with q | q
  · exact h pins s σ H x xs v us Q I rx rs q
  · exact h' pins s σ H x xs v us Q I rx rs q
/-- a[b] -/
theorem pe_ix {r : R2} (hr : IxR X r) (ha : PE X a ta) (hb : PE X b tb) (hs : PlainIx b) : PE X (.Subscript a b pos) (tOp r ta tb) := by
  intro pins s σ H Q I h
  exact Subscript_ (binT ha hb I h fun v u s2 x y H2 I2 rx ry q => hr a b pins s2 σ H2 x y v u Q I2 rx ry q (hs _ _))

def rIxL (K : PySem.W.Frag) : R2 := fun x y H Q => ∃ p xs i v, x = .ref p ∧ y = .int i ∧ SqL K H p xs ∧ atI xs i = some v ∧ Q v H
def rIxT (K : PySem.W.Frag) : R2 := fun x y H Q => ∃ p xs i v, x = .ref p ∧ y = .int i ∧ SqT K H p xs ∧ atI xs i = some v ∧ Q v H
theorem ix_list : IxR X (rIxL X.K) := by
  intro value slice pins s σ H x y v u Q I rx ry h hs
  obtain ⟨p, xs, i, z, rfl, rfl, hq, he, q⟩ := h
  cases rx
  obtain ⟨t, rfl⟩ := ry
  obtain ⟨its, r, pl, hz⟩ := I.list hq
  obtain ⟨j, h1, h2, h3, h4, h5⟩ := atI_get he
  obtain ⟨w, ew, rw'⟩ := r.get h2
  have hl := r.length
  have hn := line63
  have fin : EP X pins σ Q w s := ⟨z, H, I, rw', q⟩
  by_cases h0 : 0 ≤ i
  · have hj : i.toNat = j := by
      rw [seqIndex_of h0 h5] at h1
      exact Option.some.inj h1
    exact item_listR pl.isList h0 (by omega) (by rw [hj]; simpa using ew) fin hs
  · have hj : (i + (its.toArray.size : Int)).toNat = j := by
      rw [seqIndex_neg (by omega) h4] at h1
      rw [List.size_toArray, ← hl]
      exact Option.some.inj h1
    exact subscriptTail_builtinR (x := w) pl.isList.typeIs slot_list_getitem.lookup
      (wpAny_getItem_list_neg (Q := fun r s' => r = w ∧ EP X pins σ Q r s') pl.isList (by omega) (by rw [List.size_toArray] <;> omega) (by omega) (by rw [hj]; simpa using ew) ⟨rfl, fin⟩) hs
theorem ix_tup : IxR X (rIxT X.K) := by
  intro value slice pins s σ H x y v u Q I rx ry h hs
  obtain ⟨p, xs, i, z, rfl, rfl, hq, he, q⟩ := h
  cases rx
  obtain ⟨t, rfl⟩ := ry
  obtain ⟨its, r, pl, hz⟩ := I.tuple hq
  obtain ⟨j, h1, h2, h3, h4, h5⟩ := atI_get he
  obtain ⟨w, ew, rw'⟩ := r.get h2
  have hl := r.length
  have hn := line63
  have fin : EP X pins σ Q w s := ⟨z, H, I, rw', q⟩
  exact subscriptTail_builtinR (x := w) pl.typeIs slot_tuple_getitem.lookup
    (getItem_tuple (j := j) (Q := fun r s' => r = w ∧ EP X pins σ Q r s') pl (by omega) (by omega) (by rw [List.size_toArray, ← hl]; exact h1) (by simpa using ew) ⟨rfl, fin⟩) hs
/-- the list's object behind a store -/
theorem mapSeq_set (its : List Value) (n j : Nat) (u : Value) : Obj.mapSeq (·.setIfInBounds j u) { cls := .type "list", data := .seq its.toArray n } = { cls := .type "list", data := .seq (its.set j u).toArray n } := by
  simp [Obj.mapSeq]
theorem Inv.lst {pins : List (Addr × Obj)} {σ : St} {H : Hp} {s : Shared} {p : Addr} {xs : List V} (I : Inv X pins σ H s) (h : H p = some (.lst xs)) :
    ∃ (its : List Value) (n : Nat), Vals xs its ∧ s.heap.get? p = some { cls := .type "list", data := .seq its.toArray n } ∧ xs.length ≤ sizeLine := by
  obtain ⟨z, its, n, r, e⟩ := I.hok p _ h
  exact ⟨its, n, r, e, z⟩
/-- the list at p is written by an update of its object -/
theorem Inv.lstUpd {pins : List (Addr × Obj)} {σ : St} {H : Hp} {s : Shared} {p : Addr} {xs ys : List V} {its its' : List Value} {n n' : Nat} {f : Obj → Obj} (I : Inv X pins σ H s) (h : H p = some (.lst xs))
    (ho : s.heap.get? p = some { cls := .type "list", data := .seq its.toArray n }) (hf : f { cls := .type "list", data := .seq its.toArray n } = { cls := .type "list", data := .seq its'.toArray n' }) (r : Vals ys its') (hz : ys.length ≤ sizeLine) (t : Nat) :
    Inv X pins σ (upd H p (.lst ys)) { s with heap := s.heap.update p f, toks := t } := by
  have e : (s.heap.update p f).get? p = some { cls := .type "list", data := .seq its'.toArray n' } := by
    rw [Heap.get?_update_self f ho (by rw [hf] <;> rfl), hf]
  refine I.write (x := p) (e := p) (by rw [h]; trivial) (.inl rfl) (fun b u hb q => (Heap.get?_update_other _ _ (Ne.symm hb)).trans q) ⟨_, e⟩ ?_
  exact ⟨hz, its', n', r, e⟩
def rSetL : V → V → V → Hp → (Hp → Prop) → Prop := fun o i v H Q => ∃ p xs k j, o = .ref p ∧ i = .int k ∧ H p = some (.lst xs) ∧ ixN xs.length k = some j ∧ Q (upd H p (.lst (xs.set j v)))
theorem set_list : PSet X rSetL := by
  intro pins s σ H o i v ov iv u Q I ro ri rv h
  obtain ⟨p, xs, k, j, rfl, rfl, hp, hj, q⟩ := h
  cases ro
  obtain ⟨t, rfl⟩ := ri
  obtain ⟨its, n, r, ho, hz⟩ := I.lst hp
  obtain ⟨h1, h2, h3, h4⟩ := ixN_seq hj
  have hl := r.length
  have hn := line63
  have I' : Inv X pins σ (upd H p (.lst (xs.set j v))) { s with heap := s.heap.update p (Obj.mapSeq (·.setIfInBounds j u)) } :=
    I.lstUpd hp ho (mapSeq_set its n j u) (r.set rv j) (by rw [List.length_set]; exact hz) s.toks
  by_cases h0 : 0 ≤ k
  · have hk : k.toNat = j := by
      rw [seqIndex_of h0 h4] at h1
      exact Option.some.inj h1
    exact PySem.W.ki_setAt ho h0 (by omega) (by rw [List.size_toArray, ← hl]; exact h4) (by rw [hk]; exact ⟨_, I', q⟩)
  · have hk : (k + (its.toArray.size : Int)).toNat = j := by
      rw [seqIndex_neg (by omega) h3] at h1
      rw [List.size_toArray, ← hl]
      exact Option.some.inj h1
    exact PySem.W.ki_setBack ho (by omega) (by rw [List.size_toArray, ← hl]; exact h3) (by omega) (by rw [hk]; exact ⟨_, I', q⟩)

theorem slice_bounds (lo hi : Option Int) (n : Nat) : (sliceBounds lo hi none n).1 = ((HT.sIx n 0 lo : Nat) : Int) ∧ (sliceBounds lo hi none n).2.1 = ((HT.sIx n n hi : Nat) : Int) ∧ (sliceBounds lo hi none n).2.2 = 1 := by
  refine ⟨?_, ?_, rfl⟩
  · cases lo with
    | none => simp [sliceBounds, HT.sIx]
    | some i =>
      simp only [sliceBounds, HT.sIx, Option.getD_none, show (1 : Int) > 0 by decide, if_true]
      by_cases h : i < 0
      · simp only [h, if_true] <;> omega
      · simp only [h, if_false] <;> omega
  · cases hi with
    | none => simp [sliceBounds, HT.sIx]
    | some i =>
      simp only [sliceBounds, HT.sIx, Option.getD_none, show (1 : Int) > 0 by decide, if_true]
      by_cases h : i < 0
      · simp only [h, if_true] <;> omega
      · simp only [h, if_false] <;> omega
theorem slicePick_cut (its : List Value) (lo hi : Option Int) : slicePick its.toArray lo hi none = ((its.drop (HT.sIx its.length 0 lo)).take (HT.sIx its.length its.length hi - HT.sIx its.length 0 lo)).toArray := by
  obtain ⟨h1, h2, h3⟩ := slice_bounds lo hi its.toArray.size
  unfold slicePick
  rw [h1, h2, h3]
  simp only [sliceRange_one, pick_run, List.size_toArray] <;> rfl
/-- xs[lo:hi] of a list: a new list -/
def rSlL (K : PySem.W.Frag) : V → Option Int → Option Int → Hp → VK → Prop := fun x lo hi H Q => ∃ a xs, x = .ref a ∧ SqL K H a xs ∧ ∀ p, H p = none → Q (.ref p) (upd H p (.lst (cutV xs lo hi)))
theorem sl_list : SlR X (rSlL X.K) := by
  intro pins s σ H x v vl vu lo hi sl Q I rx hs pl pu h
  obtain ⟨a, xs, rfl, hx, q⟩ := h
  cases rx
  obtain ⟨its, r, ht, hz⟩ := I.list hx
  have hlen := r.length
  refine ⟨"list", _, slot_list_getitem.lookup, ht.isList.typeIs, ?_⟩
  refine wpAny_getItem_list_slice ht.isList hs pl pu .none (by simp) ?_ (by rw [List.size_toArray] <;> omega)
  rw [slicePick_cut, ← hlen]
  refine ⟨.ref s.heap.objs.size, _, I.laid (t' := s.toks) (o := .lst (cutV xs lo hi)) (fun b ob q => Heap.get?_push_of_some _ q) (Nat.le_refl _) ?_, rfl, q _ (I.hok.fresh (Nat.le_refl _))⟩
  exact ⟨Nat.le_trans (cutV_length xs lo hi) hz, _, 0, (r.drop (HT.sIx xs.length 0 lo)).take (HT.sIx xs.length xs.length hi - HT.sIx xs.length 0 lo), Heap.get?_push_size _ rfl⟩

theorem call_len_seq : CallR X (.builtin "len") (fun xs H Q => ∃ p ys, xs = [.ref p] ∧ (SqL X.K H p ys ∨ SqT X.K H p ys) ∧ Q (.int ys.length) H) := by
  intro pins s σ H xs us Q I r h
  obtain ⟨p, ys, rfl, hq, q⟩ := h
  obtain ⟨u, rfl, rx⟩ := vals1 r
  cases rx
  have hn := line63
  rcases hq with hq | hq
  · obtain ⟨its, r', pl, hz⟩ := I.list hq
    have hlen := r'.length
    exact Calls.call_len_list pl.isList (by simp only [List.size_toArray] <;> omega) ⟨.int ys.length, H, I.tok _, ⟨s.toks + 1, by rw [List.size_toArray, hlen]⟩, q⟩
  · obtain ⟨its, r', pl, hz⟩ := I.tuple hq
    have hlen := r'.length
    exact len_tuple pl (by simp only [List.size_toArray] <;> omega) ⟨.int ys.length, H, I.tok _, ⟨s.toks + 1, by rw [List.size_toArray, hlen]⟩, q⟩
theorem CallR.or {f : Value} {r r' : List V → Hp → VK → Prop} (h : CallR X f r) (h' : CallR X f r') : CallR X f (fun xs H Q => r xs H Q ∨ r' xs H Q) := by
  intro pins s σ H xs us Q I rs q
  rcases q with q | q
  · exact h pins s σ H xs us Q I rs q
  · exact h' pins s σ H xs us Q I rs q
theorem call_list_of : CallR X (.type "list") (fun xs H Q => ∃ p ys, xs = [.ref p] ∧ (SqL X.K H p ys ∨ SqT X.K H p ys) ∧ ∀ l, H l = none → Q (.ref l) (upd H l (.lst ys))) := by
  intro pins s σ H xs us Q I r h
  obtain ⟨p, ys, rfl, hq, q⟩ := h
  obtain ⟨u, rfl, rx⟩ := vals1 r
  cases rx
  have fin : ∀ (its : List Value), Vals ys its → ys.length ≤ sizeLine → ∀ (h' : Heap) (c' : Nat), (∀ b o', s.heap.get? b = some o' → h'.get? b = some o') →
      h'.get? s.heap.objs.size = some { cls := .type "list", dict := none, data := .seq its.toArray c', slots := #[] } → EP X pins σ Q (.ref s.heap.objs.size) { s with heap := h' } := fun its r' hz h' c' kp e =>
    ⟨.ref s.heap.objs.size, _, I.laid (t' := s.toks) kp (Nat.le_refl _) (show ObjOk X.prog X.w _ h' _ (.lst ys) from ⟨hz, its, c', r', e⟩), rfl, q _ (I.hok.fresh (Nat.le_refl _))⟩
  rcases hq with hq | hq
  · obtain ⟨its, r', pl, hz⟩ := I.list hq
    have hlen := r'.length
    obtain ⟨o, ho, hc, n, hd⟩ := pl.isList
    exact call_list_seq p (.inl rfl) ho hc hd (fun h' c' kp e => fin its r' hz h' c' kp e) (by simp only [List.size_toArray] <;> omega)
  · obtain ⟨its, r', pl, hz⟩ := I.tuple hq
    have hlen := r'.length
    obtain ⟨o, ho, hc, n, hd⟩ := pl
    exact call_list_seq p (.inr rfl) ho hc hd (fun h' c' kp e => fin its r' hz h' c' kp e) (by simp only [List.size_toArray] <;> omega)
/-- the value is of that builtin type -/
def tyV (K : PySem.W.Frag) (T : String) (x : V) (H : Hp) : Prop := match x with
  | .str _ => T = "str"
  | .int _ => T = "int"
  | .ref p => (T = "list" ∧ ∃ xs, SqL K H p xs) ∨ (T = "tuple" ∧ ∃ o, K.lookup p = some o ∧ o.cls = .type "tuple" ∧ o.dict = none) ∨
      (T = "dict" ∧ ((∃ kvs, H p = some (.dK kvs)) ∨ ∃ kvs, H p = some (.dT kvs))) ∨ (T = "set" ∧ ∃ S n, H p = some (.set S n))
  | _ => False
theorem tyV_is {pins : List (Addr × Obj)} {σ : St} {H : Hp} {s : Shared} {T : String} {x : V} {v : Value} (I : Inv X pins σ H s) (r : RelV x v) (ty : tyV X.K T x H) :
    s.TypeIs v T ∧ ∀ a, v = .ref a → ∃ ob, s.heap.get? a = some ob ∧ ob.dict = none := by
  cases x with
  | str z =>
    obtain ⟨t, rfl⟩ := r
    cases (show T = "str" from ty)
    exact ⟨typeIs_str s z t, fun _ e => nomatch e⟩
  | int i =>
    obtain ⟨t, rfl⟩ := r
    cases (show T = "int" from ty)
    exact ⟨typeIs_int s i t, fun _ e => nomatch e⟩
  | ref p =>
    cases r
    rcases ty with ⟨rfl, xs, hq⟩ | ⟨rfl, o, hk, hc, hd⟩ | ⟨rfl, hk⟩ | ⟨rfl, S, n, hk⟩
    · obtain ⟨its, _, pl, _⟩ := I.list hq
      refine ⟨pl.isList.typeIs, fun a e => ?_⟩
      cases e
      obtain ⟨o, n, e, c, hd, _⟩ := pl
      exact ⟨o, e, hd⟩
    · refine ⟨⟨o, I.kIn p o hk, hc⟩, fun a e => ?_⟩
      cases e
      exact ⟨o, I.kIn _ o hk, hd⟩
    · have z : ∃ o, s.heap.get? p = some o ∧ o.ExactDict := by
        rcases hk with ⟨kvs, hk⟩ | ⟨kvs, hk⟩
        · obtain ⟨_, _, _, _, o, _, _, e, ex, _⟩ := I.hok p _ hk
          exact ⟨o, e, ex⟩
        · obtain ⟨_, _, _, _, o, _, _, e, ex, _⟩ := I.hok p _ hk
          exact ⟨o, e, ex⟩
      obtain ⟨o, e, ex⟩ := z
      refine ⟨⟨o, e, ex.1⟩, fun a e2 => ?_⟩
      cases e2
      exact ⟨o, e, ex.2.1⟩
    · obtain ⟨o, _, _, _, e, ex, _⟩ := I.hok p _ hk
      refine ⟨⟨o, e, ex.1⟩, fun a e2 => ?_⟩
      cases e2
      exact ⟨o, e, ex.2.1⟩
  | _ => exact False.elim ty
def tBM (K : PySem.W.Frag) (T : String) (r : V → List V → Hp → VK → Prop) (to : TE) (t : TA) : TE := fun σ H Q => to σ H fun x H1 => tyV K T x H1 ∧ t σ H1 fun xs H2 => r x xs H2 Q
variable {o e : Expr} {es : List Expr} {to : TE} {t : TA} {name : Str} {apos cpos : Pos} {T id : String} {r : V → List V → Hp → VK → Prop}
theorem pe_bm (pa : PlainAttrs T) (slot : Slot T name id) (hty : typeOf (.builtin id) = pure (.type "method_descriptor")) (hm : MtR X id r) (ho : PE X o to) (ha : PA X (e :: es) t)
    (hbase : attributeBase o name X.env (eval o X.env) = eval o X.env := by rfl)
    (hfew : ((backTo cpos (starEach (e :: es) X.env)).all (fun x => !x.1) && (backToKw cpos (keywordEach [] X.env)).all (fun x => x.1.isSome)
      && decide ((e :: es).length + ([] : List Keyword).length + (if ([] : List Keyword).isEmpty then 0 else 1) < 30)) = true := by rfl)
    (hline : (apos.endLine == cpos.line) = true := by rfl) (hs : starEach (e :: es) X.env = (false, eval e X.env) :: starEach es X.env := by rfl) (hplain : (backTo cpos (starEach es X.env)).any (·.1) = false := by rfl) :
    PE X (.Call (.Attribute o name apos) (e :: es) [] cpos) (tBM X.K T r to t) := by
  intro pins s σ H Q I h
  refine wpAny_Call_method_late hbase hfew hline rfl (thn (ho pins s σ H _ I h) fun v s1 ⟨x, H1, I1, r1, ty, q1⟩ => ?_)
  obtain ⟨h1, h2⟩ := tyV_is I1 r1 ty
  refine ⟨T, id, pa, slot, hty, h1, h2, ?_⟩
  have hA := ha cpos pins s1 σ H1 _ I1 q1
  rw [hs] at hA ⊢
  refine Calls.callWith_builtin (by show (false || (backTo cpos (starEach es X.env)).any (·.1)) = false; rw [hplain] <;> rfl) (Calls.evalArgs_plain ?_)
  exact thn hA fun us s2 ⟨vs, H2, I2, r2, q2⟩ => hm pins s2 σ H2 x vs v us Q I2 r1 r2 q2
end
end L2

namespace L2
open PySem PySem.Spec PyProof.Rows

def MtM (X : Cx) (id : String) (r : V → List V → Hp → VK → Prop) : Prop :=
  ∀ (pins : List (Addr × Obj)) (s : Shared) (σ : St) (H : Hp) (x : V) (xs : List V) (v : Value) (us : List Value) (Q : VK), Inv X pins σ H s → RelV x v → Vals xs us → r x xs H Q →
    wpAny (model X.prog X.w) X.A (call (.builtin id) (v :: us)) (EP X pins σ Q) X.xe s

theorem Vals.one : ∀ {x : V} {us : List Value}, Vals [x] us → ∃ u, us = [u] ∧ RelV x u
  | _, _, .cons r .nil => ⟨_, rfl, r⟩
theorem Vals.two : ∀ {x y : V} {us : List Value}, Vals [x, y] us → ∃ u v, us = [u, v] ∧ RelV x u ∧ RelV y v
  | _, _, _, .cons r (.cons q .nil) => ⟨_, _, rfl, r, q⟩
theorem Vals.zero : ∀ {us : List Value}, Vals [] us → us = []
  | _, .nil => rfl
theorem Vals.dropLast {xs : List V} {us : List Value} (h : Vals xs us) : Vals xs.dropLast us.dropLast := by
  induction h with
  | nil => exact .nil
  | cons r t ih =>
    cases t with
    | nil => exact .nil
    | cons q t' => exact .cons r ih
theorem Vals.rep {xs : List V} {us : List Value} (h : Vals xs us) : ∀ k : Nat, Vals (List.replicate k xs).flatten (List.replicate k us).flatten
  | 0 => .nil
  | k + 1 => by
    rw [List.replicate_succ, List.replicate_succ, List.flatten_cons, List.flatten_cons]
    exact Vals.append h (Vals.rep h k)
theorem foldl_rep (its : List Value) : ∀ (k : Nat) (acc : List Value),
    List.foldl (fun x1 x2 => x1 ++ x2) acc.toArray (List.replicate k its.toArray) = (acc ++ (List.replicate k its).flatten).toArray
  | 0, acc => by simp
  | k + 1, acc => by
    have e : acc.toArray ++ its.toArray = (acc ++ its).toArray := by simp
    have e2 : (acc ++ its) ++ (List.replicate k its).flatten = acc ++ (List.replicate (k + 1) its).flatten := by
      rw [List.replicate_succ, List.flatten_cons, List.append_assoc]
    rw [← e2, ← foldl_rep its k (acc ++ its), ← e, List.replicate_succ, List.foldl_cons]

section
variable {X : Cx} {pins : List (Addr × Obj)} {σ : St} {H : Hp} {s : Shared} {l b : Addr} {xs ys zs : List V}

theorem Inv.lset {its its' : List Value} {n : Nat} {f : Array Value → Array Value} {t' : Nat} (I : Inv X pins σ H s) (hH : H l = some (.lst xs))
    (e : s.heap.get? l = some { cls := .type "list", data := .seq its.toArray n }) (hf : f its.toArray = its'.toArray) (hv : Vals ys its') (hz : ys.length ≤ sizeLine) :
    Inv X pins σ (upd H l (.lst ys)) { s with heap := s.heap.update l (Obj.mapSeq f), toks := t' } := by
  have q := PySem.IsL.update e f
  rw [hf] at q
  refine I.write (x := l) (e := l) (by rw [hH]; exact trivial) (.inl rfl) (fun b' u hb hu => (Heap.get?_update_other s.heap (Obj.mapSeq f) (Ne.symm hb)).trans hu) ⟨_, q⟩ ?_
  exact ⟨hz, its', _, hv, q⟩
theorem Inv.lnew {its : List Value} {t' : Nat} (I : Inv X pins σ H s) (hv : Vals ys its) (hz : ys.length ≤ sizeLine) :
    Inv X pins σ (upd H s.heap.objs.size (.lst ys)) { s with heap := s.heap.push { cls := .type "list", data := .seq its.toArray }, toks := t' } :=
  I.laid (fun _ _ q => Heap.get?_push_of_some _ q) (Nat.le_refl _) ⟨hz, its, 0, hv, Heap.get?_push_size _ rfl⟩
theorem Inv.fresh (I : Inv X pins σ H s) : H s.heap.objs.size = none := I.hok.fresh (Nat.le_refl _)
theorem Inv.lstM (I : Inv X pins σ H s) (hH : H l = some (.lst xs)) : xs.length ≤ sizeLine ∧ ∃ (its : List Value) (n : Nat), Vals xs its ∧ xs.length = its.length ∧ s.heap.get? l = some { cls := .type "list", data := .seq its.toArray n } := by
  obtain ⟨z, its, n, r, e⟩ := I.hok l _ hH
  exact ⟨z, its, n, r, r.length, e⟩

theorem notLongL {n : Nat} (h : n ≤ sizeLine) : Builtin.List.listTooLong n = false := by
  unfold Builtin.List.listTooLong
  exact decide_eq_false (by omega)
end

section
variable {X : Cx}

def rAppend : V → List V → Hp → VK → Prop := fun x vs H Q => ∃ l xs y, x = .ref l ∧ vs = [y] ∧ H l = some (.lst xs) ∧ xs.length < sizeLine ∧ Q .non (upd H l (.lst (xs ++ [y])))
theorem mt_append : MtM X "list.append" rAppend := by
  intro pins s σ H x vs v us Q I rx rv h
  obtain ⟨l, xs, y, rfl, rfl, hH, hz, q⟩ := h
  cases rx
  obtain ⟨u, rfl, ru⟩ := rv.one
  obtain ⟨z, its, n, r, hl, e⟩ := I.lstM hH
  refine call_meets F.slot_list_append ⟨_, e, rfl⟩ F.entry_list_append (F.args_list_append_2 _ _) (PySem.list_append l its.toArray n u (by rw [List.size_toArray]; omega)) ⟨e, ?_⟩
  refine ⟨.non, _, I.lset (its' := its ++ [u]) hH e (by simp) (r.append (.cons ru .nil)) ?_, rfl, q⟩
  rw [List.length_append, List.length_singleton]
  omega

def rExtend : V → List V → Hp → VK → Prop := fun x vs H Q => ∃ l b xs zs, x = .ref l ∧ vs = [.ref b] ∧ H l = some (.lst xs) ∧ H b = some (.lst zs) ∧ xs.length + zs.length ≤ sizeLine ∧ Q .non (upd H l (.lst (xs ++ zs)))
theorem mt_extend : MtM X "list.extend" rExtend := by
  intro pins s σ H x vs v us Q I rx rv h
  obtain ⟨l, b, xs, zs, rfl, rfl, hH, hB, hz, q⟩ := h
  cases rx
  obtain ⟨u, rfl, ru⟩ := rv.one
  cases ru
  obtain ⟨z, its, n, r, hl, e⟩ := I.lstM hH
  obtain ⟨z2, its2, n2, r2, hl2, e2⟩ := I.lstM hB
  have hsz : its.toArray.size + its2.toArray.size ≤ sizeLine := by rw [List.size_toArray, List.size_toArray]; omega
  have hlong : ¬ (!its.toArray.isEmpty && Builtin.List.listTooLong (its.toArray.size + its2.toArray.size)) = true := by
    rw [notLongL hsz, Bool.and_false]
    exact Bool.false_ne_true
  refine call_meets F.slot_list_extend ⟨_, e, rfl⟩ F.entry_list_extend (F.args_list_extend_2 _ _)
    (AutoSeq1.list_extend_list_list_0 l its.toArray n b its2.toArray n2 hlong (by rw [List.size_toArray]; omega) (by omega)) ⟨e, e2, ?_⟩
  refine ⟨.non, _, I.lset (its' := its ++ its2) hH e (by simp) (r.append r2) ?_, rfl, q⟩
  rw [List.length_append]
  omega

def rCat : R2 := fun x y H Q => ∃ l b xs zs, x = .ref l ∧ y = .ref b ∧ H l = some (.lst xs) ∧ H b = some (.lst zs) ∧ xs.length + zs.length ≤ sizeLine ∧ ∀ p, H p = none → Q (.ref p) (upd H p (.lst (xs ++ zs)))
theorem op_cat : OpR X (binaryOp .Add) rCat := by
  intro pins s σ H x y v u Q I rx ry h
  obtain ⟨l, b, xs, zs, rfl, rfl, hH, hB, hz, q⟩ := h
  cases rx
  cases ry
  obtain ⟨z, its, n, r, hl, e⟩ := I.lstM hH
  obtain ⟨z2, its2, n2, r2, hl2, e2⟩ := I.lstM hB
  refine PySem.P.add_list e e2 ?_ (by rw [List.size_toArray, List.size_toArray]; omega)
  have ea : its.toArray ++ its2.toArray = (its ++ its2).toArray := by simp
  rw [ea]
  exact ⟨.ref _, _, I.lnew (t' := s.toks) (r.append r2) (by rw [List.length_append]; omega), rfl, q _ I.fresh⟩
/-- a list times an int (a negative one is nothing) -/
def rRep : R2 := fun x y H Q => ∃ l k xs, x = .ref l ∧ y = .int k ∧ H l = some (.lst xs) ∧ -(2 ^ 63) ≤ k ∧ k < 2 ^ 63 ∧ xs.length * k.toNat ≤ sizeLine ∧
  ∀ p, H p = none → Q (.ref p) (upd H p (.lst (List.replicate k.toNat xs).flatten))
theorem len_rep {α : Type} (xs : List α) (k : Nat) : (List.replicate k xs).flatten.length = k * xs.length := by
  induction k with
  | zero => simp
  | succ k ih => rw [List.replicate_succ, List.flatten_cons, List.length_append, ih, Nat.succ_mul, Nat.add_comm]
theorem op_rep : OpR X (binaryOp .Mult) rRep := by
  intro pins s σ H x y v u Q I rx ry h
  obtain ⟨l, k, xs, rfl, rfl, hH, h1, h2, hz, q⟩ := h
  cases rx
  obtain ⟨t, rfl⟩ := ry
  obtain ⟨z, its, n, r, hl, e⟩ := I.lstM hH
  have hlen : its.toArray.size * k.toNat ≤ sizeLine := by rw [List.size_toArray, ← hl]; exact hz
  have hcap : ¬ its.toArray.size * k.toNat > (2 ^ 63 - 1) / 8 := by
    have : (sizeLine : Nat) ≤ (2 ^ 63 - 1) / 8 := by decide
    omega
  have hfit : ¬ (!Builtin.List.listFitsIndex k) = true := by
    rw [fitsIndex_both h1 h2]
    exact Bool.false_ne_true
  have hlong : ¬ Builtin.List.listTooLong (its.toArray.size * k.toNat) = true := by
    rw [notLongL hlen]
    exact Bool.false_ne_true
  have hnew : List.foldl (fun x1 x2 => x1 ++ x2) #[] (List.replicate (if its.toArray.isEmpty = true then 0 else k.toNat) its.toArray) = (List.replicate k.toNat its).flatten.toArray := by
    have f0 : ∀ m : Nat, List.foldl (fun x1 x2 => x1 ++ x2) #[] (List.replicate m its.toArray) = (List.replicate m its).flatten.toArray := fun m => by
      have := foldl_rep its m []
      rw [List.nil_append] at this
      exact this
    rw [f0]
    cases its with
    | nil => simp
    | cons a r' => rw [if_neg (by simp)]
  refine wpAny_binaryOp_repeat_ref (T := "list") (U := "int") (by decide) ⟨_, e, rfl⟩ (fun s' => typeIs_int s' k t) noFill_list_mul F.fills_int_mul F.slot_int_rmul repeat_list F.slot_int_index.lookup
    (call_meets F.slot_int_rmul (typeIs_int s k t) F.entry_int_rmul (F.args_int_rmul_2 _ _) (int___rmul___int_list k t l its.toArray n)
      ⟨e, rfl, ⟨_, e, rfl⟩, call_meets F.slot_list_mul ⟨_, e, rfl⟩ F.entry_list_mul (F.args_list_mul_2 _ _) (AutoListH.list___mul___list_int_3 l its.toArray n k t hfit hcap hlong) ⟨e, ?_⟩⟩)
  rw [hnew]
  exact ⟨.ref _, _, I.lnew (t' := s.toks) (r.rep k.toNat) (by rw [len_rep, Nat.mul_comm]; exact hz), rfl, q _ I.fresh⟩

end

section
variable {prog : Program} {w : World} {A : Around} {E : Value → Shared → Prop} {s : Shared}
set_option maxRecDepth 100000 in
end

section
variable {X : Cx}
end
end L2

namespace L2
open PySem PySem.Spec PyProof.Rows

theorem Vals.ints : ∀ {ns : List Int} {us : List Value}, Vals (ns.map V.int) us → IntsAre us ns
  | [], us, h => by
    rw [List.map_nil] at h
    cases h
    exact IntsAre.nil
  | n :: ns, us, h => by
    rw [List.map_cons] at h
    cases h with
    | cons r t =>
      obtain ⟨k, rfl⟩ := r
      exact IntsAre.cons n k (Vals.ints t)
theorem Vals.ref1 {a : Addr} {us : List Value} (r : Vals [V.ref a] us) : us = [Value.ref a] := by
  cases r with
  | cons r t =>
    cases t
    cases r
    rfl
section
variable {prog : Program} {w : World} {A : Around} {E : Value → Shared → Prop} {s : Shared} {l : Addr} {its : List Value} {ns : List Int} {Q : Value → Shared → Prop}
theorem sum_raw (hh : A.handled = none) (hl : s.heap.IsList l its.toArray) (hi : IntsAre its ns)
    (h : ∀ h' tk t', (∀ b o, s.heap.get? b = some o → h'.get? b = some o) → Q (.int ns.sum t') { s with heap := h', toks := tk }) : wpAny (model prog w) A (call (.builtin "sum") [.ref l]) Q E s := by
  obtain ⟨xs, e⟩ := hi.allInts.items
  have hn : numsOf (intItems xs).toList = ns := by rw [← e]; exact hi.numsOf
  rw [nums_intItems] at hn
  rw [e] at hl
  refine PySem.sum_intListG hh hl fun h' tk t' hk => ?_
  have := h h' tk t' hk
  rw [preSum_eq, List.take_of_length_le (by simp), hn]; exact this
end

section
variable {X : Cx}
/-- sum(xs) of a list of ints -/
def rSum (K : PySem.W.Frag) : List V → Hp → VK → Prop := fun vs H Q => ∃ (a : Addr) (ns : List Int), vs = [V.ref a] ∧ SqL K H a (ns.map V.int) ∧ Q (.int ns.sum) H
theorem cr_sum (hc : X.calm = true) : CallR X (.builtin "sum") (rSum X.K) := by
  intro pins s σ H vs us Q I r h
  obtain ⟨a, ns, rfl, hs, q⟩ := h
  obtain ⟨its, rv, hl, _⟩ := I.list hs
  rw [Vals.ref1 r]
  exact sum_raw (I.ok.hd hc) hl.isList rv.ints fun h' tk t' hk => ⟨.int _, H, I.kept hk, ⟨_, rfl⟩, q⟩
end

section
variable {X : Cx}
end

section
variable {X : Cx}
end

section
variable {X : Cx}
end

mutual
inductive Dp (K : PySem.W.Frag) (H : Hp) : V → PyData → Prop
  | non : Dp K H .non .none
  | bl (b : Bool) : Dp K H (.bl b) (.bool b)
  | int (i : Int) : Dp K H (.int i) (.int i)
  | str (x : Str) : Dp K H (.str x) (.str x)
  | lst {a : Addr} {xs : List V} {ds : List PyData} : SqL K H a xs → DpAll K H xs ds → Dp K H (.ref a) (.list ds)
  | tup {a : Addr} {xs : List V} {ds : List PyData} : SqT K H a xs → DpAll K H xs ds → Dp K H (.ref a) (.tuple ds)
inductive DpAll (K : PySem.W.Frag) (H : Hp) : List V → List PyData → Prop
  | nil : DpAll K H [] []
  | cons {v : V} {vs : List V} {d : PyData} {ds : List PyData} : Dp K H v d → DpAll K H vs ds → DpAll K H (v :: vs) (d :: ds)
end
section
variable {X : Cx} {pins : List (Addr × Obj)} {σ : St} {H : Hp} {s : Shared}
mutual
theorem Dp.reads (I : Inv X pins σ H s) : ∀ (d : PyData) (v : V) (u : Value), Dp X.K H v d → RelV v u → ∃ as, Reads s.heap u d as
  | .none, _, _, h, r => by
    cases h
    cases r
    exact ⟨_, Reads.none⟩
  | .bool b, _, _, h, r => by
    cases h
    cases r
    exact ⟨_, Reads.bool b⟩
  | .int i, _, _, h, r => by
    cases h
    obtain ⟨t, rfl⟩ := r
    exact ⟨_, Reads.int i t⟩
  | .str x, _, _, h, r => by
    cases h
    obtain ⟨t, rfl⟩ := r
    exact ⟨_, Reads.str x t⟩
  | .list ds, _, _, h, r => by
    cases h with
    | lst hs ha =>
      cases r
      obtain ⟨its, rv, ⟨o, n, ho, hc, _, hd⟩, _⟩ := I.list hs
      obtain ⟨as, hr⟩ := Dp.readsAll I ds _ its ha rv
      exact ⟨_, Reads.list ho hc hd hr⟩
  | .tuple ds, _, _, h, r => by
    cases h with
    | tup hs ha =>
      cases r
      obtain ⟨its, rv, ⟨o, ho, hc, n, hd⟩, _⟩ := I.tuple hs
      obtain ⟨as, hr⟩ := Dp.readsAll I ds _ its ha rv
      exact ⟨_, Reads.tuple ho hc hd hr⟩
  | .dict _, _, _, h, _ => by cases h
theorem Dp.readsAll (I : Inv X pins σ H s) : ∀ (ds : List PyData) (vs : List V) (us : List Value), DpAll X.K H vs ds → Vals vs us → ∃ as, ReadsAll s.heap us ds as
  | [], _, _, h, r => by
    cases h
    cases r
    exact ⟨_, ReadsAll.nil⟩
  | d :: ds, _, _, h, r => by
    cases h with
    | cons h1 h2 =>
      cases r with
      | cons r1 r2 =>
        obtain ⟨as, q1⟩ := Dp.reads I d _ _ h1 r1
        obtain ⟨bs, q2⟩ := Dp.readsAll I ds _ _ h2 r2
        exact ⟨_, ReadsAll.cons q1 q2⟩
end
end
section
variable {X : Cx}
end
end L2

namespace L2
open PySem PySem.Spec PyProof.Rows
abbrev CellAt (h : Heap) (c : Addr) (v : Option Value) : Prop := h.IsCell c v
def relS (scope sc : Scope) : Scope :=
  { scope with names := scope.names.map fun (n, k) => if (k == .free && sc.kind == .function && sc.names.lookup n == some .cell) then (n, .cell) else (n, k) }

def cloFrom (cells : List (Str × Addr)) : List (Str × NameKind) → List (Str × Addr) → List (Str × Addr)
  | [], acc => acc
  | (n, k) :: r, acc => if k == .free then cloFrom cells r ((n, (cells.lookup n).getD 0) :: acc) else cloFrom cells r acc

theorem closure_loop (env : Env) (f : Str × NameKind → List (Str × Addr) → Sem (ForInStep (List (Str × Addr))))
    (hf : ∀ n k c, f (n, k) c = if k == .free then (do let a ← cellOf env n; pure (.yield ((n, a) :: c))) else pure (.yield c)) :
    ∀ (names : List (Str × NameKind)) (acc : List (Str × Addr)), (∀ y ∈ names, y.2 = .free → ∃ c, env.cells.lookup y.1 = some c) → forIn names acc f = pure (cloFrom env.cells names acc)
  | [], acc, _ => by rw [List.forIn_nil]; rfl
  | (n, k) :: r, acc, h => by
    rw [List.forIn_cons, hf]
    have ih := fun acc => closure_loop env f hf r acc fun y hy => h y (List.mem_cons_of_mem _ hy)
    unfold cloFrom
    by_cases hk : (k == NameKind.free) = true
    · rw [if_pos hk, if_pos hk]
      obtain ⟨c, hc⟩ := h (n, k) List.mem_cons_self (by simpa using hk)
      have e : cellOf env n = pure c := by unfold cellOf; rw [hc]
      rw [e]
      have e2 : (env.cells.lookup n).getD 0 = c := by rw [hc]; rfl
      rw [e2]
      exact ih _
    · rw [if_neg hk, if_neg hk]
      exact ih _
theorem closure_ok {scope : Scope} {env : Env} (h : ∀ y ∈ scope.names, y.2 = .free → ∃ c, env.cells.lookup y.1 = some c) : closureFor scope env = pure (cloFrom env.cells scope.names []) := by
  simp only [closureFor]
  rw [closure_loop env _ (fun n k c => rfl) scope.names [] h]
  rfl

theorem mem_lookup {α : Type} : ∀ {l : List (Str × α)} {n : Str} {c : α}, (n, c) ∈ l → ∃ c', l.lookup n = some c'
  | (k, v) :: r, n, c, h => by
    rw [List.lookup_cons]
    cases hb : n == k with
    | true => exact ⟨_, rfl⟩
    | false =>
      rcases List.mem_cons.mp h with e | h
      · cases e; simp at hb
      · exact mem_lookup h

theorem cloFrom_mem {cells : List (Str × Addr)} : ∀ {names : List (Str × NameKind)} {acc : List (Str × Addr)} {n : Str} {c : Addr}, (n, c) ∈ cloFrom cells names acc → (n, c) ∈ acc ∨ ((n, .free) ∈ names ∧ c = (cells.lookup n).getD 0)
  | [], _, _, _, h => .inl h
  | (m, k) :: r, acc, n, c, h => by
    unfold cloFrom at h
    split at h
    · rename_i hk
      have hk : k = .free := by simpa using hk
      rcases cloFrom_mem h with h | ⟨h1, h2⟩
      · rcases List.mem_cons.mp h with e | h
        · cases e; exact .inr ⟨hk ▸ List.mem_cons_self, rfl⟩
        · exact .inl h
      · exact .inr ⟨List.mem_cons_of_mem _ h1, h2⟩
    · rcases cloFrom_mem h with h | ⟨h1, h2⟩
      · exact .inl h
      · exact .inr ⟨List.mem_cons_of_mem _ h1, h2⟩
theorem cloFrom_acc {cells : List (Str × Addr)} : ∀ {names : List (Str × NameKind)} {acc : List (Str × Addr)} {p : Str × Addr}, p ∈ acc → p ∈ cloFrom cells names acc
  | [], _, _, h => h
  | (m, k) :: r, acc, p, h => by
    unfold cloFrom
    split
    · exact cloFrom_acc (List.mem_cons_of_mem _ h)
    · exact cloFrom_acc h
theorem cloFrom_has {cells : List (Str × Addr)} : ∀ {names : List (Str × NameKind)} {acc : List (Str × Addr)} {n : Str}, (n, .free) ∈ names → (n, (cells.lookup n).getD 0) ∈ cloFrom cells names acc
  | (m, k) :: r, acc, n, h => by
    unfold cloFrom
    rcases List.mem_cons.mp h with e | h
    · cases e
      exact cloFrom_acc List.mem_cons_self
    · split
      · exact cloFrom_has h
      · exact cloFrom_has h

theorem cells_mem : ∀ {names : List (Str × NameKind)} {h : Heap} {acc : List (Str × Addr)} {x : Str} {c : Addr}, (x, c) ∈ cellsFrom h.objs.size names acc →
    (x, c) ∈ acc ∨ ((x, .cell) ∈ names ∧ h.objs.size ≤ c ∧ CellAt (pushCells h names) c none)
  | [], _, _, _, _, h => .inl h
  | (n, k) :: r, h, acc, x, c, hm => by
    unfold cellsFrom at hm
    unfold pushCells
    split at hm
    · rename_i hk
      rw [if_pos hk]
      have hk : k = .cell := by simpa using hk
      rw [← Heap.size_push h { cls := .type "cell", data := .cell none }] at hm
      rcases cells_mem hm with hm | ⟨h1, h2, h3⟩
      · rcases List.mem_cons.mp hm with e | hm
        · cases e
          exact .inr ⟨hk ▸ List.mem_cons_self, Nat.le_refl _, _, pushCells_keeps r _ _ _ (Heap.get?_push_size _ rfl), rfl⟩
        · exact .inl hm
      · rw [Heap.size_push] at h2
        exact .inr ⟨List.mem_cons_of_mem _ h1, Nat.le_of_succ_le h2, h3⟩
    · rename_i hk
      rw [if_neg hk]
      rcases cells_mem hm with hm | ⟨h1, h2, h3⟩
      · exact .inl hm
      · exact .inr ⟨List.mem_cons_of_mem _ h1, h2, h3⟩
theorem cells_acc : ∀ {names : List (Str × NameKind)} {n : Nat} {acc : List (Str × Addr)} {p : Str × Addr}, p ∈ acc → p ∈ cellsFrom n names acc
  | [], _, _, _, h => h
  | (m, k) :: r, n, acc, p, h => by
    unfold cellsFrom
    split
    · exact cells_acc (List.mem_cons_of_mem _ h)
    · exact cells_acc h
theorem cells_has : ∀ {names : List (Str × NameKind)} {n : Nat} {acc : List (Str × Addr)} {x : Str}, (x, .cell) ∈ names → ∃ c, (x, c) ∈ cellsFrom n names acc
  | (m, k) :: r, n, acc, x, h => by
    unfold cellsFrom
    rcases List.mem_cons.mp h with e | h
    · cases e
      exact ⟨n, cells_acc List.mem_cons_self⟩
    · split
      · exact cells_has h
      · exact cells_has h
theorem cells_inj : ∀ {names : List (Str × NameKind)} {h : Heap} {acc : List (Str × Addr)} {x y : Str} {c : Addr}, (∀ p ∈ acc, p.2 < h.objs.size) → (∀ x y c, (x, c) ∈ acc → (y, c) ∈ acc → x = y) →
    (x, c) ∈ cellsFrom h.objs.size names acc → (y, c) ∈ cellsFrom h.objs.size names acc → x = y
  | [], _, _, _, _, _, _, hi, h1, h2 => hi _ _ _ h1 h2
  | (n, k) :: r, h, acc, x, y, c, hl, hi, h1, h2 => by
    unfold cellsFrom at h1 h2
    split at h1
    · rename_i hk
      rw [if_pos hk] at h2
      rw [← Heap.size_push h { cls := .type "cell", data := .cell none }] at h1 h2
      refine cells_inj (h := h.push _) (fun p hp => ?_) (fun x y c a b => ?_) h1 h2
      · rw [Heap.size_push]
        rcases List.mem_cons.mp hp with rfl | hp
        · exact Nat.lt_succ_self _
        · exact Nat.lt_succ_of_lt (hl p hp)
      · rcases List.mem_cons.mp a with e | a <;> rcases List.mem_cons.mp b with e' | b
        · cases e; cases e'; rfl
        · cases e; exact absurd (hl _ b) (Nat.lt_irrefl _)
        · cases e'; exact absurd (hl _ a) (Nat.lt_irrefl _)
        · exact hi _ _ _ a b
    · rename_i hk
      rw [if_neg hk] at h2
      exact cells_inj hl hi h1 h2

theorem newEnv_comp {M : Model} {A : Around} {E : Value → Shared → Prop} {s : Shared} {scope : Scope} {globals : Addr} {closure : List (Str × Addr)} {qual : Str} {func : Option Addr} {code : Value} {around : Env} {builtins : Addr} {Q : Env → Shared → Prop}
    (h : Q (newEnv scope s.heap.objs.size globals (cellsFrom (s.heap.objs.size + 1) scope.names closure) qual func code (some around) builtins)
      { s with heap := pushCells (s.heap.push { cls := .type "dict", data := .dict #[] }) scope.names }) :
    wpAny M A (newFunctionEnv scope globals closure [] qual func code (some around) builtins) Q E s := by
  simp only [newFunctionEnv, Option.isSome_some, if_true]
  refine wpAny_bind (wpAny_alloc ?_)
  refine wpAny_bind (wpAny_layCells _ (fun n k c => rfl) scope.names closure _ _ ?_)
  rw [show ({ s with heap := s.heap.push { cls := .type "dict", data := .dict #[] } } : Shared).heap.objs.size = s.heap.objs.size + 1 from Heap.size_push ..]
  rw [List.forIn_nil]
  exact wpAny_bind (wpAny_pure (wpAny_pure h))

/-- every name of the written scope, in the scope that runs -/
theorem lookup_relS {sc : Scope} : ∀ {names : List (Str × NameKind)} {x : Str} {k : NameKind},
    (names.map fun (n, k) => if (k == NameKind.free && sc.kind == .function && sc.names.lookup n == some .cell) then (n, NameKind.cell) else (n, k)).lookup x = some k →
    ∃ k', names.lookup x = some k' ∧ (k = k' ∨ (k' = .free ∧ k = .cell))
  | [], _, _, h => by simp at h
  | (n, k₀) :: r, x, k, h => by
    have ih := @lookup_relS sc r x k
    have h' : List.lookup x ((if (k₀ == NameKind.free && sc.kind == .function && sc.names.lookup n == some .cell) = true then (n, NameKind.cell) else (n, k₀)) :: (r.map _)) = some k := h
    cases hx : x == n with
    | true =>
      simp only [List.lookup_cons, hx]
      by_cases hc : (k₀ == NameKind.free && sc.kind == .function && sc.names.lookup n == some .cell) = true
      · rw [if_pos hc] at h'
        simp only [List.lookup_cons, hx] at h'
        cases h'
        simp only [Bool.and_eq_true, beq_iff_eq] at hc
        exact ⟨k₀, rfl, .inr ⟨hc.1.1, rfl⟩⟩
      · rw [if_neg hc] at h'
        simp only [List.lookup_cons, hx] at h'
        cases h'
        exact ⟨_, rfl, .inl rfl⟩
    | false =>
      simp only [List.lookup_cons, hx]
      by_cases hc : (k₀ == NameKind.free && sc.kind == .function && sc.names.lookup n == some .cell) = true
      · rw [if_pos hc] at h'
        simp only [List.lookup_cons, hx] at h'
        exact ih h'
      · rw [if_neg hc] at h'
        simp only [List.lookup_cons, hx] at h'
        exact ih h'
/-- the names of a comprehension's block: its own (with their places in N), or captured -/
structure BlkOk (N : List Str) (sc scope : Scope) (own : List (Str × Nat)) : Prop where
  kind : scope.kind = .function
  uniq : ∀ y ∈ scope.names, scope.names.lookup y.1 = some y.2
  ix : ∀ p ∈ own, N[p.2]? = some p.1
  free : ∀ y ∈ scope.names, y.2 = .free → sc.names.lookup y.1 = some .cell ∨ sc.names.lookup y.1 = some .free
  own : ∀ y ∈ scope.names, y.2 = .local ∨ y.2 = .cell → y.1 ∈ own.map (·.1) ∨ y.1 ∉ N
/-- the slots of the block's own names forgotten -/
def wipe (σ : St) : List Nat → St
  | [] => σ
  | v :: vs => (wipe σ vs).set v none
theorem wipe_length (σ : St) : ∀ vs : List Nat, (wipe σ vs).length = σ.length
  | [] => rfl
  | v :: vs => by unfold wipe; rw [List.length_set, wipe_length σ vs]
theorem wipe_some {σ : St} {i : Nat} {x : V} : ∀ {vs : List Nat}, (wipe σ vs)[i]? = some (some x) → σ[i]? = some (some x) ∧ i ∉ vs
  | [], h => ⟨h, by simp⟩
  | v :: vs, h => by
    unfold wipe at h
    by_cases hi : v = i
    · subst hi
      by_cases hv : v < (wipe σ vs).length
      · rw [List.getElem?_set_self hv] at h; cases h
      · rw [List.getElem?_eq_none (by simpa using hv)] at h; cases h
    · rw [List.getElem?_set_ne hi] at h
      obtain ⟨h1, h2⟩ := wipe_some h
      exact ⟨h1, by simp only [List.mem_cons, not_or]; exact ⟨fun e => hi e.symm, h2⟩⟩

/-- the context of a block that starts at s, its iterator's objects at fp -/
abbrev Cx.blk (X : Cx) (s : Shared) (H : Hp) (scope : Scope) (cenv : Env) (fp : List Addr) : Cx := { X with s_0 := s, H_0 := H, env := cenv, outer := X.stack, ex := fp, fn := fun x => scope.names.lookup x == some .cell, pn := [], xe := fun _ _ => False }
section
variable {X : Cx} {pins : List (Addr × Obj)} {σ : St} {H : Hp} {s : Shared}
theorem block_start {scope : Scope} {own : List (Str × Nat)} {fp : List Addr} (I : Inv X pins σ H s) (ok : BlkOk X.N X.env.scope scope own) (hN : X.N.Nodup) (hfp : ∀ b ∈ fp, FpOk X pins H b ∧ b < s.heap.objs.size) :
    Inv (X.blk s H scope (compEnvC scope (cellsFrom (s.heap.objs.size + 1) scope.names (cloFrom X.env.cells scope.names [])) s.heap.objs.size X.env) fp) [] (wipe σ (own.map (·.2))) H { s with heap := pushCells (s.heap.push { cls := .type "dict", data := .dict #[] }) scope.names } := by
  have hfree : ∀ y ∈ scope.names, y.2 = .free → ∃ c, X.env.cells.lookup y.1 = some c := fun y hy e => by
    rcases ok.free y hy e with k | k
    · exact I.ok.has _ (.inl k)
    · exact I.ok.has _ (.inr k)
  generalize hcenv : compEnvC scope (cellsFrom (s.heap.objs.size + 1) scope.names (cloFrom X.env.cells scope.names [])) s.heap.objs.size X.env = cenv
  have kp : ∀ b o, s.heap.get? b = some o → (pushCells (s.heap.push { cls := .type "dict", data := .dict #[] }) scope.names).get? b = some o := fun b o e => pushCells_keeps _ _ _ _ (Heap.get?_push_of_some _ e)
  have hL : cenv.locals = s.heap.objs.size := by rw [← hcenv]; rfl
  have hcl : cenv.cells = cellsFrom (s.heap.objs.size + 1) scope.names (cloFrom X.env.cells scope.names []) := by rw [← hcenv]; rfl
  have hsc : cenv.scope = relS scope X.env.scope := by rw [← hcenv]; rfl
  rw [← Heap.size_push s.heap { cls := .type "dict", data := .dict #[] }] at hcl
  have cm : ∀ {y c}, (y, c) ∈ cloFrom X.env.cells scope.names [] → X.env.cells.lookup y = some c ∧ c < s.heap.objs.size := fun {y c} hm => by
    rcases cloFrom_mem hm with hm | ⟨h1, rfl⟩
    · cases hm
    · obtain ⟨c, hc⟩ := hfree _ h1 rfl
      rw [hc]
      obtain ⟨w, z⟩ := I.cell _ _ hc
      exact ⟨rfl, z.lt⟩
  have mem : ∀ {y c}, cenv.cells.lookup y = some c → (X.env.cells.lookup y = some c ∧ c < s.heap.objs.size) ∨ (s.heap.objs.size + 1 ≤ c ∧ CellAt (pushCells (s.heap.push { cls := .type "dict", data := .dict #[] }) scope.names) c none) := fun {y c} e => by
    rw [hcl] at e
    rcases cells_mem (PySem.mem_of_lookup e) with hm | ⟨_, h2, h3⟩
    · exact .inl (cm hm)
    · rw [Heap.size_push] at h2; exact .inr ⟨h2, h3⟩
  have look : ∀ {y}, scope.names.lookup y = some .free → ∃ c, cenv.cells.lookup y = some c ∧ X.env.cells.lookup y = some c := fun {y} hl => by
    have hy : (y, NameKind.free) ∈ scope.names := PySem.mem_of_lookup hl
    obtain ⟨c', e'⟩ := mem_lookup (cells_acc (names := scope.names) (n := (s.heap.push { cls := .type "dict", data := .dict #[] }).objs.size) (cloFrom_has (cells := X.env.cells) (acc := []) hy))
    rw [← hcl] at e'
    refine ⟨c', e', ?_⟩
    rw [hcl] at e'
    rcases cells_mem (PySem.mem_of_lookup e') with hm | ⟨h1, _, _⟩
    · exact (cm hm).1
    · have := ok.uniq _ h1
      rw [hl] at this; cases this
  have okB : (X.blk s H scope cenv fp).Ok := by
    refine ⟨I.ok.mod, by show cenv.scope.kind = _; rw [hsc]; exact ok.kind, by show cenv.globals = _; rw [← hcenv]; exact I.ok.glob, by show cenv.builtins = _; rw [← hcenv]; exact I.ok.blt, by show s.heap.objs.size ≤ cenv.locals; rw [hL]; exact Nat.le_refl _,
      fun y z c e1 e2 => ?_, fun y hy => ?_, fun y c z e => ?_, I.ok.hd, I.ok.frames, .inl rfl, fun b hb => ⟨?_, fun y c e z => ?_⟩, I.bs, Nat.le_trans I.ok.bsz I.sz, fun b o e hb => ?_, fun b hb z => ?_, I.stack, I.stkFree⟩
    · have e1 : cenv.cells.lookup y = some c := e1
      have e2 : cenv.cells.lookup z = some c := e2
      rw [hcl] at e1 e2
      refine cells_inj (fun p hp => ?_) (fun y z c a b => I.ok.inj y z c (cm a).1 (cm b).1) (PySem.mem_of_lookup e1) (PySem.mem_of_lookup e2)
      rw [Heap.size_push]
      exact Nat.lt_succ_of_lt (cm (y := p.1) (c := p.2) hp).2
    · show ∃ c, cenv.cells.lookup y = some c
      have key : ∀ k, cenv.kindOf y = some k → (k = .cell ∨ k = .free) → ∃ c, cenv.cells.lookup y = some c := fun k hk hk' => by
        unfold Env.kindOf at hk
        rw [hsc] at hk
        obtain ⟨k', e, r⟩ := lookup_relS hk
        have : k' = .cell ∨ k' = .free := by
          rcases r with rfl | ⟨rfl, _⟩
          · exact hk'
          · exact .inr rfl
        rcases this with rfl | rfl
        · obtain ⟨c, hm⟩ := cells_has (n := (s.heap.push { cls := .type "dict", data := .dict #[] }).objs.size) (acc := cloFrom X.env.cells scope.names []) (PySem.mem_of_lookup e)
          obtain ⟨c', e'⟩ := mem_lookup hm
          exact ⟨c', by rw [hcl]; exact e'⟩
        · obtain ⟨c, h1, _⟩ := look e
          exact ⟨c, h1⟩
      rcases hy with hy | hy
      · exact key _ hy (.inl rfl)
      · exact key _ hy (.inr rfl)
    · have z : (scope.names.lookup y == some NameKind.cell) = true := z
      have z : scope.names.lookup y = some .cell := by simpa using z
      have e : cenv.cells.lookup y = some c := e
      rw [hcl] at e
      rcases cells_mem (PySem.mem_of_lookup e) with hm | ⟨_, h2, _⟩
      · rcases cloFrom_mem hm with hm | ⟨h1, _⟩
        · cases hm
        · have q := ok.uniq _ h1
          rw [z] at q; cases q
      · rw [Heap.size_push] at h2
        exact Nat.le_of_succ_le h2
    · show b ≠ cenv.locals
      rw [hL]; exact Nat.ne_of_lt (hfp b hb).2
    · have e : cenv.cells.lookup y = some c := e
      rcases mem e with ⟨h1, _⟩ | ⟨h1, _⟩
      · exact (hfp b hb).1.2.2.2.2.1 y c h1 z
      · have h2 : s.heap.objs.size + 1 ≤ b := by rw [← z]; exact h1
        exact absurd (Nat.lt_of_lt_of_le (hfp b hb).2 (Nat.le_of_succ_le h2)) (Nat.lt_irrefl _)
    · rcases (hfp b hb).1.2.2.2.1 with z | z
      · exact I.ok.noex b o e z
      · exact absurd (Nat.lt_of_lt_of_le (Heap.lt_size e) (Nat.le_trans I.ok.bsz z)) (Nat.lt_irrefl _)
    · rcases List.mem_cons.mp (I.stkSub b z) with z | z
      · exact (hfp b hb).1.2.1 z
      · exact (hfp b hb).1.2.2.1 z
  refine ⟨okB, rfl, I.bare, Un.kept kp, ⟨fun _ => none, ?_, fun i y av e1 e2 e3 => ?_⟩, fun y c e => ?_, ?_, fun y c e => ?_, fun p hp => ?_, I.hok.kept kp, by rw [wipe_length]; exact I.len⟩
  · show Heap.Ns _ cenv.locals _
    rw [hL]
    exact Heap.Ns.keeps (Heap.Ns.new ..) fun b o e => pushCells_keeps _ _ _ _ e
  · obtain ⟨e2, hne⟩ := wipe_some e2
    have hfr : scope.names.lookup y = some .free ∧ (cenv.kindOf y = some .cell ∨ cenv.kindOf y = some .free) := by
      have key : ∀ k, cenv.scope.names.lookup y = some k → k = .local ∨ k = .cell ∨ k = .free → scope.names.lookup y = some .free ∧ (cenv.kindOf y = some .cell ∨ cenv.kindOf y = some .free) := fun k hk hk' => by
        have hk0 := hk
        rw [hsc] at hk
        obtain ⟨k', e, r⟩ := lookup_relS hk
        have no : ¬ (k' = .local ∨ k' = .cell) := fun hh => by
          rcases ok.own _ (PySem.mem_of_lookup e) hh with e' | e'
          · obtain ⟨p, hp, hpy⟩ := List.mem_map.mp e'
            have e3 := ok.ix p hp
            have : p.1 = y := hpy
            rw [this] at e3
            exact hne (List.mem_map.mpr ⟨p, hp, nodup_ix hN e3 e1⟩)
          · exact e' (List.mem_of_getElem? e1)
        rcases r with rfl | ⟨rfl, rfl⟩
        · rcases hk' with rfl | rfl | rfl
          · exact absurd (.inl rfl) no
          · exact absurd (.inr rfl) no
          · exact ⟨e, .inr hk0⟩
        · exact ⟨e, .inl hk0⟩
      have e3 : Vis cenv.scope y := e3
      rcases e3 with e3 | e3 | e3
      · exact key _ e3 (.inl rfl)
      · exact key _ e3 (.inr (.inl rfl))
      · exact key _ e3 (.inr (.inr rfl))
    obtain ⟨m, hn, hl⟩ := I.loc
    have hvis : Vis X.env.scope y := (ok.free _ (PySem.mem_of_lookup hfr.1) rfl).elim (fun k => .inr (.inl k)) (fun k => .inr (.inr k))
    obtain ⟨w, r, q⟩ := hl i y av e1 e2 hvis
    refine ⟨w, r, .inr ⟨hfr.2, ?_⟩⟩
    obtain ⟨c, h1, h2⟩ := look hfr.1
    rcases q with ⟨k, _⟩ | ⟨_, c', e', z⟩
    · have k : X.env.scope.names.lookup y = some .local := k
      rcases ok.free _ (PySem.mem_of_lookup hfr.1) rfl with k' | k' <;> rw [show X.env.scope.names.lookup y = _ from k'] at k <;> cases k
    · rw [h2] at e'; cases e'
      exact ⟨c, h1, z.keeps kp⟩
  · have e : cenv.cells.lookup y = some c := e
    rcases mem e with ⟨h1, _⟩ | ⟨_, z⟩
    · obtain ⟨w, z⟩ := I.cell y c h1
      exact ⟨w, z.keeps kp⟩
    · exact ⟨_, z⟩
  · show H cenv.locals = none
    rw [hL]; exact I.hok.fresh (Nat.le_refl _)
  · have e : cenv.cells.lookup y = some c := e
    rcases mem e with ⟨h1, _⟩ | ⟨h1, _⟩
    · exact I.freeC y c h1
    · exact I.hok.fresh (Nat.le_of_succ_le h1)
  · exact absurd (show p ∈ ([] : List (Addr × Obj)) ++ [] from hp) (by simp)

/-- an item appended to a tracked list -/
theorem app_ok {E : Value → Shared → Prop} {D : Addr} {xs : List V} {y : V} {v : Value} {Q : Value → Shared → Prop} (I : Inv X pins σ H s) (hD : H D = some (.lst xs)) (hz : xs.length < sizeLine) (r : RelV y v)
    (h : ∀ s', Inv X pins σ (upd H D (.lst (xs ++ [y]))) s' → Q .none s') : wpAny (model X.prog X.w) X.A (call (.builtin "list.append") [.ref D, v]) Q E s := by
  obtain ⟨hz', its, n, ri, e⟩ := I.hok D _ hD
  have hl := ri.length
  refine append_at (hsz := by rw [List.size_toArray]; omega) e fun h' sb ho' => ?_
  refine h { s with heap := h' } (I.write (t' := s.toks) (by rw [hD]; trivial) (.inl rfl) (fun b u hb q => (sb.2 b hb).trans q) ⟨_, ho'⟩ ⟨by rw [List.length_append]; exact hz, its ++ [v], n + 1, ri.append (.cons r .nil), ?_⟩)
  rw [ho']
  simp

/-- a clause's tests -/
def PTs (X : Cx) (ifs : List Expr) (t : TT) : Prop :=
  ∀ (pins : List (Addr × Obj)) (s : Shared) (σ : St) (H : Hp) (Q : Bool → Hp → Prop), Inv X pins σ H s → t σ H Q →
    wpAny (model X.prog X.w) X.A (forIn ifs true fun c r => if r = true then do let ok ← isTrue c X.env (eval c X.env); pure (ForInStep.yield ok) else pure (ForInStep.yield r)) (TP X pins σ Q) X.xe s
def tYes : TT := fun _ H Q => Q true H
theorem pts_nil : PTs X [] tYes := fun _ _ _ H _ I h => wpAny_tests_nil ⟨H, I, h⟩
end

theorem thnF {α : Type} {t : Sem α} {Q Q' : α → Shared → Prop} {M : Model} {A : Around} {E : Value → Shared → Prop} {s : Shared} (h : wpAny M A t Q (fun _ _ => False) s) (hQ : ∀ a s, Q a s → Q' a s) : wpAny M A t Q' E s := wpAny_mono h hQ fun _ _ z => False.elim z

/-- the loop of a list comprehension's block, the target of any form (codeAny_compLoop_tests asks a target that no tuple goes to; statement and proof follow it, PyProof/CompMap.lean:41-61, with the step letOwnedTupleGo kept) -/
theorem compLoop_any {prog : Program} {w : World} {A : Around} {R : Result → Shared → Prop} {s : Shared} {elt target iter : Expr} {ifs : List Expr} {scope : Scope} {pos : Pos} {it acc : Value} {env : Env} (I : Nat → Shared → Prop)
    (turn : ∀ n s, I n s → wpAny (model prog w) A (pyNext it) (fun r s₁ => match r with
      | none => R (.ok .next) s₁
      | some v => wpAny (model prog w) A (letOwnedTupleGo target it v) (fun _ s₁' => wpAny (model prog w) A (assign target env v) (fun _ s₂ =>
          wpAny (model prog w) A (forIn ifs true fun c r => if r = true then do let ok ← isTrue c env (eval c env); pure (ForInStep.yield ok) else pure (ForInStep.yield r)) (fun ok s₃ =>
            if ok = true then wpAny (model prog w) A (eval elt env) (fun x s₄ =>
              wpAny (model prog w) A (call (.builtin "list.append") [acc, x]) (fun _ s₅ => ∃ m, m < n ∧ I m s₅) (notedBy (model prog w) A env fun e s' => R (.error e) s') s₄) (notedBy (model prog w) A env fun e s' => R (.error e) s') s₃
            else ∃ m, m < n ∧ I m s₃) (notedBy (model prog w) A env fun e s' => R (.error e) s') s₂) (notedBy (model prog w) A env fun e s' => R (.error e) s') s₁') (notedBy (model prog w) A env fun e s' => R (.error e) s') s₁) (notedBy (model prog w) A env fun e s' => R (.error e) s') s)
    (n : Nat) (h : I n s) :
    codeAny (model prog w) A (.compLoop (.ListComp elt [⟨target, iter, ifs, 0⟩] scope pos) 0 it acc env) R s := by
  refine codeAny_loop rfl I (fun n s hI => ?_) n h
  show wpAny _ A ((compTurn (.ListComp elt [⟨target, iter, ifs, 0⟩] scope pos) 0 it acc env).onRaise (fun x => do noteFrame x env; theTreesLotGoes x)) _ _ s
  refine wpAny_noted ?_
  rw [compTurn_list]
  refine wpAny_bind (wpAny_standAt (wpAny_bind (wpAny_mono (turn n s hI) (fun r s₁ h₁ => ?_) fun _ _ h' => h')))
  cases r with
  | none => exact wpAny_pure h₁
  | some v =>
    refine wpAny_bind (wpAny_mono h₁ (fun _ s₁' h₁' => ?_) fun _ _ h' => h')
    refine wpAny_bind (wpAny_mono h₁' (fun _ s₂ h₂ => wpAny_bind (wpAny_mono h₂ (fun ok s₃ h₃ => ?_) fun _ _ h' => h')) fun _ _ h' => h')
    cases ok with
    | false => exact wpAny_pure ⟨rfl, h₃⟩
    | true =>
      exact wpAny_bind (wpAny_bind (wpAny_mono h₃ (fun x s₄ h₄ => wpAny_bind (wpAny_mono h₄ (fun _ s₅ h₅ => wpAny_pure (wpAny_pure ⟨rfl, h₅⟩)) fun _ _ h' => h')) fun _ _ h' => h'))

section
variable {X : Cx}
/-- [elt for target in iter if ..]: D the new list; W by the turn and a measure, Nx what a turn is to reach -/
def tLc (wi : TI) (g : TG) (tt : TT) (te : TE) (vs : List Nat) : TE := fun σ H Q => wi σ H fun J H1 => ∀ D, H1 D = none → ∃ W : Nat → Nat → Hp → Prop, (∃ m, W 0 m (upd H1 D (.lst []))) ∧ ∀ i m H, W i m H →
  (J.stop i H ∧ Q (.ref D) H) ∨ (J.go i H ∧ ∃ Nx : Hp → Prop, (∀ H', Nx H' → ∃ m', m' < m ∧ W (i + 1) m' H') ∧ ∀ x H', J.yld i H x H' → g x (wipe σ vs) H' fun σ2 H2 => wipe σ2 vs = wipe σ vs ∧ tt σ2 H2 fun b H3 =>
    if b = true then te σ2 H3 fun y H4 => ∃ acc, H4 D = some (.lst acc) ∧ acc.length < sizeLine ∧ Nx (upd H4 D (.lst (acc ++ [y]))) else Nx H3)
theorem lc_core {pins : List (Addr × Obj)} {s : Shared} {σ : St} {H : Hp} {Q : VK} {elt tg iter : Expr} {ifs : List Expr} {scope : Scope} {own : List (Str × Nat)} {pos pos' : Pos} {wi : TI} {g : TG} {tt : TT} {te : TE} {use : Option (Value → Sem Unit)} {Qf : Value → Shared → Prop}
    (hc : X.calm = true) (hN : X.N.Nodup) (I : Inv X pins σ H s) (hi : PI X tg iter wi) (ok : BlkOk X.N X.env.scope scope own)
    (hg : ∀ (s : Shared) (H : Hp) (C : Addr) (cl : List (Str × Addr)) (fp : List Addr), PG (X.blk s H scope (compEnvC scope cl C X.env) fp) tg g) (ht : ∀ (s : Shared) (H : Hp) (C : Addr) (cl : List (Str × Addr)) (fp : List Addr), PTs (X.blk s H scope (compEnvC scope cl C X.env) fp) ifs tt)
    (he : ∀ (s : Shared) (H : Hp) (C : Addr) (cl : List (Str × Addr)) (fp : List Addr), PE (X.blk s H scope (compEnvC scope cl C X.env) fp) elt te) (hs : ∀ x, foldedSetIterable iter X.env x = pure x)
    (h : tLc wi g tt te (own.map (·.2)) σ H Q)
    (hRR : ∀ D C s' m H', Inv X pins σ H' s' → Q (.ref D) H' → s'.heap.Ns C m → FpOk X pins H' C → compPost (model X.prog X.w) X.A X.xe use Qf (.ref D) C (.ok .next) s') :
    wpAny (model X.prog X.w) X.A (comprehension (.ListComp elt [⟨tg, iter, ifs, 0⟩] scope pos) scope X.env pos' (newList []) false (eval iter X.env) use) Qf X.xe s := by
  have hfree : ∀ y ∈ scope.names, y.2 = .free → ∃ c, X.env.cells.lookup y.1 = some c := fun y hy e => by
    rcases ok.free y hy e with k | k
    · exact I.ok.has _ (.inl k)
    · exact I.ok.has _ (.inr k)
  refine wpAny_comprehension_free (use := use) rfl hs (closure_ok hfree) ok.kind (fun y hy e => by rw [ok.uniq y hy, e])
    (thn (hi pins s σ H _ I h) fun xv s1 hx => thn hx fun itv s2 h2 => ?_)
  obtain ⟨it, fp, tn, J, H2, e, I2, T, st2, f2, q⟩ := h2
  subst e
  refine wpAny_newObj_type (newEnv_comp ?_) (by show 0 ≤ sizeLine; decide)
  generalize hD : s2.heap.objs.size = D
  have hDn : H2 D = none := I2.hok.fresh (Nat.le_of_eq hD)
  obtain ⟨W, ⟨m0, w0⟩, turn⟩ := q D hDn
  -- the new list
  generalize hs3 : ({ s2 with heap := s2.heap.push { cls := .type "list", data := .seq ([] : List Value).toArray } } : Shared) = s3
  have I3 : Inv X pins σ (upd H2 D (.lst [])) s3 := by
    rw [← hs3]
    refine I2.laid (t' := s2.toks) (fun b o e => Heap.get?_push_of_some _ e) (Nat.le_of_eq hD) ⟨Nat.zero_le _, [], 0, .nil, ?_⟩
    rw [← hD]
    exact Heap.get?_push_size _ rfl
  have h3 : s3.heap = s2.heap.push { cls := .type "list", data := .seq ([] : List Value).toArray } := by rw [← hs3]
  have sz : ∀ b ∈ fp, b < s2.heap.objs.size := fun b hb => by
    obtain ⟨o, e, _⟩ := T.obj _ _ st2 b hb
    exact Heap.lt_size e
  have f3 : ∀ b ∈ fp, FpOk X pins (upd H2 D (.lst [])) b ∧ b < s3.heap.objs.size := fun b hb => by
    have hlt := sz b hb
    refine ⟨⟨?_, (f2 b hb).2⟩, by rw [h3, Heap.size_push]; exact Nat.lt_succ_of_lt hlt⟩
    rw [upd_ne (by rw [← hD]; exact Nat.ne_of_lt hlt)]
    exact (f2 b hb).1
  have st3 : tn 0 s3.heap := T.keep _ _ _ st2 fun b _ o e => by rw [h3]; exact Heap.get?_push_of_some _ e
  have I4 := block_start I3 ok hN f3
  have pg := hg s3 (upd H2 D (.lst [])) s3.heap.objs.size (cellsFrom (s3.heap.objs.size + 1) scope.names (cloFrom X.env.cells scope.names [])) fp
  have pt := ht s3 (upd H2 D (.lst [])) s3.heap.objs.size (cellsFrom (s3.heap.objs.size + 1) scope.names (cloFrom X.env.cells scope.names [])) fp
  have pe := he s3 (upd H2 D (.lst [])) s3.heap.objs.size (cellsFrom (s3.heap.objs.size + 1) scope.names (cloFrom X.env.cells scope.names [])) fp
  show codeAny _ _ (.compStart (.ListComp elt [⟨tg, iter, ifs, 0⟩] scope pos) 0 (.ref it) (.ref D) (compEnvC scope (cellsFrom (s3.heap.objs.size + 1) scope.names (cloFrom X.env.cells scope.names [])) s3.heap.objs.size X.env)) (compPost (model X.prog X.w) X.A X.xe use Qf (.ref D) s3.heap.objs.size) { s3 with heap := pushCells (s3.heap.push { cls := .type "dict", data := .dict #[] }) scope.names }
  have nfp : ∀ b ∈ fp, (upd H2 D (.lst [])) b = none := fun b hb => (f3 b hb).1.1
  generalize hce : compEnvC scope (cellsFrom (s3.heap.objs.size + 1) scope.names (cloFrom X.env.cells scope.names [])) s3.heap.objs.size X.env = ce at I4 pg pt pe ⊢
  have cL : ce.locals = s3.heap.objs.size := by subst hce; rfl
  generalize hH3 : upd H2 D (.lst []) = H3 at I3 I4 pg pt pe w0 nfp f3
  generalize hs4 : ({ s3 with heap := pushCells (s3.heap.push { cls := .type "dict", data := .dict #[] }) scope.names } : Shared) = s4 at I4 ⊢
  have st4 : tn 0 s4.heap := T.keep _ _ _ st3 fun b _ o e => by rw [← hs4]; exact pushCells_keeps _ _ _ _ (Heap.get?_push_of_some _ e)
  have stat : ∀ {σ' : St} {H' : Hp} {s' : Shared}, Inv (X.blk s3 H3 scope ce fp) [] σ' H' s' → (∀ b ∈ fp, H' b = none) → ∀ b ∈ fp, FpOk (X.blk s3 H3 scope ce fp) [] H' b := fun {σ' H' s'} I' hn b hb =>
    ⟨hn b hb, (I'.ok.exf b hb).1, I'.ok.exfs b hb, .inl hb, fun x c e => (I'.ok.exf b hb).2 x c e, fun p hp => absurd (show p ∈ ([] : List (Addr × Obj)) ++ [] from hp) (by simp)⟩
  have loop : codeAny (model X.prog X.w) X.A (.compLoop (.ListComp elt [⟨tg, iter, ifs, 0⟩] scope pos) 0 (.ref it) (.ref D) ce) (compPost (model X.prog X.w) X.A X.xe use Qf (.ref D) s3.heap.objs.size) s4 := by
    refine compLoop_any (fun n s' => ∃ i H', Inv (X.blk s3 H3 scope ce fp) [] (wipe σ (own.map (·.2))) H' s' ∧ tn i s'.heap ∧ (∀ b ∈ fp, H' b = none) ∧ W i n H') ?_ m0 ⟨0, H3, I4, st4, nfp, w0⟩
    rintro n s5 ⟨i, H5, I5, st5, n5, w5⟩
    rcases turn i n H5 w5 with ⟨stop, qq⟩ | ⟨go, Nx, hNx, step⟩
    · have td := T.done (X.blk s3 H3 scope ce fp) rfl rfl rfl hc i [] s5 _ H5 (fun _ _ => False) I5 (stat I5 n5) st5 stop
      refine thnF td fun r s6 ⟨hr, I6⟩ => ?_
      subst hr
      -- back in the def's context
      have I7 : Inv X pins σ H5 s6 := I3.call' (ch := fp) I6.os I6.base I6.hok I6.bare fun b hb => ⟨(f3 b hb).1.2.2.2.1, (f3 b hb).1.2.1, (f3 b hb).1.2.2.2.2.1, (f3 b hb).1.2.2.2.2.2⟩
      have nC : H5 s3.heap.objs.size = none := by
        have z : H5 ce.locals = none := I6.free
        rw [cL] at z
        exact z
      obtain ⟨m, hn, _⟩ := I6.loc
      have hn : s6.heap.Ns ce.locals m := hn
      rw [cL] at hn
      exact hRR D s3.heap.objs.size s6 m H5 I7 qq hn (I3.fpOk (Nat.le_refl _) nC)
    · have ti := T.item (X.blk s3 H3 scope ce fp) rfl rfl rfl hc i [] s5 _ H5 (fun _ _ => False) I5 (stat I5 n5) st5 go
      refine thnF ti fun r s6 ⟨u, hr, h6⟩ => ?_
      subst hr
      refine thnF h6 fun _ s7 ⟨x, H7, I7, r7, y7, st7, n7⟩ => ?_
      have I7' := I7.pinned (stat I7 n7) (T.obj _ _ st7)
      refine thnF (pg _ s7 _ H7 x u _ I7' r7 (step x H7 y7)) fun _ s8 ⟨σ8, H8, I8, hw8, q8⟩ => ?_
      refine thnF (pt _ s8 σ8 H8 _ I8 q8) fun b s9 ⟨H9, I9, q9⟩ => ?_
      -- the turn's end
      have fin : ∀ {s' : Shared} {H' : Hp}, Inv (X.blk s3 H3 scope ce fp) ([] ++ pinsAt fp s7.heap) σ8 H' s' → Nx H' → ∃ m, m < n ∧ ∃ i H', Inv (X.blk s3 H3 scope ce fp) [] (wipe σ (own.map (·.2))) H' s' ∧ tn i s'.heap ∧ (∀ b ∈ fp, H' b = none) ∧ W i m H' := fun {s' H'} I' nx => by
        obtain ⟨m', hm, w'⟩ := hNx H' nx
        have pin' : ∀ b ∈ fp, ∀ o, s7.heap.get? b = some o → s'.heap.get? b = some o ∧ H' b = none := fun b hb o e =>
          let z := I'.pin (b, o) (List.mem_append_right _ (List.mem_append_right _ (mem_pinsAt hb e)))
          ⟨z.1, z.2.1⟩
        have hl : (wipe σ (own.map (·.2))).length = σ8.length := by rw [← hw8, wipe_length]
        refine ⟨m', hm, i + 1, H', (I'.unpinned (pins := [])).weak hl (fun j v e => ?_), T.keep _ _ _ st7 fun b hb o e => (pin' b hb o e).1, fun b hb => ?_, w'⟩
        · rw [← hw8] at e
          exact (wipe_some e).1
        · obtain ⟨o, e, _⟩ := T.obj _ _ st7 b hb
          exact (pin' b hb o e).2
      cases b with
      | false =>
        simp only [Bool.false_eq_true, if_false] at q9 ⊢
        exact fin I9 q9
      | true =>
        simp only [if_true] at q9 ⊢
        refine thnF (pe _ s9 σ8 H9 _ I9 q9) fun z s10 ⟨yv, H10, I10, r10, acc, hD10, hz10, nx⟩ => ?_
        exact app_ok (X := X.blk s3 H3 scope ce fp) I10 hD10 hz10 r10 fun s11 I11 => fin I11 nx
  exact codeAny_compStart_list loop (T.self X.A 0 _ _ _ st4 loop)
/-- as a value -/
theorem pe_lc {elt tg iter : Expr} {ifs : List Expr} {scope : Scope} {own : List (Str × Nat)} {pos : Pos} {wi : TI} {g : TG} {tt : TT} {te : TE} (hc : X.calm = true) (hN : X.N.Nodup) (hi : PI X tg iter wi) (ok : BlkOk X.N X.env.scope scope own)
    (hg : ∀ (s : Shared) (H : Hp) (C : Addr) (cl : List (Str × Addr)) (fp : List Addr), PG (X.blk s H scope (compEnvC scope cl C X.env) fp) tg g) (ht : ∀ (s : Shared) (H : Hp) (C : Addr) (cl : List (Str × Addr)) (fp : List Addr), PTs (X.blk s H scope (compEnvC scope cl C X.env) fp) ifs tt)
    (he : ∀ (s : Shared) (H : Hp) (C : Addr) (cl : List (Str × Addr)) (fp : List Addr), PE (X.blk s H scope (compEnvC scope cl C X.env) fp) elt te) (hs : ∀ x, foldedSetIterable iter X.env x = pure x := by intro _; rfl) :
    PE X (.ListComp elt [⟨tg, iter, ifs, 0⟩] scope pos) (tLc wi g tt te (own.map (·.2))) := by
  intro pins s σ H Q I h
  rw [eval_ListComp]
  refine lc_core hc hN I hi ok hg ht he hs h fun D C s' m H' I' q hn f => ⟨m, hn, fun h'' sb => ?_⟩
  obtain ⟨f0, f1, f2, f3, f4, f5⟩ := f
  exact ⟨.ref D, H', I'.turned (t' := s'.toks) (fun b o hb e => (sb.2 b hb).trans e) f0 f1 f3 f4 f5, rfl, q⟩
end

/-- over a list that the block leaves as it is -/
theorem lc_list {K : PySem.W.Frag} {a : Addr} {xs : List V} {g : TG} {tt : TT} {te : TE} {vs : List Nat} {σ : St} {H1 : Hp} {D : Addr} {Qd : Hp → Prop} (Pv : Nat → Hp → Prop) (h0 : Pv 0 (upd H1 D (.lst []))) (hl : ∀ i H, i ≤ xs.length → Pv i H → SqL K H a xs)
    (hs : ∀ i x H, xs[i]? = some x → Pv i H → g x (wipe σ vs) H fun σ2 H2 => wipe σ2 vs = wipe σ vs ∧ tt σ2 H2 fun b H3 =>
      if b = true then te σ2 H3 fun y H4 => ∃ acc, H4 D = some (.lst acc) ∧ acc.length < sizeLine ∧ Pv (i + 1) (upd H4 D (.lst (acc ++ [y]))) else Pv (i + 1) H3) (hd : ∀ H, Pv xs.length H → Qd H) :
    ∃ W : Nat → Nat → Hp → Prop, (∃ m, W 0 m (upd H1 D (.lst []))) ∧ ∀ i m H, W i m H →
      ((Itl K a).stop i H ∧ Qd H) ∨ ((Itl K a).go i H ∧ ∃ Nx : Hp → Prop, (∀ H', Nx H' → ∃ m', m' < m ∧ W (i + 1) m' H') ∧ ∀ x H', (Itl K a).yld i H x H' → g x (wipe σ vs) H' fun σ2 H2 => wipe σ2 vs = wipe σ vs ∧ tt σ2 H2 fun b H3 =>
        if b = true then te σ2 H3 fun y H4 => ∃ acc, H4 D = some (.lst acc) ∧ acc.length < sizeLine ∧ Nx (upd H4 D (.lst (acc ++ [y]))) else Nx H3) := by
  refine ⟨fun i m H => m = xs.length - i ∧ i ≤ xs.length ∧ Pv i H, ⟨xs.length, by simp, Nat.zero_le _, h0⟩, ?_⟩
  rintro i m H ⟨rfl, hi, p⟩
  have q := hl i H hi p
  by_cases hlt : i < xs.length
  · refine .inr ⟨⟨xs, xs[i], q, by simp [hlt]⟩, Pv (i + 1), fun H' p' => ⟨xs.length - (i + 1), by omega, rfl, hlt, p'⟩, fun x H' y => ?_⟩
    obtain ⟨e, y⟩ := y
    subst e
    exact hs i x _ (y xs q) p
  · have e : i = xs.length := by omega
    subst e
    exact .inl ⟨⟨xs, q, Nat.le_refl _⟩, hd H p⟩
def blkC (N : List Str) (sc scope : Scope) (own : List (Str × Nat)) : Bool :=
  (match scope.kind with | .function => true | _ => false) && (scope.names.all fun y => decide (scope.names.lookup y.1 = some y.2)) && (own.all fun p => decide (N[p.2]? = some p.1)) &&
    (scope.names.all fun y => match y.2 with
      | .free => (match sc.names.lookup y.1 with | some .cell => true | some .free => true | _ => false)
      | .local => decide (y.1 ∈ own.map (·.1)) || decide (y.1 ∉ N)
      | .cell => decide (y.1 ∈ own.map (·.1)) || decide (y.1 ∉ N)
      | _ => true)
theorem blkOk_by {N : List Str} {sc scope : Scope} {own : List (Str × Nat)} (h : blkC N sc scope own = true) : BlkOk N sc scope own := by
  unfold blkC at h
  simp only [Bool.and_eq_true, List.all_eq_true, decide_eq_true_eq] at h
  obtain ⟨⟨⟨h1, h2⟩, h3⟩, h4⟩ := h
  refine ⟨?_, h2, h3, fun y hy e => ?_, fun y hy e => ?_⟩
  · split at h1
    · assumption
    · cases h1
  · have q := h4 y hy
    simp only [e] at q
    split at q <;> first | exact .inl (by assumption) | exact .inr (by assumption) | cases q
  · have q := h4 y hy
    rcases e with e | e <;> (simp only [e, Bool.or_eq_true, decide_eq_true_eq] at q; exact q)
end L2

namespace L2
open PySem PySem.Spec PyProof.Rows

section
variable {prog : Program} {w : World} {A : Around} {R : Result → Shared → Prop} {s : Shared} {elt t0 i0 t1 i1 : Expr} {ifs0 ifs1 : List Expr} {scope : Scope} {pos : Pos} {it acc : Value} {env : Env}
end

section
variable {X : Cx}
end
end L2

namespace L2
open PySem PySem.Spec PyProof.Rows

section
variable {κ : Type} [DecidableEq κ]
def valV (kvs : List (κ × V)) (k : κ) : Option V := (kvs.find? fun kv => decide (kv.1 = k)).map (·.2)
/-- in its place, or at the end -/
def putK (kvs : List (κ × V)) (k : κ) (v : V) : List (κ × V) :=
  if (kvs.any fun kv => decide (kv.1 = k)) = true then kvs.map (fun kv => if kv.1 = k then (kv.1, v) else kv) else kvs ++ [(k, v)]
def dropK (kvs : List (κ × V)) (k : κ) : List (κ × V) := kvs.filter fun kv => decide (kv.1 ≠ k)

theorem valV_pos {p : κ × V} {r : List (κ × V)} {k : κ} (e : p.1 = k) : valV (p :: r) k = some p.2 := by simp [valV, List.find?_cons, e]
theorem valV_neg {p : κ × V} {r : List (κ × V)} {k : κ} (e : ¬ p.1 = k) : valV (p :: r) k = valV r k := by simp [valV, List.find?_cons, e]
theorem valV_any (k : κ) : ∀ kvs : List (κ × V), (kvs.any fun kv => decide (kv.1 = k)) = (valV kvs k).isSome
  | [] => rfl
  | p :: r => by
    rw [List.any_cons]
    by_cases e : p.1 = k
    · simp only [valV_pos e, decide_eq_true e, Bool.true_or, Option.isSome_some]
    · rw [valV_neg e, decide_eq_false e, Bool.false_or]; exact valV_any k r
theorem RelO.isSome_eq {o : Option V} {u : Option Value} (r : RelO o u) : o.isSome = u.isSome := by
  cases o with
  | none => cases u with
    | none => rfl
    | some _ => exact (show False from r).elim
  | some _ => cases u with
    | none => exact (show False from r).elim
    | some _ => rfl
theorem RelO.getD {o : Option V} {u : Option Value} {d : V} {d' : Value} (r : RelO o u) (rd : RelV d d') : RelV (o.getD d) (u.getD d') := by
  cases o with
  | none => cases u with
    | none => exact rd
    | some _ => exact (show False from r).elim
  | some _ => cases u with
    | none => exact (show False from r).elim
    | some _ => exact r

/-- raw tables of the same keys -/
theorem KV.val {kvs : List (κ × V)} {vs : List (κ × Value)} (r : KV kvs vs) (k : κ) : RelO (valV kvs k) (valueAt vs k) := by
  unfold KV at r
  induction r with
  | nil => exact True.intro
  | @cons p q ps qs h t ih =>
    obtain ⟨h1, h2⟩ := h
    by_cases e : p.1 = k
    · have e' : q.1 = k := h1.symm.trans e
      have b : valueAt (q :: qs) k = some q.2 := by simp [valueAt, List.find?_cons, e']
      rw [valV_pos e, b]; exact h2
    · have e' : ¬ q.1 = k := fun z => e (h1.trans z)
      have b : valueAt (q :: qs) k = valueAt qs k := by simp [valueAt, List.find?_cons, e']
      rw [valV_neg e, b]; exact ih
theorem KV.any {kvs : List (κ × V)} {vs : List (κ × Value)} (r : KV kvs vs) (k : κ) : (kvs.any fun kv => decide (kv.1 = k)) = vs.any fun kv => decide (kv.1 = k) := by
  unfold KV at r
  induction r with
  | nil => rfl
  | cons h t ih => rw [List.any_cons, List.any_cons, ih, h.1]
theorem KV.repl {kvs : List (κ × V)} {vs : List (κ × Value)} (r : KV kvs vs) (k : κ) {y : V} {u : Value} (ry : RelV y u) :
    KV (kvs.map fun kv => if kv.1 = k then (kv.1, y) else kv) (vs.map fun kv => if kv.1 = k then (kv.1, u) else kv) := by
  unfold KV at r ⊢
  induction r with
  | nil => exact .nil
  | @cons p q ps qs h t ih =>
    rw [List.map_cons, List.map_cons]
    refine .cons ?_ ih
    obtain ⟨h1, h2⟩ := h
    by_cases e : p.1 = k
    · rw [if_pos e, if_pos (h1.symm.trans e)]; exact ⟨h1, ry⟩
    · rw [if_neg e, if_neg (fun z => e (h1.trans z))]; exact ⟨h1, h2⟩
theorem KV.put {kvs : List (κ × V)} {vs : List (κ × Value)} (r : KV kvs vs) (k : κ) {y : V} {u : Value} (ry : RelV y u) : KV (putK kvs k y) (stored vs k u) := by
  unfold putK stored
  rw [r.any k]
  by_cases e : (vs.any fun kv => decide (kv.1 = k)) = true
  · rw [if_pos e, if_pos e]; exact r.repl k ry
  · rw [if_neg e, if_neg e]; exact Paired.snoc r ⟨rfl, ry⟩
theorem KV.drop {kvs : List (κ × V)} {vs : List (κ × Value)} (r : KV kvs vs) (k : κ) : KV (dropK kvs k) (without vs k) := by
  unfold KV at r ⊢
  unfold dropK without
  induction r with
  | nil => exact .nil
  | @cons p q ps qs h t ih =>
    obtain ⟨h1, h2⟩ := h
    rw [List.filter_cons, List.filter_cons]
    by_cases e : p.1 = k
    · have a : ¬ decide (p.1 ≠ k) = true := by simp [e]
      have b : ¬ decide (q.1 ≠ k) = true := by simp [h1.symm.trans e]
      rw [if_neg a, if_neg b]; exact ih
    · have e' : ¬ q.1 = k := fun z => e (h1.trans z)
      have a : decide (p.1 ≠ k) = true := by simp [e]
      have b : decide (q.1 ≠ k) = true := by simp [e']
      rw [if_pos a, if_pos b]; exact .cons ⟨h1, h2⟩ ih
theorem KV.keys {kvs : List (κ × V)} {vs : List (κ × Value)} (r : KV kvs vs) : kvs.map (·.1) = vs.map (·.1) := by
  unfold KV at r
  induction r with
  | nil => rfl
  | cons h t ih => rw [List.map_cons, List.map_cons, ih, h.1]
theorem KV.length {kvs : List (κ × V)} {vs : List (κ × Value)} (r : KV kvs vs) : kvs.length = vs.length := Paired.length r
end

/-- raw entries of a dict with tuple keys -/
abbrev KT (H : Hp) : List (List Key × V) → List (List Key × Addr × Value) → Prop := Paired fun p q => p.1 = q.1 ∧ H q.2.1 = some (.tup (p.1.map kV)) ∧ RelV p.2 q.2.2
theorem KT.val {H : Hp} {kvs : List (List Key × V)} {xs : List (List Key × Addr × Value)} (r : KT H kvs xs) (k : List Key) : RelO (valV kvs k) ((atKey xs k).map (·.2)) := by
  induction r with
  | nil => exact True.intro
  | @cons p q ps qs h t ih =>
    obtain ⟨h1, _, h2⟩ := h
    by_cases e : p.1 = k
    · have e' : q.1 = k := h1.symm.trans e
      have b : atKey (q :: qs) k = some q.2 := by simp [atKey, List.find?_cons, e']
      rw [valV_pos e, b]; exact h2
    · have e' : ¬ q.1 = k := fun z => e (h1.trans z)
      have b : atKey (q :: qs) k = atKey qs k := by simp [atKey, List.find?_cons, e']
      rw [valV_neg e, b]; exact ih
theorem KT.repl {H : Hp} {kvs : List (List Key × V)} {xs : List (List Key × Addr × Value)} (r : KT H kvs xs) (k : List Key) {y : V} {u : Value} (ry : RelV y u) :
    KT H (kvs.map fun kv => if kv.1 = k then (kv.1, y) else kv) (xs.map (putAt k u)) := by
  induction r with
  | nil => exact .nil
  | @cons p q ps qs h t ih =>
    rw [List.map_cons, List.map_cons]
    refine .cons ?_ ih
    obtain ⟨h1, h2, h3⟩ := h
    unfold putAt
    by_cases e : p.1 = k
    · rw [if_pos e, if_pos (h1.symm.trans e)]; exact ⟨h1, h2, ry⟩
    · rw [if_neg e, if_neg (fun z => e (h1.trans z))]; exact ⟨h1, h2, h3⟩
theorem KT.put {H : Hp} {kvs : List (List Key × V)} {xs : List (List Key × Addr × Value)} (r : KT H kvs xs) (k : List Key) {b : Addr} {y : V} {u : Value} (hb : H b = some (.tup (k.map kV))) (ry : RelV y u) :
    KT H (putK kvs k y) (storedH xs k b u) := by
  have e : (kvs.any fun kv => decide (kv.1 = k)) = (atKey xs k).isSome := by
    rw [valV_any, (r.val k).isSome_eq, Option.isSome_map]
  unfold putK storedH
  rw [e]
  by_cases q : (atKey xs k).isSome = true
  · rw [if_pos q, if_pos q]; exact r.repl k ry
  · rw [if_neg q, if_neg q]; exact Paired.snoc r ⟨rfl, hb, ry⟩
theorem KT.keeps {H H' : Hp} {kvs : List (List Key × V)} {xs : List (List Key × Addr × Value)} (r : KT H kvs xs) (ht : ∀ b ys, H b = some (.tup ys) → H' b = some (.tup ys)) : KT H' kvs xs :=
  Paired.mapP r fun _ _ z => ⟨z.1, ht _ _ z.2.1, z.2.2⟩

section
variable {P : Program} {w : World} {H : Hp} {h : Heap} {a : Addr}
end

/-- what the dict at a holds at the key y -/
def DGet (H : Hp) (a : Addr) (y : V) (r : Option V) : Prop :=
  (∃ kvs k, Rd H a (.dK kvs) ∧ y = kV k ∧ r = valV kvs k) ∨ ∃ kvs k b, Rd H a (.dT kvs) ∧ y = .ref b ∧ H b = some (.tup (k.map kV)) ∧ r = valV kvs k
/-- the heap behind a[y] = v -/
def DPut (H : Hp) (a : Addr) (y v : V) (H' : Hp) : Prop :=
  (∃ kvs k, H a = some (.dK kvs) ∧ y = kV k ∧ kvs.length < sizeLine ∧ H' = upd H a (.dK (putK kvs k v))) ∨
  ∃ kvs k b, H a = some (.dT kvs) ∧ y = .ref b ∧ H b = some (.tup (k.map kV)) ∧ kvs.length < sizeLine ∧ H' = upd H a (.dT (putK kvs k v))
theorem DGet.k {H : Hp} {a : Addr} {kvs : List (Key × V)} {k : Key} (e : H a = some (.dK kvs)) : DGet H a (kV k) (valV kvs k) := .inl ⟨kvs, k, .inl e, rfl, rfl⟩
theorem DGet.t {H : Hp} {a b : Addr} {kvs : List (List Key × V)} {k : List Key} (e : H a = some (.dT kvs)) (eb : H b = some (.tup (k.map kV))) : DGet H a (.ref b) (valV kvs k) := .inr ⟨kvs, k, b, .inl e, rfl, eb, rfl⟩
theorem DPut.k {H : Hp} {a : Addr} {kvs : List (Key × V)} {k : Key} {v : V} (e : H a = some (.dK kvs)) (hl : kvs.length < sizeLine) : DPut H a (kV k) v (upd H a (.dK (putK kvs k v))) := .inl ⟨kvs, k, e, rfl, hl, rfl⟩
theorem DPut.t {H : Hp} {a b : Addr} {kvs : List (List Key × V)} {k : List Key} {v : V} (e : H a = some (.dT kvs)) (eb : H b = some (.tup (k.map kV))) (hl : kvs.length < sizeLine) :
    DPut H a (.ref b) v (upd H a (.dT (putK kvs k v))) := .inr ⟨kvs, k, b, e, rfl, eb, hl, rfl⟩

section
variable {X : Cx} {pins : List (Addr × Obj)} {σ : St} {H : Hp} {s : Shared} {a : Addr} {y v : V} {u r : Value} {o : Option V} {A : Around} {E : Value → Shared → Prop}

end

section
variable {X : Cx} {pins : List (Addr × Obj)} {σ : St} {H : Hp} {s : Shared} {a : Addr} {kvs : List (Key × V)} {k : Key} {u : Value} {A : Around} {E : Value → Shared → Prop}
end

/-- the element of a subscription, not a slice -/
def NoSl (i : Expr) : Prop := ∀ ov iv, subscripted i false ov iv = operate [ov, iv] (getItem ov iv)
theorem subD_of {prog : Program} {w : World} {A : Around} {E : Value → Shared → Prop} {s : Shared} {env : Env} {value slice : Expr} {pos : Pos} {T id : String} {Q : Value → Shared → Prop}
    (hl : typeLookup (.type T) "__getitem__" = pure (some (.builtin id))) (hs : NoSl slice)
    (h : wpAny (model prog w) A (eval value env) (fun o s₁ => wpAny (model prog w) A (eval slice env) (fun i s₂ => s₂.TypeIs o T ∧ wpAny (model prog w) A (getItem o i) Q E s₂) E s₁) E s) :
    wpAny (model prog w) A (eval (.Subscript value slice pos) env) Q E s := by
  refine Subscript_ (wpAny_mono h (fun o s₁ h₁ => wpAny_mono h₁ (fun i s₂ h₂ => ?_) fun _ _ x => x) fun _ _ x => x)
  obtain ⟨hT, h₂⟩ := h₂
  unfold subscriptTail
  refine wpAny_bind ?_
  rw [getitemInPython_of_ne hT.not_modules]
  refine wpAny_bind (wpAny_specialOf hT hl ?_)
  have fin : wpAny (model prog w) A (subscripted slice false o i) (fun r s₃ => wpAny (model prog w) A (letTemporaryGo value o r >>= fun _ => pure r) Q E s₃) E s₂ := by
    rw [hs o i]
    exact wpAny_operating (wpAny_mono h₂ (fun r s₃ h₃ => wpAny_bind (wpAny_letTemporaryGo (wpAny_pure h₃))) fun _ _ x => x)
  first
    | exact wpAny_pure (wpAny_bind fin)
    | exact wpAny_bind (wpAny_pure (wpAny_bind fin))
    | exact wpAny_bind fin

section
variable {X : Cx} {o i e value : Expr} {pos pos' tpos : Pos} {td ty tv : TE}
end

section
variable {X : Cx} {pos : Pos}
end

/-- a method call o.m(e) of a built-in, with one argument: what must be seen of the text -/
structure M1 (X : Cx) (o : Expr) (m : Str) (apos : Pos) (e : Expr) (cpos : Pos) : Prop where
  base : attributeBase o m X.env (eval o X.env) = eval o X.env
  few : ((backTo cpos (starEach [e] X.env)).all (fun x => !x.1) && (backToKw cpos (keywordEach [] X.env)).all (fun x => x.1.isSome)
    && decide (([e] : List Expr).length + ([] : List Keyword).length + (if ([] : List Keyword).isEmpty then 0 else 1) < 30)) = true
  line : (apos.endLine == cpos.line) = true
  trees : backTo cpos (starEach [e] X.env) = [(false, eval e X.env)]
structure M2 (X : Cx) (o : Expr) (m : Str) (apos : Pos) (e f : Expr) (cpos : Pos) : Prop where
  base : attributeBase o m X.env (eval o X.env) = eval o X.env
  few : ((backTo cpos (starEach [e, f] X.env)).all (fun x => !x.1) && (backToKw cpos (keywordEach [] X.env)).all (fun x => x.1.isSome)
    && decide (([e, f] : List Expr).length + ([] : List Keyword).length + (if ([] : List Keyword).isEmpty then 0 else 1) < 30)) = true
  line : (apos.endLine == cpos.line) = true
  trees : backTo cpos (starEach [e, f] X.env) = [(false, eval e X.env), (false, eval f X.env)]

section
variable {X : Cx} {pins : List (Addr × Obj)} {σ : St} {H : Hp} {s : Shared} {a : Addr} {y d : V} {u r : Value} {o : Option V} {A : Around} {E : Value → Shared → Prop}
end

section
variable {X : Cx} {o e f : Expr} {apos cpos : Pos} {td ty tx : TE}
end

section
variable {X : Cx} {pins : List (Addr × Obj)} {σ : St} {H : Hp} {s : Shared} {a : Addr} {kvs : List (Key × V)} {A : Around} {E : Value → Shared → Prop}
end

section
variable {X : Cx} {pins : List (Addr × Obj)} {σ : St} {H : Hp} {s : Shared} {a : Addr} {y : V} {u : Value} {A : Around} {E : Value → Shared → Prop}
end
end L2

namespace L2
open PySem PySem.Spec PyProof.Rows

section
variable {prog : Program} {w : World} {A : Around} {E : Value → Shared → Prop}
end

section
variable {X : Cx}
end
end L2

namespace L2
open PySem PySem.Spec PyProof.Rows

section
variable {X : Cx} {pins : List (Addr × Obj)} {σ : St} {H : Hp} {s : Shared} {h' : Heap}
end
section
variable {X : Cx}
end

section
variable {X : Cx} {tg : Expr}
end
section
variable {X : Cx} {tg : Expr}
end

section
variable {prog : Program} {w : World} {A : Around} {E : Value → Shared → Prop} {s : Shared}
end

section
variable {X : Cx} {pins : List (Addr × Obj)} {σ : St} {H : Hp} {s : Shared} {d : Addr} {o : Obj}
end

section
variable {P : Program} {w : World} {K : PySem.W.Frag} {tg : Expr} {d : Addr} {o : Obj} {es : Array DictEntry} {ep : Nat}
end

section
variable {X : Cx} {tg e : Expr} {td : TE} {apos cpos : Pos}
end

end L2

section 
namespace Bits
open PySem PyProof.Rows

end Bits
end 

section 
namespace TL
open PySem PySem.Builtin PySem.Builtin.Str PySem.StrLaws

abbrev tl (x : Str) : List Nat := x.cps.toList
/-- S stands at the head of l -/
def pre (S l : List Nat) : Bool := l.take S.length == S
/-- what stands before the first S, and behind it -/
def par (S : List Nat) : List Nat → List Nat → Option (List Nat × List Nat)
  | _, [] => none
  | acc, c :: r => if pre S (c :: r) = true then some (acc, (c :: r).drop S.length) else par S (acc ++ [c]) r

end TL
end 

namespace L2
open PySem PySem.Spec PyProof.Rows

section
variable {X : Cx} {pins : List (Addr × Obj)} {σ : St} {H : Hp} {s : Shared} {Q : VK}
end

section
variable {X : Cx}

end

section
variable {X : Cx} {o e : Expr} {to te : TE}
end
end L2

namespace L2
open PySem PySem.Spec PyProof.Rows

section
variable {X : Cx}
end

theorem IsPart.raw {v : Value} {o : Option Int} (p : IsPart v o) : ∃ l : Option (Int × Tok), v = partValue l ∧ l.map (·.1) = o := by
  cases p with
  | none => exact ⟨none, rfl, rfl⟩
  | int i t => exact ⟨some (i, t), rfl, rfl⟩

end L2

namespace Att
open PySem PySem.W PySem.Calls PyProof.Rows

section
variable {prog : Program} {w : World} {A : Around} {E : Value → Shared → Prop} {s : Shared} {K : Frag}

end
end Att

namespace L2
open PySem PySem.Spec PyProof.Rows

end L2

namespace L2
open PySem PySem.Spec PyProof.Rows

abbrev KOf {K : PySem.W.Frag} {h : Heap} (_ : K.In h) : PySem.W.Frag := K

end L2

namespace L2
open PySem PySem.Spec PyProof.Rows

/-- the j-th statement of a class's body -/
def inClass (s : Stmt) (j : Nat) : Stmt := match s with
  | .ClassDef _ _ _ body _ _ _ _ _ _ _ => body.getD j (.Pass ⟨0, 0, 0, 0⟩)
  | _ => .Pass ⟨0, 0, 0, 0⟩
def defArgs (s : Stmt) : Arguments := match s with
  | .FunctionDef _ a _ _ _ _ _ _ _ _ => a
  | _ => { posonlyargs := [], args := [], vararg := none, kwonlyargs := [], kw_defaults := [], kwarg := none, defaults := [] }
def defBody (s : Stmt) : List Stmt := match s with
  | .FunctionDef _ _ b _ _ _ _ _ _ _ => b
  | _ => []
def defScope (s : Stmt) : Scope := match s with
  | .FunctionDef _ _ _ _ _ _ sc _ _ _ => sc
  | _ => { kind := .function, names := [], isGenerator := false, isCoroutine := false }

abbrev CX0 : CXT := fun _ _ _ _ _ _ => False
abbrev E0 : XK := fun _ _ _ => False
theorem pass0 {X : Cx} : Passes CX0 X E0 := fun _ _ _ _ _ _ _ h => h.elim

structure Fun (K : PySem.W.Frag) (x qual : Str) (st : Stmt) (f : Addr) (fd : FuncData) : Prop where
  ex : ∃ (oc : Value) (od : Option Addr) (kV doc pm : Value) (an : Option Addr) (cdv ct : Value) (osl : Array (Option Value)),
    fd = PySem.W.fnOf x qual (defArgs st) (defBody st) (defScope st) .none kV doc pm an cdv ct ∧ K.lookup f = some ⟨oc, od, .func fd, osl⟩ ∧ PySem.W.codeIn K cdv qual = true
  kp : PySem.W.keepIn K (.ref f) = true
section
variable {P : Program} {w : World} {K : PySem.W.Frag} {mg : Str → Option Value} {base : Heap}
/-- THE RULE for a def: its body as a term of rules, and the reading of that term -/
theorem Fun.ok {x qual : Str} {st : Stmt} {f : Addr} {fd : FuncData} {N ps : List Str} {k : Nat} {sp : Sp} (F : Fun K x qual st f fd) (S : FnScope N ps (defScope st)) (len : ∀ vs H Q E, sp vs H Q E → vs.length = ps.length)
    (hbody : ∀ (cdv : Value) (A : Around) (outer : List Env) (s : Shared) (H : Hp) (vs : List V) (Q : VK) (E : XK), Room k (A.deeper (envOfC qual (defScope st) s.heap.objs.size f cdv)) → sp vs H Q E →
      ∃ t, PSs (cxOf CX0 P w K mg base N qual (defScope st) f cdv A outer s H E).nox (defBody st) t ∧ t { nx := fun _ H' => Q .non H', rt := Q } (start N vs) H) : FnOk P w K mg base CX0 (k + 1) f fd ps sp := by
  obtain ⟨oc, od, kV, doc, pm, an, cdv, ct, osl, rfl, lk, hcd⟩ := F.ex
  refine fn_of lk hcd S len fun A outer s H vs Q E hr hsp => ?_
  obtain ⟨t, h, q⟩ := hbody cdv A outer s H vs Q E hr hsp
  exact ⟨t, h.nox, q⟩
/-- how its arguments bind (no defaults): h is «fun _ _ _ _ _ _ us hl => match us, hl with | [_, _], _ => rfl», one _ a parameter -/
theorem Fun.binds {x qual : Str} {st : Stmt} {f : Addr} {fd : FuncData} {ps : List Str} (F : Fun K x qual st f fd)
    (h : ∀ (kV doc pm : Value) (an : Option Addr) (cdv ct : Value) (us : List Value), us.length = ps.length → bindArgs (PySem.W.fnOf x qual (defArgs st) (defBody st) (defScope st) .none kV doc pm an cdv ct) ⟨us, []⟩ = pure (ps.zip us)) : Binds K fd ps [] := by
  obtain ⟨oc, od, kV, doc, pm, an, cdv, ct, osl, rfl, lk, hcd⟩ := F.ex
  exact .all (h kV doc pm an cdv ct)
theorem fun_mk {x qual : Str} {st : Stmt} {f : Addr} {oc : Value} {od an : Option Addr} {osl : Array (Option Value)} {kV doc pm cdv ct : Value} (l : K.lookup f = some ⟨oc, od, .func (PySem.W.fnOf x qual (defArgs st) (defBody st) (defScope st) .none kV doc pm an cdv ct), osl⟩)
    (c : PySem.W.codeIn K cdv qual = true) (k : PySem.W.keepIn K (.ref f) = true) : Fun K x qual st f (PySem.W.fnOf x qual (defArgs st) (defBody st) (defScope st) .none kV doc pm an cdv ct) := ⟨⟨oc, od, kV, doc, pm, an, cdv, ct, osl, rfl, l, c⟩, k⟩
end
theorem small1000 {n : Nat} (h : n ≤ 1000) : n < sizeLine := Nat.lt_of_le_of_lt h (by decide)

section
variable {X : Cx}
theorem pv (i : Nat) {x : Str} {pos : Pos} (hN : X.N[i]? = some x := by rfl) (hv : Vis X.env.scope x := by first | exact Or.inl rfl | exact Or.inr (Or.inl rfl) | exact Or.inr (Or.inr rfl)) (hd : (x == ("__debug__" : Str)) = false := by decide)
    (hcd : (x == ("__classdict__" : Str)) = false := by decide) : PE X (.Name x pos) (tVar i) := pe_var hN hv hd hcd
end

theorem ite2 {c A B : Prop} [Decidable c] (h1 : c → A) (h2 : ¬ c → B) : if c then A else B := by
  by_cases h : c
  · rw [if_pos h]
    exact h1 h
  · rw [if_neg h]
    exact h2 h
/-- all that was tracked is as it was -/
def Same (H H' : Hp) : Prop := ∀ b o, H b = some o → H' b = some o
theorem Same.refl (H : Hp) : Same H H := fun _ _ h => h
theorem Same.trans {H H1 H2 : Hp} (a : Same H H1) (b : Same H1 H2) : Same H H2 := fun c o h => b c o (a c o h)
theorem Same.free {H H' : Hp} (e : Same H H') {l : Addr} (h : H' l = Option.none) : H l = Option.none := by
  cases q : H l with
  | none => rfl
  | some o =>
    rw [e l o q] at h
    cases h
theorem Same.seq {K : PySem.W.Frag} {H H' : Hp} {a : Addr} {xs : List V} (e : Same H H') (h : SqL K H a xs) : SqL K H' a xs := by
  rcases h with (h | ⟨o, h⟩) | h
  · exact .inl (.inl (e _ _ h))
  · exact .inl (.inr ⟨o, e _ _ h⟩)
  · exact .inr h

section
variable {κ : Type} [DecidableEq κ]
end
/-- a new instance and its __init__ leave all that was tracked as it was -/
theorem Same.made {H H1 : Hp} {x dx C : Addr} (nx : H x = Option.none) (nd : H dx = Option.none) (k : ∀ b o, (upd (upd H dx (.own x)) x (.ins C dx [])) b = some o → b ≠ x → H1 b = some o) : Same H H1 := fun b o e =>
  k b o (by rw [upd_ne (ne_of_none e nx), upd_ne (ne_of_none e nd)]; exact e) (ne_of_none e nx)
end L2

section
set_option Elab.async false
set_option linter.all false
set_option maxRecDepth 100000
set_option maxHeartbeats 2000000
namespace L2
open PySem PySem.Spec PyProof.Rows
open PySem.W (WData Codec OpenSpec Well WellAll ReadsW ReadsAllW)
mutual
/-- x stands for the datum d, lists and tuples all the way -/
inductive Dw (K : PySem.W.Frag) (H : Hp) : V → WData → Prop
  | non : Dw K H .non .none
  | bl (b : Bool) : Dw K H (.bl b) (.bool b)
  | int (i : Int) : Dw K H (.int i) (.int i)
  | str (x : Str) : Dw K H (.str x) (.str x)
  | byt (b : Array UInt8) : Dw K H (.byt b) (.bytes b.toList)
  | lst {a : Addr} {xs : List V} {ds : List WData} : SqL K H a xs → DwAll K H xs ds → Dw K H (.ref a) (.list ds)
  | tup {a : Addr} {xs : List V} {ds : List WData} : SqT K H a xs → DwAll K H xs ds → Dw K H (.ref a) (.tuple ds)
inductive DwAll (K : PySem.W.Frag) (H : Hp) : List V → List WData → Prop
  | nil : DwAll K H [] []
  | cons {v : V} {vs : List V} {d : WData} {ds : List WData} : Dw K H v d → DwAll K H vs ds → DwAll K H (v :: vs) (d :: ds)
end
theorem dw_ints {K : PySem.W.Frag} {H : Hp} : ∀ ns : List Int, DwAll K H (ns.map V.int) (ns.map WData.int)
  | [] => .nil
  | n :: r => .cons (.int n) (dw_ints r)
theorem ints_dw {K : PySem.W.Frag} {H : Hp} : ∀ (ns : List Int) (xs : List V), DwAll K H xs (ns.map WData.int) → xs = ns.map V.int
  | [], xs, h => by
    cases h
    rfl
  | n :: r, xs, h => by
    cases h with
    | cons h1 h2 =>
      cases h1
      rw [ints_dw r _ h2] <;> rfl
section
variable {P : Program} {w : World} {K : PySem.W.Frag} {H : Hp} {h : Heap} {R : PySem.W.WRecords} {cl : Str → Option Addr}
theorem sqL_at {a : Addr} {xs : List V} (hok : HOk P w H h) (KX : K.In h) (q : SqL K H a xs) : ∃ (its : List Value) (o : Obj) (n : Nat), Vals xs its ∧ h.get? a = some o ∧ o.cls = .type "list" ∧ o.data = .seq its.toArray n := by
  rcases q with q | ⟨o, its, n, e, hc, _, hd, _, hv⟩
  · obtain ⟨_, its, n, hv, e⟩ := (show ObjOk P w H h a (.lst xs) from q.ok hok)
    exact ⟨its, _, n, hv, e, rfl, rfl⟩
  · exact ⟨its.toList, o, n, hv, KX _ _ e, hc, by simp [hd]⟩
theorem sqT_at {a : Addr} {xs : List V} (hok : HOk P w H h) (KX : K.In h) (q : SqT K H a xs) : ∃ (its : List Value) (o : Obj) (n : Nat), Vals xs its ∧ h.get? a = some o ∧ o.cls = .type "tuple" ∧ o.data = .seq its.toArray n := by
  rcases q with q | ⟨o, its, n, e, hc, hd, _, hv⟩
  · obtain ⟨_, its, hv, o, e, hc, n, hd⟩ := (show ObjOk P w H h a (.tup xs) from q.ok hok)
    exact ⟨its, o, n, hv, e, hc, hd⟩
  · exact ⟨its.toList, o, n, hv, KX _ _ e, hc, by simp [hd]⟩
mutual
theorem Dw.reads (hok : HOk P w H h) (KX : K.In h) : ∀ (d : WData) (v : V) (u : Value), Dw K H v d → RelV v u → ∃ as, ReadsW R cl h u d as
  | .none, _, _, x, r => by
    cases x
    cases r
    exact ⟨_, ReadsW.none⟩
  | .bool b, _, _, x, r => by
    cases x
    cases r
    exact ⟨_, ReadsW.bool b⟩
  | .int i, _, _, x, r => by
    cases x
    obtain ⟨t, rfl⟩ := r
    exact ⟨_, ReadsW.int i t⟩
  | .str s, _, _, x, r => by
    cases x
    obtain ⟨t, rfl⟩ := r
    exact ⟨_, ReadsW.str s t⟩
  | .bytes b, _, _, x, r => by
    cases x
    obtain ⟨t, rfl⟩ := r
    exact ⟨_, ReadsW.bytes _ t⟩
  | .list ds, _, _, x, r => by
    cases x with
    | lst hs ha =>
      cases r
      obtain ⟨its, o, n, rv, ho, hc, hd⟩ := sqL_at hok KX hs
      obtain ⟨as, hr⟩ := Dw.readsAll hok KX ds _ its ha rv
      exact ⟨_, ReadsW.list ho hc hd hr⟩
  | .tuple ds, _, _, x, r => by
    cases x with
    | tup hs ha =>
      cases r
      obtain ⟨its, o, n, rv, ho, hc, hd⟩ := sqT_at hok KX hs
      obtain ⟨as, hr⟩ := Dw.readsAll hok KX ds _ its ha rv
      exact ⟨_, ReadsW.tuple ho hc hd hr⟩
  | .float _, _, _, x, _ => by cases x
  | .dict _, _, _, x, _ => by cases x
  | .bytearray _, _, _, x, _ => by cases x
  | .set _, _, _, x, _ => by cases x
  | .frozenset _, _, _, x, _ => by cases x
  | .obj _ _, _, _, x, _ => by cases x
theorem Dw.readsAll (hok : HOk P w H h) (KX : K.In h) : ∀ (ds : List WData) (vs : List V) (us : List Value), DwAll K H vs ds → Vals vs us → ∃ as, ReadsAllW R cl h us ds as
  | [], _, _, x, r => by
    cases x
    cases r
    exact ⟨_, ReadsAllW.nil⟩
  | d :: ds, _, _, x, r => by
    cases x with
    | cons h1 h2 =>
      cases r with
      | cons r1 r2 =>
        obtain ⟨as, q1⟩ := Dw.reads hok KX d _ _ h1 r1
        obtain ⟨bs, q2⟩ := Dw.readsAll hok KX ds _ _ h2 r2
        exact ⟨_, ReadsAllW.cons q1 q2⟩
end
end
mutual
/-- data that a codec tells -/
def plW : WData → Bool
  | .none => true
  | .bool _ => true
  | .int _ => true
  | .str _ => true
  | .bytes _ => true
  | .list xs => plWs xs
  | .tuple xs => plWs xs
  | _ => false
def plWs : List WData → Bool
  | [] => true
  | x :: r => plW x && plWs r
end
theorem plWs_map {α : Type} {f : α → WData} (h : ∀ a, plW (f a) = true) : ∀ l : List α, plWs (l.map f) = true
  | [] => rfl
  | x :: r => by
    show (plW (f x) && plWs (r.map f)) = true
    rw [h x, plWs_map h r] <;> rfl
theorem pl_enc : ∀ (c : Codec) (a : c.denote), plW (c.enc a) = true
  | .unit, _ => rfl
  | .bool, _ => rfl
  | .int _ _, _ => rfl
  | .nat _ _, _ => rfl
  | .u8, _ => rfl
  | .bytes _ _, _ => rfl
  | .text _ _ _ _, _ => rfl
  | .list _ _ c, a => plWs_map (fun x => pl_enc c x) a
  | .pair c d, a => by
    show (plW (c.enc a.1) && (plW (d.enc a.2) && true)) = true
    rw [pl_enc c a.1, pl_enc d a.2] <;> rfl
  | .triple c d e, a => by
    show (plW (c.enc a.1) && (plW (d.enc a.2.1) && (plW (e.enc a.2.2) && true))) = true
    rw [pl_enc c a.1, pl_enc d a.2.1, pl_enc e a.2.2] <;> rfl
  | .option c, none => rfl
  | .option c, some x => pl_enc c x
theorem pl_encAll : ∀ (cs : List Codec) (a : Codec.denoteAll cs), plWs (Codec.encAll cs a) = true
  | [], _ => rfl
  | c :: cs, a => by
    show (plW (c.enc a.1) && plWs (Codec.encAll cs a.2)) = true
    rw [pl_enc c a.1, pl_encAll cs a.2] <;> rfl
theorem weight_mem : ∀ {xs : List WData} {d : WData}, d ∈ xs → d.weight ≤ WData.weightAll xs
  | [], d, h => absurd h (by simp)
  | x :: r, d, h => by
    show d.weight ≤ x.weight + 1 + WData.weightAll r
    rcases List.mem_cons.mp h with e | m
    · rw [e]
      omega
    · have z := weight_mem m
      omega
def toV : Value → V
  | .none => .non
  | .bool b => .bl b
  | .int i _ => .int i
  | .str x _ => .str x
  | .bytes b _ => .byt b
  | .ref a => .ref a
  | _ => .non
/-- a value of the arguments, its objects among A -/
def OkU (A : List Addr) : Value → Prop
  | .none => True
  | .bool _ => True
  | .int _ _ => True
  | .str _ _ => True
  | .bytes _ _ => True
  | .ref a => a ∈ A
  | _ => False
theorem OkU.mono {A B : List Addr} (h : ∀ a ∈ A, a ∈ B) : ∀ {u : Value}, OkU A u → OkU B u := fun {u} x => by
  cases u with
  | ref a => exact h a x
  | none => trivial
  | bool b => trivial
  | int i t => trivial
  | str s t => trivial
  | bytes b t => trivial
  | _ => exact False.elim x
theorem relV_toV {A : List Addr} {u : Value} (x : OkU A u) : RelV (toV u) u := by
  cases u with
  | ref a => rfl
  | none => rfl
  | bool b => rfl
  | int i t => exact ⟨t, rfl⟩
  | str s t => exact ⟨t, rfl⟩
  | bytes b t => exact ⟨t, rfl⟩
  | _ => exact False.elim x
theorem vals_toV {A : List Addr} : ∀ {vs : List Value}, (∀ u ∈ vs, OkU A u) → Vals (vs.map toV) vs
  | [], _ => .nil
  | u :: r, h => .cons (relV_toV (h u (List.mem_cons_self ..))) (vals_toV fun x hx => h x (List.mem_cons_of_mem _ hx))
/-- an object of the arguments -/
def ArgOb (h : Heap) (A : List Addr) (a : Addr) : Prop := ∃ vs : List Value, vs.length ≤ sizeLine ∧ (∀ u ∈ vs, OkU A u) ∧
  (h.get? a = some { cls := .type "list", data := .seq vs.toArray } ∨ h.get? a = some { cls := .type "tuple", data := .seq vs.toArray })
theorem ArgOb.mono {h : Heap} {A B : List Addr} {a : Addr} (k : ∀ a ∈ A, a ∈ B) (x : ArgOb h A a) : ArgOb h B a := by
  obtain ⟨vs, h1, h2, h3⟩ := x
  exact ⟨vs, h1, fun u hu => (h2 u hu).mono k, h3⟩
theorem wellAll_len {P : Params} {h : Heap} : ∀ {vs : List Value} {ds : List WData}, WellAll P h vs ds → vs.length = ds.length
  | _, _, .nil => rfl
  | _, _, .cons _ b => by
    show _ + 1 = _ + 1
    rw [wellAll_len b]
theorem well_list {P : Params} {h : Heap} {v : Value} {ds : List WData} (x : Well P h v (.list ds)) : ∃ (a : Addr) (vs : List Value), v = .ref a ∧ h.get? a = some { cls := .type "list", data := .seq vs.toArray } ∧ WellAll P h vs ds := by
  cases x with
  | list ho hall => exact ⟨_, _, rfl, ho, hall⟩
theorem well_tuple {P : Params} {h : Heap} {v : Value} {ds : List WData} (x : Well P h v (.tuple ds)) : ∃ (a : Addr) (vs : List Value), v = .ref a ∧ h.get? a = some { cls := .type "tuple", data := .seq vs.toArray } ∧ WellAll P h vs ds := by
  cases x with
  | tuple ho hall => exact ⟨_, _, rfl, ho, hall⟩
theorem well_cons {P : Params} {h : Heap} {us : List Value} {d : WData} {ds : List WData} (x : WellAll P h us (d :: ds)) : ∃ (v : Value) (vs : List Value), us = v :: vs ∧ Well P h v d ∧ WellAll P h vs ds := by
  cases x with
  | cons a b => exact ⟨_, _, rfl, a, b⟩
theorem line_of {n : Nat} (h : n ≤ 1048576) : n ≤ sizeLine := Nat.le_trans h (by decide)
section
variable {P : Params} {h : Heap}
mutual
theorem area_one : ∀ (d : WData) (v : Value), Well P h v d → plW d = true → d.weight ≤ 1048576 → ∃ A : List Addr, OkU A v ∧ ∀ a ∈ A, ArgOb h A a
  | .none, _, x, _, _ => by
    cases x
    exact ⟨[], trivial, fun a m => absurd m (by simp)⟩
  | .bool b, _, x, _, _ => by
    cases x
    exact ⟨[], trivial, fun a m => absurd m (by simp)⟩
  | .int i, _, x, _, _ => by
    cases x
    exact ⟨[], trivial, fun a m => absurd m (by simp)⟩
  | .str s, _, x, _, _ => by
    cases x
    exact ⟨[], trivial, fun a m => absurd m (by simp)⟩
  | .bytes b, _, x, _, _ => by
    cases x
    exact ⟨[], trivial, fun a m => absurd m (by simp)⟩
  | .list ds, _, x, p, z => by
    obtain ⟨a, vs, rfl, ho, hall⟩ := well_list x
    have z2 : WData.weightAll ds ≤ 1048576 := z
    obtain ⟨A, h1, h2⟩ := area_all ds _ hall p fun d hd => Nat.le_trans (weight_mem hd) z2
    have k : ∀ b ∈ A, b ∈ a :: A := fun b hb => List.mem_cons_of_mem _ hb
    refine ⟨a :: A, List.mem_cons_self .., fun b hb => ?_⟩
    rcases List.mem_cons.mp hb with e | m
    · rw [e]
      exact ⟨vs, line_of (by rw [wellAll_len hall]; exact Nat.le_trans (PySem.W.length_le_weightAllW ds) z2), fun u hu => (h1 u hu).mono k, .inl ho⟩
    · exact (h2 b m).mono k
  | .tuple ds, _, x, p, z => by
    obtain ⟨a, vs, rfl, ho, hall⟩ := well_tuple x
    have z2 : WData.weightAll ds ≤ 1048576 := z
    obtain ⟨A, h1, h2⟩ := area_all ds _ hall p fun d hd => Nat.le_trans (weight_mem hd) z2
    have k : ∀ b ∈ A, b ∈ a :: A := fun b hb => List.mem_cons_of_mem _ hb
    refine ⟨a :: A, List.mem_cons_self .., fun b hb => ?_⟩
    rcases List.mem_cons.mp hb with e | m
    · rw [e]
      exact ⟨vs, line_of (by rw [wellAll_len hall]; exact Nat.le_trans (PySem.W.length_le_weightAllW ds) z2), fun u hu => (h1 u hu).mono k, .inr ho⟩
    · exact (h2 b m).mono k
  | .float _, _, _, p, _ => Bool.noConfusion (show false = true from p)
  | .dict _, _, _, p, _ => Bool.noConfusion (show false = true from p)
  | .bytearray _, _, _, p, _ => Bool.noConfusion (show false = true from p)
  | .set _, _, _, p, _ => Bool.noConfusion (show false = true from p)
  | .frozenset _, _, _, p, _ => Bool.noConfusion (show false = true from p)
  | .obj _ _, _, _, p, _ => Bool.noConfusion (show false = true from p)
theorem area_all : ∀ (ds : List WData) (vs : List Value), WellAll P h vs ds → plWs ds = true → (∀ d ∈ ds, d.weight ≤ 1048576) → ∃ A : List Addr, (∀ u ∈ vs, OkU A u) ∧ ∀ a ∈ A, ArgOb h A a
  | [], _, x, _, _ => by
    cases x
    exact ⟨[], fun u m => absurd m (by simp), fun a m => absurd m (by simp)⟩
  | d :: ds, _, x, p, z => by
    obtain ⟨v, vs, rfl, x1, x2⟩ := well_cons x
    have q : plW d = true ∧ plWs ds = true := Bool.and_eq_true_iff.mp p
    obtain ⟨A, a1, a2⟩ := area_one d v x1 q.1 (z d (List.mem_cons_self ..))
    obtain ⟨B, b1, b2⟩ := area_all ds vs x2 q.2 fun e he => z e (List.mem_cons_of_mem _ he)
    have kA : ∀ b ∈ A, b ∈ A ++ B := fun b hb => List.mem_append.mpr (.inl hb)
    have kB : ∀ b ∈ B, b ∈ A ++ B := fun b hb => List.mem_append.mpr (.inr hb)
    refine ⟨A ++ B, fun u hu => ?_, fun b hb => ?_⟩
    · rcases List.mem_cons.mp hu with e | m
      · rw [e]
        exact a1.mono kA
      · exact (b1 u m).mono kB
    · rcases List.mem_append.mp hb with m | m
      · exact (a2 b m).mono kA
      · exact (b2 b m).mono kB
end
end
/-- what is tracked of an argument's object -/
def hoOf (o : Obj) : Option HO := match o.data with
  | .seq vs _ => if (o.cls == Value.type "list") = true then some (.frz o (.lst (vs.toList.map toV))) else some (.frz o (.tup (vs.toList.map toV)))
  | _ => none
def argH (K : PySem.W.Frag) (h : Heap) (A : List Addr) : Hp := fun b => if b ∈ A then (if (K.lookup b).isNone = true then (h.get? b).bind hoOf else none) else none
/-- nothing is tracked but what is known to the object -/
def OnlyF (H : Hp) : Prop := ∀ b, H b = none ∨ ∃ o u, H b = some (.frz o u)
theorem hoOf_lst (vs : List Value) : hoOf { cls := .type "list", data := .seq vs.toArray } = some (.frz { cls := .type "list", data := .seq vs.toArray } (.lst (vs.map toV))) := by
  show (if (Value.type "list" == Value.type "list") = true then some (HO.frz { cls := .type "list", data := .seq vs.toArray } (.lst (vs.toArray.toList.map toV))) else some (HO.frz { cls := .type "list", data := .seq vs.toArray } (.tup (vs.toArray.toList.map toV)))) = _
  rw [if_pos (beq_self_eq_true _)]
theorem hoOf_tup (vs : List Value) : hoOf { cls := .type "tuple", data := .seq vs.toArray } = some (.frz { cls := .type "tuple", data := .seq vs.toArray } (.tup (vs.map toV))) := by
  show (if (Value.type "tuple" == Value.type "list") = true then some (HO.frz { cls := .type "tuple", data := .seq vs.toArray } (.lst (vs.toArray.toList.map toV))) else some (HO.frz { cls := .type "tuple", data := .seq vs.toArray } (.tup (vs.toArray.toList.map toV)))) = _
  rw [if_neg (by decide)]
section
variable {P : Program} {w : World} {K : PySem.W.Frag} {h : Heap} {A : List Addr}
theorem argH_at {b : Addr} {o : Obj} (hb : b ∈ A) (hk : K.lookup b = none) (e : h.get? b = some o) : argH K h A b = hoOf o := by
  unfold argH
  rw [if_pos hb, hk, if_pos (show (none : Option Obj).isNone = true from rfl), e] <;> rfl
theorem of_argH {b : Addr} {u : HO} (q : argH K h A b = some u) : b ∈ A ∧ K.lookup b = none := by
  unfold argH at q
  by_cases hb : b ∈ A
  · rw [if_pos hb] at q
    cases hk : K.lookup b with
    | none => exact ⟨hb, rfl⟩
    | some o =>
      rw [hk, if_neg (by simp)] at q
      cases q
  · rw [if_neg hb] at q
    cases q
/-- what stands tracked -/
theorem argH_is (ar : ∀ a ∈ A, ArgOb h A a) {b : Addr} {u : HO} (q : argH K h A b = some u) : K.lookup b = none ∧ ∃ vs : List Value, vs.length ≤ sizeLine ∧ (∀ u ∈ vs, OkU A u) ∧
    ((h.get? b = some { cls := .type "list", data := .seq vs.toArray } ∧ u = .frz { cls := .type "list", data := .seq vs.toArray } (.lst (vs.map toV))) ∨
     (h.get? b = some { cls := .type "tuple", data := .seq vs.toArray } ∧ u = .frz { cls := .type "tuple", data := .seq vs.toArray } (.tup (vs.map toV)))) := by
  obtain ⟨hb, hk⟩ := of_argH q
  obtain ⟨vs, h1, h2, h3⟩ := ar b hb
  refine ⟨hk, vs, h1, h2, ?_⟩
  rcases h3 with e | e
  · rw [argH_at hb hk e, hoOf_lst] at q
    exact .inl ⟨e, (Option.some.inj q).symm⟩
  · rw [argH_at hb hk e, hoOf_tup] at q
    exact .inr ⟨e, (Option.some.inj q).symm⟩
theorem argH_only (ar : ∀ a ∈ A, ArgOb h A a) : OnlyF (argH K h A) := fun b => by
  cases q : argH K h A b with
  | none => exact .inl rfl
  | some u =>
    obtain ⟨_, vs, _, _, ⟨_, e⟩ | ⟨_, e⟩⟩ := argH_is ar q
    · exact .inr ⟨_, _, by rw [e]⟩
    · exact .inr ⟨_, _, by rw [e]⟩
theorem argH_ok (ar : ∀ a ∈ A, ArgOb h A a) : HOk P w (argH K h A) h := fun b u q => by
  obtain ⟨_, vs, h1, h2, ⟨e, rfl⟩ | ⟨e, rfl⟩⟩ := argH_is ar q
  · exact ⟨e, by rw [List.length_map]; exact h1, vs, _, vals_toV h2, e⟩
  · exact ⟨e, by rw [List.length_map]; exact h1, vs, vals_toV h2, _, e, rfl, _, rfl⟩
theorem seq_inj {c c' : Value} {vs us : List Value} (e : (some { cls := c, data := .seq vs.toArray } : Option Obj) = some { cls := c', data := .seq us.toArray }) : c = c' ∧ vs = us := by
  have e1 := Option.some.inj e
  have e2 : c = c' := congrArg Obj.cls e1
  have e3 : Data.seq vs.toArray = Data.seq us.toArray := congrArg Obj.data e1
  injection e3 with e4
  refine ⟨e2, ?_⟩
  have e5 := congrArg Array.toList e4
  simpa using e5
/-- a list argument -/
theorem argL (KX : K.In h) (ar : ∀ a ∈ A, ArgOb h A a) {a : Addr} {vs : List Value} (ha : a ∈ A) (e : h.get? a = some { cls := .type "list", data := .seq vs.toArray }) : (∀ u ∈ vs, OkU A u) ∧ SqL K (argH K h A) a (vs.map toV) := by
  obtain ⟨us, h1, h2, h3⟩ := ar a ha
  have hu : us = vs := by
    rcases h3 with q | q
    · rw [e] at q
      exact (seq_inj q).2.symm
    · rw [e] at q
      exact absurd (Value.type.inj (seq_inj q).1) (by decide)
  subst hu
  refine ⟨h2, ?_⟩
  cases hk : K.lookup a with
  | none => exact .inl (.inr ⟨_, by rw [argH_at ha hk e, hoOf_lst]⟩)
  | some o =>
    have e2 := KX a o hk
    rw [e] at e2
    obtain rfl := Option.some.inj e2
    exact .inr ⟨_, us.toArray, _, hk, rfl, rfl, rfl, by rw [List.size_toArray]; exact h1, by simpa using vals_toV h2⟩
theorem argT (KX : K.In h) (ar : ∀ a ∈ A, ArgOb h A a) {a : Addr} {vs : List Value} (ha : a ∈ A) (e : h.get? a = some { cls := .type "tuple", data := .seq vs.toArray }) : (∀ u ∈ vs, OkU A u) ∧ SqT K (argH K h A) a (vs.map toV) := by
  obtain ⟨us, h1, h2, h3⟩ := ar a ha
  have hu : us = vs := by
    rcases h3 with q | q
    · rw [e] at q
      exact absurd (Value.type.inj (seq_inj q).1) (by decide)
    · rw [e] at q
      exact (seq_inj q).2.symm
  subst hu
  refine ⟨h2, ?_⟩
  cases hk : K.lookup a with
  | none => exact .inl (.inr ⟨_, by rw [argH_at ha hk e, hoOf_tup]⟩)
  | some o =>
    have e2 := KX a o hk
    rw [e] at e2
    obtain rfl := Option.some.inj e2
    exact .inr ⟨_, us.toArray, _, hk, rfl, rfl, by rw [List.size_toArray]; exact h1, by simpa using vals_toV h2⟩
mutual
theorem dw_one {Pm : Params} (KX : K.In h) (ar : ∀ a ∈ A, ArgOb h A a) : ∀ (d : WData) (v : Value), Well Pm h v d → plW d = true → OkU A v → Dw K (argH K h A) (toV v) d
  | .none, _, x, _, _ => by
    cases x
    exact .non
  | .bool b, _, x, _, _ => by
    cases x
    exact .bl b
  | .int i, _, x, _, _ => by
    cases x
    exact .int i
  | .str s, _, x, _, _ => by
    cases x
    exact .str s
  | .bytes b, _, x, _, _ => by
    cases x
    have z := Dw.byt (K := K) (H := argH K h A) b.toArray
    exact z
  | .list ds, _, x, p, hu => by
    obtain ⟨a, vs, rfl, ho, hall⟩ := well_list x
    obtain ⟨h2, hs⟩ := argL KX ar hu ho
    exact .lst hs (dw_all KX ar ds _ hall p h2)
  | .tuple ds, _, x, p, hu => by
    obtain ⟨a, vs, rfl, ho, hall⟩ := well_tuple x
    obtain ⟨h2, hs⟩ := argT KX ar hu ho
    exact .tup hs (dw_all KX ar ds _ hall p h2)
  | .float _, _, _, p, _ => Bool.noConfusion (show false = true from p)
  | .dict _, _, _, p, _ => Bool.noConfusion (show false = true from p)
  | .bytearray _, _, _, p, _ => Bool.noConfusion (show false = true from p)
  | .set _, _, _, p, _ => Bool.noConfusion (show false = true from p)
  | .frozenset _, _, _, p, _ => Bool.noConfusion (show false = true from p)
  | .obj _ _, _, _, p, _ => Bool.noConfusion (show false = true from p)
theorem dw_all {Pm : Params} (KX : K.In h) (ar : ∀ a ∈ A, ArgOb h A a) : ∀ (ds : List WData) (vs : List Value), WellAll Pm h vs ds → plWs ds = true → (∀ u ∈ vs, OkU A u) → DwAll K (argH K h A) (vs.map toV) ds
  | [], _, x, _, _ => by
    cases x
    exact .nil
  | d :: ds, _, x, p, hu => by
    obtain ⟨v, vs, rfl, x1, x2⟩ := well_cons x
    have q : plW d = true ∧ plWs ds = true := Bool.and_eq_true_iff.mp p
    exact .cons (dw_one KX ar d v x1 q.1 (hu _ (List.mem_cons_self ..))) (dw_all KX ar ds vs x2 q.2 fun u m => hu u (List.mem_cons_of_mem _ m))
end
end
theorem spec_call {P : Program} {w : World} {K : PySem.W.Frag} {mg mb : Str → Option Value} {CX : CXT} {k : Nat} {fa : Addr} {fd : FuncData} {ps : List Str} {sp : Sp} {s₁ : Shared} {vals : List Value} {ds : List WData} {R : PySem.W.WRecords} {cl : Str → Option Addr} {d0 : WData}
    (KX : K.In s₁.heap) (hns : s₁.heap.Ns mainGlobals mg) (hb : s₁.heap.Ns builtinsNs mb) (hbb : ∀ x : Str, x ≠ "__name__" → mb x = bootBuiltins x) (hlim : s₁.heap.NoLimit) (hg : s₁.gens = #[])
    (hwl : WellAll w.params s₁.heap vals ds) (hpl : plWs ds = true) (hwt : ∀ d ∈ ds, d.weight ≤ 1048576) (hr : Room k callerA)
    (F : ∀ base : Heap, K.In base → base.Ns mainGlobals mg → FnOk P w K mg base CX k fa fd ps sp) (hbind : ∀ (s : Shared) (us : List Value), us.length = ps.length → BindsTo s fd ⟨us, []⟩ (ps.zip us)) (hlen : ds.length = ps.length)
    (hsp : ∀ (H : Hp) (xs : List V), OnlyF H → DwAll K H xs ds → sp xs H (fun v H' => Dw K H' v d0) fun _ _ _ => False)
    (hCX : ∀ H e s', CX [] H s₁ (fun _ _ _ => False) e s' → False) :
    codeAny (model P w) callerA (.call (.ref fa) ⟨vals, []⟩) (fun r s' => ∃ u as, r = .ok (.ret u) ∧ ReadsW R cl s'.heap u d0 as ∧ OldK s₁.heap s'.heap ∧ s'.os = s₁.os ∧ AllBare s'.gens) s₁ := by
  obtain ⟨A, ho, ar⟩ := area_all ds vals hwl hpl hwt
  have hO : OnlyF (argH K s₁.heap A) := argH_only ar
  have hok : HOk P w (argH K s₁.heap A) s₁.heap := argH_ok ar
  have hS := dw_all KX ar ds vals hwl hpl ho
  have hV := vals_toV ho
  have hK : ∀ b u, argH K s₁.heap A b = some u → K.lookup b = none := fun b u q => (argH_is ar q).1
  have noA : ∀ {b : Addr} {o : Obj} {es : Array DictEntry} {ep : Nat}, s₁.heap.get? b = some o → o.data = .dict es ep → argH K s₁.heap A b = none := fun {b o es ep} e d => by
    cases q : argH K s₁.heap A b with
    | none => rfl
    | some u =>
      obtain ⟨_, vs, _, _, ⟨e2, _⟩ | ⟨e2, _⟩⟩ := argH_is ar q
      · rw [e2] at e
        cases e
        have d' : Data.seq vs.toArray _ = Data.dict es ep := d
        cases d'
      · rw [e2] at e
        cases e
        have d' : Data.seq vs.toArray _ = Data.dict es ep := d
        cases d'
  generalize argH K s₁.heap A = H at hO hok hS hK noA
  have base_of : ∀ {b : Addr} {o : Obj}, s₁.heap.get? b = some o → H b = none → (hidT s₁.heap H).get? b = some o := fun e n => hidT_get e n
  have nsK : ∀ {b : Addr} {m : Str → Option Value}, s₁.heap.Ns b m → (hidT s₁.heap H).Ns b m := fun {b m} ⟨o, es, ep, e, d, r⟩ => ⟨o, es, ep, base_of e (noA e d), d, r⟩
  have nK : ∀ b o, K.lookup b = some o → H b = none := fun b o e => by
    cases q : H b with
    | none => rfl
    | some u =>
      rw [hK b u q] at e
      cases e
  have hKb : K.In (hidT s₁.heap H) := fun b o e => base_of (KX b o e) (nK b o e)
  have hM : Mod K mg (hidT s₁.heap H) := ⟨hKb, nsK hns, ⟨mb, nsK hb, hbb⟩, let ⟨mc, h1, h2⟩ := hlim; ⟨mc, nsK h1, h2⟩⟩
  have e0 : Env0 P w K mg (hidT s₁.heap H) callerA [] s₁ H := ⟨rfl, hM, fun b o e => of_hidT e, Nat.le_of_eq (hidT_size _ _), trivial, fun b hb => absurd (show b ∈ ([] : List Addr) from hb) (by simp), hok, .of_eq hg⟩
  have hl : vals.length = ps.length := by rw [wellAll_len hwl]; exact hlen
  refine codeAny_mono ((F _ hKb (nsK hns)).run callerA [] s₁ H ⟨vals, []⟩ vals (vals.map toV) _ _ hr e0 (hbind s₁ vals hl) hV (hsp H _ hO hS)) fun r s' x => ?_
  cases r with
  | error e => exact (hCX H e s' x).elim
  | ok fl =>
    cases fl with
    | next => exact False.elim x
    | brk => exact False.elim x
    | cont => exact False.elim x
    | ret u =>
      obtain ⟨v, H', os, bare, un, hok', r', q⟩ := x
      have kept : ∀ b o, s₁.heap.get? b = some o → s'.heap.get? b = some o := fun b o e => by
        cases q2 : H b with
        | none => exact un.keep b o e q2 (by intro z; exact absurd (show b ∈ ([] : List Addr) from z) (by simp)) (by simp)
        | some u2 =>
          rcases hO b with z | ⟨ob, u3, z⟩
          · rw [q2] at z
            cases z
          · have z2 := un.frzs b ob _ z
            obtain ⟨e1, _⟩ := hok b _ z
            obtain ⟨e2, _⟩ := hok' b _ z2
            rw [e] at e1
            cases e1
            exact e2
      have KX' : K.In s'.heap := fun b o e => kept b o (KX b o e)
      obtain ⟨as, hrd⟩ := Dw.reads (R := R) (cl := cl) hok' KX' d0 v u q r'
      exact ⟨u, as, rfl, hrd, OldK.of_keep kept, os, bare⟩
theorem layable_weight {ds : List WData} (h : WData.layableAll ds = true) : ∀ d ∈ ds, d.weight ≤ 1048576 := fun d hd =>
  (PySem.W.layableW_iff.mp (List.all_eq_true.mp h d hd)).2.2
theorem encAll_len : ∀ (cs : List Codec) (a : Codec.denoteAll cs), (Codec.encAll cs a).length = cs.length
  | [], _ => rfl
  | c :: cs, a => by
    show (Codec.encAll cs a.2).length + 1 = cs.length + 1
    rw [encAll_len cs a.2]
/-- the goal that k_headS leaves (case hc), from the promise of the row's def: whatever the arguments that the codecs let and the row asks for, the def gives what stands for enc (f ..) -/
theorem walk_spec {r : OpenSpec} {k : Nat} {q : Program} {loose : List Str} {XP : (Str → Option Value) → Heap → Prop} {YP : World → Heap → Prop} {d : DefRec} {K : Params → PySem.W.Frag} {CX : World → CXT} {ps : List Str} {sp : World → Sp}
    (hwell : r.wellSaid = true) (hdf : d.params.defaults = []) (hlen : r.args.length = ps.length) (hr : Room k callerA)
    (hY : ∀ (w : World) (h : Heap), YP w h → (K w.params).In h)
    (F : ∀ (w : World) (mg : Str → Option Value) (fa : Addr) (h : Heap), YP w h → (K w.params).In h → h.Ns mainGlobals mg → mg d.name = some (.ref fa) →
      ∃ fd : FuncData, (∀ (s : Shared) (us : List Value), us.length = ps.length → BindsTo s fd ⟨us, []⟩ (ps.zip us)) ∧
        ∀ base : Heap, (K w.params).In base → base.Ns mainGlobals mg → FnOk r.prog w (K w.params) mg base (CX w) k fa fd ps (sp w))
    (hsp : ∀ (w : World) (H : Hp) (xs : List V) (a : Codec.denoteAll r.args), OnlyF H → Codec.withinAll r.args a = true → Codec.app r.args r.asked a = true → DwAll (K w.params) H xs (Codec.encAll r.args a) →
      sp w xs H (fun v H' => Dw (K w.params) H' v (r.ret.enc (Codec.app r.args r.f a))) fun _ _ _ => False)
    (hCX : ∀ (w : World) (H : Hp) (s : Shared) (e : Value) (s' : Shared), CX w [] H s (fun _ _ _ => False) e s' → False) :
    PySem.W.WalkOS q loose XP YP r d [] (fun f vs => PySem.call f vs) := by
  intro w s_0 s₁ mg mb G Y fa o pm cd doc dV kV ho hd hcd hD hmg hg args vals as hpre hlay hrd hwl hlo
  obtain ⟨a, e1, e2⟩ := PySem.W.os_pre_some hpre
  obtain ⟨e3, hwi⟩ := Codec.encAll_of_decAll r.args args a e1
  subst e3
  have KX := hY w _ Y
  obtain ⟨fd, hb, hF⟩ := F w mg fa _ Y KX G.T.g hmg
  refine PySem.W.enter_call (codeAny_mono (spec_call (R := []) (cl := classAt s_0.heap) (d0 := r.ret.enc (Codec.app r.args r.f a)) KX G.T.g G.T.b G.T.builtins G.T.nolimit hg hwl (pl_encAll _ _) (layable_weight hlay) hr hF hb (by rw [encAll_len]; exact hlen)
    (fun H xs hO hS => hsp w H xs a hO hwi e2 hS) fun H e s' => hCX w H s₁ e s') fun r' s' hq => ?_)
  obtain ⟨u, as', rfl, h1, h2, h3, h4⟩ := hq
  exact ⟨.inl ⟨u, _, as', rfl, fun _ => rfl, h1, (OpenSpec.post_iff hwell hwi _ _).mpr rfl, fun z => Bool.noConfusion (show false = true from z)⟩, h2, h3, h4⟩
/-- the same where the promise hangs on the written part alone -/
theorem walk_specK {r : OpenSpec} {k : Nat} {q : Program} {loose : List Str} {XP : (Str → Option Value) → Heap → Prop} {YP : World → Heap → Prop} {d : DefRec} {K : Params → PySem.W.Frag} {CX : CXT} {ps : List Str} {sp : PySem.W.Frag → Sp}
    (hwell : r.wellSaid = true) (hdf : d.params.defaults = []) (hlen : r.args.length = ps.length) (hr : Room k callerA)
    (hY : ∀ (w : World) (h : Heap), YP w h → (K w.params).In h)
    (F : ∀ (w : World) (mg : Str → Option Value) (fa : Addr) (h : Heap), YP w h → (K w.params).In h → h.Ns mainGlobals mg → mg d.name = some (.ref fa) →
      ∃ fd : FuncData, (∀ (s : Shared) (us : List Value), us.length = ps.length → BindsTo s fd ⟨us, []⟩ (ps.zip us)) ∧
        ∀ base : Heap, (K w.params).In base → base.Ns mainGlobals mg → FnOk r.prog w (K w.params) mg base CX k fa fd ps (sp (K w.params)))
    (hsp : ∀ (K : PySem.W.Frag) (H : Hp) (xs : List V) (a : Codec.denoteAll r.args), OnlyF H → Codec.withinAll r.args a = true → Codec.app r.args r.asked a = true → DwAll K H xs (Codec.encAll r.args a) →
      sp K xs H (fun v H' => Dw K H' v (r.ret.enc (Codec.app r.args r.f a))) fun _ _ _ => False)
    (hCX : ∀ (H : Hp) (s : Shared) (e : Value) (s' : Shared), CX [] H s (fun _ _ _ => False) e s' → False) :
    PySem.W.WalkOS q loose XP YP r d [] (fun f vs => PySem.call f vs) :=
  walk_spec (K := K) (CX := fun _ => CX) (sp := fun w => sp (K w.params)) hwell hdf hlen hr hY F (fun w H xs a h1 h2 h3 h4 => hsp (K w.params) H xs a h1 h2 h3 h4) fun _ H s e s' => hCX H s e s'
end L2
end

set_option Elab.async false
set_option linter.all false
set_option maxRecDepth 100000
namespace L3
open PySem PySem.Spec PyProof.Rows L2
section
variable {X : Cx}
/-- a // b of ints, b above 0 and below 2 ^ 64 -/
def CDivB (_i j : Int) : Prop := 0 < j ∧ j < 18446744073709551616
theorem log2_small {n : Nat} (h : n < 18446744073709551616) : n.log2 < 9000 := by
  by_cases e : n = 0
  · subst e; decide
  · have h2 := (Nat.log2_lt e (k := 64)).mpr (by simpa using h)
    omega
theorem op_fdivB : OpR X (binaryOp .FloorDiv) (rI CDivB fun i j => .int (i / j)) := opI fun i j _ _ _ _ _ hc q => by
  have e : i.fdiv j = i / j := Int.fdiv_eq_ediv_of_nonneg i (Int.le_of_lt hc.1)
  refine floordiv_int (by have := hc.1; omega) (by rw [e]; exact q) (.inl (PyProof.noPylong_of_log2 (log2_small ?_)))
  have h1 := hc.1
  have h2 := hc.2
  omega
/-- a global that holds an int -/
def GInt (mg : Str → Option Value) (x : Str) (i : Int) : Prop := ∃ t, mg x = some (.int i t)
theorem pe_gint {x : Str} {i : Int} {pos : Pos} (h : GInt X.mg x i) (hg : Gl X x := by rfl) (hd : (x == ("__debug__" : Str)) = false := by decide) : PE X (.Name x pos) (tC (.int i)) := by
  obtain ⟨t, ht⟩ := h
  exact pe_glob hg ht ⟨t, rfl⟩ hd
theorem pe_gref {x : Str} {a : Addr} {pos : Pos} (h : X.mg x = some (.ref a)) (hg : Gl X x := by rfl) (hd : (x == ("__debug__" : Str)) = false := by decide) : PE X (.Name x pos) (tC (.ref a)) := pe_glob hg h rfl hd
/-- xs[i] by values, for xs[i] op= e -/
theorem get_list : PGet X (rIxL X.K) := by
  intro pins s σ H x y v u Q I rx ry h
  obtain ⟨p, xs, i, z, rfl, rfl, hq, he, q⟩ := h
  cases rx
  obtain ⟨t, rfl⟩ := ry
  obtain ⟨its, r, pl, hz⟩ := I.list hq
  obtain ⟨j, h1, h2, h3, h4, h5⟩ := atI_get he
  obtain ⟨w, ew, rw'⟩ := r.get h2
  have hl := r.length
  have hn := line63
  have fin : EP X pins σ Q w s := ⟨z, H, I, rw', q⟩
  by_cases h0 : 0 ≤ i
  · have hj : i.toNat = j := by
      rw [seqIndex_of h0 h5] at h1
      exact Option.some.inj h1
    exact wpAny_getItem_list pl.isList h0 (by omega) (by rw [hj]; simpa using ew) fin
  · have hj : (i + (its.toArray.size : Int)).toNat = j := by
      rw [seqIndex_neg (by omega) h4] at h1
      rw [List.size_toArray, ← hl]
      exact Option.some.inj h1
    exact wpAny_getItem_list_neg pl.isList (by omega) (by rw [List.size_toArray] <;> omega) (by omega) (by rw [hj]; simpa using ew) fin
/-- f(..) where f is an item of something: a def is called by a value -/
def tCallV (sps : List (Addr × Sp)) (E : XK) (tf : TE) (t : TA) : TE := fun σ H Q => tf σ H fun x H1 => ∃ f sp, x = .ref f ∧ (f, sp) ∈ sps ∧ t σ H1 fun vs H2 => sp vs H2 Q E
theorem call_sub_eval (o i : Expr) (p : Pos) (args : List Expr) (keywords : List Keyword) (pos : Pos) (env : Env) : eval (.Call (.Subscript o i p) args keywords pos) env = (do
    callWith pos (← eval (.Subscript o i p) env) [] (backTo pos (starEach args env)) (backToKw pos (keywordEach keywords env))) := rfl
theorem pe_callV {sps : List (Addr × Sp)} {k : Nat} {o i e : Expr} {p pos : Pos} {es : List Expr} {tf : TE} {t : TA}
    (F : ∀ f sp, (f, sp) ∈ sps → ∃ fd ps, FnOk X.prog X.w X.K X.mg X.base CX0 k f fd ps sp ∧ Binds X.K fd ps [] ∧ PySem.W.keepIn X.K (.ref f) = true) (hr : Room k X.A)
    (hf : PE X (.Subscript o i p) tf) (ha : PA X (e :: es) t)
    (he : starEach (e :: es) X.env = (false, eval e X.env) :: starEach es X.env := by rfl) (hpl : (backTo pos (starEach es X.env)).any (·.1) = false := by rfl) :
    PE X (.Call (.Subscript o i p) (e :: es) [] pos) (tCallV sps E0 tf t) := by
  intro pins s σ H Q I h
  rw [call_sub_eval]
  refine wpAny_bind (thn (hf pins s σ H _ I h) fun u s1 ⟨x, H1, I1, rx, f, sp, ex, hm, q1⟩ => ?_)
  subst ex
  obtain rfl : u = Value.ref f := rx
  obtain ⟨fd, ps, G, hb, hk⟩ := F f sp hm
  refine PySem.W.callWith_K (h₀ := X.base) I1.ok.mod.kin hk (thn (ha pos pins s1 σ H1 _ I1 q1) fun us s2 ⟨vs, H2, I2, r, q⟩ => ⟨I2.kIn, ?_⟩) he hpl
  exact run_fn (dvs := []) (ds := []) G hr hb .nil pass0 I2 r (by rw [List.append_nil]; exact q)
end

/-! rules over tracked lists: their readings name the list by the heap -/
section
variable {X : Cx}
def rIxH : R2 := fun x y H Q => ∃ p xs i v, x = .ref p ∧ y = .int i ∧ H p = some (.lst xs) ∧ atI xs i = some v ∧ Q v H
theorem ix_lst : IxR X rIxH := by
  intro value slice pins s σ H x y v u Q I rx ry h hs
  obtain ⟨p, xs, i, z, e1, e2, hq, he, q⟩ := h
  exact ix_list value slice pins s σ H x y v u Q I rx ry ⟨p, xs, i, z, e1, e2, SqL.of hq, he, q⟩ hs
theorem get_lst : PGet X rIxH := by
  intro pins s σ H x y v u Q I rx ry h
  obtain ⟨p, xs, i, z, e1, e2, hq, he, q⟩ := h
  exact get_list pins s σ H x y v u Q I rx ry ⟨p, xs, i, z, e1, e2, SqL.of hq, he, q⟩
def rSlH : V → Option Int → Option Int → Hp → VK → Prop := fun x lo hi H Q => ∃ a xs, x = .ref a ∧ H a = some (.lst xs) ∧ ∀ p, H p = none → Q (.ref p) (upd H p (.lst (cutV xs lo hi)))
theorem sl_lst : SlR X rSlH := by
  intro pins s σ H x v vl vu lo hi sl Q I rx hs pl pu h
  obtain ⟨a, xs, e, hq, q⟩ := h
  exact sl_list pins s σ H x v vl vu lo hi sl Q I rx hs pl pu ⟨a, xs, e, SqL.of hq, q⟩
theorem call_len_lst : CallR X (.builtin "len") (fun xs H Q => ∃ p ys, xs = [.ref p] ∧ H p = some (.lst ys) ∧ Q (.int ys.length) H) := by
  intro pins s σ H xs us Q I r h
  obtain ⟨p, ys, e, hq, q⟩ := h
  exact call_len_seq pins s σ H xs us Q I r ⟨p, ys, e, .inl (SqL.of hq), q⟩
end
/-- a loop over numbers: what it wants -/
def LoopR (lo : Int) (n : Nat) (g : TG) (tb : TS) (D : Ends) (σ : L2.St) (H1 : Hp) : Prop := ∃ W : Nat → Nat → L2.St → Hp → Prop, (∃ m, W 0 m σ H1) ∧ ∀ i m σ H, W i m σ H →
  ((Itr lo n).stop i H ∧ D.nx σ H) ∨ ((Itr lo n).go i H ∧ ∃ N : L2.St → Hp → Prop, (∀ σ' H', N σ' H' → ∃ m', m' < m ∧ W (i + 1) m' σ' H') ∧ ∀ x H', (Itr lo n).yld i H x H' → g x σ H' fun σ2 H2 => tb { D with nx := N, ct := N, bk := D.nx } σ2 H2)
theorem tfor_range1 (ta : TA) (g : TG) (tb : TS) (D : Ends) (σ : L2.St) (H : Hp) : tFor (iRng1 ta) g tb D σ H = ta σ H fun vs H1 => ∃ j : Int, vs = [.int j] ∧ -(2 ^ 62) ≤ j ∧ j < 2 ^ 62 ∧ LoopR 0 j.toNat g tb D σ H1 := rfl
theorem loop_range {lo : Int} {n : Nat} {g : TG} {tb : TS} {D : Ends} {σ : L2.St} {H : Hp} (Pv : Nat → L2.St → Hp → Prop) (h0 : Pv 0 σ H)
    (hs : ∀ i σ H, i < n → Pv i σ H → g (.int (lo + i)) σ H fun σ2 H2 => tb { D with nx := Pv (i + 1), ct := Pv (i + 1), bk := D.nx } σ2 H2) (hd : ∀ σ H, Pv n σ H → D.nx σ H) : LoopR lo n g tb D σ H := for_range Pv h0 hs hd
def LoopL (K : PySem.W.Frag) (a : Addr) (g : TG) (tb : TS) (D : Ends) (σ : L2.St) (H1 : Hp) : Prop := ∃ W : Nat → Nat → L2.St → Hp → Prop, (∃ m, W 0 m σ H1) ∧ ∀ i m σ H, W i m σ H →
  ((Itl K a).stop i H ∧ D.nx σ H) ∨ ((Itl K a).go i H ∧ ∃ N : L2.St → Hp → Prop, (∀ σ' H', N σ' H' → ∃ m', m' < m ∧ W (i + 1) m' σ' H') ∧ ∀ x H', (Itl K a).yld i H x H' → g x σ H' fun σ2 H2 => tb { D with nx := N, ct := N, bk := D.nx } σ2 H2)
theorem tfor_list (K : PySem.W.Frag) (tl : TE) (g : TG) (tb : TS) (D : Ends) (σ : L2.St) (H : Hp) : tFor (iList K tl) g tb D σ H = tl σ H fun x H1 => ∃ a, x = .ref a ∧ (∃ xs, SqL K H1 a xs) ∧ LoopL K a g tb D σ H1 := rfl
theorem loop_list {K : PySem.W.Frag} {a : Addr} {g : TG} {tb : TS} {D : Ends} {σ : L2.St} {H : Hp} {xs : List V} (Pv : Nat → L2.St → Hp → Prop) (h0 : Pv 0 σ H) (hl : ∀ i σ H, i ≤ xs.length → Pv i σ H → SqL K H a xs)
    (hs : ∀ i x σ H, xs[i]? = some x → Pv i σ H → g x σ H fun σ2 H2 => tb { D with nx := Pv (i + 1), ct := Pv (i + 1), bk := D.nx } σ2 H2) (hd : ∀ σ H, Pv xs.length σ H → D.nx σ H) : LoopL K a g tb D σ H := for_list Pv h0 hl hs hd
theorem sqL_ex {K : PySem.W.Frag} {H : Hp} {a : Addr} {xs : List V} (h : H a = some (.lst xs)) : ∃ ys, SqL K H a ys := ⟨xs, SqL.of h⟩
theorem tyL {K : PySem.W.Frag} {H : Hp} {a : Addr} {xs : List V} (h : H a = some (.lst xs)) : tyV K "list" (.ref a) H := .inl ⟨rfl, xs, SqL.of h⟩
/-! heaps -/
theorem fresh_ne {H : Hp} {p l : Addr} {o : HO} (h : upd H p o l = none) : l ≠ p ∧ H l = none := by
  by_cases e : l = p
  · subst e; rw [upd_same] at h; cases h
  · rw [upd_ne e] at h; exact ⟨e, h⟩
theorem upd_swap {H : Hp} {p q : Addr} {o u : HO} (h : p ≠ q) : upd (upd H p o) q u = upd (upd H q u) p o := by
  funext b
  unfold upd
  by_cases e : b = p
  · subst e; rw [if_neg h, if_pos rfl, if_pos rfl]
  · rw [if_neg e]; by_cases e2 : b = q
    · simp only [if_pos e2, if_neg e]
    · simp only [if_neg e2, if_neg e]
theorem upd4 {H : Hp} {p q : Addr} {o u o2 u2 : HO} (h : p ≠ q) : upd (upd (upd (upd H p o) q u) p o2) q u2 = upd (upd H p o2) q u2 := by
  rw [upd_swap (H := H) h, upd_upd, upd_swap (Ne.symm h), upd_upd]
/-- all but p stays -/
def But (H H' : Hp) (p : Addr) : Prop := ∀ b o, H b = some o → b ≠ p → H' b = some o
theorem But.upd {H H' : Hp} {p : Addr} {o : HO} (h : But H H' p) : But H (L2.upd H' p o) p := fun b u e n => by rw [upd_ne n]; exact h b u e n
theorem But.new {H H' : Hp} {p l : Addr} {o : HO} (h : But H H' p) (hl : H' l = none) : But H (L2.upd H' l o) p := fun b u e n => by
  have q := h b u e n
  rw [upd_ne (ne_of_none q hl)]
  exact q
theorem But.refl {H : Hp} {p : Addr} : But H H p := fun _ _ e _ => e
theorem But.free {H H' : Hp} {p l : Addr} (h : But H H' p) (hl : H' l = none) (hp : l ≠ p) : H l = none := by
  cases q : H l with
  | none => rfl
  | some o =>
    rw [h l o q hp] at hl
    cases hl
/-! what comes later is put aside -/
theorem hide1 {t1 r : TS} {D : Ends} {σ : L2.St} {H : Hp} (h : ∀ U, U = r → (tSeq t1 U) D σ H) : (tSeq t1 r) D σ H := h r rfl
theorem hide2 {t1 t2 r : TS} {D : Ends} {σ : L2.St} {H : Hp} (h : ∀ U, U = r → (tSeq t1 (tSeq t2 U)) D σ H) : (tSeq t1 (tSeq t2 r)) D σ H := h r rfl
theorem hide3 {t1 t2 t3 r : TS} {D : Ends} {σ : L2.St} {H : Hp} (h : ∀ U, U = r → (tSeq t1 (tSeq t2 (tSeq t3 U))) D σ H) : (tSeq t1 (tSeq t2 (tSeq t3 r))) D σ H := h r rfl
theorem hide4 {t1 t2 t3 t4 r : TS} {D : Ends} {σ : L2.St} {H : Hp} (h : ∀ U, U = r → (tSeq t1 (tSeq t2 (tSeq t3 (tSeq t4 U)))) D σ H) : (tSeq t1 (tSeq t2 (tSeq t3 (tSeq t4 r)))) D σ H := h r rfl
theorem hide5 {t1 t2 t3 t4 t5 r : TS} {D : Ends} {σ : L2.St} {H : Hp} (h : ∀ U, U = r → (tSeq t1 (tSeq t2 (tSeq t3 (tSeq t4 (tSeq t5 U))))) D σ H) : (tSeq t1 (tSeq t2 (tSeq t3 (tSeq t4 (tSeq t5 r))))) D σ H := h r rfl
theorem hide6 {t1 t2 t3 t4 t5 t6 r : TS} {D : Ends} {σ : L2.St} {H : Hp} (h : ∀ U, U = r → (tSeq t1 (tSeq t2 (tSeq t3 (tSeq t4 (tSeq t5 (tSeq t6 U)))))) D σ H) : (tSeq t1 (tSeq t2 (tSeq t3 (tSeq t4 (tSeq t5 (tSeq t6 r)))))) D σ H := h r rfl
theorem hide7 {t1 t2 t3 t4 t5 t6 t7 r : TS} {D : Ends} {σ : L2.St} {H : Hp} (h : ∀ U, U = r → (tSeq t1 (tSeq t2 (tSeq t3 (tSeq t4 (tSeq t5 (tSeq t6 (tSeq t7 U))))))) D σ H) : (tSeq t1 (tSeq t2 (tSeq t3 (tSeq t4 (tSeq t5 (tSeq t6 (tSeq t7 r))))))) D σ H := h r rfl
theorem gen_upd {H : Hp} {p : Addr} {o : HO} {Q : Hp → Prop} (h : ∀ H1, H1 p = some o → But H H1 p → Q H1) : Q (upd H p o) := h _ upd_same But.refl.upd
theorem new_facts {H H2 : Hp} {l : Addr} {o : HO} (h : upd H l o = H2) (f : H l = none) : H2 l = some o ∧ Same H H2 := by
  subst h
  exact ⟨upd_same, fun b u e => by rw [upd_ne (ne_of_none e f)]; exact e⟩
theorem But.same {H H1 H2 : Hp} {p : Addr} (h : But H H1 p) (s : Same H1 H2) : But H H2 p := fun b u e n => s b u (h b u e n)
theorem But.trans {H H1 H2 : Hp} {p : Addr} (h : But H H1 p) (s : But H1 H2 p) : But H H2 p := fun b u e n => s b u (h b u e n) n
theorem sl_ok {n : Nat} (h : n ≤ 1000) : n ≤ sizeLine := Nat.le_of_lt (small1000 h)
end L3

set_option Elab.async false
set_option linter.all false
set_option maxRecDepth 100000
namespace L3
open PySem PySem.Spec PyProof.Rows L2
/-! short names -/
theorem gz {α : Type} {a : α} {l : List α} : (a :: l)[0]? = some a := List.getElem?_cons_zero
theorem gs {α : Type} {a : α} {i : Nat} {l : List α} : (a :: l)[i + 1]? = l[i]? := List.getElem?_cons_succ
theorem z0 {α : Type} {a b : α} {l : List α} : (a :: l).set 0 b = b :: l := List.set_cons_zero
theorem z1 {α : Type} {a b : α} {i : Nat} {l : List α} : (a :: l).set (i + 1) b = a :: l.set i b := List.set_cons_succ
theorem vi {a b : Int} : (V.int a = V.int b) = (a = b) := V.int.injEq a b
theorem vr {a b : Addr} : (V.ref a = V.ref b) = (a = b) := V.ref.injEq a b
theorem vb {a b : Bool} : (V.bl a = V.bl b) = (a = b) := V.bl.injEq a b
theorem hl {a b : List V} : (HO.lst a = HO.lst b) = (a = b) := HO.lst.injEq a b
/-- a dict of ints of the text's top -/
def DctK (K : PySem.W.Frag) (a : Addr) (kvs : List (Int × Int)) : Prop :=
  ∃ (o : Obj) (es : Array DictEntry) (n : Nat), K.lookup a = some o ∧ o.ExactDict ∧ o.data = .dict es n ∧ (a == sysModules) = false ∧
    Paired (fun (e : DictEntry) (p : Int × Int) => e.hash = hashInt p.1 ∧ (∃ t, e.key = .int p.1 t) ∧ ∃ t, e.val = .int p.2 t) es.toList kvs
section
variable {X : Cx}
theorem dct_pairs {P : Program} {w : World} : ∀ {es : List DictEntry} {kvs : List (Int × Int)}, Paired (fun (e : DictEntry) (p : Int × Int) => e.hash = hashInt p.1 ∧ (∃ t, e.key = .int p.1 t) ∧ ∃ t, e.val = .int p.2 t) es kvs →
    (∀ e ∈ es, ∃ k, (intKind P w).is k e.key = true ∧ e.hash = (intKind P w).hash k) ∧ ∃ vs : List (Int × Value), Pairs (intKind P w) es vs ∧ vs.map (·.1) = kvs.map (·.1) ∧ ∀ i, (kvs.lookup i = none → valueAt vs i = none) ∧ ∀ v, kvs.lookup i = some v → ∃ t, valueAt vs i = some (.int v t)
  | _, _, .nil => ⟨fun e h => (by cases h), [], .nil, rfl, fun i => ⟨fun _ => rfl, fun v h => (by cases h)⟩⟩
  | e :: es, (k, v) :: kvs, .cons h t => by
    obtain ⟨h1, ⟨tk, h2⟩, tv, h3⟩ := h
    obtain ⟨q1, vs, q2, q3, q4⟩ := dct_pairs (P := P) (w := w) t
    have his : (intKind P w).is k e.key = true := by rw [h2]; exact intKind_is P w k tk
    refine ⟨fun e' he => ?_, (k, e.val) :: vs, .cons his rfl q2, by rw [List.map_cons, List.map_cons, q3], fun i => ?_⟩
    · rcases List.mem_cons.mp he with rfl | he
      · exact ⟨k, his, h1⟩
      · exact q1 e' he
    · by_cases e1 : i = k
      · subst e1
        have a1 : List.lookup i ((i, v) :: kvs) = some v := by simp [List.lookup]
        have a2 : valueAt ((i, e.val) :: vs) i = some e.val := by simp [valueAt, List.find?_cons]
        rw [a1, a2]
        refine ⟨fun z => (by cases z), fun v' z => ?_⟩
        cases z
        exact ⟨tv, by rw [h3]⟩
      · have a1 : List.lookup i ((k, v) :: kvs) = List.lookup i kvs := by
          have : (i == k) = false := beq_eq_false_iff_ne.mpr e1
          simp only [List.lookup, this]
        have a2 : valueAt ((k, e.val) :: vs) i = valueAt vs i := by
          have : ¬ k = i := fun z => e1 z.symm
          simp [valueAt, List.find?_cons, this]
        rw [a1, a2]
        exact q4 i
theorem DctK.of {pins : List (Addr × Obj)} {σ : L2.St} {H : Hp} {s : Shared} {a : Addr} {kvs : List (Int × Int)} (h : DctK X.K a kvs) (nd : (kvs.map (·.1)).Nodup) (I : Inv X pins σ H s) :
    ∃ vs : List (Int × Value), s.heap.DictOf (intKind X.prog X.w) a vs ∧ (a == sysModules) = false ∧ ∀ i, (kvs.lookup i = none → valueAt vs i = none) ∧ ∀ v, kvs.lookup i = some v → ∃ t, valueAt vs i = some (.int v t) := by
  obtain ⟨o, es, n, h1, h2, h3, h4, h5⟩ := h
  obtain ⟨q1, vs, q2, q3, q4⟩ := dct_pairs (P := X.prog) (w := X.w) h5
  refine ⟨vs, ⟨o, es, n, I.kIn a o h1, h2, h3, fun e he => q1 e (by simpa using he), q2, by rw [q3]; exact nd⟩, h4, q4⟩
def tDinK (kvs : List (Int × Int)) (ty : TE) : TE := fun σ H Q => ty σ H fun y H1 => ∃ i, y = .int i ∧ Q (.bl (kvs.lookup i).isSome) H1
def tDgetK (kvs : List (Int × Int)) (ty : TE) : TE := fun σ H Q => ty σ H fun y H1 => ∃ i v, y = .int i ∧ kvs.lookup i = some v ∧ Q (.int v) H1
theorem pc_dinK {a : Addr} {kvs : List (Int × Int)} {i o : Expr} {ty : TE} (h : DctK X.K a kvs) (nd : (kvs.map (·.1)).Nodup) (hi : PE X i ty) (ho : PE X o (tC (.ref a))) : PC X .In i o (tDinK kvs ty) := by
  intro pins s σ H Q I hq
  refine thn (hi pins s σ H _ I hq) fun iv s1 ⟨y, H1, I1, ry, j, ej, q1⟩ => thn (ho pins s1 σ H1 (fun v H2 => v = .ref a ∧ H2 = H1) I1 ⟨rfl, rfl⟩) fun u s2 ⟨x, H2, I2, rx, ex, eH⟩ => ?_
  subst ex ej eH
  obtain rfl : u = Value.ref a := rx
  obtain ⟨t, rfl⟩ := ry
  obtain ⟨vs, dd, hs, hv⟩ := h.of nd I2
  refine wpAny_in_of (intKind_is X.prog X.w j t) hs dd.mapOf ?_
  have e : (valueAt vs j).isSome = (kvs.lookup j).isSome := by
    cases q : kvs.lookup j with
    | none => rw [(hv j).1 q]; rfl
    | some v => obtain ⟨t', e⟩ := (hv j).2 v q; rw [e]; rfl
  exact ⟨.bl (kvs.lookup j).isSome, H2, I2.tok _, by rw [e]; rfl, q1⟩
theorem pe_dgetK {a : Addr} {kvs : List (Int × Int)} {i o : Expr} {ty : TE} {pos : Pos} (h : DctK X.K a kvs) (nd : (kvs.map (·.1)).Nodup) (ho : PE X o (tC (.ref a))) (hi : PE X i ty) (hs : NoSl i) : PE X (.Subscript o i pos) (tDgetK kvs ty) := by
  intro pins s σ H Q I hq
  refine subD_of PySem.F.slot_dict_getitem.lookup hs (thn (ho pins s σ H (fun v H2 => v = .ref a ∧ H2 = H) I ⟨rfl, rfl⟩) fun u s1 ⟨x, H1, I1, rx, ex, eH⟩ => ?_)
  subst ex eH
  refine thn (hi pins s1 σ H1 _ I1 hq) fun iv s2 ⟨y, H2, I2, ry, j, v, ej, hj, q2⟩ => ?_
  subst ej
  obtain rfl : u = Value.ref a := rx
  obtain ⟨t, rfl⟩ := ry
  obtain ⟨vs, dd, hm, hv⟩ := h.of nd I2
  obtain ⟨t', e⟩ := (hv j).2 v hj
  exact ⟨dd.typeIs, wpAny_getItem_of (intKind_is X.prog X.w j t) dd.mapOf e ⟨.int v, H2, I2.tok _, ⟨t', rfl⟩, q2⟩⟩
/-- list(xs) of a tracked list -/
theorem call_list_lst : CallR X (.type "list") (fun xs H Q => ∃ p ys, xs = [.ref p] ∧ H p = some (.lst ys) ∧ ∀ l, H l = none → Q (.ref l) (upd H l (.lst ys))) := by
  intro pins s σ H xs us Q I r h
  obtain ⟨p, ys, e, hq, q⟩ := h
  exact call_list_of pins s σ H xs us Q I r ⟨p, ys, e, .inl (SqL.of hq), q⟩
end
theorem pe_fldK {X : Cx} {K : PySem.W.Frag} {e : Expr} {f : Str} {pos : Pos} {ta : TE} (he : PE X e ta) (hb : attributeBase e f X.env (eval e X.env) = eval e X.env) (hK : X.K = K) : PE X (.Attribute e f pos) (tFld K ta f) := hK ▸ pe_fld he hb
theorem gen_eq {Q : Hp → Prop} {X Y : Hp} (e : X = Y) (h : Q Y) : Q X := by rw [e]; exact h
/-- while: the test apart -/
theorem while_by2 {c : TT} {tb : TS} {D : Ends} {σ : L2.St} {H : Hp} (Pv : L2.St → Hp → Prop) (μ : L2.St → Hp → Nat) (h0 : Pv σ H)
    (hs : ∀ σ H, Pv σ H → ∃ b : Bool, (∀ Q : Bool → Hp → Prop, Q b H → c σ H Q) ∧ (b = true → tb { D with nx := fun σ' H' => Pv σ' H' ∧ μ σ' H' < μ σ H, ct := fun σ' H' => Pv σ' H' ∧ μ σ' H' < μ σ H, bk := D.nx } σ H) ∧ (b = false → D.nx σ H))
    (mono : ∀ σ H Q Q', (∀ b H1, Q b H1 → Q' b H1) → c σ H Q → c σ H Q') : tWhile c tb D σ H := by
  refine while_by Pv μ h0 (fun σ H p => ?_) mono
  obtain ⟨b, h1, h2, h3⟩ := hs σ H p
  refine h1 _ ?_
  cases b with
  | true => rw [if_pos rfl]; exact h2 rfl
  | false => rw [if_neg Bool.false_ne_true]; exact h3 rfl
/-- a list display by a loop over a list: what it wants -/
def LcL (K : PySem.W.Frag) (a : Addr) (g : TG) (tt : TT) (te : TE) (vs : List Nat) (σ : L2.St) (H1 : Hp) (D : Addr) (Qd : Hp → Prop) : Prop := ∃ W : Nat → Nat → Hp → Prop, (∃ m, W 0 m (upd H1 D (.lst []))) ∧ ∀ i m H, W i m H →
  ((Itl K a).stop i H ∧ Qd H) ∨ ((Itl K a).go i H ∧ ∃ Nx : Hp → Prop, (∀ H', Nx H' → ∃ m', m' < m ∧ W (i + 1) m' H') ∧ ∀ x H', (Itl K a).yld i H x H' → g x (wipe σ vs) H' fun σ2 H2 => wipe σ2 vs = wipe σ vs ∧ tt σ2 H2 fun b H3 =>
    if b = true then te σ2 H3 fun y H4 => ∃ acc, H4 D = some (.lst acc) ∧ acc.length < sizeLine ∧ Nx (upd H4 D (.lst (acc ++ [y]))) else Nx H3)
theorem tlc_list (K : PySem.W.Frag) (tl : TE) (g : TG) (tt : TT) (te : TE) (vs : List Nat) (σ : L2.St) (H : Hp) (Q : VK) : tLc (iList K tl) g tt te vs σ H Q = tl σ H fun x H1 => ∃ a, x = .ref a ∧ (∃ xs, SqL K H1 a xs) ∧ ∀ D, H1 D = none → LcL K a g tt te vs σ H1 D (fun H => Q (.ref D) H) := rfl
theorem loop_lc {K : PySem.W.Frag} {a : Addr} {xs : List V} {g : TG} {tt : TT} {te : TE} {vs : List Nat} {σ : L2.St} {H1 : Hp} {D : Addr} {Qd : Hp → Prop} (Pv : Nat → Hp → Prop) (h0 : Pv 0 (upd H1 D (.lst []))) (hl : ∀ i H, i ≤ xs.length → Pv i H → SqL K H a xs)
    (hs : ∀ i x H, xs[i]? = some x → Pv i H → g x (wipe σ vs) H fun σ2 H2 => wipe σ2 vs = wipe σ vs ∧ tt σ2 H2 fun b H3 =>
      if b = true then te σ2 H3 fun y H4 => ∃ acc, H4 D = some (.lst acc) ∧ acc.length < sizeLine ∧ Pv (i + 1) (upd H4 D (.lst (acc ++ [y]))) else Pv (i + 1) H3) (hd : ∀ H, Pv xs.length H → Qd H) : LcL K a g tt te vs σ H1 D Qd := lc_list Pv h0 hl hs hd
end L3

set_option linter.all false
namespace Bb
open Vbdlan
/-- what goes from the first to the second, below 0 the other way -/
def crossI (a v b w z : Nat) : Int := if b * v ≤ a * w then (crossing a v b w z : Int) else -(crossing a v b w z : Int)
theorem cr_le {d z t a : Nat} (hz : z ≤ 1000) (ht : 0 < t) (hd : d ≤ a * t) : d * z / (1000 * t) ≤ a := by
  apply Nat.div_le_of_le_mul
  calc d * z ≤ (a * t) * 1000 := Nat.mul_le_mul hd hz
    _ = 1000 * t * a := by rw [Nat.mul_comm (a * t) 1000, Nat.mul_comm a t, ← Nat.mul_assoc]
theorem cr_le1 {a v b w z : Nat} (hz : z ≤ 1000) (h : b * v ≤ a * w) : crossing a v b w z ≤ a := by
  unfold crossing
  by_cases h0 : v + w = 0
  · rw [if_pos h0]; exact Nat.zero_le _
  · rw [if_neg h0, if_pos h]
    refine cr_le hz (by omega) ?_
    calc a * w - b * v ≤ a * w := Nat.sub_le _ _
      _ ≤ a * (v + w) := Nat.mul_le_mul_left a (by omega)
theorem cr_le2 {a v b w z : Nat} (hz : z ≤ 1000) (h : ¬ b * v ≤ a * w) : crossing a v b w z ≤ b := by
  unfold crossing
  by_cases h0 : v + w = 0
  · rw [if_pos h0]; exact Nat.zero_le _
  · rw [if_neg h0, if_neg h]
    refine cr_le hz (by omega) ?_
    calc b * v - a * w ≤ b * v := Nat.sub_le _ _
      _ ≤ b * (v + w) := Nat.mul_le_mul_left b (by omega)
theorem exch1 {a v b w z : Nat} (hz : z ≤ 1000) : (a : Int) - crossI a v b w z = ((exchange a v b w z).1 : Int) := by
  unfold crossI exchange
  by_cases h : b * v ≤ a * w
  · have := cr_le1 hz h
    simp only [if_pos h]
    omega
  · simp only [if_neg h]
    omega
theorem exch2 {a v b w z : Nat} (hz : z ≤ 1000) : (b : Int) + crossI a v b w z = ((exchange a v b w z).2 : Int) := by
  unfold crossI exchange
  by_cases h : b * v ≤ a * w
  · simp only [if_pos h]
    omega
  · have := cr_le2 hz h
    simp only [if_neg h]
    omega
/-- crossing as the program reckons it -/
theorem cross_zero {a v b w z : Nat} (h : v + w = 0) : crossI a v b w z = 0 := by
  unfold crossI crossing
  simp only [if_pos h]
  split <;> rfl
theorem cross_pos {a v b w z : Nat} (h : ¬ v + w = 0) (h2 : (b : Int) * v ≤ a * w) : crossI a v b w z = ((a : Int) * w - b * v) * z / (1000 * (v + w)) := by
  have h3 : b * v ≤ a * w := by exact_mod_cast h2
  unfold crossI crossing
  rw [if_pos h3, if_neg h, if_pos h3]
  simp only [Int.natCast_ediv, Int.natCast_mul, Int.natCast_add, Int.ofNat_sub h3]
  rfl
theorem cross_neg {a v b w z : Nat} (h : ¬ v + w = 0) (h2 : ¬ (b : Int) * v ≤ a * w) : crossI a v b w z = -(((b : Int) * v - a * w) * z / (1000 * (v + w))) := by
  have h3 : ¬ b * v ≤ a * w := fun q => h2 (by exact_mod_cast q)
  have h4 : a * w ≤ b * v := by omega
  unfold crossI crossing
  rw [if_neg h3, if_neg h, if_neg h3]
  simp only [Int.natCast_ediv, Int.natCast_mul, Int.natCast_add, Int.ofNat_sub h4]
  rfl
end Bb
namespace Bb
open Vbdlan
theorem share_le {a r : Nat} (h : r ≤ 1000) : a * r / 1000 ≤ a := by
  apply Nat.div_le_of_le_mul
  rw [Nat.mul_comm 1000 a]
  exact Nat.mul_le_mul_left a h
theorem draw_le {m v w : Nat} (h : v ≤ w) : m * v / w ≤ m := by
  apply Nat.div_le_of_le_mul
  rw [Nat.mul_comm w m]
  exact Nat.mul_le_mul_left m h
end Bb
namespace Bb
open Vbdlan
theorem exAll_len1 (f : Form) (s : Nat) : ∀ l m : List Nat, (exchangeAll f s l m).1.length = l.length
  | [], m => by cases m <;> rfl
  | a :: l, [] => rfl
  | a :: l, b :: m => by simp only [exchangeAll, List.length_cons, exAll_len1 f s l m]
theorem exAll_len2 (f : Form) (s : Nat) : ∀ l m : List Nat, (exchangeAll f s l m).2.length = m.length
  | [], m => by cases m <;> rfl
  | a :: l, [] => rfl
  | a :: l, b :: m => by simp only [exchangeAll, List.length_cons, exAll_len2 f s l m]
theorem exAll_snoc (f : Form) (s x y : Nat) : ∀ l m : List Nat, l.length = m.length →
    exchangeAll f s (l ++ [x]) (m ++ [y]) = ((exchangeAll f s l m).1 ++ [(exchange x f.bv y f.dv s).1], (exchangeAll f s l m).2 ++ [(exchange x f.bv y f.dv s).2])
  | [], [], _ => rfl
  | [], _ :: _, h => by simp at h
  | _ :: _, [], h => by simp at h
  | a :: l, b :: m, h => by
    have ih := exAll_snoc f s x y l m (by simpa using h)
    simp only [List.cons_append, exchangeAll, ih]
theorem take_snoc {α : Type} {l : List α} {i : Nat} {x : α} (h : l[i]? = some x) : l.take (i + 1) = l.take i ++ [x] := by
  rw [List.take_add_one, h]
  rfl
theorem drop_at {α : Type} {l : List α} {i : Nat} {x : α} (h : l[i]? = some x) : l.drop i = x :: l.drop (i + 1) := by
  obtain ⟨h1, h2⟩ := List.getElem?_eq_some_iff.mp h
  rw [List.drop_eq_getElem_cons h1, h2]
/-- the cells when i of them have been gone through -/
def exB (f : Form) (s : Nat) (l m : List Nat) (i : Nat) : List Nat := (exchangeAll f s (l.take i) (m.take i)).1 ++ l.drop i
def exA (f : Form) (s : Nat) (l m : List Nat) (i : Nat) : List Nat := (exchangeAll f s (l.take i) (m.take i)).2 ++ m.drop i
theorem exB_at {f : Form} {s : Nat} {l m : List Nat} {i x : Nat} (h : l[i]? = some x) : (exB f s l m i)[i]? = some x := by
  have hl : i < l.length := (List.getElem?_eq_some_iff.mp h).1
  unfold exB
  rw [List.getElem?_append_right (by rw [exAll_len1, List.length_take]; omega), exAll_len1, List.length_take, List.getElem?_drop]
  rw [show i + (i - min i l.length) = i by omega]
  exact h
theorem exA_at {f : Form} {s : Nat} {l m : List Nat} {i x : Nat} (h : m[i]? = some x) : (exA f s l m i)[i]? = some x := by
  have hl : i < m.length := (List.getElem?_eq_some_iff.mp h).1
  unfold exA
  rw [List.getElem?_append_right (by rw [exAll_len2, List.length_take]; omega), exAll_len2, List.length_take, List.getElem?_drop]
  rw [show i + (i - min i m.length) = i by omega]
  exact h
theorem set_mid {α : Type} : ∀ (l r : List α) (x y : α), (l ++ x :: r).set l.length y = l ++ y :: r
  | [], _, _, _ => rfl
  | a :: l, r, x, y => by simp only [List.cons_append, List.length_cons, List.set_cons_succ, set_mid l r x y]
theorem exB_next {f : Form} {s : Nat} {l m : List Nat} {i x y : Nat} (hx : l[i]? = some x) (hy : m[i]? = some y) :
    (exB f s l m i).set i (exchange x f.bv y f.dv s).1 = exB f s l m (i + 1) := by
  have h1 : i < l.length := (List.getElem?_eq_some_iff.mp hx).1
  have h2 : i < m.length := (List.getElem?_eq_some_iff.mp hy).1
  unfold exB
  rw [take_snoc hx, take_snoc hy, exAll_snoc f s x y _ _ (by rw [List.length_take, List.length_take]; omega), drop_at hx]
  have e : (exchangeAll f s (l.take i) (m.take i)).1.length = i := by rw [exAll_len1, List.length_take]; omega
  have q := set_mid (exchangeAll f s (l.take i) (m.take i)).1 (l.drop (i + 1)) x (exchange x f.bv y f.dv s).1
  rw [e] at q
  rw [q, List.append_assoc]
  rfl
theorem exA_next {f : Form} {s : Nat} {l m : List Nat} {i x y : Nat} (hx : l[i]? = some x) (hy : m[i]? = some y) :
    (exA f s l m i).set i (exchange x f.bv y f.dv s).2 = exA f s l m (i + 1) := by
  have h1 : i < l.length := (List.getElem?_eq_some_iff.mp hx).1
  have h2 : i < m.length := (List.getElem?_eq_some_iff.mp hy).1
  unfold exA
  rw [take_snoc hx, take_snoc hy, exAll_snoc f s x y _ _ (by rw [List.length_take, List.length_take]; omega), drop_at hy]
  have e : (exchangeAll f s (l.take i) (m.take i)).2.length = i := by rw [exAll_len2, List.length_take]; omega
  have q := set_mid (exchangeAll f s (l.take i) (m.take i)).2 (m.drop (i + 1)) y (exchange x f.bv y f.dv s).2
  rw [e] at q
  rw [q, List.append_assoc]
  rfl
theorem exB_end {f : Form} {s : Nat} {l m : List Nat} {n : Nat} (h1 : l.length = n) (h2 : m.length = n) : exB f s l m n = (exchangeAll f s l m).1 := by
  unfold exB
  rw [List.take_of_length_le (by omega), List.take_of_length_le (by omega), List.drop_of_length_le (by omega), List.append_nil]
theorem exA_end {f : Form} {s : Nat} {l m : List Nat} {n : Nat} (h1 : l.length = n) (h2 : m.length = n) : exA f s l m n = (exchangeAll f s l m).2 := by
  unfold exA
  rw [List.take_of_length_le (by omega), List.take_of_length_le (by omega), List.drop_of_length_le (by omega), List.append_nil]
end Bb
namespace Bb
open Vbdlan
/-- what a form keeps to while something is laid -/
structure FOk (f : Form) : Prop where
  n2 : 2 ≤ f.n
  n32 : f.n ≤ 32
  b1 : 1 ≤ f.bv
  b2 : f.bv ≤ 10000
  d1 : 1 ≤ f.dv
  d2 : f.dv ≤ 10000
  bv : f.bv ≤ f.v1
  v1 : f.v1 ≤ 1000000
  v2 : f.v2 ≤ 1000000
  x : f.x ≤ 1000
  r : f.round ≤ 1000
structure SOk (n : Nat) (x : Solute) : Prop where
  bl : x.blood.length = n
  ba : x.bath.length = n
  sh : x.share ≤ 1000
theorem pools_ok {n : Nat} {f : Form} {x : Solute} (h : SOk n x) : SOk n (pools f x) := ⟨h.bl, h.ba, h.sh⟩
theorem bloodMove_ok {f : Form} {x : Solute} (h : SOk f.n x) (h0 : 0 < f.n) : SOk f.n (bloodMove f x) := by
  refine ⟨?_, h.ba, h.sh⟩
  show ((_ :: x.blood).take f.n).length = f.n
  rw [List.length_take, List.length_cons, h.bl]
  omega
theorem bathMove_ok {f : Form} {x : Solute} (h : SOk f.n x) (h0 : 0 < f.n) : SOk f.n (bathMove f x) := by
  unfold bathMove
  split
  · refine ⟨h.bl, ?_, h.sh⟩
    show ((_ :: x.bath).take f.n).length = f.n
    rw [List.length_take, List.length_cons, h.ba]
    omega
  · refine ⟨h.bl, ?_, h.sh⟩
    show (x.bath.drop 1 ++ [_]).length = f.n
    rw [List.length_append, List.length_drop, h.ba]
    simp
    omega
def tk1 (f : Form) (x : Solute) : Solute := pools f x
def tk2 (f : Form) (mb : Bool) (x : Solute) : Solute := if mb = true then bloodMove f (tk1 f x) else tk1 f x
def tk3 (f : Form) (mb md : Bool) (x : Solute) : Solute := if md = true then bathMove f (tk2 f mb x) else tk2 f mb x
theorem tickOf_eq (f : Form) (mb md : Bool) (x : Solute) : tickOf f mb md x = { tk3 f mb md x with blood := (exchangeAll f (tk3 f mb md x).share (tk3 f mb md x).blood (tk3 f mb md x).bath).1, bath := (exchangeAll f (tk3 f mb md x).share (tk3 f mb md x).blood (tk3 f mb md x).bath).2 } := rfl
theorem tk2_ok {f : Form} {mb : Bool} {x : Solute} (h : SOk f.n x) (h0 : 0 < f.n) : SOk f.n (tk2 f mb x) := by
  unfold tk2
  split
  · exact bloodMove_ok (pools_ok h) h0
  · exact pools_ok h
theorem tk3_ok {f : Form} {mb md : Bool} {x : Solute} (h : SOk f.n x) (h0 : 0 < f.n) : SOk f.n (tk3 f mb md x) := by
  unfold tk3
  split
  · exact bathMove_ok (tk2_ok h h0) h0
  · exact tk2_ok h h0
theorem tickOf_ok {f : Form} {mb md : Bool} {x : Solute} (h : SOk f.n x) (h0 : 0 < f.n) : SOk f.n (tickOf f mb md x) := by
  have q := tk3_ok (mb := mb) (md := md) h h0
  rw [tickOf_eq]
  exact ⟨(exAll_len1 _ _ _ _).trans q.bl, (exAll_len2 _ _ _ _).trans q.ba, q.sh⟩
end Bb

set_option linter.all false
namespace Bb
open Vbdlan
/-- the first i of them by g -/
def mapTo {α : Type} (g : α → α) (l : List α) (i : Nat) : List α := (l.take i).map g ++ l.drop i
theorem mapTo_zero {α : Type} (g : α → α) (l : List α) : mapTo g l 0 = l := rfl
theorem mapTo_all {α : Type} (g : α → α) (l : List α) : mapTo g l l.length = l.map g := by
  unfold mapTo
  rw [List.take_length, List.drop_length, List.append_nil]
theorem mapTo_at {α : Type} {g : α → α} {l : List α} {i : Nat} {x : α} (h : l[i]? = some x) : (mapTo g l i)[i]? = some x := by
  have hl : i < l.length := (List.getElem?_eq_some_iff.mp h).1
  unfold mapTo
  rw [List.getElem?_append_right (by rw [List.length_map, List.length_take]; omega), List.length_map, List.length_take, List.getElem?_drop]
  rw [show i + (i - min i l.length) = i by omega]
  exact h
theorem mapTo_next {α : Type} {g : α → α} {l : List α} {i : Nat} {x : α} (h : l[i]? = some x) : (mapTo g l i).set i (g x) = mapTo g l (i + 1) := by
  have hl : i < l.length := (List.getElem?_eq_some_iff.mp h).1
  unfold mapTo
  rw [take_snoc h, drop_at h, List.map_append]
  have e : ((l.take i).map g).length = i := by rw [List.length_map, List.length_take]; omega
  have q := set_mid ((l.take i).map g) (l.drop (i + 1)) x (g x)
  rw [e] at q
  rw [q, List.append_assoc]
  rfl
theorem mapTo_len {α : Type} (g : α → α) (l : List α) (i : Nat) : (mapTo g l i).length = l.length := by
  unfold mapTo
  rw [List.length_append, List.length_map, List.length_take, List.length_drop]
  omega
end Bb

set_option linter.all false
namespace Bb
open Vbdlan
/-! ticks -/
theorem runTicks_succ : ∀ (n : Nat) (s : St), runTicks (n + 1) s = tick (runTicks n s)
  | 0, s => rfl
  | n + 1, s => by
    show runTicks (n + 1) (tick s) = _
    rw [runTicks_succ n (tick s)]
    rfl
theorem runTicks_form : ∀ (n : Nat) (s : St), (runTicks n s).form = s.form
  | 0, s => rfl
  | n + 1, s => (runTicks_form n (tick s)).trans rfl
theorem runTicks_laid : ∀ (n : Nat) (s : St), (runTicks n s).laid = s.laid
  | 0, s => rfl
  | n + 1, s => (runTicks_laid n (tick s)).trans rfl
theorem runTicks_ticks : ∀ (n : Nat) (s : St), (runTicks n s).ticks = s.ticks + n
  | 0, s => rfl
  | n + 1, s => by
    show (runTicks n (tick s)).ticks = _
    rw [runTicks_ticks n (tick s)]
    show s.ticks + 1 + n = _
    omega
/-- every solute goes by itself -/
theorem runTicks_map : ∀ (n : Nat) (s : St), ∃ g : Solute → Solute, ∀ s' : St, s'.form = s.form → s'.accB = s.accB → s'.accD = s.accD → (runTicks n s').solutes = s'.solutes.map g
  | 0, s => ⟨id, fun s' _ _ _ => by rw [List.map_id]; rfl⟩
  | n + 1, s => by
    obtain ⟨g, hg⟩ := runTicks_map n (tick s)
    refine ⟨fun x => g (tickOf s.form (decide (s.form.bd ≤ s.accB + s.form.bn)) (decide (s.form.dd ≤ s.accD + s.form.dn)) x), fun s' h1 h2 h3 => ?_⟩
    show (runTicks n (tick s')).solutes = _
    rw [hg (tick s') (by show s'.form = s.form; exact h1) (by show _ = (tick s).accB; simp only [tick, h1, h2]) (by show _ = (tick s).accD; simp only [tick, h1, h3])]
    simp only [tick, List.map_map, h1, h2, h3]
    rfl
theorem runTicks_one {n : Nat} {s : St} {j : Nat} {x : Solute} (h : s.solutes[j]? = some x) : ∃ y, (runTicks n s).solutes[j]? = some y ∧ (runTicks n { s with solutes := [x] }).solutes = [y] := by
  obtain ⟨g, hg⟩ := runTicks_map n s
  refine ⟨g x, ?_, ?_⟩
  · rw [hg s rfl rfl rfl, List.getElem?_map, h]
    rfl
  · rw [hg { s with solutes := [x] } rfl rfl rfl]
    rfl
theorem runTicks_len (n : Nat) (s : St) : (runTicks n s).solutes.length = s.solutes.length := by
  obtain ⟨g, hg⟩ := runTicks_map n s
  rw [hg s rfl rfl rfl, List.length_map]
theorem tick_so {s : St} (n0 : 0 < s.form.n) (h : ∀ x ∈ s.solutes, SOk s.form.n x) : ∀ x ∈ (tick s).solutes, SOk s.form.n x := by
  intro x hx
  obtain ⟨y, hy, rfl⟩ := List.mem_map.mp (show x ∈ s.solutes.map _ from hx)
  exact tickOf_ok (h y hy) n0
theorem runTicks_so : ∀ (n : Nat) {s : St}, 0 < s.form.n → (∀ x ∈ s.solutes, SOk s.form.n x) → ∀ x ∈ (runTicks n s).solutes, SOk s.form.n x
  | 0, s, _, h => h
  | n + 1, s, n0, h => runTicks_so n (s := tick s) n0 (tick_so n0 h)
/-! sums -/
theorem sum_foldl : ∀ (l : List Nat) (a : Nat), l.foldl (fun a b => a + b) a = a + sum l
  | [], a => rfl
  | b :: l, a => by
    unfold sum
    rw [List.foldl_cons, List.foldl_cons, sum_foldl l (a + b), sum_foldl l (0 + b)]
    omega
theorem sum_nil : sum [] = 0 := rfl
theorem sum_cons (a : Nat) (l : List Nat) : sum (a :: l) = a + sum l := by
  show List.foldl _ (0 + a) l = _
  rw [sum_foldl]
  omega
theorem sum_append : ∀ (l m : List Nat), sum (l ++ m) = sum l + sum m
  | [], m => by rw [List.nil_append, sum_nil]; omega
  | a :: l, m => by rw [List.cons_append, sum_cons, sum_cons, sum_append l m]; omega
theorem sum_rep : ∀ n : Nat, sum (List.replicate n 0) = 0
  | 0 => rfl
  | n + 1 => by rw [List.replicate_succ, sum_cons, sum_rep n]
theorem sum_last {l : List Nat} (h : l ≠ []) : sum l.dropLast + l.getLast?.getD 0 = sum l := by
  have e := List.dropLast_concat_getLast h
  rw [List.getLast?_eq_some_getLast h]
  show sum l.dropLast + l.getLast h = sum l
  conv => rhs; rw [← e]
  rw [sum_append, sum_cons, sum_nil]
  omega
theorem getLast_le {l : List Nat} : l.getLast?.getD 0 ≤ sum l := by
  by_cases h : l = []
  · subst h; exact Nat.le_refl _
  · have := sum_last h; omega
theorem sum_push {l : List Nat} {n c : Nat} (hl : l.length = n) (h0 : 0 < n) : sum ((c :: l).take n) + l.getLast?.getD 0 = c + sum l := by
  have hne : l ≠ [] := by intro z; subst z; simp at hl; omega
  obtain ⟨m, rfl⟩ : ∃ m, n = m + 1 := ⟨n - 1, by omega⟩
  rw [List.take_succ_cons, sum_cons]
  have e : l.take m = l.dropLast := by rw [List.dropLast_eq_take, hl]; rfl
  rw [e]
  have := sum_last hne
  omega
theorem exch_sum {a v b w z : Nat} (hz : z ≤ 1000) : (exchange a v b w z).1 + (exchange a v b w z).2 = a + b := by
  unfold exchange
  by_cases h : b * v ≤ a * w
  · have := cr_le1 hz h
    simp only [if_pos h]
    omega
  · have := cr_le2 hz h
    simp only [if_neg h]
    omega
theorem exAll_sum {f : Form} {s : Nat} (hs : s ≤ 1000) : ∀ l m : List Nat, sum (exchangeAll f s l m).1 + sum (exchangeAll f s l m).2 = sum l + sum m
  | [], m => by cases m <;> rfl
  | a :: l, [] => rfl
  | a :: l, b :: m => by
    have ih := exAll_sum (f := f) hs l m
    have e := exch_sum (a := a) (v := f.bv) (b := b) (w := f.dv) hs
    simp only [exchangeAll, sum_cons]
    omega
/-! what there is of a solute -/
def mass (x : Solute) : Nat := x.m1 + x.m2 + sum x.blood + sum x.bath
structure Bd (t : Nat) (x : Solute) : Prop where
  gen : x.gen ≤ 1000000
  fresh : x.fresh ≤ 1000000
  given : x.given ≤ 10000000000
  held : mass x ≤ x.given + x.produced + x.came
  prod : x.produced ≤ 1000000 * t
  came : x.came ≤ 1000000 * t
  into : x.into ≤ 100000000000 * t
  mark : x.mark ≤ 100000000000
theorem Bd.mass_le {t : Nat} {x : Solute} (h : Bd t x) (ht : t ≤ 20000) : mass x ≤ 50000000000 := by
  have h1 := h.held
  have h2 := h.given
  have h3 := h.prod
  have h4 := h.came
  omega
theorem Bd.m1_le {t : Nat} {x : Solute} (h : Bd t x) (ht : t ≤ 20000) : x.m1 ≤ 100000000000 := by
  have q := h.mass_le ht
  unfold mass at q
  omega
theorem Bd.into_le {t : Nat} {x : Solute} (h : Bd t x) (ht : t ≤ 20000) : x.into < 18446744073709551616 := by
  have q := h.into
  omega
/-- one tick -/
theorem pools_mass {f : Form} {x : Solute} (hx : f.x ≤ 1000) : mass (pools f x) = mass x + x.gen := by
  unfold mass pools
  have e := exch_sum (a := x.m1) (v := f.v1) (b := x.m2 + x.gen) (w := f.v2) hx
  simp only
  omega
theorem bloodMove_mass {f : Form} {x : Solute} (F : FOk f) (S : SOk f.n x) : mass (bloodMove f x) = mass x ∧ (bloodMove f x).into ≤ x.into + mass x := by
  have n0 : 0 < f.n := by have := F.n2; omega
  have v0 : ¬ f.v1 = 0 := by have := F.bv; have := F.b1; omega
  have lG : x.blood.getLast?.getD 0 * f.round / 1000 ≤ x.blood.getLast?.getD 0 := share_le F.r
  have lD : x.m1 * (f.bv - f.bv * f.round / 1000) / f.v1 ≤ x.m1 := draw_le (by have := F.bv; omega)
  have e := sum_push (c := x.blood.getLast?.getD 0 * f.round / 1000 + x.m1 * (f.bv - f.bv * f.round / 1000) / f.v1) S.bl n0
  have g := getLast_le (l := x.blood)
  unfold mass bloodMove
  simp only [if_neg v0]
  omega
theorem sum_head {l : List Nat} (h : l ≠ []) : sum (l.drop 1) + l.headD 0 = sum l := by
  cases l with
  | nil => exact absurd rfl h
  | cons a l => rw [sum_cons]; show sum l + a = _; omega
theorem bathMove_mass {f : Form} {x : Solute} (n0 : 0 < f.n) (S : SOk f.n x) : mass (bathMove f x) ≤ mass x + x.fresh := by
  have hne : x.bath ≠ [] := by intro z; have := S.ba; rw [z] at this; simp at this; omega
  unfold bathMove
  split
  · have e := sum_push (c := x.fresh) S.ba n0
    unfold mass
    simp only
    omega
  · have e := sum_head hne
    unfold mass
    simp only [sum_append, sum_cons, sum_nil]
    omega
theorem tick_bd {f : Form} {t : Nat} {mb md : Bool} {x : Solute} (F : FOk f) (S : SOk f.n x) (ht : t + 1 ≤ 20000) (B : Bd t x) : Bd (t + 1) (tickOf f mb md x) := by
  have n0 : 0 < f.n := by have := F.n2; omega
  have S1 := pools_ok (f := f) S
  have B1 : Bd (t + 1) (pools f x) := by
    obtain ⟨b1, b2, b3, b4, b5, b6, b7, b8⟩ := B
    have e := pools_mass (x := x) F.x
    refine ⟨b1, b2, b3, ?_, ?_, ?_, ?_, b8⟩
    · rw [e]; show mass x + x.gen ≤ x.given + (x.produced + x.gen) + x.came; omega
    · show x.produced + x.gen ≤ _; omega
    · show x.came ≤ _; omega
    · show x.into ≤ _; omega
  have q2 : (tk1 f x).into ≤ 100000000000 * t ∧ (tk1 f x).came ≤ 1000000 * t := ⟨B.into, B.came⟩
  have m1 := B1.mass_le ht
  have B2 : Bd (t + 1) (tk2 f mb x) ∧ (tk2 f mb x).came ≤ 1000000 * t := by
    unfold tk2
    split
    · obtain ⟨e1, e2⟩ := bloodMove_mass F S1
      refine ⟨⟨B1.gen, B1.fresh, B1.given, ?_, B1.prod, B1.came, ?_, B1.mark⟩, q2.2⟩
      · have := B1.held
        show mass (bloodMove f (pools f x)) ≤ _
        rw [e1]; exact this
      · have h0 := q2.1
        show (bloodMove f (pools f x)).into ≤ _
        have : (pools f x).into ≤ 100000000000 * t := h0
        omega
    · exact ⟨B1, q2.2⟩
  have S2 := tk2_ok (mb := mb) S n0
  have B3 : Bd (t + 1) (tk3 f mb md x) := by
    unfold tk3
    split
    · obtain ⟨B2, q⟩ := B2
      have e := bathMove_mass n0 S2
      have hc : (bathMove f (tk2 f mb x)).came = (tk2 f mb x).came + (tk2 f mb x).fresh := by unfold bathMove; split <;> rfl
      have h1 : (bathMove f (tk2 f mb x)).given = (tk2 f mb x).given := by unfold bathMove; split <;> rfl
      have h2 : (bathMove f (tk2 f mb x)).produced = (tk2 f mb x).produced := by unfold bathMove; split <;> rfl
      have h3 : (bathMove f (tk2 f mb x)).gen = (tk2 f mb x).gen := by unfold bathMove; split <;> rfl
      have h4 : (bathMove f (tk2 f mb x)).fresh = (tk2 f mb x).fresh := by unfold bathMove; split <;> rfl
      have h5 : (bathMove f (tk2 f mb x)).into = (tk2 f mb x).into := by unfold bathMove; split <;> rfl
      have h6 : (bathMove f (tk2 f mb x)).mark = (tk2 f mb x).mark := by unfold bathMove; split <;> rfl
      obtain ⟨b1, b2, b3, b4, b5, b6, b7, b8⟩ := B2
      refine ⟨?_, ?_, ?_, ?_, ?_, ?_, ?_, ?_⟩ <;> omega
    · exact B2.1
  have S3 := tk3_ok (mb := mb) (md := md) S n0
  rw [tickOf_eq]
  refine ⟨B3.gen, B3.fresh, B3.given, ?_, B3.prod, B3.came, B3.into, B3.mark⟩
  have e := exAll_sum (f := f) S3.sh (tk3 f mb md x).blood (tk3 f mb md x).bath
  have h := B3.held
  unfold mass at h ⊢
  simp only
  omega
/-! what a state keeps to -/
structure StOk (s : St) : Prop where
  fo : s.laid = true → FOk s.form
  so : ∀ x ∈ s.solutes, SOk s.form.n x
  bd : ∀ x ∈ s.solutes, Bd s.ticks x
  few : s.solutes.length ≤ 4
  tk : s.ticks ≤ 20000
  no : s.laid = false → s = start
end Bb

set_option linter.all false
namespace Bb
open Vbdlan
theorem within_iff {n lo hi : Int} : within n lo hi = true ↔ lo ≤ n ∧ n ≤ hi := by
  unfold within
  rw [Bool.and_eq_true, decide_eq_true_eq, decide_eq_true_eq]
theorem start_ok : StOk start := { fo := fun h => (by cases h), so := fun x h => (by cases h), bd := fun x h => (by cases h), few := (by decide), tk := (by decide), no := fun _ => rfl }
theorem ticks_ok : ∀ (n : Nat) {s : St}, StOk s → s.laid = true → s.ticks + n ≤ 20000 → StOk (runTicks n s)
  | 0, s, h, _, _ => h
  | n + 1, s, h, hl, ht => by
    have F := h.fo hl
    refine ticks_ok n (s := tick s) ⟨fun _ => F, tick_so (by have := F.n2; omega) h.so, ?_, ?_, ?_, fun z => ?_⟩ hl ?_
    · intro x hx
      obtain ⟨y, hy, rfl⟩ := List.mem_map.mp (show x ∈ s.solutes.map _ from hx)
      exact tick_bd F (h.so y hy) (by omega) (h.bd y hy)
    · show (s.solutes.map _).length ≤ 4
      rw [List.length_map]
      exact h.few
    · show s.ticks + 1 ≤ _
      omega
    · have : s.laid = false := z
      rw [hl] at this
      cases this
    · show s.ticks + 1 + n ≤ _
      omega
theorem mem_put {s : St} {j : Int} {x y : Solute} (h : y ∈ (put s j x).solutes) : y ∈ s.solutes ∨ y = x := List.mem_or_eq_of_mem_set h
theorem put_ok {s : St} {j : Int} {x x' : Solute} (h : StOk s) (hl : s.laid = true) (hx : x ∈ s.solutes) (h1 : SOk s.form.n x → SOk s.form.n x') (h2 : Bd s.ticks x → Bd s.ticks x') : StOk (put s j x') := by
  refine ⟨h.fo, fun y hy => ?_, fun y hy => ?_, ?_, h.tk, fun z => ?_⟩
  · rcases mem_put hy with hy | rfl
    · exact h.so y hy
    · exact h1 (h.so x hx)
  · rcases mem_put hy with hy | rfl
    · exact h.bd y hy
    · exact h2 (h.bd x hx)
  · show (s.solutes.set _ _).length ≤ 4
    rw [List.length_set]
    exact h.few
  · have : s.laid = false := z
    rw [hl] at this
    cases this
theorem onSolute_ok {s : St} {j : Int} {g : Solute → St × List Int} (h : StOk s) (hg : ∀ x ∈ s.solutes, StOk (g x).1) : StOk (onSolute s j g).1 := by
  unfold onSolute
  split
  · exact h
  · exact hg _ (List.mem_of_getElem? (by assumption))
theorem form_ok {s s' : St} (h : StOk s) (hl : s'.laid = true) (hf : FOk s'.form) (hn : s'.form.n = s.form.n) (ht : s'.ticks = s.ticks) (hs : s'.solutes = s.solutes) : StOk s' := by
  refine ⟨fun _ => hf, fun y hy => ?_, fun y hy => ?_, ?_, ?_, fun z => ?_⟩
  · rw [hn]; rw [hs] at hy; exact h.so y hy
  · rw [ht]; rw [hs] at hy; exact h.bd y hy
  · rw [hs]; exact h.few
  · rw [ht]; exact h.tk
  · rw [hl] at z; cases z
theorem moved_so {n : Nat} {x : Solute} (h : x.share ≤ 1000) : SOk n (moved n x) := ⟨List.length_replicate .., List.length_replicate .., h⟩
theorem new_so (n : Nat) : SOk n (newSolute n) := ⟨List.length_replicate .., List.length_replicate .., Nat.zero_le _⟩
theorem moved_bd {n t : Nat} {x : Solute} (h : Bd t x) : Bd t (moved n x) := by
  refine ⟨h.gen, h.fresh, h.given, ?_, h.prod, h.came, h.into, h.mark⟩
  have := h.held
  unfold mass at this ⊢
  show x.m1 + x.m2 + sum (List.replicate n 0) + sum (List.replicate n 0) ≤ x.given + x.produced + x.came
  rw [sum_rep]
  omega
theorem new_bd (n t : Nat) : Bd t (newSolute n) := by
  refine ⟨Nat.zero_le _, Nat.zero_le _, Nat.zero_le _, ?_, Nat.zero_le _, Nat.zero_le _, Nat.zero_le _, Nat.zero_le _⟩
  unfold mass
  show 0 + 0 + sum (List.replicate n 0) + sum (List.replicate n 0) ≤ 0
  rw [sum_rep]
  omega
theorem mem_for {k n : Nat} {l : List Solute} {y : Solute} (h : y ∈ solutesFor k n l) : (∃ x ∈ l, y = moved n x) ∨ y = newSolute n := by
  obtain ⟨j, _, rfl⟩ := List.mem_map.mp h
  split
  · exact .inl ⟨_, List.mem_of_getElem? (by assumption), rfl⟩
  · exact .inr rfl
theorem step_ok {s : St} {c : Call} (h : StOk s) : StOk (step s c).1 := by
  unfold step
  by_cases hr : ranges c = false
  · simp only [if_pos hr]; exact h
  simp only [if_neg hr]
  have hr : ranges c = true := by simpa using hr
  by_cases hl : s.laid = false ∧ isLay c = false
  · rw [if_pos hl]; exact h
  rw [if_neg hl]
  have F : isLay c = false → s.laid = true := fun e => by
    cases q : s.laid with
    | true => rfl
    | false => exact absurd ⟨q, e⟩ hl
  cases c with
  | lay n b d k a =>
    simp only [ranges, Bool.and_eq_true, within_iff] at hr
    simp only
    split
    · exact h
    split
    · exact h
    rename_i h1 h2
    have hsh : ∀ x ∈ s.solutes, x.share ≤ 1000 := fun x hx => (h.so x hx).sh
    refine ⟨fun _ => ?_, fun y hy => ?_, fun y hy => ?_, ?_, h.tk, fun z => by cases z⟩
    · cases e : s.laid with
      | true =>
        have G := h.fo e
        have g1 := G.v1
        have g2 := G.v2
        have g3 := G.x
        have g4 := G.r
        have hb : b.toNat ≤ s.form.v1 := by
          have : ¬ (s.form.v1 < b.toNat) := fun q => h2 ⟨q, e⟩
          omega
        refine ⟨?_, ?_, ?_, ?_, ?_, ?_, ?_, ?_, ?_, g3, g4⟩ <;> simp only [if_true] <;> omega
      | false =>
        have q := h.no e
        subst q
        refine ⟨?_, ?_, ?_, ?_, ?_, ?_, ?_, ?_, ?_, Nat.zero_le _, Nat.zero_le _⟩ <;> simp only [if_false, Bool.false_eq_true] <;> omega
    · rcases mem_for hy with ⟨x, hx, rfl⟩ | rfl
      · exact moved_so (hsh x hx)
      · exact new_so _
    · rcases mem_for hy with ⟨x, hx, rfl⟩ | rfl
      · exact moved_bd (h.bd x hx)
      · exact new_bd _ _
    · show (solutesFor _ _ _).length ≤ 4
      unfold solutesFor
      rw [List.length_map, List.length_range]
      omega
  | share j v =>
    simp only [ranges, Bool.and_eq_true, within_iff] at hr
    refine onSolute_ok h fun x hx => put_ok h (F rfl) hx (fun q => ⟨q.bl, q.ba, ?_⟩) fun B => ⟨B.gen, B.fresh, B.given, B.held, B.prod, B.came, B.into, B.mark⟩
    show v.toNat ≤ 1000
    omega
  | fresh j v =>
    simp only [ranges, Bool.and_eq_true, within_iff] at hr
    refine onSolute_ok h fun x hx => put_ok h (F rfl) hx (fun q => ⟨q.bl, q.ba, q.sh⟩) fun B => ⟨B.gen, ?_, B.given, B.held, B.prod, B.came, B.into, B.mark⟩
    show v.toNat ≤ 1000000
    omega
  | rates a b c d =>
    have G := h.fo (F rfl)
    exact form_ok h (F rfl) ⟨G.n2, G.n32, G.b1, G.b2, G.d1, G.d2, G.bv, G.v1, G.v2, G.x, G.r⟩ rfl rfl rfl
  | pool a b x =>
    simp only [ranges, Bool.and_eq_true, within_iff] at hr
    have G := h.fo (F rfl)
    simp only
    split
    · exact h
    · refine form_ok h (F rfl) ⟨G.n2, G.n32, G.b1, G.b2, G.d1, G.d2, ?_, ?_, ?_, ?_, G.r⟩ rfl rfl rfl <;> simp only <;> omega
  | dose j w m =>
    simp only [ranges, Bool.and_eq_true, within_iff] at hr
    refine onSolute_ok h fun x hx => ?_
    split
    · exact h
    rename_i hg
    have hg : x.given + m.toNat ≤ 10000000000 := by
      have : ¬ (10000000000 < x.given + m.toNat) := hg
      omega
    refine put_ok h (F rfl) hx (fun q => ?_) fun B => ?_
    · split <;> exact ⟨q.bl, q.ba, q.sh⟩
    · have := B.held
      unfold mass at this
      split
      · refine ⟨B.gen, B.fresh, hg, ?_, B.prod, B.came, B.into, B.mark⟩
        unfold mass
        simp only
        omega
      · refine ⟨B.gen, B.fresh, hg, ?_, B.prod, B.came, B.into, B.mark⟩
        unfold mass
        simp only
        omega
  | produce j g =>
    simp only [ranges, Bool.and_eq_true, within_iff] at hr
    refine onSolute_ok h fun x hx => put_ok h (F rfl) hx (fun q => ⟨q.bl, q.ba, q.sh⟩) fun B => ⟨?_, B.fresh, B.given, B.held, B.prod, B.came, B.into, B.mark⟩
    show g.toNat ≤ 1000000
    omega
  | round r =>
    simp only [ranges, within_iff] at hr
    have G := h.fo (F rfl)
    exact form_ok h (F rfl) ⟨G.n2, G.n32, G.b1, G.b2, G.d1, G.d2, G.bv, G.v1, G.v2, G.x, by show r.toNat ≤ 1000; omega⟩ rfl rfl rfl
  | tick n =>
    simp only
    split
    · exact h
    · rename_i q
      have q : ¬ (20000 < s.ticks + n.toNat) := q
      exact ticks_ok _ h (F rfl) (by omega)
  | blood i => simp only; split <;> exact h
  | bath i => simp only; split <;> exact h
  | patient => exact h
  | totals j => exact onSolute_ok h fun x hx => h
  | mark =>
    refine ⟨h.fo, fun y hy => ?_, fun y hy => ?_, ?_, h.tk, fun z => ?_⟩
    · obtain ⟨x, hx, rfl⟩ := List.mem_map.mp (show y ∈ s.solutes.map _ from hy)
      exact ⟨(h.so x hx).bl, (h.so x hx).ba, (h.so x hx).sh⟩
    · obtain ⟨x, hx, rfl⟩ := List.mem_map.mp (show y ∈ s.solutes.map _ from hy)
      have B := h.bd x hx
      exact ⟨B.gen, B.fresh, B.given, B.held, B.prod, B.came, Nat.zero_le _, B.m1_le h.tk⟩
    · show (s.solutes.map _).length ≤ 4
      rw [List.length_map]
      exact h.few
    · have q : s.laid = false := z
      rw [F rfl] at q
      cases q
  | extraction j => exact onSolute_ok h fun x hx => by split <;> exact h
  | reduction j => exact onSolute_ok h fun x hx => by split <;> exact h
  | profile j => exact onSolute_ok h fun x hx => h
  | look => exact h
  | would n j => exact onSolute_ok h fun x hx => by split <;> exact h
end Bb

set_option linter.all false
namespace Bb
open Vbdlan
/-- a call as it stands in the list: its place, its numbers -/
inductive Dec : Nat → List Int → Call → Prop
  | lay (n b d k a : Int) : Dec 0 [n, b, d, k, a] (.lay n b d k a)
  | share (j v : Int) : Dec 1 [j, v] (.share j v)
  | fresh (j v : Int) : Dec 2 [j, v] (.fresh j v)
  | rates (a b c d : Int) : Dec 3 [a, b, c, d] (.rates a b c d)
  | pool (a b x : Int) : Dec 4 [a, b, x] (.pool a b x)
  | dose (j w m : Int) : Dec 5 [j, w, m] (.dose j w m)
  | produce (j g : Int) : Dec 6 [j, g] (.produce j g)
  | round (r : Int) : Dec 7 [r] (.round r)
  | tick (n : Int) : Dec 8 [n] (.tick n)
  | blood (i : Int) : Dec 9 [i] (.blood i)
  | bath (i : Int) : Dec 10 [i] (.bath i)
  | patient : Dec 11 [] .patient
  | totals (j : Int) : Dec 12 [j] (.totals j)
  | mark : Dec 13 [] .mark
  | extraction (j : Int) : Dec 14 [j] (.extraction j)
  | reduction (j : Int) : Dec 15 [j] (.reduction j)
  | profile (j : Int) : Dec 16 [j] (.profile j)
  | look : Dec 17 [] .look
  | would (n j : Int) : Dec 18 [n, j] (.would n j)
def rws : List (List (Int × Int)) := [[(2, 32), (1, 10000), (1, 10000), (1, 4), (0, 1)], [(0, 3), (0, 1000)], [(0, 3), (0, 1000000)], [(0, 1000), (1, 1000), (0, 1000), (1, 1000)], [(0, 1000000), (0, 1000000), (0, 1000)], [(0, 3), (0, 1), (0, 1000000000)], [(0, 3), (0, 1000000)], [(0, 1000)], [(1, 600)], [(0, 31)], [(0, 31)], [], [(0, 3)], [], [(0, 3)], [(0, 3)], [(0, 3)], [], [(1, 600), (0, 3)]]
def sat : List (Int × Int) := [(1, 0), (2, 0), (5, 0), (6, 0), (12, 0), (14, 0), (15, 0), (16, 0), (18, 1)]
theorem Dec.lt {p : Nat} {l : List Int} {c : Call} (h : Dec p l c) : p < 19 := by cases h <;> decide
theorem Dec.row {p : Nat} {l : List Int} {c : Call} (h : Dec p l c) : ∃ r, rws[p]? = some r ∧ r.length = l.length := by cases h <;> exact ⟨_, rfl, rfl⟩
/-- which solute a call names -/
def named : Call → Option Int
  | .share j _ => some j
  | .fresh j _ => some j
  | .dose j _ _ => some j
  | .produce j _ => some j
  | .totals j => some j
  | .extraction j => some j
  | .reduction j => some j
  | .profile j => some j
  | .would _ j => some j
  | _ => none
def missing (c : Call) (k : Nat) : Bool := match named c with
  | none => false
  | some j => decide ((k : Int) ≤ j)
theorem Dec.at_ {p : Nat} {l : List Int} {c : Call} (h : Dec p l c) : (sat.lookup (p : Int) = none ∧ named c = none) ∨ ∃ (i : Nat) (j : Int), sat.lookup (p : Int) = some (i : Int) ∧ l[i]? = some j ∧ named c = some j := by
  cases h
  case lay => exact .inl ⟨by decide, rfl⟩
  case share => exact .inr ⟨0, _, by decide, rfl, rfl⟩
  case fresh => exact .inr ⟨0, _, by decide, rfl, rfl⟩
  case rates => exact .inl ⟨by decide, rfl⟩
  case pool => exact .inl ⟨by decide, rfl⟩
  case dose => exact .inr ⟨0, _, by decide, rfl, rfl⟩
  case produce => exact .inr ⟨0, _, by decide, rfl, rfl⟩
  case round => exact .inl ⟨by decide, rfl⟩
  case tick => exact .inl ⟨by decide, rfl⟩
  case blood => exact .inl ⟨by decide, rfl⟩
  case bath => exact .inl ⟨by decide, rfl⟩
  case patient => exact .inl ⟨by decide, rfl⟩
  case totals => exact .inr ⟨0, _, by decide, rfl, rfl⟩
  case mark => exact .inl ⟨by decide, rfl⟩
  case extraction => exact .inr ⟨0, _, by decide, rfl, rfl⟩
  case reduction => exact .inr ⟨0, _, by decide, rfl, rfl⟩
  case profile => exact .inr ⟨0, _, by decide, rfl, rfl⟩
  case look => exact .inl ⟨by decide, rfl⟩
  case would => exact .inr ⟨1, _, by decide, rfl, rfl⟩
/-- each number within its row -/
def InRow (r : List (Int × Int)) (l : List Int) : Prop := ∀ (i : Nat) (b : Int × Int) (x : Int), r[i]? = some b → l[i]? = some x → b.1 ≤ x ∧ x ≤ b.2
theorem inRow_nil {l : List Int} : InRow [] l := fun i b x h => by simp at h
theorem inRow_cons {b : Int × Int} {r : List (Int × Int)} {x : Int} {l : List Int} : InRow (b :: r) (x :: l) ↔ (b.1 ≤ x ∧ x ≤ b.2) ∧ InRow r l := by
  constructor
  · intro h
    exact ⟨h 0 b x rfl rfl, fun i => h (i + 1)⟩
  · intro h i c y h1 h2
    cases i with
    | zero => cases h1; cases h2; exact h.1
    | succ i => exact h.2 i c y h1 h2
theorem Dec.range {p : Nat} {l : List Int} {c : Call} {r : List (Int × Int)} (h : Dec p l c) (hr : rws[p]? = some r) (h3 : p ≠ 3) : ranges c = true ↔ InRow r l := by
  cases h <;> cases hr <;> simp only [ranges, inRow_cons, inRow_nil, Bool.and_eq_true, within_iff, and_true, TICKS] <;> first | rfl | omega | exact absurd rfl h3
theorem Dec.range3 {l : List Int} {c : Call} {r : List (Int × Int)} (h : Dec 3 l c) (hr : rws[3]? = some r) : ∃ a b x d, l = [a, b, x, d] ∧ (ranges c = true ↔ InRow r l ∧ a ≤ b ∧ x ≤ d) := by
  cases h
  cases hr
  refine ⟨_, _, _, _, rfl, ?_⟩
  simp only [ranges, inRow_cons, inRow_nil, Bool.and_eq_true, within_iff, and_true]
  omega
theorem Dec.lay0 {p : Nat} {l : List Int} {c : Call} (h : Dec p l c) : isLay c = decide (p = 0) := by cases h <;> rfl
/-! refusals -/
theorem step_out {s : St} {c : Call} (h : ranges c = false) : step s c = (s, [-1]) := by
  unfold step
  simp only [if_pos h]
theorem step_unlaid {s : St} {c : Call} (h : ranges c = true) (h1 : s.laid = false) (h2 : isLay c = false) : step s c = (s, [-2]) := by
  unfold step
  have n : ¬ ranges c = false := by rw [h]; decide
  simp only [if_neg n]
  rw [if_pos ⟨h1, h2⟩]
theorem step_missing {s : St} {c : Call} (h : ranges c = true) (hl : s.laid = true) (hm : missing c s.solutes.length = true) : step s c = (s, [-3]) := by
  have n : ¬ ranges c = false := by rw [h]; decide
  have q : ∀ (j : Int) (g : Solute → St × List Int), ((s.solutes.length : Int) ≤ j) → onSolute s j g = (s, [-3]) := fun j g hj => by
    unfold onSolute
    rw [List.getElem?_eq_none (by omega)]
  unfold missing at hm
  cases c <;> simp only [named, Bool.false_eq_true, decide_eq_true_eq] at hm <;> unfold step <;> simp only [if_neg n, hl, Bool.true_eq_false, false_and, if_false] <;> exact q _ _ hm
/-- a solute that is named is there -/
theorem there {s : St} {c : Call} {j : Int} (h : missing c s.solutes.length = false) (hn : named c = some j) (h0 : 0 ≤ j) : ∃ (J : Nat) (x : Solute), j = J ∧ s.solutes[J]? = some x := by
  unfold missing at h
  rw [hn] at h
  have h : ¬ (s.solutes.length : Int) ≤ j := of_decide_eq_false h
  refine ⟨j.toNat, s.solutes[j.toNat]'(by omega), by omega, List.getElem?_eq_getElem _⟩
/-! lengths of answers -/
theorem nats_len (l : List Nat) : (nats l).length = l.length := List.length_map _
theorem flat2_len : ∀ l : List Solute, (l.flatMap fun x => [x.m1, x.m2]).length = 2 * l.length
  | [] => rfl
  | a :: l => by rw [List.flatMap_cons, List.length_append, flat2_len l]; show 2 + 2 * l.length = 2 * (l.length + 1); omega
theorem step_len {s : St} {c : Call} (h : StOk s) : (step s c).2.length ≤ 64 := by
  have one : ∀ (s : St) (n : Int), ((s, [n]).2 : List Int).length ≤ 64 := fun _ _ => (by decide : 1 ≤ 64)
  have on : ∀ (j : Int) (g : Solute → St × List Int), (∀ x ∈ s.solutes, (g x).2.length ≤ 64) → (onSolute s j g).2.length ≤ 64 := fun j g hg => by
    unfold onSolute
    split
    · exact one _ _
    · exact hg _ (List.mem_of_getElem? (by assumption))
  have rat : ∀ (s : St) (a b c : Nat), ((s, ratio a b c).2 : List Int).length ≤ 64 := fun _ _ _ _ => (by decide : 3 ≤ 64)
  have tot : ∀ (s : St) (x : Solute), ((s, soluteTotals x).2 : List Int).length ≤ 64 := fun _ _ => (by decide : 9 ≤ 64)
  have few := h.few
  by_cases hr : ranges c = false
  · rw [step_out hr]; exact one _ _
  have hr : ranges c = true := by simpa using hr
  by_cases hl : s.laid = false ∧ isLay c = false
  · rw [step_unlaid hr hl.1 hl.2]; exact one _ _
  have F : isLay c = false → s.laid = true := fun e => by
    cases q : s.laid with
    | true => rfl
    | false => exact absurd ⟨q, e⟩ hl
  unfold step
  have n : ¬ ranges c = false := by rw [hr]; decide
  simp only [if_neg n]
  rw [if_neg hl]
  cases c with
  | lay n b d k a =>
    simp only
    split
    · exact one _ _
    split
    · exact one _ _
    · exact one _ _
  | share j v => exact on _ _ fun x hx => one _ _
  | fresh j v => exact on _ _ fun x hx => one _ _
  | rates a b c d => exact one _ _
  | pool a b x => simp only; split <;> exact one _ _
  | dose j w m => exact on _ _ fun x hx => by split <;> exact one _ _
  | produce j g => exact on _ _ fun x hx => one _ _
  | round r => exact one _ _
  | tick n => simp only; split <;> exact one _ _
  | blood i =>
    simp only
    split
    · exact one _ _
    · show (nats _).length ≤ 64
      rw [nats_len, List.length_map]
      omega
  | bath i =>
    simp only
    split
    · exact one _ _
    · show (nats _).length ≤ 64
      rw [nats_len, List.length_map]
      omega
  | patient =>
    show (nats _).length ≤ 64
    rw [nats_len, flat2_len]
    omega
  | totals j => exact on _ _ fun x hx => tot _ _
  | mark => exact one _ _
  | extraction j => exact on _ _ fun x hx => by split <;> first | exact one _ _ | exact rat _ _ _ _
  | reduction j => exact on _ _ fun x hx => by split <;> first | exact one _ _ | exact rat _ _ _ _
  | profile j =>
    refine on _ _ fun x hx => ?_
    show (nats (x.blood ++ x.bath)).length ≤ 64
    have q := h.so x hx
    have q1 := q.bl
    have q2 := q.ba
    have q3 := (h.fo (F rfl)).n32
    rw [nats_len, List.length_append]
    omega
  | look => exact (by decide : 11 ≤ 64)
  | would n j => exact on _ _ fun x hx => by split <;> first | exact one _ _ | exact tot _ _
/-! the list handed in -/
theorem shape_dec {p : Int} {n k : Nat} {l : List Int} (h : PyVbdlan.shape p = some (n, k)) (hl : l.length = n) : k = 0 ∧ ∃ (q : Nat) (c : Call), p = q ∧ Dec q l c ∧ decode (p :: l) = some c := by
  by_cases e0 : p = 0
  · subst e0
    have h : some ((5, 0) : Nat × Nat) = some (n, k) := h
    cases h
    exact ⟨rfl, match l, hl with | [a, b, c, d, e], _ => ⟨0, _, rfl, Dec.lay a b c d e, rfl⟩⟩
  by_cases e1 : p = 1
  · subst e1
    have h : some ((2, 0) : Nat × Nat) = some (n, k) := h
    cases h
    exact ⟨rfl, match l, hl with | [a, b], _ => ⟨1, _, rfl, Dec.share a b, rfl⟩⟩
  by_cases e2 : p = 2
  · subst e2
    have h : some ((2, 0) : Nat × Nat) = some (n, k) := h
    cases h
    exact ⟨rfl, match l, hl with | [a, b], _ => ⟨2, _, rfl, Dec.fresh a b, rfl⟩⟩
  by_cases e3 : p = 3
  · subst e3
    have h : some ((4, 0) : Nat × Nat) = some (n, k) := h
    cases h
    exact ⟨rfl, match l, hl with | [a, b, c, d], _ => ⟨3, _, rfl, Dec.rates a b c d, rfl⟩⟩
  by_cases e4 : p = 4
  · subst e4
    have h : some ((3, 0) : Nat × Nat) = some (n, k) := h
    cases h
    exact ⟨rfl, match l, hl with | [a, b, c], _ => ⟨4, _, rfl, Dec.pool a b c, rfl⟩⟩
  by_cases e5 : p = 5
  · subst e5
    have h : some ((3, 0) : Nat × Nat) = some (n, k) := h
    cases h
    exact ⟨rfl, match l, hl with | [a, b, c], _ => ⟨5, _, rfl, Dec.dose a b c, rfl⟩⟩
  by_cases e6 : p = 6
  · subst e6
    have h : some ((2, 0) : Nat × Nat) = some (n, k) := h
    cases h
    exact ⟨rfl, match l, hl with | [a, b], _ => ⟨6, _, rfl, Dec.produce a b, rfl⟩⟩
  by_cases e7 : p = 7
  · subst e7
    have h : some ((1, 0) : Nat × Nat) = some (n, k) := h
    cases h
    exact ⟨rfl, match l, hl with | [a], _ => ⟨7, _, rfl, Dec.round a, rfl⟩⟩
  by_cases e8 : p = 8
  · subst e8
    have h : some ((1, 0) : Nat × Nat) = some (n, k) := h
    cases h
    exact ⟨rfl, match l, hl with | [a], _ => ⟨8, _, rfl, Dec.tick a, rfl⟩⟩
  by_cases e9 : p = 9
  · subst e9
    have h : some ((1, 0) : Nat × Nat) = some (n, k) := h
    cases h
    exact ⟨rfl, match l, hl with | [a], _ => ⟨9, _, rfl, Dec.blood a, rfl⟩⟩
  by_cases e10 : p = 10
  · subst e10
    have h : some ((1, 0) : Nat × Nat) = some (n, k) := h
    cases h
    exact ⟨rfl, match l, hl with | [a], _ => ⟨10, _, rfl, Dec.bath a, rfl⟩⟩
  by_cases e11 : p = 11
  · subst e11
    have h : some ((0, 0) : Nat × Nat) = some (n, k) := h
    cases h
    exact ⟨rfl, match l, hl with | [], _ => ⟨11, _, rfl, Dec.patient, rfl⟩⟩
  by_cases e12 : p = 12
  · subst e12
    have h : some ((1, 0) : Nat × Nat) = some (n, k) := h
    cases h
    exact ⟨rfl, match l, hl with | [a], _ => ⟨12, _, rfl, Dec.totals a, rfl⟩⟩
  by_cases e13 : p = 13
  · subst e13
    have h : some ((0, 0) : Nat × Nat) = some (n, k) := h
    cases h
    exact ⟨rfl, match l, hl with | [], _ => ⟨13, _, rfl, Dec.mark, rfl⟩⟩
  by_cases e14 : p = 14
  · subst e14
    have h : some ((1, 0) : Nat × Nat) = some (n, k) := h
    cases h
    exact ⟨rfl, match l, hl with | [a], _ => ⟨14, _, rfl, Dec.extraction a, rfl⟩⟩
  by_cases e15 : p = 15
  · subst e15
    have h : some ((1, 0) : Nat × Nat) = some (n, k) := h
    cases h
    exact ⟨rfl, match l, hl with | [a], _ => ⟨15, _, rfl, Dec.reduction a, rfl⟩⟩
  by_cases e16 : p = 16
  · subst e16
    have h : some ((1, 0) : Nat × Nat) = some (n, k) := h
    cases h
    exact ⟨rfl, match l, hl with | [a], _ => ⟨16, _, rfl, Dec.profile a, rfl⟩⟩
  by_cases e17 : p = 17
  · subst e17
    have h : some ((0, 0) : Nat × Nat) = some (n, k) := h
    cases h
    exact ⟨rfl, match l, hl with | [], _ => ⟨17, _, rfl, Dec.look, rfl⟩⟩
  by_cases e18 : p = 18
  · subst e18
    have h : some ((2, 0) : Nat × Nat) = some (n, k) := h
    cases h
    exact ⟨rfl, match l, hl with | [a, b], _ => ⟨18, _, rfl, Dec.would a b, rfl⟩⟩
  unfold PyVbdlan.shape at h
  simp only [if_neg e0, if_neg e1, if_neg e2, if_neg e3, if_neg e4, if_neg e5, if_neg e6, if_neg e7, if_neg e8, if_neg e9, if_neg e10, if_neg e11, if_neg e12, if_neg e13, if_neg e14, if_neg e15, if_neg e16, if_neg e17, if_neg e18] at h
  cases h
theorem whole_eq (c : List (List Int)) : PyVbdlan.whole c = c := by
  unfold PyVbdlan.whole
  split <;> rfl
theorem wholes_eq (cs : List (List (List Int))) : cs.map PyVbdlan.whole = cs := by
  have : PyVbdlan.whole = id := funext whole_eq
  rw [this, List.map_id]
/-- one call more -/
theorem calls_cons {f : Nat} {p : Int} {r : List Int} {cs : List (List (List Int))} (h : PyFlat.calls PyVbdlan.shape f (p :: r) = some cs) :
    ∃ (q n g : Nat) (c : Call) (ds : List (List (List Int))), p = q ∧ n ≤ r.length ∧ Dec q (r.take n) c ∧ cs = [p :: r.take n] :: ds ∧ PyFlat.calls PyVbdlan.shape g (r.drop n) = some ds ∧ ∀ s, VbdlanNeutral.step s [p :: r.take n] = step s c := by
  cases f with
  | zero => cases h
  | succ f =>
    unfold PyFlat.calls at h
    cases e : PyFlat.call PyVbdlan.shape (p :: r) with
    | none => rw [e] at h; cases h
    | some ct =>
      obtain ⟨c0, t⟩ := ct
      rw [e] at h
      simp only at h
      cases e2 : PyFlat.calls PyVbdlan.shape f t with
      | none => rw [e2] at h; cases h
      | some ds =>
        rw [e2] at h
        have h := Option.some.inj h
        unfold PyFlat.call at e
        simp only at e
        cases e3 : PyVbdlan.shape p with
        | none => rw [e3] at e; cases e
        | some nk =>
          obtain ⟨n, k⟩ := nk
          rw [e3] at e
          simp only at e
          by_cases hn : r.length < n
          · rw [if_pos hn] at e; cases e
          · rw [if_neg hn] at e
            have hl : (r.take n).length = n := by rw [List.length_take]; omega
            obtain ⟨k0, q, c, hp, hd, hc⟩ := shape_dec e3 hl
            subst k0
            simp only [PyFlat.rows] at e
            have e := Option.some.inj e
            cases e
            refine ⟨q, n, f, c, ds, hp, by omega, hd, h.symm, e2, fun s => ?_⟩
            unfold VbdlanNeutral.step stepRaw
            show (match decode (p :: r.take n) with | none => _ | some c => _) = _
            rw [hc]
theorem answers_eq {l : List Int} (h : PyVbdlan.answers_asked l = true) : ∃ cs, PyFlat.calls PyVbdlan.shape l.length l = some cs ∧ cs.length ≤ 400 ∧ PyVbdlan.answers l = PyFlat.told (PyFlat.played VbdlanNeutral.step start cs) := by
  unfold PyVbdlan.answers_asked at h
  unfold PyVbdlan.answers
  unfold PyVbdlan.calls at h ⊢
  cases e : PyFlat.calls PyVbdlan.shape l.length l with
  | none => rw [e] at h; cases h
  | some cs =>
    rw [e] at h
    simp only [wholes_eq, Bool.and_eq_true] at h ⊢
    refine ⟨cs, rfl, ?_, rfl⟩
    have q := h.1
    unfold PyFlat.atMost at q
    exact of_decide_eq_true q
theorem told_cons (a : List Int) (l : List (List Int)) : PyFlat.told (a :: l) = (a.length : Int) :: a ++ PyFlat.told l := List.flatMap_cons
/-! the greatest common divisor -/
theorem gcd_next {a b : Nat} (h : 0 < b) : Nat.gcd a b = Nat.gcd b (a % b) := by
  rw [Nat.gcd_comm, Nat.gcd_rec, Nat.gcd_comm]
end Bb

set_option Elab.async false
set_option linter.all false
set_option maxRecDepth 100000
namespace L3
open PySem PySem.Spec PyProof.Rows L2
/-! tables of the text's top -/
def TupK (K : PySem.W.Frag) (a : Addr) (xs : List V) : Prop :=
  ∃ (o : Obj) (its : Array Value) (n : Nat), K.lookup a = some o ∧ o.cls = .type "tuple" ∧ o.data = .seq its n ∧ its.size ≤ sizeLine ∧ Vals xs its.toList
theorem TupK.sq {K : PySem.W.Frag} {a : Addr} {xs : List V} {H : Hp} (h : TupK K a xs) : SqT K H a xs := .inr h
def Pr (K : PySem.W.Frag) (a : Addr) (p : Int × Int) : Prop := TupK K a [.int p.1, .int p.2]
def Row (K : PySem.W.Frag) (a : Addr) (r : List (Int × Int)) : Prop := ∃ as : List Addr, TupK K a (as.map V.ref) ∧ Paired (Pr K) as r
def Tab (K : PySem.W.Frag) (a : Addr) (t : List (List (Int × Int))) : Prop := ∃ as : List Addr, TupK K a (as.map V.ref) ∧ Paired (Row K) as t
end L3
namespace Bb
open PySem PySem.Spec PyProof.Rows L2 L3
def topS (i : Nat) : Stmt := PySem.Challenge.pw_bloodbath_s01_answers.main.body.getD i (.Pass ⟨0, 0, 0, 0⟩)
abbrev s_crossing : Stmt := topS 1
theorem sc_crossing : FnScope ["a", "v", "b", "w", "z"] ["a", "v", "b", "w", "z"] (defScope s_crossing) := ⟨rfl, rfl, rfl, by decide +kernel, rfl, by decide +kernel, by decide +kernel⟩
abbrev s_Solute_init : Stmt := inClass (topS 2) 0
theorem sc_Solute_init : FnScope ["self"] ["self"] (defScope s_Solute_init) := ⟨rfl, rfl, rfl, by decide +kernel, rfl, by decide +kernel, by decide +kernel⟩
abbrev s_Solute_lay_cells : Stmt := inClass (topS 2) 1
theorem sc_Solute_lay_cells : FnScope ["self", "cells"] ["self", "cells"] (defScope s_Solute_lay_cells) := ⟨rfl, rfl, rfl, by decide +kernel, rfl, by decide +kernel, by decide +kernel⟩
abbrev s_Solute_dose : Stmt := inClass (topS 2) 2
theorem sc_Solute_dose : FnScope ["self", "which", "mass"] ["self", "which", "mass"] (defScope s_Solute_dose) := ⟨rfl, rfl, rfl, by decide +kernel, rfl, by decide +kernel, by decide +kernel⟩
abbrev s_Solute_mark : Stmt := inClass (topS 2) 3
theorem sc_Solute_mark : FnScope ["self"] ["self"] (defScope s_Solute_mark) := ⟨rfl, rfl, rfl, by decide +kernel, rfl, by decide +kernel, by decide +kernel⟩
abbrev s_Solute_totals : Stmt := inClass (topS 2) 4
theorem sc_Solute_totals : FnScope ["self", "counted"] ["self"] (defScope s_Solute_totals) := ⟨rfl, rfl, rfl, by decide +kernel, rfl, by decide +kernel, by decide +kernel⟩
abbrev s_Solute_twin : Stmt := inClass (topS 2) 5
theorem sc_Solute_twin : FnScope ["self", "other"] ["self"] (defScope s_Solute_twin) := ⟨rfl, rfl, rfl, by decide +kernel, rfl, by decide +kernel, by decide +kernel⟩
abbrev s_Solute_tick : Stmt := inClass (topS 2) 6
theorem sc_Solute_tick : FnScope ["self", "device", "blood_moves", "bath_moves"] ["self", "device", "blood_moves", "bath_moves"] (defScope s_Solute_tick) := ⟨rfl, rfl, rfl, by decide +kernel, rfl, by decide +kernel, by decide +kernel⟩
abbrev s_Solute_mix_pools : Stmt := inClass (topS 2) 7
theorem sc_Solute_mix_pools : FnScope ["self", "device", "gone"] ["self", "device"] (defScope s_Solute_mix_pools) := ⟨rfl, rfl, rfl, by decide +kernel, rfl, by decide +kernel, by decide +kernel⟩
abbrev s_Solute_move_blood : Stmt := inClass (topS 2) 8
theorem sc_Solute_move_blood : FnScope ["self", "device", "last", "again", "volume", "drawn"] ["self", "device"] (defScope s_Solute_move_blood) := ⟨rfl, rfl, rfl, by decide +kernel, rfl, by decide +kernel, by decide +kernel⟩
abbrev s_Solute_move_bath : Stmt := inClass (topS 2) 9
theorem sc_Solute_move_bath : FnScope ["self", "along"] ["self", "along"] (defScope s_Solute_move_bath) := ⟨rfl, rfl, rfl, by decide +kernel, rfl, by decide +kernel, by decide +kernel⟩
abbrev s_Solute_cross_membrane : Stmt := inClass (topS 2) 10
theorem sc_Solute_cross_membrane : FnScope ["self", "device", "blood", "bath", "i", "gone"] ["self", "device"] (defScope s_Solute_cross_membrane) := ⟨rfl, rfl, rfl, by decide +kernel, rfl, by decide +kernel, by decide +kernel⟩
abbrev s_Rate_init : Stmt := inClass (topS 19) 0
theorem sc_Rate_init : FnScope ["self", "times", "span"] ["self", "times", "span"] (defScope s_Rate_init) := ⟨rfl, rfl, rfl, by decide +kernel, rfl, by decide +kernel, by decide +kernel⟩
abbrev s_Rate_restart : Stmt := inClass (topS 19) 1
theorem sc_Rate_restart : FnScope ["self"] ["self"] (defScope s_Rate_restart) := ⟨rfl, rfl, rfl, by decide +kernel, rfl, by decide +kernel, by decide +kernel⟩
abbrev s_Rate_gather : Stmt := inClass (topS 19) 2
theorem sc_Rate_gather : FnScope ["self"] ["self"] (defScope s_Rate_gather) := ⟨rfl, rfl, rfl, by decide +kernel, rfl, by decide +kernel, by decide +kernel⟩
abbrev s_Rate_twin : Stmt := inClass (topS 19) 3
theorem sc_Rate_twin : FnScope ["self", "other"] ["self"] (defScope s_Rate_twin) := ⟨rfl, rfl, rfl, by decide +kernel, rfl, by decide +kernel, by decide +kernel⟩
abbrev s_Device_init : Stmt := inClass (topS 20) 0
theorem sc_Device_init : FnScope ["self"] ["self"] (defScope s_Device_init) := ⟨rfl, rfl, rfl, by decide +kernel, rfl, by decide +kernel, by decide +kernel⟩
abbrev s_lay : Stmt := topS 21
theorem sc_lay : FnScope ["device", "given", "solute"] ["device", "given"] (defScope s_lay) := ⟨rfl, rfl, rfl, by decide +kernel, rfl, by decide +kernel, by decide +kernel⟩
abbrev s_set_share : Stmt := topS 22
theorem sc_set_share : FnScope ["device", "given", "solute"] ["device", "given"] (defScope s_set_share) := ⟨rfl, rfl, rfl, by decide +kernel, rfl, by decide +kernel, by decide +kernel⟩
abbrev s_set_fresh : Stmt := topS 23
theorem sc_set_fresh : FnScope ["device", "given", "solute"] ["device", "given"] (defScope s_set_fresh) := ⟨rfl, rfl, rfl, by decide +kernel, rfl, by decide +kernel, by decide +kernel⟩
abbrev s_set_rates : Stmt := topS 24
theorem sc_set_rates : FnScope ["device", "given"] ["device", "given"] (defScope s_set_rates) := ⟨rfl, rfl, rfl, by decide +kernel, rfl, by decide +kernel, by decide +kernel⟩
abbrev s_set_pools : Stmt := topS 25
theorem sc_set_pools : FnScope ["device", "given"] ["device", "given"] (defScope s_set_pools) := ⟨rfl, rfl, rfl, by decide +kernel, rfl, by decide +kernel, by decide +kernel⟩
abbrev s_give_dose : Stmt := topS 26
theorem sc_give_dose : FnScope ["device", "given", "solute"] ["device", "given"] (defScope s_give_dose) := ⟨rfl, rfl, rfl, by decide +kernel, rfl, by decide +kernel, by decide +kernel⟩
abbrev s_set_growth : Stmt := topS 27
theorem sc_set_growth : FnScope ["device", "given", "solute"] ["device", "given"] (defScope s_set_growth) := ⟨rfl, rfl, rfl, by decide +kernel, rfl, by decide +kernel, by decide +kernel⟩
abbrev s_set_round : Stmt := topS 28
theorem sc_set_round : FnScope ["device", "given"] ["device", "given"] (defScope s_set_round) := ⟨rfl, rfl, rfl, by decide +kernel, rfl, by decide +kernel, by decide +kernel⟩
abbrev s_pass_ticks : Stmt := topS 29
theorem sc_pass_ticks : FnScope ["device", "solutes", "blood_rate", "bath_rate", "ticks", "turn", "blood_moves", "bath_moves", "solute"] ["device", "solutes", "blood_rate", "bath_rate", "ticks"] (defScope s_pass_ticks) := ⟨rfl, rfl, rfl, by decide +kernel, rfl, by decide +kernel, by decide +kernel⟩
abbrev s_run_ticks : Stmt := topS 30
theorem sc_run_ticks : FnScope ["device", "given"] ["device", "given"] (defScope s_run_ticks) := ⟨rfl, rfl, rfl, by decide +kernel, rfl, by decide +kernel, by decide +kernel⟩
abbrev s_tell_blood : Stmt := topS 31
theorem sc_tell_blood : FnScope ["device", "given", "solute"] ["device", "given"] (defScope s_tell_blood) := ⟨rfl, rfl, rfl, by decide +kernel, rfl, by decide +kernel, by decide +kernel⟩
abbrev s_tell_bath : Stmt := topS 32
theorem sc_tell_bath : FnScope ["device", "given", "solute"] ["device", "given"] (defScope s_tell_bath) := ⟨rfl, rfl, rfl, by decide +kernel, rfl, by decide +kernel, by decide +kernel⟩
abbrev s_tell_patient : Stmt := topS 33
theorem sc_tell_patient : FnScope ["device", "given", "told", "solute"] ["device", "given"] (defScope s_tell_patient) := ⟨rfl, rfl, rfl, by decide +kernel, rfl, by decide +kernel, by decide +kernel⟩
abbrev s_tell_totals : Stmt := topS 34
theorem sc_tell_totals : FnScope ["device", "given", "solute"] ["device", "given"] (defScope s_tell_totals) := ⟨rfl, rfl, rfl, by decide +kernel, rfl, by decide +kernel, by decide +kernel⟩
abbrev s_set_mark : Stmt := topS 35
theorem sc_set_mark : FnScope ["device", "given", "solute"] ["device", "given"] (defScope s_set_mark) := ⟨rfl, rfl, rfl, by decide +kernel, rfl, by decide +kernel, by decide +kernel⟩
abbrev s_common_divisor : Stmt := topS 36
theorem sc_common_divisor : FnScope ["a", "b", "rest"] ["a", "b"] (defScope s_common_divisor) := ⟨rfl, rfl, rfl, by decide +kernel, rfl, by decide +kernel, by decide +kernel⟩
abbrev s_share_gone : Stmt := topS 37
theorem sc_share_gone : FnScope ["before", "now", "gone", "common"] ["before", "now"] (defScope s_share_gone) := ⟨rfl, rfl, rfl, by decide +kernel, rfl, by decide +kernel, by decide +kernel⟩
abbrev s_tell_extraction : Stmt := topS 38
theorem sc_tell_extraction : FnScope ["device", "given", "solute"] ["device", "given"] (defScope s_tell_extraction) := ⟨rfl, rfl, rfl, by decide +kernel, rfl, by decide +kernel, by decide +kernel⟩
abbrev s_tell_reduction : Stmt := topS 39
theorem sc_tell_reduction : FnScope ["device", "given", "solute"] ["device", "given"] (defScope s_tell_reduction) := ⟨rfl, rfl, rfl, by decide +kernel, rfl, by decide +kernel, by decide +kernel⟩
abbrev s_tell_profile : Stmt := topS 40
theorem sc_tell_profile : FnScope ["device", "given", "solute"] ["device", "given"] (defScope s_tell_profile) := ⟨rfl, rfl, rfl, by decide +kernel, rfl, by decide +kernel, by decide +kernel⟩
abbrev s_tell_look : Stmt := topS 41
theorem sc_tell_look : FnScope ["device", "given", "laid", "so_far"] ["device", "given"] (defScope s_tell_look) := ⟨rfl, rfl, rfl, by decide +kernel, rfl, by decide +kernel, by decide +kernel⟩
abbrev s_tell_would : Stmt := topS 42
theorem sc_tell_would : FnScope ["device", "given", "solute"] ["device", "given"] (defScope s_tell_would) := ⟨rfl, rfl, rfl, by decide +kernel, rfl, by decide +kernel, by decide +kernel⟩
abbrev s_in_range : Stmt := topS 44
theorem sc_in_range : FnScope ["place", "given", "bounds", "i"] ["place", "given"] (defScope s_in_range) := ⟨rfl, rfl, rfl, by decide +kernel, rfl, by decide +kernel, by decide +kernel⟩
abbrev s_names_missing_solute : Stmt := topS 45
theorem sc_names_missing_solute : FnScope ["device", "place", "given"] ["device", "place", "given"] (defScope s_names_missing_solute) := ⟨rfl, rfl, rfl, by decide +kernel, rfl, by decide +kernel, by decide +kernel⟩
abbrev s_answer : Stmt := topS 46
theorem sc_answer : FnScope ["device", "place", "given"] ["device", "place", "given"] (defScope s_answer) := ⟨rfl, rfl, rfl, by decide +kernel, rfl, by decide +kernel, by decide +kernel⟩
abbrev s_answers : Stmt := topS 47
theorem sc_answers : FnScope ["calls", "device", "told", "at", "behind", "numbers"] ["calls"] (defScope s_answers) := ⟨rfl, rfl, rfl, by decide +kernel, rfl, by decide +kernel, by decide +kernel⟩
structure Adr where
  C_Solute : Addr
  C_Rate : Addr
  C_Device : Addr
  f_crossing : Addr
  d_crossing : FuncData
  f_Solute_init : Addr
  d_Solute_init : FuncData
  f_Solute_lay_cells : Addr
  d_Solute_lay_cells : FuncData
  f_Solute_dose : Addr
  d_Solute_dose : FuncData
  f_Solute_mark : Addr
  d_Solute_mark : FuncData
  f_Solute_totals : Addr
  d_Solute_totals : FuncData
  f_Solute_twin : Addr
  d_Solute_twin : FuncData
  f_Solute_tick : Addr
  d_Solute_tick : FuncData
  f_Solute_mix_pools : Addr
  d_Solute_mix_pools : FuncData
  f_Solute_move_blood : Addr
  d_Solute_move_blood : FuncData
  f_Solute_move_bath : Addr
  d_Solute_move_bath : FuncData
  f_Solute_cross_membrane : Addr
  d_Solute_cross_membrane : FuncData
  f_Rate_init : Addr
  d_Rate_init : FuncData
  f_Rate_restart : Addr
  d_Rate_restart : FuncData
  f_Rate_gather : Addr
  d_Rate_gather : FuncData
  f_Rate_twin : Addr
  d_Rate_twin : FuncData
  f_Device_init : Addr
  d_Device_init : FuncData
  f_lay : Addr
  d_lay : FuncData
  f_set_share : Addr
  d_set_share : FuncData
  f_set_fresh : Addr
  d_set_fresh : FuncData
  f_set_rates : Addr
  d_set_rates : FuncData
  f_set_pools : Addr
  d_set_pools : FuncData
  f_give_dose : Addr
  d_give_dose : FuncData
  f_set_growth : Addr
  d_set_growth : FuncData
  f_set_round : Addr
  d_set_round : FuncData
  f_pass_ticks : Addr
  d_pass_ticks : FuncData
  f_run_ticks : Addr
  d_run_ticks : FuncData
  f_tell_blood : Addr
  d_tell_blood : FuncData
  f_tell_bath : Addr
  d_tell_bath : FuncData
  f_tell_patient : Addr
  d_tell_patient : FuncData
  f_tell_totals : Addr
  d_tell_totals : FuncData
  f_set_mark : Addr
  d_set_mark : FuncData
  f_common_divisor : Addr
  d_common_divisor : FuncData
  f_share_gone : Addr
  d_share_gone : FuncData
  f_tell_extraction : Addr
  d_tell_extraction : FuncData
  f_tell_reduction : Addr
  d_tell_reduction : FuncData
  f_tell_profile : Addr
  d_tell_profile : FuncData
  f_tell_look : Addr
  d_tell_look : FuncData
  f_tell_would : Addr
  d_tell_would : FuncData
  f_in_range : Addr
  d_in_range : FuncData
  f_names_missing_solute : Addr
  d_names_missing_solute : FuncData
  f_answer : Addr
  d_answer : FuncData
  f_answers : Addr
  d_answers : FuncData
  r_RANGES : Addr
  r_SOLUTE_AT : Addr
  r_CALLS : Addr
structure Txt (K : PySem.W.Frag) (mg : Str → Option Value) (a : Adr) : Prop where
  cl_Solute : Cls K a.C_Solute
  mk_Solute : Mk K a.C_Solute a.f_Solute_init
  g_Solute : mg "Solute" = some (.ref a.C_Solute)
  n_Solute_share : NoAttr K a.C_Solute "share"
  n_Solute_fresh : NoAttr K a.C_Solute "fresh"
  n_Solute_growth : NoAttr K a.C_Solute "growth"
  n_Solute_pool1 : NoAttr K a.C_Solute "pool1"
  n_Solute_pool2 : NoAttr K a.C_Solute "pool2"
  n_Solute_blood : NoAttr K a.C_Solute "blood"
  n_Solute_bath : NoAttr K a.C_Solute "bath"
  n_Solute_given : NoAttr K a.C_Solute "given"
  n_Solute_produced : NoAttr K a.C_Solute "produced"
  n_Solute_come : NoAttr K a.C_Solute "come"
  n_Solute_spent : NoAttr K a.C_Solute "spent"
  n_Solute_thrown : NoAttr K a.C_Solute "thrown"
  n_Solute_went_in : NoAttr K a.C_Solute "went_in"
  n_Solute_came_out : NoAttr K a.C_Solute "came_out"
  n_Solute_at_mark : NoAttr K a.C_Solute "at_mark"
  cl_Rate : Cls K a.C_Rate
  mk_Rate : Mk K a.C_Rate a.f_Rate_init
  g_Rate : mg "Rate" = some (.ref a.C_Rate)
  n_Rate_times : NoAttr K a.C_Rate "times"
  n_Rate_span : NoAttr K a.C_Rate "span"
  n_Rate_parts : NoAttr K a.C_Rate "parts"
  cl_Device : Cls K a.C_Device
  mk_Device : Mk K a.C_Device a.f_Device_init
  g_Device : mg "Device" = some (.ref a.C_Device)
  n_Device_laid : NoAttr K a.C_Device "laid"
  n_Device_cells : NoAttr K a.C_Device "cells"
  n_Device_blood_volume : NoAttr K a.C_Device "blood_volume"
  n_Device_bath_volume : NoAttr K a.C_Device "bath_volume"
  n_Device_along : NoAttr K a.C_Device "along"
  n_Device_solutes : NoAttr K a.C_Device "solutes"
  n_Device_volume1 : NoAttr K a.C_Device "volume1"
  n_Device_volume2 : NoAttr K a.C_Device "volume2"
  n_Device_between : NoAttr K a.C_Device "between"
  n_Device_round_share : NoAttr K a.C_Device "round_share"
  n_Device_blood_rate : NoAttr K a.C_Device "blood_rate"
  n_Device_bath_rate : NoAttr K a.C_Device "bath_rate"
  n_Device_ticks : NoAttr K a.C_Device "ticks"
  F_crossing : Fun K "crossing" "crossing" s_crossing a.f_crossing a.d_crossing
  bi_crossing : Binds K a.d_crossing ["a", "v", "b", "w", "z"] []
  g_crossing : mg "crossing" = some (.ref a.f_crossing)
  F_Solute_init : Fun K "__init__" "Solute.__init__" s_Solute_init a.f_Solute_init a.d_Solute_init
  bi_Solute_init : Binds K a.d_Solute_init ["self"] []
  m_Solute_init : Meth K a.C_Solute "__init__" a.f_Solute_init
  F_Solute_lay_cells : Fun K "lay_cells" "Solute.lay_cells" s_Solute_lay_cells a.f_Solute_lay_cells a.d_Solute_lay_cells
  bi_Solute_lay_cells : Binds K a.d_Solute_lay_cells ["self", "cells"] []
  m_Solute_lay_cells : Meth K a.C_Solute "lay_cells" a.f_Solute_lay_cells
  F_Solute_dose : Fun K "dose" "Solute.dose" s_Solute_dose a.f_Solute_dose a.d_Solute_dose
  bi_Solute_dose : Binds K a.d_Solute_dose ["self", "which", "mass"] []
  m_Solute_dose : Meth K a.C_Solute "dose" a.f_Solute_dose
  F_Solute_mark : Fun K "mark" "Solute.mark" s_Solute_mark a.f_Solute_mark a.d_Solute_mark
  bi_Solute_mark : Binds K a.d_Solute_mark ["self"] []
  m_Solute_mark : Meth K a.C_Solute "mark" a.f_Solute_mark
  F_Solute_totals : Fun K "totals" "Solute.totals" s_Solute_totals a.f_Solute_totals a.d_Solute_totals
  bi_Solute_totals : Binds K a.d_Solute_totals ["self"] []
  m_Solute_totals : Meth K a.C_Solute "totals" a.f_Solute_totals
  F_Solute_twin : Fun K "twin" "Solute.twin" s_Solute_twin a.f_Solute_twin a.d_Solute_twin
  bi_Solute_twin : Binds K a.d_Solute_twin ["self"] []
  m_Solute_twin : Meth K a.C_Solute "twin" a.f_Solute_twin
  F_Solute_tick : Fun K "tick" "Solute.tick" s_Solute_tick a.f_Solute_tick a.d_Solute_tick
  bi_Solute_tick : Binds K a.d_Solute_tick ["self", "device", "blood_moves", "bath_moves"] []
  m_Solute_tick : Meth K a.C_Solute "tick" a.f_Solute_tick
  F_Solute_mix_pools : Fun K "mix_pools" "Solute.mix_pools" s_Solute_mix_pools a.f_Solute_mix_pools a.d_Solute_mix_pools
  bi_Solute_mix_pools : Binds K a.d_Solute_mix_pools ["self", "device"] []
  m_Solute_mix_pools : Meth K a.C_Solute "mix_pools" a.f_Solute_mix_pools
  F_Solute_move_blood : Fun K "move_blood" "Solute.move_blood" s_Solute_move_blood a.f_Solute_move_blood a.d_Solute_move_blood
  bi_Solute_move_blood : Binds K a.d_Solute_move_blood ["self", "device"] []
  m_Solute_move_blood : Meth K a.C_Solute "move_blood" a.f_Solute_move_blood
  F_Solute_move_bath : Fun K "move_bath" "Solute.move_bath" s_Solute_move_bath a.f_Solute_move_bath a.d_Solute_move_bath
  bi_Solute_move_bath : Binds K a.d_Solute_move_bath ["self", "along"] []
  m_Solute_move_bath : Meth K a.C_Solute "move_bath" a.f_Solute_move_bath
  F_Solute_cross_membrane : Fun K "cross_membrane" "Solute.cross_membrane" s_Solute_cross_membrane a.f_Solute_cross_membrane a.d_Solute_cross_membrane
  bi_Solute_cross_membrane : Binds K a.d_Solute_cross_membrane ["self", "device"] []
  m_Solute_cross_membrane : Meth K a.C_Solute "cross_membrane" a.f_Solute_cross_membrane
  F_Rate_init : Fun K "__init__" "Rate.__init__" s_Rate_init a.f_Rate_init a.d_Rate_init
  bi_Rate_init : Binds K a.d_Rate_init ["self", "times", "span"] []
  m_Rate_init : Meth K a.C_Rate "__init__" a.f_Rate_init
  F_Rate_restart : Fun K "restart" "Rate.restart" s_Rate_restart a.f_Rate_restart a.d_Rate_restart
  bi_Rate_restart : Binds K a.d_Rate_restart ["self"] []
  m_Rate_restart : Meth K a.C_Rate "restart" a.f_Rate_restart
  F_Rate_gather : Fun K "gather" "Rate.gather" s_Rate_gather a.f_Rate_gather a.d_Rate_gather
  bi_Rate_gather : Binds K a.d_Rate_gather ["self"] []
  m_Rate_gather : Meth K a.C_Rate "gather" a.f_Rate_gather
  F_Rate_twin : Fun K "twin" "Rate.twin" s_Rate_twin a.f_Rate_twin a.d_Rate_twin
  bi_Rate_twin : Binds K a.d_Rate_twin ["self"] []
  m_Rate_twin : Meth K a.C_Rate "twin" a.f_Rate_twin
  F_Device_init : Fun K "__init__" "Device.__init__" s_Device_init a.f_Device_init a.d_Device_init
  bi_Device_init : Binds K a.d_Device_init ["self"] []
  m_Device_init : Meth K a.C_Device "__init__" a.f_Device_init
  F_lay : Fun K "lay" "lay" s_lay a.f_lay a.d_lay
  bi_lay : Binds K a.d_lay ["device", "given"] []
  g_lay : mg "lay" = some (.ref a.f_lay)
  F_set_share : Fun K "set_share" "set_share" s_set_share a.f_set_share a.d_set_share
  bi_set_share : Binds K a.d_set_share ["device", "given"] []
  g_set_share : mg "set_share" = some (.ref a.f_set_share)
  F_set_fresh : Fun K "set_fresh" "set_fresh" s_set_fresh a.f_set_fresh a.d_set_fresh
  bi_set_fresh : Binds K a.d_set_fresh ["device", "given"] []
  g_set_fresh : mg "set_fresh" = some (.ref a.f_set_fresh)
  F_set_rates : Fun K "set_rates" "set_rates" s_set_rates a.f_set_rates a.d_set_rates
  bi_set_rates : Binds K a.d_set_rates ["device", "given"] []
  g_set_rates : mg "set_rates" = some (.ref a.f_set_rates)
  F_set_pools : Fun K "set_pools" "set_pools" s_set_pools a.f_set_pools a.d_set_pools
  bi_set_pools : Binds K a.d_set_pools ["device", "given"] []
  g_set_pools : mg "set_pools" = some (.ref a.f_set_pools)
  F_give_dose : Fun K "give_dose" "give_dose" s_give_dose a.f_give_dose a.d_give_dose
  bi_give_dose : Binds K a.d_give_dose ["device", "given"] []
  g_give_dose : mg "give_dose" = some (.ref a.f_give_dose)
  F_set_growth : Fun K "set_growth" "set_growth" s_set_growth a.f_set_growth a.d_set_growth
  bi_set_growth : Binds K a.d_set_growth ["device", "given"] []
  g_set_growth : mg "set_growth" = some (.ref a.f_set_growth)
  F_set_round : Fun K "set_round" "set_round" s_set_round a.f_set_round a.d_set_round
  bi_set_round : Binds K a.d_set_round ["device", "given"] []
  g_set_round : mg "set_round" = some (.ref a.f_set_round)
  F_pass_ticks : Fun K "pass_ticks" "pass_ticks" s_pass_ticks a.f_pass_ticks a.d_pass_ticks
  bi_pass_ticks : Binds K a.d_pass_ticks ["device", "solutes", "blood_rate", "bath_rate", "ticks"] []
  g_pass_ticks : mg "pass_ticks" = some (.ref a.f_pass_ticks)
  F_run_ticks : Fun K "run_ticks" "run_ticks" s_run_ticks a.f_run_ticks a.d_run_ticks
  bi_run_ticks : Binds K a.d_run_ticks ["device", "given"] []
  g_run_ticks : mg "run_ticks" = some (.ref a.f_run_ticks)
  F_tell_blood : Fun K "tell_blood" "tell_blood" s_tell_blood a.f_tell_blood a.d_tell_blood
  bi_tell_blood : Binds K a.d_tell_blood ["device", "given"] []
  g_tell_blood : mg "tell_blood" = some (.ref a.f_tell_blood)
  F_tell_bath : Fun K "tell_bath" "tell_bath" s_tell_bath a.f_tell_bath a.d_tell_bath
  bi_tell_bath : Binds K a.d_tell_bath ["device", "given"] []
  g_tell_bath : mg "tell_bath" = some (.ref a.f_tell_bath)
  F_tell_patient : Fun K "tell_patient" "tell_patient" s_tell_patient a.f_tell_patient a.d_tell_patient
  bi_tell_patient : Binds K a.d_tell_patient ["device", "given"] []
  g_tell_patient : mg "tell_patient" = some (.ref a.f_tell_patient)
  F_tell_totals : Fun K "tell_totals" "tell_totals" s_tell_totals a.f_tell_totals a.d_tell_totals
  bi_tell_totals : Binds K a.d_tell_totals ["device", "given"] []
  g_tell_totals : mg "tell_totals" = some (.ref a.f_tell_totals)
  F_set_mark : Fun K "set_mark" "set_mark" s_set_mark a.f_set_mark a.d_set_mark
  bi_set_mark : Binds K a.d_set_mark ["device", "given"] []
  g_set_mark : mg "set_mark" = some (.ref a.f_set_mark)
  F_common_divisor : Fun K "common_divisor" "common_divisor" s_common_divisor a.f_common_divisor a.d_common_divisor
  bi_common_divisor : Binds K a.d_common_divisor ["a", "b"] []
  g_common_divisor : mg "common_divisor" = some (.ref a.f_common_divisor)
  F_share_gone : Fun K "share_gone" "share_gone" s_share_gone a.f_share_gone a.d_share_gone
  bi_share_gone : Binds K a.d_share_gone ["before", "now"] []
  g_share_gone : mg "share_gone" = some (.ref a.f_share_gone)
  F_tell_extraction : Fun K "tell_extraction" "tell_extraction" s_tell_extraction a.f_tell_extraction a.d_tell_extraction
  bi_tell_extraction : Binds K a.d_tell_extraction ["device", "given"] []
  g_tell_extraction : mg "tell_extraction" = some (.ref a.f_tell_extraction)
  F_tell_reduction : Fun K "tell_reduction" "tell_reduction" s_tell_reduction a.f_tell_reduction a.d_tell_reduction
  bi_tell_reduction : Binds K a.d_tell_reduction ["device", "given"] []
  g_tell_reduction : mg "tell_reduction" = some (.ref a.f_tell_reduction)
  F_tell_profile : Fun K "tell_profile" "tell_profile" s_tell_profile a.f_tell_profile a.d_tell_profile
  bi_tell_profile : Binds K a.d_tell_profile ["device", "given"] []
  g_tell_profile : mg "tell_profile" = some (.ref a.f_tell_profile)
  F_tell_look : Fun K "tell_look" "tell_look" s_tell_look a.f_tell_look a.d_tell_look
  bi_tell_look : Binds K a.d_tell_look ["device", "given"] []
  g_tell_look : mg "tell_look" = some (.ref a.f_tell_look)
  F_tell_would : Fun K "tell_would" "tell_would" s_tell_would a.f_tell_would a.d_tell_would
  bi_tell_would : Binds K a.d_tell_would ["device", "given"] []
  g_tell_would : mg "tell_would" = some (.ref a.f_tell_would)
  F_in_range : Fun K "in_range" "in_range" s_in_range a.f_in_range a.d_in_range
  bi_in_range : Binds K a.d_in_range ["place", "given"] []
  g_in_range : mg "in_range" = some (.ref a.f_in_range)
  F_names_missing_solute : Fun K "names_missing_solute" "names_missing_solute" s_names_missing_solute a.f_names_missing_solute a.d_names_missing_solute
  bi_names_missing_solute : Binds K a.d_names_missing_solute ["device", "place", "given"] []
  g_names_missing_solute : mg "names_missing_solute" = some (.ref a.f_names_missing_solute)
  F_answer : Fun K "answer" "answer" s_answer a.f_answer a.d_answer
  bi_answer : Binds K a.d_answer ["device", "place", "given"] []
  g_answer : mg "answer" = some (.ref a.f_answer)
  F_answers : Fun K "answers" "answers" s_answers a.f_answers a.d_answers
  bi_answers : Binds K a.d_answers ["calls"] []
  g_answers : mg "answers" = some (.ref a.f_answers)
  g_OUT_OF_RANGE : GInt mg "OUT_OF_RANGE" (-1)
  g_NOT_LAID : GInt mg "NOT_LAID" (-2)
  g_NOT_THERE : GInt mg "NOT_THERE" (-3)
  g_FEWER_SOLUTES : GInt mg "FEWER_SOLUTES" (-4)
  g_POOL_TOO_SMALL : GInt mg "POOL_TOO_SMALL" (-5)
  g_TOO_MUCH_GIVEN : GInt mg "TOO_MUCH_GIVEN" (-6)
  g_TOO_MANY_TICKS : GInt mg "TOO_MANY_TICKS" (-7)
  g_NO_SHARE : GInt mg "NO_SHARE" (-8)
  g_MOST_GIVEN : GInt mg "MOST_GIVEN" 10000000000
  g_MOST_TICKS : GInt mg "MOST_TICKS" 20000
  g_FIRST_VOLUME : GInt mg "FIRST_VOLUME" 1000000
  g_LAY : GInt mg "LAY" 0
  g_RATES : GInt mg "RATES" 3
  g_RANGES : mg "RANGES" = some (.ref a.r_RANGES)
  t_RANGES : Tab K a.r_RANGES [[(2, 32), (1, 10000), (1, 10000), (1, 4), (0, 1)], [(0, 3), (0, 1000)], [(0, 3), (0, 1000000)], [(0, 1000), (1, 1000), (0, 1000), (1, 1000)], [(0, 1000000), (0, 1000000), (0, 1000)], [(0, 3), (0, 1), (0, 1000000000)], [(0, 3), (0, 1000000)], [(0, 1000)], [(1, 600)], [(0, 31)], [(0, 31)], [], [(0, 3)], [], [(0, 3)], [(0, 3)], [(0, 3)], [], [(1, 600), (0, 3)]]
  g_SOLUTE_AT : mg "SOLUTE_AT" = some (.ref a.r_SOLUTE_AT)
  d_SOLUTE_AT : DctK K a.r_SOLUTE_AT [(1, 0), (2, 0), (5, 0), (6, 0), (12, 0), (14, 0), (15, 0), (16, 0), (18, 1)]
  g_CALLS : mg "CALLS" = some (.ref a.r_CALLS)
  t_CALLS : TupK K a.r_CALLS [.ref a.f_lay, .ref a.f_set_share, .ref a.f_set_fresh, .ref a.f_set_rates, .ref a.f_set_pools, .ref a.f_give_dose, .ref a.f_set_growth, .ref a.f_set_round, .ref a.f_run_ticks, .ref a.f_tell_blood, .ref a.f_tell_bath, .ref a.f_tell_patient, .ref a.f_tell_totals, .ref a.f_set_mark, .ref a.f_tell_extraction, .ref a.f_tell_reduction, .ref a.f_tell_profile, .ref a.f_tell_look, .ref a.f_tell_would]
  b_len : mg "len" = none
  b_sum : mg "sum" = none
  b_range : mg "range" = none
  b_abs : mg "abs" = none
  b_list : mg "list" = none
theorem Txt.nos_Solute {K : PySem.W.Frag} {mg : Str → Option Value} {a : Adr} (T : Txt K mg a) : Cls K a.C_Solute ∧ NoAttr K a.C_Solute "share" ∧ NoAttr K a.C_Solute "fresh" ∧ NoAttr K a.C_Solute "growth" ∧ NoAttr K a.C_Solute "pool1" ∧ NoAttr K a.C_Solute "pool2" ∧ NoAttr K a.C_Solute "blood" ∧ NoAttr K a.C_Solute "bath" ∧ NoAttr K a.C_Solute "given" ∧ NoAttr K a.C_Solute "produced" ∧ NoAttr K a.C_Solute "come" ∧ NoAttr K a.C_Solute "spent" ∧ NoAttr K a.C_Solute "thrown" ∧ NoAttr K a.C_Solute "went_in" ∧ NoAttr K a.C_Solute "came_out" ∧ NoAttr K a.C_Solute "at_mark" := ⟨T.cl_Solute, T.n_Solute_share, T.n_Solute_fresh, T.n_Solute_growth, T.n_Solute_pool1, T.n_Solute_pool2, T.n_Solute_blood, T.n_Solute_bath, T.n_Solute_given, T.n_Solute_produced, T.n_Solute_come, T.n_Solute_spent, T.n_Solute_thrown, T.n_Solute_went_in, T.n_Solute_came_out, T.n_Solute_at_mark⟩
theorem Txt.nos_Rate {K : PySem.W.Frag} {mg : Str → Option Value} {a : Adr} (T : Txt K mg a) : Cls K a.C_Rate ∧ NoAttr K a.C_Rate "times" ∧ NoAttr K a.C_Rate "span" ∧ NoAttr K a.C_Rate "parts" := ⟨T.cl_Rate, T.n_Rate_times, T.n_Rate_span, T.n_Rate_parts⟩
theorem Txt.nos_Device {K : PySem.W.Frag} {mg : Str → Option Value} {a : Adr} (T : Txt K mg a) : Cls K a.C_Device ∧ NoAttr K a.C_Device "laid" ∧ NoAttr K a.C_Device "cells" ∧ NoAttr K a.C_Device "blood_volume" ∧ NoAttr K a.C_Device "bath_volume" ∧ NoAttr K a.C_Device "along" ∧ NoAttr K a.C_Device "solutes" ∧ NoAttr K a.C_Device "volume1" ∧ NoAttr K a.C_Device "volume2" ∧ NoAttr K a.C_Device "between" ∧ NoAttr K a.C_Device "round_share" ∧ NoAttr K a.C_Device "blood_rate" ∧ NoAttr K a.C_Device "bath_rate" ∧ NoAttr K a.C_Device "ticks" := ⟨T.cl_Device, T.n_Device_laid, T.n_Device_cells, T.n_Device_blood_volume, T.n_Device_bath_volume, T.n_Device_along, T.n_Device_solutes, T.n_Device_volume1, T.n_Device_volume2, T.n_Device_between, T.n_Device_round_share, T.n_Device_blood_rate, T.n_Device_bath_rate, T.n_Device_ticks⟩
end Bb

set_option Elab.async false
set_option linter.all false
set_option maxRecDepth 100000
namespace Bb
open PySem PySem.Spec PyProof.Rows L2 L3
structure SI where
  share : Int
  fresh : Int
  gen : Int
  m1 : Int
  m2 : Int
  bl : Addr
  ba : Addr
  given : Int
  produced : Int
  came : Int
  spent : Int
  thrown : Int
  win : Int
  wout : Int
  mark : Int
def sf (x : SI) : List (Str × V) := [("share", .int x.share), ("fresh", .int x.fresh), ("growth", .int x.gen), ("pool1", .int x.m1), ("pool2", .int x.m2), ("blood", .ref x.bl), ("bath", .ref x.ba), ("given", .int x.given), ("produced", .int x.produced), ("come", .int x.came), ("spent", .int x.spent), ("thrown", .int x.thrown), ("went_in", .int x.win), ("came_out", .int x.wout), ("at_mark", .int x.mark)]
theorem sf_len (x : SI) : (sf x).length = 15 := rfl
theorem sf_share (x : SI) : (sf x).lookup ("share" : Str) = some (.int x.share) := rfl
theorem sf_put_share (x : SI) (v : Int) : putF ("share" : Str) (.int v) (sf x) = sf { x with share := v } := rfl
theorem sf_fresh (x : SI) : (sf x).lookup ("fresh" : Str) = some (.int x.fresh) := rfl
theorem sf_put_fresh (x : SI) (v : Int) : putF ("fresh" : Str) (.int v) (sf x) = sf { x with fresh := v } := rfl
theorem sf_growth (x : SI) : (sf x).lookup ("growth" : Str) = some (.int x.gen) := rfl
theorem sf_put_growth (x : SI) (v : Int) : putF ("growth" : Str) (.int v) (sf x) = sf { x with gen := v } := rfl
theorem sf_pool1 (x : SI) : (sf x).lookup ("pool1" : Str) = some (.int x.m1) := rfl
theorem sf_put_pool1 (x : SI) (v : Int) : putF ("pool1" : Str) (.int v) (sf x) = sf { x with m1 := v } := rfl
theorem sf_pool2 (x : SI) : (sf x).lookup ("pool2" : Str) = some (.int x.m2) := rfl
theorem sf_put_pool2 (x : SI) (v : Int) : putF ("pool2" : Str) (.int v) (sf x) = sf { x with m2 := v } := rfl
theorem sf_blood (x : SI) : (sf x).lookup ("blood" : Str) = some (.ref x.bl) := rfl
theorem sf_put_blood (x : SI) (v : Addr) : putF ("blood" : Str) (.ref v) (sf x) = sf { x with bl := v } := rfl
theorem sf_bath (x : SI) : (sf x).lookup ("bath" : Str) = some (.ref x.ba) := rfl
theorem sf_put_bath (x : SI) (v : Addr) : putF ("bath" : Str) (.ref v) (sf x) = sf { x with ba := v } := rfl
theorem sf_given (x : SI) : (sf x).lookup ("given" : Str) = some (.int x.given) := rfl
theorem sf_put_given (x : SI) (v : Int) : putF ("given" : Str) (.int v) (sf x) = sf { x with given := v } := rfl
theorem sf_produced (x : SI) : (sf x).lookup ("produced" : Str) = some (.int x.produced) := rfl
theorem sf_put_produced (x : SI) (v : Int) : putF ("produced" : Str) (.int v) (sf x) = sf { x with produced := v } := rfl
theorem sf_come (x : SI) : (sf x).lookup ("come" : Str) = some (.int x.came) := rfl
theorem sf_put_come (x : SI) (v : Int) : putF ("come" : Str) (.int v) (sf x) = sf { x with came := v } := rfl
theorem sf_spent (x : SI) : (sf x).lookup ("spent" : Str) = some (.int x.spent) := rfl
theorem sf_put_spent (x : SI) (v : Int) : putF ("spent" : Str) (.int v) (sf x) = sf { x with spent := v } := rfl
theorem sf_thrown (x : SI) : (sf x).lookup ("thrown" : Str) = some (.int x.thrown) := rfl
theorem sf_put_thrown (x : SI) (v : Int) : putF ("thrown" : Str) (.int v) (sf x) = sf { x with thrown := v } := rfl
theorem sf_went_in (x : SI) : (sf x).lookup ("went_in" : Str) = some (.int x.win) := rfl
theorem sf_put_went_in (x : SI) (v : Int) : putF ("went_in" : Str) (.int v) (sf x) = sf { x with win := v } := rfl
theorem sf_came_out (x : SI) : (sf x).lookup ("came_out" : Str) = some (.int x.wout) := rfl
theorem sf_put_came_out (x : SI) (v : Int) : putF ("came_out" : Str) (.int v) (sf x) = sf { x with wout := v } := rfl
theorem sf_at_mark (x : SI) : (sf x).lookup ("at_mark" : Str) = some (.int x.mark) := rfl
theorem sf_put_at_mark (x : SI) (v : Int) : putF ("at_mark" : Str) (.int v) (sf x) = sf { x with mark := v } := rfl
theorem sf_no_lay_cells (x : SI) : (sf x).lookup ("lay_cells" : Str) = none := rfl
theorem sf_no_dose (x : SI) : (sf x).lookup ("dose" : Str) = none := rfl
theorem sf_no_mark (x : SI) : (sf x).lookup ("mark" : Str) = none := rfl
theorem sf_no_totals (x : SI) : (sf x).lookup ("totals" : Str) = none := rfl
theorem sf_no_twin (x : SI) : (sf x).lookup ("twin" : Str) = none := rfl
theorem sf_no_tick (x : SI) : (sf x).lookup ("tick" : Str) = none := rfl
theorem sf_no_mix_pools (x : SI) : (sf x).lookup ("mix_pools" : Str) = none := rfl
theorem sf_no_move_blood (x : SI) : (sf x).lookup ("move_blood" : Str) = none := rfl
theorem sf_no_move_bath (x : SI) : (sf x).lookup ("move_bath" : Str) = none := rfl
theorem sf_no_cross_membrane (x : SI) : (sf x).lookup ("cross_membrane" : Str) = none := rfl
theorem sf_all : (∀ (x : SI), (sf x).length = 15) ∧ (∀ (x : SI), (sf x).lookup ("share" : Str) = some (.int x.share)) ∧ (∀ (x : SI) (v : Int), putF ("share" : Str) (.int v) (sf x) = sf { x with share := v }) ∧ (∀ (x : SI), (sf x).lookup ("fresh" : Str) = some (.int x.fresh)) ∧ (∀ (x : SI) (v : Int), putF ("fresh" : Str) (.int v) (sf x) = sf { x with fresh := v }) ∧ (∀ (x : SI), (sf x).lookup ("growth" : Str) = some (.int x.gen)) ∧ (∀ (x : SI) (v : Int), putF ("growth" : Str) (.int v) (sf x) = sf { x with gen := v }) ∧ (∀ (x : SI), (sf x).lookup ("pool1" : Str) = some (.int x.m1)) ∧ (∀ (x : SI) (v : Int), putF ("pool1" : Str) (.int v) (sf x) = sf { x with m1 := v }) ∧ (∀ (x : SI), (sf x).lookup ("pool2" : Str) = some (.int x.m2)) ∧ (∀ (x : SI) (v : Int), putF ("pool2" : Str) (.int v) (sf x) = sf { x with m2 := v }) ∧ (∀ (x : SI), (sf x).lookup ("blood" : Str) = some (.ref x.bl)) ∧ (∀ (x : SI) (v : Addr), putF ("blood" : Str) (.ref v) (sf x) = sf { x with bl := v }) ∧ (∀ (x : SI), (sf x).lookup ("bath" : Str) = some (.ref x.ba)) ∧ (∀ (x : SI) (v : Addr), putF ("bath" : Str) (.ref v) (sf x) = sf { x with ba := v }) ∧ (∀ (x : SI), (sf x).lookup ("given" : Str) = some (.int x.given)) ∧ (∀ (x : SI) (v : Int), putF ("given" : Str) (.int v) (sf x) = sf { x with given := v }) ∧ (∀ (x : SI), (sf x).lookup ("produced" : Str) = some (.int x.produced)) ∧ (∀ (x : SI) (v : Int), putF ("produced" : Str) (.int v) (sf x) = sf { x with produced := v }) ∧ (∀ (x : SI), (sf x).lookup ("come" : Str) = some (.int x.came)) ∧ (∀ (x : SI) (v : Int), putF ("come" : Str) (.int v) (sf x) = sf { x with came := v }) ∧ (∀ (x : SI), (sf x).lookup ("spent" : Str) = some (.int x.spent)) ∧ (∀ (x : SI) (v : Int), putF ("spent" : Str) (.int v) (sf x) = sf { x with spent := v }) ∧ (∀ (x : SI), (sf x).lookup ("thrown" : Str) = some (.int x.thrown)) ∧ (∀ (x : SI) (v : Int), putF ("thrown" : Str) (.int v) (sf x) = sf { x with thrown := v }) ∧ (∀ (x : SI), (sf x).lookup ("went_in" : Str) = some (.int x.win)) ∧ (∀ (x : SI) (v : Int), putF ("went_in" : Str) (.int v) (sf x) = sf { x with win := v }) ∧ (∀ (x : SI), (sf x).lookup ("came_out" : Str) = some (.int x.wout)) ∧ (∀ (x : SI) (v : Int), putF ("came_out" : Str) (.int v) (sf x) = sf { x with wout := v }) ∧ (∀ (x : SI), (sf x).lookup ("at_mark" : Str) = some (.int x.mark)) ∧ (∀ (x : SI) (v : Int), putF ("at_mark" : Str) (.int v) (sf x) = sf { x with mark := v }) ∧ (∀ (x : SI), (sf x).lookup ("lay_cells" : Str) = none) ∧ (∀ (x : SI), (sf x).lookup ("dose" : Str) = none) ∧ (∀ (x : SI), (sf x).lookup ("mark" : Str) = none) ∧ (∀ (x : SI), (sf x).lookup ("totals" : Str) = none) ∧ (∀ (x : SI), (sf x).lookup ("twin" : Str) = none) ∧ (∀ (x : SI), (sf x).lookup ("tick" : Str) = none) ∧ (∀ (x : SI), (sf x).lookup ("mix_pools" : Str) = none) ∧ (∀ (x : SI), (sf x).lookup ("move_blood" : Str) = none) ∧ (∀ (x : SI), (sf x).lookup ("move_bath" : Str) = none) ∧ (∀ (x : SI), (sf x).lookup ("cross_membrane" : Str) = none) := ⟨sf_len, sf_share, sf_put_share, sf_fresh, sf_put_fresh, sf_growth, sf_put_growth, sf_pool1, sf_put_pool1, sf_pool2, sf_put_pool2, sf_blood, sf_put_blood, sf_bath, sf_put_bath, sf_given, sf_put_given, sf_produced, sf_put_produced, sf_come, sf_put_come, sf_spent, sf_put_spent, sf_thrown, sf_put_thrown, sf_went_in, sf_put_went_in, sf_came_out, sf_put_came_out, sf_at_mark, sf_put_at_mark, sf_no_lay_cells, sf_no_dose, sf_no_mark, sf_no_totals, sf_no_twin, sf_no_tick, sf_no_mix_pools, sf_no_move_blood, sf_no_move_bath, sf_no_cross_membrane⟩
theorem sf_ini_share (v0 : Int) : putF ("share" : Str) (.int v0) ([] : List (Str × V)) = [(("share" : Str), V.int v0)] := rfl
theorem sf_ini_fresh (v0 : Int) (v1 : Int) : putF ("fresh" : Str) (.int v1) ([(("share" : Str), V.int v0)] : List (Str × V)) = [(("share" : Str), V.int v0), (("fresh" : Str), V.int v1)] := rfl
theorem sf_ini_growth (v0 : Int) (v1 : Int) (v2 : Int) : putF ("growth" : Str) (.int v2) ([(("share" : Str), V.int v0), (("fresh" : Str), V.int v1)] : List (Str × V)) = [(("share" : Str), V.int v0), (("fresh" : Str), V.int v1), (("growth" : Str), V.int v2)] := rfl
theorem sf_ini_pool1 (v0 : Int) (v1 : Int) (v2 : Int) (v3 : Int) : putF ("pool1" : Str) (.int v3) ([(("share" : Str), V.int v0), (("fresh" : Str), V.int v1), (("growth" : Str), V.int v2)] : List (Str × V)) = [(("share" : Str), V.int v0), (("fresh" : Str), V.int v1), (("growth" : Str), V.int v2), (("pool1" : Str), V.int v3)] := rfl
theorem sf_ini_pool2 (v0 : Int) (v1 : Int) (v2 : Int) (v3 : Int) (v4 : Int) : putF ("pool2" : Str) (.int v4) ([(("share" : Str), V.int v0), (("fresh" : Str), V.int v1), (("growth" : Str), V.int v2), (("pool1" : Str), V.int v3)] : List (Str × V)) = [(("share" : Str), V.int v0), (("fresh" : Str), V.int v1), (("growth" : Str), V.int v2), (("pool1" : Str), V.int v3), (("pool2" : Str), V.int v4)] := rfl
theorem sf_ini_blood (v0 : Int) (v1 : Int) (v2 : Int) (v3 : Int) (v4 : Int) (v5 : Addr) : putF ("blood" : Str) (.ref v5) ([(("share" : Str), V.int v0), (("fresh" : Str), V.int v1), (("growth" : Str), V.int v2), (("pool1" : Str), V.int v3), (("pool2" : Str), V.int v4)] : List (Str × V)) = [(("share" : Str), V.int v0), (("fresh" : Str), V.int v1), (("growth" : Str), V.int v2), (("pool1" : Str), V.int v3), (("pool2" : Str), V.int v4), (("blood" : Str), V.ref v5)] := rfl
theorem sf_ini_bath (v0 : Int) (v1 : Int) (v2 : Int) (v3 : Int) (v4 : Int) (v5 : Addr) (v6 : Addr) : putF ("bath" : Str) (.ref v6) ([(("share" : Str), V.int v0), (("fresh" : Str), V.int v1), (("growth" : Str), V.int v2), (("pool1" : Str), V.int v3), (("pool2" : Str), V.int v4), (("blood" : Str), V.ref v5)] : List (Str × V)) = [(("share" : Str), V.int v0), (("fresh" : Str), V.int v1), (("growth" : Str), V.int v2), (("pool1" : Str), V.int v3), (("pool2" : Str), V.int v4), (("blood" : Str), V.ref v5), (("bath" : Str), V.ref v6)] := rfl
theorem sf_ini_given (v0 : Int) (v1 : Int) (v2 : Int) (v3 : Int) (v4 : Int) (v5 : Addr) (v6 : Addr) (v7 : Int) : putF ("given" : Str) (.int v7) ([(("share" : Str), V.int v0), (("fresh" : Str), V.int v1), (("growth" : Str), V.int v2), (("pool1" : Str), V.int v3), (("pool2" : Str), V.int v4), (("blood" : Str), V.ref v5), (("bath" : Str), V.ref v6)] : List (Str × V)) = [(("share" : Str), V.int v0), (("fresh" : Str), V.int v1), (("growth" : Str), V.int v2), (("pool1" : Str), V.int v3), (("pool2" : Str), V.int v4), (("blood" : Str), V.ref v5), (("bath" : Str), V.ref v6), (("given" : Str), V.int v7)] := rfl
theorem sf_ini_produced (v0 : Int) (v1 : Int) (v2 : Int) (v3 : Int) (v4 : Int) (v5 : Addr) (v6 : Addr) (v7 : Int) (v8 : Int) : putF ("produced" : Str) (.int v8) ([(("share" : Str), V.int v0), (("fresh" : Str), V.int v1), (("growth" : Str), V.int v2), (("pool1" : Str), V.int v3), (("pool2" : Str), V.int v4), (("blood" : Str), V.ref v5), (("bath" : Str), V.ref v6), (("given" : Str), V.int v7)] : List (Str × V)) = [(("share" : Str), V.int v0), (("fresh" : Str), V.int v1), (("growth" : Str), V.int v2), (("pool1" : Str), V.int v3), (("pool2" : Str), V.int v4), (("blood" : Str), V.ref v5), (("bath" : Str), V.ref v6), (("given" : Str), V.int v7), (("produced" : Str), V.int v8)] := rfl
theorem sf_ini_come (v0 : Int) (v1 : Int) (v2 : Int) (v3 : Int) (v4 : Int) (v5 : Addr) (v6 : Addr) (v7 : Int) (v8 : Int) (v9 : Int) : putF ("come" : Str) (.int v9) ([(("share" : Str), V.int v0), (("fresh" : Str), V.int v1), (("growth" : Str), V.int v2), (("pool1" : Str), V.int v3), (("pool2" : Str), V.int v4), (("blood" : Str), V.ref v5), (("bath" : Str), V.ref v6), (("given" : Str), V.int v7), (("produced" : Str), V.int v8)] : List (Str × V)) = [(("share" : Str), V.int v0), (("fresh" : Str), V.int v1), (("growth" : Str), V.int v2), (("pool1" : Str), V.int v3), (("pool2" : Str), V.int v4), (("blood" : Str), V.ref v5), (("bath" : Str), V.ref v6), (("given" : Str), V.int v7), (("produced" : Str), V.int v8), (("come" : Str), V.int v9)] := rfl
theorem sf_ini_spent (v0 : Int) (v1 : Int) (v2 : Int) (v3 : Int) (v4 : Int) (v5 : Addr) (v6 : Addr) (v7 : Int) (v8 : Int) (v9 : Int) (v10 : Int) : putF ("spent" : Str) (.int v10) ([(("share" : Str), V.int v0), (("fresh" : Str), V.int v1), (("growth" : Str), V.int v2), (("pool1" : Str), V.int v3), (("pool2" : Str), V.int v4), (("blood" : Str), V.ref v5), (("bath" : Str), V.ref v6), (("given" : Str), V.int v7), (("produced" : Str), V.int v8), (("come" : Str), V.int v9)] : List (Str × V)) = [(("share" : Str), V.int v0), (("fresh" : Str), V.int v1), (("growth" : Str), V.int v2), (("pool1" : Str), V.int v3), (("pool2" : Str), V.int v4), (("blood" : Str), V.ref v5), (("bath" : Str), V.ref v6), (("given" : Str), V.int v7), (("produced" : Str), V.int v8), (("come" : Str), V.int v9), (("spent" : Str), V.int v10)] := rfl
theorem sf_ini_thrown (v0 : Int) (v1 : Int) (v2 : Int) (v3 : Int) (v4 : Int) (v5 : Addr) (v6 : Addr) (v7 : Int) (v8 : Int) (v9 : Int) (v10 : Int) (v11 : Int) : putF ("thrown" : Str) (.int v11) ([(("share" : Str), V.int v0), (("fresh" : Str), V.int v1), (("growth" : Str), V.int v2), (("pool1" : Str), V.int v3), (("pool2" : Str), V.int v4), (("blood" : Str), V.ref v5), (("bath" : Str), V.ref v6), (("given" : Str), V.int v7), (("produced" : Str), V.int v8), (("come" : Str), V.int v9), (("spent" : Str), V.int v10)] : List (Str × V)) = [(("share" : Str), V.int v0), (("fresh" : Str), V.int v1), (("growth" : Str), V.int v2), (("pool1" : Str), V.int v3), (("pool2" : Str), V.int v4), (("blood" : Str), V.ref v5), (("bath" : Str), V.ref v6), (("given" : Str), V.int v7), (("produced" : Str), V.int v8), (("come" : Str), V.int v9), (("spent" : Str), V.int v10), (("thrown" : Str), V.int v11)] := rfl
theorem sf_ini_went_in (v0 : Int) (v1 : Int) (v2 : Int) (v3 : Int) (v4 : Int) (v5 : Addr) (v6 : Addr) (v7 : Int) (v8 : Int) (v9 : Int) (v10 : Int) (v11 : Int) (v12 : Int) : putF ("went_in" : Str) (.int v12) ([(("share" : Str), V.int v0), (("fresh" : Str), V.int v1), (("growth" : Str), V.int v2), (("pool1" : Str), V.int v3), (("pool2" : Str), V.int v4), (("blood" : Str), V.ref v5), (("bath" : Str), V.ref v6), (("given" : Str), V.int v7), (("produced" : Str), V.int v8), (("come" : Str), V.int v9), (("spent" : Str), V.int v10), (("thrown" : Str), V.int v11)] : List (Str × V)) = [(("share" : Str), V.int v0), (("fresh" : Str), V.int v1), (("growth" : Str), V.int v2), (("pool1" : Str), V.int v3), (("pool2" : Str), V.int v4), (("blood" : Str), V.ref v5), (("bath" : Str), V.ref v6), (("given" : Str), V.int v7), (("produced" : Str), V.int v8), (("come" : Str), V.int v9), (("spent" : Str), V.int v10), (("thrown" : Str), V.int v11), (("went_in" : Str), V.int v12)] := rfl
theorem sf_ini_came_out (v0 : Int) (v1 : Int) (v2 : Int) (v3 : Int) (v4 : Int) (v5 : Addr) (v6 : Addr) (v7 : Int) (v8 : Int) (v9 : Int) (v10 : Int) (v11 : Int) (v12 : Int) (v13 : Int) : putF ("came_out" : Str) (.int v13) ([(("share" : Str), V.int v0), (("fresh" : Str), V.int v1), (("growth" : Str), V.int v2), (("pool1" : Str), V.int v3), (("pool2" : Str), V.int v4), (("blood" : Str), V.ref v5), (("bath" : Str), V.ref v6), (("given" : Str), V.int v7), (("produced" : Str), V.int v8), (("come" : Str), V.int v9), (("spent" : Str), V.int v10), (("thrown" : Str), V.int v11), (("went_in" : Str), V.int v12)] : List (Str × V)) = [(("share" : Str), V.int v0), (("fresh" : Str), V.int v1), (("growth" : Str), V.int v2), (("pool1" : Str), V.int v3), (("pool2" : Str), V.int v4), (("blood" : Str), V.ref v5), (("bath" : Str), V.ref v6), (("given" : Str), V.int v7), (("produced" : Str), V.int v8), (("come" : Str), V.int v9), (("spent" : Str), V.int v10), (("thrown" : Str), V.int v11), (("went_in" : Str), V.int v12), (("came_out" : Str), V.int v13)] := rfl
theorem sf_ini_at_mark (v0 : Int) (v1 : Int) (v2 : Int) (v3 : Int) (v4 : Int) (v5 : Addr) (v6 : Addr) (v7 : Int) (v8 : Int) (v9 : Int) (v10 : Int) (v11 : Int) (v12 : Int) (v13 : Int) (v14 : Int) : putF ("at_mark" : Str) (.int v14) ([(("share" : Str), V.int v0), (("fresh" : Str), V.int v1), (("growth" : Str), V.int v2), (("pool1" : Str), V.int v3), (("pool2" : Str), V.int v4), (("blood" : Str), V.ref v5), (("bath" : Str), V.ref v6), (("given" : Str), V.int v7), (("produced" : Str), V.int v8), (("come" : Str), V.int v9), (("spent" : Str), V.int v10), (("thrown" : Str), V.int v11), (("went_in" : Str), V.int v12), (("came_out" : Str), V.int v13)] : List (Str × V)) = [(("share" : Str), V.int v0), (("fresh" : Str), V.int v1), (("growth" : Str), V.int v2), (("pool1" : Str), V.int v3), (("pool2" : Str), V.int v4), (("blood" : Str), V.ref v5), (("bath" : Str), V.ref v6), (("given" : Str), V.int v7), (("produced" : Str), V.int v8), (("come" : Str), V.int v9), (("spent" : Str), V.int v10), (("thrown" : Str), V.int v11), (("went_in" : Str), V.int v12), (("came_out" : Str), V.int v13), (("at_mark" : Str), V.int v14)] := rfl
theorem sf_ini_all : (∀ (v0 : Int), putF ("share" : Str) (.int v0) ([] : List (Str × V)) = [(("share" : Str), V.int v0)]) ∧ (∀ (v0 : Int) (v1 : Int), putF ("fresh" : Str) (.int v1) ([(("share" : Str), V.int v0)] : List (Str × V)) = [(("share" : Str), V.int v0), (("fresh" : Str), V.int v1)]) ∧ (∀ (v0 : Int) (v1 : Int) (v2 : Int), putF ("growth" : Str) (.int v2) ([(("share" : Str), V.int v0), (("fresh" : Str), V.int v1)] : List (Str × V)) = [(("share" : Str), V.int v0), (("fresh" : Str), V.int v1), (("growth" : Str), V.int v2)]) ∧ (∀ (v0 : Int) (v1 : Int) (v2 : Int) (v3 : Int), putF ("pool1" : Str) (.int v3) ([(("share" : Str), V.int v0), (("fresh" : Str), V.int v1), (("growth" : Str), V.int v2)] : List (Str × V)) = [(("share" : Str), V.int v0), (("fresh" : Str), V.int v1), (("growth" : Str), V.int v2), (("pool1" : Str), V.int v3)]) ∧ (∀ (v0 : Int) (v1 : Int) (v2 : Int) (v3 : Int) (v4 : Int), putF ("pool2" : Str) (.int v4) ([(("share" : Str), V.int v0), (("fresh" : Str), V.int v1), (("growth" : Str), V.int v2), (("pool1" : Str), V.int v3)] : List (Str × V)) = [(("share" : Str), V.int v0), (("fresh" : Str), V.int v1), (("growth" : Str), V.int v2), (("pool1" : Str), V.int v3), (("pool2" : Str), V.int v4)]) ∧ (∀ (v0 : Int) (v1 : Int) (v2 : Int) (v3 : Int) (v4 : Int) (v5 : Addr), putF ("blood" : Str) (.ref v5) ([(("share" : Str), V.int v0), (("fresh" : Str), V.int v1), (("growth" : Str), V.int v2), (("pool1" : Str), V.int v3), (("pool2" : Str), V.int v4)] : List (Str × V)) = [(("share" : Str), V.int v0), (("fresh" : Str), V.int v1), (("growth" : Str), V.int v2), (("pool1" : Str), V.int v3), (("pool2" : Str), V.int v4), (("blood" : Str), V.ref v5)]) ∧ (∀ (v0 : Int) (v1 : Int) (v2 : Int) (v3 : Int) (v4 : Int) (v5 : Addr) (v6 : Addr), putF ("bath" : Str) (.ref v6) ([(("share" : Str), V.int v0), (("fresh" : Str), V.int v1), (("growth" : Str), V.int v2), (("pool1" : Str), V.int v3), (("pool2" : Str), V.int v4), (("blood" : Str), V.ref v5)] : List (Str × V)) = [(("share" : Str), V.int v0), (("fresh" : Str), V.int v1), (("growth" : Str), V.int v2), (("pool1" : Str), V.int v3), (("pool2" : Str), V.int v4), (("blood" : Str), V.ref v5), (("bath" : Str), V.ref v6)]) ∧ (∀ (v0 : Int) (v1 : Int) (v2 : Int) (v3 : Int) (v4 : Int) (v5 : Addr) (v6 : Addr) (v7 : Int), putF ("given" : Str) (.int v7) ([(("share" : Str), V.int v0), (("fresh" : Str), V.int v1), (("growth" : Str), V.int v2), (("pool1" : Str), V.int v3), (("pool2" : Str), V.int v4), (("blood" : Str), V.ref v5), (("bath" : Str), V.ref v6)] : List (Str × V)) = [(("share" : Str), V.int v0), (("fresh" : Str), V.int v1), (("growth" : Str), V.int v2), (("pool1" : Str), V.int v3), (("pool2" : Str), V.int v4), (("blood" : Str), V.ref v5), (("bath" : Str), V.ref v6), (("given" : Str), V.int v7)]) ∧ (∀ (v0 : Int) (v1 : Int) (v2 : Int) (v3 : Int) (v4 : Int) (v5 : Addr) (v6 : Addr) (v7 : Int) (v8 : Int), putF ("produced" : Str) (.int v8) ([(("share" : Str), V.int v0), (("fresh" : Str), V.int v1), (("growth" : Str), V.int v2), (("pool1" : Str), V.int v3), (("pool2" : Str), V.int v4), (("blood" : Str), V.ref v5), (("bath" : Str), V.ref v6), (("given" : Str), V.int v7)] : List (Str × V)) = [(("share" : Str), V.int v0), (("fresh" : Str), V.int v1), (("growth" : Str), V.int v2), (("pool1" : Str), V.int v3), (("pool2" : Str), V.int v4), (("blood" : Str), V.ref v5), (("bath" : Str), V.ref v6), (("given" : Str), V.int v7), (("produced" : Str), V.int v8)]) ∧ (∀ (v0 : Int) (v1 : Int) (v2 : Int) (v3 : Int) (v4 : Int) (v5 : Addr) (v6 : Addr) (v7 : Int) (v8 : Int) (v9 : Int), putF ("come" : Str) (.int v9) ([(("share" : Str), V.int v0), (("fresh" : Str), V.int v1), (("growth" : Str), V.int v2), (("pool1" : Str), V.int v3), (("pool2" : Str), V.int v4), (("blood" : Str), V.ref v5), (("bath" : Str), V.ref v6), (("given" : Str), V.int v7), (("produced" : Str), V.int v8)] : List (Str × V)) = [(("share" : Str), V.int v0), (("fresh" : Str), V.int v1), (("growth" : Str), V.int v2), (("pool1" : Str), V.int v3), (("pool2" : Str), V.int v4), (("blood" : Str), V.ref v5), (("bath" : Str), V.ref v6), (("given" : Str), V.int v7), (("produced" : Str), V.int v8), (("come" : Str), V.int v9)]) ∧ (∀ (v0 : Int) (v1 : Int) (v2 : Int) (v3 : Int) (v4 : Int) (v5 : Addr) (v6 : Addr) (v7 : Int) (v8 : Int) (v9 : Int) (v10 : Int), putF ("spent" : Str) (.int v10) ([(("share" : Str), V.int v0), (("fresh" : Str), V.int v1), (("growth" : Str), V.int v2), (("pool1" : Str), V.int v3), (("pool2" : Str), V.int v4), (("blood" : Str), V.ref v5), (("bath" : Str), V.ref v6), (("given" : Str), V.int v7), (("produced" : Str), V.int v8), (("come" : Str), V.int v9)] : List (Str × V)) = [(("share" : Str), V.int v0), (("fresh" : Str), V.int v1), (("growth" : Str), V.int v2), (("pool1" : Str), V.int v3), (("pool2" : Str), V.int v4), (("blood" : Str), V.ref v5), (("bath" : Str), V.ref v6), (("given" : Str), V.int v7), (("produced" : Str), V.int v8), (("come" : Str), V.int v9), (("spent" : Str), V.int v10)]) ∧ (∀ (v0 : Int) (v1 : Int) (v2 : Int) (v3 : Int) (v4 : Int) (v5 : Addr) (v6 : Addr) (v7 : Int) (v8 : Int) (v9 : Int) (v10 : Int) (v11 : Int), putF ("thrown" : Str) (.int v11) ([(("share" : Str), V.int v0), (("fresh" : Str), V.int v1), (("growth" : Str), V.int v2), (("pool1" : Str), V.int v3), (("pool2" : Str), V.int v4), (("blood" : Str), V.ref v5), (("bath" : Str), V.ref v6), (("given" : Str), V.int v7), (("produced" : Str), V.int v8), (("come" : Str), V.int v9), (("spent" : Str), V.int v10)] : List (Str × V)) = [(("share" : Str), V.int v0), (("fresh" : Str), V.int v1), (("growth" : Str), V.int v2), (("pool1" : Str), V.int v3), (("pool2" : Str), V.int v4), (("blood" : Str), V.ref v5), (("bath" : Str), V.ref v6), (("given" : Str), V.int v7), (("produced" : Str), V.int v8), (("come" : Str), V.int v9), (("spent" : Str), V.int v10), (("thrown" : Str), V.int v11)]) ∧ (∀ (v0 : Int) (v1 : Int) (v2 : Int) (v3 : Int) (v4 : Int) (v5 : Addr) (v6 : Addr) (v7 : Int) (v8 : Int) (v9 : Int) (v10 : Int) (v11 : Int) (v12 : Int), putF ("went_in" : Str) (.int v12) ([(("share" : Str), V.int v0), (("fresh" : Str), V.int v1), (("growth" : Str), V.int v2), (("pool1" : Str), V.int v3), (("pool2" : Str), V.int v4), (("blood" : Str), V.ref v5), (("bath" : Str), V.ref v6), (("given" : Str), V.int v7), (("produced" : Str), V.int v8), (("come" : Str), V.int v9), (("spent" : Str), V.int v10), (("thrown" : Str), V.int v11)] : List (Str × V)) = [(("share" : Str), V.int v0), (("fresh" : Str), V.int v1), (("growth" : Str), V.int v2), (("pool1" : Str), V.int v3), (("pool2" : Str), V.int v4), (("blood" : Str), V.ref v5), (("bath" : Str), V.ref v6), (("given" : Str), V.int v7), (("produced" : Str), V.int v8), (("come" : Str), V.int v9), (("spent" : Str), V.int v10), (("thrown" : Str), V.int v11), (("went_in" : Str), V.int v12)]) ∧ (∀ (v0 : Int) (v1 : Int) (v2 : Int) (v3 : Int) (v4 : Int) (v5 : Addr) (v6 : Addr) (v7 : Int) (v8 : Int) (v9 : Int) (v10 : Int) (v11 : Int) (v12 : Int) (v13 : Int), putF ("came_out" : Str) (.int v13) ([(("share" : Str), V.int v0), (("fresh" : Str), V.int v1), (("growth" : Str), V.int v2), (("pool1" : Str), V.int v3), (("pool2" : Str), V.int v4), (("blood" : Str), V.ref v5), (("bath" : Str), V.ref v6), (("given" : Str), V.int v7), (("produced" : Str), V.int v8), (("come" : Str), V.int v9), (("spent" : Str), V.int v10), (("thrown" : Str), V.int v11), (("went_in" : Str), V.int v12)] : List (Str × V)) = [(("share" : Str), V.int v0), (("fresh" : Str), V.int v1), (("growth" : Str), V.int v2), (("pool1" : Str), V.int v3), (("pool2" : Str), V.int v4), (("blood" : Str), V.ref v5), (("bath" : Str), V.ref v6), (("given" : Str), V.int v7), (("produced" : Str), V.int v8), (("come" : Str), V.int v9), (("spent" : Str), V.int v10), (("thrown" : Str), V.int v11), (("went_in" : Str), V.int v12), (("came_out" : Str), V.int v13)]) ∧ (∀ (v0 : Int) (v1 : Int) (v2 : Int) (v3 : Int) (v4 : Int) (v5 : Addr) (v6 : Addr) (v7 : Int) (v8 : Int) (v9 : Int) (v10 : Int) (v11 : Int) (v12 : Int) (v13 : Int) (v14 : Int), putF ("at_mark" : Str) (.int v14) ([(("share" : Str), V.int v0), (("fresh" : Str), V.int v1), (("growth" : Str), V.int v2), (("pool1" : Str), V.int v3), (("pool2" : Str), V.int v4), (("blood" : Str), V.ref v5), (("bath" : Str), V.ref v6), (("given" : Str), V.int v7), (("produced" : Str), V.int v8), (("come" : Str), V.int v9), (("spent" : Str), V.int v10), (("thrown" : Str), V.int v11), (("went_in" : Str), V.int v12), (("came_out" : Str), V.int v13)] : List (Str × V)) = [(("share" : Str), V.int v0), (("fresh" : Str), V.int v1), (("growth" : Str), V.int v2), (("pool1" : Str), V.int v3), (("pool2" : Str), V.int v4), (("blood" : Str), V.ref v5), (("bath" : Str), V.ref v6), (("given" : Str), V.int v7), (("produced" : Str), V.int v8), (("come" : Str), V.int v9), (("spent" : Str), V.int v10), (("thrown" : Str), V.int v11), (("went_in" : Str), V.int v12), (("came_out" : Str), V.int v13), (("at_mark" : Str), V.int v14)]) := ⟨sf_ini_share, sf_ini_fresh, sf_ini_growth, sf_ini_pool1, sf_ini_pool2, sf_ini_blood, sf_ini_bath, sf_ini_given, sf_ini_produced, sf_ini_come, sf_ini_spent, sf_ini_thrown, sf_ini_went_in, sf_ini_came_out, sf_ini_at_mark⟩
structure RI where
  times : Int
  span : Int
  parts : Int
def rf (x : RI) : List (Str × V) := [("times", .int x.times), ("span", .int x.span), ("parts", .int x.parts)]
theorem rf_len (x : RI) : (rf x).length = 3 := rfl
theorem rf_times (x : RI) : (rf x).lookup ("times" : Str) = some (.int x.times) := rfl
theorem rf_put_times (x : RI) (v : Int) : putF ("times" : Str) (.int v) (rf x) = rf { x with times := v } := rfl
theorem rf_span (x : RI) : (rf x).lookup ("span" : Str) = some (.int x.span) := rfl
theorem rf_put_span (x : RI) (v : Int) : putF ("span" : Str) (.int v) (rf x) = rf { x with span := v } := rfl
theorem rf_parts (x : RI) : (rf x).lookup ("parts" : Str) = some (.int x.parts) := rfl
theorem rf_put_parts (x : RI) (v : Int) : putF ("parts" : Str) (.int v) (rf x) = rf { x with parts := v } := rfl
theorem rf_no_restart (x : RI) : (rf x).lookup ("restart" : Str) = none := rfl
theorem rf_no_gather (x : RI) : (rf x).lookup ("gather" : Str) = none := rfl
theorem rf_no_twin (x : RI) : (rf x).lookup ("twin" : Str) = none := rfl
theorem rf_all : (∀ (x : RI), (rf x).length = 3) ∧ (∀ (x : RI), (rf x).lookup ("times" : Str) = some (.int x.times)) ∧ (∀ (x : RI) (v : Int), putF ("times" : Str) (.int v) (rf x) = rf { x with times := v }) ∧ (∀ (x : RI), (rf x).lookup ("span" : Str) = some (.int x.span)) ∧ (∀ (x : RI) (v : Int), putF ("span" : Str) (.int v) (rf x) = rf { x with span := v }) ∧ (∀ (x : RI), (rf x).lookup ("parts" : Str) = some (.int x.parts)) ∧ (∀ (x : RI) (v : Int), putF ("parts" : Str) (.int v) (rf x) = rf { x with parts := v }) ∧ (∀ (x : RI), (rf x).lookup ("restart" : Str) = none) ∧ (∀ (x : RI), (rf x).lookup ("gather" : Str) = none) ∧ (∀ (x : RI), (rf x).lookup ("twin" : Str) = none) := ⟨rf_len, rf_times, rf_put_times, rf_span, rf_put_span, rf_parts, rf_put_parts, rf_no_restart, rf_no_gather, rf_no_twin⟩
theorem rf_ini_times (v0 : Int) : putF ("times" : Str) (.int v0) ([] : List (Str × V)) = [(("times" : Str), V.int v0)] := rfl
theorem rf_ini_span (v0 : Int) (v1 : Int) : putF ("span" : Str) (.int v1) ([(("times" : Str), V.int v0)] : List (Str × V)) = [(("times" : Str), V.int v0), (("span" : Str), V.int v1)] := rfl
theorem rf_ini_parts (v0 : Int) (v1 : Int) (v2 : Int) : putF ("parts" : Str) (.int v2) ([(("times" : Str), V.int v0), (("span" : Str), V.int v1)] : List (Str × V)) = [(("times" : Str), V.int v0), (("span" : Str), V.int v1), (("parts" : Str), V.int v2)] := rfl
theorem rf_ini_all : (∀ (v0 : Int), putF ("times" : Str) (.int v0) ([] : List (Str × V)) = [(("times" : Str), V.int v0)]) ∧ (∀ (v0 : Int) (v1 : Int), putF ("span" : Str) (.int v1) ([(("times" : Str), V.int v0)] : List (Str × V)) = [(("times" : Str), V.int v0), (("span" : Str), V.int v1)]) ∧ (∀ (v0 : Int) (v1 : Int) (v2 : Int), putF ("parts" : Str) (.int v2) ([(("times" : Str), V.int v0), (("span" : Str), V.int v1)] : List (Str × V)) = [(("times" : Str), V.int v0), (("span" : Str), V.int v1), (("parts" : Str), V.int v2)]) := ⟨rf_ini_times, rf_ini_span, rf_ini_parts⟩
structure DI where
  laid : Bool
  cells : Int
  bv : Int
  dv : Int
  along : Bool
  sols : Addr
  v1 : Int
  v2 : Int
  x : Int
  r : Int
  rb : Addr
  rd : Addr
  ticks : Int
def df (x : DI) : List (Str × V) := [("laid", .bl x.laid), ("cells", .int x.cells), ("blood_volume", .int x.bv), ("bath_volume", .int x.dv), ("along", .bl x.along), ("solutes", .ref x.sols), ("volume1", .int x.v1), ("volume2", .int x.v2), ("between", .int x.x), ("round_share", .int x.r), ("blood_rate", .ref x.rb), ("bath_rate", .ref x.rd), ("ticks", .int x.ticks)]
theorem df_len (x : DI) : (df x).length = 13 := rfl
theorem df_laid (x : DI) : (df x).lookup ("laid" : Str) = some (.bl x.laid) := rfl
theorem df_put_laid (x : DI) (v : Bool) : putF ("laid" : Str) (.bl v) (df x) = df { x with laid := v } := rfl
theorem df_cells (x : DI) : (df x).lookup ("cells" : Str) = some (.int x.cells) := rfl
theorem df_put_cells (x : DI) (v : Int) : putF ("cells" : Str) (.int v) (df x) = df { x with cells := v } := rfl
theorem df_blood_volume (x : DI) : (df x).lookup ("blood_volume" : Str) = some (.int x.bv) := rfl
theorem df_put_blood_volume (x : DI) (v : Int) : putF ("blood_volume" : Str) (.int v) (df x) = df { x with bv := v } := rfl
theorem df_bath_volume (x : DI) : (df x).lookup ("bath_volume" : Str) = some (.int x.dv) := rfl
theorem df_put_bath_volume (x : DI) (v : Int) : putF ("bath_volume" : Str) (.int v) (df x) = df { x with dv := v } := rfl
theorem df_along (x : DI) : (df x).lookup ("along" : Str) = some (.bl x.along) := rfl
theorem df_put_along (x : DI) (v : Bool) : putF ("along" : Str) (.bl v) (df x) = df { x with along := v } := rfl
theorem df_solutes (x : DI) : (df x).lookup ("solutes" : Str) = some (.ref x.sols) := rfl
theorem df_put_solutes (x : DI) (v : Addr) : putF ("solutes" : Str) (.ref v) (df x) = df { x with sols := v } := rfl
theorem df_volume1 (x : DI) : (df x).lookup ("volume1" : Str) = some (.int x.v1) := rfl
theorem df_put_volume1 (x : DI) (v : Int) : putF ("volume1" : Str) (.int v) (df x) = df { x with v1 := v } := rfl
theorem df_volume2 (x : DI) : (df x).lookup ("volume2" : Str) = some (.int x.v2) := rfl
theorem df_put_volume2 (x : DI) (v : Int) : putF ("volume2" : Str) (.int v) (df x) = df { x with v2 := v } := rfl
theorem df_between (x : DI) : (df x).lookup ("between" : Str) = some (.int x.x) := rfl
theorem df_put_between (x : DI) (v : Int) : putF ("between" : Str) (.int v) (df x) = df { x with x := v } := rfl
theorem df_round_share (x : DI) : (df x).lookup ("round_share" : Str) = some (.int x.r) := rfl
theorem df_put_round_share (x : DI) (v : Int) : putF ("round_share" : Str) (.int v) (df x) = df { x with r := v } := rfl
theorem df_blood_rate (x : DI) : (df x).lookup ("blood_rate" : Str) = some (.ref x.rb) := rfl
theorem df_put_blood_rate (x : DI) (v : Addr) : putF ("blood_rate" : Str) (.ref v) (df x) = df { x with rb := v } := rfl
theorem df_bath_rate (x : DI) : (df x).lookup ("bath_rate" : Str) = some (.ref x.rd) := rfl
theorem df_put_bath_rate (x : DI) (v : Addr) : putF ("bath_rate" : Str) (.ref v) (df x) = df { x with rd := v } := rfl
theorem df_ticks (x : DI) : (df x).lookup ("ticks" : Str) = some (.int x.ticks) := rfl
theorem df_put_ticks (x : DI) (v : Int) : putF ("ticks" : Str) (.int v) (df x) = df { x with ticks := v } := rfl
theorem df_all : (∀ (x : DI), (df x).length = 13) ∧ (∀ (x : DI), (df x).lookup ("laid" : Str) = some (.bl x.laid)) ∧ (∀ (x : DI) (v : Bool), putF ("laid" : Str) (.bl v) (df x) = df { x with laid := v }) ∧ (∀ (x : DI), (df x).lookup ("cells" : Str) = some (.int x.cells)) ∧ (∀ (x : DI) (v : Int), putF ("cells" : Str) (.int v) (df x) = df { x with cells := v }) ∧ (∀ (x : DI), (df x).lookup ("blood_volume" : Str) = some (.int x.bv)) ∧ (∀ (x : DI) (v : Int), putF ("blood_volume" : Str) (.int v) (df x) = df { x with bv := v }) ∧ (∀ (x : DI), (df x).lookup ("bath_volume" : Str) = some (.int x.dv)) ∧ (∀ (x : DI) (v : Int), putF ("bath_volume" : Str) (.int v) (df x) = df { x with dv := v }) ∧ (∀ (x : DI), (df x).lookup ("along" : Str) = some (.bl x.along)) ∧ (∀ (x : DI) (v : Bool), putF ("along" : Str) (.bl v) (df x) = df { x with along := v }) ∧ (∀ (x : DI), (df x).lookup ("solutes" : Str) = some (.ref x.sols)) ∧ (∀ (x : DI) (v : Addr), putF ("solutes" : Str) (.ref v) (df x) = df { x with sols := v }) ∧ (∀ (x : DI), (df x).lookup ("volume1" : Str) = some (.int x.v1)) ∧ (∀ (x : DI) (v : Int), putF ("volume1" : Str) (.int v) (df x) = df { x with v1 := v }) ∧ (∀ (x : DI), (df x).lookup ("volume2" : Str) = some (.int x.v2)) ∧ (∀ (x : DI) (v : Int), putF ("volume2" : Str) (.int v) (df x) = df { x with v2 := v }) ∧ (∀ (x : DI), (df x).lookup ("between" : Str) = some (.int x.x)) ∧ (∀ (x : DI) (v : Int), putF ("between" : Str) (.int v) (df x) = df { x with x := v }) ∧ (∀ (x : DI), (df x).lookup ("round_share" : Str) = some (.int x.r)) ∧ (∀ (x : DI) (v : Int), putF ("round_share" : Str) (.int v) (df x) = df { x with r := v }) ∧ (∀ (x : DI), (df x).lookup ("blood_rate" : Str) = some (.ref x.rb)) ∧ (∀ (x : DI) (v : Addr), putF ("blood_rate" : Str) (.ref v) (df x) = df { x with rb := v }) ∧ (∀ (x : DI), (df x).lookup ("bath_rate" : Str) = some (.ref x.rd)) ∧ (∀ (x : DI) (v : Addr), putF ("bath_rate" : Str) (.ref v) (df x) = df { x with rd := v }) ∧ (∀ (x : DI), (df x).lookup ("ticks" : Str) = some (.int x.ticks)) ∧ (∀ (x : DI) (v : Int), putF ("ticks" : Str) (.int v) (df x) = df { x with ticks := v }) := ⟨df_len, df_laid, df_put_laid, df_cells, df_put_cells, df_blood_volume, df_put_blood_volume, df_bath_volume, df_put_bath_volume, df_along, df_put_along, df_solutes, df_put_solutes, df_volume1, df_put_volume1, df_volume2, df_put_volume2, df_between, df_put_between, df_round_share, df_put_round_share, df_blood_rate, df_put_blood_rate, df_bath_rate, df_put_bath_rate, df_ticks, df_put_ticks⟩
theorem df_ini_laid (v0 : Bool) : putF ("laid" : Str) (.bl v0) ([] : List (Str × V)) = [(("laid" : Str), V.bl v0)] := rfl
theorem df_ini_cells (v0 : Bool) (v1 : Int) : putF ("cells" : Str) (.int v1) ([(("laid" : Str), V.bl v0)] : List (Str × V)) = [(("laid" : Str), V.bl v0), (("cells" : Str), V.int v1)] := rfl
theorem df_ini_blood_volume (v0 : Bool) (v1 : Int) (v2 : Int) : putF ("blood_volume" : Str) (.int v2) ([(("laid" : Str), V.bl v0), (("cells" : Str), V.int v1)] : List (Str × V)) = [(("laid" : Str), V.bl v0), (("cells" : Str), V.int v1), (("blood_volume" : Str), V.int v2)] := rfl
theorem df_ini_bath_volume (v0 : Bool) (v1 : Int) (v2 : Int) (v3 : Int) : putF ("bath_volume" : Str) (.int v3) ([(("laid" : Str), V.bl v0), (("cells" : Str), V.int v1), (("blood_volume" : Str), V.int v2)] : List (Str × V)) = [(("laid" : Str), V.bl v0), (("cells" : Str), V.int v1), (("blood_volume" : Str), V.int v2), (("bath_volume" : Str), V.int v3)] := rfl
theorem df_ini_along (v0 : Bool) (v1 : Int) (v2 : Int) (v3 : Int) (v4 : Bool) : putF ("along" : Str) (.bl v4) ([(("laid" : Str), V.bl v0), (("cells" : Str), V.int v1), (("blood_volume" : Str), V.int v2), (("bath_volume" : Str), V.int v3)] : List (Str × V)) = [(("laid" : Str), V.bl v0), (("cells" : Str), V.int v1), (("blood_volume" : Str), V.int v2), (("bath_volume" : Str), V.int v3), (("along" : Str), V.bl v4)] := rfl
theorem df_ini_solutes (v0 : Bool) (v1 : Int) (v2 : Int) (v3 : Int) (v4 : Bool) (v5 : Addr) : putF ("solutes" : Str) (.ref v5) ([(("laid" : Str), V.bl v0), (("cells" : Str), V.int v1), (("blood_volume" : Str), V.int v2), (("bath_volume" : Str), V.int v3), (("along" : Str), V.bl v4)] : List (Str × V)) = [(("laid" : Str), V.bl v0), (("cells" : Str), V.int v1), (("blood_volume" : Str), V.int v2), (("bath_volume" : Str), V.int v3), (("along" : Str), V.bl v4), (("solutes" : Str), V.ref v5)] := rfl
theorem df_ini_volume1 (v0 : Bool) (v1 : Int) (v2 : Int) (v3 : Int) (v4 : Bool) (v5 : Addr) (v6 : Int) : putF ("volume1" : Str) (.int v6) ([(("laid" : Str), V.bl v0), (("cells" : Str), V.int v1), (("blood_volume" : Str), V.int v2), (("bath_volume" : Str), V.int v3), (("along" : Str), V.bl v4), (("solutes" : Str), V.ref v5)] : List (Str × V)) = [(("laid" : Str), V.bl v0), (("cells" : Str), V.int v1), (("blood_volume" : Str), V.int v2), (("bath_volume" : Str), V.int v3), (("along" : Str), V.bl v4), (("solutes" : Str), V.ref v5), (("volume1" : Str), V.int v6)] := rfl
theorem df_ini_volume2 (v0 : Bool) (v1 : Int) (v2 : Int) (v3 : Int) (v4 : Bool) (v5 : Addr) (v6 : Int) (v7 : Int) : putF ("volume2" : Str) (.int v7) ([(("laid" : Str), V.bl v0), (("cells" : Str), V.int v1), (("blood_volume" : Str), V.int v2), (("bath_volume" : Str), V.int v3), (("along" : Str), V.bl v4), (("solutes" : Str), V.ref v5), (("volume1" : Str), V.int v6)] : List (Str × V)) = [(("laid" : Str), V.bl v0), (("cells" : Str), V.int v1), (("blood_volume" : Str), V.int v2), (("bath_volume" : Str), V.int v3), (("along" : Str), V.bl v4), (("solutes" : Str), V.ref v5), (("volume1" : Str), V.int v6), (("volume2" : Str), V.int v7)] := rfl
theorem df_ini_between (v0 : Bool) (v1 : Int) (v2 : Int) (v3 : Int) (v4 : Bool) (v5 : Addr) (v6 : Int) (v7 : Int) (v8 : Int) : putF ("between" : Str) (.int v8) ([(("laid" : Str), V.bl v0), (("cells" : Str), V.int v1), (("blood_volume" : Str), V.int v2), (("bath_volume" : Str), V.int v3), (("along" : Str), V.bl v4), (("solutes" : Str), V.ref v5), (("volume1" : Str), V.int v6), (("volume2" : Str), V.int v7)] : List (Str × V)) = [(("laid" : Str), V.bl v0), (("cells" : Str), V.int v1), (("blood_volume" : Str), V.int v2), (("bath_volume" : Str), V.int v3), (("along" : Str), V.bl v4), (("solutes" : Str), V.ref v5), (("volume1" : Str), V.int v6), (("volume2" : Str), V.int v7), (("between" : Str), V.int v8)] := rfl
theorem df_ini_round_share (v0 : Bool) (v1 : Int) (v2 : Int) (v3 : Int) (v4 : Bool) (v5 : Addr) (v6 : Int) (v7 : Int) (v8 : Int) (v9 : Int) : putF ("round_share" : Str) (.int v9) ([(("laid" : Str), V.bl v0), (("cells" : Str), V.int v1), (("blood_volume" : Str), V.int v2), (("bath_volume" : Str), V.int v3), (("along" : Str), V.bl v4), (("solutes" : Str), V.ref v5), (("volume1" : Str), V.int v6), (("volume2" : Str), V.int v7), (("between" : Str), V.int v8)] : List (Str × V)) = [(("laid" : Str), V.bl v0), (("cells" : Str), V.int v1), (("blood_volume" : Str), V.int v2), (("bath_volume" : Str), V.int v3), (("along" : Str), V.bl v4), (("solutes" : Str), V.ref v5), (("volume1" : Str), V.int v6), (("volume2" : Str), V.int v7), (("between" : Str), V.int v8), (("round_share" : Str), V.int v9)] := rfl
theorem df_ini_blood_rate (v0 : Bool) (v1 : Int) (v2 : Int) (v3 : Int) (v4 : Bool) (v5 : Addr) (v6 : Int) (v7 : Int) (v8 : Int) (v9 : Int) (v10 : Addr) : putF ("blood_rate" : Str) (.ref v10) ([(("laid" : Str), V.bl v0), (("cells" : Str), V.int v1), (("blood_volume" : Str), V.int v2), (("bath_volume" : Str), V.int v3), (("along" : Str), V.bl v4), (("solutes" : Str), V.ref v5), (("volume1" : Str), V.int v6), (("volume2" : Str), V.int v7), (("between" : Str), V.int v8), (("round_share" : Str), V.int v9)] : List (Str × V)) = [(("laid" : Str), V.bl v0), (("cells" : Str), V.int v1), (("blood_volume" : Str), V.int v2), (("bath_volume" : Str), V.int v3), (("along" : Str), V.bl v4), (("solutes" : Str), V.ref v5), (("volume1" : Str), V.int v6), (("volume2" : Str), V.int v7), (("between" : Str), V.int v8), (("round_share" : Str), V.int v9), (("blood_rate" : Str), V.ref v10)] := rfl
theorem df_ini_bath_rate (v0 : Bool) (v1 : Int) (v2 : Int) (v3 : Int) (v4 : Bool) (v5 : Addr) (v6 : Int) (v7 : Int) (v8 : Int) (v9 : Int) (v10 : Addr) (v11 : Addr) : putF ("bath_rate" : Str) (.ref v11) ([(("laid" : Str), V.bl v0), (("cells" : Str), V.int v1), (("blood_volume" : Str), V.int v2), (("bath_volume" : Str), V.int v3), (("along" : Str), V.bl v4), (("solutes" : Str), V.ref v5), (("volume1" : Str), V.int v6), (("volume2" : Str), V.int v7), (("between" : Str), V.int v8), (("round_share" : Str), V.int v9), (("blood_rate" : Str), V.ref v10)] : List (Str × V)) = [(("laid" : Str), V.bl v0), (("cells" : Str), V.int v1), (("blood_volume" : Str), V.int v2), (("bath_volume" : Str), V.int v3), (("along" : Str), V.bl v4), (("solutes" : Str), V.ref v5), (("volume1" : Str), V.int v6), (("volume2" : Str), V.int v7), (("between" : Str), V.int v8), (("round_share" : Str), V.int v9), (("blood_rate" : Str), V.ref v10), (("bath_rate" : Str), V.ref v11)] := rfl
theorem df_ini_ticks (v0 : Bool) (v1 : Int) (v2 : Int) (v3 : Int) (v4 : Bool) (v5 : Addr) (v6 : Int) (v7 : Int) (v8 : Int) (v9 : Int) (v10 : Addr) (v11 : Addr) (v12 : Int) : putF ("ticks" : Str) (.int v12) ([(("laid" : Str), V.bl v0), (("cells" : Str), V.int v1), (("blood_volume" : Str), V.int v2), (("bath_volume" : Str), V.int v3), (("along" : Str), V.bl v4), (("solutes" : Str), V.ref v5), (("volume1" : Str), V.int v6), (("volume2" : Str), V.int v7), (("between" : Str), V.int v8), (("round_share" : Str), V.int v9), (("blood_rate" : Str), V.ref v10), (("bath_rate" : Str), V.ref v11)] : List (Str × V)) = [(("laid" : Str), V.bl v0), (("cells" : Str), V.int v1), (("blood_volume" : Str), V.int v2), (("bath_volume" : Str), V.int v3), (("along" : Str), V.bl v4), (("solutes" : Str), V.ref v5), (("volume1" : Str), V.int v6), (("volume2" : Str), V.int v7), (("between" : Str), V.int v8), (("round_share" : Str), V.int v9), (("blood_rate" : Str), V.ref v10), (("bath_rate" : Str), V.ref v11), (("ticks" : Str), V.int v12)] := rfl
theorem df_ini_all : (∀ (v0 : Bool), putF ("laid" : Str) (.bl v0) ([] : List (Str × V)) = [(("laid" : Str), V.bl v0)]) ∧ (∀ (v0 : Bool) (v1 : Int), putF ("cells" : Str) (.int v1) ([(("laid" : Str), V.bl v0)] : List (Str × V)) = [(("laid" : Str), V.bl v0), (("cells" : Str), V.int v1)]) ∧ (∀ (v0 : Bool) (v1 : Int) (v2 : Int), putF ("blood_volume" : Str) (.int v2) ([(("laid" : Str), V.bl v0), (("cells" : Str), V.int v1)] : List (Str × V)) = [(("laid" : Str), V.bl v0), (("cells" : Str), V.int v1), (("blood_volume" : Str), V.int v2)]) ∧ (∀ (v0 : Bool) (v1 : Int) (v2 : Int) (v3 : Int), putF ("bath_volume" : Str) (.int v3) ([(("laid" : Str), V.bl v0), (("cells" : Str), V.int v1), (("blood_volume" : Str), V.int v2)] : List (Str × V)) = [(("laid" : Str), V.bl v0), (("cells" : Str), V.int v1), (("blood_volume" : Str), V.int v2), (("bath_volume" : Str), V.int v3)]) ∧ (∀ (v0 : Bool) (v1 : Int) (v2 : Int) (v3 : Int) (v4 : Bool), putF ("along" : Str) (.bl v4) ([(("laid" : Str), V.bl v0), (("cells" : Str), V.int v1), (("blood_volume" : Str), V.int v2), (("bath_volume" : Str), V.int v3)] : List (Str × V)) = [(("laid" : Str), V.bl v0), (("cells" : Str), V.int v1), (("blood_volume" : Str), V.int v2), (("bath_volume" : Str), V.int v3), (("along" : Str), V.bl v4)]) ∧ (∀ (v0 : Bool) (v1 : Int) (v2 : Int) (v3 : Int) (v4 : Bool) (v5 : Addr), putF ("solutes" : Str) (.ref v5) ([(("laid" : Str), V.bl v0), (("cells" : Str), V.int v1), (("blood_volume" : Str), V.int v2), (("bath_volume" : Str), V.int v3), (("along" : Str), V.bl v4)] : List (Str × V)) = [(("laid" : Str), V.bl v0), (("cells" : Str), V.int v1), (("blood_volume" : Str), V.int v2), (("bath_volume" : Str), V.int v3), (("along" : Str), V.bl v4), (("solutes" : Str), V.ref v5)]) ∧ (∀ (v0 : Bool) (v1 : Int) (v2 : Int) (v3 : Int) (v4 : Bool) (v5 : Addr) (v6 : Int), putF ("volume1" : Str) (.int v6) ([(("laid" : Str), V.bl v0), (("cells" : Str), V.int v1), (("blood_volume" : Str), V.int v2), (("bath_volume" : Str), V.int v3), (("along" : Str), V.bl v4), (("solutes" : Str), V.ref v5)] : List (Str × V)) = [(("laid" : Str), V.bl v0), (("cells" : Str), V.int v1), (("blood_volume" : Str), V.int v2), (("bath_volume" : Str), V.int v3), (("along" : Str), V.bl v4), (("solutes" : Str), V.ref v5), (("volume1" : Str), V.int v6)]) ∧ (∀ (v0 : Bool) (v1 : Int) (v2 : Int) (v3 : Int) (v4 : Bool) (v5 : Addr) (v6 : Int) (v7 : Int), putF ("volume2" : Str) (.int v7) ([(("laid" : Str), V.bl v0), (("cells" : Str), V.int v1), (("blood_volume" : Str), V.int v2), (("bath_volume" : Str), V.int v3), (("along" : Str), V.bl v4), (("solutes" : Str), V.ref v5), (("volume1" : Str), V.int v6)] : List (Str × V)) = [(("laid" : Str), V.bl v0), (("cells" : Str), V.int v1), (("blood_volume" : Str), V.int v2), (("bath_volume" : Str), V.int v3), (("along" : Str), V.bl v4), (("solutes" : Str), V.ref v5), (("volume1" : Str), V.int v6), (("volume2" : Str), V.int v7)]) ∧ (∀ (v0 : Bool) (v1 : Int) (v2 : Int) (v3 : Int) (v4 : Bool) (v5 : Addr) (v6 : Int) (v7 : Int) (v8 : Int), putF ("between" : Str) (.int v8) ([(("laid" : Str), V.bl v0), (("cells" : Str), V.int v1), (("blood_volume" : Str), V.int v2), (("bath_volume" : Str), V.int v3), (("along" : Str), V.bl v4), (("solutes" : Str), V.ref v5), (("volume1" : Str), V.int v6), (("volume2" : Str), V.int v7)] : List (Str × V)) = [(("laid" : Str), V.bl v0), (("cells" : Str), V.int v1), (("blood_volume" : Str), V.int v2), (("bath_volume" : Str), V.int v3), (("along" : Str), V.bl v4), (("solutes" : Str), V.ref v5), (("volume1" : Str), V.int v6), (("volume2" : Str), V.int v7), (("between" : Str), V.int v8)]) ∧ (∀ (v0 : Bool) (v1 : Int) (v2 : Int) (v3 : Int) (v4 : Bool) (v5 : Addr) (v6 : Int) (v7 : Int) (v8 : Int) (v9 : Int), putF ("round_share" : Str) (.int v9) ([(("laid" : Str), V.bl v0), (("cells" : Str), V.int v1), (("blood_volume" : Str), V.int v2), (("bath_volume" : Str), V.int v3), (("along" : Str), V.bl v4), (("solutes" : Str), V.ref v5), (("volume1" : Str), V.int v6), (("volume2" : Str), V.int v7), (("between" : Str), V.int v8)] : List (Str × V)) = [(("laid" : Str), V.bl v0), (("cells" : Str), V.int v1), (("blood_volume" : Str), V.int v2), (("bath_volume" : Str), V.int v3), (("along" : Str), V.bl v4), (("solutes" : Str), V.ref v5), (("volume1" : Str), V.int v6), (("volume2" : Str), V.int v7), (("between" : Str), V.int v8), (("round_share" : Str), V.int v9)]) ∧ (∀ (v0 : Bool) (v1 : Int) (v2 : Int) (v3 : Int) (v4 : Bool) (v5 : Addr) (v6 : Int) (v7 : Int) (v8 : Int) (v9 : Int) (v10 : Addr), putF ("blood_rate" : Str) (.ref v10) ([(("laid" : Str), V.bl v0), (("cells" : Str), V.int v1), (("blood_volume" : Str), V.int v2), (("bath_volume" : Str), V.int v3), (("along" : Str), V.bl v4), (("solutes" : Str), V.ref v5), (("volume1" : Str), V.int v6), (("volume2" : Str), V.int v7), (("between" : Str), V.int v8), (("round_share" : Str), V.int v9)] : List (Str × V)) = [(("laid" : Str), V.bl v0), (("cells" : Str), V.int v1), (("blood_volume" : Str), V.int v2), (("bath_volume" : Str), V.int v3), (("along" : Str), V.bl v4), (("solutes" : Str), V.ref v5), (("volume1" : Str), V.int v6), (("volume2" : Str), V.int v7), (("between" : Str), V.int v8), (("round_share" : Str), V.int v9), (("blood_rate" : Str), V.ref v10)]) ∧ (∀ (v0 : Bool) (v1 : Int) (v2 : Int) (v3 : Int) (v4 : Bool) (v5 : Addr) (v6 : Int) (v7 : Int) (v8 : Int) (v9 : Int) (v10 : Addr) (v11 : Addr), putF ("bath_rate" : Str) (.ref v11) ([(("laid" : Str), V.bl v0), (("cells" : Str), V.int v1), (("blood_volume" : Str), V.int v2), (("bath_volume" : Str), V.int v3), (("along" : Str), V.bl v4), (("solutes" : Str), V.ref v5), (("volume1" : Str), V.int v6), (("volume2" : Str), V.int v7), (("between" : Str), V.int v8), (("round_share" : Str), V.int v9), (("blood_rate" : Str), V.ref v10)] : List (Str × V)) = [(("laid" : Str), V.bl v0), (("cells" : Str), V.int v1), (("blood_volume" : Str), V.int v2), (("bath_volume" : Str), V.int v3), (("along" : Str), V.bl v4), (("solutes" : Str), V.ref v5), (("volume1" : Str), V.int v6), (("volume2" : Str), V.int v7), (("between" : Str), V.int v8), (("round_share" : Str), V.int v9), (("blood_rate" : Str), V.ref v10), (("bath_rate" : Str), V.ref v11)]) ∧ (∀ (v0 : Bool) (v1 : Int) (v2 : Int) (v3 : Int) (v4 : Bool) (v5 : Addr) (v6 : Int) (v7 : Int) (v8 : Int) (v9 : Int) (v10 : Addr) (v11 : Addr) (v12 : Int), putF ("ticks" : Str) (.int v12) ([(("laid" : Str), V.bl v0), (("cells" : Str), V.int v1), (("blood_volume" : Str), V.int v2), (("bath_volume" : Str), V.int v3), (("along" : Str), V.bl v4), (("solutes" : Str), V.ref v5), (("volume1" : Str), V.int v6), (("volume2" : Str), V.int v7), (("between" : Str), V.int v8), (("round_share" : Str), V.int v9), (("blood_rate" : Str), V.ref v10), (("bath_rate" : Str), V.ref v11)] : List (Str × V)) = [(("laid" : Str), V.bl v0), (("cells" : Str), V.int v1), (("blood_volume" : Str), V.int v2), (("bath_volume" : Str), V.int v3), (("along" : Str), V.bl v4), (("solutes" : Str), V.ref v5), (("volume1" : Str), V.int v6), (("volume2" : Str), V.int v7), (("between" : Str), V.int v8), (("round_share" : Str), V.int v9), (("blood_rate" : Str), V.ref v10), (("bath_rate" : Str), V.ref v11), (("ticks" : Str), V.int v12)]) := ⟨df_ini_laid, df_ini_cells, df_ini_blood_volume, df_ini_bath_volume, df_ini_along, df_ini_solutes, df_ini_volume1, df_ini_volume2, df_ini_between, df_ini_round_share, df_ini_blood_rate, df_ini_bath_rate, df_ini_ticks⟩
theorem cxK {CX : CXT} {P : Program} {w : World} {K : PySem.W.Frag} {mg : Str → Option Value} {base : Heap} {N : List Str} {qual : Str} {scope : Scope} {f : Addr} {cd : Value} {A : Around} {outer : List Env} {s : Shared} {H : Hp} {E : XK} : (cxOf CX P w K mg base N qual scope f cd A outer s H E).K = K := rfl
def sI (x : Vbdlan.Solute) (bl ba : Addr) : SI := ⟨x.share, x.fresh, x.gen, x.m1, x.m2, bl, ba, x.given, x.produced, x.came, x.spent, x.thrown, x.into, x.outOf, x.mark⟩
def dI (f : Vbdlan.Form) (laid : Bool) (ticks : Nat) (l rb rd : Addr) : DI := ⟨laid, f.n, f.bv, f.dv, f.along, l, f.v1, f.v2, f.x, f.round, rb, rd, ticks⟩
def vN (l : List Nat) : List V := l.map fun (n : Nat) => V.int (n : Int)
theorem sf_ne_df {x : SI} {y : DI} : sf x ≠ df y := fun h => by
  have q := congrArg (fun l => l.lookup ("share" : Str)) h
  cases (show some (V.int x.share) = none from q)
theorem sf_ne_rf {x : SI} {y : RI} : sf x ≠ rf y := fun h => by
  have q := congrArg (fun l => l.lookup ("share" : Str)) h
  cases (show some (V.int x.share) = none from q)
theorem df_ne_rf {x : DI} {y : RI} : df x ≠ rf y := fun h => by
  have q := congrArg (fun l => l.lookup ("cells" : Str)) h
  cases (show some (V.int x.cells) = none from q)
theorem ins_ne {C C' dx dx' : Addr} {fs fs' : List (Str × V)} (h : fs ≠ fs') : HO.ins C dx fs ≠ HO.ins C' dx' fs' := fun z => by
  injection z with _ _ z
  exact h z
theorem ne_sd {H : Hp} {p d C C' dx dd : Addr} {x : SI} {y : DI} (hp : H p = some (.ins C dx (sf x))) (hd : H d = some (.ins C' dd (df y))) : d ≠ p := (ne_of hp hd (ins_ne sf_ne_df)).symm
theorem ne_sr {H : Hp} {p d C C' dx dd : Addr} {x : SI} {y : RI} (hp : H p = some (.ins C dx (sf x))) (hd : H d = some (.ins C' dd (rf y))) : d ≠ p := (ne_of hp hd (ins_ne sf_ne_rf)).symm
theorem ne_dr {H : Hp} {p d C C' dx dd : Addr} {x : DI} {y : RI} (hp : H p = some (.ins C dx (df x))) (hd : H d = some (.ins C' dd (rf y))) : d ≠ p := (ne_of hp hd (ins_ne df_ne_rf)).symm
end Bb

set_option Elab.async false
set_option linter.all false
set_option maxRecDepth 100000
namespace Bb
open PySem PySem.Spec PyProof.Rows L2 L3
theorem vN_eq (l : List Nat) : vN l = (l.map fun (n : Nat) => (n : Int)).map V.int := by
  unfold vN
  rw [List.map_map]
  rfl
theorem vN_length (l : List Nat) : (vN l).length = l.length := List.length_map _
theorem vN_get (l : List Nat) (i : Nat) : (vN l)[i]? = (l[i]?).map fun (n : Nat) => V.int (n : Int) := List.getElem?_map
theorem vN_inj : ∀ {l m : List Nat}, vN l = vN m ↔ l = m
  | [], [] => by simp
  | [], _ :: _ => by simp [vN]
  | _ :: _, [] => by simp [vN]
  | a :: l, b :: m => by
    have ih := vN_inj (l := l) (m := m)
    unfold vN at ih ⊢
    simp only [List.map_cons, List.cons.injEq, V.int.injEq, ih]
    constructor <;> rintro ⟨h1, h2⟩ <;> exact ⟨by omega, h2⟩
theorem vN_cat (l m : List Nat) : vN l ++ vN m = vN (l ++ m) := (List.map_append).symm
theorem vN_one (n : Nat) : [V.int (n : Int)] = vN [n] := rfl
theorem vN_set (l : List Nat) (i n : Nat) : (vN l).set i (.int (n : Int)) = vN (l.set i n) := by
  unfold vN
  rw [List.map_set]
theorem atI_vN {l : List Nat} {i n : Nat} (h : l[i]? = some n) : atI (vN l) (i : Int) = some (.int (n : Int)) := atI_nat (by rw [vN_get, h]; rfl)
theorem ixN_vN {l : List Nat} {i n : Nat} (h : l[i]? = some n) : ixN (vN l).length (i : Int) = some i := by
  obtain ⟨h1, _⟩ := List.getElem?_eq_some_iff.mp h
  unfold ixN
  rw [if_pos (by omega), if_pos (by rw [vN_length]; omega)]
  rfl
theorem atI_lastN {l : List Nat} (h : l ≠ []) : atI (vN l) (-1) = some (.int (l.getLast?.getD 0 : Nat)) := by
  have e : vN l = vN l.dropLast ++ [V.int (l.getLast h : Nat)] := by
    rw [vN_one, vN_cat, List.dropLast_concat_getLast h]
  rw [e, atI_last, List.getLast?_eq_some_getLast h]
  rfl
theorem vN_take (l : List Nat) (i : Nat) : (vN l).take i = vN (l.take i) := by
  unfold vN
  rw [List.map_take]
theorem vN_drop (l : List Nat) (i : Nat) : (vN l).drop i = vN (l.drop i) := by
  unfold vN
  rw [List.map_drop]
theorem cutV_init (l : List Nat) : cutV (vN l) none (some (-1)) = vN l.dropLast := by
  unfold cutV HT.sIx
  rw [List.dropLast_eq_take, ← vN_take, vN_length]
  simp only [List.drop_zero]
  congr 1
  simp only [show (-1 : Int) < 0 by decide, if_true]
  omega
theorem cutV_tail {l : List Nat} (h : l ≠ []) : cutV (vN l) (some 1) none = vN (l.drop 1) := by
  have hl : 0 < l.length := List.length_pos_iff.mpr h
  have e : HT.sIx (vN l).length 0 (some 1) = 1 := by
    rw [show (1 : Int) = ((1 : Nat) : Int) from rfl, HT.sIx_nat, vN_length]
    omega
  unfold cutV
  rw [e, HT.sIx_none, vN_drop, List.take_of_length_le]
  rw [vN_length, vN_length, List.length_drop]
  exact Nat.le_refl _
theorem foldl_sum : ∀ (l : List Nat) (a : Nat), ((l.foldl (fun a b => a + b) a : Nat) : Int) = (a : Int) + (l.map fun (n : Nat) => (n : Int)).sum
  | [], a => by simp
  | b :: l, a => by
    rw [List.foldl_cons, foldl_sum l (a + b), List.map_cons, List.sum_cons]
    omega
theorem sum_vN (l : List Nat) : (l.map fun (n : Nat) => (n : Int)).sum = ((Vbdlan.sum l : Nat) : Int) := by
  unfold Vbdlan.sum
  rw [foldl_sum l 0]
  simp
theorem rep_vN (k : Nat) : (List.replicate k [V.int 0]).flatten = vN (List.replicate k 0) := by
  induction k with
  | zero => rfl
  | succ k ih =>
    rw [List.replicate_succ, List.flatten_cons, ih]
    rfl
/-- sum of a tracked list of natural numbers -/
def rSumN : List V → Hp → VK → Prop := fun vs H Q => ∃ (a : Addr) (l : List Nat), vs = [V.ref a] ∧ H a = some (.lst (vN l)) ∧ Q (.int (Vbdlan.sum l : Nat)) H
theorem cr_sumN {X : Cx} (hc : X.calm = true) : CallR X (.builtin "sum") rSumN := by
  intro pins s σ H xs us Q I r h
  obtain ⟨a, l, e, hq, q⟩ := h
  rw [vN_eq] at hq
  rw [← sum_vN] at q
  exact cr_sum hc pins s σ H xs us Q I r ⟨a, _, e, SqL.of hq, q⟩
end Bb

set_option Elab.async false
set_option linter.all false
set_option maxRecDepth 100000
namespace Bb
open PySem PySem.Spec PyProof.Rows L2 L3
theorem cmR {i : Int} {j : Nat} (h : j ≤ 1000000) : CMul i (j : Int) := .inr ⟨by omega, by omega⟩
theorem cmL {i : Nat} {j : Int} (h : i ≤ 1000000) : CMul (i : Int) j := .inl ⟨by omega, by omega⟩
section
variable {P : Program} {w : World} {K : PySem.W.Frag} {mg : Str → Option Value} {base : Heap} {a : Adr}
def sp_crossing : Sp := fun vs H Q _ => ∃ a v b w z : Nat, vs = [.int a, .int v, .int b, .int w, .int z] ∧ v ≤ 1000000 ∧ w ≤ 1000000 ∧ z ≤ 1000 ∧ Q (.int (crossI a v b w z)) H
theorem ok_crossing (T : Txt K mg a) : FnOk P w K mg base CX0 1 a.f_crossing a.d_crossing ["a", "v", "b", "w", "z"] sp_crossing := by
  refine T.F_crossing.ok sc_crossing (fun vs H Q E h => ?_) (fun cdv A outer s H vs Q E hr h => ?_)
  · obtain ⟨_, _, _, _, _, rfl, _⟩ := h
    rfl
  · obtain ⟨m, v, b, u, z, rfl, hv, hu, hz, k⟩ := h
    refine ⟨_, (pss_cons (ps_if (pt_cmpR op_eq (pe_op op_add (pv 1) (pv 3)) pe_int (nomark _)) (pss_one (ps_ret pe_int)) pss_nil) (pss_cons (ps_if (pt_cmpR op_ge (pe_op op_mul (pv 0) (pv 3)) (pe_op op_mul (pv 2) (pv 1)) (nomark _)) (pss_one (ps_ret (pe_op op_fdivB (pe_op op_mul (pe_op op_sub (pe_op op_mul (pv 0) (pv 3)) (pe_op op_mul (pv 2) (pv 1))) (pv 4)) (pe_op op_mul pe_int (pe_op op_add (pv 1) (pv 3)))))) pss_nil) (pss_one (ps_ret (pe_un un_neg (pe_op op_fdivB (pe_op op_mul (pe_op op_sub (pe_op op_mul (pv 2) (pv 1)) (pe_op op_mul (pv 0) (pv 3))) (pv 4)) (pe_op op_mul pe_int (pe_op op_add (pv 1) (pv 3))))))))), ?_⟩
    simp only [tSeq, tIfS, tTest, tOp, rI0, rI, rEq, rNe, tVar, tC, tRet, tRetN, tNext, tUn, rU, L2.start, tFld, sFld, sFldAug, rAdd, rSub, tDrop, tAsg, gName, tAug, tAugS, ipI, tCons, tNil, tLst, tCall, tMeth, tMake, tCB, tNot, tAnd, tOr, tB, tAndV, tOrV, tNotV, rIxH, rSetL, tSl, tPart, tNoPart, rSlH, rCat, rRep, rSumN, tBM, rAppend, rExtend, tCallV, tDinK, tDgetK, tlc_list, tYes, scal, exists_eq_left', exists_eq_left, exists_and_left, Option.some.injEq, L3.vi, L3.vr, L3.vb, List.map_cons, List.map_nil, List.length_cons, List.length_nil, Nat.reduceAdd, Nat.reduceSub, Nat.zero_add, Nat.sub_self, List.replicate, List.cons_append, List.nil_append, List.append_nil, L3.gz, L3.gs, L3.z0, L3.z1, and_true, true_and, Bool.not_eq_true, HO.ins.injEq, L3.hl, and_assoc, decide_eq_true_eq, Bool.false_eq_true, if_false, if_true, List.cons.injEq, cxK, Nat.reduceLT, Nat.reduceLeDiff, upd_same, upd_upd, tfor_range1, tfor_list, Int.toNat_natCast, vN_inj, vN_length, vN_set, Int.neg_neg]
    have c1 : CMul (m : Int) u := cmR hu
    have c2 : CMul (b : Int) v := cmR hv
    have c3 : ∀ i : Int, CMul i z := fun i => cmR (by omega)
    have c4 : CMul 1000 ((v : Int) + u) := .inl ⟨by decide, by decide⟩
    refine ite2 (fun h0 => ?_) fun h0 => ⟨c1, c2, ?_⟩
    · rw [cross_zero (by omega)] at k; exact k
    · have c5 : ∀ i : Int, CDivB i (1000 * ((v : Int) + u)) := fun i => ⟨by omega, by omega⟩
      refine ite2 (fun h1 => ⟨c1, c2, c3 _, c4, c5 _, ?_⟩) fun h1 => ⟨c2, c1, c3 _, c4, c5 _, ?_⟩
      · rw [cross_pos (by omega) h1] at k; exact k
      · rw [cross_neg (by omega) h1] at k; exact k
/-- mix_pools: the solute's own attributes alone change -/
def sp_mix (a : Adr) : Sp := fun vs H Q _ => ∃ (p d dx dd bl ba l rb rd : Addr) (x : Vbdlan.Solute) (f : Vbdlan.Form) (la : Bool) (ti : Nat), vs = [.ref p, .ref d] ∧ H p = some (.ins a.C_Solute dx (sf (sI x bl ba))) ∧ H d = some (.ins a.C_Device dd (df (dI f la ti l rb rd))) ∧
  f.v1 ≤ 1000000 ∧ f.v2 ≤ 1000000 ∧ f.x ≤ 1000 ∧ Q .non (upd H p (.ins a.C_Solute dx (sf (sI (Vbdlan.pools f x) bl ba))))
theorem ok_Solute_mix_pools (T : Txt K mg a) : FnOk P w K mg base CX0 2 a.f_Solute_mix_pools a.d_Solute_mix_pools ["self", "device"] (sp_mix a) := by
  refine T.F_Solute_mix_pools.ok sc_Solute_mix_pools (fun vs H Q E h => ?_) (fun cdv A outer s H vs Q E hr h => ?_)
  · obtain ⟨_, _, _, _, _, _, _, _, _, _, _, _, _, rfl, _⟩ := h
    rfl
  · obtain ⟨p, d, dx, dd, bl, ba, l, rb, rd, x, f, la, ti, rfl, hp, hd, h1, h2, h3, k⟩ := h
    refine ⟨_, (pss_cons (ps_fldaug (pv 0) (pe_fld (pv 0) rfl) in_add) (pss_cons (ps_fldaug (pv 0) (pe_fld (pv 0) rfl) in_add) (pss_cons (ps_set (i := 2) sc_Solute_mix_pools.nd rfl (Or.inl rfl) (pe_call (ok_crossing T) (hr.mono (by decide)) rfl T.g_crossing T.F_crossing.kp T.bi_crossing .nil pass0 (pa_cons (pe_fld (pv 0) rfl) (pa_cons (pe_fld (pv 1) rfl) (pa_cons (pe_fld (pv 0) rfl) (pa_cons (pe_fld (pv 1) rfl) (pa_cons (pe_fld (pv 1) rfl) pa_nil))))))) (pss_cons (ps_fldaug (pv 0) (pv 2) in_sub) (pss_one (ps_fldaug (pv 0) (pv 2) in_add)))))), ?_⟩
    have hne : d ≠ p := ne_sd hp hd
    simp only [tSeq, tIfS, tTest, tOp, rI0, rI, rEq, rNe, tVar, tC, tRet, tRetN, tNext, tUn, rU, L2.start, tFld, sFld, sFldAug, rAdd, rSub, tDrop, tAsg, gName, tAug, tAugS, ipI, tCons, tNil, tLst, tCall, tMeth, tMake, tCB, tNot, tAnd, tOr, tB, tAndV, tOrV, tNotV, rIxH, rSetL, tSl, tPart, tNoPart, rSlH, rCat, rRep, rSumN, tBM, rAppend, rExtend, tCallV, tDinK, tDgetK, tlc_list, tYes, scal, exists_eq_left', exists_eq_left, exists_and_left, Option.some.injEq, L3.vi, L3.vr, L3.vb, List.map_cons, List.map_nil, List.length_cons, List.length_nil, Nat.reduceAdd, Nat.reduceSub, Nat.zero_add, Nat.sub_self, List.replicate, List.cons_append, List.nil_append, List.append_nil, L3.gz, L3.gs, L3.z0, L3.z1, and_true, true_and, Bool.not_eq_true, HO.ins.injEq, L3.hl, and_assoc, decide_eq_true_eq, Bool.false_eq_true, if_false, if_true, List.cons.injEq, cxK, Nat.reduceLT, Nat.reduceLeDiff, upd_same, upd_upd, tfor_range1, tfor_list, Int.toNat_natCast, vN_inj, vN_length, vN_set, Int.neg_neg, sf_all, df_all, hp, hd, upd_ne hne, T.nos_Solute, T.nos_Device, dI, sI]
    refine ⟨x.m1, f.v1, x.m2 + x.gen, f.v2, f.x, rfl, h1, h2, h3, ?_⟩
    have e1 := exch1 (a := x.m1) (v := f.v1) (b := x.m2 + x.gen) (w := f.v2) (z := f.x) h3
    have e2 := exch2 (a := x.m1) (v := f.v1) (b := x.m2 + x.gen) (w := f.v2) (z := f.x) h3
    rw [Int.natCast_add] at e2
    simp only [tSeq, tIfS, tTest, tOp, rI0, rI, rEq, rNe, tVar, tC, tRet, tRetN, tNext, tUn, rU, L2.start, tFld, sFld, sFldAug, rAdd, rSub, tDrop, tAsg, gName, tAug, tAugS, ipI, tCons, tNil, tLst, tCall, tMeth, tMake, tCB, tNot, tAnd, tOr, tB, tAndV, tOrV, tNotV, rIxH, rSetL, tSl, tPart, tNoPart, rSlH, rCat, rRep, rSumN, tBM, rAppend, rExtend, tCallV, tDinK, tDgetK, tlc_list, tYes, scal, exists_eq_left', exists_eq_left, exists_and_left, Option.some.injEq, L3.vi, L3.vr, L3.vb, List.map_cons, List.map_nil, List.length_cons, List.length_nil, Nat.reduceAdd, Nat.reduceSub, Nat.zero_add, Nat.sub_self, List.replicate, List.cons_append, List.nil_append, List.append_nil, L3.gz, L3.gs, L3.z0, L3.z1, and_true, true_and, Bool.not_eq_true, HO.ins.injEq, L3.hl, and_assoc, decide_eq_true_eq, Bool.false_eq_true, if_false, if_true, List.cons.injEq, cxK, Nat.reduceLT, Nat.reduceLeDiff, upd_same, upd_upd, tfor_range1, tfor_list, Int.toNat_natCast, vN_inj, vN_length, vN_set, Int.neg_neg, sf_all, df_all, hp, hd, upd_ne hne, T.nos_Solute, T.nos_Device]
    rw [e1, e2]
    exact k
end
end Bb

set_option Elab.async false
set_option linter.all false
set_option maxRecDepth 100000
namespace Bb
open PySem PySem.Spec PyProof.Rows L2 L3
section
variable {P : Program} {w : World} {K : PySem.W.Frag} {mg : Str → Option Value} {base : Heap} {a : Adr}
/-- move_blood: a new list of cells -/
def sp_mvb (a : Adr) : Sp := fun vs H Q _ => ∃ (p d dx dd bl ba l rb rd : Addr) (x : Vbdlan.Solute) (f : Vbdlan.Form) (la : Bool) (ti : Nat), vs = [.ref p, .ref d] ∧ H p = some (.ins a.C_Solute dx (sf (sI x bl ba))) ∧ H d = some (.ins a.C_Device dd (df (dI f la ti l rb rd))) ∧
  H bl = some (.lst (vN x.blood)) ∧ x.blood.length = f.n ∧ 0 < f.n ∧ f.n ≤ 32 ∧ f.bv ≤ f.v1 ∧ 0 < f.v1 ∧ f.v1 ≤ 1000000 ∧ f.round ≤ 1000 ∧
  ∀ (H' : Hp) (bl' : Addr), H' p = some (.ins a.C_Solute dx (sf (sI (Vbdlan.bloodMove f x) bl' ba))) → H' bl' = some (.lst (vN (Vbdlan.bloodMove f x).blood)) → H bl' = none → But H H' p → Q .non H'
theorem ok_Solute_move_blood (T : Txt K mg a) : FnOk P w K mg base CX0 2 a.f_Solute_move_blood a.d_Solute_move_blood ["self", "device"] (sp_mvb a) := by
  refine T.F_Solute_move_blood.ok sc_Solute_move_blood (fun vs H Q E h => ?_) (fun cdv A outer s H vs Q E hr h => ?_)
  · obtain ⟨_, _, _, _, _, _, _, _, _, _, _, _, _, rfl, _⟩ := h
    rfl
  · obtain ⟨p, d, dx, dd, bl, ba, l, rb, rd, x, f, la, ti, rfl, hp, hd, hbl, hn, n0, n32, hbv, v0, v1, hr1, k⟩ := h
    have hne : d ≠ p := ne_sd hp hd
    have hbp : bl ≠ p := ne_of hbl hp (by intro z; cases z)
    have hb : x.blood ≠ [] := by intro z; rw [z] at hn; simp at hn; omega
    generalize hL : x.blood.getLast?.getD 0 = L
    generalize hA : L * f.round / 1000 = G
    generalize hV : f.bv - f.bv * f.round / 1000 = W
    generalize hD : x.m1 * W / f.v1 = D
    have lG : G ≤ L := by rw [← hA]; exact share_le hr1
    have lW : f.bv * f.round / 1000 ≤ f.bv := share_le hr1
    have lD : D ≤ x.m1 := by rw [← hD]; exact draw_le (by omega)
    have q0 : atI (vN x.blood) (-1) = some (.int (L : Nat)) := by rw [← hL]; exact atI_lastN hb
    have q1 : (L : Int) * f.round / 1000 = (G : Int) := by rw [← hA]; rfl
    have q2 : (f.bv : Int) - f.bv * f.round / 1000 = (W : Int) := by rw [← hV, Int.ofNat_sub lW]; rfl
    have q3 : (x.m1 : Int) * W / f.v1 = (D : Int) := by rw [← hD]; rfl
    have c1 : CMul (L : Int) f.round := cmR (by omega)
    have c2 : CMul (f.bv : Int) f.round := cmR (by omega)
    have c3 : CMul (x.m1 : Int) W := cmR (by omega)
    have c4 : ∀ i : Int, CDivB i 1000 := fun i => ⟨by decide, by decide⟩
    have c5 : ∀ i : Int, CDivB i f.v1 := fun i => ⟨by omega, by omega⟩
    refine ⟨_, (pss_cons (ps_set (i := 2) sc_Solute_move_blood.nd rfl (Or.inl rfl) (pe_ix ix_lst (pe_fld (pv 0) rfl) (pe_un un_neg pe_int) (fun _ _ => rfl))) (pss_cons (ps_set (i := 3) sc_Solute_move_blood.nd rfl (Or.inl rfl) (pe_op op_fdivB (pe_op op_mul (pv 2) (pe_fld (pv 1) rfl)) pe_int)) (pss_cons (ps_set (i := 4) sc_Solute_move_blood.nd rfl (Or.inl rfl) (pe_op op_sub (pe_fld (pv 1) rfl) (pe_op op_fdivB (pe_op op_mul (pe_fld (pv 1) rfl) (pe_fld (pv 1) rfl)) pe_int))) (pss_cons (ps_set (i := 5) sc_Solute_move_blood.nd rfl (Or.inl rfl) (pe_op op_fdivB (pe_op op_mul (pe_fld (pv 0) rfl) (pv 4)) (pe_fld (pv 1) rfl))) (pss_cons (ps_fldaug (pv 0) (pe_op op_sub (pe_op op_sub (pv 2) (pv 3)) (pv 5)) in_add) (pss_cons (ps_fld (pv 0) (pe_op op_cat (pe_lst (pa_cons (pe_op op_add (pv 3) (pv 5)) pa_nil)) (pe_slice sl_lst (pe_fld (pv 0) rfl) po_none (po_some (pe_un un_neg pe_int)))) rfl) (pss_cons (ps_fldaug (pv 0) (pe_op op_add (pv 3) (pv 5)) in_add) (pss_one (ps_fldaug (pv 0) (pv 2) in_add))))))))), ?_⟩
    refine hide5 fun U hU => ?_
    simp only [tSeq, tIfS, tTest, tOp, rI0, rI, rEq, rNe, tVar, tC, tRet, tRetN, tNext, tUn, rU, L2.start, tFld, sFld, sFldAug, rAdd, rSub, tDrop, tAsg, gName, tAug, tAugS, ipI, tCons, tNil, tLst, tCall, tMeth, tMake, tCB, tNot, tAnd, tOr, tB, tAndV, tOrV, tNotV, rIxH, rSetL, tSl, tPart, tNoPart, rSlH, rCat, rRep, rSumN, tBM, rAppend, rExtend, tCallV, tDinK, tDgetK, tlc_list, tYes, scal, exists_eq_left', exists_eq_left, exists_and_left, Option.some.injEq, L3.vi, L3.vr, L3.vb, List.map_cons, List.map_nil, List.length_cons, List.length_nil, Nat.reduceAdd, Nat.reduceSub, Nat.zero_add, Nat.sub_self, List.replicate, List.cons_append, List.nil_append, List.append_nil, L3.gz, L3.gs, L3.z0, L3.z1, and_true, true_and, Bool.not_eq_true, HO.ins.injEq, L3.hl, and_assoc, decide_eq_true_eq, Bool.false_eq_true, if_false, if_true, List.cons.injEq, cxK, Nat.reduceLT, Nat.reduceLeDiff, upd_same, upd_upd, tfor_range1, tfor_list, Int.toNat_natCast, vN_inj, vN_length, vN_set, Int.neg_neg, sf_all, df_all, hp, hd, hbl, upd_ne hne, upd_ne hbp, T.nos_Solute, T.nos_Device, dI, sI, q0, q1, q2, q3, c1, c2, c3, c4, c5]
    refine gen_upd (Q := U _ _) fun H1 g1 B1 => ?_
    have g2 := B1 bl _ hbl hbp
    subst hU
    refine hide1 fun U hU => ?_
    simp only [tSeq, tIfS, tTest, tOp, rI0, rI, rEq, rNe, tVar, tC, tRet, tRetN, tNext, tUn, rU, L2.start, tFld, sFld, sFldAug, rAdd, rSub, tDrop, tAsg, gName, tAug, tAugS, ipI, tCons, tNil, tLst, tCall, tMeth, tMake, tCB, tNot, tAnd, tOr, tB, tAndV, tOrV, tNotV, rIxH, rSetL, tSl, tPart, tNoPart, rSlH, rCat, rRep, rSumN, tBM, rAppend, rExtend, tCallV, tDinK, tDgetK, tlc_list, tYes, scal, exists_eq_left', exists_eq_left, exists_and_left, Option.some.injEq, L3.vi, L3.vr, L3.vb, List.map_cons, List.map_nil, List.length_cons, List.length_nil, Nat.reduceAdd, Nat.reduceSub, Nat.zero_add, Nat.sub_self, List.replicate, List.cons_append, List.nil_append, List.append_nil, L3.gz, L3.gs, L3.z0, L3.z1, and_true, true_and, Bool.not_eq_true, HO.ins.injEq, L3.hl, and_assoc, decide_eq_true_eq, Bool.false_eq_true, if_false, if_true, List.cons.injEq, cxK, Nat.reduceLT, Nat.reduceLeDiff, upd_same, upd_upd, tfor_range1, tfor_list, Int.toNat_natCast, vN_inj, vN_length, vN_set, Int.neg_neg, sf_all, df_all, g1, T.nos_Solute, T.nos_Device]
    refine ⟨by decide, ?_⟩
    intro l1 f_l1
    generalize hG_l1 : upd H1 l1 _ = H2
    obtain ⟨e_l1, S_l1⟩ := new_facts hG_l1 f_l1
    clear hG_l1
    have g1 := S_l1 _ _ g1
    have g2 := S_l1 _ _ g2
    simp only [g1, g2, tSeq, tIfS, tTest, tOp, rI0, rI, rEq, rNe, tVar, tC, tRet, tRetN, tNext, tUn, rU, L2.start, tFld, sFld, sFldAug, rAdd, rSub, tDrop, tAsg, gName, tAug, tAugS, ipI, tCons, tNil, tLst, tCall, tMeth, tMake, tCB, tNot, tAnd, tOr, tB, tAndV, tOrV, tNotV, rIxH, rSetL, tSl, tPart, tNoPart, rSlH, rCat, rRep, rSumN, tBM, rAppend, rExtend, tCallV, tDinK, tDgetK, tlc_list, tYes, scal, exists_eq_left', exists_eq_left, exists_and_left, Option.some.injEq, L3.vi, L3.vr, L3.vb, List.map_cons, List.map_nil, List.length_cons, List.length_nil, Nat.reduceAdd, Nat.reduceSub, Nat.zero_add, Nat.sub_self, List.replicate, List.cons_append, List.nil_append, List.append_nil, L3.gz, L3.gs, L3.z0, L3.z1, and_true, true_and, Bool.not_eq_true, HO.ins.injEq, L3.hl, and_assoc, decide_eq_true_eq, Bool.false_eq_true, if_false, if_true, List.cons.injEq, cxK, Nat.reduceLT, Nat.reduceLeDiff, upd_same, upd_upd, tfor_range1, tfor_list, Int.toNat_natCast, vN_inj, vN_length, vN_set, Int.neg_neg, sf_all, df_all, T.nos_Solute, T.nos_Device, cutV_init]
    intro l2 f_l2
    generalize hG_l2 : upd H2 l2 _ = H3
    obtain ⟨e_l2, S_l2⟩ := new_facts hG_l2 f_l2
    clear hG_l2
    have g1 := S_l2 _ _ g1
    have e_l1 := S_l2 _ _ e_l1
    simp only [g1, e_l1, e_l2, tSeq, tIfS, tTest, tOp, rI0, rI, rEq, rNe, tVar, tC, tRet, tRetN, tNext, tUn, rU, L2.start, tFld, sFld, sFldAug, rAdd, rSub, tDrop, tAsg, gName, tAug, tAugS, ipI, tCons, tNil, tLst, tCall, tMeth, tMake, tCB, tNot, tAnd, tOr, tB, tAndV, tOrV, tNotV, rIxH, rSetL, tSl, tPart, tNoPart, rSlH, rCat, rRep, rSumN, tBM, rAppend, rExtend, tCallV, tDinK, tDgetK, tlc_list, tYes, scal, exists_eq_left', exists_eq_left, exists_and_left, Option.some.injEq, L3.vi, L3.vr, L3.vb, List.map_cons, List.map_nil, List.length_cons, List.length_nil, Nat.reduceAdd, Nat.reduceSub, Nat.zero_add, Nat.sub_self, List.replicate, List.cons_append, List.nil_append, List.append_nil, L3.gz, L3.gs, L3.z0, L3.z1, and_true, true_and, Bool.not_eq_true, HO.ins.injEq, L3.hl, and_assoc, decide_eq_true_eq, Bool.false_eq_true, if_false, if_true, List.cons.injEq, cxK, Nat.reduceLT, Nat.reduceLeDiff, upd_same, upd_upd, tfor_range1, tfor_list, Int.toNat_natCast, vN_inj, vN_length, vN_set, Int.neg_neg, sf_all, df_all]
    refine ⟨sl_ok (by rw [List.length_dropLast]; omega), ?_⟩
    intro l3 f_l3
    generalize hG_l3 : upd H3 l3 _ = H4
    obtain ⟨e_l3, S_l3⟩ := new_facts hG_l3 f_l3
    clear hG_l3
    have n3 : l3 ≠ p := (ne_of_none g1 f_l3).symm
    have g1 := S_l3 _ _ g1
    simp only [g1, tSeq, tIfS, tTest, tOp, rI0, rI, rEq, rNe, tVar, tC, tRet, tRetN, tNext, tUn, rU, L2.start, tFld, sFld, sFldAug, rAdd, rSub, tDrop, tAsg, gName, tAug, tAugS, ipI, tCons, tNil, tLst, tCall, tMeth, tMake, tCB, tNot, tAnd, tOr, tB, tAndV, tOrV, tNotV, rIxH, rSetL, tSl, tPart, tNoPart, rSlH, rCat, rRep, rSumN, tBM, rAppend, rExtend, tCallV, tDinK, tDgetK, tlc_list, tYes, scal, exists_eq_left', exists_eq_left, exists_and_left, Option.some.injEq, L3.vi, L3.vr, L3.vb, List.map_cons, List.map_nil, List.length_cons, List.length_nil, Nat.reduceAdd, Nat.reduceSub, Nat.zero_add, Nat.sub_self, List.replicate, List.cons_append, List.nil_append, List.append_nil, L3.gz, L3.gs, L3.z0, L3.z1, and_true, true_and, Bool.not_eq_true, HO.ins.injEq, L3.hl, and_assoc, decide_eq_true_eq, Bool.false_eq_true, if_false, if_true, List.cons.injEq, cxK, Nat.reduceLT, Nat.reduceLeDiff, upd_same, upd_upd, tfor_range1, tfor_list, Int.toNat_natCast, vN_inj, vN_length, vN_set, Int.neg_neg, sf_all, df_all, T.nos_Solute, T.nos_Device]
    have B4 := ((B1.same S_l1).same S_l2).same S_l3
    refine gen_upd (Q := U _ _) fun H5 g1 B5 => ?_
    have e_l3 := B5 _ _ e_l3 n3
    have B5 := B4.trans B5
    subst hU
    simp only [g1, tSeq, tIfS, tTest, tOp, rI0, rI, rEq, rNe, tVar, tC, tRet, tRetN, tNext, tUn, rU, L2.start, tFld, sFld, sFldAug, rAdd, rSub, tDrop, tAsg, gName, tAug, tAugS, ipI, tCons, tNil, tLst, tCall, tMeth, tMake, tCB, tNot, tAnd, tOr, tB, tAndV, tOrV, tNotV, rIxH, rSetL, tSl, tPart, tNoPart, rSlH, rCat, rRep, rSumN, tBM, rAppend, rExtend, tCallV, tDinK, tDgetK, tlc_list, tYes, scal, exists_eq_left', exists_eq_left, exists_and_left, Option.some.injEq, L3.vi, L3.vr, L3.vb, List.map_cons, List.map_nil, List.length_cons, List.length_nil, Nat.reduceAdd, Nat.reduceSub, Nat.zero_add, Nat.sub_self, List.replicate, List.cons_append, List.nil_append, List.append_nil, L3.gz, L3.gs, L3.z0, L3.z1, and_true, true_and, Bool.not_eq_true, HO.ins.injEq, L3.hl, and_assoc, decide_eq_true_eq, Bool.false_eq_true, if_false, if_true, List.cons.injEq, cxK, Nat.reduceLT, Nat.reduceLeDiff, upd_same, upd_upd, tfor_range1, tfor_list, Int.toNat_natCast, vN_inj, vN_length, vN_set, Int.neg_neg, sf_all, df_all, T.nos_Solute, T.nos_Device]
    have z1 : (x.m1 : Int) + (L - G - D) = ((x.m1 - D + (L - G) : Nat) : Int) := by omega
    have z2 : (V.int ((G : Int) + D) :: vN x.blood.dropLast) = vN (((G + D) :: x.blood).take f.n) := by
      rw [show f.n = (f.n - 1) + 1 by omega, List.take_succ_cons, ← hn, ← List.dropLast_eq_take]
      rfl
    have y0 : f.v1 ≠ 0 := by omega
    have z3 : Vbdlan.bloodMove f x = { x with m1 := x.m1 - D + (L - G), blood := ((G + D) :: x.blood).take f.n, into := x.into + (G + D), outOf := x.outOf + L } := by
      unfold Vbdlan.bloodMove
      simp only [if_neg y0, hL, hA, hV, hD]
    rw [z3] at k
    rw [z2] at e_l3
    rw [z1]
    refine k _ l3 upd_same (by rw [upd_ne n3]; exact e_l3) ?_ B5.upd
    exact ((B1.same S_l1).same S_l2).free f_l3 n3
/-- move_bath: a new list of cells -/
def sp_mvt (a : Adr) : Sp := fun vs H Q _ => ∃ (p dx bl ba : Addr) (x : Vbdlan.Solute) (f : Vbdlan.Form), vs = [.ref p, .bl f.along] ∧ H p = some (.ins a.C_Solute dx (sf (sI x bl ba))) ∧ H ba = some (.lst (vN x.bath)) ∧ x.bath.length = f.n ∧ 0 < f.n ∧ f.n ≤ 32 ∧
  ∀ (H' : Hp) (ba' : Addr), H' p = some (.ins a.C_Solute dx (sf (sI (Vbdlan.bathMove f x) bl ba'))) → H' ba' = some (.lst (vN (Vbdlan.bathMove f x).bath)) → H ba' = none → But H H' p → Q .non H'
theorem ok_Solute_move_bath (T : Txt K mg a) : FnOk P w K mg base CX0 2 a.f_Solute_move_bath a.d_Solute_move_bath ["self", "along"] (sp_mvt a) := by
  refine T.F_Solute_move_bath.ok sc_Solute_move_bath (fun vs H Q E h => ?_) (fun cdv A outer s H vs Q E hr h => ?_)
  · obtain ⟨_, _, _, _, _, _, rfl, _⟩ := h
    rfl
  · obtain ⟨p, dx, bl, ba, x, f, rfl, hp, hba, hn, n0, n32, k⟩ := h
    have hbp : ba ≠ p := ne_of hba hp (by intro z; cases z)
    have hb : x.bath ≠ [] := by intro z; rw [z] at hn; simp at hn; omega
    refine ⟨_, (pss_cons (ps_if (pt_val (pv 1)) (pss_cons (ps_fldaug (pv 0) (pe_ix ix_lst (pe_fld (pv 0) rfl) (pe_un un_neg pe_int) (fun _ _ => rfl)) in_add) (pss_one (ps_fld (pv 0) (pe_op op_cat (pe_lst (pa_cons (pe_fld (pv 0) rfl) pa_nil)) (pe_slice sl_lst (pe_fld (pv 0) rfl) po_none (po_some (pe_un un_neg pe_int)))) rfl))) (pss_cons (ps_fldaug (pv 0) (pe_ix ix_lst (pe_fld (pv 0) rfl) pe_int (fun _ _ => rfl)) in_add) (pss_one (ps_fld (pv 0) (pe_op op_cat (pe_slice sl_lst (pe_fld (pv 0) rfl) (po_some pe_int) po_none) (pe_lst (pa_cons (pe_fld (pv 0) rfl) pa_nil))) rfl)))) (pss_one (ps_fldaug (pv 0) (pe_fld (pv 0) rfl) in_add))), ?_⟩
    have fin : ∀ (H' : Hp) (ba' : Addr) (sp : Nat) (bb : List Nat), H' p = some (.ins a.C_Solute dx (sf (sI { x with spent := sp, bath := bb, came := x.came + x.fresh } bl ba'))) → H' ba' = some (.lst (vN bb)) → H ba' = none → But H H' p →
        Vbdlan.bathMove f x = { x with bath := bb, came := x.came + x.fresh, spent := sp } → Q .non H' := fun H' ba' sp bb h1 h2 h3 h4 h5 => by
      rw [h5] at k
      exact k H' ba' h1 h2 h3 h4
    refine hide1 fun U hU => ?_
    rcases Bool.eq_false_or_eq_true f.along with hal | hal
    · have q0 : atI (vN x.bath) (-1) = some (.int (x.bath.getLast?.getD 0 : Nat)) := atI_lastN hb
      simp only [tSeq, tIfS, tTest, tOp, rI0, rI, rEq, rNe, tVar, tC, tRet, tRetN, tNext, tUn, rU, L2.start, tFld, sFld, sFldAug, rAdd, rSub, tDrop, tAsg, gName, tAug, tAugS, ipI, tCons, tNil, tLst, tCall, tMeth, tMake, tCB, tNot, tAnd, tOr, tB, tAndV, tOrV, tNotV, rIxH, rSetL, tSl, tPart, tNoPart, rSlH, rCat, rRep, rSumN, tBM, rAppend, rExtend, tCallV, tDinK, tDgetK, tlc_list, tYes, scal, exists_eq_left', exists_eq_left, exists_and_left, Option.some.injEq, L3.vi, L3.vr, L3.vb, List.map_cons, List.map_nil, List.length_cons, List.length_nil, Nat.reduceAdd, Nat.reduceSub, Nat.zero_add, Nat.sub_self, List.replicate, List.cons_append, List.nil_append, List.append_nil, L3.gz, L3.gs, L3.z0, L3.z1, and_true, true_and, Bool.not_eq_true, HO.ins.injEq, L3.hl, and_assoc, decide_eq_true_eq, Bool.false_eq_true, if_false, if_true, List.cons.injEq, cxK, Nat.reduceLT, Nat.reduceLeDiff, upd_same, upd_upd, tfor_range1, tfor_list, Int.toNat_natCast, vN_inj, vN_length, vN_set, Int.neg_neg, sf_all, hp, hba, upd_ne hbp, T.nos_Solute, sI, hal, q0]
      refine ⟨by decide, ?_⟩
      generalize hH1 : upd H p _ = H1
      have g1 := congrFun hH1.symm p
      have g2 := congrFun hH1.symm ba
      have B1 : But H H1 p := by rw [← hH1]; exact But.refl.upd
      rw [upd_same] at g1
      rw [upd_ne hbp, hba] at g2
      clear hH1
      intro l1 f_l1
      generalize hG_l1 : upd H1 l1 _ = H2
      obtain ⟨e_l1, S_l1⟩ := new_facts hG_l1 f_l1
      clear hG_l1
      have g1 := S_l1 _ _ g1
      have g2 := S_l1 _ _ g2
      simp only [g1, g2, tSeq, tIfS, tTest, tOp, rI0, rI, rEq, rNe, tVar, tC, tRet, tRetN, tNext, tUn, rU, L2.start, tFld, sFld, sFldAug, rAdd, rSub, tDrop, tAsg, gName, tAug, tAugS, ipI, tCons, tNil, tLst, tCall, tMeth, tMake, tCB, tNot, tAnd, tOr, tB, tAndV, tOrV, tNotV, rIxH, rSetL, tSl, tPart, tNoPart, rSlH, rCat, rRep, rSumN, tBM, rAppend, rExtend, tCallV, tDinK, tDgetK, tlc_list, tYes, scal, exists_eq_left', exists_eq_left, exists_and_left, Option.some.injEq, L3.vi, L3.vr, L3.vb, List.map_cons, List.map_nil, List.length_cons, List.length_nil, Nat.reduceAdd, Nat.reduceSub, Nat.zero_add, Nat.sub_self, List.replicate, List.cons_append, List.nil_append, List.append_nil, L3.gz, L3.gs, L3.z0, L3.z1, and_true, true_and, Bool.not_eq_true, HO.ins.injEq, L3.hl, and_assoc, decide_eq_true_eq, Bool.false_eq_true, if_false, if_true, List.cons.injEq, cxK, Nat.reduceLT, Nat.reduceLeDiff, upd_same, upd_upd, tfor_range1, tfor_list, Int.toNat_natCast, vN_inj, vN_length, vN_set, Int.neg_neg, sf_all, T.nos_Solute, cutV_init]
      intro l2 f_l2
      generalize hG_l2 : upd H2 l2 _ = H3
      obtain ⟨e_l2, S_l2⟩ := new_facts hG_l2 f_l2
      clear hG_l2
      have g1 := S_l2 _ _ g1
      have e_l1 := S_l2 _ _ e_l1
      simp only [g1, e_l1, e_l2, tSeq, tIfS, tTest, tOp, rI0, rI, rEq, rNe, tVar, tC, tRet, tRetN, tNext, tUn, rU, L2.start, tFld, sFld, sFldAug, rAdd, rSub, tDrop, tAsg, gName, tAug, tAugS, ipI, tCons, tNil, tLst, tCall, tMeth, tMake, tCB, tNot, tAnd, tOr, tB, tAndV, tOrV, tNotV, rIxH, rSetL, tSl, tPart, tNoPart, rSlH, rCat, rRep, rSumN, tBM, rAppend, rExtend, tCallV, tDinK, tDgetK, tlc_list, tYes, scal, exists_eq_left', exists_eq_left, exists_and_left, Option.some.injEq, L3.vi, L3.vr, L3.vb, List.map_cons, List.map_nil, List.length_cons, List.length_nil, Nat.reduceAdd, Nat.reduceSub, Nat.zero_add, Nat.sub_self, List.replicate, List.cons_append, List.nil_append, List.append_nil, L3.gz, L3.gs, L3.z0, L3.z1, and_true, true_and, Bool.not_eq_true, HO.ins.injEq, L3.hl, and_assoc, decide_eq_true_eq, Bool.false_eq_true, if_false, if_true, List.cons.injEq, cxK, Nat.reduceLT, Nat.reduceLeDiff, upd_same, upd_upd, tfor_range1, tfor_list, Int.toNat_natCast, vN_inj, vN_length, vN_set, Int.neg_neg, sf_all]
      refine ⟨sl_ok (by rw [List.length_dropLast]; omega), ?_⟩
      intro l3 f_l3
      generalize hG_l3 : upd H3 l3 _ = H4
      obtain ⟨e_l3, S_l3⟩ := new_facts hG_l3 f_l3
      clear hG_l3
      have n3 : l3 ≠ p := (ne_of_none g1 f_l3).symm
      have g1 := S_l3 _ _ g1
      simp only [g1, tSeq, tIfS, tTest, tOp, rI0, rI, rEq, rNe, tVar, tC, tRet, tRetN, tNext, tUn, rU, L2.start, tFld, sFld, sFldAug, rAdd, rSub, tDrop, tAsg, gName, tAug, tAugS, ipI, tCons, tNil, tLst, tCall, tMeth, tMake, tCB, tNot, tAnd, tOr, tB, tAndV, tOrV, tNotV, rIxH, rSetL, tSl, tPart, tNoPart, rSlH, rCat, rRep, rSumN, tBM, rAppend, rExtend, tCallV, tDinK, tDgetK, tlc_list, tYes, scal, exists_eq_left', exists_eq_left, exists_and_left, Option.some.injEq, L3.vi, L3.vr, L3.vb, List.map_cons, List.map_nil, List.length_cons, List.length_nil, Nat.reduceAdd, Nat.reduceSub, Nat.zero_add, Nat.sub_self, List.replicate, List.cons_append, List.nil_append, List.append_nil, L3.gz, L3.gs, L3.z0, L3.z1, and_true, true_and, Bool.not_eq_true, HO.ins.injEq, L3.hl, and_assoc, decide_eq_true_eq, Bool.false_eq_true, if_false, if_true, List.cons.injEq, cxK, Nat.reduceLT, Nat.reduceLeDiff, upd_same, upd_upd, tfor_range1, tfor_list, Int.toNat_natCast, vN_inj, vN_length, vN_set, Int.neg_neg, sf_all, T.nos_Solute]
      have B3 := (B1.same S_l1).same S_l2
      refine gen_upd (Q := U _ _) fun H5 g1 B5 => ?_
      have e_l3 := B5 _ _ e_l3 n3
      have B5 := (B3.same S_l3).trans B5
      subst hU
      simp only [g1, tSeq, tIfS, tTest, tOp, rI0, rI, rEq, rNe, tVar, tC, tRet, tRetN, tNext, tUn, rU, L2.start, tFld, sFld, sFldAug, rAdd, rSub, tDrop, tAsg, gName, tAug, tAugS, ipI, tCons, tNil, tLst, tCall, tMeth, tMake, tCB, tNot, tAnd, tOr, tB, tAndV, tOrV, tNotV, rIxH, rSetL, tSl, tPart, tNoPart, rSlH, rCat, rRep, rSumN, tBM, rAppend, rExtend, tCallV, tDinK, tDgetK, tlc_list, tYes, scal, exists_eq_left', exists_eq_left, exists_and_left, Option.some.injEq, L3.vi, L3.vr, L3.vb, List.map_cons, List.map_nil, List.length_cons, List.length_nil, Nat.reduceAdd, Nat.reduceSub, Nat.zero_add, Nat.sub_self, List.replicate, List.cons_append, List.nil_append, List.append_nil, L3.gz, L3.gs, L3.z0, L3.z1, and_true, true_and, Bool.not_eq_true, HO.ins.injEq, L3.hl, and_assoc, decide_eq_true_eq, Bool.false_eq_true, if_false, if_true, List.cons.injEq, cxK, Nat.reduceLT, Nat.reduceLeDiff, upd_same, upd_upd, tfor_range1, tfor_list, Int.toNat_natCast, vN_inj, vN_length, vN_set, Int.neg_neg, sf_all, T.nos_Solute]
      refine fin _ l3 (x.spent + x.bath.getLast?.getD 0) ((x.fresh :: x.bath).take f.n) upd_same ?_ (B3.free f_l3 n3) B5.upd ?_
      · rw [upd_ne n3, e_l3, show f.n = (f.n - 1) + 1 by omega, List.take_succ_cons, ← hn, ← List.dropLast_eq_take]
        rfl
      · unfold Vbdlan.bathMove
        rw [if_pos hal]
    · obtain ⟨b0, br, hbr⟩ := List.exists_cons_of_ne_nil hb
      have q0 : atI (vN x.bath) 0 = some (.int (b0 : Nat)) := by
        have : x.bath[0]? = some b0 := by rw [hbr]; rfl
        exact atI_vN this
      simp only [tSeq, tIfS, tTest, tOp, rI0, rI, rEq, rNe, tVar, tC, tRet, tRetN, tNext, tUn, rU, L2.start, tFld, sFld, sFldAug, rAdd, rSub, tDrop, tAsg, gName, tAug, tAugS, ipI, tCons, tNil, tLst, tCall, tMeth, tMake, tCB, tNot, tAnd, tOr, tB, tAndV, tOrV, tNotV, rIxH, rSetL, tSl, tPart, tNoPart, rSlH, rCat, rRep, rSumN, tBM, rAppend, rExtend, tCallV, tDinK, tDgetK, tlc_list, tYes, scal, exists_eq_left', exists_eq_left, exists_and_left, Option.some.injEq, L3.vi, L3.vr, L3.vb, List.map_cons, List.map_nil, List.length_cons, List.length_nil, Nat.reduceAdd, Nat.reduceSub, Nat.zero_add, Nat.sub_self, List.replicate, List.cons_append, List.nil_append, List.append_nil, L3.gz, L3.gs, L3.z0, L3.z1, and_true, true_and, Bool.not_eq_true, HO.ins.injEq, L3.hl, and_assoc, decide_eq_true_eq, Bool.false_eq_true, if_false, if_true, List.cons.injEq, cxK, Nat.reduceLT, Nat.reduceLeDiff, upd_same, upd_upd, tfor_range1, tfor_list, Int.toNat_natCast, vN_inj, vN_length, vN_set, Int.neg_neg, sf_all, hp, hba, upd_ne hbp, T.nos_Solute, sI, hal, q0, cutV_tail hb]
      generalize hH1 : upd H p _ = H1
      have g1 := congrFun hH1.symm p
      have B1 : But H H1 p := by rw [← hH1]; exact But.refl.upd
      rw [upd_same] at g1
      clear hH1
      intro l1 f_l1
      generalize hG_l1 : upd H1 l1 _ = H2
      obtain ⟨e_l1, S_l1⟩ := new_facts hG_l1 f_l1
      clear hG_l1
      have g1 := S_l1 _ _ g1
      simp only [g1, e_l1, tSeq, tIfS, tTest, tOp, rI0, rI, rEq, rNe, tVar, tC, tRet, tRetN, tNext, tUn, rU, L2.start, tFld, sFld, sFldAug, rAdd, rSub, tDrop, tAsg, gName, tAug, tAugS, ipI, tCons, tNil, tLst, tCall, tMeth, tMake, tCB, tNot, tAnd, tOr, tB, tAndV, tOrV, tNotV, rIxH, rSetL, tSl, tPart, tNoPart, rSlH, rCat, rRep, rSumN, tBM, rAppend, rExtend, tCallV, tDinK, tDgetK, tlc_list, tYes, scal, exists_eq_left', exists_eq_left, exists_and_left, Option.some.injEq, L3.vi, L3.vr, L3.vb, List.map_cons, List.map_nil, List.length_cons, List.length_nil, Nat.reduceAdd, Nat.reduceSub, Nat.zero_add, Nat.sub_self, List.replicate, List.cons_append, List.nil_append, List.append_nil, L3.gz, L3.gs, L3.z0, L3.z1, and_true, true_and, Bool.not_eq_true, HO.ins.injEq, L3.hl, and_assoc, decide_eq_true_eq, Bool.false_eq_true, if_false, if_true, List.cons.injEq, cxK, Nat.reduceLT, Nat.reduceLeDiff, upd_same, upd_upd, tfor_range1, tfor_list, Int.toNat_natCast, vN_inj, vN_length, vN_set, Int.neg_neg, sf_all, T.nos_Solute, cutV_init]
      refine ⟨by decide, ?_⟩
      intro l2 f_l2
      generalize hG_l2 : upd H2 l2 _ = H3
      obtain ⟨e_l2, S_l2⟩ := new_facts hG_l2 f_l2
      clear hG_l2
      have g1 := S_l2 _ _ g1
      have e_l1 := S_l2 _ _ e_l1
      simp only [g1, e_l1, e_l2, tSeq, tIfS, tTest, tOp, rI0, rI, rEq, rNe, tVar, tC, tRet, tRetN, tNext, tUn, rU, L2.start, tFld, sFld, sFldAug, rAdd, rSub, tDrop, tAsg, gName, tAug, tAugS, ipI, tCons, tNil, tLst, tCall, tMeth, tMake, tCB, tNot, tAnd, tOr, tB, tAndV, tOrV, tNotV, rIxH, rSetL, tSl, tPart, tNoPart, rSlH, rCat, rRep, rSumN, tBM, rAppend, rExtend, tCallV, tDinK, tDgetK, tlc_list, tYes, scal, exists_eq_left', exists_eq_left, exists_and_left, Option.some.injEq, L3.vi, L3.vr, L3.vb, List.map_cons, List.map_nil, List.length_cons, List.length_nil, Nat.reduceAdd, Nat.reduceSub, Nat.zero_add, Nat.sub_self, List.replicate, List.cons_append, List.nil_append, List.append_nil, L3.gz, L3.gs, L3.z0, L3.z1, and_true, true_and, Bool.not_eq_true, HO.ins.injEq, L3.hl, and_assoc, decide_eq_true_eq, Bool.false_eq_true, if_false, if_true, List.cons.injEq, cxK, Nat.reduceLT, Nat.reduceLeDiff, upd_same, upd_upd, tfor_range1, tfor_list, Int.toNat_natCast, vN_inj, vN_length, vN_set, Int.neg_neg, sf_all]
      refine ⟨sl_ok (by rw [List.length_drop]; omega), ?_⟩
      intro l3 f_l3
      generalize hG_l3 : upd H3 l3 _ = H4
      obtain ⟨e_l3, S_l3⟩ := new_facts hG_l3 f_l3
      clear hG_l3
      have n3 : l3 ≠ p := (ne_of_none g1 f_l3).symm
      have g1 := S_l3 _ _ g1
      simp only [g1, tSeq, tIfS, tTest, tOp, rI0, rI, rEq, rNe, tVar, tC, tRet, tRetN, tNext, tUn, rU, L2.start, tFld, sFld, sFldAug, rAdd, rSub, tDrop, tAsg, gName, tAug, tAugS, ipI, tCons, tNil, tLst, tCall, tMeth, tMake, tCB, tNot, tAnd, tOr, tB, tAndV, tOrV, tNotV, rIxH, rSetL, tSl, tPart, tNoPart, rSlH, rCat, rRep, rSumN, tBM, rAppend, rExtend, tCallV, tDinK, tDgetK, tlc_list, tYes, scal, exists_eq_left', exists_eq_left, exists_and_left, Option.some.injEq, L3.vi, L3.vr, L3.vb, List.map_cons, List.map_nil, List.length_cons, List.length_nil, Nat.reduceAdd, Nat.reduceSub, Nat.zero_add, Nat.sub_self, List.replicate, List.cons_append, List.nil_append, List.append_nil, L3.gz, L3.gs, L3.z0, L3.z1, and_true, true_and, Bool.not_eq_true, HO.ins.injEq, L3.hl, and_assoc, decide_eq_true_eq, Bool.false_eq_true, if_false, if_true, List.cons.injEq, cxK, Nat.reduceLT, Nat.reduceLeDiff, upd_same, upd_upd, tfor_range1, tfor_list, Int.toNat_natCast, vN_inj, vN_length, vN_set, Int.neg_neg, sf_all, T.nos_Solute]
      have B3 := (B1.same S_l1).same S_l2
      refine gen_upd (Q := U _ _) fun H5 g1 B5 => ?_
      have e_l3 := B5 _ _ e_l3 n3
      have B5 := (B3.same S_l3).trans B5
      subst hU
      simp only [g1, tSeq, tIfS, tTest, tOp, rI0, rI, rEq, rNe, tVar, tC, tRet, tRetN, tNext, tUn, rU, L2.start, tFld, sFld, sFldAug, rAdd, rSub, tDrop, tAsg, gName, tAug, tAugS, ipI, tCons, tNil, tLst, tCall, tMeth, tMake, tCB, tNot, tAnd, tOr, tB, tAndV, tOrV, tNotV, rIxH, rSetL, tSl, tPart, tNoPart, rSlH, rCat, rRep, rSumN, tBM, rAppend, rExtend, tCallV, tDinK, tDgetK, tlc_list, tYes, scal, exists_eq_left', exists_eq_left, exists_and_left, Option.some.injEq, L3.vi, L3.vr, L3.vb, List.map_cons, List.map_nil, List.length_cons, List.length_nil, Nat.reduceAdd, Nat.reduceSub, Nat.zero_add, Nat.sub_self, List.replicate, List.cons_append, List.nil_append, List.append_nil, L3.gz, L3.gs, L3.z0, L3.z1, and_true, true_and, Bool.not_eq_true, HO.ins.injEq, L3.hl, and_assoc, decide_eq_true_eq, Bool.false_eq_true, if_false, if_true, List.cons.injEq, cxK, Nat.reduceLT, Nat.reduceLeDiff, upd_same, upd_upd, tfor_range1, tfor_list, Int.toNat_natCast, vN_inj, vN_length, vN_set, Int.neg_neg, sf_all, T.nos_Solute]
      refine fin _ l3 (x.spent + b0) (x.bath.drop 1 ++ [x.fresh]) upd_same ?_ (B3.free f_l3 n3) B5.upd ?_
      · rw [upd_ne n3, e_l3, vN_one, vN_cat]
      · unfold Vbdlan.bathMove
        rw [if_neg (by rw [hal]; decide), hbr]
        rfl
end
end Bb

set_option Elab.async false
set_option linter.all false
set_option maxRecDepth 100000
namespace Bb
open PySem PySem.Spec PyProof.Rows L2 L3
theorem upd_self {H : Hp} {p : Addr} {o : HO} (h : H p = some o) : upd H p o = H := by
  funext b
  by_cases e : b = p
  · subst e; rw [upd_same, h]
  · rw [upd_ne e]
section
variable {P : Program} {w : World} {K : PySem.W.Frag} {mg : Str → Option Value} {base : Heap} {a : Adr}
/-- cross_membrane: both lists of cells change -/
def sp_crm (a : Adr) : Sp := fun vs H Q _ => ∃ (p d dx dd bl ba l rb rd : Addr) (x : Vbdlan.Solute) (f : Vbdlan.Form) (la : Bool) (ti : Nat), vs = [.ref p, .ref d] ∧ H p = some (.ins a.C_Solute dx (sf (sI x bl ba))) ∧ H d = some (.ins a.C_Device dd (df (dI f la ti l rb rd))) ∧
  H bl = some (.lst (vN x.blood)) ∧ H ba = some (.lst (vN x.bath)) ∧ bl ≠ ba ∧ x.blood.length = f.n ∧ x.bath.length = f.n ∧ f.n ≤ 32 ∧ f.bv ≤ 1000000 ∧ f.dv ≤ 1000000 ∧ x.share ≤ 1000 ∧
  Q .non (upd (upd H bl (.lst (vN (Vbdlan.exchangeAll f x.share x.blood x.bath).1))) ba (.lst (vN (Vbdlan.exchangeAll f x.share x.blood x.bath).2)))
theorem ok_Solute_cross_membrane (T : Txt K mg a) : FnOk P w K mg base CX0 2 a.f_Solute_cross_membrane a.d_Solute_cross_membrane ["self", "device"] (sp_crm a) := by
  refine T.F_Solute_cross_membrane.ok sc_Solute_cross_membrane (fun vs H Q E h => ?_) (fun cdv A outer s H vs Q E hr h => ?_)
  · obtain ⟨_, _, _, _, _, _, _, _, _, _, _, _, _, rfl, _⟩ := h
    rfl
  · obtain ⟨p, d, dx, dd, bl, ba, l, rb, rd, x, f, la, ti, rfl, hp, hd, hbl, hba, hne, n1, n2, n32, v1, v2, hs, k⟩ := h
    have np : p ≠ bl := ne_of hp hbl (by intro z; cases z)
    have np2 : p ≠ ba := ne_of hp hba (by intro z; cases z)
    have nd : d ≠ bl := ne_of hd hbl (by intro z; cases z)
    have nd2 : d ≠ ba := ne_of hd hba (by intro z; cases z)
    refine ⟨_, (pss_cons (ps_set (i := 2) sc_Solute_cross_membrane.nd rfl (Or.inl rfl) (pe_fld (pv 0) rfl)) (pss_cons (ps_set (i := 3) sc_Solute_cross_membrane.nd rfl (Or.inl rfl) (pe_fld (pv 0) rfl)) (pss_one (ps_for PassesOwn.never rfl (pi_range1 rfl T.b_range (pa_cons (pe_fld (pv 1) rfl) pa_nil)) (pg_name (i := 4) sc_Solute_cross_membrane.nd rfl (Or.inl rfl)) (pss_cons (ps_set (i := 5) sc_Solute_cross_membrane.nd rfl (Or.inl rfl) (pe_call (ok_crossing T) (hr.mono (by decide)) rfl T.g_crossing T.F_crossing.kp T.bi_crossing .nil pass0 (pa_cons (pe_ix ix_lst (pv 2) (pv 4) (fun _ _ => rfl)) (pa_cons (pe_fld (pv 1) rfl) (pa_cons (pe_ix ix_lst (pv 3) (pv 4) (fun _ _ => rfl)) (pa_cons (pe_fld (pv 1) rfl) (pa_cons (pe_fld (pv 0) rfl) pa_nil))))))) (pss_cons (ps_augS (pv 2) (pv 4) get_lst (pv 5) ip_sub set_list) (pss_one (ps_augS (pv 3) (pv 4) get_lst (pv 5) ip_add set_list)))))))), ?_⟩
    simp only [tSeq, tIfS, tTest, tOp, rI0, rI, rEq, rNe, tVar, tC, tRet, tRetN, tNext, tUn, rU, L2.start, tFld, sFld, sFldAug, rAdd, rSub, tDrop, tAsg, gName, tAug, tAugS, ipI, tCons, tNil, tLst, tCall, tMeth, tMake, tCB, tNot, tAnd, tOr, tB, tAndV, tOrV, tNotV, rIxH, rSetL, tSl, tPart, tNoPart, rSlH, rCat, rRep, rSumN, tBM, rAppend, rExtend, tCallV, tDinK, tDgetK, tlc_list, tYes, scal, exists_eq_left', exists_eq_left, exists_and_left, Option.some.injEq, L3.vi, L3.vr, L3.vb, List.map_cons, List.map_nil, List.length_cons, List.length_nil, Nat.reduceAdd, Nat.reduceSub, Nat.zero_add, Nat.sub_self, List.replicate, List.cons_append, List.nil_append, List.append_nil, L3.gz, L3.gs, L3.z0, L3.z1, and_true, true_and, Bool.not_eq_true, HO.ins.injEq, L3.hl, and_assoc, decide_eq_true_eq, Bool.false_eq_true, if_false, if_true, List.cons.injEq, cxK, Nat.reduceLT, Nat.reduceLeDiff, upd_same, upd_upd, tfor_range1, tfor_list, Int.toNat_natCast, vN_inj, vN_length, vN_set, Int.neg_neg, sf_all, df_all, hp, hd, T.nos_Solute, T.nos_Device, dI, sI]
    refine ⟨by omega, by omega, loop_range (fun i σ H' => (∃ v4 v5, σ = [some (.ref p), some (.ref d), some (.ref bl), some (.ref ba), v4, v5]) ∧ H' = upd (upd H bl (.lst (vN (exB f x.share x.blood x.bath i)))) ba (.lst (vN (exA f x.share x.blood x.bath i)))) ?_ ?_ ?_⟩
    · refine ⟨⟨_, _, rfl⟩, ?_⟩
      show H = upd (upd H bl (.lst (vN (x.blood)))) ba (.lst (vN (x.bath)))
      rw [upd_self hbl, upd_self hba]
    · rintro i σ H' hi ⟨⟨v4, v5, rfl⟩, rfl⟩
      obtain ⟨y, hy⟩ : ∃ y, x.blood[i]? = some y := ⟨_, List.getElem?_eq_getElem (by omega)⟩
      obtain ⟨z, hz⟩ : ∃ z, x.bath[i]? = some z := ⟨_, List.getElem?_eq_getElem (by omega)⟩
      have a1 := atI_vN (exB_at (f := f) (s := x.share) (m := x.bath) hy)
      have a2 := atI_vN (exA_at (f := f) (s := x.share) (l := x.blood) hz)
      have a3 := ixN_vN (exB_at (f := f) (s := x.share) (m := x.bath) hy)
      have a4 := ixN_vN (exA_at (f := f) (s := x.share) (l := x.blood) hz)
      simp only [vN_length] at a3 a4
      simp only [Int.zero_add, tSeq, tIfS, tTest, tOp, rI0, rI, rEq, rNe, tVar, tC, tRet, tRetN, tNext, tUn, rU, L2.start, tFld, sFld, sFldAug, rAdd, rSub, tDrop, tAsg, gName, tAug, tAugS, ipI, tCons, tNil, tLst, tCall, tMeth, tMake, tCB, tNot, tAnd, tOr, tB, tAndV, tOrV, tNotV, rIxH, rSetL, tSl, tPart, tNoPart, rSlH, rCat, rRep, rSumN, tBM, rAppend, rExtend, tCallV, tDinK, tDgetK, tlc_list, tYes, scal, exists_eq_left', exists_eq_left, exists_and_left, Option.some.injEq, L3.vi, L3.vr, L3.vb, List.map_cons, List.map_nil, List.length_cons, List.length_nil, Nat.reduceAdd, Nat.reduceSub, Nat.zero_add, Nat.sub_self, List.replicate, List.cons_append, List.nil_append, List.append_nil, L3.gz, L3.gs, L3.z0, L3.z1, and_true, true_and, Bool.not_eq_true, HO.ins.injEq, L3.hl, and_assoc, decide_eq_true_eq, Bool.false_eq_true, if_false, if_true, List.cons.injEq, cxK, Nat.reduceLT, Nat.reduceLeDiff, upd_same, upd_upd, tfor_range1, tfor_list, Int.toNat_natCast, vN_inj, vN_length, vN_set, Int.neg_neg, sf_all, df_all, hp, hd, upd_ne np, upd_ne np2, upd_ne nd, upd_ne nd2, upd_ne hne, T.nos_Solute, T.nos_Device, a1, a2]
      refine ⟨y, f.bv, z, f.dv, x.share, rfl, v1, v2, hs, ?_⟩
      simp only [tSeq, tIfS, tTest, tOp, rI0, rI, rEq, rNe, tVar, tC, tRet, tRetN, tNext, tUn, rU, L2.start, tFld, sFld, sFldAug, rAdd, rSub, tDrop, tAsg, gName, tAug, tAugS, ipI, tCons, tNil, tLst, tCall, tMeth, tMake, tCB, tNot, tAnd, tOr, tB, tAndV, tOrV, tNotV, rIxH, rSetL, tSl, tPart, tNoPart, rSlH, rCat, rRep, rSumN, tBM, rAppend, rExtend, tCallV, tDinK, tDgetK, tlc_list, tYes, scal, exists_eq_left', exists_eq_left, exists_and_left, Option.some.injEq, L3.vi, L3.vr, L3.vb, List.map_cons, List.map_nil, List.length_cons, List.length_nil, Nat.reduceAdd, Nat.reduceSub, Nat.zero_add, Nat.sub_self, List.replicate, List.cons_append, List.nil_append, List.append_nil, L3.gz, L3.gs, L3.z0, L3.z1, and_true, true_and, Bool.not_eq_true, HO.ins.injEq, L3.hl, and_assoc, decide_eq_true_eq, Bool.false_eq_true, if_false, if_true, List.cons.injEq, cxK, Nat.reduceLT, Nat.reduceLeDiff, upd_same, upd_upd, tfor_range1, tfor_list, Int.toNat_natCast, vN_inj, vN_length, vN_set, Int.neg_neg, sf_all, df_all, upd_ne hne, upd_ne hne.symm, a1, a2, a3, a4, exch1 hs, exch2 hs, exB_next hy hz, exA_next hy hz, upd4 hne]
      exact ⟨_, rfl⟩
    · rintro σ H' ⟨⟨v4, v5, rfl⟩, rfl⟩
      rw [exB_end n1 n2, exA_end n1 n2]
      exact k
end
end Bb

set_option Elab.async false
set_option linter.all false
set_option maxRecDepth 100000
namespace Bb
open PySem PySem.Spec PyProof.Rows L2 L3
/-- a solute stands at p, its cells at bl and ba -/
structure SolAt (a : Adr) (H : Hp) (p : Addr) (x : Vbdlan.Solute) (bl ba : Addr) : Prop where
  obj : ∃ dx, H p = some (.ins a.C_Solute dx (sf (sI x bl ba)))
  hbl : H bl = some (.lst (vN x.blood))
  hba : H ba = some (.lst (vN x.bath))
  ne : bl ≠ ba
def But3 (H H' : Hp) (p q r : Addr) : Prop := ∀ b o, H b = some o → b ≠ p → b ≠ q → b ≠ r → H' b = some o
section
variable {P : Program} {w : World} {K : PySem.W.Frag} {mg : Str → Option Value} {base : Heap} {a : Adr}
/-- a solute's tick -/
def sp_stk (a : Adr) : Sp := fun vs H Q _ => ∃ (p d dd bl ba l rb rd : Addr) (x : Vbdlan.Solute) (f : Vbdlan.Form) (la : Bool) (ti : Nat) (mb md : Bool), vs = [.ref p, .ref d, .bl mb, .bl md] ∧ SolAt a H p x bl ba ∧ H d = some (.ins a.C_Device dd (df (dI f la ti l rb rd))) ∧ FOk f ∧ SOk f.n x ∧
  ∀ (H' : Hp) (bl' ba' : Addr), SolAt a H' p (Vbdlan.tickOf f mb md x) bl' ba' → (bl' = bl ∨ H bl' = none) → (ba' = ba ∨ H ba' = none) → But3 H H' p bl ba → Q .non H'
theorem ok_Solute_tick (T : Txt K mg a) : FnOk P w K mg base CX0 3 a.f_Solute_tick a.d_Solute_tick ["self", "device", "blood_moves", "bath_moves"] (sp_stk a) := by
  refine T.F_Solute_tick.ok sc_Solute_tick (fun vs H Q E h => ?_) (fun cdv A outer s H vs Q E hr h => ?_)
  · obtain ⟨_, _, _, _, _, _, _, _, _, _, _, _, _, _, rfl, _⟩ := h
    rfl
  · obtain ⟨p, d, dd, bl, ba, l, rb, rd, x, f, la, ti, mb, md, rfl, ⟨⟨dx, hp⟩, hbl, hba, hne⟩, hd, FO, SO, k⟩ := h
    have n0 : 0 < f.n := by have := FO.n2; omega
    have hdp : d ≠ p := ne_sd hp hd
    have hbp : bl ≠ p := ne_of hbl hp (by intro z; cases z)
    have hap : ba ≠ p := ne_of hba hp (by intro z; cases z)
    refine ⟨_, (pss_cons (ps_expr (pe_meth (pv 0) T.cl_Solute T.m_Solute_mix_pools (ok_Solute_mix_pools T) (hr.mono (by decide)) T.bi_Solute_mix_pools .nil pass0 (pa_cons (pv 1) pa_nil))) (pss_cons (ps_if (pt_val (pv 2)) (pss_one (ps_expr (pe_meth (pv 0) T.cl_Solute T.m_Solute_move_blood (ok_Solute_move_blood T) (hr.mono (by decide)) T.bi_Solute_move_blood .nil pass0 (pa_cons (pv 1) pa_nil)))) pss_nil) (pss_cons (ps_if (pt_val (pv 3)) (pss_one (ps_expr (pe_meth (pv 0) T.cl_Solute T.m_Solute_move_bath (ok_Solute_move_bath T) (hr.mono (by decide)) T.bi_Solute_move_bath .nil pass0 (pa_cons (pe_fld (pv 1) rfl) pa_nil)))) pss_nil) (pss_one (ps_expr (pe_meth (pv 0) T.cl_Solute T.m_Solute_cross_membrane (ok_Solute_cross_membrane T) (hr.mono (by decide)) T.bi_Solute_cross_membrane .nil pass0 (pa_cons (pv 1) pa_nil))))))), ?_⟩
    refine hide1 fun U hU => ?_
    simp only [tSeq, tIfS, tTest, tOp, rI0, rI, rEq, rNe, tVar, tC, tRet, tRetN, tNext, tUn, rU, L2.start, tFld, sFld, sFldAug, rAdd, rSub, tDrop, tAsg, gName, tAug, tAugS, ipI, tCons, tNil, tLst, tCall, tMeth, tMake, tCB, tNot, tAnd, tOr, tB, tAndV, tOrV, tNotV, rIxH, rSetL, tSl, tPart, tNoPart, rSlH, rCat, rRep, rSumN, tBM, rAppend, rExtend, tCallV, tDinK, tDgetK, tlc_list, tYes, scal, exists_eq_left', exists_eq_left, exists_and_left, Option.some.injEq, L3.vi, L3.vr, L3.vb, List.map_cons, List.map_nil, List.length_cons, List.length_nil, Nat.reduceAdd, Nat.reduceSub, Nat.zero_add, Nat.sub_self, List.replicate, List.cons_append, List.nil_append, List.append_nil, L3.gz, L3.gs, L3.z0, L3.z1, and_true, true_and, Bool.not_eq_true, HO.ins.injEq, L3.hl, and_assoc, decide_eq_true_eq, Bool.false_eq_true, if_false, if_true, List.cons.injEq, cxK, Nat.reduceLT, Nat.reduceLeDiff, upd_same, upd_upd, tfor_range1, tfor_list, Int.toNat_natCast, vN_inj, vN_length, vN_set, Int.neg_neg, sf_all, df_all, hp]
    refine ⟨p, d, dx, dd, bl, ba, l, rb, rd, x, f, la, ti, rfl, hp, hd, FO.v1, FO.v2, FO.x, ?_⟩
    refine gen_upd (Q := U _ _) fun H1 g1 B1 => ?_
    have gd := B1 _ _ hd hdp
    have gbl := B1 _ _ hbl hbp
    have gba := B1 _ _ hba hap
    subst hU
    refine hide1 fun U hU => ?_
    have SO1 : SOk f.n (tk1 f x) := pools_ok SO
    have SO2 : SOk f.n (tk2 f mb x) := tk2_ok SO n0
    have SO3 : SOk f.n (tk3 f mb md x) := tk3_ok SO n0
    have nxt : ∀ (H2 : Hp) (bl2 : Addr), H2 p = some (.ins a.C_Solute dx (sf (sI (tk2 f mb x) bl2 ba))) → H2 bl2 = some (.lst (vN (tk2 f mb x).blood)) → bl2 ≠ ba → (bl2 = bl ∨ H bl2 = none) → But H H2 p →
        U { nx := fun x H' => Q V.non H', rt := Q } [some (V.ref p), some (V.ref d), some (V.bl mb), some (V.bl md)] H2 := by
      intro H2 bl2 g1 g2 hne2 fr2 B2
      have gd := B2 _ _ hd hdp
      have gba := B2 _ _ hba hap
      have hb2p : bl2 ≠ p := ne_of g2 g1 (by intro z; cases z)
      have e2 : (tk2 f mb x).bath = x.bath := by unfold tk2; split <;> rfl
      subst hU
      refine hide1 fun U hU => ?_
      have nxt : ∀ (H3 : Hp) (ba3 : Addr), H3 p = some (.ins a.C_Solute dx (sf (sI (tk3 f mb md x) bl2 ba3))) → H3 bl2 = some (.lst (vN (tk3 f mb md x).blood)) → H3 ba3 = some (.lst (vN (tk3 f mb md x).bath)) → bl2 ≠ ba3 → (ba3 = ba ∨ H ba3 = none) → But H H3 p →
          U { nx := fun x H' => Q V.non H', rt := Q } [some (V.ref p), some (V.ref d), some (V.bl mb), some (V.bl md)] H3 := by
        intro H3 ba3 g1 g2 g3 hne3 fr3 B3
        have gd := B3 _ _ hd hdp
        have ha3p : ba3 ≠ p := ne_of g3 g1 (by intro z; cases z)
        subst hU
        simp only [tSeq, tIfS, tTest, tOp, rI0, rI, rEq, rNe, tVar, tC, tRet, tRetN, tNext, tUn, rU, L2.start, tFld, sFld, sFldAug, rAdd, rSub, tDrop, tAsg, gName, tAug, tAugS, ipI, tCons, tNil, tLst, tCall, tMeth, tMake, tCB, tNot, tAnd, tOr, tB, tAndV, tOrV, tNotV, rIxH, rSetL, tSl, tPart, tNoPart, rSlH, rCat, rRep, rSumN, tBM, rAppend, rExtend, tCallV, tDinK, tDgetK, tlc_list, tYes, scal, exists_eq_left', exists_eq_left, exists_and_left, Option.some.injEq, L3.vi, L3.vr, L3.vb, List.map_cons, List.map_nil, List.length_cons, List.length_nil, Nat.reduceAdd, Nat.reduceSub, Nat.zero_add, Nat.sub_self, List.replicate, List.cons_append, List.nil_append, List.append_nil, L3.gz, L3.gs, L3.z0, L3.z1, and_true, true_and, Bool.not_eq_true, HO.ins.injEq, L3.hl, and_assoc, decide_eq_true_eq, Bool.false_eq_true, if_false, if_true, List.cons.injEq, cxK, Nat.reduceLT, Nat.reduceLeDiff, upd_same, upd_upd, tfor_range1, tfor_list, Int.toNat_natCast, vN_inj, vN_length, vN_set, Int.neg_neg, sf_all, df_all, g1]
        refine ⟨p, d, dx, dd, bl2, ba3, l, rb, rd, tk3 f mb md x, f, la, ti, rfl, g1, gd, g2, g3, hne3, SO3.bl, SO3.ba, FO.n32, Nat.le_trans FO.b2 (by decide), Nat.le_trans FO.d2 (by decide), SO3.sh, ?_⟩
        refine k _ bl2 ba3 ⟨⟨dx, ?_⟩, ?_, upd_same, hne3⟩ fr2 fr3 fun b o e n1 n2 n3 => ?_
        · rw [upd_ne ha3p.symm, upd_ne hb2p.symm, g1]
          rfl
        · rw [upd_ne hne3, upd_same]
          rfl
        · have q := B3 b o e n1
          rw [upd_ne, upd_ne]
          · exact q
          · rcases fr2 with rfl | fr2
            · exact n2
            · exact ne_of_none e fr2
          · rcases fr3 with rfl | fr3
            · exact n3
            · exact ne_of_none e fr3
      cases md with
      | false =>
        simp only [tSeq, tIfS, tTest, tOp, rI0, rI, rEq, rNe, tVar, tC, tRet, tRetN, tNext, tUn, rU, L2.start, tFld, sFld, sFldAug, rAdd, rSub, tDrop, tAsg, gName, tAug, tAugS, ipI, tCons, tNil, tLst, tCall, tMeth, tMake, tCB, tNot, tAnd, tOr, tB, tAndV, tOrV, tNotV, rIxH, rSetL, tSl, tPart, tNoPart, rSlH, rCat, rRep, rSumN, tBM, rAppend, rExtend, tCallV, tDinK, tDgetK, tlc_list, tYes, scal, exists_eq_left', exists_eq_left, exists_and_left, Option.some.injEq, L3.vi, L3.vr, L3.vb, List.map_cons, List.map_nil, List.length_cons, List.length_nil, Nat.reduceAdd, Nat.reduceSub, Nat.zero_add, Nat.sub_self, List.replicate, List.cons_append, List.nil_append, List.append_nil, L3.gz, L3.gs, L3.z0, L3.z1, and_true, true_and, Bool.not_eq_true, HO.ins.injEq, L3.hl, and_assoc, decide_eq_true_eq, Bool.false_eq_true, if_false, if_true, List.cons.injEq, cxK, Nat.reduceLT, Nat.reduceLeDiff, upd_same, upd_upd, tfor_range1, tfor_list, Int.toNat_natCast, vN_inj, vN_length, vN_set, Int.neg_neg, sf_all, df_all]
        exact nxt H2 ba g1 g2 (by show H2 ba = some (.lst (vN (tk2 f mb x).bath)); rw [e2]; exact gba) hne2 (.inl rfl) B2
      | true =>
        simp only [tSeq, tIfS, tTest, tOp, rI0, rI, rEq, rNe, tVar, tC, tRet, tRetN, tNext, tUn, rU, L2.start, tFld, sFld, sFldAug, rAdd, rSub, tDrop, tAsg, gName, tAug, tAugS, ipI, tCons, tNil, tLst, tCall, tMeth, tMake, tCB, tNot, tAnd, tOr, tB, tAndV, tOrV, tNotV, rIxH, rSetL, tSl, tPart, tNoPart, rSlH, rCat, rRep, rSumN, tBM, rAppend, rExtend, tCallV, tDinK, tDgetK, tlc_list, tYes, scal, exists_eq_left', exists_eq_left, exists_and_left, Option.some.injEq, L3.vi, L3.vr, L3.vb, List.map_cons, List.map_nil, List.length_cons, List.length_nil, Nat.reduceAdd, Nat.reduceSub, Nat.zero_add, Nat.sub_self, List.replicate, List.cons_append, List.nil_append, List.append_nil, L3.gz, L3.gs, L3.z0, L3.z1, and_true, true_and, Bool.not_eq_true, HO.ins.injEq, L3.hl, and_assoc, decide_eq_true_eq, Bool.false_eq_true, if_false, if_true, List.cons.injEq, cxK, Nat.reduceLT, Nat.reduceLeDiff, upd_same, upd_upd, tfor_range1, tfor_list, Int.toNat_natCast, vN_inj, vN_length, vN_set, Int.neg_neg, sf_all, df_all, g1, gd, dI, T.nos_Device]
        refine ⟨p, dx, bl2, ba, tk2 f mb x, f, rfl, g1, by rw [e2]; exact gba, SO2.ba, n0, FO.n32, fun H3 ba3 h1 h2 h3 h4 => ?_⟩
        have n3 : bl2 ≠ ba3 := ne_of_none g2 h3
        have n4 : ba3 ≠ p := (ne_of_none g1 h3).symm
        refine nxt H3 ba3 h1 ?_ h2 n3 (.inr (B2.free h3 n4)) (B2.trans h4)
        have q := h4 _ _ g2 hb2p
        rw [q]
        show some (HO.lst (vN (tk2 f mb x).blood)) = some (HO.lst (vN (Vbdlan.bathMove f (tk2 f mb x)).blood))
        unfold Vbdlan.bathMove
        split <;> rfl
    cases mb with
    | false =>
      simp only [tSeq, tIfS, tTest, tOp, rI0, rI, rEq, rNe, tVar, tC, tRet, tRetN, tNext, tUn, rU, L2.start, tFld, sFld, sFldAug, rAdd, rSub, tDrop, tAsg, gName, tAug, tAugS, ipI, tCons, tNil, tLst, tCall, tMeth, tMake, tCB, tNot, tAnd, tOr, tB, tAndV, tOrV, tNotV, rIxH, rSetL, tSl, tPart, tNoPart, rSlH, rCat, rRep, rSumN, tBM, rAppend, rExtend, tCallV, tDinK, tDgetK, tlc_list, tYes, scal, exists_eq_left', exists_eq_left, exists_and_left, Option.some.injEq, L3.vi, L3.vr, L3.vb, List.map_cons, List.map_nil, List.length_cons, List.length_nil, Nat.reduceAdd, Nat.reduceSub, Nat.zero_add, Nat.sub_self, List.replicate, List.cons_append, List.nil_append, List.append_nil, L3.gz, L3.gs, L3.z0, L3.z1, and_true, true_and, Bool.not_eq_true, HO.ins.injEq, L3.hl, and_assoc, decide_eq_true_eq, Bool.false_eq_true, if_false, if_true, List.cons.injEq, cxK, Nat.reduceLT, Nat.reduceLeDiff, upd_same, upd_upd, tfor_range1, tfor_list, Int.toNat_natCast, vN_inj, vN_length, vN_set, Int.neg_neg, sf_all, df_all]
      exact nxt H1 bl g1 gbl hne (.inl rfl) B1
    | true =>
      simp only [tSeq, tIfS, tTest, tOp, rI0, rI, rEq, rNe, tVar, tC, tRet, tRetN, tNext, tUn, rU, L2.start, tFld, sFld, sFldAug, rAdd, rSub, tDrop, tAsg, gName, tAug, tAugS, ipI, tCons, tNil, tLst, tCall, tMeth, tMake, tCB, tNot, tAnd, tOr, tB, tAndV, tOrV, tNotV, rIxH, rSetL, tSl, tPart, tNoPart, rSlH, rCat, rRep, rSumN, tBM, rAppend, rExtend, tCallV, tDinK, tDgetK, tlc_list, tYes, scal, exists_eq_left', exists_eq_left, exists_and_left, Option.some.injEq, L3.vi, L3.vr, L3.vb, List.map_cons, List.map_nil, List.length_cons, List.length_nil, Nat.reduceAdd, Nat.reduceSub, Nat.zero_add, Nat.sub_self, List.replicate, List.cons_append, List.nil_append, List.append_nil, L3.gz, L3.gs, L3.z0, L3.z1, and_true, true_and, Bool.not_eq_true, HO.ins.injEq, L3.hl, and_assoc, decide_eq_true_eq, Bool.false_eq_true, if_false, if_true, List.cons.injEq, cxK, Nat.reduceLT, Nat.reduceLeDiff, upd_same, upd_upd, tfor_range1, tfor_list, Int.toNat_natCast, vN_inj, vN_length, vN_set, Int.neg_neg, sf_all, df_all, g1]
      refine ⟨p, d, dx, dd, bl, ba, l, rb, rd, tk1 f x, f, la, ti, rfl, g1, gd, gbl, SO1.bl, n0, FO.n32, FO.bv, by have := FO.bv; have := FO.b1; omega, FO.v1, FO.r, fun H2 bl2 h1 h2 h3 h4 => ?_⟩
      have n3 : bl2 ≠ ba := (ne_of_none gba h3).symm
      have n4 : bl2 ≠ p := (ne_of_none g1 h3).symm
      exact nxt H2 bl2 h1 h2 n3 (.inr (B1.free h3 n4)) (B1.trans h4)
end
end Bb

set_option Elab.async false
set_option linter.all false
set_option maxRecDepth 100000
namespace Bb
open PySem PySem.Spec PyProof.Rows L2 L3
/-- from H to H': what was tracked stays but at W; W' are places of W or new ones -/
structure Mv (W W' : List Addr) (H H' : Hp) : Prop where
  sub : ∀ b ∈ W', b ∈ W ∨ H b = none
  kp : ∀ b o, H b = some o → b ∉ W → H' b = some o
theorem Mv.refl {W : List Addr} {H : Hp} : Mv W W H H := ⟨fun _ h => .inl h, fun _ _ e _ => e⟩
theorem Mv.trans {W W1 W2 : List Addr} {H H1 H2 : Hp} (m : Mv W W1 H H1) (n : Mv W1 W2 H1 H2) : Mv W W2 H H2 := by
  refine ⟨fun b hb => ?_, fun b o e hw => ?_⟩
  · rcases n.sub b hb with h | h
    · exact m.sub b h
    · cases q : H b with
      | none => exact .inr rfl
      | some o =>
        by_cases hw : b ∈ W
        · exact .inl hw
        · rw [m.kp b o q hw] at h
          cases h
  · refine n.kp b o (m.kp b o e hw) fun h => ?_
    rcases m.sub b h with h | h
    · exact hw h
    · rw [e] at h
      cases h
/-- something new besides -/
theorem Mv.new {W W' : List Addr} {H H1 : Hp} (m : Mv W W' H H1) {H2 : Hp} (s : Same H1 H2) : Mv W W' H H2 := ⟨m.sub, fun b o e hw => s b o (m.kp b o e hw)⟩
/-- where the device's things stand: l0, rb0, rd0 are what its attributes name; l, rb, rd, ps what is spoken of (its own, or copies) -/
structure DX where
  d : Addr
  dd : Addr
  l0 : Addr
  rb0 : Addr
  rd0 : Addr
  l : Addr
  rb : Addr
  rd : Addr
  ps : List (Addr × Addr × Addr)
def fp3 (t : Addr × Addr × Addr) : List Addr := [t.1, t.2.1, t.2.2]
def DX.fp (D : DX) : List Addr := D.d :: D.l :: D.rb :: D.rd :: D.ps.flatMap fp3
def refs (ps : List (Addr × Addr × Addr)) : List V := ps.map fun t => V.ref t.1
def RateAt (a : Adr) (H : Hp) (r : Addr) (n d acc : Nat) : Prop := ∃ dx, H r = some (.ins a.C_Rate dx (rf ⟨n, d, acc⟩))
structure DevAt (a : Adr) (H : Hp) (D : DX) (f : Vbdlan.Form) (la : Bool) (ti aB aD : Nat) (xs : List Vbdlan.Solute) : Prop where
  dev : H D.d = some (.ins a.C_Device D.dd (df (dI f la ti D.l0 D.rb0 D.rd0)))
  hrb : RateAt a H D.rb f.bn f.bd aB
  hrd : RateAt a H D.rd f.dn f.dd aD
  rne : D.rb ≠ D.rd
  lst : H D.l = some (.lst (refs D.ps))
  len : D.ps.length = xs.length
  sol : ∀ (j : Nat) t x, D.ps[j]? = some t → xs[j]? = some x → SolAt a H t.1 x t.2.1 t.2.2
  apart : ∀ (i j : Nat) t u, i ≠ j → D.ps[i]? = some t → D.ps[j]? = some u → ∀ b ∈ fp3 t, b ∉ fp3 u
  lap : ∀ t ∈ D.ps, D.l ∉ fp3 t
section
variable {a : Adr} {H H' : Hp} {D : DX} {f : Vbdlan.Form} {la : Bool} {ti aB aD : Nat} {xs : List Vbdlan.Solute}
theorem SolAt.keep {p bl ba : Addr} {x : Vbdlan.Solute} (h : SolAt a H p x bl ba) (k : ∀ b o, H b = some o → b ∈ fp3 (p, bl, ba) → H' b = some o) : SolAt a H' p x bl ba := by
  obtain ⟨⟨dx, h1⟩, h2, h3, h4⟩ := h
  exact ⟨⟨dx, k _ _ h1 (by simp [fp3])⟩, k _ _ h2 (by simp [fp3]), k _ _ h3 (by simp [fp3]), h4⟩
theorem SolAt.has {p bl ba : Addr} {x : Vbdlan.Solute} (h : SolAt a H p x bl ba) : ∀ b ∈ fp3 (p, bl, ba), ∃ o, H b = some o := by
  obtain ⟨⟨dx, h1⟩, h2, h3, h4⟩ := h
  intro b hb
  simp [fp3] at hb
  rcases hb with rfl | rfl | rfl
  · exact ⟨_, h1⟩
  · exact ⟨_, h2⟩
  · exact ⟨_, h3⟩
theorem DevAt.solx (h : DevAt a H D f la ti aB aD xs) {j : Nat} {t : Addr × Addr × Addr} (ht : D.ps[j]? = some t) : ∃ x, xs[j]? = some x ∧ SolAt a H t.1 x t.2.1 t.2.2 := by
  have hj : j < D.ps.length := (List.getElem?_eq_some_iff.mp ht).1
  have e : xs[j]? = some (xs[j]'(by rw [← h.len]; exact hj)) := List.getElem?_eq_getElem _
  exact ⟨_, e, h.sol j t _ ht e⟩
theorem DevAt.solt (h : DevAt a H D f la ti aB aD xs) {j : Nat} {x : Vbdlan.Solute} (hx : xs[j]? = some x) : ∃ t, D.ps[j]? = some t ∧ SolAt a H t.1 x t.2.1 t.2.2 := by
  have hj : j < xs.length := (List.getElem?_eq_some_iff.mp hx).1
  have e : D.ps[j]? = some (D.ps[j]'(by rw [h.len]; exact hj)) := List.getElem?_eq_getElem _
  exact ⟨_, e, h.sol j _ x e hx⟩
theorem mem_fp {D : DX} {b : Addr} : b ∈ D.fp ↔ b = D.d ∨ b = D.l ∨ b = D.rb ∨ b = D.rd ∨ ∃ t ∈ D.ps, b ∈ fp3 t := by
  unfold DX.fp
  simp [List.mem_flatMap]
theorem DevAt.has (h : DevAt a H D f la ti aB aD xs) : ∀ b ∈ D.fp, ∃ o, H b = some o := by
  intro b hb
  rcases mem_fp.mp hb with rfl | rfl | rfl | rfl | ⟨t, ht, hb⟩
  · exact ⟨_, h.dev⟩
  · exact ⟨_, h.lst⟩
  · obtain ⟨dx, e⟩ := h.hrb; exact ⟨_, e⟩
  · obtain ⟨dx, e⟩ := h.hrd; exact ⟨_, e⟩
  · obtain ⟨j, hj⟩ := List.getElem?_of_mem ht
    obtain ⟨x, _, hs⟩ := h.solx hj
    exact hs.has b hb
/-- all of it stays where the heap keeps its places -/
theorem DevAt.keep (h : DevAt a H D f la ti aB aD xs) (k : ∀ b o, H b = some o → b ∈ D.fp → H' b = some o) : DevAt a H' D f la ti aB aD xs := by
  obtain ⟨r1, e1⟩ := h.hrb
  obtain ⟨r2, e2⟩ := h.hrd
  refine ⟨k _ _ h.dev (mem_fp.mpr (.inl rfl)), ⟨r1, k _ _ e1 (mem_fp.mpr (.inr (.inr (.inl rfl))))⟩, ⟨r2, k _ _ e2 (mem_fp.mpr (.inr (.inr (.inr (.inl rfl)))))⟩, h.rne, k _ _ h.lst (mem_fp.mpr (.inr (.inl rfl))), h.len, fun j t x ht hx => ?_, h.apart, h.lap⟩
  exact (h.sol j t x ht hx).keep fun b o e hb => k b o e (mem_fp.mpr (.inr (.inr (.inr (.inr ⟨t, List.mem_of_getElem? ht, hb⟩)))))
theorem DevAt.same (h : DevAt a H D f la ti aB aD xs) (s : Same H H') : DevAt a H' D f la ti aB aD xs := h.keep fun b o e _ => s b o e
/-- places that are none of the device's -/
theorem DevAt.ne (h : DevAt a H D f la ti aB aD xs) {b : Addr} (hb : H b = none) : b ∉ D.fp := fun q => by
  obtain ⟨o, e⟩ := h.has b q
  rw [e] at hb
  cases hb
theorem fp3_ne {t : Addr × Addr × Addr} {b : Addr} : b ∉ fp3 t ↔ b ≠ t.1 ∧ b ≠ t.2.1 ∧ b ≠ t.2.2 := by simp [fp3]
theorem SolAt.offD {p bl ba d C dx : Addr} {x : Vbdlan.Solute} {y : DI} (h : SolAt a H p x bl ba) (hd : H d = some (.ins C dx (df y))) : d ∉ fp3 (p, bl, ba) := by
  obtain ⟨⟨dx', h1⟩, h2, h3, h4⟩ := h
  refine fp3_ne.mpr ⟨ne_sd h1 hd, ne_of hd h2 (by intro z; cases z), ne_of hd h3 (by intro z; cases z)⟩
theorem SolAt.offR {p bl ba d C dx : Addr} {x : Vbdlan.Solute} {y : RI} (h : SolAt a H p x bl ba) (hd : H d = some (.ins C dx (rf y))) : d ∉ fp3 (p, bl, ba) := by
  obtain ⟨⟨dx', h1⟩, h2, h3, h4⟩ := h
  refine fp3_ne.mpr ⟨ne_sr h1 hd, ne_of hd h2 (by intro z; cases z), ne_of hd h3 (by intro z; cases z)⟩
/-- one solute changes -/
theorem DevAt.setSol (h : DevAt a H D f la ti aB aD xs) {j : Nat} {t : Addr × Addr × Addr} {x' : Vbdlan.Solute} {bl' ba' : Addr} (ht : D.ps[j]? = some t) (hs : SolAt a H' t.1 x' bl' ba') (hbl : bl' = t.2.1 ∨ H bl' = none) (hba : ba' = t.2.2 ∨ H ba' = none)
    (kp : But3 H H' t.1 t.2.1 t.2.2) : DevAt a H' { D with ps := D.ps.set j (t.1, bl', ba') } f la ti aB aD (xs.set j x') ∧ Mv D.fp ({ D with ps := D.ps.set j (t.1, bl', ba') } : DX).fp H H' := by
  obtain ⟨x, hx, hsx⟩ := h.solx ht
  obtain ⟨r1, e1⟩ := h.hrb
  obtain ⟨r2, e2⟩ := h.hrd
  have hj : j < D.ps.length := (List.getElem?_eq_some_iff.mp ht).1
  have K : ∀ b o, H b = some o → b ∉ fp3 t → H' b = some o := fun b o e hb => by
    obtain ⟨n1, n2, n3⟩ := fp3_ne.mp hb
    exact kp b o e n1 n2 n3
  have lt : D.l ∉ fp3 t := h.lap t (List.mem_of_getElem? ht)
  -- the places of the new one
  have new : ∀ b ∈ fp3 (t.1, bl', ba'), b ∈ fp3 t ∨ H b = none := fun b hb => by
    simp [fp3] at hb
    rcases hb with rfl | rfl | rfl
    · exact .inl (by simp [fp3])
    · rcases hbl with e | e
      · exact .inl (by rw [e]; simp [fp3])
      · exact .inr e
    · rcases hba with e | e
      · exact .inl (by rw [e]; simp [fp3])
      · exact .inr e
  have old : ∀ b o, H b = some o → b ∉ fp3 t → b ∉ fp3 (t.1, bl', ba') := fun b o e hb q => by
    rcases new b q with z | z
    · exact hb z
    · rw [e] at z
      cases z
  refine ⟨⟨K _ _ h.dev (hsx.offD h.dev), ⟨r1, K _ _ e1 (hsx.offR e1)⟩, ⟨r2, K _ _ e2 (hsx.offR e2)⟩, h.rne, ?_, ?_, fun i u y hu hy => ?_, fun i i' u u' hne hu hu' b hb => ?_, fun u hu => ?_⟩, fun b hb => ?_, fun b o e hb => ?_⟩
  · show H' D.l = some (.lst (refs (D.ps.set j (t.1, bl', ba'))))
    have q := K _ _ h.lst lt
    rw [q]
    unfold refs
    rw [List.map_set]
    congr 2
    refine (List.ext_getElem? fun i => ?_)
    rw [List.getElem?_set]
    by_cases e : j = i
    · subst e
      rw [if_pos rfl, if_pos (by rw [List.length_map]; exact hj), List.getElem?_map, ht]
      rfl
    · rw [if_neg e]
  · show (D.ps.set j _).length = (xs.set j x').length
    rw [List.length_set, List.length_set]
    exact h.len
  · have hu : (D.ps.set j (t.1, bl', ba'))[i]? = some u := hu
    by_cases e : j = i
    · subst e
      rw [List.getElem?_set_self hj] at hu
      rw [List.getElem?_set_self (by rw [← h.len]; exact hj)] at hy
      cases hu
      cases hy
      exact hs
    · rw [List.getElem?_set_ne e] at hu hy
      refine (h.sol i u y hu hy).keep fun b o eb hb => K b o eb (h.apart i j u t (fun z => e z.symm) hu ht b hb)
  · have hu : (D.ps.set j (t.1, bl', ba'))[i]? = some u := hu
    have hu' : (D.ps.set j (t.1, bl', ba'))[i']? = some u' := hu'
    by_cases e : j = i
    · subst e
      rw [List.getElem?_set_self hj] at hu
      rw [List.getElem?_set_ne hne] at hu'
      cases hu
      intro q
      obtain ⟨y, _, hsy⟩ := h.solx hu'
      obtain ⟨o, eo⟩ := hsy.has b q
      exact old b o eo (h.apart i' j u' t (fun z => hne z.symm) hu' ht b q) hb
    · rw [List.getElem?_set_ne e] at hu
      by_cases e' : j = i'
      · subst e'
        rw [List.getElem?_set_self hj] at hu'
        cases hu'
        obtain ⟨y, _, hsy⟩ := h.solx hu
        obtain ⟨o, eo⟩ := hsy.has b hb
        exact old b o eo (h.apart i j u t hne hu ht b hb)
      · rw [List.getElem?_set_ne e'] at hu'
        exact h.apart i i' u u' hne hu hu' b hb
  · have hu : u ∈ D.ps.set j (t.1, bl', ba') := hu
    rcases List.mem_or_eq_of_mem_set hu with hu | rfl
    · exact h.lap u hu
    · exact old D.l _ h.lst lt
  · rcases mem_fp.mp hb with rfl | rfl | rfl | rfl | ⟨u, hu, hb⟩
    · exact .inl (mem_fp.mpr (.inl rfl))
    · exact .inl (mem_fp.mpr (.inr (.inl rfl)))
    · exact .inl (mem_fp.mpr (.inr (.inr (.inl rfl))))
    · exact .inl (mem_fp.mpr (.inr (.inr (.inr (.inl rfl)))))
    · have hu : u ∈ D.ps.set j (t.1, bl', ba') := hu
      rcases List.mem_or_eq_of_mem_set hu with hu | rfl
      · exact .inl (mem_fp.mpr (.inr (.inr (.inr (.inr ⟨u, hu, hb⟩)))))
      · rcases new b hb with z | z
        · exact .inl (mem_fp.mpr (.inr (.inr (.inr (.inr ⟨t, List.mem_of_getElem? ht, z⟩)))))
        · exact .inr z
  · exact K b o e fun z => hb (mem_fp.mpr (.inr (.inr (.inr (.inr ⟨t, List.mem_of_getElem? ht, z⟩)))))
/-- the device's own attributes change -/
theorem DevAt.setDev (h : DevAt a H D f la ti aB aD xs) {f' : Vbdlan.Form} {la' : Bool} {ti' : Nat} (h1 : f'.bn = f.bn) (h2 : f'.bd = f.bd) (h3 : f'.dn = f.dn) (h4 : f'.dd = f.dd) :
    DevAt a (upd H D.d (.ins a.C_Device D.dd (df (dI f' la' ti' D.l0 D.rb0 D.rd0)))) D f' la' ti' aB aD xs ∧ Mv D.fp D.fp H (upd H D.d (.ins a.C_Device D.dd (df (dI f' la' ti' D.l0 D.rb0 D.rd0)))) := by
  obtain ⟨r1, e1⟩ := h.hrb
  obtain ⟨r2, e2⟩ := h.hrd
  have K : ∀ b o, H b = some o → b ≠ D.d → upd H D.d (.ins a.C_Device D.dd (df (dI f' la' ti' D.l0 D.rb0 D.rd0))) b = some o := fun b o e n => by rw [upd_ne n]; exact e
  refine ⟨⟨upd_same, ⟨r1, ?_⟩, ⟨r2, ?_⟩, h.rne, K _ _ h.lst (ne_of h.lst h.dev (by intro z; cases z)), h.len, fun j t x ht hx => ?_, h.apart, h.lap⟩, fun b hb => .inl hb, fun b o e hb => K b o e fun z => hb (mem_fp.mpr (.inl z))⟩
  · rw [h1, h2]; exact K _ _ e1 (ne_dr h.dev e1)
  · rw [h3, h4]; exact K _ _ e2 (ne_dr h.dev e2)
  · have hs := h.sol j t x ht hx
    exact hs.keep fun b o e hb => K b o e fun z => hs.offD h.dev (z ▸ hb)
end
end Bb

set_option Elab.async false
set_option linter.all false
set_option maxRecDepth 100000
namespace Bb
open PySem PySem.Spec PyProof.Rows L2 L3
section
variable {P : Program} {w : World} {K : PySem.W.Frag} {mg : Str → Option Value} {base : Heap} {a : Adr}
/-- Rate.__init__ -/
def sp_rinit (a : Adr) : Sp := fun vs H Q _ => ∃ (r dx : Addr) (n d : Int), vs = [.ref r, .int n, .int d] ∧ H r = some (.ins a.C_Rate dx []) ∧ Q .non (upd H r (.ins a.C_Rate dx (rf ⟨n, d, 0⟩)))
theorem ok_Rate_init (T : Txt K mg a) : FnOk P w K mg base CX0 1 a.f_Rate_init a.d_Rate_init ["self", "times", "span"] (sp_rinit a) := by
  refine T.F_Rate_init.ok sc_Rate_init (fun vs H Q E h => ?_) (fun cdv A outer s H vs Q E hr h => ?_)
  · obtain ⟨_, _, _, _, rfl, _⟩ := h
    rfl
  · obtain ⟨r, dx, n, d, rfl, hp, k⟩ := h
    refine ⟨_, (pss_cons (ps_fld (pv 0) (pv 1) rfl) (pss_cons (ps_fld (pv 0) (pv 2) rfl) (pss_one (ps_fld (pv 0) pe_int rfl)))), ?_⟩
    simp only [tSeq, tIfS, tTest, tOp, rI0, rI, rEq, rNe, tVar, tC, tRet, tRetN, tNext, tUn, rU, L2.start, tFld, sFld, sFldAug, rAdd, rSub, tDrop, tAsg, gName, tAug, tAugS, ipI, tCons, tNil, tLst, tCall, tMeth, tMake, tCB, tNot, tAnd, tOr, tB, tAndV, tOrV, tNotV, rIxH, rSetL, tSl, tPart, tNoPart, rSlH, rCat, rRep, rSumN, tBM, rAppend, rExtend, tCallV, tDinK, tDgetK, tlc_list, tYes, scal, exists_eq_left', exists_eq_left, exists_and_left, Option.some.injEq, L3.vi, L3.vr, L3.vb, List.map_cons, List.map_nil, List.length_cons, List.length_nil, Nat.reduceAdd, Nat.reduceSub, Nat.zero_add, Nat.sub_self, List.replicate, List.cons_append, List.nil_append, List.append_nil, L3.gz, L3.gs, L3.z0, L3.z1, and_true, true_and, Bool.not_eq_true, HO.ins.injEq, L3.hl, and_assoc, decide_eq_true_eq, Bool.false_eq_true, if_false, if_true, List.cons.injEq, cxK, Nat.reduceLT, Nat.reduceLeDiff, upd_same, upd_upd, tfor_range1, tfor_list, Int.toNat_natCast, vN_inj, vN_length, vN_set, Int.neg_neg, rf_all, rf_ini_all, hp, T.nos_Rate]
    exact k
def sp_restart (a : Adr) : Sp := fun vs H Q _ => ∃ (r dx : Addr) (x : RI), vs = [.ref r] ∧ H r = some (.ins a.C_Rate dx (rf x)) ∧ Q .non (upd H r (.ins a.C_Rate dx (rf ⟨x.times, x.span, 0⟩)))
theorem ok_Rate_restart (T : Txt K mg a) : FnOk P w K mg base CX0 1 a.f_Rate_restart a.d_Rate_restart ["self"] (sp_restart a) := by
  refine T.F_Rate_restart.ok sc_Rate_restart (fun vs H Q E h => ?_) (fun cdv A outer s H vs Q E hr h => ?_)
  · obtain ⟨_, _, _, rfl, _⟩ := h
    rfl
  · obtain ⟨r, dx, x, rfl, hp, k⟩ := h
    refine ⟨_, (pss_one (ps_fld (pv 0) pe_int rfl)), ?_⟩
    simp only [tSeq, tIfS, tTest, tOp, rI0, rI, rEq, rNe, tVar, tC, tRet, tRetN, tNext, tUn, rU, L2.start, tFld, sFld, sFldAug, rAdd, rSub, tDrop, tAsg, gName, tAug, tAugS, ipI, tCons, tNil, tLst, tCall, tMeth, tMake, tCB, tNot, tAnd, tOr, tB, tAndV, tOrV, tNotV, rIxH, rSetL, tSl, tPart, tNoPart, rSlH, rCat, rRep, rSumN, tBM, rAppend, rExtend, tCallV, tDinK, tDgetK, tlc_list, tYes, scal, exists_eq_left', exists_eq_left, exists_and_left, Option.some.injEq, L3.vi, L3.vr, L3.vb, List.map_cons, List.map_nil, List.length_cons, List.length_nil, Nat.reduceAdd, Nat.reduceSub, Nat.zero_add, Nat.sub_self, List.replicate, List.cons_append, List.nil_append, List.append_nil, L3.gz, L3.gs, L3.z0, L3.z1, and_true, true_and, Bool.not_eq_true, HO.ins.injEq, L3.hl, and_assoc, decide_eq_true_eq, Bool.false_eq_true, if_false, if_true, List.cons.injEq, cxK, Nat.reduceLT, Nat.reduceLeDiff, upd_same, upd_upd, tfor_range1, tfor_list, Int.toNat_natCast, vN_inj, vN_length, vN_set, Int.neg_neg, rf_all, hp, T.nos_Rate]
    exact k
/-- a rate gathers -/
def sp_gather (a : Adr) : Sp := fun vs H Q _ => ∃ (r dx : Addr) (n d acc : Nat), vs = [.ref r] ∧ H r = some (.ins a.C_Rate dx (rf ⟨n, d, acc⟩)) ∧
  Q (.bl (decide (d ≤ acc + n))) (upd H r (.ins a.C_Rate dx (rf ⟨n, d, ((if decide (d ≤ acc + n) = true then acc + n - d else acc + n : Nat) : Int)⟩)))
theorem ok_Rate_gather (T : Txt K mg a) : FnOk P w K mg base CX0 1 a.f_Rate_gather a.d_Rate_gather ["self"] (sp_gather a) := by
  refine T.F_Rate_gather.ok sc_Rate_gather (fun vs H Q E h => ?_) (fun cdv A outer s H vs Q E hr h => ?_)
  · obtain ⟨_, _, _, _, _, rfl, _⟩ := h
    rfl
  · obtain ⟨r, dx, n, d, acc, rfl, hp, k⟩ := h
    refine ⟨_, (pss_cons (ps_fldaug (pv 0) (pe_fld (pv 0) rfl) in_add) (pss_cons (ps_if (pt_cmpR op_ge (pe_fld (pv 0) rfl) (pe_fld (pv 0) rfl) (nomark _)) (pss_cons (ps_fldaug (pv 0) (pe_fld (pv 0) rfl) in_sub) (pss_one (ps_ret pe_bl))) pss_nil) (pss_one (ps_ret pe_bl)))), ?_⟩
    simp only [tSeq, tIfS, tTest, tOp, rI0, rI, rEq, rNe, tVar, tC, tRet, tRetN, tNext, tUn, rU, L2.start, tFld, sFld, sFldAug, rAdd, rSub, tDrop, tAsg, gName, tAug, tAugS, ipI, tCons, tNil, tLst, tCall, tMeth, tMake, tCB, tNot, tAnd, tOr, tB, tAndV, tOrV, tNotV, rIxH, rSetL, tSl, tPart, tNoPart, rSlH, rCat, rRep, rSumN, tBM, rAppend, rExtend, tCallV, tDinK, tDgetK, tlc_list, tYes, scal, exists_eq_left', exists_eq_left, exists_and_left, Option.some.injEq, L3.vi, L3.vr, L3.vb, List.map_cons, List.map_nil, List.length_cons, List.length_nil, Nat.reduceAdd, Nat.reduceSub, Nat.zero_add, Nat.sub_self, List.replicate, List.cons_append, List.nil_append, List.append_nil, L3.gz, L3.gs, L3.z0, L3.z1, and_true, true_and, Bool.not_eq_true, HO.ins.injEq, L3.hl, and_assoc, decide_eq_true_eq, Bool.false_eq_true, if_false, if_true, List.cons.injEq, cxK, Nat.reduceLT, Nat.reduceLeDiff, upd_same, upd_upd, tfor_range1, tfor_list, Int.toNat_natCast, vN_inj, vN_length, vN_set, Int.neg_neg, rf_all, hp, T.nos_Rate]
    refine ite2 (fun h => ?_) fun h => ?_
    · have h' : d ≤ acc + n := by omega
      rw [decide_eq_true h', if_pos rfl, Int.ofNat_sub h'] at k
      exact k
    · have h' : ¬ d ≤ acc + n := by omega
      rw [decide_eq_false h', if_neg Bool.false_ne_true] at k
      exact k
/-- a copy of a rate -/
def sp_rtwin (a : Adr) : Sp := fun vs H Q _ => ∃ (r dx : Addr) (x : RI), vs = [.ref r] ∧ H r = some (.ins a.C_Rate dx (rf x)) ∧
  ∀ (H' : Hp) (q dq : Addr), H' q = some (.ins a.C_Rate dq (rf x)) → H q = none → Same H H' → Q (.ref q) H'
theorem ok_Rate_twin (T : Txt K mg a) : FnOk P w K mg base CX0 3 a.f_Rate_twin a.d_Rate_twin ["self"] (sp_rtwin a) := by
  refine T.F_Rate_twin.ok sc_Rate_twin (fun vs H Q E h => ?_) (fun cdv A outer s H vs Q E hr h => ?_)
  · obtain ⟨_, _, _, rfl, _⟩ := h
    rfl
  · obtain ⟨r, dx, x, rfl, hp, k⟩ := h
    refine ⟨_, (pss_cons (ps_set (i := 1) sc_Rate_twin.nd rfl (Or.inl rfl) (pe_make T.mk_Rate (ok_Rate_init T) (hr.mono (by decide)) rfl T.g_Rate T.bi_Rate_init .nil pass0 (pa_cons (pe_fld (pv 0) rfl) (pa_cons (pe_fld (pv 0) rfl) pa_nil)))) (pss_cons (ps_fld (pv 1) (pe_fld (pv 0) rfl) rfl) (pss_one (ps_ret (pv 1))))), ?_⟩
    refine hide1 fun U hU => ?_
    simp only [tSeq, tIfS, tTest, tOp, rI0, rI, rEq, rNe, tVar, tC, tRet, tRetN, tNext, tUn, rU, L2.start, tFld, sFld, sFldAug, rAdd, rSub, tDrop, tAsg, gName, tAug, tAugS, ipI, tCons, tNil, tLst, tCall, tMeth, tMake, tCB, tNot, tAnd, tOr, tB, tAndV, tOrV, tNotV, rIxH, rSetL, tSl, tPart, tNoPart, rSlH, rCat, rRep, rSumN, tBM, rAppend, rExtend, tCallV, tDinK, tDgetK, tlc_list, tYes, scal, exists_eq_left', exists_eq_left, exists_and_left, Option.some.injEq, L3.vi, L3.vr, L3.vb, List.map_cons, List.map_nil, List.length_cons, List.length_nil, Nat.reduceAdd, Nat.reduceSub, Nat.zero_add, Nat.sub_self, List.replicate, List.cons_append, List.nil_append, List.append_nil, L3.gz, L3.gs, L3.z0, L3.z1, and_true, true_and, Bool.not_eq_true, HO.ins.injEq, L3.hl, and_assoc, decide_eq_true_eq, Bool.false_eq_true, if_false, if_true, List.cons.injEq, cxK, Nat.reduceLT, Nat.reduceLeDiff, upd_same, upd_upd, tfor_range1, tfor_list, Int.toNat_natCast, vN_inj, vN_length, vN_set, Int.neg_neg, rf_all, hp, T.nos_Rate]
    intro q dq f1 f2 hne
    refine ⟨q, dq, x.times, x.span, rfl, upd_same, ?_⟩
    simp only [tSeq, tIfS, tTest, tOp, rI0, rI, rEq, rNe, tVar, tC, tRet, tRetN, tNext, tUn, rU, L2.start, tFld, sFld, sFldAug, rAdd, rSub, tDrop, tAsg, gName, tAug, tAugS, ipI, tCons, tNil, tLst, tCall, tMeth, tMake, tCB, tNot, tAnd, tOr, tB, tAndV, tOrV, tNotV, rIxH, rSetL, tSl, tPart, tNoPart, rSlH, rCat, rRep, rSumN, tBM, rAppend, rExtend, tCallV, tDinK, tDgetK, tlc_list, tYes, scal, exists_eq_left', exists_eq_left, exists_and_left, Option.some.injEq, L3.vi, L3.vr, L3.vb, List.map_cons, List.map_nil, List.length_cons, List.length_nil, Nat.reduceAdd, Nat.reduceSub, Nat.zero_add, Nat.sub_self, List.replicate, List.cons_append, List.nil_append, List.append_nil, L3.gz, L3.gs, L3.z0, L3.z1, and_true, true_and, Bool.not_eq_true, HO.ins.injEq, L3.hl, and_assoc, decide_eq_true_eq, Bool.false_eq_true, if_false, if_true, List.cons.injEq, cxK, Nat.reduceLT, Nat.reduceLeDiff, upd_same, upd_upd, tfor_range1, tfor_list, Int.toNat_natCast, vN_inj, vN_length, vN_set, Int.neg_neg]
    have s1 : Same H (upd (upd H dq (.own q)) q (.ins a.C_Rate dq (rf ⟨x.times, x.span, 0⟩))) := fun b o e => by
      rw [upd_ne (ne_of_none e f1), upd_ne (ne_of_none e f2)]; exact e
    generalize hH : upd (upd H dq (.own q)) q (.ins a.C_Rate dq (rf ⟨x.times, x.span, 0⟩)) = H1 at s1 ⊢
    have g1 : H1 q = some (.ins a.C_Rate dq (rf ⟨x.times, x.span, 0⟩)) := by rw [← hH]; exact upd_same
    have g2 := s1 _ _ hp
    subst hU
    simp only [tSeq, tIfS, tTest, tOp, rI0, rI, rEq, rNe, tVar, tC, tRet, tRetN, tNext, tUn, rU, L2.start, tFld, sFld, sFldAug, rAdd, rSub, tDrop, tAsg, gName, tAug, tAugS, ipI, tCons, tNil, tLst, tCall, tMeth, tMake, tCB, tNot, tAnd, tOr, tB, tAndV, tOrV, tNotV, rIxH, rSetL, tSl, tPart, tNoPart, rSlH, rCat, rRep, rSumN, tBM, rAppend, rExtend, tCallV, tDinK, tDgetK, tlc_list, tYes, scal, exists_eq_left', exists_eq_left, exists_and_left, Option.some.injEq, L3.vi, L3.vr, L3.vb, List.map_cons, List.map_nil, List.length_cons, List.length_nil, Nat.reduceAdd, Nat.reduceSub, Nat.zero_add, Nat.sub_self, List.replicate, List.cons_append, List.nil_append, List.append_nil, L3.gz, L3.gs, L3.z0, L3.z1, and_true, true_and, Bool.not_eq_true, HO.ins.injEq, L3.hl, and_assoc, decide_eq_true_eq, Bool.false_eq_true, if_false, if_true, List.cons.injEq, cxK, Nat.reduceLT, Nat.reduceLeDiff, upd_same, upd_upd, tfor_range1, tfor_list, Int.toNat_natCast, vN_inj, vN_length, vN_set, Int.neg_neg, rf_all, g1, g2, T.nos_Rate]
    exact k _ q dq upd_same f1 fun b o e => by rw [upd_ne (ne_of_none e f1)]; exact s1 _ _ e
end
end Bb

set_option Elab.async false
set_option linter.all false
set_option maxRecDepth 100000
namespace Bb
open PySem PySem.Spec PyProof.Rows L2 L3
section
variable {a : Adr} {H H' : Hp} {D : DX} {f : Vbdlan.Form} {la : Bool} {ti aB aD : Nat} {xs : List Vbdlan.Solute}
theorem DevAt.setRb (h : DevAt a H D f la ti aB aD xs) {dx : Addr} {x : RI} (e0 : H D.rb = some (.ins a.C_Rate dx (rf x))) {n d acc : Nat} {f' : Vbdlan.Form} (hf : f' = { f with bn := n, bd := d }) :
    DevAt a (upd H D.rb (.ins a.C_Rate dx (rf ⟨n, d, acc⟩))) D f' la ti acc aD xs ∧ Mv D.fp D.fp H (upd H D.rb (.ins a.C_Rate dx (rf ⟨n, d, acc⟩))) := by
  subst hf
  obtain ⟨r2, e2⟩ := h.hrd
  have K : ∀ b o, H b = some o → b ≠ D.rb → upd H D.rb (.ins a.C_Rate dx (rf ⟨n, d, acc⟩)) b = some o := fun b o e n => by rw [upd_ne n]; exact e
  refine ⟨⟨K _ _ h.dev (ne_dr h.dev e0).symm, ⟨dx, upd_same⟩, ⟨r2, K _ _ e2 h.rne.symm⟩, h.rne, K _ _ h.lst (ne_of h.lst e0 (by intro z; cases z)), h.len, fun j t x ht hx => ?_, h.apart, h.lap⟩, fun b hb => .inl hb, fun b o e hb => K b o e fun z => hb (mem_fp.mpr (.inr (.inr (.inl z))))⟩
  have hs := h.sol j t x ht hx
  exact hs.keep fun b o e hb => K b o e fun z => hs.offR e0 (z ▸ hb)
theorem DevAt.setRd (h : DevAt a H D f la ti aB aD xs) {dx : Addr} {x : RI} (e0 : H D.rd = some (.ins a.C_Rate dx (rf x))) {n d acc : Nat} {f' : Vbdlan.Form} (hf : f' = { f with dn := n, dd := d }) :
    DevAt a (upd H D.rd (.ins a.C_Rate dx (rf ⟨n, d, acc⟩))) D f' la ti aB acc xs ∧ Mv D.fp D.fp H (upd H D.rd (.ins a.C_Rate dx (rf ⟨n, d, acc⟩))) := by
  subst hf
  obtain ⟨r2, e2⟩ := h.hrb
  have K : ∀ b o, H b = some o → b ≠ D.rd → upd H D.rd (.ins a.C_Rate dx (rf ⟨n, d, acc⟩)) b = some o := fun b o e n => by rw [upd_ne n]; exact e
  refine ⟨⟨K _ _ h.dev (ne_dr h.dev e0).symm, ⟨r2, K _ _ e2 h.rne⟩, ⟨dx, upd_same⟩, h.rne, K _ _ h.lst (ne_of h.lst e0 (by intro z; cases z)), h.len, fun j t x ht hx => ?_, h.apart, h.lap⟩, fun b hb => .inl hb, fun b o e hb => K b o e fun z => hb (mem_fp.mpr (.inr (.inr (.inr (.inl z)))))⟩
  have hs := h.sol j t x ht hx
  exact hs.keep fun b o e hb => K b o e fun z => hs.offR e0 (z ▸ hb)
theorem refs_get {ps : List (Addr × Addr × Addr)} {i : Nat} {v : V} (h : (refs ps)[i]? = some v) : ∃ t, ps[i]? = some t ∧ v = .ref t.1 := by
  unfold refs at h
  rw [List.getElem?_map] at h
  cases e : ps[i]? with
  | none => rw [e] at h; cases h
  | some t => rw [e] at h; exact ⟨t, rfl, (Option.some.inj h).symm⟩
theorem refs_len (ps : List (Addr × Addr × Addr)) : (refs ps).length = ps.length := List.length_map _
theorem refs_set {ps : List (Addr × Addr × Addr)} {j : Nat} {t : Addr × Addr × Addr} {bl ba : Addr} (h : ps[j]? = some t) : refs (ps.set j (t.1, bl, ba)) = refs ps := by
  have hj : j < ps.length := (List.getElem?_eq_some_iff.mp h).1
  unfold refs
  rw [List.map_set]
  refine (List.ext_getElem? fun i => ?_)
  rw [List.getElem?_set]
  by_cases e : j = i
  · subst e
    rw [if_pos rfl, if_pos (by rw [List.length_map]; exact hj), List.getElem?_map, h]
    rfl
  · rw [if_neg e]
end
section
variable {P : Program} {w : World} {K : PySem.W.Frag} {mg : Str → Option Value} {base : Heap} {a : Adr}
/-- so many ticks -/
def sp_pass (a : Adr) : Sp := fun vs H Q _ => ∃ (D : DX) (s : Vbdlan.St) (la : Bool) (ti n : Nat), vs = [.ref D.d, .ref D.l, .ref D.rb, .ref D.rd, .int n] ∧ DevAt a H D s.form la ti s.accB s.accD s.solutes ∧ FOk s.form ∧ (∀ x ∈ s.solutes, SOk s.form.n x) ∧ n ≤ 600 ∧
  ∀ (H' : Hp) (ps' : List (Addr × Addr × Addr)), refs ps' = refs D.ps → DevAt a H' { D with ps := ps' } s.form la ti (Vbdlan.runTicks n s).accB (Vbdlan.runTicks n s).accD (Vbdlan.runTicks n s).solutes → Mv D.fp ({ D with ps := ps' } : DX).fp H H' → Q .non H'
def ptInv (a : Adr) (H : Hp) (D : DX) (s : Vbdlan.St) (la : Bool) (ti n i : Nat) (σ : L2.St) (H' : Hp) : Prop :=
  ∃ (ps' : List (Addr × Addr × Addr)) (v5 v6 v7 v8 : Option V), σ = [some (.ref D.d), some (.ref D.l), some (.ref D.rb), some (.ref D.rd), some (.int n), v5, v6, v7, v8] ∧ refs ps' = refs D.ps ∧
    DevAt a H' { D with ps := ps' } s.form la ti (Vbdlan.runTicks i s).accB (Vbdlan.runTicks i s).accD (Vbdlan.runTicks i s).solutes ∧ Mv D.fp ({ D with ps := ps' } : DX).fp H H'
def tkInv (a : Adr) (H : Hp) (D : DX) (f : Vbdlan.Form) (la : Bool) (ti aB aD n : Nat) (v5 : Option V) (xs : List Vbdlan.Solute) (mb md : Bool) (i : Nat) (σ : L2.St) (H' : Hp) : Prop :=
  ∃ (ps' : List (Addr × Addr × Addr)) (v8 : Option V), σ = [some (.ref D.d), some (.ref D.l), some (.ref D.rb), some (.ref D.rd), some (.int n), v5, some (.bl mb), some (.bl md), v8] ∧ refs ps' = refs D.ps ∧
    DevAt a H' { D with ps := ps' } f la ti aB aD (mapTo (fun x => Vbdlan.tickOf f mb md x) xs i) ∧ Mv D.fp ({ D with ps := ps' } : DX).fp H H'
theorem ok_pass_ticks (T : Txt K mg a) : FnOk P w K mg base CX0 4 a.f_pass_ticks a.d_pass_ticks ["device", "solutes", "blood_rate", "bath_rate", "ticks"] (sp_pass a) := by
  refine T.F_pass_ticks.ok sc_pass_ticks (fun vs H Q E h => ?_) (fun cdv A outer s0 H vs Q E hr h => ?_)
  · obtain ⟨_, _, _, _, _, rfl, _⟩ := h
    rfl
  · obtain ⟨D, s, la, ti, n, rfl, DA0, FO, SO, hn, k⟩ := h
    have n0 : 0 < s.form.n := by have := FO.n2; omega
    refine ⟨_, (pss_one (ps_for PassesOwn.never rfl (pi_range1 rfl T.b_range (pa_cons (pv 4) pa_nil)) (pg_name (i := 5) sc_pass_ticks.nd rfl (Or.inl rfl)) (pss_cons (ps_set (i := 6) sc_pass_ticks.nd rfl (Or.inl rfl) (pe_meth0 (pv 2) T.cl_Rate T.m_Rate_gather (ok_Rate_gather T) (hr.mono (by decide)) T.bi_Rate_gather .nil pass0)) (pss_cons (ps_set (i := 7) sc_pass_ticks.nd rfl (Or.inl rfl) (pe_meth0 (pv 3) T.cl_Rate T.m_Rate_gather (ok_Rate_gather T) (hr.mono (by decide)) T.bi_Rate_gather .nil pass0)) (pss_one (ps_for PassesOwn.never rfl (pi_list (pv 1)) (pg_name (i := 8) sc_pass_ticks.nd rfl (Or.inl rfl)) (pss_one (ps_expr (pe_meth (pv 8) T.cl_Solute T.m_Solute_tick (ok_Solute_tick T) (hr.mono (by decide)) T.bi_Solute_tick .nil pass0 (pa_cons (pv 0) (pa_cons (pv 6) (pa_cons (pv 7) pa_nil)))))))))))), ?_⟩
    simp only [tfor_range1, tCons, tNil, tVar, L2.start, List.map_cons, List.map_nil, List.length_cons, List.length_nil, Nat.reduceAdd, Nat.reduceSub, List.replicate, List.cons_append, List.nil_append, List.getElem?_cons_zero, List.getElem?_cons_succ, Option.some.injEq, exists_eq_left', List.cons.injEq, V.int.injEq, and_true, Int.toNat_natCast]
    refine ⟨by omega, by omega, loop_range (ptInv a H D s la ti n) ⟨D.ps, _, _, _, _, rfl, rfl, DA0, Mv.refl⟩ ?_ ?_⟩
    · rintro i σ H0 hi ⟨ps', v5, v6, v7, v8, rfl, hrf, DA, M0⟩
      have SOi : ∀ x ∈ (Vbdlan.runTicks i s).solutes, SOk s.form.n x := runTicks_so i n0 SO
      have ef : (Vbdlan.runTicks i s).form = s.form := runTicks_form i s
      have et := runTicks_succ i s
      generalize Vbdlan.runTicks i s = st at DA SOi ef et
      have eB : (Vbdlan.runTicks (i + 1) s).accB = if decide (s.form.bd ≤ st.accB + s.form.bn) = true then st.accB + s.form.bn - s.form.bd else st.accB + s.form.bn := by rw [et, ← ef]; rfl
      have eD : (Vbdlan.runTicks (i + 1) s).accD = if decide (s.form.dd ≤ st.accD + s.form.dn) = true then st.accD + s.form.dn - s.form.dd else st.accD + s.form.dn := by rw [et, ← ef]; rfl
      have eS : (Vbdlan.runTicks (i + 1) s).solutes = st.solutes.map fun x => Vbdlan.tickOf s.form (decide (s.form.bd ≤ st.accB + s.form.bn)) (decide (s.form.dd ≤ st.accD + s.form.dn)) x := by rw [et, ← ef]; rfl
      generalize hmb : decide (s.form.bd ≤ st.accB + s.form.bn) = mb at eB eS
      generalize hmd : decide (s.form.dd ≤ st.accD + s.form.dn) = md at eD eS
      simp only [gName, Int.zero_add, List.set_cons_zero, List.set_cons_succ]
      have hrb := DA.hrb
      obtain ⟨r1, e1⟩ := hrb
      have e1 : H0 D.rb = some (.ins a.C_Rate r1 (rf ⟨s.form.bn, s.form.bd, st.accB⟩)) := e1
      refine hide1 fun U hU => ?_
      simp only [tSeq, tIfS, tTest, tOp, rI0, rI, rEq, rNe, tVar, tC, tRet, tRetN, tNext, tUn, rU, L2.start, tFld, sFld, sFldAug, rAdd, rSub, tDrop, tAsg, gName, tAug, tAugS, ipI, tCons, tNil, tLst, tCall, tMeth, tMake, tCB, tNot, tAnd, tOr, tB, tAndV, tOrV, tNotV, rIxH, rSetL, tSl, tPart, tNoPart, rSlH, rCat, rRep, rSumN, tBM, rAppend, rExtend, tCallV, tDinK, tDgetK, tlc_list, tYes, scal, exists_eq_left', exists_eq_left, exists_and_left, Option.some.injEq, L3.vi, L3.vr, L3.vb, List.map_cons, List.map_nil, List.length_cons, List.length_nil, Nat.reduceAdd, Nat.reduceSub, Nat.zero_add, Nat.sub_self, List.replicate, List.cons_append, List.nil_append, List.append_nil, L3.gz, L3.gs, L3.z0, L3.z1, and_true, true_and, Bool.not_eq_true, HO.ins.injEq, L3.hl, and_assoc, decide_eq_true_eq, Bool.false_eq_true, if_false, if_true, List.cons.injEq, cxK, Nat.reduceLT, Nat.reduceLeDiff, upd_same, upd_upd, tfor_range1, tfor_list, Int.toNat_natCast, vN_inj, vN_length, vN_set, Int.neg_neg, rf_all, e1]
      refine ⟨D.rb, r1, s.form.bn, s.form.bd, st.accB, rfl, e1, ?_⟩
      simp only [tSeq, tIfS, tTest, tOp, rI0, rI, rEq, rNe, tVar, tC, tRet, tRetN, tNext, tUn, rU, L2.start, tFld, sFld, sFldAug, rAdd, rSub, tDrop, tAsg, gName, tAug, tAugS, ipI, tCons, tNil, tLst, tCall, tMeth, tMake, tCB, tNot, tAnd, tOr, tB, tAndV, tOrV, tNotV, rIxH, rSetL, tSl, tPart, tNoPart, rSlH, rCat, rRep, rSumN, tBM, rAppend, rExtend, tCallV, tDinK, tDgetK, tlc_list, tYes, scal, exists_eq_left', exists_eq_left, exists_and_left, Option.some.injEq, L3.vi, L3.vr, L3.vb, List.map_cons, List.map_nil, List.length_cons, List.length_nil, Nat.reduceAdd, Nat.reduceSub, Nat.zero_add, Nat.sub_self, List.replicate, List.cons_append, List.nil_append, List.append_nil, L3.gz, L3.gs, L3.z0, L3.z1, and_true, true_and, Bool.not_eq_true, HO.ins.injEq, L3.hl, and_assoc, decide_eq_true_eq, Bool.false_eq_true, if_false, if_true, List.cons.injEq, cxK, Nat.reduceLT, Nat.reduceLeDiff, upd_same, upd_upd, tfor_range1, tfor_list, Int.toNat_natCast, vN_inj, vN_length, vN_set, Int.neg_neg, hmb]
      obtain ⟨DB, M1⟩ := DA.setRb e1 (n := s.form.bn) (d := s.form.bd) (acc := if mb = true then st.accB + s.form.bn - s.form.bd else st.accB + s.form.bn) (f' := s.form) rfl
      dsimp only at DB M1
      generalize upd H0 D.rb _ = H1 at DB M1 ⊢
      generalize (if mb = true then st.accB + s.form.bn - s.form.bd else st.accB + s.form.bn) = aB' at DB eB ⊢
      have hrd := DB.hrd
      obtain ⟨r2, e2⟩ := hrd
      have e2 : H1 D.rd = some (.ins a.C_Rate r2 (rf ⟨s.form.dn, s.form.dd, st.accD⟩)) := e2
      subst hU
      refine hide1 fun U hU => ?_
      simp only [tSeq, tIfS, tTest, tOp, rI0, rI, rEq, rNe, tVar, tC, tRet, tRetN, tNext, tUn, rU, L2.start, tFld, sFld, sFldAug, rAdd, rSub, tDrop, tAsg, gName, tAug, tAugS, ipI, tCons, tNil, tLst, tCall, tMeth, tMake, tCB, tNot, tAnd, tOr, tB, tAndV, tOrV, tNotV, rIxH, rSetL, tSl, tPart, tNoPart, rSlH, rCat, rRep, rSumN, tBM, rAppend, rExtend, tCallV, tDinK, tDgetK, tlc_list, tYes, scal, exists_eq_left', exists_eq_left, exists_and_left, Option.some.injEq, L3.vi, L3.vr, L3.vb, List.map_cons, List.map_nil, List.length_cons, List.length_nil, Nat.reduceAdd, Nat.reduceSub, Nat.zero_add, Nat.sub_self, List.replicate, List.cons_append, List.nil_append, List.append_nil, L3.gz, L3.gs, L3.z0, L3.z1, and_true, true_and, Bool.not_eq_true, HO.ins.injEq, L3.hl, and_assoc, decide_eq_true_eq, Bool.false_eq_true, if_false, if_true, List.cons.injEq, cxK, Nat.reduceLT, Nat.reduceLeDiff, upd_same, upd_upd, tfor_range1, tfor_list, Int.toNat_natCast, vN_inj, vN_length, vN_set, Int.neg_neg, rf_all, e2]
      refine ⟨D.rd, r2, s.form.dn, s.form.dd, st.accD, rfl, e2, ?_⟩
      simp only [tSeq, tIfS, tTest, tOp, rI0, rI, rEq, rNe, tVar, tC, tRet, tRetN, tNext, tUn, rU, L2.start, tFld, sFld, sFldAug, rAdd, rSub, tDrop, tAsg, gName, tAug, tAugS, ipI, tCons, tNil, tLst, tCall, tMeth, tMake, tCB, tNot, tAnd, tOr, tB, tAndV, tOrV, tNotV, rIxH, rSetL, tSl, tPart, tNoPart, rSlH, rCat, rRep, rSumN, tBM, rAppend, rExtend, tCallV, tDinK, tDgetK, tlc_list, tYes, scal, exists_eq_left', exists_eq_left, exists_and_left, Option.some.injEq, L3.vi, L3.vr, L3.vb, List.map_cons, List.map_nil, List.length_cons, List.length_nil, Nat.reduceAdd, Nat.reduceSub, Nat.zero_add, Nat.sub_self, List.replicate, List.cons_append, List.nil_append, List.append_nil, L3.gz, L3.gs, L3.z0, L3.z1, and_true, true_and, Bool.not_eq_true, HO.ins.injEq, L3.hl, and_assoc, decide_eq_true_eq, Bool.false_eq_true, if_false, if_true, List.cons.injEq, cxK, Nat.reduceLT, Nat.reduceLeDiff, upd_same, upd_upd, tfor_range1, tfor_list, Int.toNat_natCast, vN_inj, vN_length, vN_set, Int.neg_neg, hmd]
      obtain ⟨DC, M2⟩ := DB.setRd e2 (n := s.form.dn) (d := s.form.dd) (acc := if md = true then st.accD + s.form.dn - s.form.dd else st.accD + s.form.dn) (f' := s.form) rfl
      dsimp only at DC M2
      generalize upd H1 D.rd _ = H2 at DC M2 ⊢
      generalize (if md = true then st.accD + s.form.dn - s.form.dd else st.accD + s.form.dn) = aD' at DC eD ⊢
      subst hU
      have hls : H2 D.l = some (.lst (refs D.ps)) := by rw [← hrf]; exact DC.lst
      simp only [tSeq, tIfS, tTest, tOp, rI0, rI, rEq, rNe, tVar, tC, tRet, tRetN, tNext, tUn, rU, L2.start, tFld, sFld, sFldAug, rAdd, rSub, tDrop, tAsg, gName, tAug, tAugS, ipI, tCons, tNil, tLst, tCall, tMeth, tMake, tCB, tNot, tAnd, tOr, tB, tAndV, tOrV, tNotV, rIxH, rSetL, tSl, tPart, tNoPart, rSlH, rCat, rRep, rSumN, tBM, rAppend, rExtend, tCallV, tDinK, tDgetK, tlc_list, tYes, scal, exists_eq_left', exists_eq_left, exists_and_left, Option.some.injEq, L3.vi, L3.vr, L3.vb, List.map_cons, List.map_nil, List.length_cons, List.length_nil, Nat.reduceAdd, Nat.reduceSub, Nat.zero_add, Nat.sub_self, List.replicate, List.cons_append, List.nil_append, List.append_nil, L3.gz, L3.gs, L3.z0, L3.z1, and_true, true_and, Bool.not_eq_true, HO.ins.injEq, L3.hl, and_assoc, decide_eq_true_eq, Bool.false_eq_true, if_false, if_true, List.cons.injEq, cxK, Nat.reduceLT, Nat.reduceLeDiff, upd_same, upd_upd, tfor_range1, tfor_list, Int.toNat_natCast, vN_inj, vN_length, vN_set, Int.neg_neg, sqL_ex hls]
      refine loop_list (xs := refs D.ps) (tkInv a H D s.form la ti aB' aD' n (some (.int (i : Int))) st.solutes mb md)
        ⟨ps', _, rfl, hrf, DC, M0.trans (M1.trans M2)⟩ (fun j σ H' _ h => ?_) ?_ ?_
      · obtain ⟨ps1, v, _, hrf1, DA', _⟩ := h
        have q := DA'.lst
        dsimp only at q
        rw [hrf1] at q
        exact SqL.of q
      · rintro j y σ H' hj ⟨ps1, v, rfl, hrf1, DA', M'⟩
        rw [← hrf1] at hj
        obtain ⟨t, ht, rfl⟩ := refs_get hj
        obtain ⟨x0, hx0, hs⟩ := DA'.solx (j := j) (t := t) ht
        have hix : j < st.solutes.length := by
          have := (List.getElem?_eq_some_iff.mp hx0).1
          rw [mapTo_len] at this
          exact this
        obtain ⟨x, hx⟩ : ∃ x, st.solutes[j]? = some x := ⟨_, List.getElem?_eq_getElem hix⟩
        rw [mapTo_at hx] at hx0
        have ex : x = x0 := Option.some.inj hx0
        subst ex
        obtain ⟨dx, ep⟩ := hs.obj
        simp only [tSeq, tIfS, tTest, tOp, rI0, rI, rEq, rNe, tVar, tC, tRet, tRetN, tNext, tUn, rU, L2.start, tFld, sFld, sFldAug, rAdd, rSub, tDrop, tAsg, gName, tAug, tAugS, ipI, tCons, tNil, tLst, tCall, tMeth, tMake, tCB, tNot, tAnd, tOr, tB, tAndV, tOrV, tNotV, rIxH, rSetL, tSl, tPart, tNoPart, rSlH, rCat, rRep, rSumN, tBM, rAppend, rExtend, tCallV, tDinK, tDgetK, tlc_list, tYes, scal, exists_eq_left', exists_eq_left, exists_and_left, Option.some.injEq, L3.vi, L3.vr, L3.vb, List.map_cons, List.map_nil, List.length_cons, List.length_nil, Nat.reduceAdd, Nat.reduceSub, Nat.zero_add, Nat.sub_self, List.replicate, List.cons_append, List.nil_append, List.append_nil, L3.gz, L3.gs, L3.z0, L3.z1, and_true, true_and, Bool.not_eq_true, HO.ins.injEq, L3.hl, and_assoc, decide_eq_true_eq, Bool.false_eq_true, if_false, if_true, List.cons.injEq, cxK, Nat.reduceLT, Nat.reduceLeDiff, upd_same, upd_upd, tfor_range1, tfor_list, Int.toNat_natCast, vN_inj, vN_length, vN_set, Int.neg_neg, sf_all, df_all, ep]
        refine ⟨t.1, D.d, D.dd, t.2.1, t.2.2, D.l0, D.rb0, D.rd0, x, s.form, la, ti, mb, md, rfl, hs, DA'.dev, FO, SOi x (List.mem_of_getElem? hx), fun H3 bl' ba' hs' hbl hba kp => ?_⟩
        obtain ⟨DN, MN⟩ := DA'.setSol (j := j) (t := t) ht hs' hbl hba kp
        rw [mapTo_next hx] at DN
        exact ⟨ps1.set j (t.1, bl', ba'), _, rfl, (refs_set ht).trans hrf1, DN, M'.trans MN⟩
      · rintro σ H' ⟨ps1, v, rfl, hrf1, DA', M'⟩
        have e : (refs D.ps).length = st.solutes.length := by rw [← hrf, refs_len]; exact DA.len
        rw [e, mapTo_all, ← eS, ← eB, ← eD] at DA'
        exact ⟨ps1, _, _, _, _, rfl, hrf1, DA', M'⟩
    · rintro σ H' ⟨ps', v5, v6, v7, v8, rfl, hrf, DA, M⟩
      exact k H' ps' hrf DA M
end
end Bb

set_option Elab.async false
set_option linter.all false
set_option maxRecDepth 100000
namespace Bb
open PySem PySem.Spec PyProof.Rows L2 L3
section
variable {P : Program} {w : World} {K : PySem.W.Frag} {mg : Str → Option Value} {base : Heap} {a : Adr}
/-- Solute.__init__ -/
def sp_sinit (a : Adr) : Sp := fun vs H Q _ => ∃ (p dx : Addr), vs = [.ref p] ∧ H p = some (.ins a.C_Solute dx []) ∧
  ∀ (H' : Hp) (bl ba : Addr), H' p = some (.ins a.C_Solute dx (sf (sI (Vbdlan.newSolute 0) bl ba))) → H' bl = some (.lst (vN [])) → H' ba = some (.lst (vN [])) → bl ≠ ba → H bl = none → H ba = none → But H H' p → Q .non H'
theorem ok_Solute_init (T : Txt K mg a) : FnOk P w K mg base CX0 1 a.f_Solute_init a.d_Solute_init ["self"] (sp_sinit a) := by
  refine T.F_Solute_init.ok sc_Solute_init (fun vs H Q E h => ?_) (fun cdv A outer s H vs Q E hr h => ?_)
  · obtain ⟨_, _, rfl, _⟩ := h
    rfl
  · obtain ⟨p, dx, rfl, hp, k⟩ := h
    refine ⟨_, (pss_cons (ps_fld (pv 0) pe_int rfl) (pss_cons (ps_fld (pv 0) pe_int rfl) (pss_cons (ps_fld (pv 0) pe_int rfl) (pss_cons (ps_fld (pv 0) pe_int rfl) (pss_cons (ps_fld (pv 0) pe_int rfl) (pss_cons (ps_fld (pv 0) (pe_lst pa_nil) rfl) (pss_cons (ps_fld (pv 0) (pe_lst pa_nil) rfl) (pss_cons (ps_fld (pv 0) pe_int rfl) (pss_cons (ps_fld (pv 0) pe_int rfl) (pss_cons (ps_fld (pv 0) pe_int rfl) (pss_cons (ps_fld (pv 0) pe_int rfl) (pss_cons (ps_fld (pv 0) pe_int rfl) (pss_cons (ps_fld (pv 0) pe_int rfl) (pss_cons (ps_fld (pv 0) pe_int rfl) (pss_one (ps_fld (pv 0) pe_int rfl)))))))))))))))), ?_⟩
    refine hide5 fun U hU => ?_
    simp only [tSeq, tIfS, tTest, tOp, rI0, rI, rEq, rNe, tVar, tC, tRet, tRetN, tNext, tUn, rU, L2.start, tFld, sFld, sFldAug, rAdd, rSub, tDrop, tAsg, gName, tAug, tAugS, ipI, tCons, tNil, tLst, tCall, tMeth, tMake, tCB, tNot, tAnd, tOr, tB, tAndV, tOrV, tNotV, rIxH, rSetL, tSl, tPart, tNoPart, rSlH, rCat, rRep, rSumN, tBM, rAppend, rExtend, tCallV, tDinK, tDgetK, tlc_list, tYes, scal, exists_eq_left', exists_eq_left, exists_and_left, Option.some.injEq, L3.vi, L3.vr, L3.vb, List.map_cons, List.map_nil, List.length_cons, List.length_nil, Nat.reduceAdd, Nat.reduceSub, Nat.zero_add, Nat.sub_self, List.replicate, List.cons_append, List.nil_append, List.append_nil, L3.gz, L3.gs, L3.z0, L3.z1, and_true, true_and, Bool.not_eq_true, HO.ins.injEq, L3.hl, and_assoc, decide_eq_true_eq, Bool.false_eq_true, if_false, if_true, List.cons.injEq, cxK, Nat.reduceLT, Nat.reduceLeDiff, upd_same, upd_upd, tfor_range1, tfor_list, Int.toNat_natCast, vN_inj, vN_length, vN_set, Int.neg_neg, sf_ini_all, hp, T.nos_Solute]
    refine gen_upd (Q := U _ _) fun H1 g1 B1 => ?_
    subst hU
    refine hide1 fun U hU => ?_
    simp only [tSeq, tIfS, tTest, tOp, rI0, rI, rEq, rNe, tVar, tC, tRet, tRetN, tNext, tUn, rU, L2.start, tFld, sFld, sFldAug, rAdd, rSub, tDrop, tAsg, gName, tAug, tAugS, ipI, tCons, tNil, tLst, tCall, tMeth, tMake, tCB, tNot, tAnd, tOr, tB, tAndV, tOrV, tNotV, rIxH, rSetL, tSl, tPart, tNoPart, rSlH, rCat, rRep, rSumN, tBM, rAppend, rExtend, tCallV, tDinK, tDgetK, tlc_list, tYes, scal, exists_eq_left', exists_eq_left, exists_and_left, Option.some.injEq, L3.vi, L3.vr, L3.vb, List.map_cons, List.map_nil, List.length_cons, List.length_nil, Nat.reduceAdd, Nat.reduceSub, Nat.zero_add, Nat.sub_self, List.replicate, List.cons_append, List.nil_append, List.append_nil, L3.gz, L3.gs, L3.z0, L3.z1, and_true, true_and, Bool.not_eq_true, HO.ins.injEq, L3.hl, and_assoc, decide_eq_true_eq, Bool.false_eq_true, if_false, if_true, List.cons.injEq, cxK, Nat.reduceLT, Nat.reduceLeDiff, upd_same, upd_upd, tfor_range1, tfor_list, Int.toNat_natCast, vN_inj, vN_length, vN_set, Int.neg_neg, sf_ini_all, g1, T.nos_Solute]
    refine ⟨by decide, ?_⟩
    intro l1 f_l1
    generalize hG_l1 : upd H1 l1 _ = H2
    obtain ⟨e_l1, S_l1⟩ := new_facts hG_l1 f_l1
    clear hG_l1
    have n1 : l1 ≠ p := (ne_of_none g1 f_l1).symm
    have g1 := S_l1 _ _ g1
    simp only [tSeq, tIfS, tTest, tOp, rI0, rI, rEq, rNe, tVar, tC, tRet, tRetN, tNext, tUn, rU, L2.start, tFld, sFld, sFldAug, rAdd, rSub, tDrop, tAsg, gName, tAug, tAugS, ipI, tCons, tNil, tLst, tCall, tMeth, tMake, tCB, tNot, tAnd, tOr, tB, tAndV, tOrV, tNotV, rIxH, rSetL, tSl, tPart, tNoPart, rSlH, rCat, rRep, rSumN, tBM, rAppend, rExtend, tCallV, tDinK, tDgetK, tlc_list, tYes, scal, exists_eq_left', exists_eq_left, exists_and_left, Option.some.injEq, L3.vi, L3.vr, L3.vb, List.map_cons, List.map_nil, List.length_cons, List.length_nil, Nat.reduceAdd, Nat.reduceSub, Nat.zero_add, Nat.sub_self, List.replicate, List.cons_append, List.nil_append, List.append_nil, L3.gz, L3.gs, L3.z0, L3.z1, and_true, true_and, Bool.not_eq_true, HO.ins.injEq, L3.hl, and_assoc, decide_eq_true_eq, Bool.false_eq_true, if_false, if_true, List.cons.injEq, cxK, Nat.reduceLT, Nat.reduceLeDiff, upd_same, upd_upd, tfor_range1, tfor_list, Int.toNat_natCast, vN_inj, vN_length, vN_set, Int.neg_neg, sf_ini_all, g1, T.nos_Solute]
    have B2 := B1.same S_l1
    refine gen_upd (Q := U _ _) fun H3 g1 B3 => ?_
    have e_l1 := B3 _ _ e_l1 n1
    have B3 := B2.trans B3
    subst hU
    refine hide1 fun U hU => ?_
    simp only [tSeq, tIfS, tTest, tOp, rI0, rI, rEq, rNe, tVar, tC, tRet, tRetN, tNext, tUn, rU, L2.start, tFld, sFld, sFldAug, rAdd, rSub, tDrop, tAsg, gName, tAug, tAugS, ipI, tCons, tNil, tLst, tCall, tMeth, tMake, tCB, tNot, tAnd, tOr, tB, tAndV, tOrV, tNotV, rIxH, rSetL, tSl, tPart, tNoPart, rSlH, rCat, rRep, rSumN, tBM, rAppend, rExtend, tCallV, tDinK, tDgetK, tlc_list, tYes, scal, exists_eq_left', exists_eq_left, exists_and_left, Option.some.injEq, L3.vi, L3.vr, L3.vb, List.map_cons, List.map_nil, List.length_cons, List.length_nil, Nat.reduceAdd, Nat.reduceSub, Nat.zero_add, Nat.sub_self, List.replicate, List.cons_append, List.nil_append, List.append_nil, L3.gz, L3.gs, L3.z0, L3.z1, and_true, true_and, Bool.not_eq_true, HO.ins.injEq, L3.hl, and_assoc, decide_eq_true_eq, Bool.false_eq_true, if_false, if_true, List.cons.injEq, cxK, Nat.reduceLT, Nat.reduceLeDiff, upd_same, upd_upd, tfor_range1, tfor_list, Int.toNat_natCast, vN_inj, vN_length, vN_set, Int.neg_neg, sf_ini_all, g1, T.nos_Solute]
    refine ⟨by decide, ?_⟩
    intro l2 f_l2
    generalize hG_l2 : upd H3 l2 _ = H4
    obtain ⟨e_l2, S_l2⟩ := new_facts hG_l2 f_l2
    clear hG_l2
    have n2 : l2 ≠ p := (ne_of_none g1 f_l2).symm
    have n3 : l1 ≠ l2 := ne_of_none e_l1 f_l2
    have g1 := S_l2 _ _ g1
    have e_l1 := S_l2 _ _ e_l1
    simp only [tSeq, tIfS, tTest, tOp, rI0, rI, rEq, rNe, tVar, tC, tRet, tRetN, tNext, tUn, rU, L2.start, tFld, sFld, sFldAug, rAdd, rSub, tDrop, tAsg, gName, tAug, tAugS, ipI, tCons, tNil, tLst, tCall, tMeth, tMake, tCB, tNot, tAnd, tOr, tB, tAndV, tOrV, tNotV, rIxH, rSetL, tSl, tPart, tNoPart, rSlH, rCat, rRep, rSumN, tBM, rAppend, rExtend, tCallV, tDinK, tDgetK, tlc_list, tYes, scal, exists_eq_left', exists_eq_left, exists_and_left, Option.some.injEq, L3.vi, L3.vr, L3.vb, List.map_cons, List.map_nil, List.length_cons, List.length_nil, Nat.reduceAdd, Nat.reduceSub, Nat.zero_add, Nat.sub_self, List.replicate, List.cons_append, List.nil_append, List.append_nil, L3.gz, L3.gs, L3.z0, L3.z1, and_true, true_and, Bool.not_eq_true, HO.ins.injEq, L3.hl, and_assoc, decide_eq_true_eq, Bool.false_eq_true, if_false, if_true, List.cons.injEq, cxK, Nat.reduceLT, Nat.reduceLeDiff, upd_same, upd_upd, tfor_range1, tfor_list, Int.toNat_natCast, vN_inj, vN_length, vN_set, Int.neg_neg, sf_ini_all, g1, T.nos_Solute]
    have B4 := B3.same S_l2
    refine gen_upd (Q := U _ _) fun H5 g1 B5 => ?_
    have e_l1 := B5 _ _ e_l1 n1
    have e_l2 := B5 _ _ e_l2 n2
    have B5 := B4.trans B5
    subst hU
    simp only [tSeq, tIfS, tTest, tOp, rI0, rI, rEq, rNe, tVar, tC, tRet, tRetN, tNext, tUn, rU, L2.start, tFld, sFld, sFldAug, rAdd, rSub, tDrop, tAsg, gName, tAug, tAugS, ipI, tCons, tNil, tLst, tCall, tMeth, tMake, tCB, tNot, tAnd, tOr, tB, tAndV, tOrV, tNotV, rIxH, rSetL, tSl, tPart, tNoPart, rSlH, rCat, rRep, rSumN, tBM, rAppend, rExtend, tCallV, tDinK, tDgetK, tlc_list, tYes, scal, exists_eq_left', exists_eq_left, exists_and_left, Option.some.injEq, L3.vi, L3.vr, L3.vb, List.map_cons, List.map_nil, List.length_cons, List.length_nil, Nat.reduceAdd, Nat.reduceSub, Nat.zero_add, Nat.sub_self, List.replicate, List.cons_append, List.nil_append, List.append_nil, L3.gz, L3.gs, L3.z0, L3.z1, and_true, true_and, Bool.not_eq_true, HO.ins.injEq, L3.hl, and_assoc, decide_eq_true_eq, Bool.false_eq_true, if_false, if_true, List.cons.injEq, cxK, Nat.reduceLT, Nat.reduceLeDiff, upd_same, upd_upd, tfor_range1, tfor_list, Int.toNat_natCast, vN_inj, vN_length, vN_set, Int.neg_neg, sf_ini_all, g1, T.nos_Solute]
    refine k _ l1 l2 upd_same (by rw [upd_ne n1]; exact e_l1) (by rw [upd_ne n2]; exact e_l2) n3 (B1.free f_l1 n1) (B3.free f_l2 n2) B5.upd
/-- lay_cells: new lists of cells -/
def sp_layc (a : Adr) : Sp := fun vs H Q _ => ∃ (p bl ba : Addr) (x : Vbdlan.Solute) (n : Nat), vs = [.ref p, .int n] ∧ SolAt a H p x bl ba ∧ n ≤ 32 ∧
  ∀ (H' : Hp) (bl' ba' : Addr), SolAt a H' p (Vbdlan.moved n x) bl' ba' → H bl' = none → H ba' = none → But H H' p → Q .non H'
theorem ok_Solute_lay_cells (T : Txt K mg a) : FnOk P w K mg base CX0 1 a.f_Solute_lay_cells a.d_Solute_lay_cells ["self", "cells"] (sp_layc a) := by
  refine T.F_Solute_lay_cells.ok sc_Solute_lay_cells (fun vs H Q E h => ?_) (fun cdv A outer s H vs Q E hr h => ?_)
  · obtain ⟨_, _, _, _, _, rfl, _⟩ := h
    rfl
  · obtain ⟨p, bl, ba, x, n, rfl, ⟨⟨dx, hp⟩, hbl, hba, hne⟩, hn, k⟩ := h
    refine ⟨_, (pss_cons (ps_fldaug (pv 0) (pe_op op_add (pe_callB (cr_sumN rfl) (by rfl) T.b_sum boot_sum (pa_cons (pe_fld (pv 0) rfl) pa_nil)) (pe_callB (cr_sumN rfl) (by rfl) T.b_sum boot_sum (pa_cons (pe_fld (pv 0) rfl) pa_nil))) in_add) (pss_cons (ps_fld (pv 0) (pe_op op_rep (pe_lst (pa_cons pe_int pa_nil)) (pv 1)) rfl) (pss_one (ps_fld (pv 0) (pe_op op_rep (pe_lst (pa_cons pe_int pa_nil)) (pv 1)) rfl)))), ?_⟩
    refine hide1 fun U hU => ?_
    simp only [tSeq, tIfS, tTest, tOp, rI0, rI, rEq, rNe, tVar, tC, tRet, tRetN, tNext, tUn, rU, L2.start, tFld, sFld, sFldAug, rAdd, rSub, tDrop, tAsg, gName, tAug, tAugS, ipI, tCons, tNil, tLst, tCall, tMeth, tMake, tCB, tNot, tAnd, tOr, tB, tAndV, tOrV, tNotV, rIxH, rSetL, tSl, tPart, tNoPart, rSlH, rCat, rRep, rSumN, tBM, rAppend, rExtend, tCallV, tDinK, tDgetK, tlc_list, tYes, scal, exists_eq_left', exists_eq_left, exists_and_left, Option.some.injEq, L3.vi, L3.vr, L3.vb, List.map_cons, List.map_nil, List.length_cons, List.length_nil, Nat.reduceAdd, Nat.reduceSub, Nat.zero_add, Nat.sub_self, List.replicate, List.cons_append, List.nil_append, List.append_nil, L3.gz, L3.gs, L3.z0, L3.z1, and_true, true_and, Bool.not_eq_true, HO.ins.injEq, L3.hl, and_assoc, decide_eq_true_eq, Bool.false_eq_true, if_false, if_true, List.cons.injEq, cxK, Nat.reduceLT, Nat.reduceLeDiff, upd_same, upd_upd, tfor_range1, tfor_list, Int.toNat_natCast, vN_inj, vN_length, vN_set, Int.neg_neg, sf_all, hp, hbl, hba, T.nos_Solute, sI]
    refine gen_upd (Q := U _ _) fun H1 g1 B1 => ?_
    subst hU
    refine hide1 fun U hU => ?_
    simp only [tSeq, tIfS, tTest, tOp, rI0, rI, rEq, rNe, tVar, tC, tRet, tRetN, tNext, tUn, rU, L2.start, tFld, sFld, sFldAug, rAdd, rSub, tDrop, tAsg, gName, tAug, tAugS, ipI, tCons, tNil, tLst, tCall, tMeth, tMake, tCB, tNot, tAnd, tOr, tB, tAndV, tOrV, tNotV, rIxH, rSetL, tSl, tPart, tNoPart, rSlH, rCat, rRep, rSumN, tBM, rAppend, rExtend, tCallV, tDinK, tDgetK, tlc_list, tYes, scal, exists_eq_left', exists_eq_left, exists_and_left, Option.some.injEq, L3.vi, L3.vr, L3.vb, List.map_cons, List.map_nil, List.length_cons, List.length_nil, Nat.reduceAdd, Nat.reduceSub, Nat.zero_add, Nat.sub_self, List.replicate, List.cons_append, List.nil_append, List.append_nil, L3.gz, L3.gs, L3.z0, L3.z1, and_true, true_and, Bool.not_eq_true, HO.ins.injEq, L3.hl, and_assoc, decide_eq_true_eq, Bool.false_eq_true, if_false, if_true, List.cons.injEq, cxK, Nat.reduceLT, Nat.reduceLeDiff, upd_same, upd_upd, tfor_range1, tfor_list, Int.toNat_natCast, vN_inj, vN_length, vN_set, Int.neg_neg, sf_all]
    refine ⟨by decide, ?_⟩
    intro l1 f_l1
    generalize hG_l1 : upd H1 l1 _ = H2
    obtain ⟨e_l1, S_l1⟩ := new_facts hG_l1 f_l1
    clear hG_l1
    have g1 := S_l1 _ _ g1
    refine ⟨by omega, by omega, by rw [sizeLine_eq]; omega, ?_⟩
    intro l2 f_l2
    generalize hG_l2 : upd H2 l2 _ = H3
    obtain ⟨e_l2, S_l2⟩ := new_facts hG_l2 f_l2
    clear hG_l2
    have n2 : l2 ≠ p := (ne_of_none g1 f_l2).symm
    have g1 := S_l2 _ _ g1
    simp only [tSeq, tIfS, tTest, tOp, rI0, rI, rEq, rNe, tVar, tC, tRet, tRetN, tNext, tUn, rU, L2.start, tFld, sFld, sFldAug, rAdd, rSub, tDrop, tAsg, gName, tAug, tAugS, ipI, tCons, tNil, tLst, tCall, tMeth, tMake, tCB, tNot, tAnd, tOr, tB, tAndV, tOrV, tNotV, rIxH, rSetL, tSl, tPart, tNoPart, rSlH, rCat, rRep, rSumN, tBM, rAppend, rExtend, tCallV, tDinK, tDgetK, tlc_list, tYes, scal, exists_eq_left', exists_eq_left, exists_and_left, Option.some.injEq, L3.vi, L3.vr, L3.vb, List.map_cons, List.map_nil, List.length_cons, List.length_nil, Nat.reduceAdd, Nat.reduceSub, Nat.zero_add, Nat.sub_self, List.replicate, List.cons_append, List.nil_append, List.append_nil, L3.gz, L3.gs, L3.z0, L3.z1, and_true, true_and, Bool.not_eq_true, HO.ins.injEq, L3.hl, and_assoc, decide_eq_true_eq, Bool.false_eq_true, if_false, if_true, List.cons.injEq, cxK, Nat.reduceLT, Nat.reduceLeDiff, upd_same, upd_upd, tfor_range1, tfor_list, Int.toNat_natCast, vN_inj, vN_length, vN_set, Int.neg_neg, sf_all, g1, T.nos_Solute]
    have B3 := (B1.same S_l1).same S_l2
    have u2 := (B1.same S_l1).free f_l2 n2
    refine gen_upd (Q := U _ _) fun H4 g1 B4 => ?_
    have e_l2 := B4 _ _ e_l2 n2
    have B4 := B3.trans B4
    subst hU
    simp only [tSeq, tIfS, tTest, tOp, rI0, rI, rEq, rNe, tVar, tC, tRet, tRetN, tNext, tUn, rU, L2.start, tFld, sFld, sFldAug, rAdd, rSub, tDrop, tAsg, gName, tAug, tAugS, ipI, tCons, tNil, tLst, tCall, tMeth, tMake, tCB, tNot, tAnd, tOr, tB, tAndV, tOrV, tNotV, rIxH, rSetL, tSl, tPart, tNoPart, rSlH, rCat, rRep, rSumN, tBM, rAppend, rExtend, tCallV, tDinK, tDgetK, tlc_list, tYes, scal, exists_eq_left', exists_eq_left, exists_and_left, Option.some.injEq, L3.vi, L3.vr, L3.vb, List.map_cons, List.map_nil, List.length_cons, List.length_nil, Nat.reduceAdd, Nat.reduceSub, Nat.zero_add, Nat.sub_self, List.replicate, List.cons_append, List.nil_append, List.append_nil, L3.gz, L3.gs, L3.z0, L3.z1, and_true, true_and, Bool.not_eq_true, HO.ins.injEq, L3.hl, and_assoc, decide_eq_true_eq, Bool.false_eq_true, if_false, if_true, List.cons.injEq, cxK, Nat.reduceLT, Nat.reduceLeDiff, upd_same, upd_upd, tfor_range1, tfor_list, Int.toNat_natCast, vN_inj, vN_length, vN_set, Int.neg_neg, sf_all]
    refine ⟨by decide, ?_⟩
    intro l3 f_l3
    generalize hG_l3 : upd H4 l3 _ = H5
    obtain ⟨e_l3, S_l3⟩ := new_facts hG_l3 f_l3
    clear hG_l3
    have g1 := S_l3 _ _ g1
    have e_l2 := S_l3 _ _ e_l2
    refine ⟨by omega, by omega, by rw [sizeLine_eq]; omega, ?_⟩
    intro l4 f_l4
    generalize hG_l4 : upd H5 l4 _ = H6
    obtain ⟨e_l4, S_l4⟩ := new_facts hG_l4 f_l4
    clear hG_l4
    have n4 : l4 ≠ p := (ne_of_none g1 f_l4).symm
    have n5 : l2 ≠ l4 := ne_of_none e_l2 f_l4
    have g1 := S_l4 _ _ g1
    have e_l2 := S_l4 _ _ e_l2
    simp only [tSeq, tIfS, tTest, tOp, rI0, rI, rEq, rNe, tVar, tC, tRet, tRetN, tNext, tUn, rU, L2.start, tFld, sFld, sFldAug, rAdd, rSub, tDrop, tAsg, gName, tAug, tAugS, ipI, tCons, tNil, tLst, tCall, tMeth, tMake, tCB, tNot, tAnd, tOr, tB, tAndV, tOrV, tNotV, rIxH, rSetL, tSl, tPart, tNoPart, rSlH, rCat, rRep, rSumN, tBM, rAppend, rExtend, tCallV, tDinK, tDgetK, tlc_list, tYes, scal, exists_eq_left', exists_eq_left, exists_and_left, Option.some.injEq, L3.vi, L3.vr, L3.vb, List.map_cons, List.map_nil, List.length_cons, List.length_nil, Nat.reduceAdd, Nat.reduceSub, Nat.zero_add, Nat.sub_self, List.replicate, List.cons_append, List.nil_append, List.append_nil, L3.gz, L3.gs, L3.z0, L3.z1, and_true, true_and, Bool.not_eq_true, HO.ins.injEq, L3.hl, and_assoc, decide_eq_true_eq, Bool.false_eq_true, if_false, if_true, List.cons.injEq, cxK, Nat.reduceLT, Nat.reduceLeDiff, upd_same, upd_upd, tfor_range1, tfor_list, Int.toNat_natCast, vN_inj, vN_length, vN_set, Int.neg_neg, sf_all, g1, T.nos_Solute]
    have B6 := (B4.same S_l3).same S_l4
    have u4 := (B4.same S_l3).free f_l4 n4
    rw [rep_vN] at e_l2 e_l4
    refine k _ l2 l4 ⟨⟨dx, ?_⟩, (by rw [upd_ne n2]; exact e_l2), (by rw [upd_ne n4]; exact e_l4), n5⟩ u2 u4 B6.upd
    rw [upd_same]
    have e : (x.thrown : Int) + ((Vbdlan.sum x.blood : Nat) + (Vbdlan.sum x.bath : Nat)) = ((x.thrown + Vbdlan.sum x.blood + Vbdlan.sum x.bath : Nat) : Int) := by omega
    rw [e]
    rfl
/-- dose -/
def sp_dose (a : Adr) : Sp := fun vs H Q _ => ∃ (p dx bl ba : Addr) (x : Vbdlan.Solute) (w : Int) (m : Nat), vs = [.ref p, .int w, .int m] ∧ H p = some (.ins a.C_Solute dx (sf (sI x bl ba))) ∧
  Q .non (upd H p (.ins a.C_Solute dx (sf (sI (if w = 0 then { x with m1 := x.m1 + m, given := x.given + m } else { x with m2 := x.m2 + m, given := x.given + m }) bl ba))))
theorem ok_Solute_dose (T : Txt K mg a) : FnOk P w K mg base CX0 1 a.f_Solute_dose a.d_Solute_dose ["self", "which", "mass"] (sp_dose a) := by
  refine T.F_Solute_dose.ok sc_Solute_dose (fun vs H Q E h => ?_) (fun cdv A outer s H vs Q E hr h => ?_)
  · obtain ⟨_, _, _, _, _, _, _, rfl, _⟩ := h
    rfl
  · obtain ⟨p, dx, bl, ba, x, w, m, rfl, hp, k⟩ := h
    refine ⟨_, (pss_cons (ps_if (pt_cmpR op_eq (pv 1) pe_int (nomark _)) (pss_one (ps_fldaug (pv 0) (pv 2) in_add)) (pss_one (ps_fldaug (pv 0) (pv 2) in_add))) (pss_one (ps_fldaug (pv 0) (pv 2) in_add))), ?_⟩
    simp only [tSeq, tIfS, tTest, tOp, rI0, rI, rEq, rNe, tVar, tC, tRet, tRetN, tNext, tUn, rU, L2.start, tFld, sFld, sFldAug, rAdd, rSub, tDrop, tAsg, gName, tAug, tAugS, ipI, tCons, tNil, tLst, tCall, tMeth, tMake, tCB, tNot, tAnd, tOr, tB, tAndV, tOrV, tNotV, rIxH, rSetL, tSl, tPart, tNoPart, rSlH, rCat, rRep, rSumN, tBM, rAppend, rExtend, tCallV, tDinK, tDgetK, tlc_list, tYes, scal, exists_eq_left', exists_eq_left, exists_and_left, Option.some.injEq, L3.vi, L3.vr, L3.vb, List.map_cons, List.map_nil, List.length_cons, List.length_nil, Nat.reduceAdd, Nat.reduceSub, Nat.zero_add, Nat.sub_self, List.replicate, List.cons_append, List.nil_append, List.append_nil, L3.gz, L3.gs, L3.z0, L3.z1, and_true, true_and, Bool.not_eq_true, HO.ins.injEq, L3.hl, and_assoc, decide_eq_true_eq, Bool.false_eq_true, if_false, if_true, List.cons.injEq, cxK, Nat.reduceLT, Nat.reduceLeDiff, upd_same, upd_upd, tfor_range1, tfor_list, Int.toNat_natCast, vN_inj, vN_length, vN_set, Int.neg_neg, sf_all, hp, T.nos_Solute, sI]
    refine ite2 (fun h0 => ?_) fun h0 => ?_
    · rw [if_pos h0] at k; exact k
    · rw [if_neg h0] at k; exact k
/-- mark -/
def mrk (x : Vbdlan.Solute) : Vbdlan.Solute := { x with into := 0, outOf := 0, mark := x.m1 }
def sp_mark (a : Adr) : Sp := fun vs H Q _ => ∃ (p dx bl ba : Addr) (x : Vbdlan.Solute), vs = [.ref p] ∧ H p = some (.ins a.C_Solute dx (sf (sI x bl ba))) ∧
  Q .non (upd H p (.ins a.C_Solute dx (sf (sI (mrk x) bl ba))))
theorem ok_Solute_mark (T : Txt K mg a) : FnOk P w K mg base CX0 1 a.f_Solute_mark a.d_Solute_mark ["self"] (sp_mark a) := by
  refine T.F_Solute_mark.ok sc_Solute_mark (fun vs H Q E h => ?_) (fun cdv A outer s H vs Q E hr h => ?_)
  · obtain ⟨_, _, _, _, _, rfl, _⟩ := h
    rfl
  · obtain ⟨p, dx, bl, ba, x, rfl, hp, k⟩ := h
    refine ⟨_, (pss_cons (ps_fld (pv 0) pe_int rfl) (pss_cons (ps_fld (pv 0) pe_int rfl) (pss_one (ps_fld (pv 0) (pe_fld (pv 0) rfl) rfl)))), ?_⟩
    simp only [tSeq, tIfS, tTest, tOp, rI0, rI, rEq, rNe, tVar, tC, tRet, tRetN, tNext, tUn, rU, L2.start, tFld, sFld, sFldAug, rAdd, rSub, tDrop, tAsg, gName, tAug, tAugS, ipI, tCons, tNil, tLst, tCall, tMeth, tMake, tCB, tNot, tAnd, tOr, tB, tAndV, tOrV, tNotV, rIxH, rSetL, tSl, tPart, tNoPart, rSlH, rCat, rRep, rSumN, tBM, rAppend, rExtend, tCallV, tDinK, tDgetK, tlc_list, tYes, scal, exists_eq_left', exists_eq_left, exists_and_left, Option.some.injEq, L3.vi, L3.vr, L3.vb, List.map_cons, List.map_nil, List.length_cons, List.length_nil, Nat.reduceAdd, Nat.reduceSub, Nat.zero_add, Nat.sub_self, List.replicate, List.cons_append, List.nil_append, List.append_nil, L3.gz, L3.gs, L3.z0, L3.z1, and_true, true_and, Bool.not_eq_true, HO.ins.injEq, L3.hl, and_assoc, decide_eq_true_eq, Bool.false_eq_true, if_false, if_true, List.cons.injEq, cxK, Nat.reduceLT, Nat.reduceLeDiff, upd_same, upd_upd, tfor_range1, tfor_list, Int.toNat_natCast, vN_inj, vN_length, vN_set, Int.neg_neg, sf_all, hp, T.nos_Solute, sI]
    exact k
/-- totals: a new list -/
def sp_tot (a : Adr) : Sp := fun vs H Q _ => ∃ (p bl ba : Addr) (x : Vbdlan.Solute), vs = [.ref p] ∧ SolAt a H p x bl ba ∧
  ∀ (H' : Hp) (l : Addr), H' l = some (.lst ((Vbdlan.soluteTotals x).map V.int)) → H l = none → Same H H' → Q (.ref l) H'
theorem ok_Solute_totals (T : Txt K mg a) : FnOk P w K mg base CX0 1 a.f_Solute_totals a.d_Solute_totals ["self"] (sp_tot a) := by
  refine T.F_Solute_totals.ok sc_Solute_totals (fun vs H Q E h => ?_) (fun cdv A outer s H vs Q E hr h => ?_)
  · obtain ⟨_, _, _, _, rfl, _⟩ := h
    rfl
  · obtain ⟨p, bl, ba, x, rfl, ⟨⟨dx, hp⟩, hbl, hba, hne⟩, k⟩ := h
    refine ⟨_, (pss_cons (ps_set (i := 1) sc_Solute_totals.nd rfl (Or.inl rfl) (pe_lst (pa_cons (pe_fld (pv 0) rfl) (pa_cons (pe_fld (pv 0) rfl) (pa_cons (pe_fld (pv 0) rfl) (pa_cons (pe_fld (pv 0) rfl) (pa_cons (pe_fld (pv 0) rfl) pa_nil))))))) (pss_one (ps_ret (pe_op op_cat (pv 1) (pe_lst (pa_cons (pe_fld (pv 0) rfl) (pa_cons (pe_fld (pv 0) rfl) (pa_cons (pe_callB (cr_sumN rfl) (by rfl) T.b_sum boot_sum (pa_cons (pe_fld (pv 0) rfl) pa_nil)) (pa_cons (pe_callB (cr_sumN rfl) (by rfl) T.b_sum boot_sum (pa_cons (pe_fld (pv 0) rfl) pa_nil)) pa_nil))))))))), ?_⟩
    refine hide1 fun U hU => ?_
    simp only [tSeq, tIfS, tTest, tOp, rI0, rI, rEq, rNe, tVar, tC, tRet, tRetN, tNext, tUn, rU, L2.start, tFld, sFld, sFldAug, rAdd, rSub, tDrop, tAsg, gName, tAug, tAugS, ipI, tCons, tNil, tLst, tCall, tMeth, tMake, tCB, tNot, tAnd, tOr, tB, tAndV, tOrV, tNotV, rIxH, rSetL, tSl, tPart, tNoPart, rSlH, rCat, rRep, rSumN, tBM, rAppend, rExtend, tCallV, tDinK, tDgetK, tlc_list, tYes, scal, exists_eq_left', exists_eq_left, exists_and_left, Option.some.injEq, L3.vi, L3.vr, L3.vb, List.map_cons, List.map_nil, List.length_cons, List.length_nil, Nat.reduceAdd, Nat.reduceSub, Nat.zero_add, Nat.sub_self, List.replicate, List.cons_append, List.nil_append, List.append_nil, L3.gz, L3.gs, L3.z0, L3.z1, and_true, true_and, Bool.not_eq_true, HO.ins.injEq, L3.hl, and_assoc, decide_eq_true_eq, Bool.false_eq_true, if_false, if_true, List.cons.injEq, cxK, Nat.reduceLT, Nat.reduceLeDiff, upd_same, upd_upd, tfor_range1, tfor_list, Int.toNat_natCast, vN_inj, vN_length, vN_set, Int.neg_neg, sf_all, hp, T.nos_Solute, sI]
    refine ⟨by decide, ?_⟩
    intro l1 f_l1
    generalize hG_l1 : upd H l1 _ = H1
    obtain ⟨e_l1, S_l1⟩ := new_facts hG_l1 f_l1
    clear hG_l1
    have g1 := S_l1 _ _ hp
    have g2 := S_l1 _ _ hbl
    have g3 := S_l1 _ _ hba
    subst hU
    simp only [tSeq, tIfS, tTest, tOp, rI0, rI, rEq, rNe, tVar, tC, tRet, tRetN, tNext, tUn, rU, L2.start, tFld, sFld, sFldAug, rAdd, rSub, tDrop, tAsg, gName, tAug, tAugS, ipI, tCons, tNil, tLst, tCall, tMeth, tMake, tCB, tNot, tAnd, tOr, tB, tAndV, tOrV, tNotV, rIxH, rSetL, tSl, tPart, tNoPart, rSlH, rCat, rRep, rSumN, tBM, rAppend, rExtend, tCallV, tDinK, tDgetK, tlc_list, tYes, scal, exists_eq_left', exists_eq_left, exists_and_left, Option.some.injEq, L3.vi, L3.vr, L3.vb, List.map_cons, List.map_nil, List.length_cons, List.length_nil, Nat.reduceAdd, Nat.reduceSub, Nat.zero_add, Nat.sub_self, List.replicate, List.cons_append, List.nil_append, List.append_nil, L3.gz, L3.gs, L3.z0, L3.z1, and_true, true_and, Bool.not_eq_true, HO.ins.injEq, L3.hl, and_assoc, decide_eq_true_eq, Bool.false_eq_true, if_false, if_true, List.cons.injEq, cxK, Nat.reduceLT, Nat.reduceLeDiff, upd_same, upd_upd, tfor_range1, tfor_list, Int.toNat_natCast, vN_inj, vN_length, vN_set, Int.neg_neg, sf_all, g1, g2, g3, T.nos_Solute, sI]
    refine ⟨by decide, ?_⟩
    intro l2 f_l2
    generalize hG_l2 : upd H1 l2 _ = H2
    obtain ⟨e_l2, S_l2⟩ := new_facts hG_l2 f_l2
    clear hG_l2
    have e_l1 := S_l2 _ _ e_l1
    simp only [tSeq, tIfS, tTest, tOp, rI0, rI, rEq, rNe, tVar, tC, tRet, tRetN, tNext, tUn, rU, L2.start, tFld, sFld, sFldAug, rAdd, rSub, tDrop, tAsg, gName, tAug, tAugS, ipI, tCons, tNil, tLst, tCall, tMeth, tMake, tCB, tNot, tAnd, tOr, tB, tAndV, tOrV, tNotV, rIxH, rSetL, tSl, tPart, tNoPart, rSlH, rCat, rRep, rSumN, tBM, rAppend, rExtend, tCallV, tDinK, tDgetK, tlc_list, tYes, scal, exists_eq_left', exists_eq_left, exists_and_left, Option.some.injEq, L3.vi, L3.vr, L3.vb, List.map_cons, List.map_nil, List.length_cons, List.length_nil, Nat.reduceAdd, Nat.reduceSub, Nat.zero_add, Nat.sub_self, List.replicate, List.cons_append, List.nil_append, List.append_nil, L3.gz, L3.gs, L3.z0, L3.z1, and_true, true_and, Bool.not_eq_true, HO.ins.injEq, L3.hl, and_assoc, decide_eq_true_eq, Bool.false_eq_true, if_false, if_true, List.cons.injEq, cxK, Nat.reduceLT, Nat.reduceLeDiff, upd_same, upd_upd, tfor_range1, tfor_list, Int.toNat_natCast, vN_inj, vN_length, vN_set, Int.neg_neg, sf_all, e_l1, e_l2]
    refine ⟨by decide, ?_⟩
    intro l3 f_l3
    generalize hG_l3 : upd H2 l3 _ = H3
    obtain ⟨e_l3, S_l3⟩ := new_facts hG_l3 f_l3
    clear hG_l3
    have s2 := S_l1.trans S_l2
    exact k H3 l3 e_l3 (s2.free f_l3) (s2.trans S_l3)
/-- a copy -/
def sp_twin (a : Adr) : Sp := fun vs H Q _ => ∃ (p bl ba : Addr) (x : Vbdlan.Solute), vs = [.ref p] ∧ SolAt a H p x bl ba ∧
  ∀ (H' : Hp) (q bl' ba' : Addr), SolAt a H' q x bl' ba' → H q = none → H bl' = none → H ba' = none → Same H H' → Q (.ref q) H'
theorem ok_Solute_twin (T : Txt K mg a) : FnOk P w K mg base CX0 3 a.f_Solute_twin a.d_Solute_twin ["self"] (sp_twin a) := by
  refine T.F_Solute_twin.ok sc_Solute_twin (fun vs H Q E h => ?_) (fun cdv A outer s H vs Q E hr h => ?_)
  · obtain ⟨_, _, _, _, rfl, _⟩ := h
    rfl
  · obtain ⟨p, bl, ba, x, rfl, ⟨⟨dx, hp⟩, hbl, hba, hne⟩, k⟩ := h
    refine ⟨_, (pss_cons (ps_set (i := 1) sc_Solute_twin.nd rfl (Or.inl rfl) (pe_make0 T.mk_Solute (ok_Solute_init T) (hr.mono (by decide)) rfl T.g_Solute T.bi_Solute_init .nil pass0)) (pss_cons (ps_fld (pv 1) (pe_fld (pv 0) rfl) rfl) (pss_cons (ps_fld (pv 1) (pe_fld (pv 0) rfl) rfl) (pss_cons (ps_fld (pv 1) (pe_fld (pv 0) rfl) rfl) (pss_cons (ps_fld (pv 1) (pe_fld (pv 0) rfl) rfl) (pss_cons (ps_fld (pv 1) (pe_fld (pv 0) rfl) rfl) (pss_cons (ps_fld (pv 1) (pe_callTy call_list_lst (by rfl) T.b_list (by decide +kernel) (pa_cons (pe_fld (pv 0) rfl) pa_nil)) rfl) (pss_cons (ps_fld (pv 1) (pe_callTy call_list_lst (by rfl) T.b_list (by decide +kernel) (pa_cons (pe_fld (pv 0) rfl) pa_nil)) rfl) (pss_cons (ps_fld (pv 1) (pe_fld (pv 0) rfl) rfl) (pss_cons (ps_fld (pv 1) (pe_fld (pv 0) rfl) rfl) (pss_cons (ps_fld (pv 1) (pe_fld (pv 0) rfl) rfl) (pss_cons (ps_fld (pv 1) (pe_fld (pv 0) rfl) rfl) (pss_cons (ps_fld (pv 1) (pe_fld (pv 0) rfl) rfl) (pss_cons (ps_fld (pv 1) (pe_fld (pv 0) rfl) rfl) (pss_cons (ps_fld (pv 1) (pe_fld (pv 0) rfl) rfl) (pss_cons (ps_fld (pv 1) (pe_fld (pv 0) rfl) rfl) (pss_one (ps_ret (pv 1))))))))))))))))))), ?_⟩
    refine hide1 fun U hU => ?_
    simp only [tSeq, tIfS, tTest, tOp, rI0, rI, rEq, rNe, tVar, tC, tRet, tRetN, tNext, tUn, rU, L2.start, tFld, sFld, sFldAug, rAdd, rSub, tDrop, tAsg, gName, tAug, tAugS, ipI, tCons, tNil, tLst, tCall, tMeth, tMake, tCB, tNot, tAnd, tOr, tB, tAndV, tOrV, tNotV, rIxH, rSetL, tSl, tPart, tNoPart, rSlH, rCat, rRep, rSumN, tBM, rAppend, rExtend, tCallV, tDinK, tDgetK, tlc_list, tYes, scal, exists_eq_left', exists_eq_left, exists_and_left, Option.some.injEq, L3.vi, L3.vr, L3.vb, List.map_cons, List.map_nil, List.length_cons, List.length_nil, Nat.reduceAdd, Nat.reduceSub, Nat.zero_add, Nat.sub_self, List.replicate, List.cons_append, List.nil_append, List.append_nil, L3.gz, L3.gs, L3.z0, L3.z1, and_true, true_and, Bool.not_eq_true, HO.ins.injEq, L3.hl, and_assoc, decide_eq_true_eq, Bool.false_eq_true, if_false, if_true, List.cons.injEq, cxK, Nat.reduceLT, Nat.reduceLeDiff, upd_same, upd_upd, tfor_range1, tfor_list, Int.toNat_natCast, vN_inj, vN_length, vN_set, Int.neg_neg, sf_all]
    intro q dq f1 f2 hdq
    refine ⟨q, dq, rfl, upd_same, fun H1 b1 b2 g1 h2 h3 _ _ _ kp => ?_⟩
    simp only [tSeq, tIfS, tTest, tOp, rI0, rI, rEq, rNe, tVar, tC, tRet, tRetN, tNext, tUn, rU, L2.start, tFld, sFld, sFldAug, rAdd, rSub, tDrop, tAsg, gName, tAug, tAugS, ipI, tCons, tNil, tLst, tCall, tMeth, tMake, tCB, tNot, tAnd, tOr, tB, tAndV, tOrV, tNotV, rIxH, rSetL, tSl, tPart, tNoPart, rSlH, rCat, rRep, rSumN, tBM, rAppend, rExtend, tCallV, tDinK, tDgetK, tlc_list, tYes, scal, exists_eq_left', exists_eq_left, exists_and_left, Option.some.injEq, L3.vi, L3.vr, L3.vb, List.map_cons, List.map_nil, List.length_cons, List.length_nil, Nat.reduceAdd, Nat.reduceSub, Nat.zero_add, Nat.sub_self, List.replicate, List.cons_append, List.nil_append, List.append_nil, L3.gz, L3.gs, L3.z0, L3.z1, and_true, true_and, Bool.not_eq_true, HO.ins.injEq, L3.hl, and_assoc, decide_eq_true_eq, Bool.false_eq_true, if_false, if_true, List.cons.injEq, cxK, Nat.reduceLT, Nat.reduceLeDiff, upd_same, upd_upd, tfor_range1, tfor_list, Int.toNat_natCast, vN_inj, vN_length, vN_set, Int.neg_neg, sf_all]
    have s1 : Same H H1 := Same.made f1 f2 kp
    have g2 := s1 _ _ hp
    have g3 := s1 _ _ hbl
    have g4 := s1 _ _ hba
    have npq : p ≠ q := ne_of_none hp f1
    have nlq : bl ≠ q := ne_of_none hbl f1
    have naq : ba ≠ q := ne_of_none hba f1
    clear h2 h3 kp
    subst hU
    refine hide5 fun U hU => ?_
    simp only [tSeq, tIfS, tTest, tOp, rI0, rI, rEq, rNe, tVar, tC, tRet, tRetN, tNext, tUn, rU, L2.start, tFld, sFld, sFldAug, rAdd, rSub, tDrop, tAsg, gName, tAug, tAugS, ipI, tCons, tNil, tLst, tCall, tMeth, tMake, tCB, tNot, tAnd, tOr, tB, tAndV, tOrV, tNotV, rIxH, rSetL, tSl, tPart, tNoPart, rSlH, rCat, rRep, rSumN, tBM, rAppend, rExtend, tCallV, tDinK, tDgetK, tlc_list, tYes, scal, exists_eq_left', exists_eq_left, exists_and_left, Option.some.injEq, L3.vi, L3.vr, L3.vb, List.map_cons, List.map_nil, List.length_cons, List.length_nil, Nat.reduceAdd, Nat.reduceSub, Nat.zero_add, Nat.sub_self, List.replicate, List.cons_append, List.nil_append, List.append_nil, L3.gz, L3.gs, L3.z0, L3.z1, and_true, true_and, Bool.not_eq_true, HO.ins.injEq, L3.hl, and_assoc, decide_eq_true_eq, Bool.false_eq_true, if_false, if_true, List.cons.injEq, cxK, Nat.reduceLT, Nat.reduceLeDiff, upd_same, upd_upd, tfor_range1, tfor_list, Int.toNat_natCast, vN_inj, vN_length, vN_set, Int.neg_neg, sf_all, g1, g2, upd_ne npq, T.nos_Solute, sI]
    refine gen_upd (Q := U _ _) fun H2 g1 B2 => ?_
    have g2 := B2 _ _ g2 npq
    have g3 := B2 _ _ g3 nlq
    have g4 := B2 _ _ g4 naq
    subst hU
    refine hide1 fun U hU => ?_
    simp only [tSeq, tIfS, tTest, tOp, rI0, rI, rEq, rNe, tVar, tC, tRet, tRetN, tNext, tUn, rU, L2.start, tFld, sFld, sFldAug, rAdd, rSub, tDrop, tAsg, gName, tAug, tAugS, ipI, tCons, tNil, tLst, tCall, tMeth, tMake, tCB, tNot, tAnd, tOr, tB, tAndV, tOrV, tNotV, rIxH, rSetL, tSl, tPart, tNoPart, rSlH, rCat, rRep, rSumN, tBM, rAppend, rExtend, tCallV, tDinK, tDgetK, tlc_list, tYes, scal, exists_eq_left', exists_eq_left, exists_and_left, Option.some.injEq, L3.vi, L3.vr, L3.vb, List.map_cons, List.map_nil, List.length_cons, List.length_nil, Nat.reduceAdd, Nat.reduceSub, Nat.zero_add, Nat.sub_self, List.replicate, List.cons_append, List.nil_append, List.append_nil, L3.gz, L3.gs, L3.z0, L3.z1, and_true, true_and, Bool.not_eq_true, HO.ins.injEq, L3.hl, and_assoc, decide_eq_true_eq, Bool.false_eq_true, if_false, if_true, List.cons.injEq, cxK, Nat.reduceLT, Nat.reduceLeDiff, upd_same, upd_upd, tfor_range1, tfor_list, Int.toNat_natCast, vN_inj, vN_length, vN_set, Int.neg_neg, sf_all, g2, g3, T.nos_Solute, sI]
    intro l1 f_l1
    generalize hG_l1 : upd H2 l1 _ = H3
    obtain ⟨e_l1, S_l1⟩ := new_facts hG_l1 f_l1
    clear hG_l1
    have n1 : l1 ≠ q := (ne_of_none g1 f_l1).symm
    have g1 := S_l1 _ _ g1
    have g2 := S_l1 _ _ g2
    have g4 := S_l1 _ _ g4
    simp only [tSeq, tIfS, tTest, tOp, rI0, rI, rEq, rNe, tVar, tC, tRet, tRetN, tNext, tUn, rU, L2.start, tFld, sFld, sFldAug, rAdd, rSub, tDrop, tAsg, gName, tAug, tAugS, ipI, tCons, tNil, tLst, tCall, tMeth, tMake, tCB, tNot, tAnd, tOr, tB, tAndV, tOrV, tNotV, rIxH, rSetL, tSl, tPart, tNoPart, rSlH, rCat, rRep, rSumN, tBM, rAppend, rExtend, tCallV, tDinK, tDgetK, tlc_list, tYes, scal, exists_eq_left', exists_eq_left, exists_and_left, Option.some.injEq, L3.vi, L3.vr, L3.vb, List.map_cons, List.map_nil, List.length_cons, List.length_nil, Nat.reduceAdd, Nat.reduceSub, Nat.zero_add, Nat.sub_self, List.replicate, List.cons_append, List.nil_append, List.append_nil, L3.gz, L3.gs, L3.z0, L3.z1, and_true, true_and, Bool.not_eq_true, HO.ins.injEq, L3.hl, and_assoc, decide_eq_true_eq, Bool.false_eq_true, if_false, if_true, List.cons.injEq, cxK, Nat.reduceLT, Nat.reduceLeDiff, upd_same, upd_upd, tfor_range1, tfor_list, Int.toNat_natCast, vN_inj, vN_length, vN_set, Int.neg_neg, sf_all, g1, T.nos_Solute]
    have B3 := B2.same S_l1
    refine gen_upd (Q := U _ _) fun H4 g1 B4 => ?_
    have g2 := B4 _ _ g2 npq
    have g4 := B4 _ _ g4 naq
    have e_l1 := B4 _ _ e_l1 n1
    have B4 := B3.trans B4
    subst hU
    refine hide1 fun U hU => ?_
    simp only [tSeq, tIfS, tTest, tOp, rI0, rI, rEq, rNe, tVar, tC, tRet, tRetN, tNext, tUn, rU, L2.start, tFld, sFld, sFldAug, rAdd, rSub, tDrop, tAsg, gName, tAug, tAugS, ipI, tCons, tNil, tLst, tCall, tMeth, tMake, tCB, tNot, tAnd, tOr, tB, tAndV, tOrV, tNotV, rIxH, rSetL, tSl, tPart, tNoPart, rSlH, rCat, rRep, rSumN, tBM, rAppend, rExtend, tCallV, tDinK, tDgetK, tlc_list, tYes, scal, exists_eq_left', exists_eq_left, exists_and_left, Option.some.injEq, L3.vi, L3.vr, L3.vb, List.map_cons, List.map_nil, List.length_cons, List.length_nil, Nat.reduceAdd, Nat.reduceSub, Nat.zero_add, Nat.sub_self, List.replicate, List.cons_append, List.nil_append, List.append_nil, L3.gz, L3.gs, L3.z0, L3.z1, and_true, true_and, Bool.not_eq_true, HO.ins.injEq, L3.hl, and_assoc, decide_eq_true_eq, Bool.false_eq_true, if_false, if_true, List.cons.injEq, cxK, Nat.reduceLT, Nat.reduceLeDiff, upd_same, upd_upd, tfor_range1, tfor_list, Int.toNat_natCast, vN_inj, vN_length, vN_set, Int.neg_neg, sf_all, g2, g4, T.nos_Solute, sI]
    intro l2 f_l2
    generalize hG_l2 : upd H4 l2 _ = H5
    obtain ⟨e_l2, S_l2⟩ := new_facts hG_l2 f_l2
    clear hG_l2
    have n2 : l2 ≠ q := (ne_of_none g1 f_l2).symm
    have n3 : l1 ≠ l2 := ne_of_none e_l1 f_l2
    have g1 := S_l2 _ _ g1
    have g2 := S_l2 _ _ g2
    have e_l1 := S_l2 _ _ e_l1
    simp only [tSeq, tIfS, tTest, tOp, rI0, rI, rEq, rNe, tVar, tC, tRet, tRetN, tNext, tUn, rU, L2.start, tFld, sFld, sFldAug, rAdd, rSub, tDrop, tAsg, gName, tAug, tAugS, ipI, tCons, tNil, tLst, tCall, tMeth, tMake, tCB, tNot, tAnd, tOr, tB, tAndV, tOrV, tNotV, rIxH, rSetL, tSl, tPart, tNoPart, rSlH, rCat, rRep, rSumN, tBM, rAppend, rExtend, tCallV, tDinK, tDgetK, tlc_list, tYes, scal, exists_eq_left', exists_eq_left, exists_and_left, Option.some.injEq, L3.vi, L3.vr, L3.vb, List.map_cons, List.map_nil, List.length_cons, List.length_nil, Nat.reduceAdd, Nat.reduceSub, Nat.zero_add, Nat.sub_self, List.replicate, List.cons_append, List.nil_append, List.append_nil, L3.gz, L3.gs, L3.z0, L3.z1, and_true, true_and, Bool.not_eq_true, HO.ins.injEq, L3.hl, and_assoc, decide_eq_true_eq, Bool.false_eq_true, if_false, if_true, List.cons.injEq, cxK, Nat.reduceLT, Nat.reduceLeDiff, upd_same, upd_upd, tfor_range1, tfor_list, Int.toNat_natCast, vN_inj, vN_length, vN_set, Int.neg_neg, sf_all, g1, T.nos_Solute]
    have B5 := B4.same S_l2
    refine gen_upd (Q := U _ _) fun H6 g1 B6 => ?_
    have g2 := B6 _ _ g2 npq
    have e_l1 := B6 _ _ e_l1 n1
    have e_l2 := B6 _ _ e_l2 n2
    have B6 := B5.trans B6
    subst hU
    simp only [tSeq, tIfS, tTest, tOp, rI0, rI, rEq, rNe, tVar, tC, tRet, tRetN, tNext, tUn, rU, L2.start, tFld, sFld, sFldAug, rAdd, rSub, tDrop, tAsg, gName, tAug, tAugS, ipI, tCons, tNil, tLst, tCall, tMeth, tMake, tCB, tNot, tAnd, tOr, tB, tAndV, tOrV, tNotV, rIxH, rSetL, tSl, tPart, tNoPart, rSlH, rCat, rRep, rSumN, tBM, rAppend, rExtend, tCallV, tDinK, tDgetK, tlc_list, tYes, scal, exists_eq_left', exists_eq_left, exists_and_left, Option.some.injEq, L3.vi, L3.vr, L3.vb, List.map_cons, List.map_nil, List.length_cons, List.length_nil, Nat.reduceAdd, Nat.reduceSub, Nat.zero_add, Nat.sub_self, List.replicate, List.cons_append, List.nil_append, List.append_nil, L3.gz, L3.gs, L3.z0, L3.z1, and_true, true_and, Bool.not_eq_true, HO.ins.injEq, L3.hl, and_assoc, decide_eq_true_eq, Bool.false_eq_true, if_false, if_true, List.cons.injEq, cxK, Nat.reduceLT, Nat.reduceLeDiff, upd_same, upd_upd, tfor_range1, tfor_list, Int.toNat_natCast, vN_inj, vN_length, vN_set, Int.neg_neg, sf_all, g1, g2, upd_ne npq, T.nos_Solute, sI]
    refine k _ q l1 l2 ⟨⟨dq, upd_same⟩, (by rw [upd_ne n1]; exact e_l1), (by rw [upd_ne n2]; exact e_l2), n3⟩ f1 (s1.free (B2.free f_l1 n1)) (s1.free (B4.free f_l2 n2)) fun b o e => ?_
    have nb : b ≠ q := ne_of_none e f1
    rw [upd_ne nb]
    exact B6 b o (s1 _ _ e) nb
end
end Bb

set_option Elab.async false
set_option linter.all false
set_option maxRecDepth 100000
namespace Bb
open PySem PySem.Spec PyProof.Rows L2 L3
/-- the program's form: before a first laying the pools are as large as they will be -/
def pf (s : Vbdlan.St) : Vbdlan.Form := if s.laid = true then s.form else { s.form with v1 := 1000000, v2 := 1000000 }
structure DevS (a : Adr) (H : Hp) (D : DX) (s : Vbdlan.St) : Prop where
  da : DevAt a H D (pf s) s.laid s.ticks s.accB s.accD s.solutes
  ol : D.l0 = D.l
  ob : D.rb0 = D.rb
  od : D.rd0 = D.rd
/-- what a call's def is handed -/
structure HIn (a : Adr) (vs : List V) (H : Hp) (D : DX) (gv : Addr) (args : List Int) (s : Vbdlan.St) : Prop where
  evs : vs = [.ref D.d, .ref gv]
  hgv : H gv = some (.lst (args.map V.int))
  off : gv ∉ D.fp
  dev : DevS a H D s
  ok : StOk s
/-- l is none of the places besides W -/
def Off (W : List Addr) (H : Hp) (l : Addr) : Prop := ∀ b o, H b = some o → b ∉ W → b ≠ l
theorem Off.new {W : List Addr} {H : Hp} {l : Addr} (h : H l = none) : Off W H l := fun _ _ e _ => ne_of_none e h
theorem Mv.off {W W' : List Addr} {H H' : Hp} {l : Addr} (m : Mv W W' H H') (h : H' l = none) : Off W H l := fun b o e hb => ne_of_none (m.kp b o e hb) h
/-- what comes behind it -/
def Post (a : Adr) (H : Hp) (D : DX) (r : Vbdlan.St × List Int) (Q : VK) : Prop :=
  ∀ (H' : Hp) (D' : DX) (l : Addr), D'.d = D.d → DevS a H' D' r.1 → Mv D.fp D'.fp H H' → H' l = some (.lst (r.2.map V.int)) → Off D.fp H l → Q (.ref l) H'
/-- the promise of the p-th call's def -/
def sp_call (a : Adr) (p : Nat) : Sp := fun vs H Q _ => ∃ (D : DX) (gv : Addr) (s : Vbdlan.St) (args : List Int) (c : Vbdlan.Call), HIn a vs H D gv args s ∧ Dec p args c ∧ Vbdlan.ranges c = true ∧ (Vbdlan.isLay c = false → s.laid = true) ∧ missing c s.solutes.length = false ∧ Post a H D (Vbdlan.step s c) Q
theorem sp_call_len {a : Adr} {p : Nat} {vs : List V} {H : Hp} {Q : VK} {E : XK} (h : sp_call a p vs H Q E) : vs.length = 2 := by
  obtain ⟨_, _, _, _, _, h, _⟩ := h
  rw [h.evs]; rfl
theorem pf_laid {s : Vbdlan.St} (h : s.laid = true) : pf s = s.form := if_pos h
theorem at0 {α : Type} (x : α) (l : List α) : atI (x :: l) 0 = some x := atI_nat (j := 0) rfl
theorem at1 {α : Type} (x y : α) (l : List α) : atI (x :: y :: l) 1 = some y := atI_nat (j := 1) rfl
theorem at2 {α : Type} (x y z : α) (l : List α) : atI (x :: y :: z :: l) 2 = some z := atI_nat (j := 2) rfl
theorem at3 {α : Type} (x y z u : α) (l : List α) : atI (x :: y :: z :: u :: l) 3 = some u := atI_nat (j := 3) rfl
theorem at4 {α : Type} (x y z u v : α) (l : List α) : atI (x :: y :: z :: u :: v :: l) 4 = some v := atI_nat (j := 4) rfl
theorem atR {ps : List (Addr × Addr × Addr)} {j : Nat} {t : Addr × Addr × Addr} (h : ps[j]? = some t) : atI (refs ps) (j : Int) = some (.ref t.1) := atI_nat (by unfold refs; rw [List.getElem?_map, h]; rfl)
theorem nat_of {j : Int} (h : 0 ≤ j) : ∃ J : Nat, j = J := ⟨j.toNat, by omega⟩
section
variable {a : Adr} {H H' : Hp} {D : DX} {f : Vbdlan.Form} {la : Bool} {ti aB aD : Nat} {xs : List Vbdlan.Solute}
theorem SolAt.setF {p bl ba dx : Addr} {x x' : Vbdlan.Solute} (h : SolAt a H p x bl ba) (e : H p = some (.ins a.C_Solute dx (sf (sI x bl ba)))) (h1 : x'.blood = x.blood) (h2 : x'.bath = x.bath) :
    SolAt a (upd H p (.ins a.C_Solute dx (sf (sI x' bl ba)))) p x' bl ba ∧ But3 H (upd H p (.ins a.C_Solute dx (sf (sI x' bl ba)))) p bl ba := by
  obtain ⟨_, hbl, hba, hne⟩ := h
  have n1 : bl ≠ p := ne_of hbl e (by intro z; cases z)
  have n2 : ba ≠ p := ne_of hba e (by intro z; cases z)
  refine ⟨⟨⟨dx, upd_same⟩, ?_, ?_, hne⟩, fun b o e n _ _ => by rw [upd_ne n]; exact e⟩
  · rw [upd_ne n1, h1]; exact hbl
  · rw [upd_ne n2, h2]; exact hba
theorem set_same {α : Type} {l : List α} {j : Nat} {x : α} (h : l[j]? = some x) : l.set j x = l := by
  refine List.ext_getElem? fun i => ?_
  rw [List.getElem?_set]
  by_cases e : j = i
  · subst e
    rw [if_pos rfl, if_pos (List.getElem?_eq_some_iff.mp h).1, h]
  · rw [if_neg e]
/-- one solute's attributes change, its cells stay -/
theorem DevAt.setF (h : DevAt a H D f la ti aB aD xs) {j : Nat} {t : Addr × Addr × Addr} {dx : Addr} {x x' : Vbdlan.Solute} (ht : D.ps[j]? = some t) (hx : xs[j]? = some x) (e : H t.1 = some (.ins a.C_Solute dx (sf (sI x t.2.1 t.2.2)))) (h1 : x'.blood = x.blood) (h2 : x'.bath = x.bath) :
    DevAt a (upd H t.1 (.ins a.C_Solute dx (sf (sI x' t.2.1 t.2.2)))) D f la ti aB aD (xs.set j x') ∧ Mv D.fp D.fp H (upd H t.1 (.ins a.C_Solute dx (sf (sI x' t.2.1 t.2.2)))) := by
  obtain ⟨s1, s2⟩ := (h.sol j t x ht hx).setF e h1 h2
  have q := h.setSol ht s1 (.inl rfl) (.inl rfl) s2
  rw [set_same ht] at q
  exact q
end
section
variable {a : Adr} {H H' : Hp} {D : DX} {gv : Addr} {s : Vbdlan.St}
theorem DevS.same (h : DevS a H D s) (k : Same H H') : DevS a H' D s := ⟨h.da.same k, h.ol, h.ob, h.od⟩
/-- the device's object, its attributes its own -/
theorem DevS.dev (h : DevS a H D s) : H D.d = some (.ins a.C_Device D.dd (df (dI (pf s) s.laid s.ticks D.l D.rb D.rd))) := by
  have q := h.da.dev
  rw [h.ol, h.ob, h.od] at q
  exact q
/-- an answer that changes nothing -/
theorem Post.tell {r : Vbdlan.St × List Int} {Q : VK} {l : Addr} (k : Post a H D r Q) (h : DevS a H D s) (e : r.1 = s) (S : Same H H') (hl : H' l = some (.lst (r.2.map V.int))) (f : H l = none) : Q (.ref l) H' :=
  k H' D l rfl (by rw [e]; exact h.same S) (Mv.refl.new S) hl (.new f)
end
section
variable {P : Program} {w : World} {K : PySem.W.Frag} {mg : Str → Option Value} {base : Heap} {a : Adr}
theorem ok_set_share (T : Txt K mg a) : FnOk P w K mg base CX0 8 a.f_set_share a.d_set_share ["device", "given"] (sp_call a 1) := by
  refine T.F_set_share.ok sc_set_share (fun vs H Q E h => sp_call_len h) (fun cdv A outer s H vs Q E hr0 h => ?_)
  have hr := hr0
  obtain ⟨D, gv, st, args, c, ⟨rfl, hg, hoff, DS, SO⟩, hd, hrg, hl, hm, k⟩ := h
  cases hd with | share j v =>
  replace hl := hl rfl
  have hr' := hrg
  simp only [Vbdlan.ranges, Bool.and_eq_true, within_iff] at hr'
  obtain ⟨J, x, rfl, hx⟩ := there hm rfl (by omega)
  obtain ⟨v, rfl⟩ := nat_of (j := v) (by omega)
  have DA := DS.da
  have hdev := DS.dev
  obtain ⟨t, ht, hs⟩ := DA.solt hx
  obtain ⟨dx, ep⟩ := hs.obj
  have he : Vbdlan.step st (.share J v) = (Vbdlan.put st J { x with share := v }, [0]) := by
    simp only [Vbdlan.step, hrg, hl, Vbdlan.onSolute, Int.toNat_natCast, hx, Bool.true_eq_false, false_and, if_false]
  rw [he] at k
  refine ⟨_, (pss_cons (ps_set (i := 2) sc_set_share.nd rfl (Or.inl rfl) (pe_ix ix_lst (pe_fld (pv 0) rfl) (pe_ix ix_lst (pv 1) pe_int (fun _ _ => rfl)) (fun _ _ => rfl))) (pss_cons (ps_fld (pv 2) (pe_ix ix_lst (pv 1) pe_int (fun _ _ => rfl)) rfl) (pss_one (ps_ret (pe_lst (pa_cons pe_int pa_nil)))))), ?_⟩
  simp only [tSeq, tIfS, tTest, tOp, rI0, rI, rEq, rNe, tVar, tC, tRet, tRetN, tNext, tUn, rU, L2.start, tFld, sFld, sFldAug, rAdd, rSub, tDrop, tAsg, gName, tAug, tAugS, ipI, tCons, tNil, tLst, tCall, tMeth, tMake, tCB, tNot, tAnd, tOr, tB, tAndV, tOrV, tNotV, rIxH, rSetL, tSl, tPart, tNoPart, rSlH, rCat, rRep, rSumN, tBM, rAppend, rExtend, tCallV, tDinK, tDgetK, tlc_list, tYes, scal, exists_eq_left', exists_eq_left, exists_and_left, Option.some.injEq, L3.vi, L3.vr, L3.vb, List.map_cons, List.map_nil, List.length_cons, List.length_nil, Nat.reduceAdd, Nat.reduceSub, Nat.zero_add, Nat.sub_self, List.replicate, List.cons_append, List.nil_append, List.append_nil, L3.gz, L3.gs, L3.z0, L3.z1, and_true, true_and, Bool.not_eq_true, HO.ins.injEq, L3.hl, and_assoc, decide_eq_true_eq, Bool.false_eq_true, if_false, if_true, List.cons.injEq, cxK, Nat.reduceLT, Nat.reduceLeDiff, upd_same, upd_upd, tfor_range1, tfor_list, Int.toNat_natCast, vN_inj, vN_length, vN_set, Int.neg_neg, sf_all, df_all, hg, hdev, dI, DA.lst, at0, at1, atR ht, ep, sI, T.nos_Solute, T.nos_Device]
  refine ⟨by decide, ?_⟩
  intro l f1
  obtain ⟨f2, f3⟩ := fresh_ne f1
  obtain ⟨DN, MN⟩ := DA.setF (x' := { x with share := v }) ht hx ep rfl rfl
  obtain ⟨e1, S1⟩ := new_facts (o := .lst [.int 0]) rfl f1
  exact k _ D l rfl ⟨DN.same S1, DS.ol, DS.ob, DS.od⟩ (MN.new S1) e1 (.new f3)
theorem ok_set_fresh (T : Txt K mg a) : FnOk P w K mg base CX0 8 a.f_set_fresh a.d_set_fresh ["device", "given"] (sp_call a 2) := by
  refine T.F_set_fresh.ok sc_set_fresh (fun vs H Q E h => sp_call_len h) (fun cdv A outer s H vs Q E hr0 h => ?_)
  have hr := hr0
  obtain ⟨D, gv, st, args, c, ⟨rfl, hg, hoff, DS, SO⟩, hd, hrg, hl, hm, k⟩ := h
  cases hd with | fresh j v =>
  replace hl := hl rfl
  have hr' := hrg
  simp only [Vbdlan.ranges, Bool.and_eq_true, within_iff] at hr'
  obtain ⟨J, x, rfl, hx⟩ := there hm rfl (by omega)
  obtain ⟨v, rfl⟩ := nat_of (j := v) (by omega)
  have DA := DS.da
  have hdev := DS.dev
  obtain ⟨t, ht, hs⟩ := DA.solt hx
  obtain ⟨dx, ep⟩ := hs.obj
  have he : Vbdlan.step st (.fresh J v) = (Vbdlan.put st J { x with fresh := v }, [0]) := by
    simp only [Vbdlan.step, hrg, hl, Vbdlan.onSolute, Int.toNat_natCast, hx, Bool.true_eq_false, false_and, if_false]
  rw [he] at k
  refine ⟨_, (pss_cons (ps_set (i := 2) sc_set_fresh.nd rfl (Or.inl rfl) (pe_ix ix_lst (pe_fld (pv 0) rfl) (pe_ix ix_lst (pv 1) pe_int (fun _ _ => rfl)) (fun _ _ => rfl))) (pss_cons (ps_fld (pv 2) (pe_ix ix_lst (pv 1) pe_int (fun _ _ => rfl)) rfl) (pss_one (ps_ret (pe_lst (pa_cons pe_int pa_nil)))))), ?_⟩
  simp only [tSeq, tIfS, tTest, tOp, rI0, rI, rEq, rNe, tVar, tC, tRet, tRetN, tNext, tUn, rU, L2.start, tFld, sFld, sFldAug, rAdd, rSub, tDrop, tAsg, gName, tAug, tAugS, ipI, tCons, tNil, tLst, tCall, tMeth, tMake, tCB, tNot, tAnd, tOr, tB, tAndV, tOrV, tNotV, rIxH, rSetL, tSl, tPart, tNoPart, rSlH, rCat, rRep, rSumN, tBM, rAppend, rExtend, tCallV, tDinK, tDgetK, tlc_list, tYes, scal, exists_eq_left', exists_eq_left, exists_and_left, Option.some.injEq, L3.vi, L3.vr, L3.vb, List.map_cons, List.map_nil, List.length_cons, List.length_nil, Nat.reduceAdd, Nat.reduceSub, Nat.zero_add, Nat.sub_self, List.replicate, List.cons_append, List.nil_append, List.append_nil, L3.gz, L3.gs, L3.z0, L3.z1, and_true, true_and, Bool.not_eq_true, HO.ins.injEq, L3.hl, and_assoc, decide_eq_true_eq, Bool.false_eq_true, if_false, if_true, List.cons.injEq, cxK, Nat.reduceLT, Nat.reduceLeDiff, upd_same, upd_upd, tfor_range1, tfor_list, Int.toNat_natCast, vN_inj, vN_length, vN_set, Int.neg_neg, sf_all, df_all, hg, hdev, dI, DA.lst, at0, at1, atR ht, ep, sI, T.nos_Solute, T.nos_Device]
  refine ⟨by decide, ?_⟩
  intro l f1
  obtain ⟨f2, f3⟩ := fresh_ne f1
  obtain ⟨DN, MN⟩ := DA.setF (x' := { x with fresh := v }) ht hx ep rfl rfl
  obtain ⟨e1, S1⟩ := new_facts (o := .lst [.int 0]) rfl f1
  exact k _ D l rfl ⟨DN.same S1, DS.ol, DS.ob, DS.od⟩ (MN.new S1) e1 (.new f3)
theorem ok_set_growth (T : Txt K mg a) : FnOk P w K mg base CX0 8 a.f_set_growth a.d_set_growth ["device", "given"] (sp_call a 6) := by
  refine T.F_set_growth.ok sc_set_growth (fun vs H Q E h => sp_call_len h) (fun cdv A outer s H vs Q E hr0 h => ?_)
  have hr := hr0
  obtain ⟨D, gv, st, args, c, ⟨rfl, hg, hoff, DS, SO⟩, hd, hrg, hl, hm, k⟩ := h
  cases hd with | produce j v =>
  replace hl := hl rfl
  have hr' := hrg
  simp only [Vbdlan.ranges, Bool.and_eq_true, within_iff] at hr'
  obtain ⟨J, x, rfl, hx⟩ := there hm rfl (by omega)
  obtain ⟨v, rfl⟩ := nat_of (j := v) (by omega)
  have DA := DS.da
  have hdev := DS.dev
  obtain ⟨t, ht, hs⟩ := DA.solt hx
  obtain ⟨dx, ep⟩ := hs.obj
  have he : Vbdlan.step st (.produce J v) = (Vbdlan.put st J { x with gen := v }, [0]) := by
    simp only [Vbdlan.step, hrg, hl, Vbdlan.onSolute, Int.toNat_natCast, hx, Bool.true_eq_false, false_and, if_false]
  rw [he] at k
  refine ⟨_, (pss_cons (ps_set (i := 2) sc_set_growth.nd rfl (Or.inl rfl) (pe_ix ix_lst (pe_fld (pv 0) rfl) (pe_ix ix_lst (pv 1) pe_int (fun _ _ => rfl)) (fun _ _ => rfl))) (pss_cons (ps_fld (pv 2) (pe_ix ix_lst (pv 1) pe_int (fun _ _ => rfl)) rfl) (pss_one (ps_ret (pe_lst (pa_cons pe_int pa_nil)))))), ?_⟩
  simp only [tSeq, tIfS, tTest, tOp, rI0, rI, rEq, rNe, tVar, tC, tRet, tRetN, tNext, tUn, rU, L2.start, tFld, sFld, sFldAug, rAdd, rSub, tDrop, tAsg, gName, tAug, tAugS, ipI, tCons, tNil, tLst, tCall, tMeth, tMake, tCB, tNot, tAnd, tOr, tB, tAndV, tOrV, tNotV, rIxH, rSetL, tSl, tPart, tNoPart, rSlH, rCat, rRep, rSumN, tBM, rAppend, rExtend, tCallV, tDinK, tDgetK, tlc_list, tYes, scal, exists_eq_left', exists_eq_left, exists_and_left, Option.some.injEq, L3.vi, L3.vr, L3.vb, List.map_cons, List.map_nil, List.length_cons, List.length_nil, Nat.reduceAdd, Nat.reduceSub, Nat.zero_add, Nat.sub_self, List.replicate, List.cons_append, List.nil_append, List.append_nil, L3.gz, L3.gs, L3.z0, L3.z1, and_true, true_and, Bool.not_eq_true, HO.ins.injEq, L3.hl, and_assoc, decide_eq_true_eq, Bool.false_eq_true, if_false, if_true, List.cons.injEq, cxK, Nat.reduceLT, Nat.reduceLeDiff, upd_same, upd_upd, tfor_range1, tfor_list, Int.toNat_natCast, vN_inj, vN_length, vN_set, Int.neg_neg, sf_all, df_all, hg, hdev, dI, DA.lst, at0, at1, atR ht, ep, sI, T.nos_Solute, T.nos_Device]
  refine ⟨by decide, ?_⟩
  intro l f1
  obtain ⟨f2, f3⟩ := fresh_ne f1
  obtain ⟨DN, MN⟩ := DA.setF (x' := { x with gen := v }) ht hx ep rfl rfl
  obtain ⟨e1, S1⟩ := new_facts (o := .lst [.int 0]) rfl f1
  exact k _ D l rfl ⟨DN.same S1, DS.ol, DS.ob, DS.od⟩ (MN.new S1) e1 (.new f3)
theorem ok_set_pools (T : Txt K mg a) : FnOk P w K mg base CX0 8 a.f_set_pools a.d_set_pools ["device", "given"] (sp_call a 4) := by
  refine T.F_set_pools.ok sc_set_pools (fun vs H Q E h => sp_call_len h) (fun cdv A outer s H vs Q E hr0 h => ?_)
  obtain ⟨D, gv, st, args, c, ⟨rfl, hg, hoff, DS, SO⟩, hd, hrg, hl, hm, k⟩ := h
  cases hd with | pool v1 v2 x =>
  replace hl := hl rfl
  have hr' := hrg
  simp only [Vbdlan.ranges, Bool.and_eq_true, within_iff] at hr'
  obtain ⟨v1, rfl⟩ := nat_of (j := v1) (by omega)
  obtain ⟨v2, rfl⟩ := nat_of (j := v2) (by omega)
  obtain ⟨x, rfl⟩ := nat_of (j := x) (by omega)
  have DA := DS.da
  have hdev := DS.dev
  rw [pf_laid hl] at DA hdev
  have hng : D.d ≠ gv := ne_of hdev hg (by intro z; cases z)
  have he : Vbdlan.step st (.pool v1 v2 x) = if v1 < st.form.bv then (st, [-5]) else ({ st with form := { st.form with v1 := v1, v2 := v2, x := x } }, [0]) := by
    simp only [Vbdlan.step, hrg, hl, Int.toNat_natCast, Bool.true_eq_false, false_and, if_false]
  rw [he] at k
  refine ⟨_, (pss_cons (ps_if (pt_cmpR op_lt (pe_ix ix_lst (pv 1) pe_int (fun _ _ => rfl)) (pe_fld (pv 0) rfl) (nomark _)) (pss_one (ps_ret (pe_lst (pa_cons (pe_gint T.g_POOL_TOO_SMALL) pa_nil)))) pss_nil) (pss_cons (ps_fld (pv 0) (pe_ix ix_lst (pv 1) pe_int (fun _ _ => rfl)) rfl) (pss_cons (ps_fld (pv 0) (pe_ix ix_lst (pv 1) pe_int (fun _ _ => rfl)) rfl) (pss_cons (ps_fld (pv 0) (pe_ix ix_lst (pv 1) pe_int (fun _ _ => rfl)) rfl) (pss_one (ps_ret (pe_lst (pa_cons pe_int pa_nil)))))))), ?_⟩
  simp only [tSeq, tIfS, tTest, tOp, rI0, rI, rEq, rNe, tVar, tC, tRet, tRetN, tNext, tUn, rU, L2.start, tFld, sFld, sFldAug, rAdd, rSub, tDrop, tAsg, gName, tAug, tAugS, ipI, tCons, tNil, tLst, tCall, tMeth, tMake, tCB, tNot, tAnd, tOr, tB, tAndV, tOrV, tNotV, rIxH, rSetL, tSl, tPart, tNoPart, rSlH, rCat, rRep, rSumN, tBM, rAppend, rExtend, tCallV, tDinK, tDgetK, tlc_list, tYes, scal, exists_eq_left', exists_eq_left, exists_and_left, Option.some.injEq, L3.vi, L3.vr, L3.vb, List.map_cons, List.map_nil, List.length_cons, List.length_nil, Nat.reduceAdd, Nat.reduceSub, Nat.zero_add, Nat.sub_self, List.replicate, List.cons_append, List.nil_append, List.append_nil, L3.gz, L3.gs, L3.z0, L3.z1, and_true, true_and, Bool.not_eq_true, HO.ins.injEq, L3.hl, and_assoc, decide_eq_true_eq, Bool.false_eq_true, if_false, if_true, List.cons.injEq, cxK, Nat.reduceLT, Nat.reduceLeDiff, upd_same, upd_upd, tfor_range1, tfor_list, Int.toNat_natCast, vN_inj, vN_length, vN_set, Int.neg_neg, df_all, hg, hdev, dI, at0, at1, at2, upd_ne hng.symm, T.nos_Device]
  refine ite2 (fun h0 => ?_) fun h0 => ?_
  · rw [if_pos (by omega)] at k
    refine ⟨by decide, ?_⟩
    intro l f_l
    generalize hG_l : upd H l _ = H1
    obtain ⟨e_l, S_l⟩ := new_facts hG_l f_l
    clear hG_l
    exact k.tell DS rfl S_l e_l f_l
  · rw [if_neg (by omega)] at k
    refine ⟨by decide, ?_⟩
    intro l f1
    obtain ⟨f2, f3⟩ := fresh_ne f1
    obtain ⟨DN, MN⟩ := DA.setDev (f' := { st.form with v1 := v1, v2 := v2, x := x }) (la' := st.laid) (ti' := st.ticks) rfl rfl rfl rfl
    rw [DS.ol, DS.ob, DS.od] at DN MN
    obtain ⟨e1, S1⟩ := new_facts (o := .lst [.int 0]) rfl f1
    refine k _ D l rfl ⟨?_, DS.ol, DS.ob, DS.od⟩ (MN.new S1) e1 (.new f3)
    rw [pf_laid (s := { st with form := { st.form with v1 := v1, v2 := v2, x := x } }) hl]
    exact DN.same S1
theorem ok_set_round (T : Txt K mg a) : FnOk P w K mg base CX0 8 a.f_set_round a.d_set_round ["device", "given"] (sp_call a 7) := by
  refine T.F_set_round.ok sc_set_round (fun vs H Q E h => sp_call_len h) (fun cdv A outer s H vs Q E hr0 h => ?_)
  obtain ⟨D, gv, st, args, c, ⟨rfl, hg, hoff, DS, SO⟩, hd, hrg, hl, hm, k⟩ := h
  cases hd with | round r =>
  replace hl := hl rfl
  have hr' := hrg
  simp only [Vbdlan.ranges, within_iff] at hr'
  obtain ⟨r, rfl⟩ := nat_of (j := r) (by omega)
  have DA := DS.da
  have hdev := DS.dev
  rw [pf_laid hl] at DA hdev
  have he : Vbdlan.step st (.round r) = ({ st with form := { st.form with round := r } }, [0]) := by
    simp only [Vbdlan.step, hrg, hl, Int.toNat_natCast, Bool.true_eq_false, false_and, if_false]
  rw [he] at k
  refine ⟨_, (pss_cons (ps_fld (pv 0) (pe_ix ix_lst (pv 1) pe_int (fun _ _ => rfl)) rfl) (pss_one (ps_ret (pe_lst (pa_cons pe_int pa_nil))))), ?_⟩
  simp only [tSeq, tIfS, tTest, tOp, rI0, rI, rEq, rNe, tVar, tC, tRet, tRetN, tNext, tUn, rU, L2.start, tFld, sFld, sFldAug, rAdd, rSub, tDrop, tAsg, gName, tAug, tAugS, ipI, tCons, tNil, tLst, tCall, tMeth, tMake, tCB, tNot, tAnd, tOr, tB, tAndV, tOrV, tNotV, rIxH, rSetL, tSl, tPart, tNoPart, rSlH, rCat, rRep, rSumN, tBM, rAppend, rExtend, tCallV, tDinK, tDgetK, tlc_list, tYes, scal, exists_eq_left', exists_eq_left, exists_and_left, Option.some.injEq, L3.vi, L3.vr, L3.vb, List.map_cons, List.map_nil, List.length_cons, List.length_nil, Nat.reduceAdd, Nat.reduceSub, Nat.zero_add, Nat.sub_self, List.replicate, List.cons_append, List.nil_append, List.append_nil, L3.gz, L3.gs, L3.z0, L3.z1, and_true, true_and, Bool.not_eq_true, HO.ins.injEq, L3.hl, and_assoc, decide_eq_true_eq, Bool.false_eq_true, if_false, if_true, List.cons.injEq, cxK, Nat.reduceLT, Nat.reduceLeDiff, upd_same, upd_upd, tfor_range1, tfor_list, Int.toNat_natCast, vN_inj, vN_length, vN_set, Int.neg_neg, df_all, hg, hdev, dI, at0, T.nos_Device]
  refine ⟨by decide, ?_⟩
  intro l f1
  obtain ⟨f2, f3⟩ := fresh_ne f1
  obtain ⟨DN, MN⟩ := DA.setDev (f' := { st.form with round := r }) (la' := st.laid) (ti' := st.ticks) rfl rfl rfl rfl
  rw [DS.ol, DS.ob, DS.od] at DN MN
  obtain ⟨e1, S1⟩ := new_facts (o := .lst [.int 0]) rfl f1
  refine k _ D l rfl ⟨?_, DS.ol, DS.ob, DS.od⟩ (MN.new S1) e1 (.new f3)
  rw [pf_laid (s := { st with form := { st.form with round := r } }) hl]
  exact DN.same S1
theorem ok_give_dose (T : Txt K mg a) : FnOk P w K mg base CX0 8 a.f_give_dose a.d_give_dose ["device", "given"] (sp_call a 5) := by
  refine T.F_give_dose.ok sc_give_dose (fun vs H Q E h => sp_call_len h) (fun cdv A outer s H vs Q E hr0 h => ?_)
  have hr := hr0
  obtain ⟨D, gv, st, args, c, ⟨rfl, hg, hoff, DS, SO⟩, hd, hrg, hl, hm, k⟩ := h
  cases hd with | dose j w m =>
  replace hl := hl rfl
  have hr' := hrg
  simp only [Vbdlan.ranges, Bool.and_eq_true, within_iff] at hr'
  obtain ⟨J, x, rfl, hx⟩ := there hm rfl (by omega)
  obtain ⟨m, rfl⟩ := nat_of (j := m) (by omega)
  have DA := DS.da
  have hdev := DS.dev
  obtain ⟨t, ht, hs⟩ := DA.solt hx
  obtain ⟨dx, ep⟩ := hs.obj
  have he : Vbdlan.step st (.dose J w m) = if 10000000000 < x.given + m then (st, [-6]) else (Vbdlan.put st J (if w = 0 then { x with m1 := x.m1 + m, given := x.given + m } else { x with m2 := x.m2 + m, given := x.given + m }), [0]) := by
    simp only [Vbdlan.step, hrg, hl, Vbdlan.onSolute, Int.toNat_natCast, hx, Bool.true_eq_false, false_and, if_false, Vbdlan.GIVEN]
  rw [he] at k
  refine ⟨_, (pss_cons (ps_set (i := 2) sc_give_dose.nd rfl (Or.inl rfl) (pe_ix ix_lst (pe_fld (pv 0) rfl) (pe_ix ix_lst (pv 1) pe_int (fun _ _ => rfl)) (fun _ _ => rfl))) (pss_cons (ps_if (pt_cmpR op_gt (pe_op op_add (pe_fld (pv 2) rfl) (pe_ix ix_lst (pv 1) pe_int (fun _ _ => rfl))) (pe_gint T.g_MOST_GIVEN) (nomark _)) (pss_one (ps_ret (pe_lst (pa_cons (pe_gint T.g_TOO_MUCH_GIVEN) pa_nil)))) pss_nil) (pss_cons (ps_expr (pe_meth (pv 2) T.cl_Solute T.m_Solute_dose (ok_Solute_dose T) (hr.mono (by decide)) T.bi_Solute_dose .nil pass0 (pa_cons (pe_ix ix_lst (pv 1) pe_int (fun _ _ => rfl)) (pa_cons (pe_ix ix_lst (pv 1) pe_int (fun _ _ => rfl)) pa_nil)))) (pss_one (ps_ret (pe_lst (pa_cons pe_int pa_nil))))))), ?_⟩
  refine hide1 fun U hU => ?_
  simp only [tSeq, tIfS, tTest, tOp, rI0, rI, rEq, rNe, tVar, tC, tRet, tRetN, tNext, tUn, rU, L2.start, tFld, sFld, sFldAug, rAdd, rSub, tDrop, tAsg, gName, tAug, tAugS, ipI, tCons, tNil, tLst, tCall, tMeth, tMake, tCB, tNot, tAnd, tOr, tB, tAndV, tOrV, tNotV, rIxH, rSetL, tSl, tPart, tNoPart, rSlH, rCat, rRep, rSumN, tBM, rAppend, rExtend, tCallV, tDinK, tDgetK, tlc_list, tYes, scal, exists_eq_left', exists_eq_left, exists_and_left, Option.some.injEq, L3.vi, L3.vr, L3.vb, List.map_cons, List.map_nil, List.length_cons, List.length_nil, Nat.reduceAdd, Nat.reduceSub, Nat.zero_add, Nat.sub_self, List.replicate, List.cons_append, List.nil_append, List.append_nil, L3.gz, L3.gs, L3.z0, L3.z1, and_true, true_and, Bool.not_eq_true, HO.ins.injEq, L3.hl, and_assoc, decide_eq_true_eq, Bool.false_eq_true, if_false, if_true, List.cons.injEq, cxK, Nat.reduceLT, Nat.reduceLeDiff, upd_same, upd_upd, tfor_range1, tfor_list, Int.toNat_natCast, vN_inj, vN_length, vN_set, Int.neg_neg, sf_all, df_all, hg, hdev, dI, DA.lst, at0, atR ht, ep, sI, T.nos_Solute, T.nos_Device]
  subst hU
  refine hide1 fun U hU => ?_
  simp only [tSeq, tIfS, tTest, tOp, rI0, rI, rEq, rNe, tVar, tC, tRet, tRetN, tNext, tUn, rU, L2.start, tFld, sFld, sFldAug, rAdd, rSub, tDrop, tAsg, gName, tAug, tAugS, ipI, tCons, tNil, tLst, tCall, tMeth, tMake, tCB, tNot, tAnd, tOr, tB, tAndV, tOrV, tNotV, rIxH, rSetL, tSl, tPart, tNoPart, rSlH, rCat, rRep, rSumN, tBM, rAppend, rExtend, tCallV, tDinK, tDgetK, tlc_list, tYes, scal, exists_eq_left', exists_eq_left, exists_and_left, Option.some.injEq, L3.vi, L3.vr, L3.vb, List.map_cons, List.map_nil, List.length_cons, List.length_nil, Nat.reduceAdd, Nat.reduceSub, Nat.zero_add, Nat.sub_self, List.replicate, List.cons_append, List.nil_append, List.append_nil, L3.gz, L3.gs, L3.z0, L3.z1, and_true, true_and, Bool.not_eq_true, HO.ins.injEq, L3.hl, and_assoc, decide_eq_true_eq, Bool.false_eq_true, if_false, if_true, List.cons.injEq, cxK, Nat.reduceLT, Nat.reduceLeDiff, upd_same, upd_upd, tfor_range1, tfor_list, Int.toNat_natCast, vN_inj, vN_length, vN_set, Int.neg_neg, sf_all, df_all, hg, at2, ep, sI, T.nos_Solute, T.nos_Device]
  refine ite2 (fun h0 => ?_) fun h0 => ?_
  · rw [if_pos (by omega)] at k
    refine ⟨by decide, ?_⟩
    intro l f_l
    generalize hG_l : upd H l _ = H1
    obtain ⟨e_l, S_l⟩ := new_facts hG_l f_l
    clear hG_l
    exact k.tell DS rfl S_l e_l f_l
  · rw [if_neg (by omega)] at k
    subst hU
    simp only [tSeq, tIfS, tTest, tOp, rI0, rI, rEq, rNe, tVar, tC, tRet, tRetN, tNext, tUn, rU, L2.start, tFld, sFld, sFldAug, rAdd, rSub, tDrop, tAsg, gName, tAug, tAugS, ipI, tCons, tNil, tLst, tCall, tMeth, tMake, tCB, tNot, tAnd, tOr, tB, tAndV, tOrV, tNotV, rIxH, rSetL, tSl, tPart, tNoPart, rSlH, rCat, rRep, rSumN, tBM, rAppend, rExtend, tCallV, tDinK, tDgetK, tlc_list, tYes, scal, exists_eq_left', exists_eq_left, exists_and_left, Option.some.injEq, L3.vi, L3.vr, L3.vb, List.map_cons, List.map_nil, List.length_cons, List.length_nil, Nat.reduceAdd, Nat.reduceSub, Nat.zero_add, Nat.sub_self, List.replicate, List.cons_append, List.nil_append, List.append_nil, L3.gz, L3.gs, L3.z0, L3.z1, and_true, true_and, Bool.not_eq_true, HO.ins.injEq, L3.hl, and_assoc, decide_eq_true_eq, Bool.false_eq_true, if_false, if_true, List.cons.injEq, cxK, Nat.reduceLT, Nat.reduceLeDiff, upd_same, upd_upd, tfor_range1, tfor_list, Int.toNat_natCast, vN_inj, vN_length, vN_set, Int.neg_neg, sf_all, df_all, hg, at1, at2, ep, T.nos_Solute, T.nos_Device]
    refine ⟨t.1, dx, t.2.1, t.2.2, x, w, m, rfl, ep, ?_⟩
    generalize hX : (if w = 0 then { x with m1 := x.m1 + m, given := x.given + m } else { x with m2 := x.m2 + m, given := x.given + m } : Vbdlan.Solute) = x' at k ⊢
    have b1 : x'.blood = x.blood := by rw [← hX]; split <;> rfl
    have b2 : x'.bath = x.bath := by rw [← hX]; split <;> rfl
    refine ⟨by decide, ?_⟩
    intro l f1
    obtain ⟨f2, f3⟩ := fresh_ne f1
    obtain ⟨DN, MN⟩ := DA.setF (x' := x') ht hx ep b1 b2
    obtain ⟨e1, S1⟩ := new_facts (o := .lst [.int 0]) rfl f1
    exact k _ D l rfl ⟨DN.same S1, DS.ol, DS.ob, DS.od⟩ (MN.new S1) e1 (.new f3)
end
end Bb

set_option Elab.async false
set_option linter.all false
set_option maxRecDepth 100000
namespace Bb
open PySem PySem.Spec PyProof.Rows L2 L3
theorem vN_nats (l : List Nat) : vN l = (Vbdlan.nats l).map V.int := by
  unfold vN Vbdlan.nats
  rw [List.map_map]
  rfl
section
variable {a : Adr} {H H' : Hp} {D : DX} {f : Vbdlan.Form} {la : Bool} {ti aB aD : Nat} {xs : List Vbdlan.Solute}
/-- new rates -/
theorem DevAt.newRates (h : DevAt a H D f la ti aB aD xs) {rb rd q1 q2 : Addr} {f' : Vbdlan.Form} (hd : H' D.d = some (.ins a.C_Device D.dd (df (dI f' la ti D.l0 rb rd))))
    (h1 : H' rb = some (.ins a.C_Rate q1 (rf ⟨f'.bn, f'.bd, 0⟩))) (h2 : H' rd = some (.ins a.C_Rate q2 (rf ⟨f'.dn, f'.dd, 0⟩))) (hne : rb ≠ rd) (n1 : H rb = none) (n2 : H rd = none) (kp : But H H' D.d) :
    DevAt a H' { D with rb0 := rb, rd0 := rd, rb := rb, rd := rd } f' la ti 0 0 xs ∧ Mv D.fp ({ D with rb0 := rb, rd0 := rd, rb := rb, rd := rd } : DX).fp H H' := by
  refine ⟨⟨hd, ⟨q1, h1⟩, ⟨q2, h2⟩, hne, kp _ _ h.lst (ne_of h.lst h.dev (by intro z; cases z)), h.len, fun j t x ht hx => ?_, h.apart, h.lap⟩, fun b hb => ?_, fun b o e hb => kp b o e fun z => hb (mem_fp.mpr (.inl z))⟩
  · have hs := h.sol j t x ht hx
    exact hs.keep fun b o e hb => kp b o e fun z => hs.offD h.dev (z ▸ hb)
  · rcases mem_fp.mp hb with rfl | rfl | rfl | rfl | ⟨t, ht, hb⟩
    · exact .inl (mem_fp.mpr (.inl rfl))
    · exact .inl (mem_fp.mpr (.inr (.inl rfl)))
    · exact .inr n1
    · exact .inr n2
    · exact .inl (mem_fp.mpr (.inr (.inr (.inr (.inr ⟨t, ht, hb⟩)))))
end
section
variable {P : Program} {w : World} {K : PySem.W.Frag} {mg : Str → Option Value} {base : Heap} {a : Adr}
theorem ok_set_rates (T : Txt K mg a) : FnOk P w K mg base CX0 8 a.f_set_rates a.d_set_rates ["device", "given"] (sp_call a 3) := by
  refine T.F_set_rates.ok sc_set_rates (fun vs H Q E h => sp_call_len h) (fun cdv A outer s H vs Q E hr0 h => ?_)
  have hr := hr0
  obtain ⟨D, gv, st, args, c, ⟨rfl, hg, hoff, DS, SO⟩, hd, hrg, hl, hm, k⟩ := h
  cases hd with | rates i1 i2 i3 i4 =>
  replace hl := hl rfl
  have hr' := hrg
  simp only [Vbdlan.ranges, Bool.and_eq_true, within_iff] at hr'
  obtain ⟨i1, rfl⟩ := nat_of (j := i1) (by omega)
  obtain ⟨i2, rfl⟩ := nat_of (j := i2) (by omega)
  obtain ⟨i3, rfl⟩ := nat_of (j := i3) (by omega)
  obtain ⟨i4, rfl⟩ := nat_of (j := i4) (by omega)
  have DA := DS.da
  have hdev := DS.dev
  rw [pf_laid hl] at DA hdev
  have hng : gv ≠ D.d := ne_of hg hdev (by intro z; cases z)
  have he : Vbdlan.step st (.rates i1 i2 i3 i4) = ({ st with form := { st.form with bn := i1, bd := i2, dn := i3, dd := i4 }, accB := 0, accD := 0 }, [0]) := by
    simp only [Vbdlan.step, hrg, hl, Int.toNat_natCast, Bool.true_eq_false, false_and, if_false]
  rw [he] at k
  refine ⟨_, (pss_cons (ps_fld (pv 0) (pe_make T.mk_Rate (ok_Rate_init T) (hr.mono (by decide)) rfl T.g_Rate T.bi_Rate_init .nil pass0 (pa_cons (pe_ix ix_lst (pv 1) pe_int (fun _ _ => rfl)) (pa_cons (pe_ix ix_lst (pv 1) pe_int (fun _ _ => rfl)) pa_nil))) rfl) (pss_cons (ps_fld (pv 0) (pe_make T.mk_Rate (ok_Rate_init T) (hr.mono (by decide)) rfl T.g_Rate T.bi_Rate_init .nil pass0 (pa_cons (pe_ix ix_lst (pv 1) pe_int (fun _ _ => rfl)) (pa_cons (pe_ix ix_lst (pv 1) pe_int (fun _ _ => rfl)) pa_nil))) rfl) (pss_one (ps_ret (pe_lst (pa_cons pe_int pa_nil)))))), ?_⟩
  refine hide1 fun U hU => ?_
  simp only [tSeq, tIfS, tTest, tOp, rI0, rI, rEq, rNe, tVar, tC, tRet, tRetN, tNext, tUn, rU, L2.start, tFld, sFld, sFldAug, rAdd, rSub, tDrop, tAsg, gName, tAug, tAugS, ipI, tCons, tNil, tLst, tCall, tMeth, tMake, tCB, tNot, tAnd, tOr, tB, tAndV, tOrV, tNotV, rIxH, rSetL, tSl, tPart, tNoPart, rSlH, rCat, rRep, rSumN, tBM, rAppend, rExtend, tCallV, tDinK, tDgetK, tlc_list, tYes, scal, exists_eq_left', exists_eq_left, exists_and_left, Option.some.injEq, L3.vi, L3.vr, L3.vb, List.map_cons, List.map_nil, List.length_cons, List.length_nil, Nat.reduceAdd, Nat.reduceSub, Nat.zero_add, Nat.sub_self, List.replicate, List.cons_append, List.nil_append, List.append_nil, L3.gz, L3.gs, L3.z0, L3.z1, and_true, true_and, Bool.not_eq_true, HO.ins.injEq, L3.hl, and_assoc, decide_eq_true_eq, Bool.false_eq_true, if_false, if_true, List.cons.injEq, cxK, Nat.reduceLT, Nat.reduceLeDiff, upd_same, upd_upd, tfor_range1, tfor_list, Int.toNat_natCast, vN_inj, vN_length, vN_set, Int.neg_neg, df_all, hg, at0, at1]
  intro q dq f1 f2 hdq
  refine ⟨q, dq, i1, i2, rfl, upd_same, ?_⟩
  have s1 : Same H (upd (upd (upd H dq (.own q)) q (.ins a.C_Rate dq [])) q (.ins a.C_Rate dq (rf ⟨i1, i2, 0⟩))) := fun b o e => by
    rw [upd_upd, upd_ne (ne_of_none e f1), upd_ne (ne_of_none e f2)]; exact e
  generalize hH : upd (upd (upd H dq (.own q)) q (.ins a.C_Rate dq [])) q (.ins a.C_Rate dq (rf ⟨i1, i2, 0⟩)) = H1 at s1 ⊢
  have e_q : H1 q = some (.ins a.C_Rate dq (rf ⟨i1, i2, 0⟩)) := by rw [← hH]; exact upd_same
  clear hH
  have g1 := s1 _ _ hdev
  have hg1 := s1 _ _ hg
  have nq : q ≠ D.d := (ne_of_none hdev f1).symm
  simp only [tSeq, tIfS, tTest, tOp, rI0, rI, rEq, rNe, tVar, tC, tRet, tRetN, tNext, tUn, rU, L2.start, tFld, sFld, sFldAug, rAdd, rSub, tDrop, tAsg, gName, tAug, tAugS, ipI, tCons, tNil, tLst, tCall, tMeth, tMake, tCB, tNot, tAnd, tOr, tB, tAndV, tOrV, tNotV, rIxH, rSetL, tSl, tPart, tNoPart, rSlH, rCat, rRep, rSumN, tBM, rAppend, rExtend, tCallV, tDinK, tDgetK, tlc_list, tYes, scal, exists_eq_left', exists_eq_left, exists_and_left, Option.some.injEq, L3.vi, L3.vr, L3.vb, List.map_cons, List.map_nil, List.length_cons, List.length_nil, Nat.reduceAdd, Nat.reduceSub, Nat.zero_add, Nat.sub_self, List.replicate, List.cons_append, List.nil_append, List.append_nil, L3.gz, L3.gs, L3.z0, L3.z1, and_true, true_and, Bool.not_eq_true, HO.ins.injEq, L3.hl, and_assoc, decide_eq_true_eq, Bool.false_eq_true, if_false, if_true, List.cons.injEq, cxK, Nat.reduceLT, Nat.reduceLeDiff, upd_same, upd_upd, tfor_range1, tfor_list, Int.toNat_natCast, vN_inj, vN_length, vN_set, Int.neg_neg, df_all, g1, dI, T.nos_Device]
  refine gen_upd (Q := U _ _) fun H2 g1 B2 => ?_
  have hg2 := B2 _ _ hg1 hng
  have e_q := B2 _ _ e_q nq
  have B2 : But H H2 D.d := fun b o e n => B2 b o (s1 b o e) n
  subst hU
  refine hide1 fun U hU => ?_
  simp only [tSeq, tIfS, tTest, tOp, rI0, rI, rEq, rNe, tVar, tC, tRet, tRetN, tNext, tUn, rU, L2.start, tFld, sFld, sFldAug, rAdd, rSub, tDrop, tAsg, gName, tAug, tAugS, ipI, tCons, tNil, tLst, tCall, tMeth, tMake, tCB, tNot, tAnd, tOr, tB, tAndV, tOrV, tNotV, rIxH, rSetL, tSl, tPart, tNoPart, rSlH, rCat, rRep, rSumN, tBM, rAppend, rExtend, tCallV, tDinK, tDgetK, tlc_list, tYes, scal, exists_eq_left', exists_eq_left, exists_and_left, Option.some.injEq, L3.vi, L3.vr, L3.vb, List.map_cons, List.map_nil, List.length_cons, List.length_nil, Nat.reduceAdd, Nat.reduceSub, Nat.zero_add, Nat.sub_self, List.replicate, List.cons_append, List.nil_append, List.append_nil, L3.gz, L3.gs, L3.z0, L3.z1, and_true, true_and, Bool.not_eq_true, HO.ins.injEq, L3.hl, and_assoc, decide_eq_true_eq, Bool.false_eq_true, if_false, if_true, List.cons.injEq, cxK, Nat.reduceLT, Nat.reduceLeDiff, upd_same, upd_upd, tfor_range1, tfor_list, Int.toNat_natCast, vN_inj, vN_length, vN_set, Int.neg_neg, df_all, hg2, at2, at3]
  intro r dr f3 f4 hdr
  refine ⟨r, dr, i3, i4, rfl, upd_same, ?_⟩
  have s2 : Same H2 (upd (upd (upd H2 dr (.own r)) r (.ins a.C_Rate dr [])) r (.ins a.C_Rate dr (rf ⟨i3, i4, 0⟩))) := fun b o e => by
    rw [upd_upd, upd_ne (ne_of_none e f3), upd_ne (ne_of_none e f4)]; exact e
  generalize hH : upd (upd (upd H2 dr (.own r)) r (.ins a.C_Rate dr [])) r (.ins a.C_Rate dr (rf ⟨i3, i4, 0⟩)) = H3 at s2 ⊢
  have e_r : H3 r = some (.ins a.C_Rate dr (rf ⟨i3, i4, 0⟩)) := by rw [← hH]; exact upd_same
  clear hH
  have nr : r ≠ D.d := (ne_of_none g1 f3).symm
  have nqr : q ≠ r := ne_of_none e_q f3
  have u3 : H r = none := B2.free f3 nr
  have g1 := s2 _ _ g1
  have e_q := s2 _ _ e_q
  have B3 := B2.same s2
  simp only [tSeq, tIfS, tTest, tOp, rI0, rI, rEq, rNe, tVar, tC, tRet, tRetN, tNext, tUn, rU, L2.start, tFld, sFld, sFldAug, rAdd, rSub, tDrop, tAsg, gName, tAug, tAugS, ipI, tCons, tNil, tLst, tCall, tMeth, tMake, tCB, tNot, tAnd, tOr, tB, tAndV, tOrV, tNotV, rIxH, rSetL, tSl, tPart, tNoPart, rSlH, rCat, rRep, rSumN, tBM, rAppend, rExtend, tCallV, tDinK, tDgetK, tlc_list, tYes, scal, exists_eq_left', exists_eq_left, exists_and_left, Option.some.injEq, L3.vi, L3.vr, L3.vb, List.map_cons, List.map_nil, List.length_cons, List.length_nil, Nat.reduceAdd, Nat.reduceSub, Nat.zero_add, Nat.sub_self, List.replicate, List.cons_append, List.nil_append, List.append_nil, L3.gz, L3.gs, L3.z0, L3.z1, and_true, true_and, Bool.not_eq_true, HO.ins.injEq, L3.hl, and_assoc, decide_eq_true_eq, Bool.false_eq_true, if_false, if_true, List.cons.injEq, cxK, Nat.reduceLT, Nat.reduceLeDiff, upd_same, upd_upd, tfor_range1, tfor_list, Int.toNat_natCast, vN_inj, vN_length, vN_set, Int.neg_neg, df_all, g1, dI, T.nos_Device]
  refine gen_upd (Q := U _ _) fun H4 g1 B4 => ?_
  have e_q := B4 _ _ e_q nq
  have e_r := B4 _ _ e_r nr
  have B4 := B3.trans B4
  subst hU
  simp only [tSeq, tIfS, tTest, tOp, rI0, rI, rEq, rNe, tVar, tC, tRet, tRetN, tNext, tUn, rU, L2.start, tFld, sFld, sFldAug, rAdd, rSub, tDrop, tAsg, gName, tAug, tAugS, ipI, tCons, tNil, tLst, tCall, tMeth, tMake, tCB, tNot, tAnd, tOr, tB, tAndV, tOrV, tNotV, rIxH, rSetL, tSl, tPart, tNoPart, rSlH, rCat, rRep, rSumN, tBM, rAppend, rExtend, tCallV, tDinK, tDgetK, tlc_list, tYes, scal, exists_eq_left', exists_eq_left, exists_and_left, Option.some.injEq, L3.vi, L3.vr, L3.vb, List.map_cons, List.map_nil, List.length_cons, List.length_nil, Nat.reduceAdd, Nat.reduceSub, Nat.zero_add, Nat.sub_self, List.replicate, List.cons_append, List.nil_append, List.append_nil, L3.gz, L3.gs, L3.z0, L3.z1, and_true, true_and, Bool.not_eq_true, HO.ins.injEq, L3.hl, and_assoc, decide_eq_true_eq, Bool.false_eq_true, if_false, if_true, List.cons.injEq, cxK, Nat.reduceLT, Nat.reduceLeDiff, upd_same, upd_upd, tfor_range1, tfor_list, Int.toNat_natCast, vN_inj, vN_length, vN_set, Int.neg_neg]
  refine ⟨by decide, ?_⟩
  intro l f_l
  generalize hG_l : upd H4 l _ = H5
  obtain ⟨e_l, S_l⟩ := new_facts hG_l f_l
  clear hG_l
  have nl : l ≠ D.d := (ne_of_none g1 f_l).symm
  have g1 := S_l _ _ g1
  have e_q := S_l _ _ e_q
  have e_r := S_l _ _ e_r
  obtain ⟨DN, MN⟩ := DA.newRates (H' := H5) (rb := q) (rd := r) (q1 := dq) (q2 := dr) (f' := { st.form with bn := i1, bd := i2, dn := i3, dd := i4 }) (by rw [DS.ol]; exact g1) e_q e_r nqr f1 u3 (B4.same S_l)
  refine k H5 { D with rb0 := q, rd0 := r, rb := q, rd := r } l rfl ⟨?_, DS.ol, rfl, rfl⟩ MN e_l (.new (B4.free f_l nl))
  rw [pf_laid (s := { st with form := { st.form with bn := i1, bd := i2, dn := i3, dd := i4 }, accB := 0, accD := 0 }) hl]
  exact DN
/-- mark -/
def mkInv (a : Adr) (H : Hp) (D : DX) (gv : Addr) (s : Vbdlan.St) (i : Nat) (σ : L2.St) (H' : Hp) : Prop :=
  ∃ v2, σ = [some (.ref D.d), some (.ref gv), v2] ∧ DevAt a H' D (pf s) s.laid s.ticks s.accB s.accD (mapTo mrk s.solutes i) ∧ Mv D.fp D.fp H H'
theorem ok_set_mark (T : Txt K mg a) : FnOk P w K mg base CX0 8 a.f_set_mark a.d_set_mark ["device", "given"] (sp_call a 13) := by
  refine T.F_set_mark.ok sc_set_mark (fun vs H Q E h => sp_call_len h) (fun cdv A outer s H vs Q E hr0 h => ?_)
  have hr := hr0
  obtain ⟨D, gv, st, args, c, ⟨rfl, hg, hoff, DS, SO⟩, hd, hrg, hl, hm, k⟩ := h
  cases hd with | mark =>
  replace hl := hl rfl
  have DA := DS.da
  have hdev := DS.dev
  have he : Vbdlan.step st .mark = ({ st with solutes := st.solutes.map mrk }, [0]) := by
    simp only [Vbdlan.step, hrg, hl, Bool.true_eq_false, false_and, if_false]
    rfl
  rw [he] at k
  refine ⟨_, (pss_cons (ps_for PassesOwn.never rfl (pi_list (pe_fld (pv 0) rfl)) (pg_name (i := 2) sc_set_mark.nd rfl (Or.inl rfl)) (pss_one (ps_expr (pe_meth0 (pv 2) T.cl_Solute T.m_Solute_mark (ok_Solute_mark T) (hr.mono (by decide)) T.bi_Solute_mark .nil pass0)))) (pss_one (ps_ret (pe_lst (pa_cons pe_int pa_nil))))), ?_⟩
  refine hide1 fun U hU => ?_
  simp only [tSeq, tIfS, tTest, tOp, rI0, rI, rEq, rNe, tVar, tC, tRet, tRetN, tNext, tUn, rU, L2.start, tFld, sFld, sFldAug, rAdd, rSub, tDrop, tAsg, gName, tAug, tAugS, ipI, tCons, tNil, tLst, tCall, tMeth, tMake, tCB, tNot, tAnd, tOr, tB, tAndV, tOrV, tNotV, rIxH, rSetL, tSl, tPart, tNoPart, rSlH, rCat, rRep, rSumN, tBM, rAppend, rExtend, tCallV, tDinK, tDgetK, tlc_list, tYes, scal, exists_eq_left', exists_eq_left, exists_and_left, Option.some.injEq, L3.vi, L3.vr, L3.vb, List.map_cons, List.map_nil, List.length_cons, List.length_nil, Nat.reduceAdd, Nat.reduceSub, Nat.zero_add, Nat.sub_self, List.replicate, List.cons_append, List.nil_append, List.append_nil, L3.gz, L3.gs, L3.z0, L3.z1, and_true, true_and, Bool.not_eq_true, HO.ins.injEq, L3.hl, and_assoc, decide_eq_true_eq, Bool.false_eq_true, if_false, if_true, List.cons.injEq, cxK, Nat.reduceLT, Nat.reduceLeDiff, upd_same, upd_upd, tfor_range1, tfor_list, Int.toNat_natCast, vN_inj, vN_length, vN_set, Int.neg_neg, df_all, hdev, dI, T.nos_Device, sqL_ex DA.lst]
  refine loop_list (xs := refs D.ps) (mkInv a H D gv st) ⟨_, rfl, DA, Mv.refl⟩ (fun i σ H' _ h => ?_) ?_ ?_
  · obtain ⟨_, _, DA', _⟩ := h
    exact SqL.of DA'.lst
  · rintro i y σ H' hi ⟨v2, rfl, DA', M'⟩
    obtain ⟨t, ht, rfl⟩ := refs_get hi
    obtain ⟨x0, hx0, hs⟩ := DA'.solx ht
    have hix : i < st.solutes.length := by
      have := (List.getElem?_eq_some_iff.mp hx0).1
      rw [mapTo_len] at this
      exact this
    obtain ⟨x, hx⟩ : ∃ x, st.solutes[i]? = some x := ⟨_, List.getElem?_eq_getElem hix⟩
    have hx1 := hx0
    rw [mapTo_at hx] at hx0
    have ex : x = x0 := Option.some.inj hx0
    subst ex
    obtain ⟨dx, ep⟩ := hs.obj
    simp only [tSeq, tIfS, tTest, tOp, rI0, rI, rEq, rNe, tVar, tC, tRet, tRetN, tNext, tUn, rU, L2.start, tFld, sFld, sFldAug, rAdd, rSub, tDrop, tAsg, gName, tAug, tAugS, ipI, tCons, tNil, tLst, tCall, tMeth, tMake, tCB, tNot, tAnd, tOr, tB, tAndV, tOrV, tNotV, rIxH, rSetL, tSl, tPart, tNoPart, rSlH, rCat, rRep, rSumN, tBM, rAppend, rExtend, tCallV, tDinK, tDgetK, tlc_list, tYes, scal, exists_eq_left', exists_eq_left, exists_and_left, Option.some.injEq, L3.vi, L3.vr, L3.vb, List.map_cons, List.map_nil, List.length_cons, List.length_nil, Nat.reduceAdd, Nat.reduceSub, Nat.zero_add, Nat.sub_self, List.replicate, List.cons_append, List.nil_append, List.append_nil, L3.gz, L3.gs, L3.z0, L3.z1, and_true, true_and, Bool.not_eq_true, HO.ins.injEq, L3.hl, and_assoc, decide_eq_true_eq, Bool.false_eq_true, if_false, if_true, List.cons.injEq, cxK, Nat.reduceLT, Nat.reduceLeDiff, upd_same, upd_upd, tfor_range1, tfor_list, Int.toNat_natCast, vN_inj, vN_length, vN_set, Int.neg_neg, sf_all, ep]
    refine ⟨t.1, dx, t.2.1, t.2.2, x, rfl, ep, ?_⟩
    obtain ⟨DN, MN⟩ := DA'.setF (x' := mrk x) ht hx1 ep rfl rfl
    rw [mapTo_next hx] at DN
    exact ⟨_, rfl, DN, M'.trans MN⟩
  · rintro σ H' ⟨v2, rfl, DA', M'⟩
    have e : (refs D.ps).length = st.solutes.length := by rw [refs_len, DA.len]
    rw [e, mapTo_all] at DA'
    subst hU
    simp only [tSeq, tIfS, tTest, tOp, rI0, rI, rEq, rNe, tVar, tC, tRet, tRetN, tNext, tUn, rU, L2.start, tFld, sFld, sFldAug, rAdd, rSub, tDrop, tAsg, gName, tAug, tAugS, ipI, tCons, tNil, tLst, tCall, tMeth, tMake, tCB, tNot, tAnd, tOr, tB, tAndV, tOrV, tNotV, rIxH, rSetL, tSl, tPart, tNoPart, rSlH, rCat, rRep, rSumN, tBM, rAppend, rExtend, tCallV, tDinK, tDgetK, tlc_list, tYes, scal, exists_eq_left', exists_eq_left, exists_and_left, Option.some.injEq, L3.vi, L3.vr, L3.vb, List.map_cons, List.map_nil, List.length_cons, List.length_nil, Nat.reduceAdd, Nat.reduceSub, Nat.zero_add, Nat.sub_self, List.replicate, List.cons_append, List.nil_append, List.append_nil, L3.gz, L3.gs, L3.z0, L3.z1, and_true, true_and, Bool.not_eq_true, HO.ins.injEq, L3.hl, and_assoc, decide_eq_true_eq, Bool.false_eq_true, if_false, if_true, List.cons.injEq, cxK, Nat.reduceLT, Nat.reduceLeDiff, upd_same, upd_upd, tfor_range1, tfor_list, Int.toNat_natCast, vN_inj, vN_length, vN_set, Int.neg_neg]
    refine ⟨by decide, ?_⟩
    intro l f_l
    generalize hG_l : upd H' l _ = H1
    obtain ⟨e_l, S_l⟩ := new_facts hG_l f_l
    clear hG_l
    exact k H1 D l rfl ⟨DA'.same S_l, DS.ol, DS.ob, DS.od⟩ (M'.new S_l) e_l (M'.off f_l)
theorem ok_run_ticks (T : Txt K mg a) : FnOk P w K mg base CX0 8 a.f_run_ticks a.d_run_ticks ["device", "given"] (sp_call a 8) := by
  refine T.F_run_ticks.ok sc_run_ticks (fun vs H Q E h => sp_call_len h) (fun cdv A outer s H vs Q E hr0 h => ?_)
  have hr := hr0
  obtain ⟨D, gv, st, args, c, ⟨rfl, hg, hoff, DS, SO⟩, hd, hrg, hl, hm, k⟩ := h
  cases hd with | tick n =>
  replace hl := hl rfl
  have hr' := hrg
  simp only [Vbdlan.ranges, within_iff, Vbdlan.TICKS] at hr'
  obtain ⟨n, rfl⟩ := nat_of (j := n) (by omega)
  have DA := DS.da
  have hdev := DS.dev
  rw [pf_laid hl] at DA hdev
  have he : Vbdlan.step st (.tick n) = if 20000 < st.ticks + n then (st, [-7]) else (Vbdlan.runTicks n st, [((Vbdlan.runTicks n st).ticks : Int)]) := by
    simp only [Vbdlan.step, hrg, hl, Int.toNat_natCast, Bool.true_eq_false, false_and, if_false, Vbdlan.LASTTICK]
    rfl
  rw [he] at k
  refine ⟨_, (pss_cons (ps_if (pt_cmpR op_gt (pe_op op_add (pe_fld (pv 0) rfl) (pe_ix ix_lst (pv 1) pe_int (fun _ _ => rfl))) (pe_gint T.g_MOST_TICKS) (nomark _)) (pss_one (ps_ret (pe_lst (pa_cons (pe_gint T.g_TOO_MANY_TICKS) pa_nil)))) pss_nil) (pss_cons (ps_expr (pe_call (ok_pass_ticks T) (hr.mono (by decide)) rfl T.g_pass_ticks T.F_pass_ticks.kp T.bi_pass_ticks .nil pass0 (pa_cons (pv 0) (pa_cons (pe_fld (pv 0) rfl) (pa_cons (pe_fld (pv 0) rfl) (pa_cons (pe_fld (pv 0) rfl) (pa_cons (pe_ix ix_lst (pv 1) pe_int (fun _ _ => rfl)) pa_nil))))))) (pss_cons (ps_fldaug (pv 0) (pe_ix ix_lst (pv 1) pe_int (fun _ _ => rfl)) in_add) (pss_one (ps_ret (pe_lst (pa_cons (pe_fld (pv 0) rfl) pa_nil))))))), ?_⟩
  refine hide1 fun U hU => ?_
  simp only [tSeq, tIfS, tTest, tOp, rI0, rI, rEq, rNe, tVar, tC, tRet, tRetN, tNext, tUn, rU, L2.start, tFld, sFld, sFldAug, rAdd, rSub, tDrop, tAsg, gName, tAug, tAugS, ipI, tCons, tNil, tLst, tCall, tMeth, tMake, tCB, tNot, tAnd, tOr, tB, tAndV, tOrV, tNotV, rIxH, rSetL, tSl, tPart, tNoPart, rSlH, rCat, rRep, rSumN, tBM, rAppend, rExtend, tCallV, tDinK, tDgetK, tlc_list, tYes, scal, exists_eq_left', exists_eq_left, exists_and_left, Option.some.injEq, L3.vi, L3.vr, L3.vb, List.map_cons, List.map_nil, List.length_cons, List.length_nil, Nat.reduceAdd, Nat.reduceSub, Nat.zero_add, Nat.sub_self, List.replicate, List.cons_append, List.nil_append, List.append_nil, L3.gz, L3.gs, L3.z0, L3.z1, and_true, true_and, Bool.not_eq_true, HO.ins.injEq, L3.hl, and_assoc, decide_eq_true_eq, Bool.false_eq_true, if_false, if_true, List.cons.injEq, cxK, Nat.reduceLT, Nat.reduceLeDiff, upd_same, upd_upd, tfor_range1, tfor_list, Int.toNat_natCast, vN_inj, vN_length, vN_set, Int.neg_neg, df_all, hg, hdev, dI, at0, T.nos_Device]
  refine ite2 (fun h0 => ?_) fun h0 => ?_
  · rw [if_pos (by omega)] at k
    refine ⟨by decide, ?_⟩
    intro l f_l
    generalize hG_l : upd H l _ = H1
    obtain ⟨e_l, S_l⟩ := new_facts hG_l f_l
    clear hG_l
    exact k.tell DS rfl S_l e_l f_l
  · rw [if_neg (by omega)] at k
    subst hU
    refine hide1 fun U hU => ?_
    simp only [tSeq, tIfS, tTest, tOp, rI0, rI, rEq, rNe, tVar, tC, tRet, tRetN, tNext, tUn, rU, L2.start, tFld, sFld, sFldAug, rAdd, rSub, tDrop, tAsg, gName, tAug, tAugS, ipI, tCons, tNil, tLst, tCall, tMeth, tMake, tCB, tNot, tAnd, tOr, tB, tAndV, tOrV, tNotV, rIxH, rSetL, tSl, tPart, tNoPart, rSlH, rCat, rRep, rSumN, tBM, rAppend, rExtend, tCallV, tDinK, tDgetK, tlc_list, tYes, scal, exists_eq_left', exists_eq_left, exists_and_left, Option.some.injEq, L3.vi, L3.vr, L3.vb, List.map_cons, List.map_nil, List.length_cons, List.length_nil, Nat.reduceAdd, Nat.reduceSub, Nat.zero_add, Nat.sub_self, List.replicate, List.cons_append, List.nil_append, List.append_nil, L3.gz, L3.gs, L3.z0, L3.z1, and_true, true_and, Bool.not_eq_true, HO.ins.injEq, L3.hl, and_assoc, decide_eq_true_eq, Bool.false_eq_true, if_false, if_true, List.cons.injEq, cxK, Nat.reduceLT, Nat.reduceLeDiff, upd_same, upd_upd, tfor_range1, tfor_list, Int.toNat_natCast, vN_inj, vN_length, vN_set, Int.neg_neg, df_all, hg, hdev, dI, at0, T.nos_Device]
    refine ⟨D, st, st.laid, st.ticks, n, rfl, DA, SO.fo hl, SO.so, by omega, fun H1 ps' hrf DN M1 => ?_⟩
    have g1 := DN.dev
    dsimp only at g1
    rw [DS.ol, DS.ob, DS.od] at g1
    have hg1 := M1.kp _ _ hg hoff
    have hng : gv ≠ D.d := ne_of hg hdev (by intro z; cases z)
    subst hU
    obtain ⟨DM, MM⟩ := DN.setDev (f' := st.form) (la' := st.laid) (ti' := st.ticks + n) rfl rfl rfl rfl
    dsimp only at DM MM
    rw [DS.ol, DS.ob, DS.od] at DM MM
    simp only [tSeq, tIfS, tTest, tOp, rI0, rI, rEq, rNe, tVar, tC, tRet, tRetN, tNext, tUn, rU, L2.start, tFld, sFld, sFldAug, rAdd, rSub, tDrop, tAsg, gName, tAug, tAugS, ipI, tCons, tNil, tLst, tCall, tMeth, tMake, tCB, tNot, tAnd, tOr, tB, tAndV, tOrV, tNotV, rIxH, rSetL, tSl, tPart, tNoPart, rSlH, rCat, rRep, rSumN, tBM, rAppend, rExtend, tCallV, tDinK, tDgetK, tlc_list, tYes, scal, exists_eq_left', exists_eq_left, exists_and_left, Option.some.injEq, L3.vi, L3.vr, L3.vb, List.map_cons, List.map_nil, List.length_cons, List.length_nil, Nat.reduceAdd, Nat.reduceSub, Nat.zero_add, Nat.sub_self, List.replicate, List.cons_append, List.nil_append, List.append_nil, L3.gz, L3.gs, L3.z0, L3.z1, and_true, true_and, Bool.not_eq_true, HO.ins.injEq, L3.hl, and_assoc, decide_eq_true_eq, Bool.false_eq_true, if_false, if_true, List.cons.injEq, cxK, Nat.reduceLT, Nat.reduceLeDiff, upd_same, upd_upd, tfor_range1, tfor_list, Int.toNat_natCast, vN_inj, vN_length, vN_set, Int.neg_neg, df_all, hg1, g1, dI, at0, T.nos_Device]
    refine ⟨by decide, ?_⟩
    intro l f1
    have e2 : (st.ticks : Int) + n = ((st.ticks + n : Nat) : Int) := by omega
    rw [e2] at f1 ⊢
    have M2 := M1.trans MM
    obtain ⟨e1, S1⟩ := new_facts (o := .lst [.int ((st.ticks + n : Nat) : Int)]) rfl f1
    refine k _ { D with l0 := D.l, rb0 := D.rb, rd0 := D.rd, ps := ps' } l rfl ⟨?_, rfl, rfl, rfl⟩ (M2.new S1) ?_ (M2.off f1)
    · rw [pf_laid (s := Vbdlan.runTicks n st) ((runTicks_laid n st).trans hl), runTicks_form, runTicks_laid, runTicks_ticks]
      exact DM.same S1
    · rw [e1, runTicks_ticks]
      rfl
end
end Bb

set_option Elab.async false
set_option linter.all false
set_option maxRecDepth 100000
namespace Bb
open PySem PySem.Spec PyProof.Rows L2 L3
section
variable {P : Program} {w : World} {K : PySem.W.Frag} {mg : Str → Option Value} {base : Heap} {a : Adr}
theorem ok_tell_totals (T : Txt K mg a) : FnOk P w K mg base CX0 8 a.f_tell_totals a.d_tell_totals ["device", "given"] (sp_call a 12) := by
  refine T.F_tell_totals.ok sc_tell_totals (fun vs H Q E h => sp_call_len h) (fun cdv A outer s H vs Q E hr0 h => ?_)
  have hr := hr0
  obtain ⟨D, gv, st, args, c, ⟨rfl, hg, hoff, DS, SO⟩, hd, hrg, hl, hm, k⟩ := h
  cases hd with | totals j =>
  replace hl := hl rfl
  have hr' := hrg
  simp only [Vbdlan.ranges, within_iff] at hr'
  obtain ⟨J, x, rfl, hx⟩ := there hm rfl (by omega)
  have DA := DS.da
  have hdev := DS.dev
  obtain ⟨t, ht, hs⟩ := DA.solt hx
  obtain ⟨dx, ep⟩ := hs.obj
  have he : Vbdlan.step st (.totals J) = (st, Vbdlan.soluteTotals x) := by
    simp only [Vbdlan.step, hrg, hl, Vbdlan.onSolute, Int.toNat_natCast, hx, Bool.true_eq_false, false_and, if_false]
  rw [he] at k
  refine ⟨_, (pss_cons (ps_set (i := 2) sc_tell_totals.nd rfl (Or.inl rfl) (pe_ix ix_lst (pe_fld (pv 0) rfl) (pe_ix ix_lst (pv 1) pe_int (fun _ _ => rfl)) (fun _ _ => rfl))) (pss_one (ps_ret (pe_meth0 (pv 2) T.cl_Solute T.m_Solute_totals (ok_Solute_totals T) (hr.mono (by decide)) T.bi_Solute_totals .nil pass0)))), ?_⟩
  simp only [tSeq, tIfS, tTest, tOp, rI0, rI, rEq, rNe, tVar, tC, tRet, tRetN, tNext, tUn, rU, L2.start, tFld, sFld, sFldAug, rAdd, rSub, tDrop, tAsg, gName, tAug, tAugS, ipI, tCons, tNil, tLst, tCall, tMeth, tMake, tCB, tNot, tAnd, tOr, tB, tAndV, tOrV, tNotV, rIxH, rSetL, tSl, tPart, tNoPart, rSlH, rCat, rRep, rSumN, tBM, rAppend, rExtend, tCallV, tDinK, tDgetK, tlc_list, tYes, scal, exists_eq_left', exists_eq_left, exists_and_left, Option.some.injEq, L3.vi, L3.vr, L3.vb, List.map_cons, List.map_nil, List.length_cons, List.length_nil, Nat.reduceAdd, Nat.reduceSub, Nat.zero_add, Nat.sub_self, List.replicate, List.cons_append, List.nil_append, List.append_nil, L3.gz, L3.gs, L3.z0, L3.z1, and_true, true_and, Bool.not_eq_true, HO.ins.injEq, L3.hl, and_assoc, decide_eq_true_eq, Bool.false_eq_true, if_false, if_true, List.cons.injEq, cxK, Nat.reduceLT, Nat.reduceLeDiff, upd_same, upd_upd, tfor_range1, tfor_list, Int.toNat_natCast, vN_inj, vN_length, vN_set, Int.neg_neg, sf_all, df_all, hg, hdev, dI, DA.lst, at0, atR ht, ep, T.nos_Device]
  exact ⟨t.1, t.2.1, t.2.2, x, rfl, hs, fun H' l e f S => k.tell DS rfl S e f⟩
theorem ok_tell_profile (T : Txt K mg a) : FnOk P w K mg base CX0 8 a.f_tell_profile a.d_tell_profile ["device", "given"] (sp_call a 16) := by
  refine T.F_tell_profile.ok sc_tell_profile (fun vs H Q E h => sp_call_len h) (fun cdv A outer s H vs Q E hr0 h => ?_)
  have hr := hr0
  obtain ⟨D, gv, st, args, c, ⟨rfl, hg, hoff, DS, SO⟩, hd, hrg, hl, hm, k⟩ := h
  cases hd with | profile j =>
  replace hl := hl rfl
  have hr' := hrg
  simp only [Vbdlan.ranges, within_iff] at hr'
  obtain ⟨J, x, rfl, hx⟩ := there hm rfl (by omega)
  have DA := DS.da
  have hdev := DS.dev
  obtain ⟨t, ht, hs⟩ := DA.solt hx
  obtain ⟨dx, ep⟩ := hs.obj
  have he : Vbdlan.step st (.profile J) = (st, Vbdlan.nats (x.blood ++ x.bath)) := by
    simp only [Vbdlan.step, hrg, hl, Vbdlan.onSolute, Int.toNat_natCast, hx, Bool.true_eq_false, false_and, if_false]
  rw [he] at k
  have so := SO.so x (List.mem_of_getElem? hx)
  have b1 := so.bl
  have b2 := so.ba
  have b3 := (SO.fo hl).n32
  refine ⟨_, (pss_cons (ps_set (i := 2) sc_tell_profile.nd rfl (Or.inl rfl) (pe_ix ix_lst (pe_fld (pv 0) rfl) (pe_ix ix_lst (pv 1) pe_int (fun _ _ => rfl)) (fun _ _ => rfl))) (pss_one (ps_ret (pe_op op_cat (pe_fld (pv 2) rfl) (pe_fld (pv 2) rfl))))), ?_⟩
  simp only [tSeq, tIfS, tTest, tOp, rI0, rI, rEq, rNe, tVar, tC, tRet, tRetN, tNext, tUn, rU, L2.start, tFld, sFld, sFldAug, rAdd, rSub, tDrop, tAsg, gName, tAug, tAugS, ipI, tCons, tNil, tLst, tCall, tMeth, tMake, tCB, tNot, tAnd, tOr, tB, tAndV, tOrV, tNotV, rIxH, rSetL, tSl, tPart, tNoPart, rSlH, rCat, rRep, rSumN, tBM, rAppend, rExtend, tCallV, tDinK, tDgetK, tlc_list, tYes, scal, exists_eq_left', exists_eq_left, exists_and_left, Option.some.injEq, L3.vi, L3.vr, L3.vb, List.map_cons, List.map_nil, List.length_cons, List.length_nil, Nat.reduceAdd, Nat.reduceSub, Nat.zero_add, Nat.sub_self, List.replicate, List.cons_append, List.nil_append, List.append_nil, L3.gz, L3.gs, L3.z0, L3.z1, and_true, true_and, Bool.not_eq_true, HO.ins.injEq, L3.hl, and_assoc, decide_eq_true_eq, Bool.false_eq_true, if_false, if_true, List.cons.injEq, cxK, Nat.reduceLT, Nat.reduceLeDiff, upd_same, upd_upd, tfor_range1, tfor_list, Int.toNat_natCast, vN_inj, vN_length, vN_set, Int.neg_neg, sf_all, df_all, hg, hdev, dI, DA.lst, at0, atR ht, ep, sI, hs.hbl, hs.hba, T.nos_Solute, T.nos_Device]
  refine ⟨sl_ok (by omega), ?_⟩
  intro l f_l
  generalize hG_l : upd H l _ = H1
  obtain ⟨e_l, S_l⟩ := new_facts hG_l f_l
  clear hG_l
  exact k.tell DS rfl S_l (by rw [e_l, vN_cat, vN_nats]) f_l
/-- the greatest common divisor -/
def sp_gcd : Sp := fun vs H Q _ => ∃ m n : Nat, vs = [.int m, .int n] ∧ Q (.int (Nat.gcd m n : Nat)) H
def gcdM (σ : L2.St) : Nat := match σ with
  | _ :: some (.int y) :: _ => y.toNat
  | _ => 0
def gInv (H : Hp) (m n : Nat) (σ : L2.St) (H' : Hp) : Prop := H' = H ∧ ∃ (x y : Nat) (v2 : Option V), σ = [some (.int x), some (.int y), v2] ∧ Nat.gcd x y = Nat.gcd m n
theorem ok_common_divisor (T : Txt K mg a) : FnOk P w K mg base CX0 1 a.f_common_divisor a.d_common_divisor ["a", "b"] sp_gcd := by
  refine T.F_common_divisor.ok sc_common_divisor (fun vs H Q E h => ?_) (fun cdv A outer s H vs Q E hr h => ?_)
  · obtain ⟨_, _, rfl, _⟩ := h
    rfl
  · obtain ⟨m, n, rfl, k⟩ := h
    refine ⟨_, (pss_cons (ps_while PassesOwn.never (pt_cmpR op_gt (pv 1) pe_int (nomark _)) (pss_cons (ps_set (i := 2) sc_common_divisor.nd rfl (Or.inl rfl) (pe_op op_mod (pv 0) (pv 1))) (pss_cons (ps_set (i := 0) sc_common_divisor.nd rfl (Or.inl rfl) (pv 1)) (pss_one (ps_set (i := 1) sc_common_divisor.nd rfl (Or.inl rfl) (pv 2)))))) (pss_one (ps_ret (pv 0)))), ?_⟩
    refine while_by (gInv H m n) (fun σ _ => gcdM σ) ⟨rfl, m, n, none, rfl, rfl⟩ ?_ ?_
    · rintro σ H' ⟨rfl, x, y, v2, rfl, hg⟩
      simp only [tSeq, tIfS, tTest, tOp, rI0, rI, rEq, rNe, tVar, tC, tRet, tRetN, tNext, tUn, rU, L2.start, tFld, sFld, sFldAug, rAdd, rSub, tDrop, tAsg, gName, tAug, tAugS, ipI, tCons, tNil, tLst, tCall, tMeth, tMake, tCB, tNot, tAnd, tOr, tB, tAndV, tOrV, tNotV, rIxH, rSetL, tSl, tPart, tNoPart, rSlH, rCat, rRep, rSumN, tBM, rAppend, rExtend, tCallV, tDinK, tDgetK, tlc_list, tYes, scal, exists_eq_left', exists_eq_left, exists_and_left, Option.some.injEq, L3.vi, L3.vr, L3.vb, List.map_cons, List.map_nil, List.length_cons, List.length_nil, Nat.reduceAdd, Nat.reduceSub, Nat.zero_add, Nat.sub_self, List.replicate, List.cons_append, List.nil_append, List.append_nil, L3.gz, L3.gs, L3.z0, L3.z1, and_true, true_and, Bool.not_eq_true, HO.ins.injEq, L3.hl, and_assoc, decide_eq_true_eq, Bool.false_eq_true, if_false, if_true, List.cons.injEq, cxK, Nat.reduceLT, Nat.reduceLeDiff, upd_same, upd_upd, tfor_range1, tfor_list, Int.toNat_natCast, vN_inj, vN_length, vN_set, Int.neg_neg]
      refine ite2 (fun h0 => ⟨h0, ?_⟩) fun h0 => ?_
      · refine ⟨⟨rfl, y, x % y, _, rfl, ?_⟩, ?_⟩
        · rw [← hg]; exact (gcd_next (by omega)).symm
        · show x % y < y
          exact Nat.mod_lt _ (by omega)
      · have e : y = 0 := by omega
        subst e
        rw [← hg, Nat.gcd_zero_right] at k
        exact k
    · rintro σ H' Q1 Q2 m1 ⟨v, e, i, j, e1, e2, kk, e3, q⟩
      exact ⟨v, e, i, j, e1, e2, kk, e3, m1 _ _ q⟩
/-- the share gone -/
def sp_share (a : Adr) : Sp := fun vs H Q _ => ∃ b n : Nat, vs = [.int b, .int n] ∧ b < 18446744073709551616 ∧
  ∀ (H' : Hp) (l : Addr), H' l = some (.lst ((if b = 0 then [-8] else Vbdlan.ratio b n b).map V.int)) → H l = none → Same H H' → Q (.ref l) H'
theorem abs_nat (i : Int) : (if i < 0 then -i else i) = (i.natAbs : Int) := by split <;> omega
theorem ok_share_gone (T : Txt K mg a) : FnOk P w K mg base CX0 2 a.f_share_gone a.d_share_gone ["before", "now"] (sp_share a) := by
  refine T.F_share_gone.ok sc_share_gone (fun vs H Q E h => ?_) (fun cdv A outer s H vs Q E hr h => ?_)
  · obtain ⟨_, _, rfl, _⟩ := h
    rfl
  · obtain ⟨b, n, rfl, hb, k⟩ := h
    refine ⟨_, (pss_cons (ps_if (pt_cmpR op_eq (pv 0) pe_int (nomark _)) (pss_one (ps_ret (pe_lst (pa_cons (pe_gint T.g_NO_SHARE) pa_nil)))) pss_nil) (pss_cons (ps_set (i := 2) sc_share_gone.nd rfl (Or.inl rfl) (pe_op op_sub (pv 0) (pv 1))) (pss_cons (ps_set (i := 3) sc_share_gone.nd rfl (Or.inl rfl) (pe_call (ok_common_divisor T) (hr.mono (by decide)) rfl T.g_common_divisor T.F_common_divisor.kp T.bi_common_divisor .nil pass0 (pa_cons (pe_callB call_abs (by rfl) T.b_abs (by decide +kernel) (pa_cons (pv 2) pa_nil)) (pa_cons (pv 0) pa_nil)))) (pss_one (ps_ret (pe_lst (pa_cons pe_int (pa_cons (pe_op op_fdivB (pv 2) (pv 3)) (pa_cons (pe_op op_fdivB (pv 0) (pv 3)) pa_nil))))))))), ?_⟩
    refine hide1 fun U hU => ?_
    simp only [tSeq, tIfS, tTest, tOp, rI0, rI, rEq, rNe, tVar, tC, tRet, tRetN, tNext, tUn, rU, L2.start, tFld, sFld, sFldAug, rAdd, rSub, tDrop, tAsg, gName, tAug, tAugS, ipI, tCons, tNil, tLst, tCall, tMeth, tMake, tCB, tNot, tAnd, tOr, tB, tAndV, tOrV, tNotV, rIxH, rSetL, tSl, tPart, tNoPart, rSlH, rCat, rRep, rSumN, tBM, rAppend, rExtend, tCallV, tDinK, tDgetK, tlc_list, tYes, scal, exists_eq_left', exists_eq_left, exists_and_left, Option.some.injEq, L3.vi, L3.vr, L3.vb, List.map_cons, List.map_nil, List.length_cons, List.length_nil, Nat.reduceAdd, Nat.reduceSub, Nat.zero_add, Nat.sub_self, List.replicate, List.cons_append, List.nil_append, List.append_nil, L3.gz, L3.gs, L3.z0, L3.z1, and_true, true_and, Bool.not_eq_true, HO.ins.injEq, L3.hl, and_assoc, decide_eq_true_eq, Bool.false_eq_true, if_false, if_true, List.cons.injEq, cxK, Nat.reduceLT, Nat.reduceLeDiff, upd_same, upd_upd, tfor_range1, tfor_list, Int.toNat_natCast, vN_inj, vN_length, vN_set, Int.neg_neg]
    refine ite2 (fun h0 => ?_) fun h0 => ?_
    · rw [if_pos (by omega)] at k
      refine ⟨by decide, ?_⟩
      intro l f_l
      generalize hG_l : upd H l _ = H1
      obtain ⟨e_l, S_l⟩ := new_facts hG_l f_l
      clear hG_l
      exact k H1 l e_l f_l S_l
    · have hb0 : ¬ b = 0 := by omega
      rw [if_neg hb0] at k
      subst hU
      refine hide2 fun U hU => ?_
      simp only [tSeq, tIfS, tTest, tOp, rI0, rI, rEq, rNe, tVar, tC, tRet, tRetN, tNext, tUn, rU, L2.start, tFld, sFld, sFldAug, rAdd, rSub, tDrop, tAsg, gName, tAug, tAugS, ipI, tCons, tNil, tLst, tCall, tMeth, tMake, tCB, tNot, tAnd, tOr, tB, tAndV, tOrV, tNotV, rIxH, rSetL, tSl, tPart, tNoPart, rSlH, rCat, rRep, rSumN, tBM, rAppend, rExtend, tCallV, tDinK, tDgetK, tlc_list, tYes, scal, exists_eq_left', exists_eq_left, exists_and_left, Option.some.injEq, L3.vi, L3.vr, L3.vb, List.map_cons, List.map_nil, List.length_cons, List.length_nil, Nat.reduceAdd, Nat.reduceSub, Nat.zero_add, Nat.sub_self, List.replicate, List.cons_append, List.nil_append, List.append_nil, L3.gz, L3.gs, L3.z0, L3.z1, and_true, true_and, Bool.not_eq_true, HO.ins.injEq, L3.hl, and_assoc, decide_eq_true_eq, Bool.false_eq_true, if_false, if_true, List.cons.injEq, cxK, Nat.reduceLT, Nat.reduceLeDiff, upd_same, upd_upd, tfor_range1, tfor_list, Int.toNat_natCast, vN_inj, vN_length, vN_set, Int.neg_neg, abs_nat]
      refine ⟨((b : Int) - n).natAbs, b, rfl, ?_⟩
      subst hU
      generalize hc : Nat.gcd ((b : Int) - n).natAbs b = g
      have g0 : 0 < g := by rw [← hc]; exact Nat.gcd_pos_of_pos_right _ (by omega)
      have g1 : g ≤ b := by rw [← hc]; exact Nat.gcd_le_right _ (by omega)
      simp only [tSeq, tIfS, tTest, tOp, rI0, rI, rEq, rNe, tVar, tC, tRet, tRetN, tNext, tUn, rU, L2.start, tFld, sFld, sFldAug, rAdd, rSub, tDrop, tAsg, gName, tAug, tAugS, ipI, tCons, tNil, tLst, tCall, tMeth, tMake, tCB, tNot, tAnd, tOr, tB, tAndV, tOrV, tNotV, rIxH, rSetL, tSl, tPart, tNoPart, rSlH, rCat, rRep, rSumN, tBM, rAppend, rExtend, tCallV, tDinK, tDgetK, tlc_list, tYes, scal, exists_eq_left', exists_eq_left, exists_and_left, Option.some.injEq, L3.vi, L3.vr, L3.vb, List.map_cons, List.map_nil, List.length_cons, List.length_nil, Nat.reduceAdd, Nat.reduceSub, Nat.zero_add, Nat.sub_self, List.replicate, List.cons_append, List.nil_append, List.append_nil, L3.gz, L3.gs, L3.z0, L3.z1, and_true, true_and, Bool.not_eq_true, HO.ins.injEq, L3.hl, and_assoc, decide_eq_true_eq, Bool.false_eq_true, if_false, if_true, List.cons.injEq, cxK, Nat.reduceLT, Nat.reduceLeDiff, upd_same, upd_upd, tfor_range1, tfor_list, Int.toNat_natCast, vN_inj, vN_length, vN_set, Int.neg_neg]
      have cg : ∀ i : Int, CDivB i (g : Int) := fun i => ⟨by omega, by omega⟩
      refine ⟨cg _, cg _, by decide, ?_⟩
      intro l f_l
      generalize hG_l : upd H l _ = H1
      obtain ⟨e_l, S_l⟩ := new_facts hG_l f_l
      clear hG_l
      refine k H1 l ?_ f_l S_l
      rw [e_l]
      have e : Vbdlan.ratio b n b = [0, ((b : Int) - n) / (g : Int), ((b / g : Nat) : Int)] := by
        unfold Vbdlan.ratio
        simp only [hc]
      rw [e]
      rfl
theorem ok_tell_extraction (T : Txt K mg a) : FnOk P w K mg base CX0 8 a.f_tell_extraction a.d_tell_extraction ["device", "given"] (sp_call a 14) := by
  refine T.F_tell_extraction.ok sc_tell_extraction (fun vs H Q E h => sp_call_len h) (fun cdv A outer s H vs Q E hr0 h => ?_)
  have hr := hr0
  obtain ⟨D, gv, st, args, c, ⟨rfl, hg, hoff, DS, SO⟩, hd, hrg, hl, hm, k⟩ := h
  cases hd with | extraction j =>
  replace hl := hl rfl
  have hr' := hrg
  simp only [Vbdlan.ranges, within_iff] at hr'
  obtain ⟨J, x, rfl, hx⟩ := there hm rfl (by omega)
  have DA := DS.da
  have hdev := DS.dev
  obtain ⟨t, ht, hs⟩ := DA.solt hx
  obtain ⟨dx, ep⟩ := hs.obj
  have he : Vbdlan.step st (.extraction J) = (st, if x.into = 0 then [-8] else Vbdlan.ratio x.into x.outOf x.into) := by
    simp only [Vbdlan.step, hrg, hl, Vbdlan.onSolute, Int.toNat_natCast, hx, Bool.true_eq_false, false_and, if_false]
    split <;> rfl
  rw [he] at k
  have bd := (SO.bd x (List.mem_of_getElem? hx)).into_le SO.tk
  refine ⟨_, (pss_cons (ps_set (i := 2) sc_tell_extraction.nd rfl (Or.inl rfl) (pe_ix ix_lst (pe_fld (pv 0) rfl) (pe_ix ix_lst (pv 1) pe_int (fun _ _ => rfl)) (fun _ _ => rfl))) (pss_one (ps_ret (pe_call (ok_share_gone T) (hr.mono (by decide)) rfl T.g_share_gone T.F_share_gone.kp T.bi_share_gone .nil pass0 (pa_cons (pe_fld (pv 2) rfl) (pa_cons (pe_fld (pv 2) rfl) pa_nil)))))), ?_⟩
  simp only [tSeq, tIfS, tTest, tOp, rI0, rI, rEq, rNe, tVar, tC, tRet, tRetN, tNext, tUn, rU, L2.start, tFld, sFld, sFldAug, rAdd, rSub, tDrop, tAsg, gName, tAug, tAugS, ipI, tCons, tNil, tLst, tCall, tMeth, tMake, tCB, tNot, tAnd, tOr, tB, tAndV, tOrV, tNotV, rIxH, rSetL, tSl, tPart, tNoPart, rSlH, rCat, rRep, rSumN, tBM, rAppend, rExtend, tCallV, tDinK, tDgetK, tlc_list, tYes, scal, exists_eq_left', exists_eq_left, exists_and_left, Option.some.injEq, L3.vi, L3.vr, L3.vb, List.map_cons, List.map_nil, List.length_cons, List.length_nil, Nat.reduceAdd, Nat.reduceSub, Nat.zero_add, Nat.sub_self, List.replicate, List.cons_append, List.nil_append, List.append_nil, L3.gz, L3.gs, L3.z0, L3.z1, and_true, true_and, Bool.not_eq_true, HO.ins.injEq, L3.hl, and_assoc, decide_eq_true_eq, Bool.false_eq_true, if_false, if_true, List.cons.injEq, cxK, Nat.reduceLT, Nat.reduceLeDiff, upd_same, upd_upd, tfor_range1, tfor_list, Int.toNat_natCast, vN_inj, vN_length, vN_set, Int.neg_neg, sf_all, df_all, hg, hdev, dI, DA.lst, at0, atR ht, ep, sI, T.nos_Solute, T.nos_Device]
  exact ⟨x.into, x.outOf, rfl, bd, fun H' l e f S => k.tell DS rfl S e f⟩
theorem ok_tell_reduction (T : Txt K mg a) : FnOk P w K mg base CX0 8 a.f_tell_reduction a.d_tell_reduction ["device", "given"] (sp_call a 15) := by
  refine T.F_tell_reduction.ok sc_tell_reduction (fun vs H Q E h => sp_call_len h) (fun cdv A outer s H vs Q E hr0 h => ?_)
  have hr := hr0
  obtain ⟨D, gv, st, args, c, ⟨rfl, hg, hoff, DS, SO⟩, hd, hrg, hl, hm, k⟩ := h
  cases hd with | reduction j =>
  replace hl := hl rfl
  have hr' := hrg
  simp only [Vbdlan.ranges, within_iff] at hr'
  obtain ⟨J, x, rfl, hx⟩ := there hm rfl (by omega)
  have DA := DS.da
  have hdev := DS.dev
  obtain ⟨t, ht, hs⟩ := DA.solt hx
  obtain ⟨dx, ep⟩ := hs.obj
  have he : Vbdlan.step st (.reduction J) = (st, if x.mark = 0 then [-8] else Vbdlan.ratio x.mark x.m1 x.mark) := by
    simp only [Vbdlan.step, hrg, hl, Vbdlan.onSolute, Int.toNat_natCast, hx, Bool.true_eq_false, false_and, if_false]
    split <;> rfl
  rw [he] at k
  have bd := (SO.bd x (List.mem_of_getElem? hx)).mark
  refine ⟨_, (pss_cons (ps_set (i := 2) sc_tell_reduction.nd rfl (Or.inl rfl) (pe_ix ix_lst (pe_fld (pv 0) rfl) (pe_ix ix_lst (pv 1) pe_int (fun _ _ => rfl)) (fun _ _ => rfl))) (pss_one (ps_ret (pe_call (ok_share_gone T) (hr.mono (by decide)) rfl T.g_share_gone T.F_share_gone.kp T.bi_share_gone .nil pass0 (pa_cons (pe_fld (pv 2) rfl) (pa_cons (pe_fld (pv 2) rfl) pa_nil)))))), ?_⟩
  simp only [tSeq, tIfS, tTest, tOp, rI0, rI, rEq, rNe, tVar, tC, tRet, tRetN, tNext, tUn, rU, L2.start, tFld, sFld, sFldAug, rAdd, rSub, tDrop, tAsg, gName, tAug, tAugS, ipI, tCons, tNil, tLst, tCall, tMeth, tMake, tCB, tNot, tAnd, tOr, tB, tAndV, tOrV, tNotV, rIxH, rSetL, tSl, tPart, tNoPart, rSlH, rCat, rRep, rSumN, tBM, rAppend, rExtend, tCallV, tDinK, tDgetK, tlc_list, tYes, scal, exists_eq_left', exists_eq_left, exists_and_left, Option.some.injEq, L3.vi, L3.vr, L3.vb, List.map_cons, List.map_nil, List.length_cons, List.length_nil, Nat.reduceAdd, Nat.reduceSub, Nat.zero_add, Nat.sub_self, List.replicate, List.cons_append, List.nil_append, List.append_nil, L3.gz, L3.gs, L3.z0, L3.z1, and_true, true_and, Bool.not_eq_true, HO.ins.injEq, L3.hl, and_assoc, decide_eq_true_eq, Bool.false_eq_true, if_false, if_true, List.cons.injEq, cxK, Nat.reduceLT, Nat.reduceLeDiff, upd_same, upd_upd, tfor_range1, tfor_list, Int.toNat_natCast, vN_inj, vN_length, vN_set, Int.neg_neg, sf_all, df_all, hg, hdev, dI, DA.lst, at0, atR ht, ep, sI, T.nos_Solute, T.nos_Device]
  exact ⟨x.mark, x.m1, rfl, by omega, fun H' l e f S => k.tell DS rfl S e f⟩
theorem ok_tell_look (T : Txt K mg a) : FnOk P w K mg base CX0 8 a.f_tell_look a.d_tell_look ["device", "given"] (sp_call a 17) := by
  refine T.F_tell_look.ok sc_tell_look (fun vs H Q E h => sp_call_len h) (fun cdv A outer s H vs Q E hr0 h => ?_)
  have hr := hr0
  obtain ⟨D, gv, st, args, c, ⟨rfl, hg, hoff, DS, SO⟩, hd, hrg, hl, hm, k⟩ := h
  cases hd with | look =>
  replace hl := hl rfl
  have DA := DS.da
  have hdev := DS.dev
  rw [pf_laid hl] at DA hdev
  obtain ⟨r1, e1⟩ := DA.hrb
  obtain ⟨r2, e2⟩ := DA.hrd
  have hls := DA.lst
  have hln : (refs D.ps).length = st.solutes.length := by rw [refs_len, DA.len]
  have he : Vbdlan.step st .look = (st, Vbdlan.nats [st.form.n, st.form.bv, st.form.dv, st.solutes.length, st.accB, st.accD, st.ticks, st.form.v1, st.form.v2, st.form.x, st.form.round]) := by
    simp only [Vbdlan.step, hrg, hl, Bool.true_eq_false, false_and, if_false]
  rw [he] at k
  refine ⟨_, (pss_cons (ps_set (i := 2) sc_tell_look.nd rfl (Or.inl rfl) (pe_lst (pa_cons (pe_fld (pv 0) rfl) (pa_cons (pe_fld (pv 0) rfl) (pa_cons (pe_fld (pv 0) rfl) (pa_cons (pe_callB call_len_lst (by rfl) T.b_len PySem.boot_len (pa_cons (pe_fld (pv 0) rfl) pa_nil)) pa_nil)))))) (pss_cons (ps_set (i := 3) sc_tell_look.nd rfl (Or.inl rfl) (pe_lst (pa_cons (pe_fld (pe_fld (pv 0) rfl) rfl) (pa_cons (pe_fld (pe_fld (pv 0) rfl) rfl) (pa_cons (pe_fld (pv 0) rfl) pa_nil))))) (pss_one (ps_ret (pe_op op_cat (pe_op op_cat (pv 2) (pv 3)) (pe_lst (pa_cons (pe_fld (pv 0) rfl) (pa_cons (pe_fld (pv 0) rfl) (pa_cons (pe_fld (pv 0) rfl) (pa_cons (pe_fld (pv 0) rfl) pa_nil)))))))))), ?_⟩
  refine hide1 fun U hU => ?_
  simp only [tSeq, tIfS, tTest, tOp, rI0, rI, rEq, rNe, tVar, tC, tRet, tRetN, tNext, tUn, rU, L2.start, tFld, sFld, sFldAug, rAdd, rSub, tDrop, tAsg, gName, tAug, tAugS, ipI, tCons, tNil, tLst, tCall, tMeth, tMake, tCB, tNot, tAnd, tOr, tB, tAndV, tOrV, tNotV, rIxH, rSetL, tSl, tPart, tNoPart, rSlH, rCat, rRep, rSumN, tBM, rAppend, rExtend, tCallV, tDinK, tDgetK, tlc_list, tYes, scal, exists_eq_left', exists_eq_left, exists_and_left, Option.some.injEq, L3.vi, L3.vr, L3.vb, List.map_cons, List.map_nil, List.length_cons, List.length_nil, Nat.reduceAdd, Nat.reduceSub, Nat.zero_add, Nat.sub_self, List.replicate, List.cons_append, List.nil_append, List.append_nil, L3.gz, L3.gs, L3.z0, L3.z1, and_true, true_and, Bool.not_eq_true, HO.ins.injEq, L3.hl, and_assoc, decide_eq_true_eq, Bool.false_eq_true, if_false, if_true, List.cons.injEq, cxK, Nat.reduceLT, Nat.reduceLeDiff, upd_same, upd_upd, tfor_range1, tfor_list, Int.toNat_natCast, vN_inj, vN_length, vN_set, Int.neg_neg, df_all, hdev, dI, hls, hln, T.nos_Device]
  refine ⟨by decide, ?_⟩
  intro l1 f_l1
  generalize hG_l1 : upd H l1 _ = H1
  obtain ⟨e_l1, S_l1⟩ := new_facts hG_l1 f_l1
  clear hG_l1
  have hdev := S_l1 _ _ hdev
  have e1 := S_l1 _ _ e1
  have e2 := S_l1 _ _ e2
  subst hU
  refine hide1 fun U hU => ?_
  simp only [tSeq, tIfS, tTest, tOp, rI0, rI, rEq, rNe, tVar, tC, tRet, tRetN, tNext, tUn, rU, L2.start, tFld, sFld, sFldAug, rAdd, rSub, tDrop, tAsg, gName, tAug, tAugS, ipI, tCons, tNil, tLst, tCall, tMeth, tMake, tCB, tNot, tAnd, tOr, tB, tAndV, tOrV, tNotV, rIxH, rSetL, tSl, tPart, tNoPart, rSlH, rCat, rRep, rSumN, tBM, rAppend, rExtend, tCallV, tDinK, tDgetK, tlc_list, tYes, scal, exists_eq_left', exists_eq_left, exists_and_left, Option.some.injEq, L3.vi, L3.vr, L3.vb, List.map_cons, List.map_nil, List.length_cons, List.length_nil, Nat.reduceAdd, Nat.reduceSub, Nat.zero_add, Nat.sub_self, List.replicate, List.cons_append, List.nil_append, List.append_nil, L3.gz, L3.gs, L3.z0, L3.z1, and_true, true_and, Bool.not_eq_true, HO.ins.injEq, L3.hl, and_assoc, decide_eq_true_eq, Bool.false_eq_true, if_false, if_true, List.cons.injEq, cxK, Nat.reduceLT, Nat.reduceLeDiff, upd_same, upd_upd, tfor_range1, tfor_list, Int.toNat_natCast, vN_inj, vN_length, vN_set, Int.neg_neg, rf_all, df_all, hdev, dI, e1, e2, T.nos_Device, T.nos_Rate]
  refine ⟨by decide, ?_⟩
  intro l2 f_l2
  generalize hG_l2 : upd H1 l2 _ = H2
  obtain ⟨e_l2, S_l2⟩ := new_facts hG_l2 f_l2
  clear hG_l2
  have hdev := S_l2 _ _ hdev
  have e_l1 := S_l2 _ _ e_l1
  subst hU
  simp only [tSeq, tIfS, tTest, tOp, rI0, rI, rEq, rNe, tVar, tC, tRet, tRetN, tNext, tUn, rU, L2.start, tFld, sFld, sFldAug, rAdd, rSub, tDrop, tAsg, gName, tAug, tAugS, ipI, tCons, tNil, tLst, tCall, tMeth, tMake, tCB, tNot, tAnd, tOr, tB, tAndV, tOrV, tNotV, rIxH, rSetL, tSl, tPart, tNoPart, rSlH, rCat, rRep, rSumN, tBM, rAppend, rExtend, tCallV, tDinK, tDgetK, tlc_list, tYes, scal, exists_eq_left', exists_eq_left, exists_and_left, Option.some.injEq, L3.vi, L3.vr, L3.vb, List.map_cons, List.map_nil, List.length_cons, List.length_nil, Nat.reduceAdd, Nat.reduceSub, Nat.zero_add, Nat.sub_self, List.replicate, List.cons_append, List.nil_append, List.append_nil, L3.gz, L3.gs, L3.z0, L3.z1, and_true, true_and, Bool.not_eq_true, HO.ins.injEq, L3.hl, and_assoc, decide_eq_true_eq, Bool.false_eq_true, if_false, if_true, List.cons.injEq, cxK, Nat.reduceLT, Nat.reduceLeDiff, upd_same, upd_upd, tfor_range1, tfor_list, Int.toNat_natCast, vN_inj, vN_length, vN_set, Int.neg_neg, rf_all, df_all, e_l1, e_l2]
  refine ⟨by decide, ?_⟩
  intro l3 f_l3
  generalize hG_l3 : upd H2 l3 _ = H3
  obtain ⟨e_l3, S_l3⟩ := new_facts hG_l3 f_l3
  clear hG_l3
  have hdev := S_l3 _ _ hdev
  simp only [tSeq, tIfS, tTest, tOp, rI0, rI, rEq, rNe, tVar, tC, tRet, tRetN, tNext, tUn, rU, L2.start, tFld, sFld, sFldAug, rAdd, rSub, tDrop, tAsg, gName, tAug, tAugS, ipI, tCons, tNil, tLst, tCall, tMeth, tMake, tCB, tNot, tAnd, tOr, tB, tAndV, tOrV, tNotV, rIxH, rSetL, tSl, tPart, tNoPart, rSlH, rCat, rRep, rSumN, tBM, rAppend, rExtend, tCallV, tDinK, tDgetK, tlc_list, tYes, scal, exists_eq_left', exists_eq_left, exists_and_left, Option.some.injEq, L3.vi, L3.vr, L3.vb, List.map_cons, List.map_nil, List.length_cons, List.length_nil, Nat.reduceAdd, Nat.reduceSub, Nat.zero_add, Nat.sub_self, List.replicate, List.cons_append, List.nil_append, List.append_nil, L3.gz, L3.gs, L3.z0, L3.z1, and_true, true_and, Bool.not_eq_true, HO.ins.injEq, L3.hl, and_assoc, decide_eq_true_eq, Bool.false_eq_true, if_false, if_true, List.cons.injEq, cxK, Nat.reduceLT, Nat.reduceLeDiff, upd_same, upd_upd, tfor_range1, tfor_list, Int.toNat_natCast, vN_inj, vN_length, vN_set, Int.neg_neg, rf_all, df_all, hdev, dI, T.nos_Device]
  refine ⟨by decide, ?_⟩
  intro l4 f_l4
  generalize hG_l4 : upd H3 l4 _ = H4
  obtain ⟨e_l4, S_l4⟩ := new_facts hG_l4 f_l4
  clear hG_l4
  have e_l3 := S_l4 _ _ e_l3
  simp only [tSeq, tIfS, tTest, tOp, rI0, rI, rEq, rNe, tVar, tC, tRet, tRetN, tNext, tUn, rU, L2.start, tFld, sFld, sFldAug, rAdd, rSub, tDrop, tAsg, gName, tAug, tAugS, ipI, tCons, tNil, tLst, tCall, tMeth, tMake, tCB, tNot, tAnd, tOr, tB, tAndV, tOrV, tNotV, rIxH, rSetL, tSl, tPart, tNoPart, rSlH, rCat, rRep, rSumN, tBM, rAppend, rExtend, tCallV, tDinK, tDgetK, tlc_list, tYes, scal, exists_eq_left', exists_eq_left, exists_and_left, Option.some.injEq, L3.vi, L3.vr, L3.vb, List.map_cons, List.map_nil, List.length_cons, List.length_nil, Nat.reduceAdd, Nat.reduceSub, Nat.zero_add, Nat.sub_self, List.replicate, List.cons_append, List.nil_append, List.append_nil, L3.gz, L3.gs, L3.z0, L3.z1, and_true, true_and, Bool.not_eq_true, HO.ins.injEq, L3.hl, and_assoc, decide_eq_true_eq, Bool.false_eq_true, if_false, if_true, List.cons.injEq, cxK, Nat.reduceLT, Nat.reduceLeDiff, upd_same, upd_upd, tfor_range1, tfor_list, Int.toNat_natCast, vN_inj, vN_length, vN_set, Int.neg_neg, e_l3, e_l4]
  refine ⟨by decide, ?_⟩
  intro l5 f_l5
  generalize hG_l5 : upd H4 l5 _ = H5
  obtain ⟨e_l5, S_l5⟩ := new_facts hG_l5 f_l5
  clear hG_l5
  have S := ((S_l1.trans S_l2).trans S_l3).trans S_l4
  exact k.tell DS rfl (S.trans S_l5) e_l5 (S.free f_l5)
end
end Bb

set_option Elab.async false
set_option linter.all false
set_option maxRecDepth 100000
namespace Bb
open PySem PySem.Spec PyProof.Rows L2 L3
theorem take_map_snoc {α : Type} {l : List α} {i : Nat} {x : α} (g : α → Nat) (h : l[i]? = some x) : (l.take i).map g ++ [g x] = (l.take (i + 1)).map g := by
  rw [take_snoc h, List.map_append]
  rfl
theorem take_flat_snoc {l : List Vbdlan.Solute} {i : Nat} {x : Vbdlan.Solute} (h : l[i]? = some x) : (l.take i).flatMap (fun x => [x.m1, x.m2]) ++ [x.m1, x.m2] = (l.take (i + 1)).flatMap (fun x => [x.m1, x.m2]) := by
  rw [take_snoc h, List.flatMap_append]
  simp
def paInv (H : Hp) (d gv q : Addr) (xs : List Vbdlan.Solute) (i : Nat) (σ : L2.St) (H' : Hp) : Prop := ∃ v3, σ = [some (.ref d), some (.ref gv), some (.ref q), v3] ∧ H' q = some (.lst (vN ((xs.take i).flatMap fun x => [x.m1, x.m2]))) ∧ Same H H'
def blInv (H : Hp) (q : Addr) (l : List Nat) (i : Nat) (H' : Hp) : Prop := H' q = some (.lst (vN (l.take i))) ∧ Same H H'
section
variable {P : Program} {w : World} {K : PySem.W.Frag} {mg : Str → Option Value} {base : Heap} {a : Adr}
theorem ok_tell_patient (T : Txt K mg a) : FnOk P w K mg base CX0 8 a.f_tell_patient a.d_tell_patient ["device", "given"] (sp_call a 11) := by
  refine T.F_tell_patient.ok sc_tell_patient (fun vs H Q E h => sp_call_len h) (fun cdv A outer s H vs Q E hr0 h => ?_)
  have hr := hr0
  obtain ⟨D, gv, st, args, c, ⟨rfl, hg, hoff, DS, SO⟩, hd, hrg, hl, hm, k⟩ := h
  cases hd with | patient =>
  replace hl := hl rfl
  have DA := DS.da
  have hdev := DS.dev
  have few := SO.few
  have he : Vbdlan.step st .patient = (st, Vbdlan.nats (st.solutes.flatMap fun x => [x.m1, x.m2])) := by
    simp only [Vbdlan.step, hrg, hl, Bool.true_eq_false, false_and, if_false]
  rw [he] at k
  refine ⟨_, (pss_cons (ps_set (i := 2) sc_tell_patient.nd rfl (Or.inl rfl) (pe_lst pa_nil)) (pss_cons (ps_for PassesOwn.never rfl (pi_list (pe_fld (pv 0) rfl)) (pg_name (i := 3) sc_tell_patient.nd rfl (Or.inl rfl)) (pss_cons (ps_expr (pe_bm PySem.F.plainAttrs_list PySem.F.slot_list_append PySem.F.type_list_append mt_append (pv 2) (pa_cons (pe_fld (pv 3) rfl) pa_nil))) (pss_one (ps_expr (pe_bm PySem.F.plainAttrs_list PySem.F.slot_list_append PySem.F.type_list_append mt_append (pv 2) (pa_cons (pe_fld (pv 3) rfl) pa_nil)))))) (pss_one (ps_ret (pv 2))))), ?_⟩
  refine hide1 fun U hU => ?_
  simp only [tSeq, tIfS, tTest, tOp, rI0, rI, rEq, rNe, tVar, tC, tRet, tRetN, tNext, tUn, rU, L2.start, tFld, sFld, sFldAug, rAdd, rSub, tDrop, tAsg, gName, tAug, tAugS, ipI, tCons, tNil, tLst, tCall, tMeth, tMake, tCB, tNot, tAnd, tOr, tB, tAndV, tOrV, tNotV, rIxH, rSetL, tSl, tPart, tNoPart, rSlH, rCat, rRep, rSumN, tBM, rAppend, rExtend, tCallV, tDinK, tDgetK, tlc_list, tYes, scal, exists_eq_left', exists_eq_left, exists_and_left, Option.some.injEq, L3.vi, L3.vr, L3.vb, List.map_cons, List.map_nil, List.length_cons, List.length_nil, Nat.reduceAdd, Nat.reduceSub, Nat.zero_add, Nat.sub_self, List.replicate, List.cons_append, List.nil_append, List.append_nil, L3.gz, L3.gs, L3.z0, L3.z1, and_true, true_and, Bool.not_eq_true, HO.ins.injEq, L3.hl, and_assoc, decide_eq_true_eq, Bool.false_eq_true, if_false, if_true, List.cons.injEq, cxK, Nat.reduceLT, Nat.reduceLeDiff, upd_same, upd_upd, tfor_range1, tfor_list, Int.toNat_natCast, vN_inj, vN_length, vN_set, Int.neg_neg]
  refine ⟨by decide, ?_⟩
  intro q f_q
  generalize hG_q : upd H q _ = H1
  obtain ⟨e_q, S_q⟩ := new_facts hG_q f_q
  clear hG_q
  have hdev1 := S_q _ _ hdev
  have hls := S_q _ _ DA.lst
  subst hU
  refine hide1 fun U hU => ?_
  simp only [tSeq, tIfS, tTest, tOp, rI0, rI, rEq, rNe, tVar, tC, tRet, tRetN, tNext, tUn, rU, L2.start, tFld, sFld, sFldAug, rAdd, rSub, tDrop, tAsg, gName, tAug, tAugS, ipI, tCons, tNil, tLst, tCall, tMeth, tMake, tCB, tNot, tAnd, tOr, tB, tAndV, tOrV, tNotV, rIxH, rSetL, tSl, tPart, tNoPart, rSlH, rCat, rRep, rSumN, tBM, rAppend, rExtend, tCallV, tDinK, tDgetK, tlc_list, tYes, scal, exists_eq_left', exists_eq_left, exists_and_left, Option.some.injEq, L3.vi, L3.vr, L3.vb, List.map_cons, List.map_nil, List.length_cons, List.length_nil, Nat.reduceAdd, Nat.reduceSub, Nat.zero_add, Nat.sub_self, List.replicate, List.cons_append, List.nil_append, List.append_nil, L3.gz, L3.gs, L3.z0, L3.z1, and_true, true_and, Bool.not_eq_true, HO.ins.injEq, L3.hl, and_assoc, decide_eq_true_eq, Bool.false_eq_true, if_false, if_true, List.cons.injEq, cxK, Nat.reduceLT, Nat.reduceLeDiff, upd_same, upd_upd, tfor_range1, tfor_list, Int.toNat_natCast, vN_inj, vN_length, vN_set, Int.neg_neg, df_all, hdev1, dI, T.nos_Device, sqL_ex hls]
  refine loop_list (xs := refs D.ps) (paInv H D.d gv q st.solutes) ⟨_, rfl, e_q, S_q⟩ (fun i σ H' _ h => ?_) ?_ ?_
  · obtain ⟨_, _, _, S'⟩ := h
    exact SqL.of (S' _ _ DA.lst)
  · rintro i y σ H' hi ⟨v3, rfl, hq, S'⟩
    obtain ⟨t, ht, rfl⟩ := refs_get hi
    obtain ⟨x, hx, hs⟩ := DA.solx ht
    obtain ⟨dx, ep⟩ := hs.obj
    have ep := S' _ _ ep
    have npq : t.1 ≠ q := ne_of ep hq (by intro z; cases z)
    have hlen : ((st.solutes.take i).flatMap fun x => [x.m1, x.m2]).length ≤ 8 := by
      rw [flat2_len, List.length_take]; omega
    have hz : ((st.solutes.take i).flatMap fun x => [x.m1, x.m2]).length < sizeLine := small1000 (by omega)
    have hz2 : ((st.solutes.take i).flatMap fun x => [x.m1, x.m2]).length + 1 < sizeLine := small1000 (by omega)
    simp only [tSeq, tIfS, tTest, tOp, rI0, rI, rEq, rNe, tVar, tC, tRet, tRetN, tNext, tUn, rU, L2.start, tFld, sFld, sFldAug, rAdd, rSub, tDrop, tAsg, gName, tAug, tAugS, ipI, tCons, tNil, tLst, tCall, tMeth, tMake, tCB, tNot, tAnd, tOr, tB, tAndV, tOrV, tNotV, rIxH, rSetL, tSl, tPart, tNoPart, rSlH, rCat, rRep, rSumN, tBM, rAppend, rExtend, tCallV, tDinK, tDgetK, tlc_list, tYes, scal, exists_eq_left', exists_eq_left, exists_and_left, Option.some.injEq, L3.vi, L3.vr, L3.vb, List.map_cons, List.map_nil, List.length_cons, List.length_nil, Nat.reduceAdd, Nat.reduceSub, Nat.zero_add, Nat.sub_self, List.replicate, List.cons_append, List.nil_append, List.append_nil, L3.gz, L3.gs, L3.z0, L3.z1, and_true, true_and, Bool.not_eq_true, HO.ins.injEq, L3.hl, and_assoc, decide_eq_true_eq, Bool.false_eq_true, if_false, if_true, List.cons.injEq, cxK, Nat.reduceLT, Nat.reduceLeDiff, upd_same, upd_upd, tfor_range1, tfor_list, Int.toNat_natCast, vN_inj, vN_length, vN_set, Int.neg_neg, sf_all, hq, ep, upd_ne npq, sI, T.nos_Solute, tyL hq, tyL (upd_same (H := H') (a := q)), List.length_append, hz, hz2]
    refine ⟨_, rfl, ?_, fun b o e => ?_⟩
    · rw [upd_same, ← take_flat_snoc hx, ← vN_cat]
      simp only [List.append_assoc]
      rfl
    · have nb : b ≠ q := ne_of_none e f_q
      rw [upd_ne nb]
      exact S' _ _ e
  · rintro σ H' ⟨v3, rfl, hq, S'⟩
    subst hU
    simp only [tSeq, tIfS, tTest, tOp, rI0, rI, rEq, rNe, tVar, tC, tRet, tRetN, tNext, tUn, rU, L2.start, tFld, sFld, sFldAug, rAdd, rSub, tDrop, tAsg, gName, tAug, tAugS, ipI, tCons, tNil, tLst, tCall, tMeth, tMake, tCB, tNot, tAnd, tOr, tB, tAndV, tOrV, tNotV, rIxH, rSetL, tSl, tPart, tNoPart, rSlH, rCat, rRep, rSumN, tBM, rAppend, rExtend, tCallV, tDinK, tDgetK, tlc_list, tYes, scal, exists_eq_left', exists_eq_left, exists_and_left, Option.some.injEq, L3.vi, L3.vr, L3.vb, List.map_cons, List.map_nil, List.length_cons, List.length_nil, Nat.reduceAdd, Nat.reduceSub, Nat.zero_add, Nat.sub_self, List.replicate, List.cons_append, List.nil_append, List.append_nil, L3.gz, L3.gs, L3.z0, L3.z1, and_true, true_and, Bool.not_eq_true, HO.ins.injEq, L3.hl, and_assoc, decide_eq_true_eq, Bool.false_eq_true, if_false, if_true, List.cons.injEq, cxK, Nat.reduceLT, Nat.reduceLeDiff, upd_same, upd_upd, tfor_range1, tfor_list, Int.toNat_natCast, vN_inj, vN_length, vN_set, Int.neg_neg]
    refine k.tell DS rfl S' ?_ f_q
    have e : (refs D.ps).length = st.solutes.length := by rw [refs_len, DA.len]
    rw [hq, e, List.take_length, vN_nats]
theorem ok_tell_blood (T : Txt K mg a) : FnOk P w K mg base CX0 8 a.f_tell_blood a.d_tell_blood ["device", "given"] (sp_call a 9) := by
  refine T.F_tell_blood.ok sc_tell_blood (fun vs H Q E h => sp_call_len h) (fun cdv A outer s H vs Q E hr0 h => ?_)
  have hr := hr0
  obtain ⟨D, gv, st, args, c, ⟨rfl, hg, hoff, DS, SO⟩, hd, hrg, hl, hm, k⟩ := h
  cases hd with | blood n =>
  replace hl := hl rfl
  have hr' := hrg
  simp only [Vbdlan.ranges, within_iff] at hr'
  obtain ⟨n, rfl⟩ := nat_of (j := n) (by omega)
  have DA := DS.da
  have hdev := DS.dev
  rw [pf_laid hl] at DA hdev
  have few := SO.few
  have he : Vbdlan.step st (.blood n) = (st, if st.form.n ≤ n then [-3] else Vbdlan.nats (st.solutes.map fun x => x.blood.getD n 0)) := by
    simp only [Vbdlan.step, hrg, hl, Int.toNat_natCast, Bool.true_eq_false, false_and, if_false]
    split <;> rfl
  rw [he] at k
  refine ⟨_, (pss_cons (ps_if (pt_cmpR op_ge (pe_ix ix_lst (pv 1) pe_int (fun _ _ => rfl)) (pe_fld (pv 0) rfl) (nomark _)) (pss_one (ps_ret (pe_lst (pa_cons (pe_gint T.g_NOT_THERE) pa_nil)))) pss_nil) (pss_one (ps_ret (pe_lc rfl sc_tell_blood.nd (pi_list (pe_fld (pv 0) rfl)) (blkOk_by (own := [("solute", 2)]) (by show blkC ["device", "given", "solute"] (defScope s_tell_blood) _ _ = true; decide +kernel)) (fun _ _ _ _ _ => pg_name (i := 2) sc_tell_blood.nd rfl (Or.inl rfl)) (fun _ _ _ _ _ => pts_nil) (fun _ _ _ _ _ => (pe_ix ix_lst (pe_fldK (K := K) (pv 2) rfl rfl) (pe_ix ix_lst (pv 1) pe_int (fun _ _ => rfl)) (fun _ _ => rfl))))))), ?_⟩
  refine hide1 fun U hU => ?_
  simp only [tSeq, tIfS, tTest, tOp, rI0, rI, rEq, rNe, tVar, tC, tRet, tRetN, tNext, tUn, rU, L2.start, tFld, sFld, sFldAug, rAdd, rSub, tDrop, tAsg, gName, tAug, tAugS, ipI, tCons, tNil, tLst, tCall, tMeth, tMake, tCB, tNot, tAnd, tOr, tB, tAndV, tOrV, tNotV, rIxH, rSetL, tSl, tPart, tNoPart, rSlH, rCat, rRep, rSumN, tBM, rAppend, rExtend, tCallV, tDinK, tDgetK, tlc_list, tYes, scal, exists_eq_left', exists_eq_left, exists_and_left, Option.some.injEq, L3.vi, L3.vr, L3.vb, List.map_cons, List.map_nil, List.length_cons, List.length_nil, Nat.reduceAdd, Nat.reduceSub, Nat.zero_add, Nat.sub_self, List.replicate, List.cons_append, List.nil_append, List.append_nil, L3.gz, L3.gs, L3.z0, L3.z1, and_true, true_and, Bool.not_eq_true, HO.ins.injEq, L3.hl, and_assoc, decide_eq_true_eq, Bool.false_eq_true, if_false, if_true, List.cons.injEq, cxK, Nat.reduceLT, Nat.reduceLeDiff, upd_same, upd_upd, tfor_range1, tfor_list, Int.toNat_natCast, vN_inj, vN_length, vN_set, Int.neg_neg, df_all, hg, hdev, dI, at0, T.nos_Device]
  refine ite2 (fun h0 => ?_) fun h0 => ?_
  · rw [if_pos (by omega)] at k
    refine ⟨by decide, ?_⟩
    intro l f_l
    generalize hG_l : upd H l _ = H1
    obtain ⟨e_l, S_l⟩ := new_facts hG_l f_l
    clear hG_l
    exact k.tell DS rfl S_l e_l f_l
  · have hn : ¬ st.form.n ≤ n := by omega
    rw [if_neg hn] at k
    subst hU
    simp only [tSeq, tIfS, tTest, tOp, rI0, rI, rEq, rNe, tVar, tC, tRet, tRetN, tNext, tUn, rU, L2.start, tFld, sFld, sFldAug, rAdd, rSub, tDrop, tAsg, gName, tAug, tAugS, ipI, tCons, tNil, tLst, tCall, tMeth, tMake, tCB, tNot, tAnd, tOr, tB, tAndV, tOrV, tNotV, rIxH, rSetL, tSl, tPart, tNoPart, rSlH, rCat, rRep, rSumN, tBM, rAppend, rExtend, tCallV, tDinK, tDgetK, tlc_list, tYes, scal, exists_eq_left', exists_eq_left, exists_and_left, Option.some.injEq, L3.vi, L3.vr, L3.vb, List.map_cons, List.map_nil, List.length_cons, List.length_nil, Nat.reduceAdd, Nat.reduceSub, Nat.zero_add, Nat.sub_self, List.replicate, List.cons_append, List.nil_append, List.append_nil, L3.gz, L3.gs, L3.z0, L3.z1, and_true, true_and, Bool.not_eq_true, HO.ins.injEq, L3.hl, and_assoc, decide_eq_true_eq, Bool.false_eq_true, if_false, if_true, List.cons.injEq, cxK, Nat.reduceLT, Nat.reduceLeDiff, upd_same, upd_upd, tfor_range1, tfor_list, Int.toNat_natCast, vN_inj, vN_length, vN_set, Int.neg_neg, df_all, hdev, dI, T.nos_Device, sqL_ex DA.lst]
    intro q f_q
    have S0 : Same H (upd H q (.lst [])) := fun b o e => by rw [upd_ne (ne_of_none e f_q)]; exact e
    refine loop_lc (xs := refs D.ps) (blInv H q (st.solutes.map fun x => x.blood.getD n 0)) ⟨upd_same, S0⟩ (fun i H' _ h => SqL.of (h.2 _ _ DA.lst)) ?_ ?_
    · rintro i y H' hi ⟨hq, S'⟩
      obtain ⟨t, ht, rfl⟩ := refs_get hi
      obtain ⟨x, hx, hs⟩ := DA.solx ht
      obtain ⟨dx, ep⟩ := hs.obj
      have ep := S' _ _ ep
      have hbl := S' _ _ hs.hbl
      have hg' := S' _ _ hg
      have so := SO.so x (List.mem_of_getElem? hx)
      have hb : x.blood[n]? = some (x.blood.getD n 0) := by
        rw [List.getD_eq_getElem?_getD, List.getElem?_eq_getElem (by rw [so.bl]; omega)]
        rfl
      have hz : ((st.solutes.map fun x => x.blood.getD n 0).take i).length < sizeLine := small1000 (by rw [List.length_take, List.length_map]; omega)
      have hy : (st.solutes.map fun x => x.blood.getD n 0)[i]? = some (x.blood.getD n 0) := by rw [List.getElem?_map, hx]; rfl
      simp only [tSeq, tIfS, tTest, tOp, rI0, rI, rEq, rNe, tVar, tC, tRet, tRetN, tNext, tUn, rU, L2.start, tFld, sFld, sFldAug, rAdd, rSub, tDrop, tAsg, gName, tAug, tAugS, ipI, tCons, tNil, tLst, tCall, tMeth, tMake, tCB, tNot, tAnd, tOr, tB, tAndV, tOrV, tNotV, rIxH, rSetL, tSl, tPart, tNoPart, rSlH, rCat, rRep, rSumN, tBM, rAppend, rExtend, tCallV, tDinK, tDgetK, tlc_list, tYes, scal, exists_eq_left', exists_eq_left, exists_and_left, Option.some.injEq, L3.vi, L3.vr, L3.vb, List.map_cons, List.map_nil, List.length_cons, List.length_nil, Nat.reduceAdd, Nat.reduceSub, Nat.zero_add, Nat.sub_self, List.replicate, List.cons_append, List.nil_append, List.append_nil, L3.gz, L3.gs, L3.z0, L3.z1, and_true, true_and, Bool.not_eq_true, HO.ins.injEq, L3.hl, and_assoc, decide_eq_true_eq, Bool.false_eq_true, if_false, if_true, List.cons.injEq, cxK, Nat.reduceLT, Nat.reduceLeDiff, upd_same, upd_upd, tfor_range1, tfor_list, Int.toNat_natCast, vN_inj, vN_length, vN_set, Int.neg_neg, sf_all, wipe, List.foldl_cons, List.foldl_nil, hg', at0, ep, sI, hbl, atI_vN hb, hq, hz, T.nos_Solute]
      refine ⟨?_, fun b o e => ?_⟩
      · rw [upd_same, vN_one, vN_cat, take_snoc hy]
      · rw [upd_ne (ne_of_none e f_q)]
        exact S' _ _ e
    · rintro H' ⟨hq, S'⟩
      refine k.tell DS rfl S' ?_ f_q
      have e : (refs D.ps).length = st.solutes.length := by rw [refs_len, DA.len]
      rw [hq, e, ← List.length_map (f := fun x : Vbdlan.Solute => x.blood.getD n 0), List.take_length, vN_nats]
theorem ok_tell_bath (T : Txt K mg a) : FnOk P w K mg base CX0 8 a.f_tell_bath a.d_tell_bath ["device", "given"] (sp_call a 10) := by
  refine T.F_tell_bath.ok sc_tell_bath (fun vs H Q E h => sp_call_len h) (fun cdv A outer s H vs Q E hr0 h => ?_)
  have hr := hr0
  obtain ⟨D, gv, st, args, c, ⟨rfl, hg, hoff, DS, SO⟩, hd, hrg, hl, hm, k⟩ := h
  cases hd with | bath n =>
  replace hl := hl rfl
  have hr' := hrg
  simp only [Vbdlan.ranges, within_iff] at hr'
  obtain ⟨n, rfl⟩ := nat_of (j := n) (by omega)
  have DA := DS.da
  have hdev := DS.dev
  rw [pf_laid hl] at DA hdev
  have few := SO.few
  have he : Vbdlan.step st (.bath n) = (st, if st.form.n ≤ n then [-3] else Vbdlan.nats (st.solutes.map fun x => x.bath.getD n 0)) := by
    simp only [Vbdlan.step, hrg, hl, Int.toNat_natCast, Bool.true_eq_false, false_and, if_false]
    split <;> rfl
  rw [he] at k
  refine ⟨_, (pss_cons (ps_if (pt_cmpR op_ge (pe_ix ix_lst (pv 1) pe_int (fun _ _ => rfl)) (pe_fld (pv 0) rfl) (nomark _)) (pss_one (ps_ret (pe_lst (pa_cons (pe_gint T.g_NOT_THERE) pa_nil)))) pss_nil) (pss_one (ps_ret (pe_lc rfl sc_tell_bath.nd (pi_list (pe_fld (pv 0) rfl)) (blkOk_by (own := [("solute", 2)]) (by show blkC ["device", "given", "solute"] (defScope s_tell_bath) _ _ = true; decide +kernel)) (fun _ _ _ _ _ => pg_name (i := 2) sc_tell_bath.nd rfl (Or.inl rfl)) (fun _ _ _ _ _ => pts_nil) (fun _ _ _ _ _ => (pe_ix ix_lst (pe_fldK (K := K) (pv 2) rfl rfl) (pe_ix ix_lst (pv 1) pe_int (fun _ _ => rfl)) (fun _ _ => rfl))))))), ?_⟩
  refine hide1 fun U hU => ?_
  simp only [tSeq, tIfS, tTest, tOp, rI0, rI, rEq, rNe, tVar, tC, tRet, tRetN, tNext, tUn, rU, L2.start, tFld, sFld, sFldAug, rAdd, rSub, tDrop, tAsg, gName, tAug, tAugS, ipI, tCons, tNil, tLst, tCall, tMeth, tMake, tCB, tNot, tAnd, tOr, tB, tAndV, tOrV, tNotV, rIxH, rSetL, tSl, tPart, tNoPart, rSlH, rCat, rRep, rSumN, tBM, rAppend, rExtend, tCallV, tDinK, tDgetK, tlc_list, tYes, scal, exists_eq_left', exists_eq_left, exists_and_left, Option.some.injEq, L3.vi, L3.vr, L3.vb, List.map_cons, List.map_nil, List.length_cons, List.length_nil, Nat.reduceAdd, Nat.reduceSub, Nat.zero_add, Nat.sub_self, List.replicate, List.cons_append, List.nil_append, List.append_nil, L3.gz, L3.gs, L3.z0, L3.z1, and_true, true_and, Bool.not_eq_true, HO.ins.injEq, L3.hl, and_assoc, decide_eq_true_eq, Bool.false_eq_true, if_false, if_true, List.cons.injEq, cxK, Nat.reduceLT, Nat.reduceLeDiff, upd_same, upd_upd, tfor_range1, tfor_list, Int.toNat_natCast, vN_inj, vN_length, vN_set, Int.neg_neg, df_all, hg, hdev, dI, at0, T.nos_Device]
  refine ite2 (fun h0 => ?_) fun h0 => ?_
  · rw [if_pos (by omega)] at k
    refine ⟨by decide, ?_⟩
    intro l f_l
    generalize hG_l : upd H l _ = H1
    obtain ⟨e_l, S_l⟩ := new_facts hG_l f_l
    clear hG_l
    exact k.tell DS rfl S_l e_l f_l
  · have hn : ¬ st.form.n ≤ n := by omega
    rw [if_neg hn] at k
    subst hU
    simp only [tSeq, tIfS, tTest, tOp, rI0, rI, rEq, rNe, tVar, tC, tRet, tRetN, tNext, tUn, rU, L2.start, tFld, sFld, sFldAug, rAdd, rSub, tDrop, tAsg, gName, tAug, tAugS, ipI, tCons, tNil, tLst, tCall, tMeth, tMake, tCB, tNot, tAnd, tOr, tB, tAndV, tOrV, tNotV, rIxH, rSetL, tSl, tPart, tNoPart, rSlH, rCat, rRep, rSumN, tBM, rAppend, rExtend, tCallV, tDinK, tDgetK, tlc_list, tYes, scal, exists_eq_left', exists_eq_left, exists_and_left, Option.some.injEq, L3.vi, L3.vr, L3.vb, List.map_cons, List.map_nil, List.length_cons, List.length_nil, Nat.reduceAdd, Nat.reduceSub, Nat.zero_add, Nat.sub_self, List.replicate, List.cons_append, List.nil_append, List.append_nil, L3.gz, L3.gs, L3.z0, L3.z1, and_true, true_and, Bool.not_eq_true, HO.ins.injEq, L3.hl, and_assoc, decide_eq_true_eq, Bool.false_eq_true, if_false, if_true, List.cons.injEq, cxK, Nat.reduceLT, Nat.reduceLeDiff, upd_same, upd_upd, tfor_range1, tfor_list, Int.toNat_natCast, vN_inj, vN_length, vN_set, Int.neg_neg, df_all, hdev, dI, T.nos_Device, sqL_ex DA.lst]
    intro q f_q
    have S0 : Same H (upd H q (.lst [])) := fun b o e => by rw [upd_ne (ne_of_none e f_q)]; exact e
    refine loop_lc (xs := refs D.ps) (blInv H q (st.solutes.map fun x => x.bath.getD n 0)) ⟨upd_same, S0⟩ (fun i H' _ h => SqL.of (h.2 _ _ DA.lst)) ?_ ?_
    · rintro i y H' hi ⟨hq, S'⟩
      obtain ⟨t, ht, rfl⟩ := refs_get hi
      obtain ⟨x, hx, hs⟩ := DA.solx ht
      obtain ⟨dx, ep⟩ := hs.obj
      have ep := S' _ _ ep
      have hba := S' _ _ hs.hba
      have hg' := S' _ _ hg
      have so := SO.so x (List.mem_of_getElem? hx)
      have hb : x.bath[n]? = some (x.bath.getD n 0) := by
        rw [List.getD_eq_getElem?_getD, List.getElem?_eq_getElem (by rw [so.ba]; omega)]
        rfl
      have hz : ((st.solutes.map fun x => x.bath.getD n 0).take i).length < sizeLine := small1000 (by rw [List.length_take, List.length_map]; omega)
      have hy : (st.solutes.map fun x => x.bath.getD n 0)[i]? = some (x.bath.getD n 0) := by rw [List.getElem?_map, hx]; rfl
      simp only [tSeq, tIfS, tTest, tOp, rI0, rI, rEq, rNe, tVar, tC, tRet, tRetN, tNext, tUn, rU, L2.start, tFld, sFld, sFldAug, rAdd, rSub, tDrop, tAsg, gName, tAug, tAugS, ipI, tCons, tNil, tLst, tCall, tMeth, tMake, tCB, tNot, tAnd, tOr, tB, tAndV, tOrV, tNotV, rIxH, rSetL, tSl, tPart, tNoPart, rSlH, rCat, rRep, rSumN, tBM, rAppend, rExtend, tCallV, tDinK, tDgetK, tlc_list, tYes, scal, exists_eq_left', exists_eq_left, exists_and_left, Option.some.injEq, L3.vi, L3.vr, L3.vb, List.map_cons, List.map_nil, List.length_cons, List.length_nil, Nat.reduceAdd, Nat.reduceSub, Nat.zero_add, Nat.sub_self, List.replicate, List.cons_append, List.nil_append, List.append_nil, L3.gz, L3.gs, L3.z0, L3.z1, and_true, true_and, Bool.not_eq_true, HO.ins.injEq, L3.hl, and_assoc, decide_eq_true_eq, Bool.false_eq_true, if_false, if_true, List.cons.injEq, cxK, Nat.reduceLT, Nat.reduceLeDiff, upd_same, upd_upd, tfor_range1, tfor_list, Int.toNat_natCast, vN_inj, vN_length, vN_set, Int.neg_neg, sf_all, wipe, List.foldl_cons, List.foldl_nil, hg', at0, ep, sI, hba, atI_vN hb, hq, hz, T.nos_Solute]
      refine ⟨?_, fun b o e => ?_⟩
      · rw [upd_same, vN_one, vN_cat, take_snoc hy]
      · rw [upd_ne (ne_of_none e f_q)]
        exact S' _ _ e
    · rintro H' ⟨hq, S'⟩
      refine k.tell DS rfl S' ?_ f_q
      have e : (refs D.ps).length = st.solutes.length := by rw [refs_len, DA.len]
      rw [hq, e, ← List.length_map (f := fun x : Vbdlan.Solute => x.bath.getD n 0), List.take_length, vN_nats]
end
end Bb

set_option Elab.async false
set_option linter.all false
set_option maxRecDepth 100000
namespace Bb
open PySem PySem.Spec PyProof.Rows L2 L3
theorem refs_one {ps : List (Addr × Addr × Addr)} {t : Addr × Addr × Addr} (h : refs ps = refs [t]) : ∃ b1 b2, ps = [(t.1, b1, b2)] := by
  match ps, h with
  | [], h => cases h
  | [u], h =>
    have e : u.1 = t.1 := by
      have := List.head_eq_of_cons_eq h
      injection this
    exact ⟨u.2.1, u.2.2, by rw [← e]⟩
  | _ :: _ :: _, h =>
    have := congrArg List.length h
    rw [refs_len, refs_len] at this
    simp at this
section
variable {P : Program} {w : World} {K : PySem.W.Frag} {mg : Str → Option Value} {base : Heap} {a : Adr}
theorem ok_tell_would (T : Txt K mg a) : FnOk P w K mg base CX0 8 a.f_tell_would a.d_tell_would ["device", "given"] (sp_call a 18) := by
  refine T.F_tell_would.ok sc_tell_would (fun vs H Q E h => sp_call_len h) (fun cdv A outer s H vs Q E hr0 h => ?_)
  have hr := hr0
  obtain ⟨D, gv, st, args, c, ⟨rfl, hg, hoff, DS, SO⟩, hd, hrg, hl, hm, k⟩ := h
  cases hd with | would n j =>
  replace hl := hl rfl
  have hr' := hrg
  simp only [Vbdlan.ranges, Bool.and_eq_true, within_iff, Vbdlan.TICKS] at hr'
  obtain ⟨J, x, rfl, hx⟩ := there hm rfl (by omega)
  obtain ⟨n, rfl⟩ := nat_of (j := n) (by omega)
  have DA := DS.da
  have hdev := DS.dev
  rw [pf_laid hl] at DA hdev
  obtain ⟨t, ht, hs⟩ := DA.solt hx
  obtain ⟨dx, ep⟩ := hs.obj
  obtain ⟨r1, e1⟩ := DA.hrb
  obtain ⟨r2, e2⟩ := DA.hrd
  obtain ⟨y, hy, hy1⟩ := runTicks_one (n := n) hx
  have he : Vbdlan.step st (.would n J) = (st, Vbdlan.soluteTotals y) := by
    simp only [Vbdlan.step, hrg, hl, Vbdlan.onSolute, Int.toNat_natCast, hx, hy, Bool.true_eq_false, false_and, if_false]
  rw [he] at k
  refine ⟨_, (pss_cons (ps_set (i := 2) sc_tell_would.nd rfl (Or.inl rfl) (pe_meth0 (pe_ix ix_lst (pe_fld (pv 0) rfl) (pe_ix ix_lst (pv 1) pe_int (fun _ _ => rfl)) (fun _ _ => rfl)) T.cl_Solute T.m_Solute_twin (ok_Solute_twin T) (hr.mono (by decide)) T.bi_Solute_twin .nil pass0)) (pss_cons (ps_expr (pe_call (ok_pass_ticks T) (hr.mono (by decide)) rfl T.g_pass_ticks T.F_pass_ticks.kp T.bi_pass_ticks .nil pass0 (pa_cons (pv 0) (pa_cons (pe_lst (pa_cons (pv 2) pa_nil)) (pa_cons (pe_meth0 (pe_fld (pv 0) rfl) T.cl_Rate T.m_Rate_twin (ok_Rate_twin T) (hr.mono (by decide)) T.bi_Rate_twin .nil pass0) (pa_cons (pe_meth0 (pe_fld (pv 0) rfl) T.cl_Rate T.m_Rate_twin (ok_Rate_twin T) (hr.mono (by decide)) T.bi_Rate_twin .nil pass0) (pa_cons (pe_ix ix_lst (pv 1) pe_int (fun _ _ => rfl)) pa_nil))))))) (pss_one (ps_ret (pe_meth0 (pv 2) T.cl_Solute T.m_Solute_totals (ok_Solute_totals T) (hr.mono (by decide)) T.bi_Solute_totals .nil pass0))))), ?_⟩
  refine hide1 fun U hU => ?_
  simp only [tSeq, tIfS, tTest, tOp, rI0, rI, rEq, rNe, tVar, tC, tRet, tRetN, tNext, tUn, rU, L2.start, tFld, sFld, sFldAug, rAdd, rSub, tDrop, tAsg, gName, tAug, tAugS, ipI, tCons, tNil, tLst, tCall, tMeth, tMake, tCB, tNot, tAnd, tOr, tB, tAndV, tOrV, tNotV, rIxH, rSetL, tSl, tPart, tNoPart, rSlH, rCat, rRep, rSumN, tBM, rAppend, rExtend, tCallV, tDinK, tDgetK, tlc_list, tYes, scal, exists_eq_left', exists_eq_left, exists_and_left, Option.some.injEq, L3.vi, L3.vr, L3.vb, List.map_cons, List.map_nil, List.length_cons, List.length_nil, Nat.reduceAdd, Nat.reduceSub, Nat.zero_add, Nat.sub_self, List.replicate, List.cons_append, List.nil_append, List.append_nil, L3.gz, L3.gs, L3.z0, L3.z1, and_true, true_and, Bool.not_eq_true, HO.ins.injEq, L3.hl, and_assoc, decide_eq_true_eq, Bool.false_eq_true, if_false, if_true, List.cons.injEq, cxK, Nat.reduceLT, Nat.reduceLeDiff, upd_same, upd_upd, tfor_range1, tfor_list, Int.toNat_natCast, vN_inj, vN_length, vN_set, Int.neg_neg, sf_all, df_all, hg, hdev, dI, DA.lst, at1, atR ht, ep, T.nos_Device]
  refine ⟨t.1, t.2.1, t.2.2, x, rfl, hs, fun H1 q bl ba hq f1 f2 f3 S1 => ?_⟩
  simp only [tSeq, tIfS, tTest, tOp, rI0, rI, rEq, rNe, tVar, tC, tRet, tRetN, tNext, tUn, rU, L2.start, tFld, sFld, sFldAug, rAdd, rSub, tDrop, tAsg, gName, tAug, tAugS, ipI, tCons, tNil, tLst, tCall, tMeth, tMake, tCB, tNot, tAnd, tOr, tB, tAndV, tOrV, tNotV, rIxH, rSetL, tSl, tPart, tNoPart, rSlH, rCat, rRep, rSumN, tBM, rAppend, rExtend, tCallV, tDinK, tDgetK, tlc_list, tYes, scal, exists_eq_left', exists_eq_left, exists_and_left, Option.some.injEq, L3.vi, L3.vr, L3.vb, List.map_cons, List.map_nil, List.length_cons, List.length_nil, Nat.reduceAdd, Nat.reduceSub, Nat.zero_add, Nat.sub_self, List.replicate, List.cons_append, List.nil_append, List.append_nil, L3.gz, L3.gs, L3.z0, L3.z1, and_true, true_and, Bool.not_eq_true, HO.ins.injEq, L3.hl, and_assoc, decide_eq_true_eq, Bool.false_eq_true, if_false, if_true, List.cons.injEq, cxK, Nat.reduceLT, Nat.reduceLeDiff, upd_same, upd_upd, tfor_range1, tfor_list, Int.toNat_natCast, vN_inj, vN_length, vN_set, Int.neg_neg]
  have hdev1 := S1 _ _ hdev
  have hg1 := S1 _ _ hg
  have e1 := S1 _ _ e1
  have e2 := S1 _ _ e2
  obtain ⟨dq, eq⟩ := hq.obj
  subst hU
  refine hide1 fun U hU => ?_
  simp only [tSeq, tIfS, tTest, tOp, rI0, rI, rEq, rNe, tVar, tC, tRet, tRetN, tNext, tUn, rU, L2.start, tFld, sFld, sFldAug, rAdd, rSub, tDrop, tAsg, gName, tAug, tAugS, ipI, tCons, tNil, tLst, tCall, tMeth, tMake, tCB, tNot, tAnd, tOr, tB, tAndV, tOrV, tNotV, rIxH, rSetL, tSl, tPart, tNoPart, rSlH, rCat, rRep, rSumN, tBM, rAppend, rExtend, tCallV, tDinK, tDgetK, tlc_list, tYes, scal, exists_eq_left', exists_eq_left, exists_and_left, Option.some.injEq, L3.vi, L3.vr, L3.vb, List.map_cons, List.map_nil, List.length_cons, List.length_nil, Nat.reduceAdd, Nat.reduceSub, Nat.zero_add, Nat.sub_self, List.replicate, List.cons_append, List.nil_append, List.append_nil, L3.gz, L3.gs, L3.z0, L3.z1, and_true, true_and, Bool.not_eq_true, HO.ins.injEq, L3.hl, and_assoc, decide_eq_true_eq, Bool.false_eq_true, if_false, if_true, List.cons.injEq, cxK, Nat.reduceLT, Nat.reduceLeDiff, upd_same, upd_upd, tfor_range1, tfor_list, Int.toNat_natCast, vN_inj, vN_length, vN_set, Int.neg_neg]
  refine ⟨by decide, ?_⟩
  intro l f_l
  generalize hG_l : upd H1 l _ = H2
  obtain ⟨e_l, S_l⟩ := new_facts hG_l f_l
  clear hG_l
  have f4 := S1.free f_l
  have hdev1 := S_l _ _ hdev1
  have hg1 := S_l _ _ hg1
  have e1 := S_l _ _ e1
  have e2 := S_l _ _ e2
  have hq1 := hq.keep fun b o e _ => S_l b o e
  have S2 := S1.trans S_l
  have nl : l ∉ fp3 (q, bl, ba) := fun z => by
    obtain ⟨o, eo⟩ := hq.has l z
    rw [eo] at f_l
    cases f_l
  simp only [tSeq, tIfS, tTest, tOp, rI0, rI, rEq, rNe, tVar, tC, tRet, tRetN, tNext, tUn, rU, L2.start, tFld, sFld, sFldAug, rAdd, rSub, tDrop, tAsg, gName, tAug, tAugS, ipI, tCons, tNil, tLst, tCall, tMeth, tMake, tCB, tNot, tAnd, tOr, tB, tAndV, tOrV, tNotV, rIxH, rSetL, tSl, tPart, tNoPart, rSlH, rCat, rRep, rSumN, tBM, rAppend, rExtend, tCallV, tDinK, tDgetK, tlc_list, tYes, scal, exists_eq_left', exists_eq_left, exists_and_left, Option.some.injEq, L3.vi, L3.vr, L3.vb, List.map_cons, List.map_nil, List.length_cons, List.length_nil, Nat.reduceAdd, Nat.reduceSub, Nat.zero_add, Nat.sub_self, List.replicate, List.cons_append, List.nil_append, List.append_nil, L3.gz, L3.gs, L3.z0, L3.z1, and_true, true_and, Bool.not_eq_true, HO.ins.injEq, L3.hl, and_assoc, decide_eq_true_eq, Bool.false_eq_true, if_false, if_true, List.cons.injEq, cxK, Nat.reduceLT, Nat.reduceLeDiff, upd_same, upd_upd, tfor_range1, tfor_list, Int.toNat_natCast, vN_inj, vN_length, vN_set, Int.neg_neg, rf_all, df_all, hdev1, dI, e1, T.nos_Device]
  refine ⟨D.rb, r1, _, rfl, e1, fun H3 q1 d1 g1 f5 S3 => ?_⟩
  have hdev1 := S3 _ _ hdev1
  have hg1 := S3 _ _ hg1
  have e2 := S3 _ _ e2
  have e_l := S3 _ _ e_l
  have hq1 := hq1.keep fun b o e _ => S3 b o e
  have f6 := S2.free f5
  have S4 := S2.trans S3
  simp only [tSeq, tIfS, tTest, tOp, rI0, rI, rEq, rNe, tVar, tC, tRet, tRetN, tNext, tUn, rU, L2.start, tFld, sFld, sFldAug, rAdd, rSub, tDrop, tAsg, gName, tAug, tAugS, ipI, tCons, tNil, tLst, tCall, tMeth, tMake, tCB, tNot, tAnd, tOr, tB, tAndV, tOrV, tNotV, rIxH, rSetL, tSl, tPart, tNoPart, rSlH, rCat, rRep, rSumN, tBM, rAppend, rExtend, tCallV, tDinK, tDgetK, tlc_list, tYes, scal, exists_eq_left', exists_eq_left, exists_and_left, Option.some.injEq, L3.vi, L3.vr, L3.vb, List.map_cons, List.map_nil, List.length_cons, List.length_nil, Nat.reduceAdd, Nat.reduceSub, Nat.zero_add, Nat.sub_self, List.replicate, List.cons_append, List.nil_append, List.append_nil, L3.gz, L3.gs, L3.z0, L3.z1, and_true, true_and, Bool.not_eq_true, HO.ins.injEq, L3.hl, and_assoc, decide_eq_true_eq, Bool.false_eq_true, if_false, if_true, List.cons.injEq, cxK, Nat.reduceLT, Nat.reduceLeDiff, upd_same, upd_upd, tfor_range1, tfor_list, Int.toNat_natCast, vN_inj, vN_length, vN_set, Int.neg_neg, rf_all, df_all, hdev1, dI, e2, T.nos_Device]
  refine ⟨D.rd, r2, _, rfl, e2, fun H5 q2 d2 g2 f7 S5 => ?_⟩
  have nq : q1 ≠ q2 := ne_of_none g1 f7
  have hdev1 := S5 _ _ hdev1
  have hg1 := S5 _ _ hg1
  have e_l := S5 _ _ e_l
  have g1 := S5 _ _ g1
  have hq1 := hq1.keep fun b o e _ => S5 b o e
  have f8 := S4.free f7
  have S6 := S4.trans S5
  simp only [tSeq, tIfS, tTest, tOp, rI0, rI, rEq, rNe, tVar, tC, tRet, tRetN, tNext, tUn, rU, L2.start, tFld, sFld, sFldAug, rAdd, rSub, tDrop, tAsg, gName, tAug, tAugS, ipI, tCons, tNil, tLst, tCall, tMeth, tMake, tCB, tNot, tAnd, tOr, tB, tAndV, tOrV, tNotV, rIxH, rSetL, tSl, tPart, tNoPart, rSlH, rCat, rRep, rSumN, tBM, rAppend, rExtend, tCallV, tDinK, tDgetK, tlc_list, tYes, scal, exists_eq_left', exists_eq_left, exists_and_left, Option.some.injEq, L3.vi, L3.vr, L3.vb, List.map_cons, List.map_nil, List.length_cons, List.length_nil, Nat.reduceAdd, Nat.reduceSub, Nat.zero_add, Nat.sub_self, List.replicate, List.cons_append, List.nil_append, List.append_nil, L3.gz, L3.gs, L3.z0, L3.z1, and_true, true_and, Bool.not_eq_true, HO.ins.injEq, L3.hl, and_assoc, decide_eq_true_eq, Bool.false_eq_true, if_false, if_true, List.cons.injEq, cxK, Nat.reduceLT, Nat.reduceLeDiff, upd_same, upd_upd, tfor_range1, tfor_list, Int.toNat_natCast, vN_inj, vN_length, vN_set, Int.neg_neg, hg1, at0]
  have DW : DevAt a H5 ⟨D.d, D.dd, D.l, D.rb, D.rd, l, q1, q2, [(q, bl, ba)]⟩ st.form st.laid st.ticks st.accB st.accD [x] := by
    refine ⟨hdev1, ⟨d1, g1⟩, ⟨d2, g2⟩, nq, e_l, rfl, fun j u z hu hz => ?_, fun i j u v hne hu hv => ?_, fun u hu => ?_⟩
    · match j, hu, hz with
      | 0, hu, hz => cases hu; cases hz; exact hq1
      | j + 1, hu, _ => simp at hu
    · match i, j, hu, hv with
      | 0, 0, _, _ => exact absurd rfl hne
      | 0, j + 1, _, hv => simp at hv
      | i + 1, _, hu, _ => simp at hu
    · rcases List.mem_singleton.mp hu with rfl
      exact nl
  refine ⟨⟨D.d, D.dd, D.l, D.rb, D.rd, l, q1, q2, [(q, bl, ba)]⟩, { st with solutes := [x] }, st.laid, st.ticks, n, rfl, DW, SO.fo hl, ?_, by omega, fun H6 ps' hrf DN MN => ?_⟩
  · intro z hz
    rcases List.mem_singleton.mp hz with rfl
    exact SO.so z (List.mem_of_getElem? hx)
  · obtain ⟨b1, b2, rfl⟩ := refs_one hrf
    have e0 : H6 D.d = _ := DN.dev
    have hsy : SolAt a H6 q y b1 b2 := by
      have z := DN.sol 0 (q, b1, b2) y rfl (by rw [hy1]; rfl)
      exact z
    have S7 : Same H H6 := fun b o e => by
      by_cases hb : b = D.d
      · subst hb
        rw [hdev] at e
        cases e
        exact e0
      · refine MN.kp b o (S6 b o e) fun z => ?_
        rcases mem_fp.mp z with z | z | z | z | ⟨u, hu, z⟩
        · exact hb z
        · rw [show b = l from z, f4] at e; cases e
        · rw [show b = q1 from z, f6] at e; cases e
        · rw [show b = q2 from z, f8] at e; cases e
        · rcases List.mem_singleton.mp hu with rfl
          simp [fp3] at z
          rcases z with z | z | z
          · rw [z, f1] at e; cases e
          · rw [z, f2] at e; cases e
          · rw [z, f3] at e; cases e
    obtain ⟨dy, ey⟩ := hsy.obj
    subst hU
    simp only [tSeq, tIfS, tTest, tOp, rI0, rI, rEq, rNe, tVar, tC, tRet, tRetN, tNext, tUn, rU, L2.start, tFld, sFld, sFldAug, rAdd, rSub, tDrop, tAsg, gName, tAug, tAugS, ipI, tCons, tNil, tLst, tCall, tMeth, tMake, tCB, tNot, tAnd, tOr, tB, tAndV, tOrV, tNotV, rIxH, rSetL, tSl, tPart, tNoPart, rSlH, rCat, rRep, rSumN, tBM, rAppend, rExtend, tCallV, tDinK, tDgetK, tlc_list, tYes, scal, exists_eq_left', exists_eq_left, exists_and_left, Option.some.injEq, L3.vi, L3.vr, L3.vb, List.map_cons, List.map_nil, List.length_cons, List.length_nil, Nat.reduceAdd, Nat.reduceSub, Nat.zero_add, Nat.sub_self, List.replicate, List.cons_append, List.nil_append, List.append_nil, L3.gz, L3.gs, L3.z0, L3.z1, and_true, true_and, Bool.not_eq_true, HO.ins.injEq, L3.hl, and_assoc, decide_eq_true_eq, Bool.false_eq_true, if_false, if_true, List.cons.injEq, cxK, Nat.reduceLT, Nat.reduceLeDiff, upd_same, upd_upd, tfor_range1, tfor_list, Int.toNat_natCast, vN_inj, vN_length, vN_set, Int.neg_neg, sf_all, ey]
    exact ⟨q, b1, b2, y, rfl, hsy, fun H' l' e f S => k.tell DS rfl (S7.trans S) e (S7.free f)⟩
end
end Bb

set_option Elab.async false
set_option linter.all false
set_option maxRecDepth 100000
namespace Bb
open PySem PySem.Spec PyProof.Rows L2 L3
/-- the solutes of a new laying -/
theorem for_eq {k n : Nat} {xs : List Vbdlan.Solute} (h : xs.length ≤ k) : Vbdlan.solutesFor k n xs = (xs ++ List.replicate (k - xs.length) (Vbdlan.newSolute 0)).map (Vbdlan.moved n) := by
  refine List.ext_getElem? fun i => ?_
  unfold Vbdlan.solutesFor
  rw [List.getElem?_map, List.getElem?_map]
  by_cases hi : i < k
  · rw [List.getElem?_range hi]
    show some (match xs[i]? with | some x => Vbdlan.moved n x | none => Vbdlan.newSolute n) = _
    by_cases hx : i < xs.length
    · rw [List.getElem?_append_left hx, List.getElem?_eq_getElem hx]
      rfl
    · rw [List.getElem?_append_right (by omega), List.getElem?_eq_none (by omega), List.getElem?_replicate, if_pos (by omega)]
      rfl
  · rw [List.getElem?_eq_none (by rw [List.length_range]; omega), List.getElem?_eq_none (by rw [List.length_append, List.length_replicate]; omega)]
    rfl
section
variable {a : Adr} {H H' : Hp} {D : DX} {f : Vbdlan.Form} {la : Bool} {ti aB aD : Nat} {xs : List Vbdlan.Solute}
/-- one solute more -/
theorem DevAt.push (h : DevAt a H D f la ti aB aD xs) {p bl ba : Addr} {x : Vbdlan.Solute} (hs : SolAt a H' p x bl ba) (np : H p = none) (nb : H bl = none) (na : H ba = none) (hl : H' D.l = some (.lst (refs D.ps ++ [.ref p]))) (kp : But H H' D.l) :
    DevAt a H' { D with ps := D.ps ++ [(p, bl, ba)] } f la ti aB aD (xs ++ [x]) ∧ Mv D.fp ({ D with ps := D.ps ++ [(p, bl, ba)] } : DX).fp H H' := by
  obtain ⟨r1, e1⟩ := h.hrb
  obtain ⟨r2, e2⟩ := h.hrd
  have fr : ∀ b ∈ fp3 (p, bl, ba), H b = none := fun b hb => by
    simp [fp3] at hb
    rcases hb with rfl | rfl | rfl <;> assumption
  have get : ∀ (i : Nat) u, (D.ps ++ [(p, bl, ba)])[i]? = some u → (D.ps[i]? = some u ∧ i < D.ps.length) ∨ (i = D.ps.length ∧ u = (p, bl, ba)) := fun i u hu => by
    by_cases hi : i < D.ps.length
    · rw [List.getElem?_append_left hi] at hu
      exact .inl ⟨hu, hi⟩
    · rw [List.getElem?_append_right (by omega)] at hu
      by_cases e : i = D.ps.length
      · subst e
        simp at hu
        exact .inr ⟨rfl, hu.symm⟩
      · rw [List.getElem?_eq_none (by simp; omega)] at hu
        cases hu
  have offl : ∀ u ∈ D.ps, D.l ∉ fp3 u := h.lap
  refine ⟨⟨kp _ _ h.dev (ne_of h.dev h.lst (by intro z; cases z)), ⟨r1, kp _ _ e1 (ne_of e1 h.lst (by intro z; cases z))⟩, ⟨r2, kp _ _ e2 (ne_of e2 h.lst (by intro z; cases z))⟩, h.rne, ?_, ?_, fun i u y hu hy => ?_, fun i j u v hne hu hv b hb => ?_, fun u hu => ?_⟩, fun b hb => ?_, fun b o e hb => kp b o e fun z => hb (mem_fp.mpr (.inr (.inl z)))⟩
  · show H' D.l = some (.lst (refs (D.ps ++ [(p, bl, ba)])))
    rw [hl]
    unfold refs
    rw [List.map_append]
    rfl
  · show (D.ps ++ [(p, bl, ba)]).length = (xs ++ [x]).length
    rw [List.length_append, List.length_append, h.len]
    rfl
  · rcases get i u hu with ⟨hu, hi⟩ | ⟨rfl, rfl⟩
    · rw [List.getElem?_append_left (by rw [← h.len]; exact hi)] at hy
      refine (h.sol i u y hu hy).keep fun b o e hb => kp b o e fun z => ?_
      exact offl u (List.mem_of_getElem? hu) (z ▸ hb)
    · rw [h.len, List.getElem?_append_right (Nat.le_refl _), Nat.sub_self] at hy
      cases hy
      exact hs
  · rcases get i u hu with ⟨hu, hi⟩ | ⟨rfl, rfl⟩
    · rcases get j v hv with ⟨hv, hj⟩ | ⟨rfl, rfl⟩
      · exact h.apart i j u v hne hu hv b hb
      · intro q
        obtain ⟨y, _, hsy⟩ := h.solx hu
        obtain ⟨o, eo⟩ := hsy.has b hb
        rw [fr b q] at eo
        cases eo
    · rcases get j v hv with ⟨hv, hj⟩ | ⟨rfl, rfl⟩
      · intro q
        obtain ⟨y, _, hsy⟩ := h.solx hv
        obtain ⟨o, eo⟩ := hsy.has b q
        rw [fr b hb] at eo
        cases eo
      · exact absurd rfl hne
  · rcases List.mem_append.mp hu with hu | hu
    · exact offl u hu
    · rcases List.mem_singleton.mp hu with rfl
      intro q
      have z := h.lst
      rw [fr _ q] at z
      cases z
  · rcases mem_fp.mp hb with rfl | rfl | rfl | rfl | ⟨u, hu, hb⟩
    · exact .inl (mem_fp.mpr (.inl rfl))
    · exact .inl (mem_fp.mpr (.inr (.inl rfl)))
    · exact .inl (mem_fp.mpr (.inr (.inr (.inl rfl))))
    · exact .inl (mem_fp.mpr (.inr (.inr (.inr (.inl rfl)))))
    · rcases List.mem_append.mp hu with hu | hu
      · exact .inl (mem_fp.mpr (.inr (.inr (.inr (.inr ⟨u, hu, hb⟩)))))
      · rcases List.mem_singleton.mp hu with rfl
        exact .inr (fr b hb)
end
section
variable {P : Program} {w : World} {K : PySem.W.Frag} {mg : Str → Option Value} {base : Heap} {a : Adr}
/-- while the solutes are added -/
def wInv (a : Adr) (H : Hp) (D : DX) (gv : Addr) (gs : List Int) (f : Vbdlan.Form) (ti k : Nat) (xs : List Vbdlan.Solute) (σ : L2.St) (H' : Hp) : Prop :=
  ∃ (ps' : List (Addr × Addr × Addr)) (i : Nat), σ = [some (.ref D.d), some (.ref gv), none] ∧ xs.length + i ≤ k ∧ H' gv = some (.lst (gs.map V.int)) ∧ DevAt a H' { D with ps := ps' } f true ti 0 0 (xs ++ List.replicate i (Vbdlan.newSolute 0)) ∧ Mv D.fp ({ D with ps := ps' } : DX).fp H H'
def wM (a : Addr) (k : Nat) (_ : L2.St) (H' : Hp) : Nat := match H' a with
  | some (.lst l) => k - l.length
  | _ => 0
def lcInv (a : Adr) (H : Hp) (D : DX) (ps : List (Addr × Addr × Addr)) (gv : Addr) (f : Vbdlan.Form) (ti : Nat) (xs : List Vbdlan.Solute) (i : Nat) (σ : L2.St) (H' : Hp) : Prop :=
  ∃ (ps' : List (Addr × Addr × Addr)) (v2 : Option V), σ = [some (.ref D.d), some (.ref gv), v2] ∧ refs ps' = refs ps ∧ DevAt a H' { D with ps := ps' } f true ti 0 0 (mapTo (Vbdlan.moved f.n) xs i) ∧ Mv D.fp ({ D with ps := ps' } : DX).fp H H'
theorem ok_lay (T : Txt K mg a) : FnOk P w K mg base CX0 8 a.f_lay a.d_lay ["device", "given"] (sp_call a 0) := by
  refine T.F_lay.ok sc_lay (fun vs H Q E h => sp_call_len h) (fun cdv A outer s H vs Q E hr0 h => ?_)
  have hr := hr0
  obtain ⟨D, gv, st, args, c, ⟨rfl, hg, hoff, DS, SO⟩, hd, hrg, _, hm, k⟩ := h
  cases hd with | lay n b d c al =>
  have hr' := hrg
  simp only [Vbdlan.ranges, Bool.and_eq_true, within_iff] at hr'
  obtain ⟨n, rfl⟩ := nat_of (j := n) (by omega)
  obtain ⟨b, rfl⟩ := nat_of (j := b) (by omega)
  obtain ⟨d, rfl⟩ := nat_of (j := d) (by omega)
  obtain ⟨c, rfl⟩ := nat_of (j := c) (by omega)
  have DA := DS.da
  have hdev := DS.dev
  have hls := DA.lst
  have hln : (refs D.ps).length = st.solutes.length := by rw [refs_len, DA.len]
  have hng : gv ≠ D.d := ne_of hg hdev (by intro z; cases z)
  -- what the document's step says, over the program's form
  have he : Vbdlan.step st (.lay n b d c al) = if c < st.solutes.length then (st, [-4]) else if (pf st).v1 < b then (st, [-5]) else
      ({ st with laid := true, form := { pf st with n := n, bv := b, dv := d, along := al == 1 }, accB := 0, accD := 0, solutes := Vbdlan.solutesFor c n st.solutes }, [0]) := by
    cases e : st.laid with
    | true =>
      simp only [Vbdlan.step, hrg, e, pf_laid e, Int.toNat_natCast, Bool.true_eq_false, false_and, if_false, true_and, and_true, if_true, Int.ofNat_lt]
    | false =>
      have q := SO.no e
      subst q
      have z1 : ¬ (c < Vbdlan.start.solutes.length) := by show ¬ c < 0; omega
      have z2 : ¬ ((pf Vbdlan.start).v1 < b) := by show ¬ 1000000 < b; omega
      rw [if_neg z1, if_neg z2]
      simp only [Vbdlan.step, hrg, e, Vbdlan.isLay, Int.toNat_natCast, Bool.true_eq_false, Bool.false_eq_true, false_and, and_false, if_false]
      rfl
  rw [he] at k
  refine ⟨_, (pss_cons (ps_if (pt_cmpR op_lt (pe_ix ix_lst (pv 1) pe_int (fun _ _ => rfl)) (pe_callB call_len_lst (by rfl) T.b_len PySem.boot_len (pa_cons (pe_fld (pv 0) rfl) pa_nil)) (nomark _)) (pss_one (ps_ret (pe_lst (pa_cons (pe_gint T.g_FEWER_SOLUTES) pa_nil)))) pss_nil) (pss_cons (ps_if (pt_cmpR op_lt (pe_fld (pv 0) rfl) (pe_ix ix_lst (pv 1) pe_int (fun _ _ => rfl)) (nomark _)) (pss_one (ps_ret (pe_lst (pa_cons (pe_gint T.g_POOL_TOO_SMALL) pa_nil)))) pss_nil) (pss_cons (ps_fld (pv 0) pe_bl rfl) (pss_cons (ps_fld (pv 0) (pe_ix ix_lst (pv 1) pe_int (fun _ _ => rfl)) rfl) (pss_cons (ps_fld (pv 0) (pe_ix ix_lst (pv 1) pe_int (fun _ _ => rfl)) rfl) (pss_cons (ps_fld (pv 0) (pe_ix ix_lst (pv 1) pe_int (fun _ _ => rfl)) rfl) (pss_cons (ps_fld (pv 0) (pe_cmpR op_eq (pe_ix ix_lst (pv 1) pe_int (fun _ _ => rfl)) pe_int (nomark _)) rfl) (pss_cons (ps_expr (pe_meth0 (pe_fld (pv 0) rfl) T.cl_Rate T.m_Rate_restart (ok_Rate_restart T) (hr.mono (by decide)) T.bi_Rate_restart .nil pass0)) (pss_cons (ps_expr (pe_meth0 (pe_fld (pv 0) rfl) T.cl_Rate T.m_Rate_restart (ok_Rate_restart T) (hr.mono (by decide)) T.bi_Rate_restart .nil pass0)) (pss_cons (ps_while PassesOwn.never (pt_cmpR op_lt (pe_callB call_len_lst (by rfl) T.b_len PySem.boot_len (pa_cons (pe_fld (pv 0) rfl) pa_nil)) (pe_ix ix_lst (pv 1) pe_int (fun _ _ => rfl)) (nomark _)) (pss_one (ps_expr (pe_bm PySem.F.plainAttrs_list PySem.F.slot_list_append PySem.F.type_list_append mt_append (pe_fld (pv 0) rfl) (pa_cons (pe_make0 T.mk_Solute (ok_Solute_init T) (hr.mono (by decide)) rfl T.g_Solute T.bi_Solute_init .nil pass0) pa_nil))))) (pss_cons (ps_for PassesOwn.never rfl (pi_list (pe_fld (pv 0) rfl)) (pg_name (i := 2) sc_lay.nd rfl (Or.inl rfl)) (pss_one (ps_expr (pe_meth (pv 2) T.cl_Solute T.m_Solute_lay_cells (ok_Solute_lay_cells T) (hr.mono (by decide)) T.bi_Solute_lay_cells .nil pass0 (pa_cons (pe_fld (pv 0) rfl) pa_nil))))) (pss_one (ps_ret (pe_lst (pa_cons pe_int pa_nil))))))))))))))), ?_⟩
  refine hide1 fun U hU => ?_
  simp only [tSeq, tIfS, tTest, tOp, rI0, rI, rEq, rNe, tVar, tC, tRet, tRetN, tNext, tUn, rU, L2.start, tFld, sFld, sFldAug, rAdd, rSub, tDrop, tAsg, gName, tAug, tAugS, ipI, tCons, tNil, tLst, tCall, tMeth, tMake, tCB, tNot, tAnd, tOr, tB, tAndV, tOrV, tNotV, rIxH, rSetL, tSl, tPart, tNoPart, rSlH, rCat, rRep, rSumN, tBM, rAppend, rExtend, tCallV, tDinK, tDgetK, tlc_list, tYes, scal, exists_eq_left', exists_eq_left, exists_and_left, Option.some.injEq, L3.vi, L3.vr, L3.vb, List.map_cons, List.map_nil, List.length_cons, List.length_nil, Nat.reduceAdd, Nat.reduceSub, Nat.zero_add, Nat.sub_self, List.replicate, List.cons_append, List.nil_append, List.append_nil, L3.gz, L3.gs, L3.z0, L3.z1, and_true, true_and, Bool.not_eq_true, HO.ins.injEq, L3.hl, and_assoc, decide_eq_true_eq, Bool.false_eq_true, if_false, if_true, List.cons.injEq, cxK, Nat.reduceLT, Nat.reduceLeDiff, upd_same, upd_upd, tfor_range1, tfor_list, Int.toNat_natCast, vN_inj, vN_length, vN_set, Int.neg_neg, df_all, hg, hdev, dI, at3, hls, hln, T.nos_Device]
  refine ite2 (fun h0 => ?_) fun h0 => ?_
  · rw [if_pos (by omega)] at k
    refine ⟨by decide, ?_⟩
    intro l f_l
    generalize hG_l : upd H l _ = H1
    obtain ⟨e_l, S_l⟩ := new_facts hG_l f_l
    clear hG_l
    exact k.tell DS rfl S_l e_l f_l
  rw [if_neg (by omega)] at k
  subst hU
  refine hide1 fun U hU => ?_
  simp only [tSeq, tIfS, tTest, tOp, rI0, rI, rEq, rNe, tVar, tC, tRet, tRetN, tNext, tUn, rU, L2.start, tFld, sFld, sFldAug, rAdd, rSub, tDrop, tAsg, gName, tAug, tAugS, ipI, tCons, tNil, tLst, tCall, tMeth, tMake, tCB, tNot, tAnd, tOr, tB, tAndV, tOrV, tNotV, rIxH, rSetL, tSl, tPart, tNoPart, rSlH, rCat, rRep, rSumN, tBM, rAppend, rExtend, tCallV, tDinK, tDgetK, tlc_list, tYes, scal, exists_eq_left', exists_eq_left, exists_and_left, Option.some.injEq, L3.vi, L3.vr, L3.vb, List.map_cons, List.map_nil, List.length_cons, List.length_nil, Nat.reduceAdd, Nat.reduceSub, Nat.zero_add, Nat.sub_self, List.replicate, List.cons_append, List.nil_append, List.append_nil, L3.gz, L3.gs, L3.z0, L3.z1, and_true, true_and, Bool.not_eq_true, HO.ins.injEq, L3.hl, and_assoc, decide_eq_true_eq, Bool.false_eq_true, if_false, if_true, List.cons.injEq, cxK, Nat.reduceLT, Nat.reduceLeDiff, upd_same, upd_upd, tfor_range1, tfor_list, Int.toNat_natCast, vN_inj, vN_length, vN_set, Int.neg_neg, df_all, hg, hdev, dI, at1, T.nos_Device]
  refine ite2 (fun h1 => ?_) fun h1 => ?_
  · rw [if_pos (by omega)] at k
    refine ⟨by decide, ?_⟩
    intro l f_l
    generalize hG_l : upd H l _ = H1
    obtain ⟨e_l, S_l⟩ := new_facts hG_l f_l
    clear hG_l
    exact k.tell DS rfl S_l e_l f_l
  rw [if_neg (by omega)] at k
  subst hU
  refine hide5 fun U hU => ?_
  simp only [tSeq, tIfS, tTest, tOp, rI0, rI, rEq, rNe, tVar, tC, tRet, tRetN, tNext, tUn, rU, L2.start, tFld, sFld, sFldAug, rAdd, rSub, tDrop, tAsg, gName, tAug, tAugS, ipI, tCons, tNil, tLst, tCall, tMeth, tMake, tCB, tNot, tAnd, tOr, tB, tAndV, tOrV, tNotV, rIxH, rSetL, tSl, tPart, tNoPart, rSlH, rCat, rRep, rSumN, tBM, rAppend, rExtend, tCallV, tDinK, tDgetK, tlc_list, tYes, scal, exists_eq_left', exists_eq_left, exists_and_left, Option.some.injEq, L3.vi, L3.vr, L3.vb, List.map_cons, List.map_nil, List.length_cons, List.length_nil, Nat.reduceAdd, Nat.reduceSub, Nat.zero_add, Nat.sub_self, List.replicate, List.cons_append, List.nil_append, List.append_nil, L3.gz, L3.gs, L3.z0, L3.z1, and_true, true_and, Bool.not_eq_true, HO.ins.injEq, L3.hl, and_assoc, decide_eq_true_eq, Bool.false_eq_true, if_false, if_true, List.cons.injEq, cxK, Nat.reduceLT, Nat.reduceLeDiff, upd_same, upd_upd, tfor_range1, tfor_list, Int.toNat_natCast, vN_inj, vN_length, vN_set, Int.neg_neg, df_all, hg, hdev, upd_ne hng, dI, at0, at1, at2, at4, T.nos_Device]
  -- the device's own attributes
  obtain ⟨DB, M1⟩ := DA.setDev (f' := { pf st with n := n, bv := b, dv := d, along := al == 1 }) (la' := true) (ti' := st.ticks) rfl rfl rfl rfl
  rw [DS.ol, DS.ob, DS.od] at DB M1
  generalize hF : ({ pf st with n := n, bv := b, dv := d, along := al == 1 } : Vbdlan.Form) = F at DB M1 k
  have hFn : F.n = n := by rw [← hF]
  have eal : decide (al = 1) = (al == 1) := by
    by_cases z : al = 1
    · subst z; rfl
    · rw [decide_eq_false z]; exact (beq_eq_false_iff_ne.mpr z).symm
  refine gen_eq (Q := U _ _) (Y := upd H D.d (.ins a.C_Device D.dd (df (dI F true st.ticks D.l D.rb D.rd)))) (by rw [← hF]; simp only [dI, eal]) ?_
  generalize upd H D.d _ = H1 at DB M1 ⊢
  have hg1 := M1.kp _ _ hg hoff
  -- the rates
  have hdev1 := DB.dev
  rw [DS.ol, DS.ob, DS.od] at hdev1
  obtain ⟨r1, e1⟩ := DB.hrb
  subst hU
  refine hide1 fun U hU => ?_
  simp only [tSeq, tIfS, tTest, tOp, rI0, rI, rEq, rNe, tVar, tC, tRet, tRetN, tNext, tUn, rU, L2.start, tFld, sFld, sFldAug, rAdd, rSub, tDrop, tAsg, gName, tAug, tAugS, ipI, tCons, tNil, tLst, tCall, tMeth, tMake, tCB, tNot, tAnd, tOr, tB, tAndV, tOrV, tNotV, rIxH, rSetL, tSl, tPart, tNoPart, rSlH, rCat, rRep, rSumN, tBM, rAppend, rExtend, tCallV, tDinK, tDgetK, tlc_list, tYes, scal, exists_eq_left', exists_eq_left, exists_and_left, Option.some.injEq, L3.vi, L3.vr, L3.vb, List.map_cons, List.map_nil, List.length_cons, List.length_nil, Nat.reduceAdd, Nat.reduceSub, Nat.zero_add, Nat.sub_self, List.replicate, List.cons_append, List.nil_append, List.append_nil, L3.gz, L3.gs, L3.z0, L3.z1, and_true, true_and, Bool.not_eq_true, HO.ins.injEq, L3.hl, and_assoc, decide_eq_true_eq, Bool.false_eq_true, if_false, if_true, List.cons.injEq, cxK, Nat.reduceLT, Nat.reduceLeDiff, upd_same, upd_upd, tfor_range1, tfor_list, Int.toNat_natCast, vN_inj, vN_length, vN_set, Int.neg_neg, rf_all, df_all, hdev1, dI, e1, T.nos_Device]
  refine ⟨D.rb, r1, _, rfl, e1, ?_⟩
  simp only [tSeq, tIfS, tTest, tOp, rI0, rI, rEq, rNe, tVar, tC, tRet, tRetN, tNext, tUn, rU, L2.start, tFld, sFld, sFldAug, rAdd, rSub, tDrop, tAsg, gName, tAug, tAugS, ipI, tCons, tNil, tLst, tCall, tMeth, tMake, tCB, tNot, tAnd, tOr, tB, tAndV, tOrV, tNotV, rIxH, rSetL, tSl, tPart, tNoPart, rSlH, rCat, rRep, rSumN, tBM, rAppend, rExtend, tCallV, tDinK, tDgetK, tlc_list, tYes, scal, exists_eq_left', exists_eq_left, exists_and_left, Option.some.injEq, L3.vi, L3.vr, L3.vb, List.map_cons, List.map_nil, List.length_cons, List.length_nil, Nat.reduceAdd, Nat.reduceSub, Nat.zero_add, Nat.sub_self, List.replicate, List.cons_append, List.nil_append, List.append_nil, L3.gz, L3.gs, L3.z0, L3.z1, and_true, true_and, Bool.not_eq_true, HO.ins.injEq, L3.hl, and_assoc, decide_eq_true_eq, Bool.false_eq_true, if_false, if_true, List.cons.injEq, cxK, Nat.reduceLT, Nat.reduceLeDiff, upd_same, upd_upd, tfor_range1, tfor_list, Int.toNat_natCast, vN_inj, vN_length, vN_set, Int.neg_neg]
  obtain ⟨DC, M2⟩ := DB.setRb e1 (n := F.bn) (d := F.bd) (acc := 0) (f' := F) rfl
  refine gen_eq (Q := U _ _) (Y := upd H1 D.rb (.ins a.C_Rate r1 (rf ⟨F.bn, F.bd, (0 : Nat)⟩))) rfl ?_
  generalize upd H1 D.rb _ = H2 at DC M2 ⊢
  have hdev2 := DC.dev
  rw [DS.ol, DS.ob, DS.od] at hdev2
  obtain ⟨r2, e2⟩ := DC.hrd
  subst hU
  refine hide1 fun U hU => ?_
  simp only [tSeq, tIfS, tTest, tOp, rI0, rI, rEq, rNe, tVar, tC, tRet, tRetN, tNext, tUn, rU, L2.start, tFld, sFld, sFldAug, rAdd, rSub, tDrop, tAsg, gName, tAug, tAugS, ipI, tCons, tNil, tLst, tCall, tMeth, tMake, tCB, tNot, tAnd, tOr, tB, tAndV, tOrV, tNotV, rIxH, rSetL, tSl, tPart, tNoPart, rSlH, rCat, rRep, rSumN, tBM, rAppend, rExtend, tCallV, tDinK, tDgetK, tlc_list, tYes, scal, exists_eq_left', exists_eq_left, exists_and_left, Option.some.injEq, L3.vi, L3.vr, L3.vb, List.map_cons, List.map_nil, List.length_cons, List.length_nil, Nat.reduceAdd, Nat.reduceSub, Nat.zero_add, Nat.sub_self, List.replicate, List.cons_append, List.nil_append, List.append_nil, L3.gz, L3.gs, L3.z0, L3.z1, and_true, true_and, Bool.not_eq_true, HO.ins.injEq, L3.hl, and_assoc, decide_eq_true_eq, Bool.false_eq_true, if_false, if_true, List.cons.injEq, cxK, Nat.reduceLT, Nat.reduceLeDiff, upd_same, upd_upd, tfor_range1, tfor_list, Int.toNat_natCast, vN_inj, vN_length, vN_set, Int.neg_neg, rf_all, df_all, hdev2, dI, e2, T.nos_Device]
  refine ⟨D.rd, r2, _, rfl, e2, ?_⟩
  simp only [tSeq, tIfS, tTest, tOp, rI0, rI, rEq, rNe, tVar, tC, tRet, tRetN, tNext, tUn, rU, L2.start, tFld, sFld, sFldAug, rAdd, rSub, tDrop, tAsg, gName, tAug, tAugS, ipI, tCons, tNil, tLst, tCall, tMeth, tMake, tCB, tNot, tAnd, tOr, tB, tAndV, tOrV, tNotV, rIxH, rSetL, tSl, tPart, tNoPart, rSlH, rCat, rRep, rSumN, tBM, rAppend, rExtend, tCallV, tDinK, tDgetK, tlc_list, tYes, scal, exists_eq_left', exists_eq_left, exists_and_left, Option.some.injEq, L3.vi, L3.vr, L3.vb, List.map_cons, List.map_nil, List.length_cons, List.length_nil, Nat.reduceAdd, Nat.reduceSub, Nat.zero_add, Nat.sub_self, List.replicate, List.cons_append, List.nil_append, List.append_nil, L3.gz, L3.gs, L3.z0, L3.z1, and_true, true_and, Bool.not_eq_true, HO.ins.injEq, L3.hl, and_assoc, decide_eq_true_eq, Bool.false_eq_true, if_false, if_true, List.cons.injEq, cxK, Nat.reduceLT, Nat.reduceLeDiff, upd_same, upd_upd, tfor_range1, tfor_list, Int.toNat_natCast, vN_inj, vN_length, vN_set, Int.neg_neg]
  obtain ⟨DE, M3⟩ := DC.setRd e2 (n := F.dn) (d := F.dd) (acc := 0) (f' := F) rfl
  refine gen_eq (Q := U _ _) (Y := upd H2 D.rd (.ins a.C_Rate r2 (rf ⟨F.dn, F.dd, (0 : Nat)⟩))) rfl ?_
  generalize upd H2 D.rd _ = H3 at DE M3 ⊢
  have M4 := (M1.trans M2).trans M3
  have hg3 := M4.kp _ _ hg hoff
  subst hU
  refine hide1 fun U hU => ?_
  refine while_by (wInv a H D gv [(n : Int), b, d, c, al] F st.ticks c st.solutes) (wM D.l c) ⟨D.ps, 0, rfl, by omega, hg3, by rw [List.replicate_zero, List.append_nil]; exact DE, M4⟩ ?_ ?_
  · rintro σ H4 ⟨ps', i, rfl, hi, hg4, DF, M5⟩
    have hdev4 := DF.dev
    dsimp only at hdev4
    rw [DS.ol, DS.ob, DS.od] at hdev4
    have hl4 := DF.lst
    dsimp only at hl4
    have hn4 : (refs ps').length = st.solutes.length + i := by
      rw [refs_len]
      have := DF.len
      dsimp only at this
      rw [this, List.length_append, List.length_replicate]
    simp only [tSeq, tIfS, tTest, tOp, rI0, rI, rEq, rNe, tVar, tC, tRet, tRetN, tNext, tUn, rU, L2.start, tFld, sFld, sFldAug, rAdd, rSub, tDrop, tAsg, gName, tAug, tAugS, ipI, tCons, tNil, tLst, tCall, tMeth, tMake, tCB, tNot, tAnd, tOr, tB, tAndV, tOrV, tNotV, rIxH, rSetL, tSl, tPart, tNoPart, rSlH, rCat, rRep, rSumN, tBM, rAppend, rExtend, tCallV, tDinK, tDgetK, tlc_list, tYes, scal, exists_eq_left', exists_eq_left, exists_and_left, Option.some.injEq, L3.vi, L3.vr, L3.vb, List.map_cons, List.map_nil, List.length_cons, List.length_nil, Nat.reduceAdd, Nat.reduceSub, Nat.zero_add, Nat.sub_self, List.replicate, List.cons_append, List.nil_append, List.append_nil, L3.gz, L3.gs, L3.z0, L3.z1, and_true, true_and, Bool.not_eq_true, HO.ins.injEq, L3.hl, and_assoc, decide_eq_true_eq, Bool.false_eq_true, if_false, if_true, List.cons.injEq, cxK, Nat.reduceLT, Nat.reduceLeDiff, upd_same, upd_upd, tfor_range1, tfor_list, Int.toNat_natCast, vN_inj, vN_length, vN_set, Int.neg_neg, df_all, hdev4, dI, hl4, hn4, hg4, at3, T.nos_Device, tyL hl4]
    refine ite2 (fun h2 => ?_) fun h2 => ?_
    · intro q dq f1 f2 hdq
      refine ⟨q, dq, rfl, upd_same, fun H5 b1 b2 g1 h3 h4 nb u1 u2 kp => ?_⟩
      have s1 : Same H4 H5 := Same.made f1 f2 kp
      have hl5 := s1 _ _ hl4
      have hb : (refs ps').length < sizeLine := small1000 (by omega)
      simp only [tSeq, tIfS, tTest, tOp, rI0, rI, rEq, rNe, tVar, tC, tRet, tRetN, tNext, tUn, rU, L2.start, tFld, sFld, sFldAug, rAdd, rSub, tDrop, tAsg, gName, tAug, tAugS, ipI, tCons, tNil, tLst, tCall, tMeth, tMake, tCB, tNot, tAnd, tOr, tB, tAndV, tOrV, tNotV, rIxH, rSetL, tSl, tPart, tNoPart, rSlH, rCat, rRep, rSumN, tBM, rAppend, rExtend, tCallV, tDinK, tDgetK, tlc_list, tYes, scal, exists_eq_left', exists_eq_left, exists_and_left, Option.some.injEq, L3.vi, L3.vr, L3.vb, List.map_cons, List.map_nil, List.length_cons, List.length_nil, Nat.reduceAdd, Nat.reduceSub, Nat.zero_add, Nat.sub_self, List.replicate, List.cons_append, List.nil_append, List.append_nil, L3.gz, L3.gs, L3.z0, L3.z1, and_true, true_and, Bool.not_eq_true, HO.ins.injEq, L3.hl, and_assoc, decide_eq_true_eq, Bool.false_eq_true, if_false, if_true, List.cons.injEq, cxK, Nat.reduceLT, Nat.reduceLeDiff, upd_same, upd_upd, tfor_range1, tfor_list, Int.toNat_natCast, vN_inj, vN_length, vN_set, Int.neg_neg, hl5, hb]
      obtain ⟨v1, v2⟩ := fresh_ne u1
      obtain ⟨v3, v4⟩ := fresh_ne v2
      obtain ⟨w1, w2⟩ := fresh_ne u2
      obtain ⟨w3, w4⟩ := fresh_ne w2
      have nq : q ≠ D.l := (ne_of_none hl4 f1).symm
      have nb1 : b1 ≠ D.l := (ne_of_none hl4 v4).symm
      have nb2 : b2 ≠ D.l := (ne_of_none hl4 w4).symm
      have hgl : gv ≠ D.l := fun z => by
        have : (HO.lst ([(n : Int), b, d, c, al].map V.int)) = HO.lst (refs ps') := Option.some.inj ((z ▸ hg4).symm.trans hl4)
        exact hoff (z ▸ mem_fp.mpr (.inr (.inl rfl)))
      obtain ⟨DG, M6⟩ := DF.push (H' := upd H5 D.l (.lst (refs ps' ++ [.ref q]))) (p := q) (bl := b1) (ba := b2) (x := Vbdlan.newSolute 0) ⟨⟨dq, by rw [upd_ne nq]; exact g1⟩, by rw [upd_ne nb1]; exact h3, by rw [upd_ne nb2]; exact h4, nb⟩ f1 v4 w4 upd_same
        (fun z o e hz => by rw [upd_ne hz]; exact s1 z o e)
      refine ⟨⟨ps' ++ [(q, b1, b2)], i + 1, rfl, by omega, by rw [upd_ne hgl]; exact s1 _ _ hg4, ?_, M5.trans M6⟩, ?_⟩
      · rw [List.replicate_succ', ← List.append_assoc]
        exact DG
      · unfold wM
        rw [upd_same, hl4]
        show c - (refs ps' ++ [V.ref q]).length < c - (refs ps').length
        rw [List.length_append, hn4]
        show c - (st.solutes.length + i + 1) < _
        omega
    · have hi' : c - st.solutes.length = i := by omega
      have hS : (st.solutes ++ List.replicate i (Vbdlan.newSolute 0)).map (Vbdlan.moved F.n) = Vbdlan.solutesFor c n st.solutes := by
        rw [hFn, for_eq (by omega), hi']
      generalize hX : st.solutes ++ List.replicate i (Vbdlan.newSolute 0) = X at DF hS
      subst hU
      refine hide1 fun U hU => ?_
      simp only [tSeq, tIfS, tTest, tOp, rI0, rI, rEq, rNe, tVar, tC, tRet, tRetN, tNext, tUn, rU, L2.start, tFld, sFld, sFldAug, rAdd, rSub, tDrop, tAsg, gName, tAug, tAugS, ipI, tCons, tNil, tLst, tCall, tMeth, tMake, tCB, tNot, tAnd, tOr, tB, tAndV, tOrV, tNotV, rIxH, rSetL, tSl, tPart, tNoPart, rSlH, rCat, rRep, rSumN, tBM, rAppend, rExtend, tCallV, tDinK, tDgetK, tlc_list, tYes, scal, exists_eq_left', exists_eq_left, exists_and_left, Option.some.injEq, L3.vi, L3.vr, L3.vb, List.map_cons, List.map_nil, List.length_cons, List.length_nil, Nat.reduceAdd, Nat.reduceSub, Nat.zero_add, Nat.sub_self, List.replicate, List.cons_append, List.nil_append, List.append_nil, L3.gz, L3.gs, L3.z0, L3.z1, and_true, true_and, Bool.not_eq_true, HO.ins.injEq, L3.hl, and_assoc, decide_eq_true_eq, Bool.false_eq_true, if_false, if_true, List.cons.injEq, cxK, Nat.reduceLT, Nat.reduceLeDiff, upd_same, upd_upd, tfor_range1, tfor_list, Int.toNat_natCast, vN_inj, vN_length, vN_set, Int.neg_neg, df_all, hdev4, dI, T.nos_Device, sqL_ex hl4]
      refine loop_list (xs := refs ps') (lcInv a H D ps' gv F st.ticks X) ⟨ps', _, rfl, rfl, DF, M5⟩ (fun j σ H' _ h => ?_) ?_ ?_
      · obtain ⟨ps1, v, _, hrf1, DA', _⟩ := h
        have q := DA'.lst
        dsimp only at q
        rw [hrf1] at q
        exact SqL.of q
      · rintro j y σ H' hj ⟨ps1, v, rfl, hrf1, DA', M'⟩
        rw [← hrf1] at hj
        obtain ⟨t, ht, rfl⟩ := refs_get hj
        obtain ⟨x0, hx0, hs⟩ := DA'.solx (j := j) (t := t) ht
        have hix : j < X.length := by
          have := (List.getElem?_eq_some_iff.mp hx0).1
          rw [mapTo_len] at this
          exact this
        obtain ⟨x, hx⟩ : ∃ x, X[j]? = some x := ⟨_, List.getElem?_eq_getElem hix⟩
        rw [mapTo_at hx] at hx0
        have ex : x = x0 := Option.some.inj hx0
        subst ex
        obtain ⟨dx, ep⟩ := hs.obj
        have hdv := DA'.dev
        dsimp only at hdv
        simp only [tSeq, tIfS, tTest, tOp, rI0, rI, rEq, rNe, tVar, tC, tRet, tRetN, tNext, tUn, rU, L2.start, tFld, sFld, sFldAug, rAdd, rSub, tDrop, tAsg, gName, tAug, tAugS, ipI, tCons, tNil, tLst, tCall, tMeth, tMake, tCB, tNot, tAnd, tOr, tB, tAndV, tOrV, tNotV, rIxH, rSetL, tSl, tPart, tNoPart, rSlH, rCat, rRep, rSumN, tBM, rAppend, rExtend, tCallV, tDinK, tDgetK, tlc_list, tYes, scal, exists_eq_left', exists_eq_left, exists_and_left, Option.some.injEq, L3.vi, L3.vr, L3.vb, List.map_cons, List.map_nil, List.length_cons, List.length_nil, Nat.reduceAdd, Nat.reduceSub, Nat.zero_add, Nat.sub_self, List.replicate, List.cons_append, List.nil_append, List.append_nil, L3.gz, L3.gs, L3.z0, L3.z1, and_true, true_and, Bool.not_eq_true, HO.ins.injEq, L3.hl, and_assoc, decide_eq_true_eq, Bool.false_eq_true, if_false, if_true, List.cons.injEq, cxK, Nat.reduceLT, Nat.reduceLeDiff, upd_same, upd_upd, tfor_range1, tfor_list, Int.toNat_natCast, vN_inj, vN_length, vN_set, Int.neg_neg, sf_all, df_all, ep, hdv, dI, T.nos_Device]
        refine ⟨t.1, t.2.1, t.2.2, x, F.n, rfl, hs, by omega, fun H5 bl' ba' hs' hbl hba kp => ?_⟩
        obtain ⟨DN, MN⟩ := DA'.setSol (j := j) (t := t) ht hs' (.inr hbl) (.inr hba) (fun b o e n1 _ _ => kp b o e n1)
        rw [mapTo_next hx] at DN
        exact ⟨ps1.set j (t.1, bl', ba'), _, rfl, (refs_set ht).trans hrf1, DN, M'.trans MN⟩
      · rintro σ H' ⟨ps1, v, rfl, hrf1, DA', M'⟩
        have e : (refs ps').length = X.length := by rw [refs_len]; exact DF.len
        rw [e, mapTo_all, hS] at DA'
        subst hU
        simp only [tSeq, tIfS, tTest, tOp, rI0, rI, rEq, rNe, tVar, tC, tRet, tRetN, tNext, tUn, rU, L2.start, tFld, sFld, sFldAug, rAdd, rSub, tDrop, tAsg, gName, tAug, tAugS, ipI, tCons, tNil, tLst, tCall, tMeth, tMake, tCB, tNot, tAnd, tOr, tB, tAndV, tOrV, tNotV, rIxH, rSetL, tSl, tPart, tNoPart, rSlH, rCat, rRep, rSumN, tBM, rAppend, rExtend, tCallV, tDinK, tDgetK, tlc_list, tYes, scal, exists_eq_left', exists_eq_left, exists_and_left, Option.some.injEq, L3.vi, L3.vr, L3.vb, List.map_cons, List.map_nil, List.length_cons, List.length_nil, Nat.reduceAdd, Nat.reduceSub, Nat.zero_add, Nat.sub_self, List.replicate, List.cons_append, List.nil_append, List.append_nil, L3.gz, L3.gs, L3.z0, L3.z1, and_true, true_and, Bool.not_eq_true, HO.ins.injEq, L3.hl, and_assoc, decide_eq_true_eq, Bool.false_eq_true, if_false, if_true, List.cons.injEq, cxK, Nat.reduceLT, Nat.reduceLeDiff, upd_same, upd_upd, tfor_range1, tfor_list, Int.toNat_natCast, vN_inj, vN_length, vN_set, Int.neg_neg]
        refine ⟨by decide, ?_⟩
        intro l f_l
        generalize hG_l : upd H' l _ = H6
        obtain ⟨e_l, S_l⟩ := new_facts hG_l f_l
        clear hG_l
        exact k H6 { D with ps := ps1 } l rfl ⟨DA'.same S_l, DS.ol, DS.ob, DS.od⟩ (M'.new S_l) e_l (M'.off f_l)
  · rintro σ H' Q1 Q2 m1 ⟨v, ev, a1, C, dx, fs, u, e1, e2, e3, e4, e5, p, ys, e6, e7, v', ev', p', xs', i', z', e8, e9, e10, e11, i, j, e12, e13, kk, e14, q⟩
    exact ⟨v, ev, a1, C, dx, fs, u, e1, e2, e3, e4, e5, p, ys, e6, e7, v', ev', p', xs', i', z', e8, e9, e10, e11, i, j, e12, e13, kk, e14, m1 _ _ q⟩
end
end Bb

set_option Elab.async false
set_option linter.all false
set_option maxRecDepth 100000
namespace Bb
open PySem PySem.Spec PyProof.Rows L2 L3
theorem Paired.at_ {α β : Type} {F : α → β → Prop} : ∀ {l : List α} {m : List β} {i : Nat} {y : β}, Paired F l m → m[i]? = some y → ∃ x, l[i]? = some x ∧ F x y
  | _, _, _, _, .nil, h => by simp at h
  | x :: l, y :: m, 0, z, .cons h t, e => ⟨x, rfl, by cases e; exact h⟩
  | x :: l, y :: m, i + 1, z, .cons h t, e => by
    have e' : m[i]? = some z := by simpa using e
    obtain ⟨u, h1, h2⟩ := Paired.at_ t e'
    exact ⟨u, by simpa using h1, h2⟩
theorem atI_map {α : Type} {l : List α} {i : Nat} {x : α} {f : α → V} (h : l[i]? = some x) : atI (l.map f) (i : Int) = some (f x) := atI_nat (by rw [List.getElem?_map, h]; rfl)
section
variable {P : Program} {w : World} {K : PySem.W.Frag} {mg : Str → Option Value} {base : Heap} {a : Adr}
/-- a row of the table -/
theorem tab_row {r : Addr} {tb : List (List (Int × Int))} (h : Tab K r tb) {p : Nat} {row : List (Int × Int)} (hp : tb[p]? = some row) : ∃ (xs : List V) (q : Addr) (as : List Addr), TupK K r xs ∧ atI xs (p : Int) = some (.ref q) ∧ TupK K q (as.map V.ref) ∧ Paired (Pr K) as row := by
  obtain ⟨as, h1, h2⟩ := h
  obtain ⟨q, hq, as', h3, h4⟩ := Paired.at_ h2 hp
  exact ⟨_, q, as', h1, atI_map hq, h3, h4⟩
def sp_inr (a : Adr) : Sp := fun vs H Q _ => ∃ (p : Nat) (gv : Addr) (args : List Int) (c : Vbdlan.Call), vs = [.int p, .ref gv] ∧ H gv = some (.lst (args.map V.int)) ∧ Dec p args c ∧ Q (.bl (Vbdlan.ranges c)) H
def irInv (H : Hp) (p : Nat) (gv q : Addr) (row : List (Int × Int)) (args : List Int) (i : Nat) (σ : L2.St) (H' : Hp) : Prop :=
  (∃ v3, σ = [some (.int p), some (.ref gv), some (.ref q), v3]) ∧ H' = H ∧ ∀ (j : Nat) (b : Int × Int) (x : Int), j < i → row[j]? = some b → args[j]? = some x → b.1 ≤ x ∧ x ≤ b.2
theorem ok_in_range (T : Txt K mg a) : FnOk P w K mg base CX0 1 a.f_in_range a.d_in_range ["place", "given"] (sp_inr a) := by
  refine T.F_in_range.ok sc_in_range (fun vs H Q E h => ?_) (fun cdv A outer s H vs Q E hr h => ?_)
  · obtain ⟨_, _, _, _, rfl, _⟩ := h
    rfl
  · obtain ⟨p, gv, args, c, rfl, hg, hd, k⟩ := h
    obtain ⟨row, hrow, hlen⟩ := hd.row
    obtain ⟨xs, q, as, h1, h2, h3, h4⟩ := tab_row T.t_RANGES (p := p) (row := row) hrow
    have hal : as.length = args.length := by rw [← hlen]; exact Paired.length h4
    have hsm : args.length ≤ 5 := by cases hd <;> simp
    refine ⟨_, (pss_cons (ps_set (i := 2) sc_in_range.nd rfl (Or.inl rfl) (pe_ix ix_tup (pe_gref T.g_RANGES) (pv 0) (fun _ _ => rfl))) (pss_cons (ps_for PassesOwn.never rfl (pi_range1 rfl T.b_range (pa_cons (pe_callB call_len_seq (by rfl) T.b_len PySem.boot_len (pa_cons (pv 2) pa_nil)) pa_nil)) (pg_name (i := 3) sc_in_range.nd rfl (Or.inl rfl)) (pss_one (ps_if (pw_or (pt_cmpR op_lt (pe_ix ix_lst (pv 1) (pv 3) (fun _ _ => rfl)) (pe_ix ix_tup (pe_ix ix_tup (pv 2) (pv 3) (fun _ _ => rfl)) pe_int (fun _ _ => rfl)) (nomark _)) (pw_or1 (pt_cmpR op_gt (pe_ix ix_lst (pv 1) (pv 3) (fun _ _ => rfl)) (pe_ix ix_tup (pe_ix ix_tup (pv 2) (pv 3) (fun _ _ => rfl)) pe_int (fun _ _ => rfl)) (nomark _)))).pt (pss_one (ps_ret pe_bl)) pss_nil))) (pss_cons (ps_if (pt_cmpR op_eq (pv 0) (pe_gint T.g_RATES) (nomark _)) (pss_one (ps_ret (pe_and (pe_cmpR op_le (pe_ix ix_lst (pv 1) pe_int (fun _ _ => rfl)) (pe_ix ix_lst (pv 1) pe_int (fun _ _ => rfl)) (nomark _)) (pe_one (pe_cmpR op_le (pe_ix ix_lst (pv 1) pe_int (fun _ _ => rfl)) (pe_ix ix_lst (pv 1) pe_int (fun _ _ => rfl)) (nomark _)))))) pss_nil) (pss_one (ps_ret pe_bl))))), ?_⟩
    refine hide2 fun U hU => ?_
    simp only [tSeq, tIfS, tTest, tOp, rI0, rI, rEq, rNe, tVar, tC, tRet, tRetN, tNext, tUn, rU, L2.start, tFld, sFld, sFldAug, rAdd, rSub, tDrop, tAsg, gName, tAug, tAugS, ipI, tCons, tNil, tLst, tCall, tMeth, tMake, tCB, tNot, tAnd, tOr, tB, tAndV, tOrV, tNotV, rIxH, rSetL, tSl, tPart, tNoPart, rSlH, rCat, rRep, rSumN, tBM, rAppend, rExtend, tCallV, tDinK, tDgetK, tlc_list, tYes, scal, exists_eq_left', exists_eq_left, exists_and_left, Option.some.injEq, L3.vi, L3.vr, L3.vb, List.map_cons, List.map_nil, List.length_cons, List.length_nil, Nat.reduceAdd, Nat.reduceSub, Nat.zero_add, Nat.sub_self, List.replicate, List.cons_append, List.nil_append, List.append_nil, L3.gz, L3.gs, L3.z0, L3.z1, and_true, true_and, Bool.not_eq_true, HO.ins.injEq, L3.hl, and_assoc, decide_eq_true_eq, Bool.false_eq_true, if_false, if_true, List.cons.injEq, cxK, Nat.reduceLT, Nat.reduceLeDiff, upd_same, upd_upd, tfor_range1, tfor_list, Int.toNat_natCast, vN_inj, vN_length, vN_set, Int.neg_neg]
    refine ⟨a.r_RANGES, xs, p, .ref q, rfl, rfl, h1.sq, h2, ?_⟩
    refine ⟨q, rfl, as.map V.ref, .inr h3.sq, ?_⟩
    rw [List.length_map, hal]
    refine ⟨by omega, by omega, ?_⟩
    refine loop_range (irInv H p gv q row args) ⟨⟨_, rfl⟩, rfl, fun j b x h => absurd h (Nat.not_lt_zero _)⟩ ?_ ?_
    · rintro i σ H' hi ⟨⟨v3, rfl⟩, rfl, hin⟩
      obtain ⟨x, hx⟩ : ∃ x, args[i]? = some x := ⟨_, List.getElem?_eq_getElem hi⟩
      obtain ⟨b, hb⟩ : ∃ b, row[i]? = some b := ⟨_, List.getElem?_eq_getElem (by omega)⟩
      obtain ⟨q2, hq2, hpr⟩ := Paired.at_ h4 hb
      have a1 : atI (args.map V.int) (i : Int) = some (.int x) := atI_map hx
      have a2 : atI (as.map V.ref) (i : Int) = some (.ref q2) := atI_map hq2
      simp only [Int.zero_add, tSeq, tIfS, tTest, tOp, rI0, rI, rEq, rNe, tVar, tC, tRet, tRetN, tNext, tUn, rU, L2.start, tFld, sFld, sFldAug, rAdd, rSub, tDrop, tAsg, gName, tAug, tAugS, ipI, tCons, tNil, tLst, tCall, tMeth, tMake, tCB, tNot, tAnd, tOr, tB, tAndV, tOrV, tNotV, rIxH, rSetL, tSl, tPart, tNoPart, rSlH, rCat, rRep, rSumN, tBM, rAppend, rExtend, tCallV, tDinK, tDgetK, tlc_list, tYes, scal, exists_eq_left', exists_eq_left, exists_and_left, Option.some.injEq, L3.vi, L3.vr, L3.vb, List.map_cons, List.map_nil, List.length_cons, List.length_nil, Nat.reduceAdd, Nat.reduceSub, Nat.zero_add, Nat.sub_self, List.replicate, List.cons_append, List.nil_append, List.append_nil, L3.gz, L3.gs, L3.z0, L3.z1, and_true, true_and, Bool.not_eq_true, HO.ins.injEq, L3.hl, and_assoc, decide_eq_true_eq, Bool.false_eq_true, if_false, if_true, List.cons.injEq, cxK, Nat.reduceLT, Nat.reduceLeDiff, upd_same, upd_upd, tfor_range1, tfor_list, Int.toNat_natCast, vN_inj, vN_length, vN_set, Int.neg_neg, hg, a1]
      refine ⟨q, as.map V.ref, i, .ref q2, rfl, rfl, h3.sq, a2, q2, [.int b.1, .int b.2], 0, .int b.1, rfl, rfl, TupK.sq hpr, at0 _ _, ?_⟩
      simp only [tSeq, tIfS, tTest, tOp, rI0, rI, rEq, rNe, tVar, tC, tRet, tRetN, tNext, tUn, rU, L2.start, tFld, sFld, sFldAug, rAdd, rSub, tDrop, tAsg, gName, tAug, tAugS, ipI, tCons, tNil, tLst, tCall, tMeth, tMake, tCB, tNot, tAnd, tOr, tB, tAndV, tOrV, tNotV, rIxH, rSetL, tSl, tPart, tNoPart, rSlH, rCat, rRep, rSumN, tBM, rAppend, rExtend, tCallV, tDinK, tDgetK, tlc_list, tYes, scal, exists_eq_left', exists_eq_left, exists_and_left, Option.some.injEq, L3.vi, L3.vr, L3.vb, List.map_cons, List.map_nil, List.length_cons, List.length_nil, Nat.reduceAdd, Nat.reduceSub, Nat.zero_add, Nat.sub_self, List.replicate, List.cons_append, List.nil_append, List.append_nil, L3.gz, L3.gs, L3.z0, L3.z1, and_true, true_and, Bool.not_eq_true, HO.ins.injEq, L3.hl, and_assoc, decide_eq_true_eq, Bool.false_eq_true, if_false, if_true, List.cons.injEq, cxK, Nat.reduceLT, Nat.reduceLeDiff, upd_same, upd_upd, tfor_range1, tfor_list, Int.toNat_natCast, vN_inj, vN_length, vN_set, Int.neg_neg, hg, a1]
      refine ite2 (fun h0 => ?_) fun h0 => ?_
      · have hf : Vbdlan.ranges c = false := by
          cases e : Vbdlan.ranges c with
          | false => rfl
          | true =>
            have z : InRow row args := by
              by_cases h3' : p = 3
              · subst h3'
                obtain ⟨_, _, _, _, _, hh⟩ := hd.range3 hrow
                exact (hh.mp e).1
              · exact (hd.range hrow h3').mp e
            have := z i b x hb hx
            omega
        rw [hf] at k
        exact k
      · refine ⟨q, as.map V.ref, i, .ref q2, rfl, rfl, h3.sq, a2, q2, [.int b.1, .int b.2], 1, .int b.2, rfl, rfl, TupK.sq hpr, at1 _ _ _, ?_⟩
        simp only [tSeq, tIfS, tTest, tOp, rI0, rI, rEq, rNe, tVar, tC, tRet, tRetN, tNext, tUn, rU, L2.start, tFld, sFld, sFldAug, rAdd, rSub, tDrop, tAsg, gName, tAug, tAugS, ipI, tCons, tNil, tLst, tCall, tMeth, tMake, tCB, tNot, tAnd, tOr, tB, tAndV, tOrV, tNotV, rIxH, rSetL, tSl, tPart, tNoPart, rSlH, rCat, rRep, rSumN, tBM, rAppend, rExtend, tCallV, tDinK, tDgetK, tlc_list, tYes, scal, exists_eq_left', exists_eq_left, exists_and_left, Option.some.injEq, L3.vi, L3.vr, L3.vb, List.map_cons, List.map_nil, List.length_cons, List.length_nil, Nat.reduceAdd, Nat.reduceSub, Nat.zero_add, Nat.sub_self, List.replicate, List.cons_append, List.nil_append, List.append_nil, L3.gz, L3.gs, L3.z0, L3.z1, and_true, true_and, Bool.not_eq_true, HO.ins.injEq, L3.hl, and_assoc, decide_eq_true_eq, Bool.false_eq_true, if_false, if_true, List.cons.injEq, cxK, Nat.reduceLT, Nat.reduceLeDiff, upd_same, upd_upd, tfor_range1, tfor_list, Int.toNat_natCast, vN_inj, vN_length, vN_set, Int.neg_neg]
        refine ite2 (fun h5 => ?_) fun h5 => ?_
        · have hf : Vbdlan.ranges c = false := by
            cases e : Vbdlan.ranges c with
            | false => rfl
            | true =>
              have z : InRow row args := by
                by_cases h3' : p = 3
                · subst h3'
                  obtain ⟨_, _, _, _, _, hh⟩ := hd.range3 hrow
                  exact (hh.mp e).1
                · exact (hd.range hrow h3').mp e
              have := z i b x hb hx
              omega
          rw [hf] at k
          exact k
        · refine ⟨⟨_, rfl⟩, rfl, fun j b' x' hj hb' hx' => ?_⟩
          by_cases e : j = i
          · subst e
            rw [hb] at hb'
            rw [hx] at hx'
            cases hb'
            cases hx'
            omega
          · exact hin j b' x' (by omega) hb' hx'
    · rintro σ H' ⟨⟨v3, rfl⟩, rfl, hin⟩
      have z : InRow row args := fun j b x hb hx => hin j b x (List.getElem?_eq_some_iff.mp hx).1 hb hx
      subst hU
      dsimp only
      refine hide1 fun U hU => ?_
      simp only [tSeq, tIfS, tTest, tOp, rI0, rI, rEq, rNe, tVar, tC, tRet, tRetN, tNext, tUn, rU, L2.start, tFld, sFld, sFldAug, rAdd, rSub, tDrop, tAsg, gName, tAug, tAugS, ipI, tCons, tNil, tLst, tCall, tMeth, tMake, tCB, tNot, tAnd, tOr, tB, tAndV, tOrV, tNotV, rIxH, rSetL, tSl, tPart, tNoPart, rSlH, rCat, rRep, rSumN, tBM, rAppend, rExtend, tCallV, tDinK, tDgetK, tlc_list, tYes, scal, exists_eq_left', exists_eq_left, exists_and_left, Option.some.injEq, L3.vi, L3.vr, L3.vb, List.map_cons, List.map_nil, List.length_cons, List.length_nil, Nat.reduceAdd, Nat.reduceSub, Nat.zero_add, Nat.sub_self, List.replicate, List.cons_append, List.nil_append, List.append_nil, L3.gz, L3.gs, L3.z0, L3.z1, and_true, true_and, Bool.not_eq_true, HO.ins.injEq, L3.hl, and_assoc, decide_eq_true_eq, Bool.false_eq_true, if_false, if_true, List.cons.injEq, cxK, Nat.reduceLT, Nat.reduceLeDiff, upd_same, upd_upd, tfor_range1, tfor_list, Int.toNat_natCast, vN_inj, vN_length, vN_set, Int.neg_neg]
      refine ite2 (fun h0 => ?_) fun h0 => ?_
      · have e3 : p = 3 := by omega
        subst e3
        obtain ⟨i1, i2, i3, i4, rfl, hh⟩ := hd.range3 hrow
        simp only [hg, List.map_cons, List.map_nil, at0, at1, at2, at3, tSeq, tIfS, tTest, tOp, rI0, rI, rEq, rNe, tVar, tC, tRet, tRetN, tNext, tUn, rU, L2.start, tFld, sFld, sFldAug, rAdd, rSub, tDrop, tAsg, gName, tAug, tAugS, ipI, tCons, tNil, tLst, tCall, tMeth, tMake, tCB, tNot, tAnd, tOr, tB, tAndV, tOrV, tNotV, rIxH, rSetL, tSl, tPart, tNoPart, rSlH, rCat, rRep, rSumN, tBM, rAppend, rExtend, tCallV, tDinK, tDgetK, tlc_list, tYes, scal, exists_eq_left', exists_eq_left, exists_and_left, Option.some.injEq, L3.vi, L3.vr, L3.vb, List.map_cons, List.map_nil, List.length_cons, List.length_nil, Nat.reduceAdd, Nat.reduceSub, Nat.zero_add, Nat.sub_self, List.replicate, List.cons_append, List.nil_append, List.append_nil, L3.gz, L3.gs, L3.z0, L3.z1, and_true, true_and, Bool.not_eq_true, HO.ins.injEq, L3.hl, and_assoc, decide_eq_true_eq, Bool.false_eq_true, if_false, if_true, List.cons.injEq, cxK, Nat.reduceLT, Nat.reduceLeDiff, upd_same, upd_upd, tfor_range1, tfor_list, Int.toNat_natCast, vN_inj, vN_length, vN_set, Int.neg_neg]
        refine ite2 (fun h6 => ?_) fun h6 => ?_
        · have e : Vbdlan.ranges c = decide (i3 ≤ i4) := by
            by_cases h7 : i3 ≤ i4
            · rw [decide_eq_true h7]; exact hh.mpr ⟨z, h6, h7⟩
            · rw [decide_eq_false h7]
              cases e : Vbdlan.ranges c with
              | false => rfl
              | true => exact absurd (hh.mp e).2.2 h7
          rw [e] at k
          exact k
        · have e : Vbdlan.ranges c = false := by
            cases e : Vbdlan.ranges c with
            | false => rfl
            | true => exact absurd (hh.mp e).2.1 h6
          rw [e] at k
          exact k
      · have e : Vbdlan.ranges c = true := (hd.range hrow (by omega)).mpr z
        rw [e] at k
        subst hU
        simp only [tSeq, tIfS, tTest, tOp, rI0, rI, rEq, rNe, tVar, tC, tRet, tRetN, tNext, tUn, rU, L2.start, tFld, sFld, sFldAug, rAdd, rSub, tDrop, tAsg, gName, tAug, tAugS, ipI, tCons, tNil, tLst, tCall, tMeth, tMake, tCB, tNot, tAnd, tOr, tB, tAndV, tOrV, tNotV, rIxH, rSetL, tSl, tPart, tNoPart, rSlH, rCat, rRep, rSumN, tBM, rAppend, rExtend, tCallV, tDinK, tDgetK, tlc_list, tYes, scal, exists_eq_left', exists_eq_left, exists_and_left, Option.some.injEq, L3.vi, L3.vr, L3.vb, List.map_cons, List.map_nil, List.length_cons, List.length_nil, Nat.reduceAdd, Nat.reduceSub, Nat.zero_add, Nat.sub_self, List.replicate, List.cons_append, List.nil_append, List.append_nil, L3.gz, L3.gs, L3.z0, L3.z1, and_true, true_and, Bool.not_eq_true, HO.ins.injEq, L3.hl, and_assoc, decide_eq_true_eq, Bool.false_eq_true, if_false, if_true, List.cons.injEq, cxK, Nat.reduceLT, Nat.reduceLeDiff, upd_same, upd_upd, tfor_range1, tfor_list, Int.toNat_natCast, vN_inj, vN_length, vN_set, Int.neg_neg]
        exact k
def sp_nms (a : Adr) : Sp := fun vs H Q _ => ∃ (p : Nat) (d gv dd : Addr) (y : DI) (xs : List V) (args : List Int) (c : Vbdlan.Call), vs = [.ref d, .int p, .ref gv] ∧ H d = some (.ins a.C_Device dd (df y)) ∧ H y.sols = some (.lst xs) ∧ H gv = some (.lst (args.map V.int)) ∧ Dec p args c ∧ Q (.bl (missing c xs.length)) H
theorem ok_names_missing_solute (T : Txt K mg a) : FnOk P w K mg base CX0 1 a.f_names_missing_solute a.d_names_missing_solute ["device", "place", "given"] (sp_nms a) := by
  refine T.F_names_missing_solute.ok sc_names_missing_solute (fun vs H Q E h => ?_) (fun cdv A outer s H vs Q E hr h => ?_)
  · obtain ⟨_, _, _, _, _, _, _, _, rfl, _⟩ := h
    rfl
  · obtain ⟨p, d, gv, dd, y, xs, args, c, rfl, hdv, hsl, hg, hd, k⟩ := h
    refine ⟨_, (pss_one (ps_ret (pe_and (pe_cmp (pc_dinK T.d_SOLUTE_AT (by decide) (pv 1) (pe_gref T.g_SOLUTE_AT))) (pe_one (pe_cmpR op_ge (pe_ix ix_lst (pv 2) (pe_dgetK T.d_SOLUTE_AT (by decide) (pe_gref T.g_SOLUTE_AT) (pv 1) (fun _ _ => rfl)) (fun _ _ => rfl)) (pe_callB call_len_lst (by rfl) T.b_len PySem.boot_len (pa_cons (pe_fld (pv 0) rfl) pa_nil)) (nomark _)))))), ?_⟩
    unfold missing at k
    rcases hd.at_ with ⟨h1, h2⟩ | ⟨i, j, h1, h2, h3⟩
    · have h1 : List.lookup (p : Int) ([(1, 0), (2, 0), (5, 0), (6, 0), (12, 0), (14, 0), (15, 0), (16, 0), (18, 1)] : List (Int × Int)) = none := h1
      rw [h2] at k
      simp only [tSeq, tIfS, tTest, tOp, rI0, rI, rEq, rNe, tVar, tC, tRet, tRetN, tNext, tUn, rU, L2.start, tFld, sFld, sFldAug, rAdd, rSub, tDrop, tAsg, gName, tAug, tAugS, ipI, tCons, tNil, tLst, tCall, tMeth, tMake, tCB, tNot, tAnd, tOr, tB, tAndV, tOrV, tNotV, rIxH, rSetL, tSl, tPart, tNoPart, rSlH, rCat, rRep, rSumN, tBM, rAppend, rExtend, tCallV, tDinK, tDgetK, tlc_list, tYes, scal, exists_eq_left', exists_eq_left, exists_and_left, Option.some.injEq, L3.vi, L3.vr, L3.vb, List.map_cons, List.map_nil, List.length_cons, List.length_nil, Nat.reduceAdd, Nat.reduceSub, Nat.zero_add, Nat.sub_self, List.replicate, List.cons_append, List.nil_append, List.append_nil, L3.gz, L3.gs, L3.z0, L3.z1, and_true, true_and, Bool.not_eq_true, HO.ins.injEq, L3.hl, and_assoc, decide_eq_true_eq, Bool.false_eq_true, if_false, if_true, List.cons.injEq, cxK, Nat.reduceLT, Nat.reduceLeDiff, upd_same, upd_upd, tfor_range1, tfor_list, Int.toNat_natCast, vN_inj, vN_length, vN_set, Int.neg_neg, df_all, h1, Option.isSome_none, Option.isSome]
      exact k
    · have h1 : List.lookup (p : Int) ([(1, 0), (2, 0), (5, 0), (6, 0), (12, 0), (14, 0), (15, 0), (16, 0), (18, 1)] : List (Int × Int)) = some (i : Int) := h1
      rw [h3] at k
      have a1 : atI (args.map V.int) (i : Int) = some (.int j) := atI_map h2
      simp only [tSeq, tIfS, tTest, tOp, rI0, rI, rEq, rNe, tVar, tC, tRet, tRetN, tNext, tUn, rU, L2.start, tFld, sFld, sFldAug, rAdd, rSub, tDrop, tAsg, gName, tAug, tAugS, ipI, tCons, tNil, tLst, tCall, tMeth, tMake, tCB, tNot, tAnd, tOr, tB, tAndV, tOrV, tNotV, rIxH, rSetL, tSl, tPart, tNoPart, rSlH, rCat, rRep, rSumN, tBM, rAppend, rExtend, tCallV, tDinK, tDgetK, tlc_list, tYes, scal, exists_eq_left', exists_eq_left, exists_and_left, Option.some.injEq, L3.vi, L3.vr, L3.vb, List.map_cons, List.map_nil, List.length_cons, List.length_nil, Nat.reduceAdd, Nat.reduceSub, Nat.zero_add, Nat.sub_self, List.replicate, List.cons_append, List.nil_append, List.append_nil, L3.gz, L3.gs, L3.z0, L3.z1, and_true, true_and, Bool.not_eq_true, HO.ins.injEq, L3.hl, and_assoc, decide_eq_true_eq, Bool.false_eq_true, if_false, if_true, List.cons.injEq, cxK, Nat.reduceLT, Nat.reduceLeDiff, upd_same, upd_upd, tfor_range1, tfor_list, Int.toNat_natCast, vN_inj, vN_length, vN_set, Int.neg_neg, df_all, h1, Option.isSome, hg, a1, hdv, hsl, T.nos_Device]
      exact k
/-! one call -/
def fC (a : Adr) : List Addr := [a.f_lay, a.f_set_share, a.f_set_fresh, a.f_set_rates, a.f_set_pools, a.f_give_dose, a.f_set_growth, a.f_set_round, a.f_run_ticks, a.f_tell_blood, a.f_tell_bath, a.f_tell_patient, a.f_tell_totals, a.f_set_mark, a.f_tell_extraction, a.f_tell_reduction, a.f_tell_profile, a.f_tell_look, a.f_tell_would]
def spsC (a : Adr) : List (Addr × Sp) := [(a.f_lay, sp_call a 0), (a.f_set_share, sp_call a 1), (a.f_set_fresh, sp_call a 2), (a.f_set_rates, sp_call a 3), (a.f_set_pools, sp_call a 4), (a.f_give_dose, sp_call a 5), (a.f_set_growth, sp_call a 6), (a.f_set_round, sp_call a 7), (a.f_run_ticks, sp_call a 8), (a.f_tell_blood, sp_call a 9), (a.f_tell_bath, sp_call a 10), (a.f_tell_patient, sp_call a 11), (a.f_tell_totals, sp_call a 12), (a.f_set_mark, sp_call a 13), (a.f_tell_extraction, sp_call a 14), (a.f_tell_reduction, sp_call a 15), (a.f_tell_profile, sp_call a 16), (a.f_tell_look, sp_call a 17), (a.f_tell_would, sp_call a 18)]
theorem spsC_at {a : Adr} {p : Nat} (h : p < 19) : ∃ f, (fC a)[p]? = some f ∧ (f, sp_call a p) ∈ spsC a := by
  have e : (spsC a)[p]? = ((fC a)[p]?).map fun f => (f, sp_call a p) := by
    match p, h with
    | 0, _ => rfl
    | 1, _ => rfl
    | 2, _ => rfl
    | 3, _ => rfl
    | 4, _ => rfl
    | 5, _ => rfl
    | 6, _ => rfl
    | 7, _ => rfl
    | 8, _ => rfl
    | 9, _ => rfl
    | 10, _ => rfl
    | 11, _ => rfl
    | 12, _ => rfl
    | 13, _ => rfl
    | 14, _ => rfl
    | 15, _ => rfl
    | 16, _ => rfl
    | 17, _ => rfl
    | 18, _ => rfl
    | n + 19, h => exact absurd h (by omega)
  obtain ⟨f, hf⟩ : ∃ f, (fC a)[p]? = some f := ⟨_, List.getElem?_eq_getElem (show p < (fC a).length from h)⟩
  rw [hf] at e
  exact ⟨f, hf, List.mem_of_getElem? e⟩
theorem okC (T : Txt K mg a) : ∀ f sp, (f, sp) ∈ spsC a → ∃ fd ps, FnOk P w K mg base CX0 8 f fd ps sp ∧ Binds K fd ps [] ∧ PySem.W.keepIn K (.ref f) = true := by
  intro f sp h
  simp only [spsC, List.mem_cons, List.not_mem_nil, or_false, Prod.mk.injEq] at h
  rcases h with ⟨rfl, rfl⟩ | ⟨rfl, rfl⟩ | ⟨rfl, rfl⟩ | ⟨rfl, rfl⟩ | ⟨rfl, rfl⟩ | ⟨rfl, rfl⟩ | ⟨rfl, rfl⟩ | ⟨rfl, rfl⟩ | ⟨rfl, rfl⟩ | ⟨rfl, rfl⟩ | ⟨rfl, rfl⟩ | ⟨rfl, rfl⟩ | ⟨rfl, rfl⟩ | ⟨rfl, rfl⟩ | ⟨rfl, rfl⟩ | ⟨rfl, rfl⟩ | ⟨rfl, rfl⟩ | ⟨rfl, rfl⟩ | ⟨rfl, rfl⟩
  · exact ⟨_, _, ok_lay T, T.bi_lay, T.F_lay.kp⟩
  · exact ⟨_, _, ok_set_share T, T.bi_set_share, T.F_set_share.kp⟩
  · exact ⟨_, _, ok_set_fresh T, T.bi_set_fresh, T.F_set_fresh.kp⟩
  · exact ⟨_, _, ok_set_rates T, T.bi_set_rates, T.F_set_rates.kp⟩
  · exact ⟨_, _, ok_set_pools T, T.bi_set_pools, T.F_set_pools.kp⟩
  · exact ⟨_, _, ok_give_dose T, T.bi_give_dose, T.F_give_dose.kp⟩
  · exact ⟨_, _, ok_set_growth T, T.bi_set_growth, T.F_set_growth.kp⟩
  · exact ⟨_, _, ok_set_round T, T.bi_set_round, T.F_set_round.kp⟩
  · exact ⟨_, _, ok_run_ticks T, T.bi_run_ticks, T.F_run_ticks.kp⟩
  · exact ⟨_, _, ok_tell_blood T, T.bi_tell_blood, T.F_tell_blood.kp⟩
  · exact ⟨_, _, ok_tell_bath T, T.bi_tell_bath, T.F_tell_bath.kp⟩
  · exact ⟨_, _, ok_tell_patient T, T.bi_tell_patient, T.F_tell_patient.kp⟩
  · exact ⟨_, _, ok_tell_totals T, T.bi_tell_totals, T.F_tell_totals.kp⟩
  · exact ⟨_, _, ok_set_mark T, T.bi_set_mark, T.F_set_mark.kp⟩
  · exact ⟨_, _, ok_tell_extraction T, T.bi_tell_extraction, T.F_tell_extraction.kp⟩
  · exact ⟨_, _, ok_tell_reduction T, T.bi_tell_reduction, T.F_tell_reduction.kp⟩
  · exact ⟨_, _, ok_tell_profile T, T.bi_tell_profile, T.F_tell_profile.kp⟩
  · exact ⟨_, _, ok_tell_look T, T.bi_tell_look, T.F_tell_look.kp⟩
  · exact ⟨_, _, ok_tell_would T, T.bi_tell_would, T.F_tell_would.kp⟩
end
end Bb

set_option Elab.async false
set_option linter.all false
set_option maxRecDepth 100000
namespace Bb
open PySem PySem.Spec PyProof.Rows L2 L3
section
variable {P : Program} {w : World} {K : PySem.W.Frag} {mg : Str → Option Value} {base : Heap} {a : Adr}
def sp_answer (a : Adr) : Sp := fun vs H Q _ => ∃ (D : DX) (gv : Addr) (s : Vbdlan.St) (p : Nat) (args : List Int) (c : Vbdlan.Call), vs = [.ref D.d, .int p, .ref gv] ∧ H gv = some (.lst (args.map V.int)) ∧ gv ∉ D.fp ∧ DevS a H D s ∧ StOk s ∧ Dec p args c ∧ Post a H D (Vbdlan.step s c) Q
theorem ok_answer (T : Txt K mg a) : FnOk P w K mg base CX0 9 a.f_answer a.d_answer ["device", "place", "given"] (sp_answer a) := by
  refine T.F_answer.ok sc_answer (fun vs H Q E h => ?_) (fun cdv A outer s H vs Q E hr h => ?_)
  · obtain ⟨_, _, _, _, _, _, rfl, _⟩ := h
    rfl
  · obtain ⟨D, gv, st, p, args, c, rfl, hg, hoff, DS, SO, hd, k⟩ := h
    have hdev := DS.dev
    have hls := DS.da.lst
    have hln : (refs D.ps).length = st.solutes.length := by rw [refs_len, DS.da.len]
    refine ⟨_, (pss_cons (ps_if (pt_not (pt_val (pe_call (ok_in_range T) (hr.mono (by decide)) rfl T.g_in_range T.F_in_range.kp T.bi_in_range .nil pass0 (pa_cons (pv 1) (pa_cons (pv 2) pa_nil))))) (pss_one (ps_ret (pe_lst (pa_cons (pe_gint T.g_OUT_OF_RANGE) pa_nil)))) pss_nil) (pss_cons (ps_if (pw_and (pt_cmpR op_ne (pv 1) (pe_gint T.g_LAY) (nomark _)) (pw_and1 (pt_not (pt_val (pe_fld (pv 0) rfl))))).pt (pss_one (ps_ret (pe_lst (pa_cons (pe_gint T.g_NOT_LAID) pa_nil)))) pss_nil) (pss_cons (ps_if (pt_val (pe_call (ok_names_missing_solute T) (hr.mono (by decide)) rfl T.g_names_missing_solute T.F_names_missing_solute.kp T.bi_names_missing_solute .nil pass0 (pa_cons (pv 0) (pa_cons (pv 1) (pa_cons (pv 2) pa_nil))))) (pss_one (ps_ret (pe_lst (pa_cons (pe_gint T.g_NOT_THERE) pa_nil)))) pss_nil) (pss_one (ps_ret (pe_callV (sps := spsC a) (okC T) (hr.mono (by decide)) (pe_ix ix_tup (pe_gref T.g_CALLS) (pv 1) (fun _ _ => rfl)) (pa_cons (pv 0) (pa_cons (pv 2) pa_nil)))))))), ?_⟩
    refine hide1 fun U hU => ?_
    simp only [tSeq, tIfS, tTest, tOp, rI0, rI, rEq, rNe, tVar, tC, tRet, tRetN, tNext, tUn, rU, L2.start, tFld, sFld, sFldAug, rAdd, rSub, tDrop, tAsg, gName, tAug, tAugS, ipI, tCons, tNil, tLst, tCall, tMeth, tMake, tCB, tNot, tAnd, tOr, tB, tAndV, tOrV, tNotV, rIxH, rSetL, tSl, tPart, tNoPart, rSlH, rCat, rRep, rSumN, tBM, rAppend, rExtend, tCallV, tDinK, tDgetK, tlc_list, tYes, scal, exists_eq_left', exists_eq_left, exists_and_left, Option.some.injEq, L3.vi, L3.vr, L3.vb, List.map_cons, List.map_nil, List.length_cons, List.length_nil, Nat.reduceAdd, Nat.reduceSub, Nat.zero_add, Nat.sub_self, List.replicate, List.cons_append, List.nil_append, List.append_nil, L3.gz, L3.gs, L3.z0, L3.z1, and_true, true_and, Bool.not_eq_true, HO.ins.injEq, L3.hl, and_assoc, decide_eq_true_eq, Bool.false_eq_true, if_false, if_true, List.cons.injEq, cxK, Nat.reduceLT, Nat.reduceLeDiff, upd_same, upd_upd, tfor_range1, tfor_list, Int.toNat_natCast, vN_inj, vN_length, vN_set, Int.neg_neg]
    refine ⟨p, gv, args, c, rfl, hg, hd, ?_⟩
    simp only [tSeq, tIfS, tTest, tOp, rI0, rI, rEq, rNe, tVar, tC, tRet, tRetN, tNext, tUn, rU, L2.start, tFld, sFld, sFldAug, rAdd, rSub, tDrop, tAsg, gName, tAug, tAugS, ipI, tCons, tNil, tLst, tCall, tMeth, tMake, tCB, tNot, tAnd, tOr, tB, tAndV, tOrV, tNotV, rIxH, rSetL, tSl, tPart, tNoPart, rSlH, rCat, rRep, rSumN, tBM, rAppend, rExtend, tCallV, tDinK, tDgetK, tlc_list, tYes, scal, exists_eq_left', exists_eq_left, exists_and_left, Option.some.injEq, L3.vi, L3.vr, L3.vb, List.map_cons, List.map_nil, List.length_cons, List.length_nil, Nat.reduceAdd, Nat.reduceSub, Nat.zero_add, Nat.sub_self, List.replicate, List.cons_append, List.nil_append, List.append_nil, L3.gz, L3.gs, L3.z0, L3.z1, and_true, true_and, Bool.not_eq_true, HO.ins.injEq, L3.hl, and_assoc, decide_eq_true_eq, Bool.false_eq_true, if_false, if_true, List.cons.injEq, cxK, Nat.reduceLT, Nat.reduceLeDiff, upd_same, upd_upd, tfor_range1, tfor_list, Int.toNat_natCast, vN_inj, vN_length, vN_set, Int.neg_neg]
    cases hrg : Vbdlan.ranges c with
    | false =>
      rw [step_out hrg] at k
      simp only [tSeq, tIfS, tTest, tOp, rI0, rI, rEq, rNe, tVar, tC, tRet, tRetN, tNext, tUn, rU, L2.start, tFld, sFld, sFldAug, rAdd, rSub, tDrop, tAsg, gName, tAug, tAugS, ipI, tCons, tNil, tLst, tCall, tMeth, tMake, tCB, tNot, tAnd, tOr, tB, tAndV, tOrV, tNotV, rIxH, rSetL, tSl, tPart, tNoPart, rSlH, rCat, rRep, rSumN, tBM, rAppend, rExtend, tCallV, tDinK, tDgetK, tlc_list, tYes, scal, exists_eq_left', exists_eq_left, exists_and_left, Option.some.injEq, L3.vi, L3.vr, L3.vb, List.map_cons, List.map_nil, List.length_cons, List.length_nil, Nat.reduceAdd, Nat.reduceSub, Nat.zero_add, Nat.sub_self, List.replicate, List.cons_append, List.nil_append, List.append_nil, L3.gz, L3.gs, L3.z0, L3.z1, and_true, true_and, Bool.not_eq_true, HO.ins.injEq, L3.hl, and_assoc, decide_eq_true_eq, Bool.false_eq_true, if_false, if_true, List.cons.injEq, cxK, Nat.reduceLT, Nat.reduceLeDiff, upd_same, upd_upd, tfor_range1, tfor_list, Int.toNat_natCast, vN_inj, vN_length, vN_set, Int.neg_neg, Bool.not_false]
      refine ⟨by decide, ?_⟩
      intro l f_l
      generalize hG_l : upd H l _ = H1
      obtain ⟨e_l, S_l⟩ := new_facts hG_l f_l
      clear hG_l
      exact k.tell DS rfl S_l e_l f_l
    | true =>
      simp only [tSeq, tIfS, tTest, tOp, rI0, rI, rEq, rNe, tVar, tC, tRet, tRetN, tNext, tUn, rU, L2.start, tFld, sFld, sFldAug, rAdd, rSub, tDrop, tAsg, gName, tAug, tAugS, ipI, tCons, tNil, tLst, tCall, tMeth, tMake, tCB, tNot, tAnd, tOr, tB, tAndV, tOrV, tNotV, rIxH, rSetL, tSl, tPart, tNoPart, rSlH, rCat, rRep, rSumN, tBM, rAppend, rExtend, tCallV, tDinK, tDgetK, tlc_list, tYes, scal, exists_eq_left', exists_eq_left, exists_and_left, Option.some.injEq, L3.vi, L3.vr, L3.vb, List.map_cons, List.map_nil, List.length_cons, List.length_nil, Nat.reduceAdd, Nat.reduceSub, Nat.zero_add, Nat.sub_self, List.replicate, List.cons_append, List.nil_append, List.append_nil, L3.gz, L3.gs, L3.z0, L3.z1, and_true, true_and, Bool.not_eq_true, HO.ins.injEq, L3.hl, and_assoc, decide_eq_true_eq, Bool.false_eq_true, if_false, if_true, List.cons.injEq, cxK, Nat.reduceLT, Nat.reduceLeDiff, upd_same, upd_upd, tfor_range1, tfor_list, Int.toNat_natCast, vN_inj, vN_length, vN_set, Int.neg_neg, Bool.not_true]
      subst hU
      refine hide1 fun U hU => ?_
      have next : (Vbdlan.isLay c = false → st.laid = true) → U { nx := fun _ H' => Q .non H', rt := Q } [some (.ref D.d), some (.int p), some (.ref gv)] H := by
        intro hl
        subst hU
        refine hide1 fun U hU => ?_
        simp only [tSeq, tIfS, tTest, tOp, rI0, rI, rEq, rNe, tVar, tC, tRet, tRetN, tNext, tUn, rU, L2.start, tFld, sFld, sFldAug, rAdd, rSub, tDrop, tAsg, gName, tAug, tAugS, ipI, tCons, tNil, tLst, tCall, tMeth, tMake, tCB, tNot, tAnd, tOr, tB, tAndV, tOrV, tNotV, rIxH, rSetL, tSl, tPart, tNoPart, rSlH, rCat, rRep, rSumN, tBM, rAppend, rExtend, tCallV, tDinK, tDgetK, tlc_list, tYes, scal, exists_eq_left', exists_eq_left, exists_and_left, Option.some.injEq, L3.vi, L3.vr, L3.vb, List.map_cons, List.map_nil, List.length_cons, List.length_nil, Nat.reduceAdd, Nat.reduceSub, Nat.zero_add, Nat.sub_self, List.replicate, List.cons_append, List.nil_append, List.append_nil, L3.gz, L3.gs, L3.z0, L3.z1, and_true, true_and, Bool.not_eq_true, HO.ins.injEq, L3.hl, and_assoc, decide_eq_true_eq, Bool.false_eq_true, if_false, if_true, List.cons.injEq, cxK, Nat.reduceLT, Nat.reduceLeDiff, upd_same, upd_upd, tfor_range1, tfor_list, Int.toNat_natCast, vN_inj, vN_length, vN_set, Int.neg_neg]
        refine ⟨p, D.d, gv, D.dd, _, refs D.ps, args, c, rfl, hdev, hls, hg, hd, ?_⟩
        rw [hln]
        simp only [tSeq, tIfS, tTest, tOp, rI0, rI, rEq, rNe, tVar, tC, tRet, tRetN, tNext, tUn, rU, L2.start, tFld, sFld, sFldAug, rAdd, rSub, tDrop, tAsg, gName, tAug, tAugS, ipI, tCons, tNil, tLst, tCall, tMeth, tMake, tCB, tNot, tAnd, tOr, tB, tAndV, tOrV, tNotV, rIxH, rSetL, tSl, tPart, tNoPart, rSlH, rCat, rRep, rSumN, tBM, rAppend, rExtend, tCallV, tDinK, tDgetK, tlc_list, tYes, scal, exists_eq_left', exists_eq_left, exists_and_left, Option.some.injEq, L3.vi, L3.vr, L3.vb, List.map_cons, List.map_nil, List.length_cons, List.length_nil, Nat.reduceAdd, Nat.reduceSub, Nat.zero_add, Nat.sub_self, List.replicate, List.cons_append, List.nil_append, List.append_nil, L3.gz, L3.gs, L3.z0, L3.z1, and_true, true_and, Bool.not_eq_true, HO.ins.injEq, L3.hl, and_assoc, decide_eq_true_eq, Bool.false_eq_true, if_false, if_true, List.cons.injEq, cxK, Nat.reduceLT, Nat.reduceLeDiff, upd_same, upd_upd, tfor_range1, tfor_list, Int.toNat_natCast, vN_inj, vN_length, vN_set, Int.neg_neg]
        cases hmi : missing c st.solutes.length with
        | true =>
          have hl1 : st.laid = true := by
            refine hl ?_
            cases e : Vbdlan.isLay c with
            | false => rfl
            | true =>
              unfold missing at hmi
              cases c <;> simp [Vbdlan.isLay] at e
              simp [named] at hmi
          rw [step_missing hrg hl1 hmi] at k
          simp only [tSeq, tIfS, tTest, tOp, rI0, rI, rEq, rNe, tVar, tC, tRet, tRetN, tNext, tUn, rU, L2.start, tFld, sFld, sFldAug, rAdd, rSub, tDrop, tAsg, gName, tAug, tAugS, ipI, tCons, tNil, tLst, tCall, tMeth, tMake, tCB, tNot, tAnd, tOr, tB, tAndV, tOrV, tNotV, rIxH, rSetL, tSl, tPart, tNoPart, rSlH, rCat, rRep, rSumN, tBM, rAppend, rExtend, tCallV, tDinK, tDgetK, tlc_list, tYes, scal, exists_eq_left', exists_eq_left, exists_and_left, Option.some.injEq, L3.vi, L3.vr, L3.vb, List.map_cons, List.map_nil, List.length_cons, List.length_nil, Nat.reduceAdd, Nat.reduceSub, Nat.zero_add, Nat.sub_self, List.replicate, List.cons_append, List.nil_append, List.append_nil, L3.gz, L3.gs, L3.z0, L3.z1, and_true, true_and, Bool.not_eq_true, HO.ins.injEq, L3.hl, and_assoc, decide_eq_true_eq, Bool.false_eq_true, if_false, if_true, List.cons.injEq, cxK, Nat.reduceLT, Nat.reduceLeDiff, upd_same, upd_upd, tfor_range1, tfor_list, Int.toNat_natCast, vN_inj, vN_length, vN_set, Int.neg_neg]
          refine ⟨by decide, ?_⟩
          intro l f_l
          generalize hG_l : upd H l _ = H1
          obtain ⟨e_l, S_l⟩ := new_facts hG_l f_l
          clear hG_l
          exact k.tell DS rfl S_l e_l f_l
        | false =>
          subst hU
          obtain ⟨f, hf, hm⟩ := spsC_at (a := a) hd.lt
          have a1 : atI ((fC a).map V.ref) (p : Int) = some (.ref f) := atI_map hf
          simp only [tSeq, tIfS, tTest, tOp, rI0, rI, rEq, rNe, tVar, tC, tRet, tRetN, tNext, tUn, rU, L2.start, tFld, sFld, sFldAug, rAdd, rSub, tDrop, tAsg, gName, tAug, tAugS, ipI, tCons, tNil, tLst, tCall, tMeth, tMake, tCB, tNot, tAnd, tOr, tB, tAndV, tOrV, tNotV, rIxH, rSetL, tSl, tPart, tNoPart, rSlH, rCat, rRep, rSumN, tBM, rAppend, rExtend, tCallV, tDinK, tDgetK, tlc_list, tYes, scal, exists_eq_left', exists_eq_left, exists_and_left, Option.some.injEq, L3.vi, L3.vr, L3.vb, List.map_cons, List.map_nil, List.length_cons, List.length_nil, Nat.reduceAdd, Nat.reduceSub, Nat.zero_add, Nat.sub_self, List.replicate, List.cons_append, List.nil_append, List.append_nil, L3.gz, L3.gs, L3.z0, L3.z1, and_true, true_and, Bool.not_eq_true, HO.ins.injEq, L3.hl, and_assoc, decide_eq_true_eq, Bool.false_eq_true, if_false, if_true, List.cons.injEq, cxK, Nat.reduceLT, Nat.reduceLeDiff, upd_same, upd_upd, tfor_range1, tfor_list, Int.toNat_natCast, vN_inj, vN_length, vN_set, Int.neg_neg]
          refine ⟨a.r_CALLS, (fC a).map V.ref, p, .ref f, rfl, rfl, TupK.sq T.t_CALLS, a1, f, rfl, sp_call a p, hm, ?_⟩
          exact ⟨D, gv, st, args, c, ⟨rfl, hg, hoff, DS, SO⟩, hd, hrg, hl, hmi, k⟩
      have hlay := hd.lay0
      simp only [tSeq, tIfS, tTest, tOp, rI0, rI, rEq, rNe, tVar, tC, tRet, tRetN, tNext, tUn, rU, L2.start, tFld, sFld, sFldAug, rAdd, rSub, tDrop, tAsg, gName, tAug, tAugS, ipI, tCons, tNil, tLst, tCall, tMeth, tMake, tCB, tNot, tAnd, tOr, tB, tAndV, tOrV, tNotV, rIxH, rSetL, tSl, tPart, tNoPart, rSlH, rCat, rRep, rSumN, tBM, rAppend, rExtend, tCallV, tDinK, tDgetK, tlc_list, tYes, scal, exists_eq_left', exists_eq_left, exists_and_left, Option.some.injEq, L3.vi, L3.vr, L3.vb, List.map_cons, List.map_nil, List.length_cons, List.length_nil, Nat.reduceAdd, Nat.reduceSub, Nat.zero_add, Nat.sub_self, List.replicate, List.cons_append, List.nil_append, List.append_nil, L3.gz, L3.gs, L3.z0, L3.z1, and_true, true_and, Bool.not_eq_true, HO.ins.injEq, L3.hl, and_assoc, decide_eq_true_eq, Bool.false_eq_true, if_false, if_true, List.cons.injEq, cxK, Nat.reduceLT, Nat.reduceLeDiff, upd_same, upd_upd, tfor_range1, tfor_list, Int.toNat_natCast, vN_inj, vN_length, vN_set, Int.neg_neg, df_all, hdev, dI, T.nos_Device]
      by_cases h0 : p = 0
      · have e : Vbdlan.isLay c = true := by rw [hlay, decide_eq_true h0]
        subst h0
        simp only [tSeq, tIfS, tTest, tOp, rI0, rI, rEq, rNe, tVar, tC, tRet, tRetN, tNext, tUn, rU, L2.start, tFld, sFld, sFldAug, rAdd, rSub, tDrop, tAsg, gName, tAug, tAugS, ipI, tCons, tNil, tLst, tCall, tMeth, tMake, tCB, tNot, tAnd, tOr, tB, tAndV, tOrV, tNotV, rIxH, rSetL, tSl, tPart, tNoPart, rSlH, rCat, rRep, rSumN, tBM, rAppend, rExtend, tCallV, tDinK, tDgetK, tlc_list, tYes, scal, exists_eq_left', exists_eq_left, exists_and_left, Option.some.injEq, L3.vi, L3.vr, L3.vb, List.map_cons, List.map_nil, List.length_cons, List.length_nil, Nat.reduceAdd, Nat.reduceSub, Nat.zero_add, Nat.sub_self, List.replicate, List.cons_append, List.nil_append, List.append_nil, L3.gz, L3.gs, L3.z0, L3.z1, and_true, true_and, Bool.not_eq_true, HO.ins.injEq, L3.hl, and_assoc, decide_eq_true_eq, Bool.false_eq_true, if_false, if_true, List.cons.injEq, cxK, Nat.reduceLT, Nat.reduceLeDiff, upd_same, upd_upd, tfor_range1, tfor_list, Int.toNat_natCast, vN_inj, vN_length, vN_set, Int.neg_neg, Bool.not_true, decide_true, Int.natCast_zero]
        exact next fun z => by rw [e] at z; cases z
      · have e : Vbdlan.isLay c = false := by rw [hlay, decide_eq_false h0]
        have hp : ¬ ((p : Int) = 0) := by omega
        simp only [tSeq, tIfS, tTest, tOp, rI0, rI, rEq, rNe, tVar, tC, tRet, tRetN, tNext, tUn, rU, L2.start, tFld, sFld, sFldAug, rAdd, rSub, tDrop, tAsg, gName, tAug, tAugS, ipI, tCons, tNil, tLst, tCall, tMeth, tMake, tCB, tNot, tAnd, tOr, tB, tAndV, tOrV, tNotV, rIxH, rSetL, tSl, tPart, tNoPart, rSlH, rCat, rRep, rSumN, tBM, rAppend, rExtend, tCallV, tDinK, tDgetK, tlc_list, tYes, scal, exists_eq_left', exists_eq_left, exists_and_left, Option.some.injEq, L3.vi, L3.vr, L3.vb, List.map_cons, List.map_nil, List.length_cons, List.length_nil, Nat.reduceAdd, Nat.reduceSub, Nat.zero_add, Nat.sub_self, List.replicate, List.cons_append, List.nil_append, List.append_nil, L3.gz, L3.gs, L3.z0, L3.z1, and_true, true_and, Bool.not_eq_true, HO.ins.injEq, L3.hl, and_assoc, decide_eq_true_eq, Bool.false_eq_true, if_false, if_true, List.cons.injEq, cxK, Nat.reduceLT, Nat.reduceLeDiff, upd_same, upd_upd, tfor_range1, tfor_list, Int.toNat_natCast, vN_inj, vN_length, vN_set, Int.neg_neg, hp, decide_false, Bool.not_false]
        cases hl : st.laid with
        | true =>
          simp only [tSeq, tIfS, tTest, tOp, rI0, rI, rEq, rNe, tVar, tC, tRet, tRetN, tNext, tUn, rU, L2.start, tFld, sFld, sFldAug, rAdd, rSub, tDrop, tAsg, gName, tAug, tAugS, ipI, tCons, tNil, tLst, tCall, tMeth, tMake, tCB, tNot, tAnd, tOr, tB, tAndV, tOrV, tNotV, rIxH, rSetL, tSl, tPart, tNoPart, rSlH, rCat, rRep, rSumN, tBM, rAppend, rExtend, tCallV, tDinK, tDgetK, tlc_list, tYes, scal, exists_eq_left', exists_eq_left, exists_and_left, Option.some.injEq, L3.vi, L3.vr, L3.vb, List.map_cons, List.map_nil, List.length_cons, List.length_nil, Nat.reduceAdd, Nat.reduceSub, Nat.zero_add, Nat.sub_self, List.replicate, List.cons_append, List.nil_append, List.append_nil, L3.gz, L3.gs, L3.z0, L3.z1, and_true, true_and, Bool.not_eq_true, HO.ins.injEq, L3.hl, and_assoc, decide_eq_true_eq, Bool.false_eq_true, if_false, if_true, List.cons.injEq, cxK, Nat.reduceLT, Nat.reduceLeDiff, upd_same, upd_upd, tfor_range1, tfor_list, Int.toNat_natCast, vN_inj, vN_length, vN_set, Int.neg_neg, Bool.not_true]
          exact next fun _ => hl
        | false =>
          rw [step_unlaid hrg hl e] at k
          simp only [tSeq, tIfS, tTest, tOp, rI0, rI, rEq, rNe, tVar, tC, tRet, tRetN, tNext, tUn, rU, L2.start, tFld, sFld, sFldAug, rAdd, rSub, tDrop, tAsg, gName, tAug, tAugS, ipI, tCons, tNil, tLst, tCall, tMeth, tMake, tCB, tNot, tAnd, tOr, tB, tAndV, tOrV, tNotV, rIxH, rSetL, tSl, tPart, tNoPart, rSlH, rCat, rRep, rSumN, tBM, rAppend, rExtend, tCallV, tDinK, tDgetK, tlc_list, tYes, scal, exists_eq_left', exists_eq_left, exists_and_left, Option.some.injEq, L3.vi, L3.vr, L3.vb, List.map_cons, List.map_nil, List.length_cons, List.length_nil, Nat.reduceAdd, Nat.reduceSub, Nat.zero_add, Nat.sub_self, List.replicate, List.cons_append, List.nil_append, List.append_nil, L3.gz, L3.gs, L3.z0, L3.z1, and_true, true_and, Bool.not_eq_true, HO.ins.injEq, L3.hl, and_assoc, decide_eq_true_eq, Bool.false_eq_true, if_false, if_true, List.cons.injEq, cxK, Nat.reduceLT, Nat.reduceLeDiff, upd_same, upd_upd, tfor_range1, tfor_list, Int.toNat_natCast, vN_inj, vN_length, vN_set, Int.neg_neg, Bool.not_false]
          refine ⟨by decide, ?_⟩
          intro l f_l
          generalize hG_l : upd H l _ = H1
          obtain ⟨e_l, S_l⟩ := new_facts hG_l f_l
          clear hG_l
          exact k.tell DS rfl S_l e_l f_l
/-- Device.__init__ -/
def sp_dinit (a : Adr) : Sp := fun vs H Q _ => ∃ (d dd : Addr), vs = [.ref d] ∧ H d = some (.ins a.C_Device dd []) ∧
  ∀ (H' : Hp) (l rb rd q1 q2 : Addr), H' d = some (.ins a.C_Device dd (df (dI (pf Vbdlan.start) false 0 l rb rd))) → H' l = some (.lst []) → H' rb = some (.ins a.C_Rate q1 (rf ⟨0, 1, 0⟩)) → H' rd = some (.ins a.C_Rate q2 (rf ⟨0, 1, 0⟩)) → rb ≠ rd → H l = none → H rb = none → H rd = none → But H H' d → Q .non H'
theorem ok_Device_init (T : Txt K mg a) : FnOk P w K mg base CX0 3 a.f_Device_init a.d_Device_init ["self"] (sp_dinit a) := by
  refine T.F_Device_init.ok sc_Device_init (fun vs H Q E h => ?_) (fun cdv A outer s H vs Q E hr h => ?_)
  · obtain ⟨_, _, rfl, _⟩ := h
    rfl
  · obtain ⟨d, dd, rfl, hp, k⟩ := h
    refine ⟨_, (pss_cons (ps_fld (pv 0) pe_bl rfl) (pss_cons (ps_fld (pv 0) pe_int rfl) (pss_cons (ps_fld (pv 0) pe_int rfl) (pss_cons (ps_fld (pv 0) pe_int rfl) (pss_cons (ps_fld (pv 0) pe_bl rfl) (pss_cons (ps_fld (pv 0) (pe_lst pa_nil) rfl) (pss_cons (ps_fld (pv 0) (pe_gint T.g_FIRST_VOLUME) rfl) (pss_cons (ps_fld (pv 0) (pe_gint T.g_FIRST_VOLUME) rfl) (pss_cons (ps_fld (pv 0) pe_int rfl) (pss_cons (ps_fld (pv 0) pe_int rfl) (pss_cons (ps_fld (pv 0) (pe_make T.mk_Rate (ok_Rate_init T) (hr.mono (by decide)) rfl T.g_Rate T.bi_Rate_init .nil pass0 (pa_cons pe_int (pa_cons pe_int pa_nil))) rfl) (pss_cons (ps_fld (pv 0) (pe_make T.mk_Rate (ok_Rate_init T) (hr.mono (by decide)) rfl T.g_Rate T.bi_Rate_init .nil pass0 (pa_cons pe_int (pa_cons pe_int pa_nil))) rfl) (pss_one (ps_fld (pv 0) pe_int rfl)))))))))))))), ?_⟩
    refine hide5 fun U hU => ?_
    simp only [tSeq, tIfS, tTest, tOp, rI0, rI, rEq, rNe, tVar, tC, tRet, tRetN, tNext, tUn, rU, L2.start, tFld, sFld, sFldAug, rAdd, rSub, tDrop, tAsg, gName, tAug, tAugS, ipI, tCons, tNil, tLst, tCall, tMeth, tMake, tCB, tNot, tAnd, tOr, tB, tAndV, tOrV, tNotV, rIxH, rSetL, tSl, tPart, tNoPart, rSlH, rCat, rRep, rSumN, tBM, rAppend, rExtend, tCallV, tDinK, tDgetK, tlc_list, tYes, scal, exists_eq_left', exists_eq_left, exists_and_left, Option.some.injEq, L3.vi, L3.vr, L3.vb, List.map_cons, List.map_nil, List.length_cons, List.length_nil, Nat.reduceAdd, Nat.reduceSub, Nat.zero_add, Nat.sub_self, List.replicate, List.cons_append, List.nil_append, List.append_nil, L3.gz, L3.gs, L3.z0, L3.z1, and_true, true_and, Bool.not_eq_true, HO.ins.injEq, L3.hl, and_assoc, decide_eq_true_eq, Bool.false_eq_true, if_false, if_true, List.cons.injEq, cxK, Nat.reduceLT, Nat.reduceLeDiff, upd_same, upd_upd, tfor_range1, tfor_list, Int.toNat_natCast, vN_inj, vN_length, vN_set, Int.neg_neg, df_ini_all, hp, T.nos_Device]
    refine gen_upd (Q := U _ _) fun H1 g1 B1 => ?_
    subst hU
    refine hide1 fun U hU => ?_
    simp only [tSeq, tIfS, tTest, tOp, rI0, rI, rEq, rNe, tVar, tC, tRet, tRetN, tNext, tUn, rU, L2.start, tFld, sFld, sFldAug, rAdd, rSub, tDrop, tAsg, gName, tAug, tAugS, ipI, tCons, tNil, tLst, tCall, tMeth, tMake, tCB, tNot, tAnd, tOr, tB, tAndV, tOrV, tNotV, rIxH, rSetL, tSl, tPart, tNoPart, rSlH, rCat, rRep, rSumN, tBM, rAppend, rExtend, tCallV, tDinK, tDgetK, tlc_list, tYes, scal, exists_eq_left', exists_eq_left, exists_and_left, Option.some.injEq, L3.vi, L3.vr, L3.vb, List.map_cons, List.map_nil, List.length_cons, List.length_nil, Nat.reduceAdd, Nat.reduceSub, Nat.zero_add, Nat.sub_self, List.replicate, List.cons_append, List.nil_append, List.append_nil, L3.gz, L3.gs, L3.z0, L3.z1, and_true, true_and, Bool.not_eq_true, HO.ins.injEq, L3.hl, and_assoc, decide_eq_true_eq, Bool.false_eq_true, if_false, if_true, List.cons.injEq, cxK, Nat.reduceLT, Nat.reduceLeDiff, upd_same, upd_upd, tfor_range1, tfor_list, Int.toNat_natCast, vN_inj, vN_length, vN_set, Int.neg_neg, df_ini_all, g1, T.nos_Device]
    refine ⟨by decide, ?_⟩
    intro l f_l
    generalize hG_l : upd H1 l _ = H2
    obtain ⟨e_l, S_l⟩ := new_facts hG_l f_l
    clear hG_l
    have nl : l ≠ d := (ne_of_none g1 f_l).symm
    have g1 := S_l _ _ g1
    simp only [tSeq, tIfS, tTest, tOp, rI0, rI, rEq, rNe, tVar, tC, tRet, tRetN, tNext, tUn, rU, L2.start, tFld, sFld, sFldAug, rAdd, rSub, tDrop, tAsg, gName, tAug, tAugS, ipI, tCons, tNil, tLst, tCall, tMeth, tMake, tCB, tNot, tAnd, tOr, tB, tAndV, tOrV, tNotV, rIxH, rSetL, tSl, tPart, tNoPart, rSlH, rCat, rRep, rSumN, tBM, rAppend, rExtend, tCallV, tDinK, tDgetK, tlc_list, tYes, scal, exists_eq_left', exists_eq_left, exists_and_left, Option.some.injEq, L3.vi, L3.vr, L3.vb, List.map_cons, List.map_nil, List.length_cons, List.length_nil, Nat.reduceAdd, Nat.reduceSub, Nat.zero_add, Nat.sub_self, List.replicate, List.cons_append, List.nil_append, List.append_nil, L3.gz, L3.gs, L3.z0, L3.z1, and_true, true_and, Bool.not_eq_true, HO.ins.injEq, L3.hl, and_assoc, decide_eq_true_eq, Bool.false_eq_true, if_false, if_true, List.cons.injEq, cxK, Nat.reduceLT, Nat.reduceLeDiff, upd_same, upd_upd, tfor_range1, tfor_list, Int.toNat_natCast, vN_inj, vN_length, vN_set, Int.neg_neg, df_ini_all, g1, T.nos_Device]
    have B2 := B1.same S_l
    have ul := B1.free f_l nl
    refine gen_upd (Q := U _ _) fun H3 g1 B3 => ?_
    have e_l := B3 _ _ e_l nl
    have B3 := B2.trans B3
    subst hU
    refine hide4 fun U hU => ?_
    simp only [tSeq, tIfS, tTest, tOp, rI0, rI, rEq, rNe, tVar, tC, tRet, tRetN, tNext, tUn, rU, L2.start, tFld, sFld, sFldAug, rAdd, rSub, tDrop, tAsg, gName, tAug, tAugS, ipI, tCons, tNil, tLst, tCall, tMeth, tMake, tCB, tNot, tAnd, tOr, tB, tAndV, tOrV, tNotV, rIxH, rSetL, tSl, tPart, tNoPart, rSlH, rCat, rRep, rSumN, tBM, rAppend, rExtend, tCallV, tDinK, tDgetK, tlc_list, tYes, scal, exists_eq_left', exists_eq_left, exists_and_left, Option.some.injEq, L3.vi, L3.vr, L3.vb, List.map_cons, List.map_nil, List.length_cons, List.length_nil, Nat.reduceAdd, Nat.reduceSub, Nat.zero_add, Nat.sub_self, List.replicate, List.cons_append, List.nil_append, List.append_nil, L3.gz, L3.gs, L3.z0, L3.z1, and_true, true_and, Bool.not_eq_true, HO.ins.injEq, L3.hl, and_assoc, decide_eq_true_eq, Bool.false_eq_true, if_false, if_true, List.cons.injEq, cxK, Nat.reduceLT, Nat.reduceLeDiff, upd_same, upd_upd, tfor_range1, tfor_list, Int.toNat_natCast, vN_inj, vN_length, vN_set, Int.neg_neg, df_ini_all, g1, T.nos_Device]
    refine gen_upd (Q := U _ _) fun H4 g1 B4 => ?_
    have e_l := B4 _ _ e_l nl
    have B4 := B3.trans B4
    subst hU
    refine hide1 fun U hU => ?_
    simp only [tSeq, tIfS, tTest, tOp, rI0, rI, rEq, rNe, tVar, tC, tRet, tRetN, tNext, tUn, rU, L2.start, tFld, sFld, sFldAug, rAdd, rSub, tDrop, tAsg, gName, tAug, tAugS, ipI, tCons, tNil, tLst, tCall, tMeth, tMake, tCB, tNot, tAnd, tOr, tB, tAndV, tOrV, tNotV, rIxH, rSetL, tSl, tPart, tNoPart, rSlH, rCat, rRep, rSumN, tBM, rAppend, rExtend, tCallV, tDinK, tDgetK, tlc_list, tYes, scal, exists_eq_left', exists_eq_left, exists_and_left, Option.some.injEq, L3.vi, L3.vr, L3.vb, List.map_cons, List.map_nil, List.length_cons, List.length_nil, Nat.reduceAdd, Nat.reduceSub, Nat.zero_add, Nat.sub_self, List.replicate, List.cons_append, List.nil_append, List.append_nil, L3.gz, L3.gs, L3.z0, L3.z1, and_true, true_and, Bool.not_eq_true, HO.ins.injEq, L3.hl, and_assoc, decide_eq_true_eq, Bool.false_eq_true, if_false, if_true, List.cons.injEq, cxK, Nat.reduceLT, Nat.reduceLeDiff, upd_same, upd_upd, tfor_range1, tfor_list, Int.toNat_natCast, vN_inj, vN_length, vN_set, Int.neg_neg, df_ini_all]
    intro q dq f1 f2 hdq
    refine ⟨q, dq, 0, 1, rfl, upd_same, ?_⟩
    have s1 : Same H4 (upd (upd (upd H4 dq (.own q)) q (.ins a.C_Rate dq [])) q (.ins a.C_Rate dq (rf ⟨0, 1, 0⟩))) := fun b o e => by
      rw [upd_upd, upd_ne (ne_of_none e f1), upd_ne (ne_of_none e f2)]; exact e
    generalize hH : upd (upd (upd H4 dq (.own q)) q (.ins a.C_Rate dq [])) q (.ins a.C_Rate dq (rf ⟨0, 1, 0⟩)) = H5 at s1 ⊢
    have e_q : H5 q = some (.ins a.C_Rate dq (rf ⟨0, 1, 0⟩)) := by rw [← hH]; exact upd_same
    clear hH
    have nq : q ≠ d := (ne_of_none g1 f1).symm
    have uq := B4.free f1 nq
    have g1 := s1 _ _ g1
    have e_l := s1 _ _ e_l
    have B5 := B4.same s1
    simp only [tSeq, tIfS, tTest, tOp, rI0, rI, rEq, rNe, tVar, tC, tRet, tRetN, tNext, tUn, rU, L2.start, tFld, sFld, sFldAug, rAdd, rSub, tDrop, tAsg, gName, tAug, tAugS, ipI, tCons, tNil, tLst, tCall, tMeth, tMake, tCB, tNot, tAnd, tOr, tB, tAndV, tOrV, tNotV, rIxH, rSetL, tSl, tPart, tNoPart, rSlH, rCat, rRep, rSumN, tBM, rAppend, rExtend, tCallV, tDinK, tDgetK, tlc_list, tYes, scal, exists_eq_left', exists_eq_left, exists_and_left, Option.some.injEq, L3.vi, L3.vr, L3.vb, List.map_cons, List.map_nil, List.length_cons, List.length_nil, Nat.reduceAdd, Nat.reduceSub, Nat.zero_add, Nat.sub_self, List.replicate, List.cons_append, List.nil_append, List.append_nil, L3.gz, L3.gs, L3.z0, L3.z1, and_true, true_and, Bool.not_eq_true, HO.ins.injEq, L3.hl, and_assoc, decide_eq_true_eq, Bool.false_eq_true, if_false, if_true, List.cons.injEq, cxK, Nat.reduceLT, Nat.reduceLeDiff, upd_same, upd_upd, tfor_range1, tfor_list, Int.toNat_natCast, vN_inj, vN_length, vN_set, Int.neg_neg, df_ini_all, g1, T.nos_Device]
    refine gen_upd (Q := U _ _) fun H6 g1 B6 => ?_
    have e_l := B6 _ _ e_l nl
    have e_q := B6 _ _ e_q nq
    have B6 := B5.trans B6
    subst hU
    refine hide1 fun U hU => ?_
    simp only [tSeq, tIfS, tTest, tOp, rI0, rI, rEq, rNe, tVar, tC, tRet, tRetN, tNext, tUn, rU, L2.start, tFld, sFld, sFldAug, rAdd, rSub, tDrop, tAsg, gName, tAug, tAugS, ipI, tCons, tNil, tLst, tCall, tMeth, tMake, tCB, tNot, tAnd, tOr, tB, tAndV, tOrV, tNotV, rIxH, rSetL, tSl, tPart, tNoPart, rSlH, rCat, rRep, rSumN, tBM, rAppend, rExtend, tCallV, tDinK, tDgetK, tlc_list, tYes, scal, exists_eq_left', exists_eq_left, exists_and_left, Option.some.injEq, L3.vi, L3.vr, L3.vb, List.map_cons, List.map_nil, List.length_cons, List.length_nil, Nat.reduceAdd, Nat.reduceSub, Nat.zero_add, Nat.sub_self, List.replicate, List.cons_append, List.nil_append, List.append_nil, L3.gz, L3.gs, L3.z0, L3.z1, and_true, true_and, Bool.not_eq_true, HO.ins.injEq, L3.hl, and_assoc, decide_eq_true_eq, Bool.false_eq_true, if_false, if_true, List.cons.injEq, cxK, Nat.reduceLT, Nat.reduceLeDiff, upd_same, upd_upd, tfor_range1, tfor_list, Int.toNat_natCast, vN_inj, vN_length, vN_set, Int.neg_neg, df_ini_all]
    intro r dr f3 f4 hdr
    refine ⟨r, dr, 0, 1, rfl, upd_same, ?_⟩
    have s2 : Same H6 (upd (upd (upd H6 dr (.own r)) r (.ins a.C_Rate dr [])) r (.ins a.C_Rate dr (rf ⟨0, 1, 0⟩))) := fun b o e => by
      rw [upd_upd, upd_ne (ne_of_none e f3), upd_ne (ne_of_none e f4)]; exact e
    generalize hH : upd (upd (upd H6 dr (.own r)) r (.ins a.C_Rate dr [])) r (.ins a.C_Rate dr (rf ⟨0, 1, 0⟩)) = H7 at s2 ⊢
    have e_r : H7 r = some (.ins a.C_Rate dr (rf ⟨0, 1, 0⟩)) := by rw [← hH]; exact upd_same
    clear hH
    have nr : r ≠ d := (ne_of_none g1 f3).symm
    have nqr : q ≠ r := ne_of_none e_q f3
    have ur := B6.free f3 nr
    have g1 := s2 _ _ g1
    have e_l := s2 _ _ e_l
    have e_q := s2 _ _ e_q
    have B7 := B6.same s2
    subst hU
    simp only [tSeq, tIfS, tTest, tOp, rI0, rI, rEq, rNe, tVar, tC, tRet, tRetN, tNext, tUn, rU, L2.start, tFld, sFld, sFldAug, rAdd, rSub, tDrop, tAsg, gName, tAug, tAugS, ipI, tCons, tNil, tLst, tCall, tMeth, tMake, tCB, tNot, tAnd, tOr, tB, tAndV, tOrV, tNotV, rIxH, rSetL, tSl, tPart, tNoPart, rSlH, rCat, rRep, rSumN, tBM, rAppend, rExtend, tCallV, tDinK, tDgetK, tlc_list, tYes, scal, exists_eq_left', exists_eq_left, exists_and_left, Option.some.injEq, L3.vi, L3.vr, L3.vb, List.map_cons, List.map_nil, List.length_cons, List.length_nil, Nat.reduceAdd, Nat.reduceSub, Nat.zero_add, Nat.sub_self, List.replicate, List.cons_append, List.nil_append, List.append_nil, L3.gz, L3.gs, L3.z0, L3.z1, and_true, true_and, Bool.not_eq_true, HO.ins.injEq, L3.hl, and_assoc, decide_eq_true_eq, Bool.false_eq_true, if_false, if_true, List.cons.injEq, cxK, Nat.reduceLT, Nat.reduceLeDiff, upd_same, upd_upd, tfor_range1, tfor_list, Int.toNat_natCast, vN_inj, vN_length, vN_set, Int.neg_neg, df_ini_all, g1, T.nos_Device]
    refine k _ l q r dq dr upd_same (by rw [upd_ne nl]; exact e_l) (by rw [upd_ne nq]; exact e_q) (by rw [upd_ne nr]; exact e_r) nqr ul uq ur B7.upd
/-! the whole -/
def sp_answers (K : PySem.W.Frag) : Sp := fun vs H Q _ => ∃ (c : Addr) (ns : List Int), vs = [.ref c] ∧ SqL K H c (ns.map V.int) ∧ ns.length ≤ 4000 ∧ PyVbdlan.answers_asked ns = true ∧ ∀ (H' : Hp) (p : Addr), H' p = some (.lst ((PyVbdlan.answers ns).map V.int)) → Q (.ref p) H'
/-- the calls that are left, and what has been told -/
def aInv (a : Adr) (c t : Addr) (ns : List Int) (H : Hp) (σ : L2.St) (H' : Hp) : Prop :=
  ∃ (D : DX) (s : Vbdlan.St) (i g : Nat) (cs : List (List (List Int))) (done : List Int) (v4 v5 : Option V),
    σ = [some (.ref c), some (.ref D.d), some (.ref t), some (.int i), v4, v5] ∧ i ≤ ns.length ∧ PyFlat.calls PyVbdlan.shape g (ns.drop i) = some cs ∧ done.length + 65 * cs.length ≤ 26000 ∧
    PyVbdlan.answers ns = done ++ PyFlat.told (PyFlat.played VbdlanNeutral.step s cs) ∧ H' t = some (.lst (done.map V.int)) ∧ t ∉ D.fp ∧ DevS a H' D s ∧ StOk s ∧ (∀ b ∈ D.fp, H b = none) ∧ Same H H'
def atM (n : Nat) (σ : L2.St) : Nat := match σ with
  | _ :: _ :: _ :: some (.int i) :: _ => n - i.toNat
  | _ => 0
theorem cut_mid {l : List V} {i n : Nat} (h : i + n ≤ l.length) : cutV l (some (i : Int)) (some ((i + n : Nat) : Int)) = (l.drop i).take n := by
  unfold cutV
  rw [HT.sIx_nat, HT.sIx_nat, Nat.min_eq_left (by omega), Nat.min_eq_left (by omega), Nat.add_sub_cancel_left]
theorem DevS.keep {H H' : Hp} {D : DX} {s : Vbdlan.St} (h : DevS a H D s) (k : ∀ b o, H b = some o → b ∈ D.fp → H' b = some o) : DevS a H' D s := ⟨h.da.keep k, h.ol, h.ob, h.od⟩
theorem ok_answers (T : Txt K mg a) : FnOk P w K mg base CX0 10 a.f_answers a.d_answers ["calls"] (sp_answers K) := by
  refine T.F_answers.ok sc_answers (fun vs H Q E h => ?_) (fun cdv A outer s0 H vs Q E hr h => ?_)
  · obtain ⟨_, _, rfl, _⟩ := h
    rfl
  · obtain ⟨c, ns, rfl, hS, hlen, hask, k⟩ := h
    obtain ⟨cs0, hc0, hc400, hans⟩ := answers_eq hask
    refine ⟨_, (pss_cons (ps_set (i := 1) sc_answers.nd rfl (Or.inl rfl) (pe_make0 T.mk_Device (ok_Device_init T) (hr.mono (by decide)) rfl T.g_Device T.bi_Device_init .nil pass0)) (pss_cons (ps_set (i := 2) sc_answers.nd rfl (Or.inl rfl) (pe_lst pa_nil)) (pss_cons (ps_set (i := 3) sc_answers.nd rfl (Or.inl rfl) pe_int) (pss_cons (ps_while PassesOwn.never (pt_cmpR op_lt (pv 3) (pe_callB call_len_seq (by rfl) T.b_len PySem.boot_len (pa_cons (pv 0) pa_nil)) (nomark _)) (pss_cons (ps_set (i := 4) sc_answers.nd rfl (Or.inl rfl) (pe_op op_add (pe_op op_add (pv 3) pe_int) (pe_callB call_len_seq (by rfl) T.b_len PySem.boot_len (pa_cons (pe_ix ix_tup (pe_gref T.g_RANGES) (pe_ix ix_list (pv 0) (pv 3) (fun _ _ => rfl)) (fun _ _ => rfl)) pa_nil)))) (pss_cons (ps_set (i := 5) sc_answers.nd rfl (Or.inl rfl) (pe_call (ok_answer T) (hr.mono (by decide)) rfl T.g_answer T.F_answer.kp T.bi_answer .nil pass0 (pa_cons (pv 1) (pa_cons (pe_ix ix_list (pv 0) (pv 3) (fun _ _ => rfl)) (pa_cons (pe_slice sl_list (pv 0) (po_some (pe_op op_add (pv 3) pe_int)) (po_some (pv 4))) pa_nil))))) (pss_cons (ps_expr (pe_bm PySem.F.plainAttrs_list PySem.F.slot_list_append PySem.F.type_list_append mt_append (pv 2) (pa_cons (pe_callB call_len_lst (by rfl) T.b_len PySem.boot_len (pa_cons (pv 5) pa_nil)) pa_nil))) (pss_cons (ps_expr (pe_bm PySem.F.plainAttrs_list PySem.F.slot_list_extend PySem.F.type_list_extend mt_extend (pv 2) (pa_cons (pv 5) pa_nil))) (pss_one (ps_set (i := 3) sc_answers.nd rfl (Or.inl rfl) (pv 4)))))))) (pss_one (ps_ret (pv 2))))))), ?_⟩
    refine hide1 fun U hU => ?_
    simp only [tSeq, tIfS, tTest, tOp, rI0, rI, rEq, rNe, tVar, tC, tRet, tRetN, tNext, tUn, rU, L2.start, tFld, sFld, sFldAug, rAdd, rSub, tDrop, tAsg, gName, tAug, tAugS, ipI, tCons, tNil, tLst, tCall, tMeth, tMake, tCB, tNot, tAnd, tOr, tB, tAndV, tOrV, tNotV, rIxH, rSetL, tSl, tPart, tNoPart, rSlH, rCat, rRep, rSumN, tBM, rAppend, rExtend, tCallV, tDinK, tDgetK, tlc_list, tYes, scal, exists_eq_left', exists_eq_left, exists_and_left, Option.some.injEq, L3.vi, L3.vr, L3.vb, List.map_cons, List.map_nil, List.length_cons, List.length_nil, Nat.reduceAdd, Nat.reduceSub, Nat.zero_add, Nat.sub_self, List.replicate, List.cons_append, List.nil_append, List.append_nil, L3.gz, L3.gs, L3.z0, L3.z1, and_true, true_and, Bool.not_eq_true, HO.ins.injEq, L3.hl, and_assoc, decide_eq_true_eq, Bool.false_eq_true, if_false, if_true, List.cons.injEq, cxK, Nat.reduceLT, Nat.reduceLeDiff, upd_same, upd_upd, tfor_range1, tfor_list, Int.toNat_natCast, vN_inj, vN_length, vN_set, Int.neg_neg]
    intro d dd f1 f2 hdd
    refine ⟨d, dd, rfl, upd_same, fun H1 l rb rd q1 q2 g1 g2 g3 g4 nrr u1 u2 u3 kp => ?_⟩
    simp only [tSeq, tIfS, tTest, tOp, rI0, rI, rEq, rNe, tVar, tC, tRet, tRetN, tNext, tUn, rU, L2.start, tFld, sFld, sFldAug, rAdd, rSub, tDrop, tAsg, gName, tAug, tAugS, ipI, tCons, tNil, tLst, tCall, tMeth, tMake, tCB, tNot, tAnd, tOr, tB, tAndV, tOrV, tNotV, rIxH, rSetL, tSl, tPart, tNoPart, rSlH, rCat, rRep, rSumN, tBM, rAppend, rExtend, tCallV, tDinK, tDgetK, tlc_list, tYes, scal, exists_eq_left', exists_eq_left, exists_and_left, Option.some.injEq, L3.vi, L3.vr, L3.vb, List.map_cons, List.map_nil, List.length_cons, List.length_nil, Nat.reduceAdd, Nat.reduceSub, Nat.zero_add, Nat.sub_self, List.replicate, List.cons_append, List.nil_append, List.append_nil, L3.gz, L3.gs, L3.z0, L3.z1, and_true, true_and, Bool.not_eq_true, HO.ins.injEq, L3.hl, and_assoc, decide_eq_true_eq, Bool.false_eq_true, if_false, if_true, List.cons.injEq, cxK, Nat.reduceLT, Nat.reduceLeDiff, upd_same, upd_upd, tfor_range1, tfor_list, Int.toNat_natCast, vN_inj, vN_length, vN_set, Int.neg_neg]
    have s1 : Same H H1 := Same.made f1 f2 kp
    have u1 := (fresh_ne (fresh_ne u1).2).2
    have u2 := (fresh_ne (fresh_ne u2).2).2
    have u3 := (fresh_ne (fresh_ne u3).2).2
    have DS1 : DevS a H1 ⟨d, dd, l, rb, rd, l, rb, rd, []⟩ Vbdlan.start := by
      refine ⟨⟨g1, ⟨q1, g3⟩, ⟨q2, g4⟩, nrr, g2, rfl, fun j t x ht => ?_, fun i j t u _ ht => ?_, fun t ht => ?_⟩, rfl, rfl, rfl⟩
      · simp at ht
      · simp at ht
      · simp at ht
    have fr0 : ∀ b ∈ (⟨d, dd, l, rb, rd, l, rb, rd, []⟩ : DX).fp, H b = none := fun b hb => by
      rcases mem_fp.mp hb with rfl | rfl | rfl | rfl | ⟨t, ht, _⟩
      · exact f1
      · exact u1
      · exact u2
      · exact u3
      · cases ht
    subst hU
    refine hide2 fun U hU => ?_
    simp only [tSeq, tIfS, tTest, tOp, rI0, rI, rEq, rNe, tVar, tC, tRet, tRetN, tNext, tUn, rU, L2.start, tFld, sFld, sFldAug, rAdd, rSub, tDrop, tAsg, gName, tAug, tAugS, ipI, tCons, tNil, tLst, tCall, tMeth, tMake, tCB, tNot, tAnd, tOr, tB, tAndV, tOrV, tNotV, rIxH, rSetL, tSl, tPart, tNoPart, rSlH, rCat, rRep, rSumN, tBM, rAppend, rExtend, tCallV, tDinK, tDgetK, tlc_list, tYes, scal, exists_eq_left', exists_eq_left, exists_and_left, Option.some.injEq, L3.vi, L3.vr, L3.vb, List.map_cons, List.map_nil, List.length_cons, List.length_nil, Nat.reduceAdd, Nat.reduceSub, Nat.zero_add, Nat.sub_self, List.replicate, List.cons_append, List.nil_append, List.append_nil, L3.gz, L3.gs, L3.z0, L3.z1, and_true, true_and, Bool.not_eq_true, HO.ins.injEq, L3.hl, and_assoc, decide_eq_true_eq, Bool.false_eq_true, if_false, if_true, List.cons.injEq, cxK, Nat.reduceLT, Nat.reduceLeDiff, upd_same, upd_upd, tfor_range1, tfor_list, Int.toNat_natCast, vN_inj, vN_length, vN_set, Int.neg_neg]
    refine ⟨by decide, ?_⟩
    intro t f_t
    generalize hG_t : upd H1 t _ = H2
    obtain ⟨e_t, S_t⟩ := new_facts hG_t f_t
    clear hG_t
    have ft := s1.free f_t
    have tD0 := DS1.da.ne f_t
    have S2 := s1.trans S_t
    subst hU
    refine hide1 fun U hU => ?_
    refine while_by2 (aInv a c t ns H) (fun σ _ => atM ns.length σ) ⟨⟨d, dd, l, rb, rd, l, rb, rd, []⟩, Vbdlan.start, 0, ns.length, cs0, [], none, none, rfl, Nat.zero_le _, hc0, by show 0 + 65 * cs0.length ≤ 26000; omega, hans, e_t, tD0, DS1.same S_t, start_ok, fr0, S2⟩ ?_ ?_
    · rintro σ H3 ⟨D, s, i, g, cs, done, v4, v5, rfl, hi, hcs, hdl, hA, ht, htD, DS, SO, fr, S3⟩
      have hS3 : SqL K H3 c (ns.map V.int) := S3.seq hS
      refine ⟨decide (i < ns.length), fun Q q => ?_, fun hb => ?_, fun hb => ?_⟩
      · simp only [tSeq, tIfS, tTest, tOp, rI0, rI, rEq, rNe, tVar, tC, tRet, tRetN, tNext, tUn, rU, L2.start, tFld, sFld, sFldAug, rAdd, rSub, tDrop, tAsg, gName, tAug, tAugS, ipI, tCons, tNil, tLst, tCall, tMeth, tMake, tCB, tNot, tAnd, tOr, tB, tAndV, tOrV, tNotV, rIxH, rSetL, tSl, tPart, tNoPart, rSlH, rCat, rRep, rSumN, tBM, rAppend, rExtend, tCallV, tDinK, tDgetK, tlc_list, tYes, scal, exists_eq_left', exists_eq_left, exists_and_left, Option.some.injEq, L3.vi, L3.vr, L3.vb, List.map_cons, List.map_nil, List.length_cons, List.length_nil, Nat.reduceAdd, Nat.reduceSub, Nat.zero_add, Nat.sub_self, List.replicate, List.cons_append, List.nil_append, List.append_nil, L3.gz, L3.gs, L3.z0, L3.z1, and_true, true_and, Bool.not_eq_true, HO.ins.injEq, L3.hl, and_assoc, decide_eq_true_eq, Bool.false_eq_true, if_false, if_true, List.cons.injEq, cxK, Nat.reduceLT, Nat.reduceLeDiff, upd_same, upd_upd, tfor_range1, tfor_list, Int.toNat_natCast, vN_inj, vN_length, vN_set, Int.neg_neg]
        refine ⟨ns.map V.int, .inl hS3, ?_⟩
        rw [List.length_map]
        have e : decide ((i : Int) < (ns.length : Int)) = decide (i < ns.length) := by simp only [Int.ofNat_lt]
        rw [e]
        exact q
      · have hb := of_decide_eq_true hb
        -- the call at hand
        have hdrop := List.drop_eq_getElem_cons hb
        rw [hdrop] at hcs
        obtain ⟨q, n, g', cc, ds, hp, hn, hd, rfl, hds, hst⟩ := calls_cons hcs
        have hgi : ns[i]? = some (q : Int) := by rw [List.getElem?_eq_getElem hb, hp]
        have hai : atI (ns.map V.int) (i : Int) = some (.int (q : Int)) := atI_map hgi
        obtain ⟨row, hrow, hrl⟩ := hd.row
        obtain ⟨xs, rw', as, h1, h2, h3, h4⟩ := tab_row T.t_RANGES (p := q) (row := row) hrow
        have hlr : (ns.drop (i + 1)).length = ns.length - (i + 1) := List.length_drop
        have hln : ((ns.drop (i + 1)).take n).length = n := by rw [List.length_take]; omega
        have hal : as.length = n := by rw [Paired.length h4, hrl, hln]
        refine hide1 fun V0 hV0 => ?_
        simp only [tSeq, tIfS, tTest, tOp, rI0, rI, rEq, rNe, tVar, tC, tRet, tRetN, tNext, tUn, rU, L2.start, tFld, sFld, sFldAug, rAdd, rSub, tDrop, tAsg, gName, tAug, tAugS, ipI, tCons, tNil, tLst, tCall, tMeth, tMake, tCB, tNot, tAnd, tOr, tB, tAndV, tOrV, tNotV, rIxH, rSetL, tSl, tPart, tNoPart, rSlH, rCat, rRep, rSumN, tBM, rAppend, rExtend, tCallV, tDinK, tDgetK, tlc_list, tYes, scal, exists_eq_left', exists_eq_left, exists_and_left, Option.some.injEq, L3.vi, L3.vr, L3.vb, List.map_cons, List.map_nil, List.length_cons, List.length_nil, Nat.reduceAdd, Nat.reduceSub, Nat.zero_add, Nat.sub_self, List.replicate, List.cons_append, List.nil_append, List.append_nil, L3.gz, L3.gs, L3.z0, L3.z1, and_true, true_and, Bool.not_eq_true, HO.ins.injEq, L3.hl, and_assoc, decide_eq_true_eq, Bool.false_eq_true, if_false, if_true, List.cons.injEq, cxK, Nat.reduceLT, Nat.reduceLeDiff, upd_same, upd_upd, tfor_range1, tfor_list, Int.toNat_natCast, vN_inj, vN_length, vN_set, Int.neg_neg]
        refine ⟨c, ns.map V.int, i, .int q, rfl, rfl, hS3, hai, a.r_RANGES, xs, q, .ref rw', rfl, rfl, h1.sq, h2, rw', rfl, as.map V.ref, .inr h3.sq, ?_⟩
        simp only [tSeq, tIfS, tTest, tOp, rI0, rI, rEq, rNe, tVar, tC, tRet, tRetN, tNext, tUn, rU, L2.start, tFld, sFld, sFldAug, rAdd, rSub, tDrop, tAsg, gName, tAug, tAugS, ipI, tCons, tNil, tLst, tCall, tMeth, tMake, tCB, tNot, tAnd, tOr, tB, tAndV, tOrV, tNotV, rIxH, rSetL, tSl, tPart, tNoPart, rSlH, rCat, rRep, rSumN, tBM, rAppend, rExtend, tCallV, tDinK, tDgetK, tlc_list, tYes, scal, exists_eq_left', exists_eq_left, exists_and_left, Option.some.injEq, L3.vi, L3.vr, L3.vb, List.map_cons, List.map_nil, List.length_cons, List.length_nil, Nat.reduceAdd, Nat.reduceSub, Nat.zero_add, Nat.sub_self, List.replicate, List.cons_append, List.nil_append, List.append_nil, L3.gz, L3.gs, L3.z0, L3.z1, and_true, true_and, Bool.not_eq_true, HO.ins.injEq, L3.hl, and_assoc, decide_eq_true_eq, Bool.false_eq_true, if_false, if_true, List.cons.injEq, cxK, Nat.reduceLT, Nat.reduceLeDiff, upd_same, upd_upd, tfor_range1, tfor_list, Int.toNat_natCast, vN_inj, vN_length, vN_set, Int.neg_neg, List.length_map, hal]
        have eb : (i : Int) + 1 + n = ((i + 1 + n : Nat) : Int) := by omega
        have ei : (i : Int) + 1 = ((i + 1 : Nat) : Int) := by omega
        rw [eb]
        subst hV0
        refine hide1 fun V0 hV0 => ?_
        simp only [tSeq, tIfS, tTest, tOp, rI0, rI, rEq, rNe, tVar, tC, tRet, tRetN, tNext, tUn, rU, L2.start, tFld, sFld, sFldAug, rAdd, rSub, tDrop, tAsg, gName, tAug, tAugS, ipI, tCons, tNil, tLst, tCall, tMeth, tMake, tCB, tNot, tAnd, tOr, tB, tAndV, tOrV, tNotV, rIxH, rSetL, tSl, tPart, tNoPart, rSlH, rCat, rRep, rSumN, tBM, rAppend, rExtend, tCallV, tDinK, tDgetK, tlc_list, tYes, scal, exists_eq_left', exists_eq_left, exists_and_left, Option.some.injEq, L3.vi, L3.vr, L3.vb, List.map_cons, List.map_nil, List.length_cons, List.length_nil, Nat.reduceAdd, Nat.reduceSub, Nat.zero_add, Nat.sub_self, List.replicate, List.cons_append, List.nil_append, List.append_nil, L3.gz, L3.gs, L3.z0, L3.z1, and_true, true_and, Bool.not_eq_true, HO.ins.injEq, L3.hl, and_assoc, decide_eq_true_eq, Bool.false_eq_true, if_false, if_true, List.cons.injEq, cxK, Nat.reduceLT, Nat.reduceLeDiff, upd_same, upd_upd, tfor_range1, tfor_list, Int.toNat_natCast, vN_inj, vN_length, vN_set, Int.neg_neg, ei]
        refine ⟨c, ns.map V.int, i, .int q, rfl, rfl, hS3, hai, c, ns.map V.int, rfl, hS3, ?_⟩
        intro gv f_gv
        generalize hG_gv : upd H3 gv _ = H4
        obtain ⟨e_gv, S_gv⟩ := new_facts hG_gv f_gv
        clear hG_gv
        rw [cut_mid (by rw [List.length_map]; omega), ← List.map_drop, ← List.map_take] at e_gv
        have ht4 := S_gv _ _ ht
        have S4 := S3.trans S_gv
        refine ⟨D, gv, s, q, (ns.drop (i + 1)).take n, cc, rfl, e_gv, DS.da.ne f_gv, DS.same S_gv, SO, hd, fun H5 D' l' hdd' DS' MV hl' hof => ?_⟩
        have ht5 := MV.kp _ _ ht4 htD
        have htl : t ≠ l' := hof _ _ ht4 htD
        have slen := step_len (c := cc) SO
        have dl : done.length < 26000 := by
          have : ([((q : Nat) : Int) :: (ns.drop (i + 1)).take n] :: ds).length = ds.length + 1 := rfl
          rw [hp] at hdl
          rw [this] at hdl
          omega
        have z1 : done.length < sizeLine := by rw [sizeLine_eq]; omega
        have z2 : done.length + 1 + (Vbdlan.step s cc).2.length ≤ sizeLine := by rw [sizeLine_eq]; omega
        simp only [tSeq, tIfS, tTest, tOp, rI0, rI, rEq, rNe, tVar, tC, tRet, tRetN, tNext, tUn, rU, L2.start, tFld, sFld, sFldAug, rAdd, rSub, tDrop, tAsg, gName, tAug, tAugS, ipI, tCons, tNil, tLst, tCall, tMeth, tMake, tCB, tNot, tAnd, tOr, tB, tAndV, tOrV, tNotV, rIxH, rSetL, tSl, tPart, tNoPart, rSlH, rCat, rRep, rSumN, tBM, rAppend, rExtend, tCallV, tDinK, tDgetK, tlc_list, tYes, scal, exists_eq_left', exists_eq_left, exists_and_left, Option.some.injEq, L3.vi, L3.vr, L3.vb, List.map_cons, List.map_nil, List.length_cons, List.length_nil, Nat.reduceAdd, Nat.reduceSub, Nat.zero_add, Nat.sub_self, List.replicate, List.cons_append, List.nil_append, List.append_nil, L3.gz, L3.gs, L3.z0, L3.z1, and_true, true_and, Bool.not_eq_true, HO.ins.injEq, L3.hl, and_assoc, decide_eq_true_eq, Bool.false_eq_true, if_false, if_true, List.cons.injEq, cxK, Nat.reduceLT, Nat.reduceLeDiff, upd_same, upd_upd, tfor_range1, tfor_list, Int.toNat_natCast, vN_inj, vN_length, vN_set, Int.neg_neg]
        subst hV0
        simp only [tSeq, tIfS, tTest, tOp, rI0, rI, rEq, rNe, tVar, tC, tRet, tRetN, tNext, tUn, rU, L2.start, tFld, sFld, sFldAug, rAdd, rSub, tDrop, tAsg, gName, tAug, tAugS, ipI, tCons, tNil, tLst, tCall, tMeth, tMake, tCB, tNot, tAnd, tOr, tB, tAndV, tOrV, tNotV, rIxH, rSetL, tSl, tPart, tNoPart, rSlH, rCat, rRep, rSumN, tBM, rAppend, rExtend, tCallV, tDinK, tDgetK, tlc_list, tYes, scal, exists_eq_left', exists_eq_left, exists_and_left, Option.some.injEq, L3.vi, L3.vr, L3.vb, List.map_cons, List.map_nil, List.length_cons, List.length_nil, Nat.reduceAdd, Nat.reduceSub, Nat.zero_add, Nat.sub_self, List.replicate, List.cons_append, List.nil_append, List.append_nil, L3.gz, L3.gs, L3.z0, L3.z1, and_true, true_and, Bool.not_eq_true, HO.ins.injEq, L3.hl, and_assoc, decide_eq_true_eq, Bool.false_eq_true, if_false, if_true, List.cons.injEq, cxK, Nat.reduceLT, Nat.reduceLeDiff, upd_same, upd_upd, tfor_range1, tfor_list, Int.toNat_natCast, vN_inj, vN_length, vN_set, Int.neg_neg, hl', ht5, tyL ht5, tyL (upd_same (H := H5) (a := t)), upd_ne htl.symm, List.length_map, List.length_append, z1, z2]
        have e5 : (done.map V.int ++ [V.int ((Vbdlan.step s cc).2.length : Int)]) ++ (Vbdlan.step s cc).2.map V.int = (done ++ ((Vbdlan.step s cc).2.length : Int) :: (Vbdlan.step s cc).2).map V.int := by
          rw [List.map_append, List.map_cons, List.append_assoc]
          rfl
        have tD' : t ∉ D'.fp := fun z => by
          rcases MV.sub t z with z | z
          · exact htD z
          · rw [ht4] at z; cases z
        rw [e5]
        refine ⟨⟨D', (Vbdlan.step s cc).1, i + 1 + n, g', ds, done ++ ((Vbdlan.step s cc).2.length : Int) :: (Vbdlan.step s cc).2, _, _, by rw [hdd'], by omega, ?_, ?_, ?_, upd_same, tD', DS'.keep fun b o e hb => ?_, step_ok SO, fun b hb => ?_, fun b o e => ?_⟩, ?_⟩
        · rw [← List.drop_drop]; exact hds
        · have : ([ns[i] :: (ns.drop (i + 1)).take n] :: ds).length = ds.length + 1 := rfl
          rw [this] at hdl
          rw [List.length_append, List.length_cons]
          omega
        · rw [hA]
          show done ++ PyFlat.told ((VbdlanNeutral.step s _).2 :: PyFlat.played VbdlanNeutral.step (VbdlanNeutral.step s _).1 ds) = _
          rw [told_cons, hst s, List.append_assoc]
        · have nb : b ≠ t := fun z => by subst z; exact tD' hb
          rw [upd_ne nb]; exact e
        · rcases MV.sub b hb with z | z
          · exact fr b z
          · exact S4.free z
        · have nb : b ≠ t := ne_of_none e ft
          rw [upd_ne nb]
          exact MV.kp b o (S4 b o e) fun z => by rw [fr b z] at e; cases e
        · show ns.length - ((i + 1 + n : Nat) : Int).toNat < ns.length - (i : Int).toNat
          omega
      · have hb := of_decide_eq_false hb
        have e : ns.drop i = [] := List.drop_of_length_le (by omega)
        rw [e] at hcs
        have ec : cs = [] := by
          cases g <;> exact (Option.some.inj hcs).symm
        subst ec
        have e2 : PyVbdlan.answers ns = done := by rw [hA]; exact List.append_nil _
        subst hU
        simp only [tSeq, tIfS, tTest, tOp, rI0, rI, rEq, rNe, tVar, tC, tRet, tRetN, tNext, tUn, rU, L2.start, tFld, sFld, sFldAug, rAdd, rSub, tDrop, tAsg, gName, tAug, tAugS, ipI, tCons, tNil, tLst, tCall, tMeth, tMake, tCB, tNot, tAnd, tOr, tB, tAndV, tOrV, tNotV, rIxH, rSetL, tSl, tPart, tNoPart, rSlH, rCat, rRep, rSumN, tBM, rAppend, rExtend, tCallV, tDinK, tDgetK, tlc_list, tYes, scal, exists_eq_left', exists_eq_left, exists_and_left, Option.some.injEq, L3.vi, L3.vr, L3.vb, List.map_cons, List.map_nil, List.length_cons, List.length_nil, Nat.reduceAdd, Nat.reduceSub, Nat.zero_add, Nat.sub_self, List.replicate, List.cons_append, List.nil_append, List.append_nil, L3.gz, L3.gs, L3.z0, L3.z1, and_true, true_and, Bool.not_eq_true, HO.ins.injEq, L3.hl, and_assoc, decide_eq_true_eq, Bool.false_eq_true, if_false, if_true, List.cons.injEq, cxK, Nat.reduceLT, Nat.reduceLeDiff, upd_same, upd_upd, tfor_range1, tfor_list, Int.toNat_natCast, vN_inj, vN_length, vN_set, Int.neg_neg]
        refine k H3 t ?_
        rw [ht, e2]
    · rintro σ H' Q1 Q2 m1 ⟨v, ev, v', ev', p, ys, e6, e7, i, j, e12, e13, kk, e14, q⟩
      exact ⟨v, ev, v', ev', p, ys, e6, e7, i, j, e12, e13, kk, e14, m1 _ _ q⟩
end
end Bb

set_option Elab.async false
set_option linter.all false
set_option maxRecDepth 100000
namespace Bb
open PySem PySem.Spec PyProof.Rows L2 L3
theorem pr_mk {K : PySem.W.Frag} {a : Addr} {x y : Int} {t u : Tok} {od : Option Addr} {n : Nat} {sl : Array (Option Value)} (l : K.lookup a = some ⟨.type "tuple", od, .seq #[.int x t, .int y u] n, sl⟩) : Pr K a (x, y) := ⟨_, _, _, l, rfl, rfl, (show 2 ≤ sizeLine by decide), .cons ⟨t, rfl⟩ (.cons ⟨u, rfl⟩ .nil)⟩
theorem row_mk0 {K : PySem.W.Frag} {a  : Addr} {od : Option Addr} {n : Nat} {sl : Array (Option Value)} (l : K.lookup a = some ⟨.type "tuple", od, .seq #[] n, sl⟩)  : Row K a [] := ⟨[], ⟨_, _, _, l, rfl, rfl, (show 0 ≤ sizeLine by decide), .nil⟩, .nil⟩
theorem row_mk1 {K : PySem.W.Frag} {a a0 : Addr} {od : Option Addr} {n : Nat} {sl : Array (Option Value)} {p0 : Int × Int} (l : K.lookup a = some ⟨.type "tuple", od, .seq #[.ref a0] n, sl⟩) (h0 : Pr K a0 p0) : Row K a [p0] := ⟨[a0], ⟨_, _, _, l, rfl, rfl, (show 1 ≤ sizeLine by decide), (.cons rfl .nil)⟩, (.cons h0 .nil)⟩
theorem row_mk2 {K : PySem.W.Frag} {a a0 a1 : Addr} {od : Option Addr} {n : Nat} {sl : Array (Option Value)} {p0 p1 : Int × Int} (l : K.lookup a = some ⟨.type "tuple", od, .seq #[.ref a0, .ref a1] n, sl⟩) (h0 : Pr K a0 p0) (h1 : Pr K a1 p1) : Row K a [p0, p1] := ⟨[a0, a1], ⟨_, _, _, l, rfl, rfl, (show 2 ≤ sizeLine by decide), (.cons rfl (.cons rfl .nil))⟩, (.cons h0 (.cons h1 .nil))⟩
theorem row_mk3 {K : PySem.W.Frag} {a a0 a1 a2 : Addr} {od : Option Addr} {n : Nat} {sl : Array (Option Value)} {p0 p1 p2 : Int × Int} (l : K.lookup a = some ⟨.type "tuple", od, .seq #[.ref a0, .ref a1, .ref a2] n, sl⟩) (h0 : Pr K a0 p0) (h1 : Pr K a1 p1) (h2 : Pr K a2 p2) : Row K a [p0, p1, p2] := ⟨[a0, a1, a2], ⟨_, _, _, l, rfl, rfl, (show 3 ≤ sizeLine by decide), (.cons rfl (.cons rfl (.cons rfl .nil)))⟩, (.cons h0 (.cons h1 (.cons h2 .nil)))⟩
theorem row_mk4 {K : PySem.W.Frag} {a a0 a1 a2 a3 : Addr} {od : Option Addr} {n : Nat} {sl : Array (Option Value)} {p0 p1 p2 p3 : Int × Int} (l : K.lookup a = some ⟨.type "tuple", od, .seq #[.ref a0, .ref a1, .ref a2, .ref a3] n, sl⟩) (h0 : Pr K a0 p0) (h1 : Pr K a1 p1) (h2 : Pr K a2 p2) (h3 : Pr K a3 p3) : Row K a [p0, p1, p2, p3] := ⟨[a0, a1, a2, a3], ⟨_, _, _, l, rfl, rfl, (show 4 ≤ sizeLine by decide), (.cons rfl (.cons rfl (.cons rfl (.cons rfl .nil))))⟩, (.cons h0 (.cons h1 (.cons h2 (.cons h3 .nil))))⟩
theorem row_mk5 {K : PySem.W.Frag} {a a0 a1 a2 a3 a4 : Addr} {od : Option Addr} {n : Nat} {sl : Array (Option Value)} {p0 p1 p2 p3 p4 : Int × Int} (l : K.lookup a = some ⟨.type "tuple", od, .seq #[.ref a0, .ref a1, .ref a2, .ref a3, .ref a4] n, sl⟩) (h0 : Pr K a0 p0) (h1 : Pr K a1 p1) (h2 : Pr K a2 p2) (h3 : Pr K a3 p3) (h4 : Pr K a4 p4) : Row K a [p0, p1, p2, p3, p4] := ⟨[a0, a1, a2, a3, a4], ⟨_, _, _, l, rfl, rfl, (show 5 ≤ sizeLine by decide), (.cons rfl (.cons rfl (.cons rfl (.cons rfl (.cons rfl .nil)))))⟩, (.cons h0 (.cons h1 (.cons h2 (.cons h3 (.cons h4 .nil)))))⟩
theorem tab_mk19 {K : PySem.W.Frag} {a a0 a1 a2 a3 a4 a5 a6 a7 a8 a9 a10 a11 a12 a13 a14 a15 a16 a17 a18 : Addr} {od : Option Addr} {n : Nat} {sl : Array (Option Value)} {p0 p1 p2 p3 p4 p5 p6 p7 p8 p9 p10 p11 p12 p13 p14 p15 p16 p17 p18 : List (Int × Int)} (l : K.lookup a = some ⟨.type "tuple", od, .seq #[.ref a0, .ref a1, .ref a2, .ref a3, .ref a4, .ref a5, .ref a6, .ref a7, .ref a8, .ref a9, .ref a10, .ref a11, .ref a12, .ref a13, .ref a14, .ref a15, .ref a16, .ref a17, .ref a18] n, sl⟩) (h0 : Row K a0 p0) (h1 : Row K a1 p1) (h2 : Row K a2 p2) (h3 : Row K a3 p3) (h4 : Row K a4 p4) (h5 : Row K a5 p5) (h6 : Row K a6 p6) (h7 : Row K a7 p7) (h8 : Row K a8 p8) (h9 : Row K a9 p9) (h10 : Row K a10 p10) (h11 : Row K a11 p11) (h12 : Row K a12 p12) (h13 : Row K a13 p13) (h14 : Row K a14 p14) (h15 : Row K a15 p15) (h16 : Row K a16 p16) (h17 : Row K a17 p17) (h18 : Row K a18 p18) : Tab K a [p0, p1, p2, p3, p4, p5, p6, p7, p8, p9, p10, p11, p12, p13, p14, p15, p16, p17, p18] := ⟨[a0, a1, a2, a3, a4, a5, a6, a7, a8, a9, a10, a11, a12, a13, a14, a15, a16, a17, a18], ⟨_, _, _, l, rfl, rfl, (show 19 ≤ sizeLine by decide), (.cons rfl (.cons rfl (.cons rfl (.cons rfl (.cons rfl (.cons rfl (.cons rfl (.cons rfl (.cons rfl (.cons rfl (.cons rfl (.cons rfl (.cons rfl (.cons rfl (.cons rfl (.cons rfl (.cons rfl (.cons rfl (.cons rfl .nil)))))))))))))))))))⟩, (.cons h0 (.cons h1 (.cons h2 (.cons h3 (.cons h4 (.cons h5 (.cons h6 (.cons h7 (.cons h8 (.cons h9 (.cons h10 (.cons h11 (.cons h12 (.cons h13 (.cons h14 (.cons h15 (.cons h16 (.cons h17 (.cons h18 .nil)))))))))))))))))))⟩
theorem dct_mk9 {K : PySem.W.Frag} {a : Addr} {n : Nat} {k0 v0 k1 v1 k2 v2 k3 v3 k4 v4 k5 v5 k6 v6 k7 v7 k8 v8 : Int} {t0 u0 t1 u1 t2 u2 t3 u3 t4 u4 t5 u5 t6 u6 t7 u7 t8 u8 : Tok} (l : K.lookup a = some ⟨.type "dict", none, .dict #[⟨hashInt k0, .int k0 t0, .int v0 u0⟩, ⟨hashInt k1, .int k1 t1, .int v1 u1⟩, ⟨hashInt k2, .int k2 t2, .int v2 u2⟩, ⟨hashInt k3, .int k3 t3, .int v3 u3⟩, ⟨hashInt k4, .int k4 t4, .int v4 u4⟩, ⟨hashInt k5, .int k5 t5, .int v5 u5⟩, ⟨hashInt k6, .int k6 t6, .int v6 u6⟩, ⟨hashInt k7, .int k7 t7, .int v7 u7⟩, ⟨hashInt k8, .int k8 t8, .int v8 u8⟩] n, #[]⟩) (h : (a == sysModules) = false) : DctK K a [(k0, v0), (k1, v1), (k2, v2), (k3, v3), (k4, v4), (k5, v5), (k6, v6), (k7, v7), (k8, v8)] := ⟨_, _, _, l, ⟨rfl, rfl, rfl⟩, rfl, h, (.cons ⟨rfl, ⟨_, rfl⟩, _, rfl⟩ (.cons ⟨rfl, ⟨_, rfl⟩, _, rfl⟩ (.cons ⟨rfl, ⟨_, rfl⟩, _, rfl⟩ (.cons ⟨rfl, ⟨_, rfl⟩, _, rfl⟩ (.cons ⟨rfl, ⟨_, rfl⟩, _, rfl⟩ (.cons ⟨rfl, ⟨_, rfl⟩, _, rfl⟩ (.cons ⟨rfl, ⟨_, rfl⟩, _, rfl⟩ (.cons ⟨rfl, ⟨_, rfl⟩, _, rfl⟩ (.cons ⟨rfl, ⟨_, rfl⟩, _, rfl⟩ .nil)))))))))⟩
theorem tup_mk19 {K : PySem.W.Frag} {a a0 a1 a2 a3 a4 a5 a6 a7 a8 a9 a10 a11 a12 a13 a14 a15 a16 a17 a18 : Addr} {od : Option Addr} {n : Nat} {sl : Array (Option Value)} (l : K.lookup a = some ⟨.type "tuple", od, .seq #[.ref a0, .ref a1, .ref a2, .ref a3, .ref a4, .ref a5, .ref a6, .ref a7, .ref a8, .ref a9, .ref a10, .ref a11, .ref a12, .ref a13, .ref a14, .ref a15, .ref a16, .ref a17, .ref a18] n, sl⟩) : TupK K a [.ref a0, .ref a1, .ref a2, .ref a3, .ref a4, .ref a5, .ref a6, .ref a7, .ref a8, .ref a9, .ref a10, .ref a11, .ref a12, .ref a13, .ref a14, .ref a15, .ref a16, .ref a17, .ref a18] := ⟨_, _, _, l, rfl, rfl, (show 19 ≤ sizeLine by decide), (.cons rfl (.cons rfl (.cons rfl (.cons rfl (.cons rfl (.cons rfl (.cons rfl (.cons rfl (.cons rfl (.cons rfl (.cons rfl (.cons rfl (.cons rfl (.cons rfl (.cons rfl (.cons rfl (.cons rfl (.cons rfl (.cons rfl .nil)))))))))))))))))))⟩
end Bb
open PySem PySem.W PyProof.Rows
set_option maxRecDepth 100000 in
set_option maxHeartbeats 0 in
theorem PySem.Challenge.cw_bloodbath_s01_answers_holds : PySem.Challenge.rw_bloodbath_s01_answers.Holds := by
  refine holds_os (q := Hd.view) (loose := Hd.loose) (Xt := Hd.Xt) (XP := XL Hd.view []) (Yf := (kHook Hd.K Hd.ads Hd.ads_eq).obs) (Ya := (kHook Hd.K Hd.ads Hd.ads_eq).val) (YP := (kHook Hd.K Hd.ads Hd.ads_eq).says) (N := 5082) Hd.left (kHook Hd.K Hd.ads Hd.ads_eq).of (kHook Hd.K Hd.ads Hd.ads_eq).keeps (fun s e => xl_of s (Bool.and_eq_true_iff.mp e).1) XL.keeps (by rfl) (by rfl) (by rfl) (fun s e => recFacts_of (Bool.and_eq_true_iff.mp e).2) os_shapes (by decide +kernel) (by decide +kernel) ⟨rfl, rfl, rfl, rfl, rfl, by decide +kernel⟩ ⟨[.list [.int 11]], by decide +kernel, by decide +kernel⟩ ?hc
  k_fillS
  refine L2.walk_specK (r := PySem.Challenge.rw_bloodbath_s01_answers) (k := 10) (CX := L2.CX0) (ps := ["calls"]) (sp := Bb.sp_answers) (by decide +kernel) rfl rfl ⟨rfl, by decide, by decide⟩ (fun w h Y => PySem.W.kIn_of Y) ?F ?S (fun _ _ _ _ z => z)
  case F =>
    intro w mg fa h Y KX G hmg
    obtain ⟨C_Solute, f_Solute_init, d_Solute_init, f_Solute_lay_cells, d_Solute_lay_cells, f_Solute_dose, d_Solute_dose, f_Solute_mark, d_Solute_mark, f_Solute_totals, d_Solute_totals, f_Solute_twin, d_Solute_twin, f_Solute_tick, d_Solute_tick, f_Solute_mix_pools, d_Solute_mix_pools, f_Solute_move_blood, d_Solute_move_blood, f_Solute_move_bath, d_Solute_move_bath, f_Solute_cross_membrane, d_Solute_cross_membrane, a_Solute, cl_Solute, mk_Solute, kc_Solute, n_Solute_share, n_Solute_fresh, n_Solute_growth, n_Solute_pool1, n_Solute_pool2, n_Solute_blood, n_Solute_bath, n_Solute_given, n_Solute_produced, n_Solute_come, n_Solute_spent, n_Solute_thrown, n_Solute_went_in, n_Solute_came_out, n_Solute_at_mark, ⟨m_Solute_init, i_Solute_init⟩, F_Solute_init, ⟨m_Solute_lay_cells, i_Solute_lay_cells⟩, F_Solute_lay_cells, ⟨m_Solute_dose, i_Solute_dose⟩, F_Solute_dose, ⟨m_Solute_mark, i_Solute_mark⟩, F_Solute_mark, ⟨m_Solute_totals, i_Solute_totals⟩, F_Solute_totals, ⟨m_Solute_twin, i_Solute_twin⟩, F_Solute_twin, ⟨m_Solute_tick, i_Solute_tick⟩, F_Solute_tick, ⟨m_Solute_mix_pools, i_Solute_mix_pools⟩, F_Solute_mix_pools, ⟨m_Solute_move_blood, i_Solute_move_blood⟩, F_Solute_move_blood, ⟨m_Solute_move_bath, i_Solute_move_bath⟩, F_Solute_move_bath, ⟨m_Solute_cross_membrane, i_Solute_cross_membrane⟩, F_Solute_cross_membrane⟩ : ∃ (C : Addr) (f0 : Addr) (d0 : FuncData) (f1 : Addr) (d1 : FuncData) (f2 : Addr) (d2 : FuncData) (f3 : Addr) (d3 : FuncData) (f4 : Addr) (d4 : FuncData) (f5 : Addr) (d5 : FuncData) (f6 : Addr) (d6 : FuncData) (f7 : Addr) (d7 : FuncData) (f8 : Addr) (d8 : FuncData) (f9 : Addr) (d9 : FuncData) (f10 : Addr) (d10 : FuncData), PySem.W.nsIn (L2.KOf KX) mainGlobals "Solute" = some (some (.ref C)) ∧ L2.Cls (L2.KOf KX) C ∧ PySem.W.makesIn (L2.KOf KX) C = true ∧ PySem.W.keepIn (L2.KOf KX) (.ref C) = true ∧ L2.NoAttr (L2.KOf KX) C "share" ∧ L2.NoAttr (L2.KOf KX) C "fresh" ∧ L2.NoAttr (L2.KOf KX) C "growth" ∧ L2.NoAttr (L2.KOf KX) C "pool1" ∧ L2.NoAttr (L2.KOf KX) C "pool2" ∧ L2.NoAttr (L2.KOf KX) C "blood" ∧ L2.NoAttr (L2.KOf KX) C "bath" ∧ L2.NoAttr (L2.KOf KX) C "given" ∧ L2.NoAttr (L2.KOf KX) C "produced" ∧ L2.NoAttr (L2.KOf KX) C "come" ∧ L2.NoAttr (L2.KOf KX) C "spent" ∧ L2.NoAttr (L2.KOf KX) C "thrown" ∧ L2.NoAttr (L2.KOf KX) C "went_in" ∧ L2.NoAttr (L2.KOf KX) C "came_out" ∧ L2.NoAttr (L2.KOf KX) C "at_mark" ∧ (PySem.W.findIn (L2.KOf KX) (.ref C) "__init__" = some (some (.ref f0)) ∧ PySem.W.isFn (L2.KOf KX) (.ref f0) = true) ∧ L2.Fun (L2.KOf KX) "__init__" "Solute.__init__" Bb.s_Solute_init f0 d0 ∧ (PySem.W.findIn (L2.KOf KX) (.ref C) "lay_cells" = some (some (.ref f1)) ∧ PySem.W.isFn (L2.KOf KX) (.ref f1) = true) ∧ L2.Fun (L2.KOf KX) "lay_cells" "Solute.lay_cells" Bb.s_Solute_lay_cells f1 d1 ∧ (PySem.W.findIn (L2.KOf KX) (.ref C) "dose" = some (some (.ref f2)) ∧ PySem.W.isFn (L2.KOf KX) (.ref f2) = true) ∧ L2.Fun (L2.KOf KX) "dose" "Solute.dose" Bb.s_Solute_dose f2 d2 ∧ (PySem.W.findIn (L2.KOf KX) (.ref C) "mark" = some (some (.ref f3)) ∧ PySem.W.isFn (L2.KOf KX) (.ref f3) = true) ∧ L2.Fun (L2.KOf KX) "mark" "Solute.mark" Bb.s_Solute_mark f3 d3 ∧ (PySem.W.findIn (L2.KOf KX) (.ref C) "totals" = some (some (.ref f4)) ∧ PySem.W.isFn (L2.KOf KX) (.ref f4) = true) ∧ L2.Fun (L2.KOf KX) "totals" "Solute.totals" Bb.s_Solute_totals f4 d4 ∧ (PySem.W.findIn (L2.KOf KX) (.ref C) "twin" = some (some (.ref f5)) ∧ PySem.W.isFn (L2.KOf KX) (.ref f5) = true) ∧ L2.Fun (L2.KOf KX) "twin" "Solute.twin" Bb.s_Solute_twin f5 d5 ∧ (PySem.W.findIn (L2.KOf KX) (.ref C) "tick" = some (some (.ref f6)) ∧ PySem.W.isFn (L2.KOf KX) (.ref f6) = true) ∧ L2.Fun (L2.KOf KX) "tick" "Solute.tick" Bb.s_Solute_tick f6 d6 ∧ (PySem.W.findIn (L2.KOf KX) (.ref C) "mix_pools" = some (some (.ref f7)) ∧ PySem.W.isFn (L2.KOf KX) (.ref f7) = true) ∧ L2.Fun (L2.KOf KX) "mix_pools" "Solute.mix_pools" Bb.s_Solute_mix_pools f7 d7 ∧ (PySem.W.findIn (L2.KOf KX) (.ref C) "move_blood" = some (some (.ref f8)) ∧ PySem.W.isFn (L2.KOf KX) (.ref f8) = true) ∧ L2.Fun (L2.KOf KX) "move_blood" "Solute.move_blood" Bb.s_Solute_move_blood f8 d8 ∧ (PySem.W.findIn (L2.KOf KX) (.ref C) "move_bath" = some (some (.ref f9)) ∧ PySem.W.isFn (L2.KOf KX) (.ref f9) = true) ∧ L2.Fun (L2.KOf KX) "move_bath" "Solute.move_bath" Bb.s_Solute_move_bath f9 d9 ∧ (PySem.W.findIn (L2.KOf KX) (.ref C) "cross_membrane" = some (some (.ref f10)) ∧ PySem.W.isFn (L2.KOf KX) (.ref f10) = true) ∧ L2.Fun (L2.KOf KX) "cross_membrane" "Solute.cross_membrane" Bb.s_Solute_cross_membrane f10 d10 := by
      dsimp only [L2.KOf, L2.NoAttr]
      refine' ⟨_, _, _, _, _, _, _, _, _, _, _, _, _, _, _, _, _, _, _, _, _, _, _, ?a, ⟨?pg, ?hd, ?po, ?sa⟩, ?mk, ?kc, ?n0, ?n1, ?n2, ?n3, ?n4, ?n5, ?n6, ?n7, ?n8, ?n9, ?n10, ?n11, ?n12, ?n13, ?n14, ⟨?m0, ?i0⟩, L2.fun_mk ?l0 ?c0 ?k0, ⟨?m1, ?i1⟩, L2.fun_mk ?l1 ?c1 ?k1, ⟨?m2, ?i2⟩, L2.fun_mk ?l2 ?c2 ?k2, ⟨?m3, ?i3⟩, L2.fun_mk ?l3 ?c3 ?k3, ⟨?m4, ?i4⟩, L2.fun_mk ?l4 ?c4 ?k4, ⟨?m5, ?i5⟩, L2.fun_mk ?l5 ?c5 ?k5, ⟨?m6, ?i6⟩, L2.fun_mk ?l6 ?c6 ?k6, ⟨?m7, ?i7⟩, L2.fun_mk ?l7 ?c7 ?k7, ⟨?m8, ?i8⟩, L2.fun_mk ?l8 ?c8 ?k8, ⟨?m9, ?i9⟩, L2.fun_mk ?l9 ?c9 ?k9, ⟨?m10, ?i10⟩, L2.fun_mk ?l10 ?c10 ?k10⟩
      (case a => k_is); (case pg => k_is); (case hd => k_is); (case po => k_is); (case sa => k_is); (case mk => k_is)
      (case kc => k_is); (case n0 => k_is); (case n1 => k_is); (case n2 => k_is); (case n3 => k_is); (case n4 => k_is)
      (case n5 => k_is); (case n6 => k_is); (case n7 => k_is); (case n8 => k_is); (case n9 => k_is); (case n10 => k_is)
      (case n11 => k_is); (case n12 => k_is); (case n13 => k_is); (case n14 => k_is); (case m0 => k_is); (case i0 => k_is)
      (case l0 => k_is); (case c0 => k_is); (case k0 => k_is); (case m1 => k_is); (case i1 => k_is); (case l1 => k_is)
      (case c1 => k_is); (case k1 => k_is); (case m2 => k_is); (case i2 => k_is); (case l2 => k_is); (case c2 => k_is)
      (case k2 => k_is); (case m3 => k_is); (case i3 => k_is); (case l3 => k_is); (case c3 => k_is); (case k3 => k_is)
      (case m4 => k_is); (case i4 => k_is); (case l4 => k_is); (case c4 => k_is); (case k4 => k_is); (case m5 => k_is)
      (case i5 => k_is); (case l5 => k_is); (case c5 => k_is); (case k5 => k_is); (case m6 => k_is); (case i6 => k_is)
      (case l6 => k_is); (case c6 => k_is); (case k6 => k_is); (case m7 => k_is); (case i7 => k_is); (case l7 => k_is)
      (case c7 => k_is); (case k7 => k_is); (case m8 => k_is); (case i8 => k_is); (case l8 => k_is); (case c8 => k_is)
      (case k8 => k_is); (case m9 => k_is); (case i9 => k_is); (case l9 => k_is); (case c9 => k_is); (case k9 => k_is)
      (case m10 => k_is); (case i10 => k_is); (case l10 => k_is); (case c10 => k_is); (case k10 => k_is)
    obtain ⟨C_Rate, f_Rate_init, d_Rate_init, f_Rate_restart, d_Rate_restart, f_Rate_gather, d_Rate_gather, f_Rate_twin, d_Rate_twin, a_Rate, cl_Rate, mk_Rate, kc_Rate, n_Rate_times, n_Rate_span, n_Rate_parts, ⟨m_Rate_init, i_Rate_init⟩, F_Rate_init, ⟨m_Rate_restart, i_Rate_restart⟩, F_Rate_restart, ⟨m_Rate_gather, i_Rate_gather⟩, F_Rate_gather, ⟨m_Rate_twin, i_Rate_twin⟩, F_Rate_twin⟩ : ∃ (C : Addr) (f0 : Addr) (d0 : FuncData) (f1 : Addr) (d1 : FuncData) (f2 : Addr) (d2 : FuncData) (f3 : Addr) (d3 : FuncData), PySem.W.nsIn (L2.KOf KX) mainGlobals "Rate" = some (some (.ref C)) ∧ L2.Cls (L2.KOf KX) C ∧ PySem.W.makesIn (L2.KOf KX) C = true ∧ PySem.W.keepIn (L2.KOf KX) (.ref C) = true ∧ L2.NoAttr (L2.KOf KX) C "times" ∧ L2.NoAttr (L2.KOf KX) C "span" ∧ L2.NoAttr (L2.KOf KX) C "parts" ∧ (PySem.W.findIn (L2.KOf KX) (.ref C) "__init__" = some (some (.ref f0)) ∧ PySem.W.isFn (L2.KOf KX) (.ref f0) = true) ∧ L2.Fun (L2.KOf KX) "__init__" "Rate.__init__" Bb.s_Rate_init f0 d0 ∧ (PySem.W.findIn (L2.KOf KX) (.ref C) "restart" = some (some (.ref f1)) ∧ PySem.W.isFn (L2.KOf KX) (.ref f1) = true) ∧ L2.Fun (L2.KOf KX) "restart" "Rate.restart" Bb.s_Rate_restart f1 d1 ∧ (PySem.W.findIn (L2.KOf KX) (.ref C) "gather" = some (some (.ref f2)) ∧ PySem.W.isFn (L2.KOf KX) (.ref f2) = true) ∧ L2.Fun (L2.KOf KX) "gather" "Rate.gather" Bb.s_Rate_gather f2 d2 ∧ (PySem.W.findIn (L2.KOf KX) (.ref C) "twin" = some (some (.ref f3)) ∧ PySem.W.isFn (L2.KOf KX) (.ref f3) = true) ∧ L2.Fun (L2.KOf KX) "twin" "Rate.twin" Bb.s_Rate_twin f3 d3 := by
      dsimp only [L2.KOf, L2.NoAttr]
      refine' ⟨_, _, _, _, _, _, _, _, _, ?a, ⟨?pg, ?hd, ?po, ?sa⟩, ?mk, ?kc, ?n0, ?n1, ?n2, ⟨?m0, ?i0⟩, L2.fun_mk ?l0 ?c0 ?k0, ⟨?m1, ?i1⟩, L2.fun_mk ?l1 ?c1 ?k1, ⟨?m2, ?i2⟩, L2.fun_mk ?l2 ?c2 ?k2, ⟨?m3, ?i3⟩, L2.fun_mk ?l3 ?c3 ?k3⟩
      (case a => k_is); (case pg => k_is); (case hd => k_is); (case po => k_is); (case sa => k_is); (case mk => k_is)
      (case kc => k_is); (case n0 => k_is); (case n1 => k_is); (case n2 => k_is); (case m0 => k_is); (case i0 => k_is)
      (case l0 => k_is); (case c0 => k_is); (case k0 => k_is); (case m1 => k_is); (case i1 => k_is); (case l1 => k_is)
      (case c1 => k_is); (case k1 => k_is); (case m2 => k_is); (case i2 => k_is); (case l2 => k_is); (case c2 => k_is)
      (case k2 => k_is); (case m3 => k_is); (case i3 => k_is); (case l3 => k_is); (case c3 => k_is); (case k3 => k_is)
    obtain ⟨C_Device, f_Device_init, d_Device_init, a_Device, cl_Device, mk_Device, kc_Device, n_Device_laid, n_Device_cells, n_Device_blood_volume, n_Device_bath_volume, n_Device_along, n_Device_solutes, n_Device_volume1, n_Device_volume2, n_Device_between, n_Device_round_share, n_Device_blood_rate, n_Device_bath_rate, n_Device_ticks, ⟨m_Device_init, i_Device_init⟩, F_Device_init⟩ : ∃ (C : Addr) (f0 : Addr) (d0 : FuncData), PySem.W.nsIn (L2.KOf KX) mainGlobals "Device" = some (some (.ref C)) ∧ L2.Cls (L2.KOf KX) C ∧ PySem.W.makesIn (L2.KOf KX) C = true ∧ PySem.W.keepIn (L2.KOf KX) (.ref C) = true ∧ L2.NoAttr (L2.KOf KX) C "laid" ∧ L2.NoAttr (L2.KOf KX) C "cells" ∧ L2.NoAttr (L2.KOf KX) C "blood_volume" ∧ L2.NoAttr (L2.KOf KX) C "bath_volume" ∧ L2.NoAttr (L2.KOf KX) C "along" ∧ L2.NoAttr (L2.KOf KX) C "solutes" ∧ L2.NoAttr (L2.KOf KX) C "volume1" ∧ L2.NoAttr (L2.KOf KX) C "volume2" ∧ L2.NoAttr (L2.KOf KX) C "between" ∧ L2.NoAttr (L2.KOf KX) C "round_share" ∧ L2.NoAttr (L2.KOf KX) C "blood_rate" ∧ L2.NoAttr (L2.KOf KX) C "bath_rate" ∧ L2.NoAttr (L2.KOf KX) C "ticks" ∧ (PySem.W.findIn (L2.KOf KX) (.ref C) "__init__" = some (some (.ref f0)) ∧ PySem.W.isFn (L2.KOf KX) (.ref f0) = true) ∧ L2.Fun (L2.KOf KX) "__init__" "Device.__init__" Bb.s_Device_init f0 d0 := by
      dsimp only [L2.KOf, L2.NoAttr]
      refine' ⟨_, _, _, ?a, ⟨?pg, ?hd, ?po, ?sa⟩, ?mk, ?kc, ?n0, ?n1, ?n2, ?n3, ?n4, ?n5, ?n6, ?n7, ?n8, ?n9, ?n10, ?n11, ?n12, ⟨?m0, ?i0⟩, L2.fun_mk ?l0 ?c0 ?k0⟩
      (case a => k_is); (case pg => k_is); (case hd => k_is); (case po => k_is); (case sa => k_is); (case mk => k_is)
      (case kc => k_is); (case n0 => k_is); (case n1 => k_is); (case n2 => k_is); (case n3 => k_is); (case n4 => k_is)
      (case n5 => k_is); (case n6 => k_is); (case n7 => k_is); (case n8 => k_is); (case n9 => k_is); (case n10 => k_is)
      (case n11 => k_is); (case n12 => k_is); (case m0 => k_is); (case i0 => k_is); (case l0 => k_is); (case c0 => k_is)
      (case k0 => k_is)
    obtain ⟨f_crossing, d_crossing, a_crossing, F_crossing⟩ : ∃ (f : Addr) (d : FuncData), PySem.W.nsIn (L2.KOf KX) mainGlobals "crossing" = some (some (.ref f)) ∧ L2.Fun (L2.KOf KX) "crossing" "crossing" Bb.s_crossing f d := by
      dsimp only [L2.KOf]
      refine' ⟨_, _, ?a, L2.fun_mk ?l ?c ?k⟩
      (case a => k_is); (case l => k_is); (case c => k_is); (case k => k_is)
    obtain ⟨f_lay, d_lay, a_lay, F_lay⟩ : ∃ (f : Addr) (d : FuncData), PySem.W.nsIn (L2.KOf KX) mainGlobals "lay" = some (some (.ref f)) ∧ L2.Fun (L2.KOf KX) "lay" "lay" Bb.s_lay f d := by
      dsimp only [L2.KOf]
      refine' ⟨_, _, ?a, L2.fun_mk ?l ?c ?k⟩
      (case a => k_is); (case l => k_is); (case c => k_is); (case k => k_is)
    obtain ⟨f_set_share, d_set_share, a_set_share, F_set_share⟩ : ∃ (f : Addr) (d : FuncData), PySem.W.nsIn (L2.KOf KX) mainGlobals "set_share" = some (some (.ref f)) ∧ L2.Fun (L2.KOf KX) "set_share" "set_share" Bb.s_set_share f d := by
      dsimp only [L2.KOf]
      refine' ⟨_, _, ?a, L2.fun_mk ?l ?c ?k⟩
      (case a => k_is); (case l => k_is); (case c => k_is); (case k => k_is)
    obtain ⟨f_set_fresh, d_set_fresh, a_set_fresh, F_set_fresh⟩ : ∃ (f : Addr) (d : FuncData), PySem.W.nsIn (L2.KOf KX) mainGlobals "set_fresh" = some (some (.ref f)) ∧ L2.Fun (L2.KOf KX) "set_fresh" "set_fresh" Bb.s_set_fresh f d := by
      dsimp only [L2.KOf]
      refine' ⟨_, _, ?a, L2.fun_mk ?l ?c ?k⟩
      (case a => k_is); (case l => k_is); (case c => k_is); (case k => k_is)
    obtain ⟨f_set_rates, d_set_rates, a_set_rates, F_set_rates⟩ : ∃ (f : Addr) (d : FuncData), PySem.W.nsIn (L2.KOf KX) mainGlobals "set_rates" = some (some (.ref f)) ∧ L2.Fun (L2.KOf KX) "set_rates" "set_rates" Bb.s_set_rates f d := by
      dsimp only [L2.KOf]
      refine' ⟨_, _, ?a, L2.fun_mk ?l ?c ?k⟩
      (case a => k_is); (case l => k_is); (case c => k_is); (case k => k_is)
    obtain ⟨f_set_pools, d_set_pools, a_set_pools, F_set_pools⟩ : ∃ (f : Addr) (d : FuncData), PySem.W.nsIn (L2.KOf KX) mainGlobals "set_pools" = some (some (.ref f)) ∧ L2.Fun (L2.KOf KX) "set_pools" "set_pools" Bb.s_set_pools f d := by
      dsimp only [L2.KOf]
      refine' ⟨_, _, ?a, L2.fun_mk ?l ?c ?k⟩
      (case a => k_is); (case l => k_is); (case c => k_is); (case k => k_is)
    obtain ⟨f_give_dose, d_give_dose, a_give_dose, F_give_dose⟩ : ∃ (f : Addr) (d : FuncData), PySem.W.nsIn (L2.KOf KX) mainGlobals "give_dose" = some (some (.ref f)) ∧ L2.Fun (L2.KOf KX) "give_dose" "give_dose" Bb.s_give_dose f d := by
      dsimp only [L2.KOf]
      refine' ⟨_, _, ?a, L2.fun_mk ?l ?c ?k⟩
      (case a => k_is); (case l => k_is); (case c => k_is); (case k => k_is)
    obtain ⟨f_set_growth, d_set_growth, a_set_growth, F_set_growth⟩ : ∃ (f : Addr) (d : FuncData), PySem.W.nsIn (L2.KOf KX) mainGlobals "set_growth" = some (some (.ref f)) ∧ L2.Fun (L2.KOf KX) "set_growth" "set_growth" Bb.s_set_growth f d := by
      dsimp only [L2.KOf]
      refine' ⟨_, _, ?a, L2.fun_mk ?l ?c ?k⟩
      (case a => k_is); (case l => k_is); (case c => k_is); (case k => k_is)
    obtain ⟨f_set_round, d_set_round, a_set_round, F_set_round⟩ : ∃ (f : Addr) (d : FuncData), PySem.W.nsIn (L2.KOf KX) mainGlobals "set_round" = some (some (.ref f)) ∧ L2.Fun (L2.KOf KX) "set_round" "set_round" Bb.s_set_round f d := by
      dsimp only [L2.KOf]
      refine' ⟨_, _, ?a, L2.fun_mk ?l ?c ?k⟩
      (case a => k_is); (case l => k_is); (case c => k_is); (case k => k_is)
    obtain ⟨f_pass_ticks, d_pass_ticks, a_pass_ticks, F_pass_ticks⟩ : ∃ (f : Addr) (d : FuncData), PySem.W.nsIn (L2.KOf KX) mainGlobals "pass_ticks" = some (some (.ref f)) ∧ L2.Fun (L2.KOf KX) "pass_ticks" "pass_ticks" Bb.s_pass_ticks f d := by
      dsimp only [L2.KOf]
      refine' ⟨_, _, ?a, L2.fun_mk ?l ?c ?k⟩
      (case a => k_is); (case l => k_is); (case c => k_is); (case k => k_is)
    obtain ⟨f_run_ticks, d_run_ticks, a_run_ticks, F_run_ticks⟩ : ∃ (f : Addr) (d : FuncData), PySem.W.nsIn (L2.KOf KX) mainGlobals "run_ticks" = some (some (.ref f)) ∧ L2.Fun (L2.KOf KX) "run_ticks" "run_ticks" Bb.s_run_ticks f d := by
      dsimp only [L2.KOf]
      refine' ⟨_, _, ?a, L2.fun_mk ?l ?c ?k⟩
      (case a => k_is); (case l => k_is); (case c => k_is); (case k => k_is)
    obtain ⟨f_tell_blood, d_tell_blood, a_tell_blood, F_tell_blood⟩ : ∃ (f : Addr) (d : FuncData), PySem.W.nsIn (L2.KOf KX) mainGlobals "tell_blood" = some (some (.ref f)) ∧ L2.Fun (L2.KOf KX) "tell_blood" "tell_blood" Bb.s_tell_blood f d := by
      dsimp only [L2.KOf]
      refine' ⟨_, _, ?a, L2.fun_mk ?l ?c ?k⟩
      (case a => k_is); (case l => k_is); (case c => k_is); (case k => k_is)
    obtain ⟨f_tell_bath, d_tell_bath, a_tell_bath, F_tell_bath⟩ : ∃ (f : Addr) (d : FuncData), PySem.W.nsIn (L2.KOf KX) mainGlobals "tell_bath" = some (some (.ref f)) ∧ L2.Fun (L2.KOf KX) "tell_bath" "tell_bath" Bb.s_tell_bath f d := by
      dsimp only [L2.KOf]
      refine' ⟨_, _, ?a, L2.fun_mk ?l ?c ?k⟩
      (case a => k_is); (case l => k_is); (case c => k_is); (case k => k_is)
    obtain ⟨f_tell_patient, d_tell_patient, a_tell_patient, F_tell_patient⟩ : ∃ (f : Addr) (d : FuncData), PySem.W.nsIn (L2.KOf KX) mainGlobals "tell_patient" = some (some (.ref f)) ∧ L2.Fun (L2.KOf KX) "tell_patient" "tell_patient" Bb.s_tell_patient f d := by
      dsimp only [L2.KOf]
      refine' ⟨_, _, ?a, L2.fun_mk ?l ?c ?k⟩
      (case a => k_is); (case l => k_is); (case c => k_is); (case k => k_is)
    obtain ⟨f_tell_totals, d_tell_totals, a_tell_totals, F_tell_totals⟩ : ∃ (f : Addr) (d : FuncData), PySem.W.nsIn (L2.KOf KX) mainGlobals "tell_totals" = some (some (.ref f)) ∧ L2.Fun (L2.KOf KX) "tell_totals" "tell_totals" Bb.s_tell_totals f d := by
      dsimp only [L2.KOf]
      refine' ⟨_, _, ?a, L2.fun_mk ?l ?c ?k⟩
      (case a => k_is); (case l => k_is); (case c => k_is); (case k => k_is)
    obtain ⟨f_set_mark, d_set_mark, a_set_mark, F_set_mark⟩ : ∃ (f : Addr) (d : FuncData), PySem.W.nsIn (L2.KOf KX) mainGlobals "set_mark" = some (some (.ref f)) ∧ L2.Fun (L2.KOf KX) "set_mark" "set_mark" Bb.s_set_mark f d := by
      dsimp only [L2.KOf]
      refine' ⟨_, _, ?a, L2.fun_mk ?l ?c ?k⟩
      (case a => k_is); (case l => k_is); (case c => k_is); (case k => k_is)
    obtain ⟨f_common_divisor, d_common_divisor, a_common_divisor, F_common_divisor⟩ : ∃ (f : Addr) (d : FuncData), PySem.W.nsIn (L2.KOf KX) mainGlobals "common_divisor" = some (some (.ref f)) ∧ L2.Fun (L2.KOf KX) "common_divisor" "common_divisor" Bb.s_common_divisor f d := by
      dsimp only [L2.KOf]
      refine' ⟨_, _, ?a, L2.fun_mk ?l ?c ?k⟩
      (case a => k_is); (case l => k_is); (case c => k_is); (case k => k_is)
    obtain ⟨f_share_gone, d_share_gone, a_share_gone, F_share_gone⟩ : ∃ (f : Addr) (d : FuncData), PySem.W.nsIn (L2.KOf KX) mainGlobals "share_gone" = some (some (.ref f)) ∧ L2.Fun (L2.KOf KX) "share_gone" "share_gone" Bb.s_share_gone f d := by
      dsimp only [L2.KOf]
      refine' ⟨_, _, ?a, L2.fun_mk ?l ?c ?k⟩
      (case a => k_is); (case l => k_is); (case c => k_is); (case k => k_is)
    obtain ⟨f_tell_extraction, d_tell_extraction, a_tell_extraction, F_tell_extraction⟩ : ∃ (f : Addr) (d : FuncData), PySem.W.nsIn (L2.KOf KX) mainGlobals "tell_extraction" = some (some (.ref f)) ∧ L2.Fun (L2.KOf KX) "tell_extraction" "tell_extraction" Bb.s_tell_extraction f d := by
      dsimp only [L2.KOf]
      refine' ⟨_, _, ?a, L2.fun_mk ?l ?c ?k⟩
      (case a => k_is); (case l => k_is); (case c => k_is); (case k => k_is)
    obtain ⟨f_tell_reduction, d_tell_reduction, a_tell_reduction, F_tell_reduction⟩ : ∃ (f : Addr) (d : FuncData), PySem.W.nsIn (L2.KOf KX) mainGlobals "tell_reduction" = some (some (.ref f)) ∧ L2.Fun (L2.KOf KX) "tell_reduction" "tell_reduction" Bb.s_tell_reduction f d := by
      dsimp only [L2.KOf]
      refine' ⟨_, _, ?a, L2.fun_mk ?l ?c ?k⟩
      (case a => k_is); (case l => k_is); (case c => k_is); (case k => k_is)
    obtain ⟨f_tell_profile, d_tell_profile, a_tell_profile, F_tell_profile⟩ : ∃ (f : Addr) (d : FuncData), PySem.W.nsIn (L2.KOf KX) mainGlobals "tell_profile" = some (some (.ref f)) ∧ L2.Fun (L2.KOf KX) "tell_profile" "tell_profile" Bb.s_tell_profile f d := by
      dsimp only [L2.KOf]
      refine' ⟨_, _, ?a, L2.fun_mk ?l ?c ?k⟩
      (case a => k_is); (case l => k_is); (case c => k_is); (case k => k_is)
    obtain ⟨f_tell_look, d_tell_look, a_tell_look, F_tell_look⟩ : ∃ (f : Addr) (d : FuncData), PySem.W.nsIn (L2.KOf KX) mainGlobals "tell_look" = some (some (.ref f)) ∧ L2.Fun (L2.KOf KX) "tell_look" "tell_look" Bb.s_tell_look f d := by
      dsimp only [L2.KOf]
      refine' ⟨_, _, ?a, L2.fun_mk ?l ?c ?k⟩
      (case a => k_is); (case l => k_is); (case c => k_is); (case k => k_is)
    obtain ⟨f_tell_would, d_tell_would, a_tell_would, F_tell_would⟩ : ∃ (f : Addr) (d : FuncData), PySem.W.nsIn (L2.KOf KX) mainGlobals "tell_would" = some (some (.ref f)) ∧ L2.Fun (L2.KOf KX) "tell_would" "tell_would" Bb.s_tell_would f d := by
      dsimp only [L2.KOf]
      refine' ⟨_, _, ?a, L2.fun_mk ?l ?c ?k⟩
      (case a => k_is); (case l => k_is); (case c => k_is); (case k => k_is)
    obtain ⟨f_in_range, d_in_range, a_in_range, F_in_range⟩ : ∃ (f : Addr) (d : FuncData), PySem.W.nsIn (L2.KOf KX) mainGlobals "in_range" = some (some (.ref f)) ∧ L2.Fun (L2.KOf KX) "in_range" "in_range" Bb.s_in_range f d := by
      dsimp only [L2.KOf]
      refine' ⟨_, _, ?a, L2.fun_mk ?l ?c ?k⟩
      (case a => k_is); (case l => k_is); (case c => k_is); (case k => k_is)
    obtain ⟨f_names_missing_solute, d_names_missing_solute, a_names_missing_solute, F_names_missing_solute⟩ : ∃ (f : Addr) (d : FuncData), PySem.W.nsIn (L2.KOf KX) mainGlobals "names_missing_solute" = some (some (.ref f)) ∧ L2.Fun (L2.KOf KX) "names_missing_solute" "names_missing_solute" Bb.s_names_missing_solute f d := by
      dsimp only [L2.KOf]
      refine' ⟨_, _, ?a, L2.fun_mk ?l ?c ?k⟩
      (case a => k_is); (case l => k_is); (case c => k_is); (case k => k_is)
    obtain ⟨f_answer, d_answer, a_answer, F_answer⟩ : ∃ (f : Addr) (d : FuncData), PySem.W.nsIn (L2.KOf KX) mainGlobals "answer" = some (some (.ref f)) ∧ L2.Fun (L2.KOf KX) "answer" "answer" Bb.s_answer f d := by
      dsimp only [L2.KOf]
      refine' ⟨_, _, ?a, L2.fun_mk ?l ?c ?k⟩
      (case a => k_is); (case l => k_is); (case c => k_is); (case k => k_is)
    obtain ⟨f_answers, d_answers, a_answers, F_answers⟩ : ∃ (f : Addr) (d : FuncData), PySem.W.nsIn (L2.KOf KX) mainGlobals "answers" = some (some (.ref f)) ∧ L2.Fun (L2.KOf KX) "answers" "answers" Bb.s_answers f d := by
      dsimp only [L2.KOf]
      refine' ⟨_, _, ?a, L2.fun_mk ?l ?c ?k⟩
      (case a => k_is); (case l => k_is); (case c => k_is); (case k => k_is)
    obtain ⟨t_OUT_OF_RANGE, v_OUT_OF_RANGE⟩ : ∃ t : Tok, PySem.W.nsIn (L2.KOf KX) mainGlobals "OUT_OF_RANGE" = some (some (.int (-1) t)) := by
      dsimp only [L2.KOf]
      exact ⟨_, rfl⟩
    obtain ⟨t_NOT_LAID, v_NOT_LAID⟩ : ∃ t : Tok, PySem.W.nsIn (L2.KOf KX) mainGlobals "NOT_LAID" = some (some (.int (-2) t)) := by
      dsimp only [L2.KOf]
      exact ⟨_, rfl⟩
    obtain ⟨t_NOT_THERE, v_NOT_THERE⟩ : ∃ t : Tok, PySem.W.nsIn (L2.KOf KX) mainGlobals "NOT_THERE" = some (some (.int (-3) t)) := by
      dsimp only [L2.KOf]
      exact ⟨_, rfl⟩
    obtain ⟨t_FEWER_SOLUTES, v_FEWER_SOLUTES⟩ : ∃ t : Tok, PySem.W.nsIn (L2.KOf KX) mainGlobals "FEWER_SOLUTES" = some (some (.int (-4) t)) := by
      dsimp only [L2.KOf]
      exact ⟨_, rfl⟩
    obtain ⟨t_POOL_TOO_SMALL, v_POOL_TOO_SMALL⟩ : ∃ t : Tok, PySem.W.nsIn (L2.KOf KX) mainGlobals "POOL_TOO_SMALL" = some (some (.int (-5) t)) := by
      dsimp only [L2.KOf]
      exact ⟨_, rfl⟩
    obtain ⟨t_TOO_MUCH_GIVEN, v_TOO_MUCH_GIVEN⟩ : ∃ t : Tok, PySem.W.nsIn (L2.KOf KX) mainGlobals "TOO_MUCH_GIVEN" = some (some (.int (-6) t)) := by
      dsimp only [L2.KOf]
      exact ⟨_, rfl⟩
    obtain ⟨t_TOO_MANY_TICKS, v_TOO_MANY_TICKS⟩ : ∃ t : Tok, PySem.W.nsIn (L2.KOf KX) mainGlobals "TOO_MANY_TICKS" = some (some (.int (-7) t)) := by
      dsimp only [L2.KOf]
      exact ⟨_, rfl⟩
    obtain ⟨t_NO_SHARE, v_NO_SHARE⟩ : ∃ t : Tok, PySem.W.nsIn (L2.KOf KX) mainGlobals "NO_SHARE" = some (some (.int (-8) t)) := by
      dsimp only [L2.KOf]
      exact ⟨_, rfl⟩
    obtain ⟨t_MOST_GIVEN, v_MOST_GIVEN⟩ : ∃ t : Tok, PySem.W.nsIn (L2.KOf KX) mainGlobals "MOST_GIVEN" = some (some (.int 10000000000 t)) := by
      dsimp only [L2.KOf]
      exact ⟨_, rfl⟩
    obtain ⟨t_MOST_TICKS, v_MOST_TICKS⟩ : ∃ t : Tok, PySem.W.nsIn (L2.KOf KX) mainGlobals "MOST_TICKS" = some (some (.int 20000 t)) := by
      dsimp only [L2.KOf]
      exact ⟨_, rfl⟩
    obtain ⟨t_FIRST_VOLUME, v_FIRST_VOLUME⟩ : ∃ t : Tok, PySem.W.nsIn (L2.KOf KX) mainGlobals "FIRST_VOLUME" = some (some (.int 1000000 t)) := by
      dsimp only [L2.KOf]
      exact ⟨_, rfl⟩
    obtain ⟨t_LAY, v_LAY⟩ : ∃ t : Tok, PySem.W.nsIn (L2.KOf KX) mainGlobals "LAY" = some (some (.int 0 t)) := by
      dsimp only [L2.KOf]
      exact ⟨_, rfl⟩
    obtain ⟨t_RATES, v_RATES⟩ : ∃ t : Tok, PySem.W.nsIn (L2.KOf KX) mainGlobals "RATES" = some (some (.int 3 t)) := by
      dsimp only [L2.KOf]
      exact ⟨_, rfl⟩
    have b_len : PySem.W.nsIn (L2.KOf KX) mainGlobals "len" = some none := by
      dsimp only [L2.KOf]
      k_is
    have b_sum : PySem.W.nsIn (L2.KOf KX) mainGlobals "sum" = some none := by
      dsimp only [L2.KOf]
      k_is
    have b_range : PySem.W.nsIn (L2.KOf KX) mainGlobals "range" = some none := by
      dsimp only [L2.KOf]
      k_is
    have b_abs : PySem.W.nsIn (L2.KOf KX) mainGlobals "abs" = some none := by
      dsimp only [L2.KOf]
      k_is
    have b_list : PySem.W.nsIn (L2.KOf KX) mainGlobals "list" = some none := by
      dsimp only [L2.KOf]
      k_is
    obtain ⟨r_RANGES, a_RANGES, t_RANGES⟩ : ∃ r : Addr, PySem.W.nsIn (L2.KOf KX) mainGlobals "RANGES" = some (some (.ref r)) ∧ L3.Tab (L2.KOf KX) r [[(2, 32), (1, 10000), (1, 10000), (1, 4), (0, 1)], [(0, 3), (0, 1000)], [(0, 3), (0, 1000000)], [(0, 1000), (1, 1000), (0, 1000), (1, 1000)], [(0, 1000000), (0, 1000000), (0, 1000)], [(0, 3), (0, 1), (0, 1000000000)], [(0, 3), (0, 1000000)], [(0, 1000)], [(1, 600)], [(0, 31)], [(0, 31)], [], [(0, 3)], [], [(0, 3)], [(0, 3)], [(0, 3)], [], [(1, 600), (0, 3)]] := by
      dsimp only [L2.KOf]
      refine' ⟨_, ?a, Bb.tab_mk19 ?l (Bb.row_mk5 ?l0 (Bb.pr_mk ?l0_0) (Bb.pr_mk ?l0_1) (Bb.pr_mk ?l0_2) (Bb.pr_mk ?l0_3) (Bb.pr_mk ?l0_4)) (Bb.row_mk2 ?l1 (Bb.pr_mk ?l1_0) (Bb.pr_mk ?l1_1)) (Bb.row_mk2 ?l2 (Bb.pr_mk ?l2_0) (Bb.pr_mk ?l2_1)) (Bb.row_mk4 ?l3 (Bb.pr_mk ?l3_0) (Bb.pr_mk ?l3_1) (Bb.pr_mk ?l3_2) (Bb.pr_mk ?l3_3)) (Bb.row_mk3 ?l4 (Bb.pr_mk ?l4_0) (Bb.pr_mk ?l4_1) (Bb.pr_mk ?l4_2)) (Bb.row_mk3 ?l5 (Bb.pr_mk ?l5_0) (Bb.pr_mk ?l5_1) (Bb.pr_mk ?l5_2)) (Bb.row_mk2 ?l6 (Bb.pr_mk ?l6_0) (Bb.pr_mk ?l6_1)) (Bb.row_mk1 ?l7 (Bb.pr_mk ?l7_0)) (Bb.row_mk1 ?l8 (Bb.pr_mk ?l8_0)) (Bb.row_mk1 ?l9 (Bb.pr_mk ?l9_0)) (Bb.row_mk1 ?l10 (Bb.pr_mk ?l10_0)) (Bb.row_mk0 ?l11 ) (Bb.row_mk1 ?l12 (Bb.pr_mk ?l12_0)) (Bb.row_mk0 ?l13 ) (Bb.row_mk1 ?l14 (Bb.pr_mk ?l14_0)) (Bb.row_mk1 ?l15 (Bb.pr_mk ?l15_0)) (Bb.row_mk1 ?l16 (Bb.pr_mk ?l16_0)) (Bb.row_mk0 ?l17 ) (Bb.row_mk2 ?l18 (Bb.pr_mk ?l18_0) (Bb.pr_mk ?l18_1))⟩
      (case a => k_is); (case l => k_is); (case l0 => k_is); (case l0_0 => k_is); (case l0_1 => k_is); (case l0_2 => k_is)
      (case l0_3 => k_is); (case l0_4 => k_is); (case l1 => k_is); (case l1_0 => k_is); (case l1_1 => k_is); (case l2 => k_is)
      (case l2_0 => k_is); (case l2_1 => k_is); (case l3 => k_is); (case l3_0 => k_is); (case l3_1 => k_is); (case l3_2 => k_is)
      (case l3_3 => k_is); (case l4 => k_is); (case l4_0 => k_is); (case l4_1 => k_is); (case l4_2 => k_is); (case l5 => k_is)
      (case l5_0 => k_is); (case l5_1 => k_is); (case l5_2 => k_is); (case l6 => k_is); (case l6_0 => k_is); (case l6_1 => k_is)
      (case l7 => k_is); (case l7_0 => k_is); (case l8 => k_is); (case l8_0 => k_is); (case l9 => k_is); (case l9_0 => k_is)
      (case l10 => k_is); (case l10_0 => k_is); (case l11 => k_is); (case l12 => k_is); (case l12_0 => k_is); (case l13 => k_is)
      (case l14 => k_is); (case l14_0 => k_is); (case l15 => k_is); (case l15_0 => k_is); (case l16 => k_is); (case l16_0 => k_is)
      (case l17 => k_is); (case l18 => k_is); (case l18_0 => k_is); (case l18_1 => k_is)
    obtain ⟨r_SOLUTE_AT, a_SOLUTE_AT, t_SOLUTE_AT⟩ : ∃ r : Addr, PySem.W.nsIn (L2.KOf KX) mainGlobals "SOLUTE_AT" = some (some (.ref r)) ∧ L3.DctK (L2.KOf KX) r [(1, 0), (2, 0), (5, 0), (6, 0), (12, 0), (14, 0), (15, 0), (16, 0), (18, 1)] := by
      dsimp only [L2.KOf]
      refine' ⟨_, ?a, Bb.dct_mk9 ?l ?h⟩
      (case a => k_is); (case l => k_is)
      (case h => rfl)
    obtain ⟨r_CALLS, x0, x1, x2, x3, x4, x5, x6, x7, x8, x9, x10, x11, x12, x13, x14, x15, x16, x17, x18, a_CALLS, t_CALLS, y0, y1, y2, y3, y4, y5, y6, y7, y8, y9, y10, y11, y12, y13, y14, y15, y16, y17, y18⟩ : ∃ (r x0 x1 x2 x3 x4 x5 x6 x7 x8 x9 x10 x11 x12 x13 x14 x15 x16 x17 x18 : Addr), PySem.W.nsIn (L2.KOf KX) mainGlobals "CALLS" = some (some (.ref r)) ∧ L3.TupK (L2.KOf KX) r [.ref x0, .ref x1, .ref x2, .ref x3, .ref x4, .ref x5, .ref x6, .ref x7, .ref x8, .ref x9, .ref x10, .ref x11, .ref x12, .ref x13, .ref x14, .ref x15, .ref x16, .ref x17, .ref x18] ∧ PySem.W.nsIn (L2.KOf KX) mainGlobals "lay" = some (some (.ref x0)) ∧ PySem.W.nsIn (L2.KOf KX) mainGlobals "set_share" = some (some (.ref x1)) ∧ PySem.W.nsIn (L2.KOf KX) mainGlobals "set_fresh" = some (some (.ref x2)) ∧ PySem.W.nsIn (L2.KOf KX) mainGlobals "set_rates" = some (some (.ref x3)) ∧ PySem.W.nsIn (L2.KOf KX) mainGlobals "set_pools" = some (some (.ref x4)) ∧ PySem.W.nsIn (L2.KOf KX) mainGlobals "give_dose" = some (some (.ref x5)) ∧ PySem.W.nsIn (L2.KOf KX) mainGlobals "set_growth" = some (some (.ref x6)) ∧ PySem.W.nsIn (L2.KOf KX) mainGlobals "set_round" = some (some (.ref x7)) ∧ PySem.W.nsIn (L2.KOf KX) mainGlobals "run_ticks" = some (some (.ref x8)) ∧ PySem.W.nsIn (L2.KOf KX) mainGlobals "tell_blood" = some (some (.ref x9)) ∧ PySem.W.nsIn (L2.KOf KX) mainGlobals "tell_bath" = some (some (.ref x10)) ∧ PySem.W.nsIn (L2.KOf KX) mainGlobals "tell_patient" = some (some (.ref x11)) ∧ PySem.W.nsIn (L2.KOf KX) mainGlobals "tell_totals" = some (some (.ref x12)) ∧ PySem.W.nsIn (L2.KOf KX) mainGlobals "set_mark" = some (some (.ref x13)) ∧ PySem.W.nsIn (L2.KOf KX) mainGlobals "tell_extraction" = some (some (.ref x14)) ∧ PySem.W.nsIn (L2.KOf KX) mainGlobals "tell_reduction" = some (some (.ref x15)) ∧ PySem.W.nsIn (L2.KOf KX) mainGlobals "tell_profile" = some (some (.ref x16)) ∧ PySem.W.nsIn (L2.KOf KX) mainGlobals "tell_look" = some (some (.ref x17)) ∧ PySem.W.nsIn (L2.KOf KX) mainGlobals "tell_would" = some (some (.ref x18)) := by
      dsimp only [L2.KOf]
      refine' ⟨_, _, _, _, _, _, _, _, _, _, _, _, _, _, _, _, _, _, _, _, ?a, Bb.tup_mk19 ?l, ?y0, ?y1, ?y2, ?y3, ?y4, ?y5, ?y6, ?y7, ?y8, ?y9, ?y10, ?y11, ?y12, ?y13, ?y14, ?y15, ?y16, ?y17, ?y18⟩
      (case a => k_is); (case l => k_is); (case y0 => k_is); (case y1 => k_is); (case y2 => k_is); (case y3 => k_is)
      (case y4 => k_is); (case y5 => k_is); (case y6 => k_is); (case y7 => k_is); (case y8 => k_is); (case y9 => k_is)
      (case y10 => k_is); (case y11 => k_is); (case y12 => k_is); (case y13 => k_is); (case y14 => k_is); (case y15 => k_is)
      (case y16 => k_is); (case y17 => k_is); (case y18 => k_is)
    obtain rfl : f_lay = x0 := by injection (Option.some.inj (Option.some.inj (a_lay.symm.trans y0)))
    obtain rfl : f_set_share = x1 := by injection (Option.some.inj (Option.some.inj (a_set_share.symm.trans y1)))
    obtain rfl : f_set_fresh = x2 := by injection (Option.some.inj (Option.some.inj (a_set_fresh.symm.trans y2)))
    obtain rfl : f_set_rates = x3 := by injection (Option.some.inj (Option.some.inj (a_set_rates.symm.trans y3)))
    obtain rfl : f_set_pools = x4 := by injection (Option.some.inj (Option.some.inj (a_set_pools.symm.trans y4)))
    obtain rfl : f_give_dose = x5 := by injection (Option.some.inj (Option.some.inj (a_give_dose.symm.trans y5)))
    obtain rfl : f_set_growth = x6 := by injection (Option.some.inj (Option.some.inj (a_set_growth.symm.trans y6)))
    obtain rfl : f_set_round = x7 := by injection (Option.some.inj (Option.some.inj (a_set_round.symm.trans y7)))
    obtain rfl : f_run_ticks = x8 := by injection (Option.some.inj (Option.some.inj (a_run_ticks.symm.trans y8)))
    obtain rfl : f_tell_blood = x9 := by injection (Option.some.inj (Option.some.inj (a_tell_blood.symm.trans y9)))
    obtain rfl : f_tell_bath = x10 := by injection (Option.some.inj (Option.some.inj (a_tell_bath.symm.trans y10)))
    obtain rfl : f_tell_patient = x11 := by injection (Option.some.inj (Option.some.inj (a_tell_patient.symm.trans y11)))
    obtain rfl : f_tell_totals = x12 := by injection (Option.some.inj (Option.some.inj (a_tell_totals.symm.trans y12)))
    obtain rfl : f_set_mark = x13 := by injection (Option.some.inj (Option.some.inj (a_set_mark.symm.trans y13)))
    obtain rfl : f_tell_extraction = x14 := by injection (Option.some.inj (Option.some.inj (a_tell_extraction.symm.trans y14)))
    obtain rfl : f_tell_reduction = x15 := by injection (Option.some.inj (Option.some.inj (a_tell_reduction.symm.trans y15)))
    obtain rfl : f_tell_profile = x16 := by injection (Option.some.inj (Option.some.inj (a_tell_profile.symm.trans y16)))
    obtain rfl : f_tell_look = x17 := by injection (Option.some.inj (Option.some.inj (a_tell_look.symm.trans y17)))
    obtain rfl : f_tell_would = x18 := by injection (Option.some.inj (Option.some.inj (a_tell_would.symm.trans y18)))
    obtain rfl : f_answers = fa := by injection (Option.some.inj ((PySem.W.mg_of KX G a_answers).symm.trans hmg))
    obtain ⟨oc, od, kV, doc, pm, an, cdv, ct, osl, hfd, _, _⟩ := F_answers.ex
    have T : Bb.Txt (L2.KOf KX) mg ⟨C_Solute, C_Rate, C_Device, f_crossing, d_crossing, f_Solute_init, d_Solute_init, f_Solute_lay_cells, d_Solute_lay_cells, f_Solute_dose, d_Solute_dose, f_Solute_mark, d_Solute_mark, f_Solute_totals, d_Solute_totals, f_Solute_twin, d_Solute_twin, f_Solute_tick, d_Solute_tick, f_Solute_mix_pools, d_Solute_mix_pools, f_Solute_move_blood, d_Solute_move_blood, f_Solute_move_bath, d_Solute_move_bath, f_Solute_cross_membrane, d_Solute_cross_membrane, f_Rate_init, d_Rate_init, f_Rate_restart, d_Rate_restart, f_Rate_gather, d_Rate_gather, f_Rate_twin, d_Rate_twin, f_Device_init, d_Device_init, f_lay, d_lay, f_set_share, d_set_share, f_set_fresh, d_set_fresh, f_set_rates, d_set_rates, f_set_pools, d_set_pools, f_give_dose, d_give_dose, f_set_growth, d_set_growth, f_set_round, d_set_round, f_pass_ticks, d_pass_ticks, f_run_ticks, d_run_ticks, f_tell_blood, d_tell_blood, f_tell_bath, d_tell_bath, f_tell_patient, d_tell_patient, f_tell_totals, d_tell_totals, f_set_mark, d_set_mark, f_common_divisor, d_common_divisor, f_share_gone, d_share_gone, f_tell_extraction, d_tell_extraction, f_tell_reduction, d_tell_reduction, f_tell_profile, d_tell_profile, f_tell_look, d_tell_look, f_tell_would, d_tell_would, f_in_range, d_in_range, f_names_missing_solute, d_names_missing_solute, f_answer, d_answer, f_answers, d_answers, r_RANGES, r_SOLUTE_AT, r_CALLS⟩ := {
      cl_Solute := cl_Solute
      mk_Solute := ⟨mk_Solute, m_Solute_init, i_Solute_init, kc_Solute⟩
      g_Solute := PySem.W.mg_of KX G a_Solute
      n_Solute_share := n_Solute_share
      n_Solute_fresh := n_Solute_fresh
      n_Solute_growth := n_Solute_growth
      n_Solute_pool1 := n_Solute_pool1
      n_Solute_pool2 := n_Solute_pool2
      n_Solute_blood := n_Solute_blood
      n_Solute_bath := n_Solute_bath
      n_Solute_given := n_Solute_given
      n_Solute_produced := n_Solute_produced
      n_Solute_come := n_Solute_come
      n_Solute_spent := n_Solute_spent
      n_Solute_thrown := n_Solute_thrown
      n_Solute_went_in := n_Solute_went_in
      n_Solute_came_out := n_Solute_came_out
      n_Solute_at_mark := n_Solute_at_mark
      cl_Rate := cl_Rate
      mk_Rate := ⟨mk_Rate, m_Rate_init, i_Rate_init, kc_Rate⟩
      g_Rate := PySem.W.mg_of KX G a_Rate
      n_Rate_times := n_Rate_times
      n_Rate_span := n_Rate_span
      n_Rate_parts := n_Rate_parts
      cl_Device := cl_Device
      mk_Device := ⟨mk_Device, m_Device_init, i_Device_init, kc_Device⟩
      g_Device := PySem.W.mg_of KX G a_Device
      n_Device_laid := n_Device_laid
      n_Device_cells := n_Device_cells
      n_Device_blood_volume := n_Device_blood_volume
      n_Device_bath_volume := n_Device_bath_volume
      n_Device_along := n_Device_along
      n_Device_solutes := n_Device_solutes
      n_Device_volume1 := n_Device_volume1
      n_Device_volume2 := n_Device_volume2
      n_Device_between := n_Device_between
      n_Device_round_share := n_Device_round_share
      n_Device_blood_rate := n_Device_blood_rate
      n_Device_bath_rate := n_Device_bath_rate
      n_Device_ticks := n_Device_ticks
      F_crossing := F_crossing
      bi_crossing := F_crossing.binds fun _ _ _ _ _ _ us hl => match us, hl with | [_, _, _, _, _], _ => rfl
      g_crossing := PySem.W.mg_of KX G a_crossing
      F_Solute_init := F_Solute_init
      bi_Solute_init := F_Solute_init.binds fun _ _ _ _ _ _ us hl => match us, hl with | [_], _ => rfl
      m_Solute_init := ⟨m_Solute_init, i_Solute_init, F_Solute_init.kp⟩
      F_Solute_lay_cells := F_Solute_lay_cells
      bi_Solute_lay_cells := F_Solute_lay_cells.binds fun _ _ _ _ _ _ us hl => match us, hl with | [_, _], _ => rfl
      m_Solute_lay_cells := ⟨m_Solute_lay_cells, i_Solute_lay_cells, F_Solute_lay_cells.kp⟩
      F_Solute_dose := F_Solute_dose
      bi_Solute_dose := F_Solute_dose.binds fun _ _ _ _ _ _ us hl => match us, hl with | [_, _, _], _ => rfl
      m_Solute_dose := ⟨m_Solute_dose, i_Solute_dose, F_Solute_dose.kp⟩
      F_Solute_mark := F_Solute_mark
      bi_Solute_mark := F_Solute_mark.binds fun _ _ _ _ _ _ us hl => match us, hl with | [_], _ => rfl
      m_Solute_mark := ⟨m_Solute_mark, i_Solute_mark, F_Solute_mark.kp⟩
      F_Solute_totals := F_Solute_totals
      bi_Solute_totals := F_Solute_totals.binds fun _ _ _ _ _ _ us hl => match us, hl with | [_], _ => rfl
      m_Solute_totals := ⟨m_Solute_totals, i_Solute_totals, F_Solute_totals.kp⟩
      F_Solute_twin := F_Solute_twin
      bi_Solute_twin := F_Solute_twin.binds fun _ _ _ _ _ _ us hl => match us, hl with | [_], _ => rfl
      m_Solute_twin := ⟨m_Solute_twin, i_Solute_twin, F_Solute_twin.kp⟩
      F_Solute_tick := F_Solute_tick
      bi_Solute_tick := F_Solute_tick.binds fun _ _ _ _ _ _ us hl => match us, hl with | [_, _, _, _], _ => rfl
      m_Solute_tick := ⟨m_Solute_tick, i_Solute_tick, F_Solute_tick.kp⟩
      F_Solute_mix_pools := F_Solute_mix_pools
      bi_Solute_mix_pools := F_Solute_mix_pools.binds fun _ _ _ _ _ _ us hl => match us, hl with | [_, _], _ => rfl
      m_Solute_mix_pools := ⟨m_Solute_mix_pools, i_Solute_mix_pools, F_Solute_mix_pools.kp⟩
      F_Solute_move_blood := F_Solute_move_blood
      bi_Solute_move_blood := F_Solute_move_blood.binds fun _ _ _ _ _ _ us hl => match us, hl with | [_, _], _ => rfl
      m_Solute_move_blood := ⟨m_Solute_move_blood, i_Solute_move_blood, F_Solute_move_blood.kp⟩
      F_Solute_move_bath := F_Solute_move_bath
      bi_Solute_move_bath := F_Solute_move_bath.binds fun _ _ _ _ _ _ us hl => match us, hl with | [_, _], _ => rfl
      m_Solute_move_bath := ⟨m_Solute_move_bath, i_Solute_move_bath, F_Solute_move_bath.kp⟩
      F_Solute_cross_membrane := F_Solute_cross_membrane
      bi_Solute_cross_membrane := F_Solute_cross_membrane.binds fun _ _ _ _ _ _ us hl => match us, hl with | [_, _], _ => rfl
      m_Solute_cross_membrane := ⟨m_Solute_cross_membrane, i_Solute_cross_membrane, F_Solute_cross_membrane.kp⟩
      F_Rate_init := F_Rate_init
      bi_Rate_init := F_Rate_init.binds fun _ _ _ _ _ _ us hl => match us, hl with | [_, _, _], _ => rfl
      m_Rate_init := ⟨m_Rate_init, i_Rate_init, F_Rate_init.kp⟩
      F_Rate_restart := F_Rate_restart
      bi_Rate_restart := F_Rate_restart.binds fun _ _ _ _ _ _ us hl => match us, hl with | [_], _ => rfl
      m_Rate_restart := ⟨m_Rate_restart, i_Rate_restart, F_Rate_restart.kp⟩
      F_Rate_gather := F_Rate_gather
      bi_Rate_gather := F_Rate_gather.binds fun _ _ _ _ _ _ us hl => match us, hl with | [_], _ => rfl
      m_Rate_gather := ⟨m_Rate_gather, i_Rate_gather, F_Rate_gather.kp⟩
      F_Rate_twin := F_Rate_twin
      bi_Rate_twin := F_Rate_twin.binds fun _ _ _ _ _ _ us hl => match us, hl with | [_], _ => rfl
      m_Rate_twin := ⟨m_Rate_twin, i_Rate_twin, F_Rate_twin.kp⟩
      F_Device_init := F_Device_init
      bi_Device_init := F_Device_init.binds fun _ _ _ _ _ _ us hl => match us, hl with | [_], _ => rfl
      m_Device_init := ⟨m_Device_init, i_Device_init, F_Device_init.kp⟩
      F_lay := F_lay
      bi_lay := F_lay.binds fun _ _ _ _ _ _ us hl => match us, hl with | [_, _], _ => rfl
      g_lay := PySem.W.mg_of KX G a_lay
      F_set_share := F_set_share
      bi_set_share := F_set_share.binds fun _ _ _ _ _ _ us hl => match us, hl with | [_, _], _ => rfl
      g_set_share := PySem.W.mg_of KX G a_set_share
      F_set_fresh := F_set_fresh
      bi_set_fresh := F_set_fresh.binds fun _ _ _ _ _ _ us hl => match us, hl with | [_, _], _ => rfl
      g_set_fresh := PySem.W.mg_of KX G a_set_fresh
      F_set_rates := F_set_rates
      bi_set_rates := F_set_rates.binds fun _ _ _ _ _ _ us hl => match us, hl with | [_, _], _ => rfl
      g_set_rates := PySem.W.mg_of KX G a_set_rates
      F_set_pools := F_set_pools
      bi_set_pools := F_set_pools.binds fun _ _ _ _ _ _ us hl => match us, hl with | [_, _], _ => rfl
      g_set_pools := PySem.W.mg_of KX G a_set_pools
      F_give_dose := F_give_dose
      bi_give_dose := F_give_dose.binds fun _ _ _ _ _ _ us hl => match us, hl with | [_, _], _ => rfl
      g_give_dose := PySem.W.mg_of KX G a_give_dose
      F_set_growth := F_set_growth
      bi_set_growth := F_set_growth.binds fun _ _ _ _ _ _ us hl => match us, hl with | [_, _], _ => rfl
      g_set_growth := PySem.W.mg_of KX G a_set_growth
      F_set_round := F_set_round
      bi_set_round := F_set_round.binds fun _ _ _ _ _ _ us hl => match us, hl with | [_, _], _ => rfl
      g_set_round := PySem.W.mg_of KX G a_set_round
      F_pass_ticks := F_pass_ticks
      bi_pass_ticks := F_pass_ticks.binds fun _ _ _ _ _ _ us hl => match us, hl with | [_, _, _, _, _], _ => rfl
      g_pass_ticks := PySem.W.mg_of KX G a_pass_ticks
      F_run_ticks := F_run_ticks
      bi_run_ticks := F_run_ticks.binds fun _ _ _ _ _ _ us hl => match us, hl with | [_, _], _ => rfl
      g_run_ticks := PySem.W.mg_of KX G a_run_ticks
      F_tell_blood := F_tell_blood
      bi_tell_blood := F_tell_blood.binds fun _ _ _ _ _ _ us hl => match us, hl with | [_, _], _ => rfl
      g_tell_blood := PySem.W.mg_of KX G a_tell_blood
      F_tell_bath := F_tell_bath
      bi_tell_bath := F_tell_bath.binds fun _ _ _ _ _ _ us hl => match us, hl with | [_, _], _ => rfl
      g_tell_bath := PySem.W.mg_of KX G a_tell_bath
      F_tell_patient := F_tell_patient
      bi_tell_patient := F_tell_patient.binds fun _ _ _ _ _ _ us hl => match us, hl with | [_, _], _ => rfl
      g_tell_patient := PySem.W.mg_of KX G a_tell_patient
      F_tell_totals := F_tell_totals
      bi_tell_totals := F_tell_totals.binds fun _ _ _ _ _ _ us hl => match us, hl with | [_, _], _ => rfl
      g_tell_totals := PySem.W.mg_of KX G a_tell_totals
      F_set_mark := F_set_mark
      bi_set_mark := F_set_mark.binds fun _ _ _ _ _ _ us hl => match us, hl with | [_, _], _ => rfl
      g_set_mark := PySem.W.mg_of KX G a_set_mark
      F_common_divisor := F_common_divisor
      bi_common_divisor := F_common_divisor.binds fun _ _ _ _ _ _ us hl => match us, hl with | [_, _], _ => rfl
      g_common_divisor := PySem.W.mg_of KX G a_common_divisor
      F_share_gone := F_share_gone
      bi_share_gone := F_share_gone.binds fun _ _ _ _ _ _ us hl => match us, hl with | [_, _], _ => rfl
      g_share_gone := PySem.W.mg_of KX G a_share_gone
      F_tell_extraction := F_tell_extraction
      bi_tell_extraction := F_tell_extraction.binds fun _ _ _ _ _ _ us hl => match us, hl with | [_, _], _ => rfl
      g_tell_extraction := PySem.W.mg_of KX G a_tell_extraction
      F_tell_reduction := F_tell_reduction
      bi_tell_reduction := F_tell_reduction.binds fun _ _ _ _ _ _ us hl => match us, hl with | [_, _], _ => rfl
      g_tell_reduction := PySem.W.mg_of KX G a_tell_reduction
      F_tell_profile := F_tell_profile
      bi_tell_profile := F_tell_profile.binds fun _ _ _ _ _ _ us hl => match us, hl with | [_, _], _ => rfl
      g_tell_profile := PySem.W.mg_of KX G a_tell_profile
      F_tell_look := F_tell_look
      bi_tell_look := F_tell_look.binds fun _ _ _ _ _ _ us hl => match us, hl with | [_, _], _ => rfl
      g_tell_look := PySem.W.mg_of KX G a_tell_look
      F_tell_would := F_tell_would
      bi_tell_would := F_tell_would.binds fun _ _ _ _ _ _ us hl => match us, hl with | [_, _], _ => rfl
      g_tell_would := PySem.W.mg_of KX G a_tell_would
      F_in_range := F_in_range
      bi_in_range := F_in_range.binds fun _ _ _ _ _ _ us hl => match us, hl with | [_, _], _ => rfl
      g_in_range := PySem.W.mg_of KX G a_in_range
      F_names_missing_solute := F_names_missing_solute
      bi_names_missing_solute := F_names_missing_solute.binds fun _ _ _ _ _ _ us hl => match us, hl with | [_, _, _], _ => rfl
      g_names_missing_solute := PySem.W.mg_of KX G a_names_missing_solute
      F_answer := F_answer
      bi_answer := F_answer.binds fun _ _ _ _ _ _ us hl => match us, hl with | [_, _, _], _ => rfl
      g_answer := PySem.W.mg_of KX G a_answer
      F_answers := F_answers
      bi_answers := F_answers.binds fun _ _ _ _ _ _ us hl => match us, hl with | [_], _ => rfl
      g_answers := PySem.W.mg_of KX G a_answers
      g_OUT_OF_RANGE := ⟨t_OUT_OF_RANGE, PySem.W.mg_of KX G v_OUT_OF_RANGE⟩
      g_NOT_LAID := ⟨t_NOT_LAID, PySem.W.mg_of KX G v_NOT_LAID⟩
      g_NOT_THERE := ⟨t_NOT_THERE, PySem.W.mg_of KX G v_NOT_THERE⟩
      g_FEWER_SOLUTES := ⟨t_FEWER_SOLUTES, PySem.W.mg_of KX G v_FEWER_SOLUTES⟩
      g_POOL_TOO_SMALL := ⟨t_POOL_TOO_SMALL, PySem.W.mg_of KX G v_POOL_TOO_SMALL⟩
      g_TOO_MUCH_GIVEN := ⟨t_TOO_MUCH_GIVEN, PySem.W.mg_of KX G v_TOO_MUCH_GIVEN⟩
      g_TOO_MANY_TICKS := ⟨t_TOO_MANY_TICKS, PySem.W.mg_of KX G v_TOO_MANY_TICKS⟩
      g_NO_SHARE := ⟨t_NO_SHARE, PySem.W.mg_of KX G v_NO_SHARE⟩
      g_MOST_GIVEN := ⟨t_MOST_GIVEN, PySem.W.mg_of KX G v_MOST_GIVEN⟩
      g_MOST_TICKS := ⟨t_MOST_TICKS, PySem.W.mg_of KX G v_MOST_TICKS⟩
      g_FIRST_VOLUME := ⟨t_FIRST_VOLUME, PySem.W.mg_of KX G v_FIRST_VOLUME⟩
      g_LAY := ⟨t_LAY, PySem.W.mg_of KX G v_LAY⟩
      g_RATES := ⟨t_RATES, PySem.W.mg_of KX G v_RATES⟩
      g_RANGES := PySem.W.mg_of KX G a_RANGES
      t_RANGES := t_RANGES
      g_SOLUTE_AT := PySem.W.mg_of KX G a_SOLUTE_AT
      d_SOLUTE_AT := t_SOLUTE_AT
      g_CALLS := PySem.W.mg_of KX G a_CALLS
      t_CALLS := t_CALLS
      b_len := PySem.W.mg_none_of KX G b_len
      b_sum := PySem.W.mg_none_of KX G b_sum
      b_range := PySem.W.mg_none_of KX G b_range
      b_abs := PySem.W.mg_none_of KX G b_abs
      b_list := PySem.W.mg_none_of KX G b_list }
    refine ⟨d_answers, fun s us hu => ?_, fun base _ _ => Bb.ok_answers T⟩
    subst hfd
    match us, hu with | [_], _ => exact .of_eq rfl
  case S =>
    intro K H xs a hO hwi hask hx
    cases hx with
    | cons h1 h2 =>
      cases h2
      cases h1 with
      | lst hs ha =>
        have e := L2.ints_dw a.1 _ ha
        subst e
        have q : ((Codec.inLen 0 4000 a.1 && a.1.all (Codec.inInt (-1000000000000000000) 1000000000000000000)) && true) = true := hwi
        rw [Bool.and_eq_true, Bool.and_eq_true] at q
        exact ⟨_, a.1, rfl, hs, (Codec.inNat_iff.mp q.1.1).2, hask, fun H' p hp => .lst (L2.SqL.of hp) (L2.dw_ints _)⟩
#print axioms PySem.Challenge.cw_bloodbath_s01_answers_holds
