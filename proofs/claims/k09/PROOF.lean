import PyProof.Rows.All
import Wide.All
import OpenK.AllK
import Wide.FinOn
import PySem.Challenge.RW_pileports_k09_words_that_are_too_long
import HandS.ForMost
import HandS.Wide
import HandS.WideMore
import HandS.IsInst
import HandS.Star
import HandS.NoneIn
import HandS.Zip
import HandS.Defaults
import HandS.Evl
import HandS.WrittenGet
import HandS.CallLocal
import HandS.TupAny
import HandS.Style
import HandS.More
import HandS.ExcInit
import HandS.ExcField
import HandS.ExcIs
import HandS.WordsExc
import HandS.ClsMeth
import HandS.HotCalls
import HandS.Lambda
import HandS.EndTab
import HandS.Deep
import KE.KNestM
import KE.GoesEnum
import KE.GoesMore
import HandS.FStr
import HandS.StrMore
import HandS.StrSplit
import HandS.Rev
import HandS.Walk
import HandS.Property
import HandS.MethStar
import HandS.OwnEq
import HandS.SlotsOwn
import HandS.Dict
import HandS.SortRule
import HandS.Conv
import KE.KCallOwn
import KE.KFmtOwn
import HandS.TryOnly
import HandS.CallSlots
import HandS.Head0
import HandS.Head1
import HandS.Head2
import HandS.RaiseMore
import HandS.SuiteRaise
import HandS.RaiseFrom
import HandS.ExcInitHot
set_option Elab.async false
set_option linter.all false
set_option maxRecDepth 100000
set_option maxHeartbeats 8000000
namespace Z
open PySem PySem.Spec PyProof.Rows L2
def topS (i : Nat) : Stmt := PySem.Challenge.pw_pileports_k09_words_that_are_too_long.main.body.getD i (.Pass ⟨0, 0, 0, 0⟩)
abbrev s_PileError : Stmt := inClass (topS 2) 0
abbrev N_PileError : List Str := ["self", "code"]
abbrev P_PileError : List Str := ["self", "code"]
theorem sc_PileError : FnScope N_PileError P_PileError (defScope s_PileError) := ⟨rfl, rfl, rfl, by decide +kernel, rfl, by decide +kernel, by decide +kernel⟩
abbrev s_BadPlace : Stmt := inClass (topS 3) 0
abbrev N_BadPlace : List Str := ["self", "place"]
abbrev P_BadPlace : List Str := ["self", "place"]
theorem sc_BadPlace : FnScope N_BadPlace P_BadPlace (defScope s_BadPlace) := ⟨rfl, rfl, rfl, by decide +kernel, rfl, by decide +kernel, by decide +kernel⟩
abbrev s_BadMove : Stmt := inClass (topS 4) 0
abbrev N_BadMove : List Str := ["self", "at"]
abbrev P_BadMove : List Str := ["self", "at"]
theorem sc_BadMove : FnScope N_BadMove P_BadMove (defScope s_BadMove) := ⟨rfl, rfl, rfl, by decide +kernel, rfl, by decide +kernel, by decide +kernel⟩
abbrev s_BadText : Stmt := inClass (topS 5) 0
abbrev N_BadText : List Str := ["self", "at"]
abbrev P_BadText : List Str := ["self", "at"]
theorem sc_BadText : FnScope N_BadText P_BadText (defScope s_BadText) := ⟨rfl, rfl, rfl, by decide +kernel, rfl, by decide +kernel, by decide +kernel⟩
abbrev s_TooLong : Stmt := inClass (topS 6) 0
abbrev N_TooLong : List Str := ["self", "limit"]
abbrev P_TooLong : List Str := ["self", "limit"]
theorem sc_TooLong : FnScope N_TooLong P_TooLong (defScope s_TooLong) := ⟨rfl, rfl, rfl, by decide +kernel, rfl, by decide +kernel, by decide +kernel⟩
abbrev s__wall : Stmt := topS 0
abbrev N__wall : List Str := ["k"]
abbrev P__wall : List Str := ["k"]
theorem sc__wall : FnScope N__wall P__wall (defScope s__wall) := ⟨rfl, rfl, rfl, by decide +kernel, rfl, by decide +kernel, by decide +kernel⟩
abbrev s_is_number : Stmt := topS 10
abbrev N_is_number : List Str := ["value"]
abbrev P_is_number : List Str := ["value"]
theorem sc_is_number : FnScope N_is_number P_is_number (defScope s_is_number) := ⟨rfl, rfl, rfl, by decide +kernel, rfl, by decide +kernel, by decide +kernel⟩
abbrev s_read_number : Stmt := topS 11
abbrev N_read_number : List Str := ["text", "most_digits", "digits", "digit"]
abbrev P_read_number : List Str := ["text", "most_digits"]
theorem sc_read_number : FnScope N_read_number P_read_number (defScope s_read_number) := ⟨rfl, rfl, rfl, by decide +kernel, rfl, by decide +kernel, by decide +kernel⟩
abbrev s_is_end : Stmt := topS 15
abbrev N_is_end : List Str := ["value"]
abbrev P_is_end : List Str := ["value"]
theorem sc_is_end : FnScope N_is_end P_is_end (defScope s_is_end) := ⟨rfl, rfl, rfl, by decide +kernel, rfl, by decide +kernel, by decide +kernel⟩
abbrev s_is_end_place : Stmt := topS 16
abbrev N_is_end_place : List Str := ["value"]
abbrev P_is_end_place : List Str := ["value"]
theorem sc_is_end_place : FnScope N_is_end_place P_is_end_place (defScope s_is_end_place) := ⟨rfl, rfl, rfl, by decide +kernel, rfl, by decide +kernel, by decide +kernel⟩
abbrev s_check_end_place : Stmt := topS 17
abbrev N_check_end_place : List Str := ["value"]
abbrev P_check_end_place : List Str := ["value"]
theorem sc_check_end_place : FnScope N_check_end_place P_check_end_place (defScope s_check_end_place) := ⟨rfl, rfl, rfl, by decide +kernel, rfl, by decide +kernel, by decide +kernel⟩
abbrev s_end_text : Stmt := topS 18
abbrev N_end_text : List Str := ["end"]
abbrev P_end_text : List Str := ["end"]
theorem sc_end_text : FnScope N_end_text P_end_text (defScope s_end_text) := ⟨rfl, rfl, rfl, by decide +kernel, rfl, by decide +kernel, by decide +kernel⟩
abbrev s_read_end : Stmt := topS 19
abbrev N_read_end : List Str := ["text"]
abbrev P_read_end : List Str := ["text"]
theorem sc_read_end : FnScope N_read_end P_read_end (defScope s_read_end) := ⟨rfl, rfl, rfl, by decide +kernel, rfl, by decide +kernel, by decide +kernel⟩
abbrev s_place_text : Stmt := topS 20
abbrev N_place_text : List Str := ["end_place", "end", "depth"]
abbrev P_place_text : List Str := ["end_place"]
theorem sc_place_text : FnScope N_place_text P_place_text (defScope s_place_text) := ⟨rfl, rfl, rfl, by decide +kernel, rfl, by decide +kernel, by decide +kernel⟩
abbrev s_parse_place : Stmt := topS 21
abbrev N_parse_place : List Str := ["text", "end_place"]
abbrev P_parse_place : List Str := ["text"]
theorem sc_parse_place : FnScope N_parse_place P_parse_place (defScope s_parse_place) := ⟨rfl, rfl, rfl, by decide +kernel, rfl, by decide +kernel, by decide +kernel⟩
abbrev s_is_move : Stmt := topS 25
abbrev N_is_move : List Str := ["move", "shape", "part", "item"]
abbrev P_is_move : List Str := ["move"]
theorem sc_is_move : FnScope N_is_move P_is_move (defScope s_is_move) := ⟨rfl, rfl, rfl, by decide +kernel, rfl, by decide +kernel, by decide +kernel⟩
abbrev s_fits : Stmt := topS 26
abbrev N_fits : List Str := ["part", "item", "least"]
abbrev P_fits : List Str := ["part", "item"]
theorem sc_fits : FnScope N_fits P_fits (defScope s_fits) := ⟨rfl, rfl, rfl, by decide +kernel, rfl, by decide +kernel, by decide +kernel⟩
abbrev s_check_move : Stmt := topS 27
abbrev N_check_move : List Str := ["move"]
abbrev P_check_move : List Str := ["move"]
theorem sc_check_move : FnScope N_check_move P_check_move (defScope s_check_move) := ⟨rfl, rfl, rfl, by decide +kernel, rfl, by decide +kernel, by decide +kernel⟩
abbrev s_cards_needed : Stmt := topS 28
abbrev N_cards_needed : List Str := ["move", "name", "end", "depth"]
abbrev P_cards_needed : List Str := ["move"]
theorem sc_cards_needed : FnScope N_cards_needed P_cards_needed (defScope s_cards_needed) := ⟨rfl, rfl, rfl, by decide +kernel, rfl, by decide +kernel, by decide +kernel⟩
abbrev s_move_text : Stmt := topS 29
abbrev N_move_text : List Str := ["move", "words", "part", "item"]
abbrev P_move_text : List Str := ["move"]
theorem sc_move_text : FnScope N_move_text P_move_text (defScope s_move_text) := ⟨rfl, rfl, rfl, by decide +kernel, rfl, by decide +kernel, by decide +kernel⟩
abbrev s_item_text : Stmt := topS 30
abbrev N_item_text : List Str := ["part", "item"]
abbrev P_item_text : List Str := ["part", "item"]
theorem sc_item_text : FnScope N_item_text P_item_text (defScope s_item_text) := ⟨rfl, rfl, rfl, by decide +kernel, rfl, by decide +kernel, by decide +kernel⟩
abbrev s_parse_move : Stmt := topS 31
abbrev N_parse_move : List Str := ["text", "words", "shape", "items", "part", "word", "move"]
abbrev P_parse_move : List Str := ["text"]
theorem sc_parse_move : FnScope N_parse_move P_parse_move (defScope s_parse_move) := ⟨rfl, rfl, rfl, by decide +kernel, rfl, by decide +kernel, by decide +kernel⟩
abbrev s_read_item : Stmt := topS 32
abbrev N_read_item : List Str := ["part", "word"]
abbrev P_read_item : List Str := ["part", "word"]
theorem sc_read_item : FnScope N_read_item P_read_item (defScope s_read_item) := ⟨rfl, rfl, rfl, by decide +kernel, rfl, by decide +kernel, by decide +kernel⟩
abbrev s__law_bag : Stmt := topS 36
abbrev N__law_bag : List Str := ["_law_script", "_law_salt", "_law_cell"]
abbrev P__law_bag : List Str := ["_law_script"]
theorem sc__law_bag : FnScope N__law_bag P__law_bag (defScope s__law_bag) := ⟨rfl, rfl, rfl, by decide +kernel, rfl, by decide +kernel, by decide +kernel⟩
abbrev s__law_pull : Stmt := topS 37
abbrev N__law_pull : List Str := ["_law_bag_here", "_law_amount", "_law_cell", "_law_got", "_law_seed"]
abbrev P__law_pull : List Str := ["_law_bag_here", "_law_amount"]
theorem sc__law_pull : FnScope N__law_pull P__law_pull (defScope s__law_pull) := ⟨rfl, rfl, rfl, by decide +kernel, rfl, by decide +kernel, by decide +kernel⟩
abbrev s__law_of : Stmt := topS 38
abbrev N__law_of : List Str := ["_law_bag_here", "_law_things"]
abbrev P__law_of : List Str := ["_law_bag_here", "_law_things"]
theorem sc__law_of : FnScope N__law_of P__law_of (defScope s__law_of) := ⟨rfl, rfl, rfl, by decide +kernel, rfl, by decide +kernel, by decide +kernel⟩
abbrev s__law_same : Stmt := topS 39
abbrev N__law_same : List Str := ["_law_found", "_law_due", "_law_one", "_law_other", "_law_key"]
abbrev P__law_same : List Str := ["_law_found", "_law_due"]
theorem sc__law_same : FnScope N__law_same P__law_same (defScope s__law_same) := ⟨rfl, rfl, rfl, by decide +kernel, rfl, by decide +kernel, by decide +kernel⟩
abbrev s__law_field : Stmt := topS 40
abbrev N__law_field : List Str := ["_law_e"]
abbrev P__law_field : List Str := ["_law_e"]
theorem sc__law_field : FnScope N__law_field P__law_field (defScope s__law_field) := ⟨rfl, rfl, rfl, by decide +kernel, rfl, by decide +kernel, by decide +kernel⟩
abbrev s__law_try : Stmt := topS 41
abbrev N__law_try : List Str := ["_law_ask", "_law_e"]
abbrev P__law_try : List Str := ["_law_ask"]
theorem sc__law_try : FnScope N__law_try P__law_try (defScope s__law_try) := ⟨rfl, rfl, rfl, by decide +kernel, rfl, by decide +kernel, by decide +kernel⟩
abbrev s__law_made : Stmt := topS 42
abbrev N__law_made : List Str := ["_law_moves", "_law_found", "_law_move"]
abbrev P__law_made : List Str := ["_law_moves"]
theorem sc__law_made : FnScope N__law_made P__law_made (defScope s__law_made) := ⟨rfl, rfl, rfl, by decide +kernel, rfl, by decide +kernel, by decide +kernel⟩
abbrev s__law_end_text : Stmt := topS 43
abbrev N__law_end_text : List Str := ["_law_end_place"]
abbrev P__law_end_text : List Str := ["_law_end_place"]
theorem sc__law_end_text : FnScope N__law_end_text P__law_end_text (defScope s__law_end_text) := ⟨rfl, rfl, rfl, by decide +kernel, rfl, by decide +kernel, by decide +kernel⟩
abbrev s__law_move_text : Stmt := topS 44
abbrev N__law_move_text : List Str := ["_law_move", "_law_spot"]
abbrev P__law_move_text : List Str := ["_law_move"]
theorem sc__law_move_text : FnScope N__law_move_text P__law_move_text (defScope s__law_move_text) := ⟨rfl, rfl, rfl, by decide +kernel, rfl, by decide +kernel, by decide +kernel⟩
abbrev s__law_text : Stmt := topS 45
abbrev N__law_text : List Str := ["_law_moves", "_law_move"]
abbrev P__law_text : List Str := ["_law_moves"]
theorem sc__law_text : FnScope N__law_text P__law_text (defScope s__law_text) := ⟨rfl, rfl, rfl, by decide +kernel, rfl, by decide +kernel, by decide +kernel⟩
abbrev s_law : Stmt := topS 46
abbrev N_law : List Str := ["_law_script", "_law_bag_here", "_law_turn", "_law_many", "_law_deep", "_law_left", "_law_some", "_law_due", "_law_first", "_law_last", "_law_one", "_law_other"]
abbrev P_law : List Str := ["_law_script"]
theorem sc_law : FnScope N_law P_law (defScope s_law) := ⟨rfl, rfl, rfl, by decide +kernel, rfl, by decide +kernel, by decide +kernel⟩
abbrev s_Word___init__ : Stmt := inClass (topS 34) 2
abbrev N_Word___init__ : List Str := ["self", "moves", "at", "move", "needed"]
abbrev P_Word___init__ : List Str := ["self", "moves"]
theorem sc_Word___init__ : FnScope N_Word___init__ P_Word___init__ (defScope s_Word___init__) := ⟨rfl, rfl, rfl, by decide +kernel, rfl, by decide +kernel, by decide +kernel⟩
abbrev s_Word_read : Stmt := inClass (topS 34) 3
abbrev N_Word_read : List Str := ["cls", "text", "parts", "moves", "at", "part"]
abbrev P_Word_read : List Str := ["cls", "text"]
theorem sc_Word_read : FnScope N_Word_read P_Word_read (defScope s_Word_read) := ⟨rfl, rfl, rfl, by decide +kernel, rfl, by decide +kernel, by decide +kernel⟩
abbrev s_Word___add__ : Stmt := inClass (topS 34) 9
abbrev N_Word___add__ : List Str := ["self", "other", "moves"]
abbrev P_Word___add__ : List Str := ["self", "other"]
theorem sc_Word___add__ : FnScope N_Word___add__ P_Word___add__ (defScope s_Word___add__) := ⟨rfl, rfl, rfl, by decide +kernel, rfl, by decide +kernel, by decide +kernel⟩
abbrev s_Word___str__ : Stmt := inClass (topS 34) 12
abbrev N_Word___str__ : List Str := ["self", "move"]
abbrev P_Word___str__ : List Str := ["self"]
theorem sc_Word___str__ : FnScope N_Word___str__ P_Word___str__ (defScope s_Word___str__) := ⟨rfl, rfl, rfl, by decide +kernel, rfl, by decide +kernel, by decide +kernel⟩
end Z
noncomputable section
namespace HT9
open PySem PySem.W PySem.Calls PyProof.Rows L2 Z
set_option maxHeartbeats 0
abbrev R : OpenRow := OpenLaw.row PySem.Challenge.rw_pileports_k09_words_that_are_too_long
abbrev qv : Program := view R.prog (([46] : List Nat))
def K : PySem.Params → PySem.W.Frag := by
  intro P
  refine @List.cons (Nat × PySem.Obj) (nat_lit 2, { cls := Value.none, data := Data.dict #[] }) ?_
  refine @List.cons (Nat × PySem.Obj) (nat_lit 3, { cls := Value.type "dict", data := Data.dict #[{ hash := PyData.keyHash P (Str.ofString "__name__"), key := Value.str (Str.ofString "__name__") 165, val := Value.str (Str.ofString "law_pileports_k09_words_that_are_too_long") 667 }, { hash := PyData.keyHash P (Str.ofString "__doc__"), key := Value.str (Str.ofString "__doc__") 166, val := Value.none }, { hash := PyData.keyHash P (Str.ofString "__package__"), key := Value.str (Str.ofString "__package__") 167, val := Value.none }, { hash := PyData.keyHash P (Str.ofString "__loader__"), key := Value.str (Str.ofString "__loader__") 168, val := Value.builtin "__main__.__loader__#opaque" }, { hash := PyData.keyHash P (Str.ofString "__spec__"), key := Value.str (Str.ofString "__spec__") 169, val := Value.none }, { hash := PyData.keyHash P (Str.ofString "__annotations__"), key := Value.str (Str.ofString "__annotations__") 170, val := Value.ref 6 }, { hash := PyData.keyHash P (Str.ofString "__builtins__"), key := Value.str (Str.ofString "__builtins__") 171, val := Value.ref 4 }, { hash := PyData.keyHash P (Str.ofString "__file__"), key := Value.str (Str.ofString "__file__") 173, val := Value.str (Str.ofString "/claim/cut.py") 172 }, { hash := PyData.keyHash P (Str.ofString "__cached__"), key := Value.str (Str.ofString "__cached__") 174, val := Value.none }, { hash := PyData.keyHash P (Str.ofString "_wall"), key := Value.str (Str.ofString "_wall") 193, val := Value.ref 21 }, { hash := PyData.keyHash P (Str.ofString "PileError"), key := Value.str (Str.ofString "PileError") 223, val := Value.ref 39 }, { hash := PyData.keyHash P (Str.ofString "BadPlace"), key := Value.str (Str.ofString "BadPlace") 248, val := Value.ref 59 }, { hash := PyData.keyHash P (Str.ofString "BadMove"), key := Value.str (Str.ofString "BadMove") 273, val := Value.ref 78 }, { hash := PyData.keyHash P (Str.ofString "BadText"), key := Value.str (Str.ofString "BadText") 298, val := Value.ref 97 }, { hash := PyData.keyHash P (Str.ofString "TooLong"), key := Value.str (Str.ofString "TooLong") 323, val := Value.ref 116 }, { hash := PyData.keyHash P (Str.ofString "Missing"), key := Value.str (Str.ofString "Missing") 351, val := Value.ref 136 }, { hash := PyData.keyHash P (Str.ofString "MOST_DIGITS"), key := Value.str (Str.ofString "MOST_DIGITS") 355, val := Value.int 31 354 }, { hash := PyData.keyHash P (Str.ofString "is_number"), key := Value.str (Str.ofString "is_number") 362, val := Value.ref 146 }, { hash := PyData.keyHash P (Str.ofString "read_number"), key := Value.str (Str.ofString "read_number") 372, val := Value.ref 154 }, { hash := PyData.keyHash P (Str.ofString "MOST_DEPTH"), key := Value.str (Str.ofString "MOST_DEPTH") 376, val := Value.int 399 375 }, { hash := PyData.keyHash P (Str.ofString "ENDS"), key := Value.str (Str.ofString "ENDS") 383, val := Value.ref 155 }, { hash := PyData.keyHash P (Str.ofString "is_end"), key := Value.str (Str.ofString "is_end") 390, val := Value.ref 162 }, { hash := PyData.keyHash P (Str.ofString "is_end_place"), key := Value.str (Str.ofString "is_end_place") 397, val := Value.ref 169 }, { hash := PyData.keyHash P (Str.ofString "check_end_place"), key := Value.str (Str.ofString "check_end_place") 404, val := Value.ref 176 }, { hash := PyData.keyHash P (Str.ofString "end_text"), key := Value.str (Str.ofString "end_text") 411, val := Value.ref 183 }, { hash := PyData.keyHash P (Str.ofString "read_end"), key := Value.str (Str.ofString "read_end") 418, val := Value.ref 190 }, { hash := PyData.keyHash P (Str.ofString "place_text"), key := Value.str (Str.ofString "place_text") 427, val := Value.ref 197 }, { hash := PyData.keyHash P (Str.ofString "parse_place"), key := Value.str (Str.ofString "parse_place") 435, val := Value.ref 204 }, { hash := PyData.keyHash P (Str.ofString "MOST_BLOCK"), key := Value.str (Str.ofString "MOST_BLOCK") 439, val := Value.int 400 438 }, { hash := PyData.keyHash P (Str.ofString "SHAPES"), key := Value.str (Str.ofString "SHAPES") 460, val := Value.ref 205 }, { hash := PyData.keyHash P (Str.ofString "is_move"), key := Value.str (Str.ofString "is_move") 470, val := Value.ref 218 }, { hash := PyData.keyHash P (Str.ofString "fits"), key := Value.str (Str.ofString "fits") 479, val := Value.ref 225 }, { hash := PyData.keyHash P (Str.ofString "check_move"), key := Value.str (Str.ofString "check_move") 486, val := Value.ref 232 }, { hash := PyData.keyHash P (Str.ofString "cards_needed"), key := Value.str (Str.ofString "cards_needed") 492, val := Value.ref 237 }, { hash := PyData.keyHash P (Str.ofString "move_text"), key := Value.str (Str.ofString "move_text") 502, val := Value.ref 244 }, { hash := PyData.keyHash P (Str.ofString "item_text"), key := Value.str (Str.ofString "item_text") 510, val := Value.ref 251 }, { hash := PyData.keyHash P (Str.ofString "parse_move"), key := Value.str (Str.ofString "parse_move") 523, val := Value.ref 258 }, { hash := PyData.keyHash P (Str.ofString "read_item"), key := Value.str (Str.ofString "read_item") 531, val := Value.ref 265 }, { hash := PyData.keyHash P (Str.ofString "Word"), key := Value.str (Str.ofString "Word") 666, val := Value.ref 359 }, { hash := PyData.keyHash P (Str.ofString "_law_bag"), key := Value.str (Str.ofString "_law_bag") 677, val := Value.ref 370 }, { hash := PyData.keyHash P (Str.ofString "_law_pull"), key := Value.str (Str.ofString "_law_pull") 688, val := Value.ref 377 }, { hash := PyData.keyHash P (Str.ofString "_law_of"), key := Value.str (Str.ofString "_law_of") 696, val := Value.ref 384 }, { hash := PyData.keyHash P (Str.ofString "_law_same"), key := Value.str (Str.ofString "_law_same") 702, val := Value.ref 389 }, { hash := PyData.keyHash P (Str.ofString "_law_field"), key := Value.str (Str.ofString "_law_field") 709, val := Value.ref 396 }, { hash := PyData.keyHash P (Str.ofString "_law_try"), key := Value.str (Str.ofString "_law_try") 717, val := Value.ref 403 }, { hash := PyData.keyHash P (Str.ofString "_law_made"), key := Value.str (Str.ofString "_law_made") 726, val := Value.ref 410 }, { hash := PyData.keyHash P (Str.ofString "_law_end_text"), key := Value.str (Str.ofString "_law_end_text") 733, val := Value.ref 417 }, { hash := PyData.keyHash P (Str.ofString "_law_move_text"), key := Value.str (Str.ofString "_law_move_text") 739, val := Value.ref 422 }, { hash := PyData.keyHash P (Str.ofString "_law_text"), key := Value.str (Str.ofString "_law_text") 745, val := Value.ref 427 }, { hash := PyData.keyHash P (Str.ofString "law"), key := Value.str (Str.ofString "law") 763, val := Value.ref 434 }] 50 }) ?_
  refine @List.cons (Nat × PySem.Obj) (nat_lit 15, { cls := Value.type "tuple", data := Data.seq #[] }) ?_
  refine @List.cons (Nat × PySem.Obj) (nat_lit 17, { cls := Value.type "tuple", data := Data.seq #[Value.str (Str.ofString "k") 190] }) ?_
  refine @List.cons (Nat × PySem.Obj) (nat_lit 18, { cls := Value.type "tuple", data := Data.seq #[] }) ?_
  refine @List.cons (Nat × PySem.Obj) (nat_lit 20, { cls := Value.type "code", data := Data.fields #[Value.str (Str.ofString "_wall") 187, Value.str (Str.ofString "_wall") 188, Value.str (Str.ofString "/claim/cut.py") 189, Value.int 1 0, Value.int 1 0, Value.int 0 0, Value.int 0 0, Value.int 3 0, Value.ref 15, Value.bool true, Value.int 181 0, Value.ref 16, Value.none, Value.ref 17, Value.ref 18, Value.ref 19, Value.int 191 0, Value.int 1 0, Value.str (Str.ofString "/claim/cut.py") 192] }) ?_
  refine @List.cons (Nat × PySem.Obj) (nat_lit 21, { cls := Value.type "function", data := Data.func { name := Str.ofString "_wall", qualname := Str.ofString "_wall", params := defArgs s__wall, body := FuncBody.stmts (defBody s__wall), scope := defScope s__wall, globals := 3, closure := [], defaults := Value.none, kwdefaults := Value.none, pyModule := Value.str (Str.ofString "__main__") 164, code := Value.ref 20 } }) ?_
  refine @List.cons (Nat × PySem.Obj) (nat_lit 22, { cls := Value.type "tuple", data := Data.seq #[Value.type "ValueError"] }) ?_
  refine @List.cons (Nat × PySem.Obj) (nat_lit 29, { cls := Value.type "tuple", data := Data.seq #[Value.str (Str.ofString "PileError") 208] }) ?_
  refine @List.cons (Nat × PySem.Obj) (nat_lit 30, { cls := Value.type "tuple", data := Data.seq #[] }) ?_
  refine @List.cons (Nat × PySem.Obj) (nat_lit 32, { cls := Value.type "tuple", data := Data.seq #[Value.str (Str.ofString "self") 212, Value.str (Str.ofString "code") 213] }) ?_
  refine @List.cons (Nat × PySem.Obj) (nat_lit 33, { cls := Value.type "tuple", data := Data.seq #[] }) ?_
  refine @List.cons (Nat × PySem.Obj) (nat_lit 35, { cls := Value.type "code", data := Data.fields #[Value.str (Str.ofString "__init__") 209, Value.str (Str.ofString "PileError.__init__") 210, Value.str (Str.ofString "/claim/cut.py") 211, Value.int 7 0, Value.int 2 0, Value.int 0 0, Value.int 0 0, Value.int 3 0, Value.ref 30, Value.bool true, Value.int 181 0, Value.ref 31, Value.none, Value.ref 32, Value.ref 33, Value.ref 34, Value.int 214 0, Value.int 7 0, Value.str (Str.ofString "/claim/cut.py") 215] }) ?_
  refine @List.cons (Nat × PySem.Obj) (nat_lit 36, { cls := Value.type "function", data := Data.func { name := Str.ofString "__init__", qualname := Str.ofString "PileError.__init__", params := defArgs s_PileError, body := FuncBody.stmts (defBody s_PileError), scope := defScope s_PileError, globals := 3, closure := [], defaults := Value.ref 29, kwdefaults := Value.none, pyModule := Value.str (Str.ofString "pileports.errors") 194, code := Value.ref 35 } }) ?_
  refine @List.cons (Nat × PySem.Obj) (nat_lit 37, { cls := Value.type "tuple", data := Data.seq #[Value.str (Str.ofString "code") 217] }) ?_
  refine @List.cons (Nat × PySem.Obj) (nat_lit 38, { cls := Value.type "dict", data := Data.dict #[{ hash := PyData.keyHash P (Str.ofString "__module__"), key := Value.str (Str.ofString "__module__") 203, val := Value.str (Str.ofString "pileports.errors") 194 }, { hash := PyData.keyHash P (Str.ofString "__firstlineno__"), key := Value.str (Str.ofString "__firstlineno__") 207, val := Value.int 5 206 }, { hash := PyData.keyHash P (Str.ofString "__init__"), key := Value.str (Str.ofString "__init__") 216, val := Value.ref 36 }, { hash := PyData.keyHash P (Str.ofString "__static_attributes__"), key := Value.str (Str.ofString "__static_attributes__") 218, val := Value.ref 37 }, { hash := PyData.keyHash P (Str.ofString "__weakref__"), key := Value.str (Str.ofString "__weakref__") 220, val := Value.ref 40 }, { hash := PyData.keyHash P (Str.ofString "__doc__"), key := Value.str (Str.ofString "__doc__") 221, val := Value.none }] 3 }) ?_
  refine @List.cons (Nat × PySem.Obj) (nat_lit 39, { cls := Value.type "type", data := Data.cls { name := Str.ofString "PileError", bases := [Value.type "ValueError"], mro := [Value.ref 39, Value.type "ValueError", Value.type "Exception", Value.type "BaseException", Value.type "object"], ns := 38, qualname := Str.ofString "PileError", subclasses := [Value.ref 59, Value.ref 78, Value.ref 97, Value.ref 116] }, slots := #[some (Value.ref 22), none, some (Value.str (Str.ofString "PileError") 196), some (Value.str (Str.ofString "PileError") 204), some (Value.builtin "ValueError.__new__"), some (Value.bool true)] }) ?_
  refine @List.cons (Nat × PySem.Obj) (nat_lit 40, { cls := Value.type "getset_descriptor", data := Data.fields #[Value.str (Str.ofString "__weakref__") 219, Value.ref 39, Value.builtin "ExceptionGroup.__weakref__", Value.none] }) ?_
  refine @List.cons (Nat × PySem.Obj) (nat_lit 43, { cls := Value.type "tuple", data := Data.seq #[Value.ref 39] }) ?_
  refine @List.cons (Nat × PySem.Obj) (nat_lit 50, { cls := Value.type "tuple", data := Data.seq #[] }) ?_
  refine @List.cons (Nat × PySem.Obj) (nat_lit 52, { cls := Value.type "tuple", data := Data.seq #[Value.str (Str.ofString "self") 239, Value.str (Str.ofString "place") 240] }) ?_
  refine @List.cons (Nat × PySem.Obj) (nat_lit 53, { cls := Value.type "tuple", data := Data.seq #[] }) ?_
  refine @List.cons (Nat × PySem.Obj) (nat_lit 55, { cls := Value.type "code", data := Data.fields #[Value.str (Str.ofString "__init__") 236, Value.str (Str.ofString "BadPlace.__init__") 237, Value.str (Str.ofString "/claim/cut.py") 238, Value.int 11 0, Value.int 2 0, Value.int 0 0, Value.int 0 0, Value.int 3 0, Value.ref 50, Value.bool true, Value.int 181 0, Value.ref 51, Value.none, Value.ref 52, Value.ref 53, Value.ref 54, Value.int 241 0, Value.int 11 0, Value.str (Str.ofString "/claim/cut.py") 242] }) ?_
  refine @List.cons (Nat × PySem.Obj) (nat_lit 56, { cls := Value.type "function", data := Data.func { name := Str.ofString "__init__", qualname := Str.ofString "BadPlace.__init__", params := defArgs s_BadPlace, body := FuncBody.stmts (defBody s_BadPlace), scope := defScope s_BadPlace, globals := 3, closure := [], defaults := Value.none, kwdefaults := Value.none, pyModule := Value.str (Str.ofString "pileports.errors") 194, code := Value.ref 55 } }) ?_
  refine @List.cons (Nat × PySem.Obj) (nat_lit 57, { cls := Value.type "tuple", data := Data.seq #[Value.str (Str.ofString "place") 244] }) ?_
  refine @List.cons (Nat × PySem.Obj) (nat_lit 58, { cls := Value.type "dict", data := Data.dict #[{ hash := PyData.keyHash P (Str.ofString "__module__"), key := Value.str (Str.ofString "__module__") 231, val := Value.str (Str.ofString "pileports.errors") 194 }, { hash := PyData.keyHash P (Str.ofString "__firstlineno__"), key := Value.str (Str.ofString "__firstlineno__") 235, val := Value.int 9 234 }, { hash := PyData.keyHash P (Str.ofString "__init__"), key := Value.str (Str.ofString "__init__") 243, val := Value.ref 56 }, { hash := PyData.keyHash P (Str.ofString "__static_attributes__"), key := Value.str (Str.ofString "__static_attributes__") 245, val := Value.ref 57 }, { hash := PyData.keyHash P (Str.ofString "__doc__"), key := Value.str (Str.ofString "__doc__") 246, val := Value.none }] 2 }) ?_
  refine @List.cons (Nat × PySem.Obj) (nat_lit 59, { cls := Value.type "type", data := Data.cls { name := Str.ofString "BadPlace", bases := [Value.ref 39], mro := [Value.ref 59, Value.ref 39, Value.type "ValueError", Value.type "Exception", Value.type "BaseException", Value.type "object"], ns := 58, qualname := Str.ofString "BadPlace" }, slots := #[some (Value.ref 43), none, some (Value.str (Str.ofString "BadPlace") 224), some (Value.str (Str.ofString "BadPlace") 232), some (Value.builtin "ValueError.__new__"), some (Value.bool true)] }) ?_
  refine @List.cons (Nat × PySem.Obj) (nat_lit 62, { cls := Value.type "tuple", data := Data.seq #[Value.ref 39] }) ?_
  refine @List.cons (Nat × PySem.Obj) (nat_lit 69, { cls := Value.type "tuple", data := Data.seq #[] }) ?_
  refine @List.cons (Nat × PySem.Obj) (nat_lit 71, { cls := Value.type "tuple", data := Data.seq #[Value.str (Str.ofString "self") 264, Value.str (Str.ofString "at") 265] }) ?_
  refine @List.cons (Nat × PySem.Obj) (nat_lit 72, { cls := Value.type "tuple", data := Data.seq #[] }) ?_
  refine @List.cons (Nat × PySem.Obj) (nat_lit 74, { cls := Value.type "code", data := Data.fields #[Value.str (Str.ofString "__init__") 261, Value.str (Str.ofString "BadMove.__init__") 262, Value.str (Str.ofString "/claim/cut.py") 263, Value.int 16 0, Value.int 2 0, Value.int 0 0, Value.int 0 0, Value.int 3 0, Value.ref 69, Value.bool true, Value.int 181 0, Value.ref 70, Value.none, Value.ref 71, Value.ref 72, Value.ref 73, Value.int 266 0, Value.int 16 0, Value.str (Str.ofString "/claim/cut.py") 267] }) ?_
  refine @List.cons (Nat × PySem.Obj) (nat_lit 75, { cls := Value.type "function", data := Data.func { name := Str.ofString "__init__", qualname := Str.ofString "BadMove.__init__", params := defArgs s_BadMove, body := FuncBody.stmts (defBody s_BadMove), scope := defScope s_BadMove, globals := 3, closure := [], defaults := Value.none, kwdefaults := Value.none, pyModule := Value.str (Str.ofString "pileports.errors") 194, code := Value.ref 74 } }) ?_
  refine @List.cons (Nat × PySem.Obj) (nat_lit 76, { cls := Value.type "tuple", data := Data.seq #[Value.str (Str.ofString "at") 269] }) ?_
  refine @List.cons (Nat × PySem.Obj) (nat_lit 77, { cls := Value.type "dict", data := Data.dict #[{ hash := PyData.keyHash P (Str.ofString "__module__"), key := Value.str (Str.ofString "__module__") 256, val := Value.str (Str.ofString "pileports.errors") 194 }, { hash := PyData.keyHash P (Str.ofString "__firstlineno__"), key := Value.str (Str.ofString "__firstlineno__") 260, val := Value.int 14 259 }, { hash := PyData.keyHash P (Str.ofString "__init__"), key := Value.str (Str.ofString "__init__") 268, val := Value.ref 75 }, { hash := PyData.keyHash P (Str.ofString "__static_attributes__"), key := Value.str (Str.ofString "__static_attributes__") 270, val := Value.ref 76 }, { hash := PyData.keyHash P (Str.ofString "__doc__"), key := Value.str (Str.ofString "__doc__") 271, val := Value.none }] 2 }) ?_
  refine @List.cons (Nat × PySem.Obj) (nat_lit 78, { cls := Value.type "type", data := Data.cls { name := Str.ofString "BadMove", bases := [Value.ref 39], mro := [Value.ref 78, Value.ref 39, Value.type "ValueError", Value.type "Exception", Value.type "BaseException", Value.type "object"], ns := 77, qualname := Str.ofString "BadMove" }, slots := #[some (Value.ref 62), none, some (Value.str (Str.ofString "BadMove") 249), some (Value.str (Str.ofString "BadMove") 257), some (Value.builtin "ValueError.__new__"), some (Value.bool true)] }) ?_
  refine @List.cons (Nat × PySem.Obj) (nat_lit 81, { cls := Value.type "tuple", data := Data.seq #[Value.ref 39] }) ?_
  refine @List.cons (Nat × PySem.Obj) (nat_lit 88, { cls := Value.type "tuple", data := Data.seq #[] }) ?_
  refine @List.cons (Nat × PySem.Obj) (nat_lit 90, { cls := Value.type "tuple", data := Data.seq #[Value.str (Str.ofString "self") 289, Value.str (Str.ofString "at") 290] }) ?_
  refine @List.cons (Nat × PySem.Obj) (nat_lit 91, { cls := Value.type "tuple", data := Data.seq #[] }) ?_
  refine @List.cons (Nat × PySem.Obj) (nat_lit 93, { cls := Value.type "code", data := Data.fields #[Value.str (Str.ofString "__init__") 286, Value.str (Str.ofString "BadText.__init__") 287, Value.str (Str.ofString "/claim/cut.py") 288, Value.int 21 0, Value.int 2 0, Value.int 0 0, Value.int 0 0, Value.int 3 0, Value.ref 88, Value.bool true, Value.int 181 0, Value.ref 89, Value.none, Value.ref 90, Value.ref 91, Value.ref 92, Value.int 291 0, Value.int 21 0, Value.str (Str.ofString "/claim/cut.py") 292] }) ?_
  refine @List.cons (Nat × PySem.Obj) (nat_lit 94, { cls := Value.type "function", data := Data.func { name := Str.ofString "__init__", qualname := Str.ofString "BadText.__init__", params := defArgs s_BadText, body := FuncBody.stmts (defBody s_BadText), scope := defScope s_BadText, globals := 3, closure := [], defaults := Value.none, kwdefaults := Value.none, pyModule := Value.str (Str.ofString "pileports.errors") 194, code := Value.ref 93 } }) ?_
  refine @List.cons (Nat × PySem.Obj) (nat_lit 95, { cls := Value.type "tuple", data := Data.seq #[Value.str (Str.ofString "at") 294] }) ?_
  refine @List.cons (Nat × PySem.Obj) (nat_lit 96, { cls := Value.type "dict", data := Data.dict #[{ hash := PyData.keyHash P (Str.ofString "__module__"), key := Value.str (Str.ofString "__module__") 281, val := Value.str (Str.ofString "pileports.errors") 194 }, { hash := PyData.keyHash P (Str.ofString "__firstlineno__"), key := Value.str (Str.ofString "__firstlineno__") 285, val := Value.int 19 284 }, { hash := PyData.keyHash P (Str.ofString "__init__"), key := Value.str (Str.ofString "__init__") 293, val := Value.ref 94 }, { hash := PyData.keyHash P (Str.ofString "__static_attributes__"), key := Value.str (Str.ofString "__static_attributes__") 295, val := Value.ref 95 }, { hash := PyData.keyHash P (Str.ofString "__doc__"), key := Value.str (Str.ofString "__doc__") 296, val := Value.none }] 2 }) ?_
  refine @List.cons (Nat × PySem.Obj) (nat_lit 97, { cls := Value.type "type", data := Data.cls { name := Str.ofString "BadText", bases := [Value.ref 39], mro := [Value.ref 97, Value.ref 39, Value.type "ValueError", Value.type "Exception", Value.type "BaseException", Value.type "object"], ns := 96, qualname := Str.ofString "BadText" }, slots := #[some (Value.ref 81), none, some (Value.str (Str.ofString "BadText") 274), some (Value.str (Str.ofString "BadText") 282), some (Value.builtin "ValueError.__new__"), some (Value.bool true)] }) ?_
  refine @List.cons (Nat × PySem.Obj) (nat_lit 100, { cls := Value.type "tuple", data := Data.seq #[Value.ref 39] }) ?_
  refine @List.cons (Nat × PySem.Obj) (nat_lit 107, { cls := Value.type "tuple", data := Data.seq #[] }) ?_
  refine @List.cons (Nat × PySem.Obj) (nat_lit 109, { cls := Value.type "tuple", data := Data.seq #[Value.str (Str.ofString "self") 314, Value.str (Str.ofString "limit") 315] }) ?_
  refine @List.cons (Nat × PySem.Obj) (nat_lit 110, { cls := Value.type "tuple", data := Data.seq #[] }) ?_
  refine @List.cons (Nat × PySem.Obj) (nat_lit 112, { cls := Value.type "code", data := Data.fields #[Value.str (Str.ofString "__init__") 311, Value.str (Str.ofString "TooLong.__init__") 312, Value.str (Str.ofString "/claim/cut.py") 313, Value.int 26 0, Value.int 2 0, Value.int 0 0, Value.int 0 0, Value.int 3 0, Value.ref 107, Value.bool true, Value.int 181 0, Value.ref 108, Value.none, Value.ref 109, Value.ref 110, Value.ref 111, Value.int 316 0, Value.int 26 0, Value.str (Str.ofString "/claim/cut.py") 317] }) ?_
  refine @List.cons (Nat × PySem.Obj) (nat_lit 113, { cls := Value.type "function", data := Data.func { name := Str.ofString "__init__", qualname := Str.ofString "TooLong.__init__", params := defArgs s_TooLong, body := FuncBody.stmts (defBody s_TooLong), scope := defScope s_TooLong, globals := 3, closure := [], defaults := Value.none, kwdefaults := Value.none, pyModule := Value.str (Str.ofString "pileports.errors") 194, code := Value.ref 112 } }) ?_
  refine @List.cons (Nat × PySem.Obj) (nat_lit 114, { cls := Value.type "tuple", data := Data.seq #[Value.str (Str.ofString "limit") 319] }) ?_
  refine @List.cons (Nat × PySem.Obj) (nat_lit 115, { cls := Value.type "dict", data := Data.dict #[{ hash := PyData.keyHash P (Str.ofString "__module__"), key := Value.str (Str.ofString "__module__") 306, val := Value.str (Str.ofString "pileports.errors") 194 }, { hash := PyData.keyHash P (Str.ofString "__firstlineno__"), key := Value.str (Str.ofString "__firstlineno__") 310, val := Value.int 24 309 }, { hash := PyData.keyHash P (Str.ofString "__init__"), key := Value.str (Str.ofString "__init__") 318, val := Value.ref 113 }, { hash := PyData.keyHash P (Str.ofString "__static_attributes__"), key := Value.str (Str.ofString "__static_attributes__") 320, val := Value.ref 114 }, { hash := PyData.keyHash P (Str.ofString "__doc__"), key := Value.str (Str.ofString "__doc__") 321, val := Value.none }] 2 }) ?_
  refine @List.cons (Nat × PySem.Obj) (nat_lit 116, { cls := Value.type "type", data := Data.cls { name := Str.ofString "TooLong", bases := [Value.ref 39], mro := [Value.ref 116, Value.ref 39, Value.type "ValueError", Value.type "Exception", Value.type "BaseException", Value.type "object"], ns := 115, qualname := Str.ofString "TooLong" }, slots := #[some (Value.ref 100), none, some (Value.str (Str.ofString "TooLong") 299), some (Value.str (Str.ofString "TooLong") 307), some (Value.builtin "ValueError.__new__"), some (Value.bool true)] }) ?_
  refine @List.cons (Nat × PySem.Obj) (nat_lit 119, { cls := Value.type "tuple", data := Data.seq #[Value.type "LookupError"] }) ?_
  refine @List.cons (Nat × PySem.Obj) (nat_lit 126, { cls := Value.type "tuple", data := Data.seq #[Value.str (Str.ofString "Missing") 336] }) ?_
  refine @List.cons (Nat × PySem.Obj) (nat_lit 127, { cls := Value.type "tuple", data := Data.seq #[] }) ?_
  refine @List.cons (Nat × PySem.Obj) (nat_lit 129, { cls := Value.type "tuple", data := Data.seq #[Value.str (Str.ofString "self") 340, Value.str (Str.ofString "code") 341] }) ?_
  refine @List.cons (Nat × PySem.Obj) (nat_lit 130, { cls := Value.type "tuple", data := Data.seq #[] }) ?_
  refine @List.cons (Nat × PySem.Obj) (nat_lit 132, { cls := Value.type "code", data := Data.fields #[Value.str (Str.ofString "__init__") 337, Value.str (Str.ofString "Missing.__init__") 338, Value.str (Str.ofString "/claim/cut.py") 339, Value.int 31 0, Value.int 2 0, Value.int 0 0, Value.int 0 0, Value.int 3 0, Value.ref 127, Value.bool true, Value.int 181 0, Value.ref 128, Value.none, Value.ref 129, Value.ref 130, Value.ref 131, Value.int 342 0, Value.int 31 0, Value.str (Str.ofString "/claim/cut.py") 343] }) ?_
  refine @List.cons (Nat × PySem.Obj) (nat_lit 133, { cls := Value.type "function", data := Data.func { name := Str.ofString "__init__", qualname := Str.ofString "Missing.__init__", params := { posonlyargs := [], args := [{ arg := Str.ofString "self", annotation := none, pos := { line := 31, col := 17, endLine := 31, endCol := 21 } }, { arg := Str.ofString "code", annotation := none, pos := { line := 31, col := 23, endLine := 31, endCol := 27 } }], vararg := none, kwonlyargs := [], kw_defaults := [], kwarg := none, defaults := [Expr.Constant (Const.str (Str.ofString "Missing")) 0 { line := 31, col := 28, endLine := 31, endCol := 37 }] }, body := FuncBody.stmts [Stmt.Assign [(Expr.Name (Str.ofString "self") { line := 32, col := 8, endLine := 32, endCol := 12 }).Attribute (Str.ofString "code") { line := 32, col := 8, endLine := 32, endCol := 17 }] (Expr.Name (Str.ofString "code") { line := 32, col := 20, endLine := 32, endCol := 24 }) { line := 32, col := 8, endLine := 32, endCol := 24 }], scope := { kind := ScopeKind.function, names := [(Str.ofString "self", NameKind.local), (Str.ofString "code", NameKind.local)], isGenerator := false, isCoroutine := false }, globals := 3, closure := [], defaults := Value.ref 126, kwdefaults := Value.none, pyModule := Value.str (Str.ofString "pileports.errors") 194, code := Value.ref 132 } }) ?_
  refine @List.cons (Nat × PySem.Obj) (nat_lit 134, { cls := Value.type "tuple", data := Data.seq #[Value.str (Str.ofString "code") 345] }) ?_
  refine @List.cons (Nat × PySem.Obj) (nat_lit 135, { cls := Value.type "dict", data := Data.dict #[{ hash := PyData.keyHash P (Str.ofString "__module__"), key := Value.str (Str.ofString "__module__") 331, val := Value.str (Str.ofString "pileports.errors") 194 }, { hash := PyData.keyHash P (Str.ofString "__firstlineno__"), key := Value.str (Str.ofString "__firstlineno__") 335, val := Value.int 29 334 }, { hash := PyData.keyHash P (Str.ofString "__init__"), key := Value.str (Str.ofString "__init__") 344, val := Value.ref 133 }, { hash := PyData.keyHash P (Str.ofString "__static_attributes__"), key := Value.str (Str.ofString "__static_attributes__") 346, val := Value.ref 134 }, { hash := PyData.keyHash P (Str.ofString "__weakref__"), key := Value.str (Str.ofString "__weakref__") 348, val := Value.ref 137 }, { hash := PyData.keyHash P (Str.ofString "__doc__"), key := Value.str (Str.ofString "__doc__") 349, val := Value.none }] 3 }) ?_
  refine @List.cons (Nat × PySem.Obj) (nat_lit 136, { cls := Value.type "type", data := Data.cls { name := Str.ofString "Missing", bases := [Value.type "LookupError"], mro := [Value.ref 136, Value.type "LookupError", Value.type "Exception", Value.type "BaseException", Value.type "object"], ns := 135, qualname := Str.ofString "Missing" }, slots := #[some (Value.ref 119), none, some (Value.str (Str.ofString "Missing") 324), some (Value.str (Str.ofString "Missing") 332), some (Value.builtin "LookupError.__new__"), some (Value.bool true)] }) ?_
  refine @List.cons (Nat × PySem.Obj) (nat_lit 137, { cls := Value.type "getset_descriptor", data := Data.fields #[Value.str (Str.ofString "__weakref__") 347, Value.ref 136, Value.builtin "ExceptionGroup.__weakref__", Value.none] }) ?_
  refine @List.cons (Nat × PySem.Obj) (nat_lit 140, { cls := Value.type "tuple", data := Data.seq #[] }) ?_
  refine @List.cons (Nat × PySem.Obj) (nat_lit 142, { cls := Value.type "tuple", data := Data.seq #[Value.str (Str.ofString "value") 359] }) ?_
  refine @List.cons (Nat × PySem.Obj) (nat_lit 143, { cls := Value.type "tuple", data := Data.seq #[] }) ?_
  refine @List.cons (Nat × PySem.Obj) (nat_lit 145, { cls := Value.type "code", data := Data.fields #[Value.str (Str.ofString "is_number") 356, Value.str (Str.ofString "is_number") 357, Value.str (Str.ofString "/claim/cut.py") 358, Value.int 35 0, Value.int 1 0, Value.int 0 0, Value.int 0 0, Value.int 3 0, Value.ref 140, Value.bool true, Value.int 181 0, Value.ref 141, Value.none, Value.ref 142, Value.ref 143, Value.ref 144, Value.int 360 0, Value.int 35 0, Value.str (Str.ofString "/claim/cut.py") 361] }) ?_
  refine @List.cons (Nat × PySem.Obj) (nat_lit 146, { cls := Value.type "function", data := Data.func { name := Str.ofString "is_number", qualname := Str.ofString "is_number", params := defArgs s_is_number, body := FuncBody.stmts (defBody s_is_number), scope := defScope s_is_number, globals := 3, closure := [], defaults := Value.none, kwdefaults := Value.none, pyModule := Value.str (Str.ofString "pileports.numbers") 352, code := Value.ref 145 } }) ?_
  refine @List.cons (Nat × PySem.Obj) (nat_lit 147, { cls := Value.type "tuple", data := Data.seq #[Value.int 31 354] }) ?_
  refine @List.cons (Nat × PySem.Obj) (nat_lit 148, { cls := Value.type "tuple", data := Data.seq #[] }) ?_
  refine @List.cons (Nat × PySem.Obj) (nat_lit 150, { cls := Value.type "tuple", data := Data.seq #[Value.str (Str.ofString "text") 366, Value.str (Str.ofString "most_digits") 367, Value.str (Str.ofString "digits") 368, Value.str (Str.ofString "digit") 369] }) ?_
  refine @List.cons (Nat × PySem.Obj) (nat_lit 151, { cls := Value.type "tuple", data := Data.seq #[] }) ?_
  refine @List.cons (Nat × PySem.Obj) (nat_lit 153, { cls := Value.type "code", data := Data.fields #[Value.str (Str.ofString "read_number") 363, Value.str (Str.ofString "read_number") 364, Value.str (Str.ofString "/claim/cut.py") 365, Value.int 37 0, Value.int 2 0, Value.int 0 0, Value.int 0 0, Value.int 3 0, Value.ref 148, Value.bool true, Value.int 181 0, Value.ref 149, Value.none, Value.ref 150, Value.ref 151, Value.ref 152, Value.int 370 0, Value.int 37 0, Value.str (Str.ofString "/claim/cut.py") 371] }) ?_
  refine @List.cons (Nat × PySem.Obj) (nat_lit 154, { cls := Value.type "function", data := Data.func { name := Str.ofString "read_number", qualname := Str.ofString "read_number", params := defArgs s_read_number, body := FuncBody.stmts (defBody s_read_number), scope := defScope s_read_number, globals := 3, closure := [], defaults := Value.ref 147, kwdefaults := Value.none, pyModule := Value.str (Str.ofString "pileports.numbers") 352, code := Value.ref 153 } }) ?_
  refine @List.cons (Nat × PySem.Obj) (nat_lit 155, { cls := Value.type "dict", data := Data.dict #[{ hash := PyData.keyHash P (Str.ofString "t"), key := Value.str (Str.ofString "t") 377, val := Value.str (Str.ofString "top") 378 }, { hash := PyData.keyHash P (Str.ofString "b"), key := Value.str (Str.ofString "b") 379, val := Value.str (Str.ofString "bottom") 380 }] 2 }) ?_
  refine @List.cons (Nat × PySem.Obj) (nat_lit 156, { cls := Value.type "tuple", data := Data.seq #[] }) ?_
  refine @List.cons (Nat × PySem.Obj) (nat_lit 158, { cls := Value.type "tuple", data := Data.seq #[Value.str (Str.ofString "value") 387] }) ?_
  refine @List.cons (Nat × PySem.Obj) (nat_lit 159, { cls := Value.type "tuple", data := Data.seq #[] }) ?_
  refine @List.cons (Nat × PySem.Obj) (nat_lit 161, { cls := Value.type "code", data := Data.fields #[Value.str (Str.ofString "is_end") 384, Value.str (Str.ofString "is_end") 385, Value.str (Str.ofString "/claim/cut.py") 386, Value.int 50 0, Value.int 1 0, Value.int 0 0, Value.int 0 0, Value.int 3 0, Value.ref 156, Value.bool true, Value.int 181 0, Value.ref 157, Value.none, Value.ref 158, Value.ref 159, Value.ref 160, Value.int 388 0, Value.int 50 0, Value.str (Str.ofString "/claim/cut.py") 389] }) ?_
  refine @List.cons (Nat × PySem.Obj) (nat_lit 162, { cls := Value.type "function", data := Data.func { name := Str.ofString "is_end", qualname := Str.ofString "is_end", params := defArgs s_is_end, body := FuncBody.stmts (defBody s_is_end), scope := defScope s_is_end, globals := 3, closure := [], defaults := Value.none, kwdefaults := Value.none, pyModule := Value.str (Str.ofString "pileports.places") 373, code := Value.ref 161 } }) ?_
  refine @List.cons (Nat × PySem.Obj) (nat_lit 163, { cls := Value.type "tuple", data := Data.seq #[] }) ?_
  refine @List.cons (Nat × PySem.Obj) (nat_lit 165, { cls := Value.type "tuple", data := Data.seq #[Value.str (Str.ofString "value") 394] }) ?_
  refine @List.cons (Nat × PySem.Obj) (nat_lit 166, { cls := Value.type "tuple", data := Data.seq #[] }) ?_
  refine @List.cons (Nat × PySem.Obj) (nat_lit 168, { cls := Value.type "code", data := Data.fields #[Value.str (Str.ofString "is_end_place") 391, Value.str (Str.ofString "is_end_place") 392, Value.str (Str.ofString "/claim/cut.py") 393, Value.int 52 0, Value.int 1 0, Value.int 0 0, Value.int 0 0, Value.int 3 0, Value.ref 163, Value.bool true, Value.int 181 0, Value.ref 164, Value.none, Value.ref 165, Value.ref 166, Value.ref 167, Value.int 395 0, Value.int 52 0, Value.str (Str.ofString "/claim/cut.py") 396] }) ?_
  refine @List.cons (Nat × PySem.Obj) (nat_lit 169, { cls := Value.type "function", data := Data.func { name := Str.ofString "is_end_place", qualname := Str.ofString "is_end_place", params := defArgs s_is_end_place, body := FuncBody.stmts (defBody s_is_end_place), scope := defScope s_is_end_place, globals := 3, closure := [], defaults := Value.none, kwdefaults := Value.none, pyModule := Value.str (Str.ofString "pileports.places") 373, code := Value.ref 168 } }) ?_
  refine @List.cons (Nat × PySem.Obj) (nat_lit 170, { cls := Value.type "tuple", data := Data.seq #[] }) ?_
  refine @List.cons (Nat × PySem.Obj) (nat_lit 172, { cls := Value.type "tuple", data := Data.seq #[Value.str (Str.ofString "value") 401] }) ?_
  refine @List.cons (Nat × PySem.Obj) (nat_lit 173, { cls := Value.type "tuple", data := Data.seq #[] }) ?_
  refine @List.cons (Nat × PySem.Obj) (nat_lit 175, { cls := Value.type "code", data := Data.fields #[Value.str (Str.ofString "check_end_place") 398, Value.str (Str.ofString "check_end_place") 399, Value.str (Str.ofString "/claim/cut.py") 400, Value.int 56 0, Value.int 1 0, Value.int 0 0, Value.int 0 0, Value.int 3 0, Value.ref 170, Value.bool true, Value.int 181 0, Value.ref 171, Value.none, Value.ref 172, Value.ref 173, Value.ref 174, Value.int 402 0, Value.int 56 0, Value.str (Str.ofString "/claim/cut.py") 403] }) ?_
  refine @List.cons (Nat × PySem.Obj) (nat_lit 176, { cls := Value.type "function", data := Data.func { name := Str.ofString "check_end_place", qualname := Str.ofString "check_end_place", params := defArgs s_check_end_place, body := FuncBody.stmts (defBody s_check_end_place), scope := defScope s_check_end_place, globals := 3, closure := [], defaults := Value.none, kwdefaults := Value.none, pyModule := Value.str (Str.ofString "pileports.places") 373, code := Value.ref 175 } }) ?_
  refine @List.cons (Nat × PySem.Obj) (nat_lit 177, { cls := Value.type "tuple", data := Data.seq #[] }) ?_
  refine @List.cons (Nat × PySem.Obj) (nat_lit 179, { cls := Value.type "tuple", data := Data.seq #[Value.str (Str.ofString "end") 408] }) ?_
  refine @List.cons (Nat × PySem.Obj) (nat_lit 180, { cls := Value.type "tuple", data := Data.seq #[] }) ?_
  refine @List.cons (Nat × PySem.Obj) (nat_lit 182, { cls := Value.type "code", data := Data.fields #[Value.str (Str.ofString "end_text") 405, Value.str (Str.ofString "end_text") 406, Value.str (Str.ofString "/claim/cut.py") 407, Value.int 59 0, Value.int 1 0, Value.int 0 0, Value.int 0 0, Value.int 3 0, Value.ref 177, Value.bool true, Value.int 181 0, Value.ref 178, Value.none, Value.ref 179, Value.ref 180, Value.ref 181, Value.int 409 0, Value.int 59 0, Value.str (Str.ofString "/claim/cut.py") 410] }) ?_
  refine @List.cons (Nat × PySem.Obj) (nat_lit 183, { cls := Value.type "function", data := Data.func { name := Str.ofString "end_text", qualname := Str.ofString "end_text", params := defArgs s_end_text, body := FuncBody.stmts (defBody s_end_text), scope := defScope s_end_text, globals := 3, closure := [], defaults := Value.none, kwdefaults := Value.none, pyModule := Value.str (Str.ofString "pileports.places") 373, code := Value.ref 182 } }) ?_
  refine @List.cons (Nat × PySem.Obj) (nat_lit 184, { cls := Value.type "tuple", data := Data.seq #[] }) ?_
  refine @List.cons (Nat × PySem.Obj) (nat_lit 186, { cls := Value.type "tuple", data := Data.seq #[Value.str (Str.ofString "text") 415] }) ?_
  refine @List.cons (Nat × PySem.Obj) (nat_lit 187, { cls := Value.type "tuple", data := Data.seq #[] }) ?_
  refine @List.cons (Nat × PySem.Obj) (nat_lit 189, { cls := Value.type "code", data := Data.fields #[Value.str (Str.ofString "read_end") 412, Value.str (Str.ofString "read_end") 413, Value.str (Str.ofString "/claim/cut.py") 414, Value.int 61 0, Value.int 1 0, Value.int 0 0, Value.int 0 0, Value.int 3 0, Value.ref 184, Value.bool true, Value.int 181 0, Value.ref 185, Value.none, Value.ref 186, Value.ref 187, Value.ref 188, Value.int 416 0, Value.int 61 0, Value.str (Str.ofString "/claim/cut.py") 417] }) ?_
  refine @List.cons (Nat × PySem.Obj) (nat_lit 190, { cls := Value.type "function", data := Data.func { name := Str.ofString "read_end", qualname := Str.ofString "read_end", params := defArgs s_read_end, body := FuncBody.stmts (defBody s_read_end), scope := defScope s_read_end, globals := 3, closure := [], defaults := Value.none, kwdefaults := Value.none, pyModule := Value.str (Str.ofString "pileports.places") 373, code := Value.ref 189 } }) ?_
  refine @List.cons (Nat × PySem.Obj) (nat_lit 191, { cls := Value.type "tuple", data := Data.seq #[] }) ?_
  refine @List.cons (Nat × PySem.Obj) (nat_lit 193, { cls := Value.type "tuple", data := Data.seq #[Value.str (Str.ofString "end_place") 422, Value.str (Str.ofString "end") 423, Value.str (Str.ofString "depth") 424] }) ?_
  refine @List.cons (Nat × PySem.Obj) (nat_lit 194, { cls := Value.type "tuple", data := Data.seq #[] }) ?_
  refine @List.cons (Nat × PySem.Obj) (nat_lit 196, { cls := Value.type "code", data := Data.fields #[Value.str (Str.ofString "place_text") 419, Value.str (Str.ofString "place_text") 420, Value.str (Str.ofString "/claim/cut.py") 421, Value.int 63 0, Value.int 1 0, Value.int 0 0, Value.int 0 0, Value.int 3 0, Value.ref 191, Value.bool true, Value.int 181 0, Value.ref 192, Value.none, Value.ref 193, Value.ref 194, Value.ref 195, Value.int 425 0, Value.int 63 0, Value.str (Str.ofString "/claim/cut.py") 426] }) ?_
  refine @List.cons (Nat × PySem.Obj) (nat_lit 197, { cls := Value.type "function", data := Data.func { name := Str.ofString "place_text", qualname := Str.ofString "place_text", params := defArgs s_place_text, body := FuncBody.stmts (defBody s_place_text), scope := defScope s_place_text, globals := 3, closure := [], defaults := Value.none, kwdefaults := Value.none, pyModule := Value.str (Str.ofString "pileports.places") 373, code := Value.ref 196 } }) ?_
  refine @List.cons (Nat × PySem.Obj) (nat_lit 198, { cls := Value.type "tuple", data := Data.seq #[] }) ?_
  refine @List.cons (Nat × PySem.Obj) (nat_lit 200, { cls := Value.type "tuple", data := Data.seq #[Value.str (Str.ofString "text") 431, Value.str (Str.ofString "end_place") 432] }) ?_
  refine @List.cons (Nat × PySem.Obj) (nat_lit 201, { cls := Value.type "tuple", data := Data.seq #[] }) ?_
  refine @List.cons (Nat × PySem.Obj) (nat_lit 203, { cls := Value.type "code", data := Data.fields #[Value.str (Str.ofString "parse_place") 428, Value.str (Str.ofString "parse_place") 429, Value.str (Str.ofString "/claim/cut.py") 430, Value.int 67 0, Value.int 1 0, Value.int 0 0, Value.int 0 0, Value.int 3 0, Value.ref 198, Value.bool true, Value.int 181 0, Value.ref 199, Value.none, Value.ref 200, Value.ref 201, Value.ref 202, Value.int 433 0, Value.int 67 0, Value.str (Str.ofString "/claim/cut.py") 434] }) ?_
  refine @List.cons (Nat × PySem.Obj) (nat_lit 204, { cls := Value.type "function", data := Data.func { name := Str.ofString "parse_place", qualname := Str.ofString "parse_place", params := defArgs s_parse_place, body := FuncBody.stmts (defBody s_parse_place), scope := defScope s_parse_place, globals := 3, closure := [], defaults := Value.none, kwdefaults := Value.none, pyModule := Value.str (Str.ofString "pileports.places") 373, code := Value.ref 203 } }) ?_
  refine @List.cons (Nat × PySem.Obj) (nat_lit 205, { cls := Value.type "dict", data := Data.dict #[{ hash := PyData.keyHash P (Str.ofString "swap"), key := Value.str (Str.ofString "swap") 440, val := Value.ref 206 }, { hash := PyData.keyHash P (Str.ofString "carry"), key := Value.str (Str.ofString "carry") 443, val := Value.ref 207 }, { hash := PyData.keyHash P (Str.ofString "cut"), key := Value.str (Str.ofString "cut") 446, val := Value.ref 208 }, { hash := PyData.keyHash P (Str.ofString "turn"), key := Value.str (Str.ofString "turn") 448, val := Value.ref 209 }, { hash := PyData.keyHash P (Str.ofString "over"), key := Value.str (Str.ofString "over") 451, val := Value.ref 210 }, { hash := PyData.keyHash P (Str.ofString "face"), key := Value.str (Str.ofString "face") 452, val := Value.ref 211 }] 6 }) ?_
  refine @List.cons (Nat × PySem.Obj) (nat_lit 206, { cls := Value.type "tuple", data := Data.seq #[Value.str (Str.ofString "place") 441, Value.str (Str.ofString "place") 442] }) ?_
  refine @List.cons (Nat × PySem.Obj) (nat_lit 207, { cls := Value.type "tuple", data := Data.seq #[Value.str (Str.ofString "place") 444, Value.str (Str.ofString "place") 445] }) ?_
  refine @List.cons (Nat × PySem.Obj) (nat_lit 208, { cls := Value.type "tuple", data := Data.seq #[Value.str (Str.ofString "signed") 447] }) ?_
  refine @List.cons (Nat × PySem.Obj) (nat_lit 209, { cls := Value.type "tuple", data := Data.seq #[Value.str (Str.ofString "end") 449, Value.str (Str.ofString "block") 450] }) ?_
  refine @List.cons (Nat × PySem.Obj) (nat_lit 210, { cls := Value.type "tuple", data := Data.seq #[] }) ?_
  refine @List.cons (Nat × PySem.Obj) (nat_lit 211, { cls := Value.type "tuple", data := Data.seq #[Value.str (Str.ofString "place") 453] }) ?_
  refine @List.cons (Nat × PySem.Obj) (nat_lit 212, { cls := Value.type "tuple", data := Data.seq #[] }) ?_
  refine @List.cons (Nat × PySem.Obj) (nat_lit 214, { cls := Value.type "tuple", data := Data.seq #[Value.str (Str.ofString "move") 464, Value.str (Str.ofString "shape") 465, Value.str (Str.ofString "part") 466, Value.str (Str.ofString "item") 467] }) ?_
  refine @List.cons (Nat × PySem.Obj) (nat_lit 215, { cls := Value.type "tuple", data := Data.seq #[] }) ?_
  refine @List.cons (Nat × PySem.Obj) (nat_lit 217, { cls := Value.type "code", data := Data.fields #[Value.str (Str.ofString "is_move") 461, Value.str (Str.ofString "is_move") 462, Value.str (Str.ofString "/claim/cut.py") 463, Value.int 75 0, Value.int 1 0, Value.int 0 0, Value.int 0 0, Value.int 3 0, Value.ref 212, Value.bool true, Value.int 181 0, Value.ref 213, Value.none, Value.ref 214, Value.ref 215, Value.ref 216, Value.int 468 0, Value.int 75 0, Value.str (Str.ofString "/claim/cut.py") 469] }) ?_
  refine @List.cons (Nat × PySem.Obj) (nat_lit 218, { cls := Value.type "function", data := Data.func { name := Str.ofString "is_move", qualname := Str.ofString "is_move", params := defArgs s_is_move, body := FuncBody.stmts (defBody s_is_move), scope := defScope s_is_move, globals := 3, closure := [], defaults := Value.none, kwdefaults := Value.none, pyModule := Value.str (Str.ofString "pileports.moves") 436, code := Value.ref 217 } }) ?_
  refine @List.cons (Nat × PySem.Obj) (nat_lit 219, { cls := Value.type "tuple", data := Data.seq #[] }) ?_
  refine @List.cons (Nat × PySem.Obj) (nat_lit 221, { cls := Value.type "tuple", data := Data.seq #[Value.str (Str.ofString "part") 474, Value.str (Str.ofString "item") 475, Value.str (Str.ofString "least") 476] }) ?_
  refine @List.cons (Nat × PySem.Obj) (nat_lit 222, { cls := Value.type "tuple", data := Data.seq #[] }) ?_
  refine @List.cons (Nat × PySem.Obj) (nat_lit 224, { cls := Value.type "code", data := Data.fields #[Value.str (Str.ofString "fits") 471, Value.str (Str.ofString "fits") 472, Value.str (Str.ofString "/claim/cut.py") 473, Value.int 85 0, Value.int 2 0, Value.int 0 0, Value.int 0 0, Value.int 3 0, Value.ref 219, Value.bool true, Value.int 181 0, Value.ref 220, Value.none, Value.ref 221, Value.ref 222, Value.ref 223, Value.int 477 0, Value.int 85 0, Value.str (Str.ofString "/claim/cut.py") 478] }) ?_
  refine @List.cons (Nat × PySem.Obj) (nat_lit 225, { cls := Value.type "function", data := Data.func { name := Str.ofString "fits", qualname := Str.ofString "fits", params := defArgs s_fits, body := FuncBody.stmts (defBody s_fits), scope := defScope s_fits, globals := 3, closure := [], defaults := Value.none, kwdefaults := Value.none, pyModule := Value.str (Str.ofString "pileports.moves") 436, code := Value.ref 224 } }) ?_
  refine @List.cons (Nat × PySem.Obj) (nat_lit 226, { cls := Value.type "tuple", data := Data.seq #[] }) ?_
  refine @List.cons (Nat × PySem.Obj) (nat_lit 228, { cls := Value.type "tuple", data := Data.seq #[Value.str (Str.ofString "move") 483] }) ?_
  refine @List.cons (Nat × PySem.Obj) (nat_lit 229, { cls := Value.type "tuple", data := Data.seq #[] }) ?_
  refine @List.cons (Nat × PySem.Obj) (nat_lit 231, { cls := Value.type "code", data := Data.fields #[Value.str (Str.ofString "check_move") 480, Value.str (Str.ofString "check_move") 481, Value.str (Str.ofString "/claim/cut.py") 482, Value.int 92 0, Value.int 1 0, Value.int 0 0, Value.int 0 0, Value.int 3 0, Value.ref 226, Value.bool true, Value.int 181 0, Value.ref 227, Value.none, Value.ref 228, Value.ref 229, Value.ref 230, Value.int 484 0, Value.int 92 0, Value.str (Str.ofString "/claim/cut.py") 485] }) ?_
  refine @List.cons (Nat × PySem.Obj) (nat_lit 232, { cls := Value.type "function", data := Data.func { name := Str.ofString "check_move", qualname := Str.ofString "check_move", params := defArgs s_check_move, body := FuncBody.stmts (defBody s_check_move), scope := defScope s_check_move, globals := 3, closure := [], defaults := Value.none, kwdefaults := Value.none, pyModule := Value.str (Str.ofString "pileports.moves") 436, code := Value.ref 231 } }) ?_
  refine @List.cons (Nat × PySem.Obj) (nat_lit 233, { cls := Value.type "tuple", data := Data.seq #[] }) ?_
  refine @List.cons (Nat × PySem.Obj) (nat_lit 236, { cls := Value.type "code", data := Data.fields #[Value.str (Str.ofString "cards_needed") 487, Value.str (Str.ofString "cards_needed") 488, Value.str (Str.ofString "/claim/cut.py") 489, Value.int 95 0, Value.int 1 0, Value.int 0 0, Value.int 0 0, Value.int 3 0, Value.ref 233, Value.bool true, Value.int 181 0, Value.ref 234, Value.none, Value.none, Value.none, Value.ref 235, Value.int 490 0, Value.int 95 0, Value.str (Str.ofString "/claim/cut.py") 491] }) ?_
  refine @List.cons (Nat × PySem.Obj) (nat_lit 237, { cls := Value.type "function", data := Data.func { name := Str.ofString "cards_needed", qualname := Str.ofString "cards_needed", params := defArgs s_cards_needed, body := FuncBody.stmts (defBody s_cards_needed), scope := defScope s_cards_needed, globals := 3, closure := [], defaults := Value.none, kwdefaults := Value.none, pyModule := Value.str (Str.ofString "pileports.moves") 436, code := Value.ref 236 } }) ?_
  refine @List.cons (Nat × PySem.Obj) (nat_lit 238, { cls := Value.type "tuple", data := Data.seq #[] }) ?_
  refine @List.cons (Nat × PySem.Obj) (nat_lit 240, { cls := Value.type "tuple", data := Data.seq #[Value.str (Str.ofString "move") 496, Value.str (Str.ofString "words") 497, Value.str (Str.ofString "part") 498, Value.str (Str.ofString "item") 499] }) ?_
  refine @List.cons (Nat × PySem.Obj) (nat_lit 241, { cls := Value.type "tuple", data := Data.seq #[] }) ?_
  refine @List.cons (Nat × PySem.Obj) (nat_lit 243, { cls := Value.type "code", data := Data.fields #[Value.str (Str.ofString "move_text") 493, Value.str (Str.ofString "move_text") 494, Value.str (Str.ofString "/claim/cut.py") 495, Value.int 104 0, Value.int 1 0, Value.int 0 0, Value.int 0 0, Value.int 3 0, Value.ref 238, Value.bool true, Value.int 181 0, Value.ref 239, Value.none, Value.ref 240, Value.ref 241, Value.ref 242, Value.int 500 0, Value.int 104 0, Value.str (Str.ofString "/claim/cut.py") 501] }) ?_
  refine @List.cons (Nat × PySem.Obj) (nat_lit 244, { cls := Value.type "function", data := Data.func { name := Str.ofString "move_text", qualname := Str.ofString "move_text", params := defArgs s_move_text, body := FuncBody.stmts (defBody s_move_text), scope := defScope s_move_text, globals := 3, closure := [], defaults := Value.none, kwdefaults := Value.none, pyModule := Value.str (Str.ofString "pileports.moves") 436, code := Value.ref 243 } }) ?_
  refine @List.cons (Nat × PySem.Obj) (nat_lit 245, { cls := Value.type "tuple", data := Data.seq #[] }) ?_
  refine @List.cons (Nat × PySem.Obj) (nat_lit 247, { cls := Value.type "tuple", data := Data.seq #[Value.str (Str.ofString "part") 506, Value.str (Str.ofString "item") 507] }) ?_
  refine @List.cons (Nat × PySem.Obj) (nat_lit 248, { cls := Value.type "tuple", data := Data.seq #[] }) ?_
  refine @List.cons (Nat × PySem.Obj) (nat_lit 250, { cls := Value.type "code", data := Data.fields #[Value.str (Str.ofString "item_text") 503, Value.str (Str.ofString "item_text") 504, Value.str (Str.ofString "/claim/cut.py") 505, Value.int 110 0, Value.int 2 0, Value.int 0 0, Value.int 0 0, Value.int 3 0, Value.ref 245, Value.bool true, Value.int 181 0, Value.ref 246, Value.none, Value.ref 247, Value.ref 248, Value.ref 249, Value.int 508 0, Value.int 110 0, Value.str (Str.ofString "/claim/cut.py") 509] }) ?_
  refine @List.cons (Nat × PySem.Obj) (nat_lit 251, { cls := Value.type "function", data := Data.func { name := Str.ofString "item_text", qualname := Str.ofString "item_text", params := defArgs s_item_text, body := FuncBody.stmts (defBody s_item_text), scope := defScope s_item_text, globals := 3, closure := [], defaults := Value.none, kwdefaults := Value.none, pyModule := Value.str (Str.ofString "pileports.moves") 436, code := Value.ref 250 } }) ?_
  refine @List.cons (Nat × PySem.Obj) (nat_lit 252, { cls := Value.type "tuple", data := Data.seq #[] }) ?_
  refine @List.cons (Nat × PySem.Obj) (nat_lit 254, { cls := Value.type "tuple", data := Data.seq #[Value.str (Str.ofString "text") 514, Value.str (Str.ofString "words") 515, Value.str (Str.ofString "shape") 516, Value.str (Str.ofString "items") 517, Value.str (Str.ofString "part") 518, Value.str (Str.ofString "word") 519, Value.str (Str.ofString "move") 520] }) ?_
  refine @List.cons (Nat × PySem.Obj) (nat_lit 255, { cls := Value.type "tuple", data := Data.seq #[] }) ?_
  refine @List.cons (Nat × PySem.Obj) (nat_lit 257, { cls := Value.type "code", data := Data.fields #[Value.str (Str.ofString "parse_move") 511, Value.str (Str.ofString "parse_move") 512, Value.str (Str.ofString "/claim/cut.py") 513, Value.int 116 0, Value.int 1 0, Value.int 0 0, Value.int 0 0, Value.int 3 0, Value.ref 252, Value.bool true, Value.int 181 0, Value.ref 253, Value.none, Value.ref 254, Value.ref 255, Value.ref 256, Value.int 521 0, Value.int 116 0, Value.str (Str.ofString "/claim/cut.py") 522] }) ?_
  refine @List.cons (Nat × PySem.Obj) (nat_lit 258, { cls := Value.type "function", data := Data.func { name := Str.ofString "parse_move", qualname := Str.ofString "parse_move", params := defArgs s_parse_move, body := FuncBody.stmts (defBody s_parse_move), scope := defScope s_parse_move, globals := 3, closure := [], defaults := Value.none, kwdefaults := Value.none, pyModule := Value.str (Str.ofString "pileports.moves") 436, code := Value.ref 257 } }) ?_
  refine @List.cons (Nat × PySem.Obj) (nat_lit 259, { cls := Value.type "tuple", data := Data.seq #[] }) ?_
  refine @List.cons (Nat × PySem.Obj) (nat_lit 261, { cls := Value.type "tuple", data := Data.seq #[Value.str (Str.ofString "part") 527, Value.str (Str.ofString "word") 528] }) ?_
  refine @List.cons (Nat × PySem.Obj) (nat_lit 262, { cls := Value.type "tuple", data := Data.seq #[] }) ?_
  refine @List.cons (Nat × PySem.Obj) (nat_lit 264, { cls := Value.type "code", data := Data.fields #[Value.str (Str.ofString "read_item") 524, Value.str (Str.ofString "read_item") 525, Value.str (Str.ofString "/claim/cut.py") 526, Value.int 128 0, Value.int 2 0, Value.int 0 0, Value.int 0 0, Value.int 3 0, Value.ref 259, Value.bool true, Value.int 181 0, Value.ref 260, Value.none, Value.ref 261, Value.ref 262, Value.ref 263, Value.int 529 0, Value.int 128 0, Value.str (Str.ofString "/claim/cut.py") 530] }) ?_
  refine @List.cons (Nat × PySem.Obj) (nat_lit 265, { cls := Value.type "function", data := Data.func { name := Str.ofString "read_item", qualname := Str.ofString "read_item", params := defArgs s_read_item, body := FuncBody.stmts (defBody s_read_item), scope := defScope s_read_item, globals := 3, closure := [], defaults := Value.none, kwdefaults := Value.none, pyModule := Value.str (Str.ofString "pileports.moves") 436, code := Value.ref 264 } }) ?_
  refine @List.cons (Nat × PySem.Obj) (nat_lit 273, { cls := Value.type "tuple", data := Data.seq #[] }) ?_
  refine @List.cons (Nat × PySem.Obj) (nat_lit 276, { cls := Value.type "code", data := Data.fields #[Value.str (Str.ofString "__init__") 550, Value.str (Str.ofString "Word.__init__") 551, Value.str (Str.ofString "/claim/cut.py") 552, Value.int 139 0, Value.int 1 0, Value.int 0 0, Value.int 0 0, Value.int 7 0, Value.ref 273, Value.bool true, Value.int 181 0, Value.ref 274, Value.none, Value.none, Value.none, Value.ref 275, Value.int 553 0, Value.int 139 0, Value.str (Str.ofString "/claim/cut.py") 554] }) ?_
  refine @List.cons (Nat × PySem.Obj) (nat_lit 277, { cls := Value.type "function", data := Data.func { name := Str.ofString "__init__", qualname := Str.ofString "Word.__init__", params := defArgs s_Word___init__, body := FuncBody.stmts (defBody s_Word___init__), scope := defScope s_Word___init__, globals := 3, closure := [], defaults := Value.none, kwdefaults := Value.none, pyModule := Value.str (Str.ofString "pileports.words") 532, code := Value.ref 276 } }) ?_
  refine @List.cons (Nat × PySem.Obj) (nat_lit 278, { cls := Value.type "tuple", data := Data.seq #[] }) ?_
  refine @List.cons (Nat × PySem.Obj) (nat_lit 280, { cls := Value.type "tuple", data := Data.seq #[Value.str (Str.ofString "cls") 559, Value.str (Str.ofString "text") 560, Value.str (Str.ofString "parts") 561, Value.str (Str.ofString "moves") 562, Value.str (Str.ofString "at") 563, Value.str (Str.ofString "part") 564] }) ?_
  refine @List.cons (Nat × PySem.Obj) (nat_lit 281, { cls := Value.type "tuple", data := Data.seq #[] }) ?_
  refine @List.cons (Nat × PySem.Obj) (nat_lit 283, { cls := Value.type "code", data := Data.fields #[Value.str (Str.ofString "read") 556, Value.str (Str.ofString "Word.read") 557, Value.str (Str.ofString "/claim/cut.py") 558, Value.int 151 0, Value.int 2 0, Value.int 0 0, Value.int 0 0, Value.int 3 0, Value.ref 278, Value.bool true, Value.int 181 0, Value.ref 279, Value.none, Value.ref 280, Value.ref 281, Value.ref 282, Value.int 565 0, Value.int 151 0, Value.str (Str.ofString "/claim/cut.py") 566] }) ?_
  refine @List.cons (Nat × PySem.Obj) (nat_lit 284, { cls := Value.type "function", data := Data.func { name := Str.ofString "read", qualname := Str.ofString "Word.read", params := defArgs s_Word_read, body := FuncBody.stmts (defBody s_Word_read), scope := defScope s_Word_read, globals := 3, closure := [], defaults := Value.none, kwdefaults := Value.none, pyModule := Value.str (Str.ofString "pileports.words") 532, annotations := some 287, code := Value.ref 283 } }) ?_
  refine @List.cons (Nat × PySem.Obj) (nat_lit 285, { cls := Value.type "dict", data := Data.dict #[{ hash := PyData.keyHash P (Str.ofString "__module__"), key := Value.str (Str.ofString "__module__") 568, val := Value.str (Str.ofString "pileports.words") 532 }, { hash := PyData.keyHash P (Str.ofString "__name__"), key := Value.str (Str.ofString "__name__") 571, val := Value.str (Str.ofString "read") 570 }, { hash := PyData.keyHash P (Str.ofString "__qualname__"), key := Value.str (Str.ofString "__qualname__") 574, val := Value.str (Str.ofString "Word.read") 573 }, { hash := PyData.keyHash P (Str.ofString "__doc__"), key := Value.str (Str.ofString "__doc__") 576, val := Value.none }, { hash := PyData.keyHash P (Str.ofString "__annotations__"), key := Value.str (Str.ofString "__annotations__") 578, val := Value.ref 287 }] 5 }) ?_
  refine @List.cons (Nat × PySem.Obj) (nat_lit 286, { cls := Value.type "classmethod", dict := some 285, data := Data.fields #[Value.ref 284, Value.bool false] }) ?_
  refine @List.cons (Nat × PySem.Obj) (nat_lit 287, { cls := Value.type "dict", data := Data.dict #[] }) ?_
  refine @List.cons (Nat × PySem.Obj) (nat_lit 288, { cls := Value.type "tuple", data := Data.seq #[] }) ?_
  refine @List.cons (Nat × PySem.Obj) (nat_lit 290, { cls := Value.type "tuple", data := Data.seq #[Value.str (Str.ofString "self") 583] }) ?_
  refine @List.cons (Nat × PySem.Obj) (nat_lit 291, { cls := Value.type "tuple", data := Data.seq #[] }) ?_
  refine @List.cons (Nat × PySem.Obj) (nat_lit 293, { cls := Value.type "code", data := Data.fields #[Value.str (Str.ofString "reach") 580, Value.str (Str.ofString "Word.reach") 581, Value.str (Str.ofString "/claim/cut.py") 582, Value.int 162 0, Value.int 1 0, Value.int 0 0, Value.int 0 0, Value.int 3 0, Value.ref 288, Value.bool true, Value.int 181 0, Value.ref 289, Value.none, Value.ref 290, Value.ref 291, Value.ref 292, Value.int 584 0, Value.int 162 0, Value.str (Str.ofString "/claim/cut.py") 585] }) ?_
  refine @List.cons (Nat × PySem.Obj) (nat_lit 294, { cls := Value.type "function", data := Data.func { name := Str.ofString "reach", qualname := Str.ofString "Word.reach", params := { posonlyargs := [], args := [{ arg := Str.ofString "self", annotation := none, pos := { line := 163, col := 14, endLine := 163, endCol := 18 } }], vararg := none, kwonlyargs := [], kw_defaults := [], kwarg := none, defaults := [] }, body := FuncBody.stmts [Stmt.Return (some ((Expr.Name (Str.ofString "self") { line := 164, col := 15, endLine := 164, endCol := 19 }).Attribute (Str.ofString "needed") { line := 164, col := 15, endLine := 164, endCol := 26 })) { line := 164, col := 8, endLine := 164, endCol := 26 }], scope := { kind := ScopeKind.function, names := [(Str.ofString "self", NameKind.local)], isGenerator := false, isCoroutine := false }, globals := 3, closure := [], defaults := Value.none, kwdefaults := Value.none, pyModule := Value.str (Str.ofString "pileports.words") 532, code := Value.ref 293 } }) ?_
  refine @List.cons (Nat × PySem.Obj) (nat_lit 295, { cls := Value.type "property", data := Data.fields #[Value.ref 294, Value.none, Value.none, Value.none, Value.str (Str.ofString "reach") 587, Value.bool false] }) ?_
  refine @List.cons (Nat × PySem.Obj) (nat_lit 296, { cls := Value.type "tuple", data := Data.seq #[] }) ?_
  refine @List.cons (Nat × PySem.Obj) (nat_lit 298, { cls := Value.type "tuple", data := Data.seq #[Value.str (Str.ofString "self") 591] }) ?_
  refine @List.cons (Nat × PySem.Obj) (nat_lit 299, { cls := Value.type "tuple", data := Data.seq #[] }) ?_
  refine @List.cons (Nat × PySem.Obj) (nat_lit 301, { cls := Value.type "code", data := Data.fields #[Value.str (Str.ofString "moves") 588, Value.str (Str.ofString "Word.moves") 589, Value.str (Str.ofString "/claim/cut.py") 590, Value.int 166 0, Value.int 1 0, Value.int 0 0, Value.int 0 0, Value.int 3 0, Value.ref 296, Value.bool true, Value.int 181 0, Value.ref 297, Value.none, Value.ref 298, Value.ref 299, Value.ref 300, Value.int 592 0, Value.int 166 0, Value.str (Str.ofString "/claim/cut.py") 593] }) ?_
  refine @List.cons (Nat × PySem.Obj) (nat_lit 302, { cls := Value.type "function", data := Data.func { name := Str.ofString "moves", qualname := Str.ofString "Word.moves", params := { posonlyargs := [], args := [{ arg := Str.ofString "self", annotation := none, pos := { line := 166, col := 14, endLine := 166, endCol := 18 } }], vararg := none, kwonlyargs := [], kw_defaults := [], kwarg := none, defaults := [] }, body := FuncBody.stmts [Stmt.Return (some ((Expr.Name (Str.ofString "list") { line := 167, col := 15, endLine := 167, endCol := 19 }).Call [(Expr.Name (Str.ofString "self") { line := 167, col := 20, endLine := 167, endCol := 24 }).Attribute (Str.ofString "steps") { line := 167, col := 20, endLine := 167, endCol := 30 }] [] { line := 167, col := 15, endLine := 167, endCol := 31 })) { line := 167, col := 8, endLine := 167, endCol := 31 }], scope := { kind := ScopeKind.function, names := [(Str.ofString "self", NameKind.local), (Str.ofString "list", NameKind.globalImplicit)], isGenerator := false, isCoroutine := false }, globals := 3, closure := [], defaults := Value.none, kwdefaults := Value.none, pyModule := Value.str (Str.ofString "pileports.words") 532, code := Value.ref 301 } }) ?_
  refine @List.cons (Nat × PySem.Obj) (nat_lit 303, { cls := Value.type "tuple", data := Data.seq #[] }) ?_
  refine @List.cons (Nat × PySem.Obj) (nat_lit 305, { cls := Value.type "tuple", data := Data.seq #[Value.str (Str.ofString "self") 598] }) ?_
  refine @List.cons (Nat × PySem.Obj) (nat_lit 306, { cls := Value.type "tuple", data := Data.seq #[] }) ?_
  refine @List.cons (Nat × PySem.Obj) (nat_lit 308, { cls := Value.type "code", data := Data.fields #[Value.str (Str.ofString "undone") 595, Value.str (Str.ofString "Word.undone") 596, Value.str (Str.ofString "/claim/cut.py") 597, Value.int 169 0, Value.int 1 0, Value.int 0 0, Value.int 0 0, Value.int 3 0, Value.ref 303, Value.bool true, Value.int 181 0, Value.ref 304, Value.none, Value.ref 305, Value.ref 306, Value.ref 307, Value.int 599 0, Value.int 169 0, Value.str (Str.ofString "/claim/cut.py") 600] }) ?_
  refine @List.cons (Nat × PySem.Obj) (nat_lit 309, { cls := Value.type "function", data := Data.func { name := Str.ofString "undone", qualname := Str.ofString "Word.undone", params := { posonlyargs := [], args := [{ arg := Str.ofString "self", annotation := none, pos := { line := 169, col := 15, endLine := 169, endCol := 19 } }], vararg := none, kwonlyargs := [], kw_defaults := [], kwarg := none, defaults := [] }, body := FuncBody.stmts [Stmt.Expr ((Expr.Name (Str.ofString "_wall") { line := 170, col := 8, endLine := 170, endCol := 13 }).Call [Expr.Constant (Const.int 0) 0 { line := 170, col := 14, endLine := 170, endCol := 15 }] [] { line := 170, col := 8, endLine := 170, endCol := 16 }) { line := 170, col := 8, endLine := 170, endCol := 16 }], scope := { kind := ScopeKind.function, names := [(Str.ofString "self", NameKind.local), (Str.ofString "_wall", NameKind.globalImplicit)], isGenerator := false, isCoroutine := false }, globals := 3, closure := [], defaults := Value.none, kwdefaults := Value.none, pyModule := Value.str (Str.ofString "pileports.words") 532, code := Value.ref 308 } }) ?_
  refine @List.cons (Nat × PySem.Obj) (nat_lit 310, { cls := Value.type "tuple", data := Data.seq #[] }) ?_
  refine @List.cons (Nat × PySem.Obj) (nat_lit 312, { cls := Value.type "tuple", data := Data.seq #[Value.str (Str.ofString "self") 605, Value.str (Str.ofString "size") 606, Value.str (Str.ofString "place") 607] }) ?_
  refine @List.cons (Nat × PySem.Obj) (nat_lit 313, { cls := Value.type "tuple", data := Data.seq #[] }) ?_
  refine @List.cons (Nat × PySem.Obj) (nat_lit 315, { cls := Value.type "code", data := Data.fields #[Value.str (Str.ofString "image") 602, Value.str (Str.ofString "Word.image") 603, Value.str (Str.ofString "/claim/cut.py") 604, Value.int 172 0, Value.int 3 0, Value.int 0 0, Value.int 0 0, Value.int 3 0, Value.ref 310, Value.bool true, Value.int 181 0, Value.ref 311, Value.none, Value.ref 312, Value.ref 313, Value.ref 314, Value.int 608 0, Value.int 172 0, Value.str (Str.ofString "/claim/cut.py") 609] }) ?_
  refine @List.cons (Nat × PySem.Obj) (nat_lit 316, { cls := Value.type "function", data := Data.func { name := Str.ofString "image", qualname := Str.ofString "Word.image", params := { posonlyargs := [], args := [{ arg := Str.ofString "self", annotation := none, pos := { line := 172, col := 14, endLine := 172, endCol := 18 } }, { arg := Str.ofString "size", annotation := none, pos := { line := 172, col := 20, endLine := 172, endCol := 24 } }, { arg := Str.ofString "place", annotation := none, pos := { line := 172, col := 26, endLine := 172, endCol := 31 } }], vararg := none, kwonlyargs := [], kw_defaults := [], kwarg := none, defaults := [] }, body := FuncBody.stmts [Stmt.Expr ((Expr.Name (Str.ofString "_wall") { line := 173, col := 8, endLine := 173, endCol := 13 }).Call [Expr.Constant (Const.int 1) 0 { line := 173, col := 14, endLine := 173, endCol := 15 }] [] { line := 173, col := 8, endLine := 173, endCol := 16 }) { line := 173, col := 8, endLine := 173, endCol := 16 }], scope := { kind := ScopeKind.function, names := [(Str.ofString "self", NameKind.local), (Str.ofString "size", NameKind.local), (Str.ofString "place", NameKind.local), (Str.ofString "_wall", NameKind.globalImplicit)], isGenerator := false, isCoroutine := false }, globals := 3, closure := [], defaults := Value.none, kwdefaults := Value.none, pyModule := Value.str (Str.ofString "pileports.words") 532, code := Value.ref 315 } }) ?_
  refine @List.cons (Nat × PySem.Obj) (nat_lit 317, { cls := Value.type "tuple", data := Data.seq #[] }) ?_
  refine @List.cons (Nat × PySem.Obj) (nat_lit 319, { cls := Value.type "tuple", data := Data.seq #[Value.str (Str.ofString "self") 614, Value.str (Str.ofString "size") 615] }) ?_
  refine @List.cons (Nat × PySem.Obj) (nat_lit 320, { cls := Value.type "tuple", data := Data.seq #[] }) ?_
  refine @List.cons (Nat × PySem.Obj) (nat_lit 322, { cls := Value.type "code", data := Data.fields #[Value.str (Str.ofString "play") 611, Value.str (Str.ofString "Word.play") 612, Value.str (Str.ofString "/claim/cut.py") 613, Value.int 175 0, Value.int 2 0, Value.int 0 0, Value.int 0 0, Value.int 3 0, Value.ref 317, Value.bool true, Value.int 181 0, Value.ref 318, Value.none, Value.ref 319, Value.ref 320, Value.ref 321, Value.int 616 0, Value.int 175 0, Value.str (Str.ofString "/claim/cut.py") 617] }) ?_
  refine @List.cons (Nat × PySem.Obj) (nat_lit 323, { cls := Value.type "function", data := Data.func { name := Str.ofString "play", qualname := Str.ofString "Word.play", params := { posonlyargs := [], args := [{ arg := Str.ofString "self", annotation := none, pos := { line := 175, col := 13, endLine := 175, endCol := 17 } }, { arg := Str.ofString "size", annotation := none, pos := { line := 175, col := 19, endLine := 175, endCol := 23 } }], vararg := none, kwonlyargs := [], kw_defaults := [], kwarg := none, defaults := [] }, body := FuncBody.stmts [Stmt.Expr ((Expr.Name (Str.ofString "_wall") { line := 176, col := 8, endLine := 176, endCol := 13 }).Call [Expr.Constant (Const.int 2) 0 { line := 176, col := 14, endLine := 176, endCol := 15 }] [] { line := 176, col := 8, endLine := 176, endCol := 16 }) { line := 176, col := 8, endLine := 176, endCol := 16 }], scope := { kind := ScopeKind.function, names := [(Str.ofString "self", NameKind.local), (Str.ofString "size", NameKind.local), (Str.ofString "_wall", NameKind.globalImplicit)], isGenerator := false, isCoroutine := false }, globals := 3, closure := [], defaults := Value.none, kwdefaults := Value.none, pyModule := Value.str (Str.ofString "pileports.words") 532, code := Value.ref 322 } }) ?_
  refine @List.cons (Nat × PySem.Obj) (nat_lit 324, { cls := Value.type "tuple", data := Data.seq #[] }) ?_
  refine @List.cons (Nat × PySem.Obj) (nat_lit 326, { cls := Value.type "tuple", data := Data.seq #[Value.str (Str.ofString "self") 622, Value.str (Str.ofString "other") 623, Value.str (Str.ofString "moves") 624] }) ?_
  refine @List.cons (Nat × PySem.Obj) (nat_lit 327, { cls := Value.type "tuple", data := Data.seq #[] }) ?_
  refine @List.cons (Nat × PySem.Obj) (nat_lit 329, { cls := Value.type "code", data := Data.fields #[Value.str (Str.ofString "__add__") 619, Value.str (Str.ofString "Word.__add__") 620, Value.str (Str.ofString "/claim/cut.py") 621, Value.int 178 0, Value.int 2 0, Value.int 0 0, Value.int 0 0, Value.int 3 0, Value.ref 324, Value.bool true, Value.int 181 0, Value.ref 325, Value.none, Value.ref 326, Value.ref 327, Value.ref 328, Value.int 625 0, Value.int 178 0, Value.str (Str.ofString "/claim/cut.py") 626] }) ?_
  refine @List.cons (Nat × PySem.Obj) (nat_lit 330, { cls := Value.type "function", data := Data.func { name := Str.ofString "__add__", qualname := Str.ofString "Word.__add__", params := defArgs s_Word___add__, body := FuncBody.stmts (defBody s_Word___add__), scope := defScope s_Word___add__, globals := 3, closure := [], defaults := Value.none, kwdefaults := Value.none, pyModule := Value.str (Str.ofString "pileports.words") 532, code := Value.ref 329 } }) ?_
  refine @List.cons (Nat × PySem.Obj) (nat_lit 331, { cls := Value.type "tuple", data := Data.seq #[] }) ?_
  refine @List.cons (Nat × PySem.Obj) (nat_lit 333, { cls := Value.type "tuple", data := Data.seq #[Value.str (Str.ofString "self") 631] }) ?_
  refine @List.cons (Nat × PySem.Obj) (nat_lit 334, { cls := Value.type "tuple", data := Data.seq #[] }) ?_
  refine @List.cons (Nat × PySem.Obj) (nat_lit 336, { cls := Value.type "code", data := Data.fields #[Value.str (Str.ofString "__len__") 628, Value.str (Str.ofString "Word.__len__") 629, Value.str (Str.ofString "/claim/cut.py") 630, Value.int 182 0, Value.int 1 0, Value.int 0 0, Value.int 0 0, Value.int 3 0, Value.ref 331, Value.bool true, Value.int 181 0, Value.ref 332, Value.none, Value.ref 333, Value.ref 334, Value.ref 335, Value.int 632 0, Value.int 182 0, Value.str (Str.ofString "/claim/cut.py") 633] }) ?_
  refine @List.cons (Nat × PySem.Obj) (nat_lit 337, { cls := Value.type "function", data := Data.func { name := Str.ofString "__len__", qualname := Str.ofString "Word.__len__", params := { posonlyargs := [], args := [{ arg := Str.ofString "self", annotation := none, pos := { line := 182, col := 16, endLine := 182, endCol := 20 } }], vararg := none, kwonlyargs := [], kw_defaults := [], kwarg := none, defaults := [] }, body := FuncBody.stmts [Stmt.Return (some ((Expr.Name (Str.ofString "len") { line := 183, col := 15, endLine := 183, endCol := 18 }).Call [(Expr.Name (Str.ofString "self") { line := 183, col := 19, endLine := 183, endCol := 23 }).Attribute (Str.ofString "steps") { line := 183, col := 19, endLine := 183, endCol := 29 }] [] { line := 183, col := 15, endLine := 183, endCol := 30 })) { line := 183, col := 8, endLine := 183, endCol := 30 }], scope := { kind := ScopeKind.function, names := [(Str.ofString "self", NameKind.local), (Str.ofString "len", NameKind.globalImplicit)], isGenerator := false, isCoroutine := false }, globals := 3, closure := [], defaults := Value.none, kwdefaults := Value.none, pyModule := Value.str (Str.ofString "pileports.words") 532, code := Value.ref 336 } }) ?_
  refine @List.cons (Nat × PySem.Obj) (nat_lit 338, { cls := Value.type "tuple", data := Data.seq #[] }) ?_
  refine @List.cons (Nat × PySem.Obj) (nat_lit 340, { cls := Value.type "tuple", data := Data.seq #[Value.str (Str.ofString "self") 638, Value.str (Str.ofString "other") 639] }) ?_
  refine @List.cons (Nat × PySem.Obj) (nat_lit 341, { cls := Value.type "tuple", data := Data.seq #[] }) ?_
  refine @List.cons (Nat × PySem.Obj) (nat_lit 343, { cls := Value.type "code", data := Data.fields #[Value.str (Str.ofString "__eq__") 635, Value.str (Str.ofString "Word.__eq__") 636, Value.str (Str.ofString "/claim/cut.py") 637, Value.int 185 0, Value.int 2 0, Value.int 0 0, Value.int 0 0, Value.int 3 0, Value.ref 338, Value.bool true, Value.int 181 0, Value.ref 339, Value.none, Value.ref 340, Value.ref 341, Value.ref 342, Value.int 640 0, Value.int 185 0, Value.str (Str.ofString "/claim/cut.py") 641] }) ?_
  refine @List.cons (Nat × PySem.Obj) (nat_lit 344, { cls := Value.type "function", data := Data.func { name := Str.ofString "__eq__", qualname := Str.ofString "Word.__eq__", params := { posonlyargs := [], args := [{ arg := Str.ofString "self", annotation := none, pos := { line := 185, col := 15, endLine := 185, endCol := 19 } }, { arg := Str.ofString "other", annotation := none, pos := { line := 185, col := 21, endLine := 185, endCol := 26 } }], vararg := none, kwonlyargs := [], kw_defaults := [], kwarg := none, defaults := [] }, body := FuncBody.stmts [Stmt.Return (some (Expr.BoolOp BoolOp.And [(Expr.Name (Str.ofString "isinstance") { line := 186, col := 15, endLine := 186, endCol := 25 }).Call [Expr.Name (Str.ofString "other") { line := 186, col := 26, endLine := 186, endCol := 31 }, Expr.Name (Str.ofString "Word") { line := 186, col := 33, endLine := 186, endCol := 37 }] [] { line := 186, col := 15, endLine := 186, endCol := 38 }, ((Expr.Name (Str.ofString "self") { line := 186, col := 43, endLine := 186, endCol := 47 }).Attribute (Str.ofString "steps") { line := 186, col := 43, endLine := 186, endCol := 53 }).Compare [CmpOp.Eq] [(Expr.Name (Str.ofString "other") { line := 186, col := 57, endLine := 186, endCol := 62 }).Attribute (Str.ofString "steps") { line := 186, col := 57, endLine := 186, endCol := 68 }] { line := 186, col := 43, endLine := 186, endCol := 68 }] { line := 186, col := 15, endLine := 186, endCol := 68 })) { line := 186, col := 8, endLine := 186, endCol := 68 }], scope := { kind := ScopeKind.function, names := [(Str.ofString "self", NameKind.local), (Str.ofString "other", NameKind.local), (Str.ofString "isinstance", NameKind.globalImplicit), (Str.ofString "Word", NameKind.globalImplicit)], isGenerator := false, isCoroutine := false }, globals := 3, closure := [], defaults := Value.none, kwdefaults := Value.none, pyModule := Value.str (Str.ofString "pileports.words") 532, code := Value.ref 343 } }) ?_
  refine @List.cons (Nat × PySem.Obj) (nat_lit 345, { cls := Value.type "tuple", data := Data.seq #[] }) ?_
  refine @List.cons (Nat × PySem.Obj) (nat_lit 348, { cls := Value.type "code", data := Data.fields #[Value.str (Str.ofString "__str__") 643, Value.str (Str.ofString "Word.__str__") 644, Value.str (Str.ofString "/claim/cut.py") 645, Value.int 188 0, Value.int 1 0, Value.int 0 0, Value.int 0 0, Value.int 3 0, Value.ref 345, Value.bool true, Value.int 181 0, Value.ref 346, Value.none, Value.none, Value.none, Value.ref 347, Value.int 646 0, Value.int 188 0, Value.str (Str.ofString "/claim/cut.py") 647] }) ?_
  refine @List.cons (Nat × PySem.Obj) (nat_lit 349, { cls := Value.type "function", data := Data.func { name := Str.ofString "__str__", qualname := Str.ofString "Word.__str__", params := defArgs s_Word___str__, body := FuncBody.stmts (defBody s_Word___str__), scope := defScope s_Word___str__, globals := 3, closure := [], defaults := Value.none, kwdefaults := Value.none, pyModule := Value.str (Str.ofString "pileports.words") 532, code := Value.ref 348 } }) ?_
  refine @List.cons (Nat × PySem.Obj) (nat_lit 350, { cls := Value.type "tuple", data := Data.seq #[] }) ?_
  refine @List.cons (Nat × PySem.Obj) (nat_lit 352, { cls := Value.type "tuple", data := Data.seq #[Value.str (Str.ofString "self") 652] }) ?_
  refine @List.cons (Nat × PySem.Obj) (nat_lit 353, { cls := Value.type "tuple", data := Data.seq #[] }) ?_
  refine @List.cons (Nat × PySem.Obj) (nat_lit 355, { cls := Value.type "code", data := Data.fields #[Value.str (Str.ofString "__repr__") 649, Value.str (Str.ofString "Word.__repr__") 650, Value.str (Str.ofString "/claim/cut.py") 651, Value.int 191 0, Value.int 1 0, Value.int 0 0, Value.int 0 0, Value.int 3 0, Value.ref 350, Value.bool true, Value.int 181 0, Value.ref 351, Value.none, Value.ref 352, Value.ref 353, Value.ref 354, Value.int 653 0, Value.int 191 0, Value.str (Str.ofString "/claim/cut.py") 654] }) ?_
  refine @List.cons (Nat × PySem.Obj) (nat_lit 356, { cls := Value.type "function", data := Data.func { name := Str.ofString "__repr__", qualname := Str.ofString "Word.__repr__", params := { posonlyargs := [], args := [{ arg := Str.ofString "self", annotation := none, pos := { line := 191, col := 17, endLine := 191, endCol := 21 } }], vararg := none, kwonlyargs := [], kw_defaults := [], kwarg := none, defaults := [] }, body := FuncBody.stmts [Stmt.Return (some (Expr.JoinedStr [Expr.Constant (Const.str (Str.ofString "Word(")) 0 { line := 192, col := 17, endLine := 192, endCol := 22 }, ((Expr.Name (Str.ofString "len") { line := 192, col := 23, endLine := 192, endCol := 26 }).Call [(Expr.Name (Str.ofString "self") { line := 192, col := 27, endLine := 192, endCol := 31 }).Attribute (Str.ofString "steps") { line := 192, col := 27, endLine := 192, endCol := 37 }] [] { line := 192, col := 23, endLine := 192, endCol := 38 }).FormattedValue (-1) none { line := 192, col := 22, endLine := 192, endCol := 39 }, Expr.Constant (Const.str (Str.ofString " moves)")) 0 { line := 192, col := 39, endLine := 192, endCol := 46 }] { line := 192, col := 15, endLine := 192, endCol := 47 })) { line := 192, col := 8, endLine := 192, endCol := 47 }], scope := { kind := ScopeKind.function, names := [(Str.ofString "self", NameKind.local), (Str.ofString "len", NameKind.globalImplicit)], isGenerator := false, isCoroutine := false }, globals := 3, closure := [], defaults := Value.none, kwdefaults := Value.none, pyModule := Value.str (Str.ofString "pileports.words") 532, code := Value.ref 355 } }) ?_
  refine @List.cons (Nat × PySem.Obj) (nat_lit 357, { cls := Value.type "tuple", data := Data.seq #[Value.str (Str.ofString "needed") 656, Value.str (Str.ofString "steps") 657] }) ?_
  refine @List.cons (Nat × PySem.Obj) (nat_lit 358, { cls := Value.type "dict", data := Data.dict #[{ hash := PyData.keyHash P (Str.ofString "__module__"), key := Value.str (Str.ofString "__module__") 541, val := Value.str (Str.ofString "pileports.words") 532 }, { hash := PyData.keyHash P (Str.ofString "__firstlineno__"), key := Value.str (Str.ofString "__firstlineno__") 545, val := Value.int 135 544 }, { hash := PyData.keyHash P (Str.ofString "MOST_MOVES"), key := Value.str (Str.ofString "MOST_MOVES") 547, val := Value.int 40 546 }, { hash := PyData.keyHash P (Str.ofString "MOST_REACH"), key := Value.str (Str.ofString "MOST_REACH") 549, val := Value.int 60 548 }, { hash := PyData.keyHash P (Str.ofString "__init__"), key := Value.str (Str.ofString "__init__") 555, val := Value.ref 277 }, { hash := PyData.keyHash P (Str.ofString "read"), key := Value.str (Str.ofString "read") 579, val := Value.ref 286 }, { hash := PyData.keyHash P (Str.ofString "reach"), key := Value.str (Str.ofString "reach") 587, val := Value.ref 295 }, { hash := PyData.keyHash P (Str.ofString "moves"), key := Value.str (Str.ofString "moves") 594, val := Value.ref 302 }, { hash := PyData.keyHash P (Str.ofString "undone"), key := Value.str (Str.ofString "undone") 601, val := Value.ref 309 }, { hash := PyData.keyHash P (Str.ofString "image"), key := Value.str (Str.ofString "image") 610, val := Value.ref 316 }, { hash := PyData.keyHash P (Str.ofString "play"), key := Value.str (Str.ofString "play") 618, val := Value.ref 323 }, { hash := PyData.keyHash P (Str.ofString "__add__"), key := Value.str (Str.ofString "__add__") 627, val := Value.ref 330 }, { hash := PyData.keyHash P (Str.ofString "__len__"), key := Value.str (Str.ofString "__len__") 634, val := Value.ref 337 }, { hash := PyData.keyHash P (Str.ofString "__eq__"), key := Value.str (Str.ofString "__eq__") 642, val := Value.ref 344 }, { hash := PyData.keyHash P (Str.ofString "__str__"), key := Value.str (Str.ofString "__str__") 648, val := Value.ref 349 }, { hash := PyData.keyHash P (Str.ofString "__repr__"), key := Value.str (Str.ofString "__repr__") 655, val := Value.ref 356 }, { hash := PyData.keyHash P (Str.ofString "__static_attributes__"), key := Value.str (Str.ofString "__static_attributes__") 658, val := Value.ref 357 }, { hash := PyData.keyHash P (Str.ofString "__dict__"), key := Value.str (Str.ofString "__dict__") 660, val := Value.ref 360 }, { hash := PyData.keyHash P (Str.ofString "__weakref__"), key := Value.str (Str.ofString "__weakref__") 662, val := Value.ref 361 }, { hash := PyData.keyHash P (Str.ofString "__doc__"), key := Value.str (Str.ofString "__doc__") 663, val := Value.none }, { hash := PyData.keyHash P (Str.ofString "__hash__"), key := Value.str (Str.ofString "__hash__") 664, val := Value.none }] 5 }) ?_
  refine @List.cons (Nat × PySem.Obj) (nat_lit 359, { cls := Value.type "type", data := Data.cls { name := Str.ofString "Word", bases := [Value.type "object"], mro := [Value.ref 359, Value.type "object"], ns := 358, qualname := Str.ofString "Word" }, slots := #[none, none, some (Value.str (Str.ofString "Word") 534), some (Value.str (Str.ofString "Word") 542), some (Value.builtin "object.__new__"), some (Value.bool true)] }) ?_
  refine @List.cons (Nat × PySem.Obj) (nat_lit 360, { cls := Value.type "getset_descriptor", data := Data.fields #[Value.str (Str.ofString "__dict__") 659, Value.ref 359, Value.builtin "function.__dict__", Value.builtin "function.__dict__#set"] }) ?_
  refine @List.cons (Nat × PySem.Obj) (nat_lit 361, { cls := Value.type "getset_descriptor", data := Data.fields #[Value.str (Str.ofString "__weakref__") 661, Value.ref 359, Value.builtin "ExceptionGroup.__weakref__", Value.none] }) ?_
  refine @List.cons (Nat × PySem.Obj) (nat_lit 364, { cls := Value.type "tuple", data := Data.seq #[] }) ?_
  refine @List.cons (Nat × PySem.Obj) (nat_lit 366, { cls := Value.type "tuple", data := Data.seq #[Value.str (Str.ofString "_law_script") 672, Value.str (Str.ofString "_law_salt") 673, Value.str (Str.ofString "_law_cell") 674] }) ?_
  refine @List.cons (Nat × PySem.Obj) (nat_lit 367, { cls := Value.type "tuple", data := Data.seq #[] }) ?_
  refine @List.cons (Nat × PySem.Obj) (nat_lit 369, { cls := Value.type "code", data := Data.fields #[Value.str (Str.ofString "_law_bag") 669, Value.str (Str.ofString "_law_bag") 670, Value.str (Str.ofString "/claim/cut.py") 671, Value.int 194 0, Value.int 1 0, Value.int 0 0, Value.int 0 0, Value.int 3 0, Value.ref 364, Value.bool true, Value.int 181 0, Value.ref 365, Value.none, Value.ref 366, Value.ref 367, Value.ref 368, Value.int 675 0, Value.int 194 0, Value.str (Str.ofString "/claim/cut.py") 676] }) ?_
  refine @List.cons (Nat × PySem.Obj) (nat_lit 370, { cls := Value.type "function", data := Data.func { name := Str.ofString "_law_bag", qualname := Str.ofString "_law_bag", params := defArgs s__law_bag, body := FuncBody.stmts (defBody s__law_bag), scope := defScope s__law_bag, globals := 3, closure := [], defaults := Value.none, kwdefaults := Value.none, pyModule := Value.str (Str.ofString "law_pileports_k09_words_that_are_too_long") 667, code := Value.ref 369 } }) ?_
  refine @List.cons (Nat × PySem.Obj) (nat_lit 371, { cls := Value.type "tuple", data := Data.seq #[] }) ?_
  refine @List.cons (Nat × PySem.Obj) (nat_lit 373, { cls := Value.type "tuple", data := Data.seq #[Value.str (Str.ofString "_law_bag_here") 681, Value.str (Str.ofString "_law_amount") 682, Value.str (Str.ofString "_law_cell") 683, Value.str (Str.ofString "_law_got") 684, Value.str (Str.ofString "_law_seed") 685] }) ?_
  refine @List.cons (Nat × PySem.Obj) (nat_lit 374, { cls := Value.type "tuple", data := Data.seq #[] }) ?_
  refine @List.cons (Nat × PySem.Obj) (nat_lit 376, { cls := Value.type "code", data := Data.fields #[Value.str (Str.ofString "_law_pull") 678, Value.str (Str.ofString "_law_pull") 679, Value.str (Str.ofString "/claim/cut.py") 680, Value.int 199 0, Value.int 2 0, Value.int 0 0, Value.int 0 0, Value.int 3 0, Value.ref 371, Value.bool true, Value.int 181 0, Value.ref 372, Value.none, Value.ref 373, Value.ref 374, Value.ref 375, Value.int 686 0, Value.int 199 0, Value.str (Str.ofString "/claim/cut.py") 687] }) ?_
  refine @List.cons (Nat × PySem.Obj) (nat_lit 377, { cls := Value.type "function", data := Data.func { name := Str.ofString "_law_pull", qualname := Str.ofString "_law_pull", params := defArgs s__law_pull, body := FuncBody.stmts (defBody s__law_pull), scope := defScope s__law_pull, globals := 3, closure := [], defaults := Value.none, kwdefaults := Value.none, pyModule := Value.str (Str.ofString "law_pileports_k09_words_that_are_too_long") 667, code := Value.ref 376 } }) ?_
  refine @List.cons (Nat × PySem.Obj) (nat_lit 378, { cls := Value.type "tuple", data := Data.seq #[] }) ?_
  refine @List.cons (Nat × PySem.Obj) (nat_lit 380, { cls := Value.type "tuple", data := Data.seq #[Value.str (Str.ofString "_law_bag_here") 692, Value.str (Str.ofString "_law_things") 693] }) ?_
  refine @List.cons (Nat × PySem.Obj) (nat_lit 381, { cls := Value.type "tuple", data := Data.seq #[] }) ?_
  refine @List.cons (Nat × PySem.Obj) (nat_lit 383, { cls := Value.type "code", data := Data.fields #[Value.str (Str.ofString "_law_of") 689, Value.str (Str.ofString "_law_of") 690, Value.str (Str.ofString "/claim/cut.py") 691, Value.int 214 0, Value.int 2 0, Value.int 0 0, Value.int 0 0, Value.int 3 0, Value.ref 378, Value.bool true, Value.int 181 0, Value.ref 379, Value.none, Value.ref 380, Value.ref 381, Value.ref 382, Value.int 694 0, Value.int 214 0, Value.str (Str.ofString "/claim/cut.py") 695] }) ?_
  refine @List.cons (Nat × PySem.Obj) (nat_lit 384, { cls := Value.type "function", data := Data.func { name := Str.ofString "_law_of", qualname := Str.ofString "_law_of", params := defArgs s__law_of, body := FuncBody.stmts (defBody s__law_of), scope := defScope s__law_of, globals := 3, closure := [], defaults := Value.none, kwdefaults := Value.none, pyModule := Value.str (Str.ofString "law_pileports_k09_words_that_are_too_long") 667, code := Value.ref 383 } }) ?_
  refine @List.cons (Nat × PySem.Obj) (nat_lit 385, { cls := Value.type "tuple", data := Data.seq #[] }) ?_
  refine @List.cons (Nat × PySem.Obj) (nat_lit 388, { cls := Value.type "code", data := Data.fields #[Value.str (Str.ofString "_law_same") 697, Value.str (Str.ofString "_law_same") 698, Value.str (Str.ofString "/claim/cut.py") 699, Value.int 216 0, Value.int 2 0, Value.int 0 0, Value.int 0 0, Value.int 3 0, Value.ref 385, Value.bool true, Value.int 181 0, Value.ref 386, Value.none, Value.none, Value.none, Value.ref 387, Value.int 700 0, Value.int 216 0, Value.str (Str.ofString "/claim/cut.py") 701] }) ?_
  refine @List.cons (Nat × PySem.Obj) (nat_lit 389, { cls := Value.type "function", data := Data.func { name := Str.ofString "_law_same", qualname := Str.ofString "_law_same", params := defArgs s__law_same, body := FuncBody.stmts (defBody s__law_same), scope := defScope s__law_same, globals := 3, closure := [], defaults := Value.none, kwdefaults := Value.none, pyModule := Value.str (Str.ofString "law_pileports_k09_words_that_are_too_long") 667, code := Value.ref 388 } }) ?_
  refine @List.cons (Nat × PySem.Obj) (nat_lit 390, { cls := Value.type "tuple", data := Data.seq #[] }) ?_
  refine @List.cons (Nat × PySem.Obj) (nat_lit 392, { cls := Value.type "tuple", data := Data.seq #[Value.str (Str.ofString "_law_e") 706] }) ?_
  refine @List.cons (Nat × PySem.Obj) (nat_lit 393, { cls := Value.type "tuple", data := Data.seq #[] }) ?_
  refine @List.cons (Nat × PySem.Obj) (nat_lit 395, { cls := Value.type "code", data := Data.fields #[Value.str (Str.ofString "_law_field") 703, Value.str (Str.ofString "_law_field") 704, Value.str (Str.ofString "/claim/cut.py") 705, Value.int 228 0, Value.int 1 0, Value.int 0 0, Value.int 0 0, Value.int 3 0, Value.ref 390, Value.bool true, Value.int 181 0, Value.ref 391, Value.none, Value.ref 392, Value.ref 393, Value.ref 394, Value.int 707 0, Value.int 228 0, Value.str (Str.ofString "/claim/cut.py") 708] }) ?_
  refine @List.cons (Nat × PySem.Obj) (nat_lit 396, { cls := Value.type "function", data := Data.func { name := Str.ofString "_law_field", qualname := Str.ofString "_law_field", params := defArgs s__law_field, body := FuncBody.stmts (defBody s__law_field), scope := defScope s__law_field, globals := 3, closure := [], defaults := Value.none, kwdefaults := Value.none, pyModule := Value.str (Str.ofString "law_pileports_k09_words_that_are_too_long") 667, code := Value.ref 395 } }) ?_
  refine @List.cons (Nat × PySem.Obj) (nat_lit 397, { cls := Value.type "tuple", data := Data.seq #[] }) ?_
  refine @List.cons (Nat × PySem.Obj) (nat_lit 399, { cls := Value.type "tuple", data := Data.seq #[Value.str (Str.ofString "_law_ask") 713, Value.str (Str.ofString "_law_e") 714] }) ?_
  refine @List.cons (Nat × PySem.Obj) (nat_lit 400, { cls := Value.type "tuple", data := Data.seq #[] }) ?_
  refine @List.cons (Nat × PySem.Obj) (nat_lit 402, { cls := Value.type "code", data := Data.fields #[Value.str (Str.ofString "_law_try") 710, Value.str (Str.ofString "_law_try") 711, Value.str (Str.ofString "/claim/cut.py") 712, Value.int 246 0, Value.int 1 0, Value.int 0 0, Value.int 0 0, Value.int 3 0, Value.ref 397, Value.bool true, Value.int 181 0, Value.ref 398, Value.none, Value.ref 399, Value.ref 400, Value.ref 401, Value.int 715 0, Value.int 246 0, Value.str (Str.ofString "/claim/cut.py") 716] }) ?_
  refine @List.cons (Nat × PySem.Obj) (nat_lit 403, { cls := Value.type "function", data := Data.func { name := Str.ofString "_law_try", qualname := Str.ofString "_law_try", params := defArgs s__law_try, body := FuncBody.stmts (defBody s__law_try), scope := defScope s__law_try, globals := 3, closure := [], defaults := Value.none, kwdefaults := Value.none, pyModule := Value.str (Str.ofString "law_pileports_k09_words_that_are_too_long") 667, code := Value.ref 402 } }) ?_
  refine @List.cons (Nat × PySem.Obj) (nat_lit 404, { cls := Value.type "tuple", data := Data.seq #[] }) ?_
  refine @List.cons (Nat × PySem.Obj) (nat_lit 406, { cls := Value.type "tuple", data := Data.seq #[Value.str (Str.ofString "_law_moves") 721, Value.str (Str.ofString "_law_found") 722, Value.str (Str.ofString "_law_move") 723] }) ?_
  refine @List.cons (Nat × PySem.Obj) (nat_lit 407, { cls := Value.type "tuple", data := Data.seq #[] }) ?_
  refine @List.cons (Nat × PySem.Obj) (nat_lit 409, { cls := Value.type "code", data := Data.fields #[Value.str (Str.ofString "_law_made") 718, Value.str (Str.ofString "_law_made") 719, Value.str (Str.ofString "/claim/cut.py") 720, Value.int 253 0, Value.int 1 0, Value.int 0 0, Value.int 0 0, Value.int 3 0, Value.ref 404, Value.bool true, Value.int 181 0, Value.ref 405, Value.none, Value.ref 406, Value.ref 407, Value.ref 408, Value.int 724 0, Value.int 253 0, Value.str (Str.ofString "/claim/cut.py") 725] }) ?_
  refine @List.cons (Nat × PySem.Obj) (nat_lit 410, { cls := Value.type "function", data := Data.func { name := Str.ofString "_law_made", qualname := Str.ofString "_law_made", params := defArgs s__law_made, body := FuncBody.stmts (defBody s__law_made), scope := defScope s__law_made, globals := 3, closure := [], defaults := Value.none, kwdefaults := Value.none, pyModule := Value.str (Str.ofString "law_pileports_k09_words_that_are_too_long") 667, code := Value.ref 409 } }) ?_
  refine @List.cons (Nat × PySem.Obj) (nat_lit 411, { cls := Value.type "tuple", data := Data.seq #[] }) ?_
  refine @List.cons (Nat × PySem.Obj) (nat_lit 413, { cls := Value.type "tuple", data := Data.seq #[Value.str (Str.ofString "_law_end_place") 730] }) ?_
  refine @List.cons (Nat × PySem.Obj) (nat_lit 414, { cls := Value.type "tuple", data := Data.seq #[] }) ?_
  refine @List.cons (Nat × PySem.Obj) (nat_lit 416, { cls := Value.type "code", data := Data.fields #[Value.str (Str.ofString "_law_end_text") 727, Value.str (Str.ofString "_law_end_text") 728, Value.str (Str.ofString "/claim/cut.py") 729, Value.int 258 0, Value.int 1 0, Value.int 0 0, Value.int 0 0, Value.int 3 0, Value.ref 411, Value.bool true, Value.int 181 0, Value.ref 412, Value.none, Value.ref 413, Value.ref 414, Value.ref 415, Value.int 731 0, Value.int 258 0, Value.str (Str.ofString "/claim/cut.py") 732] }) ?_
  refine @List.cons (Nat × PySem.Obj) (nat_lit 417, { cls := Value.type "function", data := Data.func { name := Str.ofString "_law_end_text", qualname := Str.ofString "_law_end_text", params := defArgs s__law_end_text, body := FuncBody.stmts (defBody s__law_end_text), scope := defScope s__law_end_text, globals := 3, closure := [], defaults := Value.none, kwdefaults := Value.none, pyModule := Value.str (Str.ofString "law_pileports_k09_words_that_are_too_long") 667, code := Value.ref 416 } }) ?_
  refine @List.cons (Nat × PySem.Obj) (nat_lit 418, { cls := Value.type "tuple", data := Data.seq #[] }) ?_
  refine @List.cons (Nat × PySem.Obj) (nat_lit 421, { cls := Value.type "code", data := Data.fields #[Value.str (Str.ofString "_law_move_text") 734, Value.str (Str.ofString "_law_move_text") 735, Value.str (Str.ofString "/claim/cut.py") 736, Value.int 260 0, Value.int 1 0, Value.int 0 0, Value.int 0 0, Value.int 3 0, Value.ref 418, Value.bool true, Value.int 181 0, Value.ref 419, Value.none, Value.none, Value.none, Value.ref 420, Value.int 737 0, Value.int 260 0, Value.str (Str.ofString "/claim/cut.py") 738] }) ?_
  refine @List.cons (Nat × PySem.Obj) (nat_lit 422, { cls := Value.type "function", data := Data.func { name := Str.ofString "_law_move_text", qualname := Str.ofString "_law_move_text", params := defArgs s__law_move_text, body := FuncBody.stmts (defBody s__law_move_text), scope := defScope s__law_move_text, globals := 3, closure := [], defaults := Value.none, kwdefaults := Value.none, pyModule := Value.str (Str.ofString "law_pileports_k09_words_that_are_too_long") 667, code := Value.ref 421 } }) ?_
  refine @List.cons (Nat × PySem.Obj) (nat_lit 423, { cls := Value.type "tuple", data := Data.seq #[] }) ?_
  refine @List.cons (Nat × PySem.Obj) (nat_lit 426, { cls := Value.type "code", data := Data.fields #[Value.str (Str.ofString "_law_text") 740, Value.str (Str.ofString "_law_text") 741, Value.str (Str.ofString "/claim/cut.py") 742, Value.int 266 0, Value.int 1 0, Value.int 0 0, Value.int 0 0, Value.int 3 0, Value.ref 423, Value.bool true, Value.int 181 0, Value.ref 424, Value.none, Value.none, Value.none, Value.ref 425, Value.int 743 0, Value.int 266 0, Value.str (Str.ofString "/claim/cut.py") 744] }) ?_
  refine @List.cons (Nat × PySem.Obj) (nat_lit 427, { cls := Value.type "function", data := Data.func { name := Str.ofString "_law_text", qualname := Str.ofString "_law_text", params := defArgs s__law_text, body := FuncBody.stmts (defBody s__law_text), scope := defScope s__law_text, globals := 3, closure := [], defaults := Value.none, kwdefaults := Value.none, pyModule := Value.str (Str.ofString "law_pileports_k09_words_that_are_too_long") 667, code := Value.ref 426 } }) ?_
  refine @List.cons (Nat × PySem.Obj) (nat_lit 428, { cls := Value.type "tuple", data := Data.seq #[] }) ?_
  refine @List.cons (Nat × PySem.Obj) (nat_lit 430, { cls := Value.type "tuple", data := Data.seq #[Value.str (Str.ofString "_law_script") 749, Value.str (Str.ofString "_law_bag_here") 750, Value.str (Str.ofString "_law_turn") 751, Value.str (Str.ofString "_law_many") 752, Value.str (Str.ofString "_law_deep") 753, Value.str (Str.ofString "_law_left") 754, Value.str (Str.ofString "_law_due") 755, Value.str (Str.ofString "_law_last") 756] }) ?_
  refine @List.cons (Nat × PySem.Obj) (nat_lit 431, { cls := Value.type "tuple", data := Data.seq #[Value.str (Str.ofString "_law_first") 757, Value.str (Str.ofString "_law_one") 758, Value.str (Str.ofString "_law_other") 759, Value.str (Str.ofString "_law_some") 760] }) ?_
  refine @List.cons (Nat × PySem.Obj) (nat_lit 433, { cls := Value.type "code", data := Data.fields #[Value.str (Str.ofString "law") 746, Value.str (Str.ofString "law") 747, Value.str (Str.ofString "/claim/cut.py") 748, Value.int 268 0, Value.int 1 0, Value.int 0 0, Value.int 0 0, Value.int 3 0, Value.ref 428, Value.bool true, Value.int 181 0, Value.ref 429, Value.none, Value.ref 430, Value.ref 431, Value.ref 432, Value.int 761 0, Value.int 268 0, Value.str (Str.ofString "/claim/cut.py") 762] }) ?_
  refine @List.cons (Nat × PySem.Obj) (nat_lit 434, { cls := Value.type "function", data := Data.func { name := Str.ofString "law", qualname := Str.ofString "law", params := defArgs s_law, body := FuncBody.stmts (defBody s_law), scope := defScope s_law, globals := 3, closure := [], defaults := Value.none, kwdefaults := Value.none, pyModule := Value.str (Str.ofString "law_pileports_k09_words_that_are_too_long") 667, code := Value.ref 433 } }) ?_
  exact []
def asK : List Addr := ([2, 3, 15, 17, 18, 20, 21, 22, 29, 30, 32, 33, 35, 36, 37, 38, 39, 40, 43, 50, 52, 53, 55, 56, 57, 58, 59, 62, 69, 71] : List Addr) ++ ([72, 74, 75, 76, 77, 78, 81, 88, 90, 91, 93, 94, 95, 96, 97, 100, 107, 109, 110, 112, 113, 114, 115, 116, 119, 126, 127, 129, 130, 132] : List Addr) ++ ([133, 134, 135, 136, 137, 140, 142, 143, 145, 146, 147, 148, 150, 151, 153, 154, 155, 156, 158, 159, 161, 162, 163, 165, 166, 168, 169, 170, 172, 173] : List Addr) ++ ([175, 176, 177, 179, 180, 182, 183, 184, 186, 187, 189, 190, 191, 193, 194, 196, 197, 198, 200, 201, 203, 204, 205, 206, 207, 208, 209, 210, 211, 212] : List Addr) ++ ([214, 215, 217, 218, 219, 221, 222, 224, 225, 226, 228, 229, 231, 232, 233, 236, 237, 238, 240, 241, 243, 244, 245, 247, 248, 250, 251, 252, 254, 255] : List Addr) ++ ([257, 258, 259, 261, 262, 264, 265, 273, 276, 277, 278, 280, 281, 283, 284, 285, 286, 287, 288, 290, 291, 293, 294, 295, 296, 298, 299, 301, 302, 303] : List Addr) ++ ([305, 306, 308, 309, 310, 312, 313, 315, 316, 317, 319, 320, 322, 323, 324, 326, 327, 329, 330, 331, 333, 334, 336, 337, 338, 340, 341, 343, 344, 345] : List Addr) ++ ([348, 349, 350, 352, 353, 355, 356, 357, 358, 359, 360, 361, 364, 366, 367, 369, 370, 371, 373, 374, 376, 377, 378, 380, 381, 383, 384, 385, 388, 389] : List Addr) ++ ([390, 392, 393, 395, 396, 397, 399, 400, 402, 403, 404, 406, 407, 409, 410, 411, 413, 414, 416, 417, 418, 421, 422, 423, 426, 427, 428, 430, 431, 433] : List Addr) ++ ([434] : List Addr)
theorem asK_ok : ∀ P, asK = (K P).map (·.1) := fun _ => by kernel_rfl
def tsK : List Addr := [429]
def names : List PySem.Str := (["_wall", "PileError", "BadPlace", "BadMove", "BadText", "TooLong", "Missing", "MOST_DIGITS", "is_number", "read_number", "MOST_DEPTH", "ENDS", "is_end", "is_end_place", "check_end_place", "end_text", "read_end", "place_text", "parse_place", "MOST_BLOCK", "SHAPES", "is_move", "fits", "check_move", "cards_needed", "move_text", "item_text", "parse_move", "read_item", "Word"] : List PySem.Str) ++ (["_law_bag", "_law_pull", "_law_of", "_law_same", "_law_field", "_law_try", "_law_made", "_law_end_text", "_law_move_text", "_law_text"] : List PySem.Str)
theorem runF (w : World) : HandSHeadRun.RunEq R qv (kmHook K asK asK_ok tsK) (fun s => (asK.map (HandSHeadRun.getT s), tsK.map (HandSHeadRun.getT s))) 7254 names (w.withFollow "special-get-raises" false) := by
  intro os
  kernel_rfl
theorem runT (w : World) : HandSHeadRun.RunEq R qv (kmHook K asK asK_ok tsK) (fun s => (asK.map (HandSHeadRun.getT s), tsK.map (HandSHeadRun.getT s))) 7254 names (w.withFollow "special-get-raises" true) := by
  intro os
  kernel_rfl
theorem run (w : World) : HandSHeadRun.RunEq R qv (kmHook K asK asK_ok tsK) (fun s => (asK.map (HandSHeadRun.getT s), tsK.map (HandSHeadRun.getT s))) 7254 names w := byRow2 "special-get-raises" runF runT w
theorem ob_eq (s : SharedT) : (asK.map (HandSHeadRun.getT s), tsK.map (HandSHeadRun.getT s)) = (kmHook K asK asK_ok tsK).obs s.abs := Prod.ext (List.map_congr_left fun a _ => HandSHeadRun.getT_eq s a) (List.map_congr_left fun a _ => HandSHeadRun.getT_eq s a)
end HT9
end
namespace Z
open PySem PySem.Spec PyProof.Rows L2
/-! ### rules whose reading names the written part by its own letter -/
section
variable {X : Cx} {K : PySem.W.Frag}
def rLenQ (K : PySem.W.Frag) : List V → Hp → VK → Prop := fun vs H Q => ∃ a us, vs = [.ref a] ∧ (SqL K H a us ∨ SqT K H a us) ∧ Q (.int us.length) H
def rListQ (K : PySem.W.Frag) : List V → Hp → VK → Prop := fun vs H Q => ∃ a us, vs = [.ref a] ∧ (SqL K H a us ∨ SqT K H a us) ∧ ∀ n, H n = none → Q (.ref n) (upd H n (.lst us))
def rTupleQ (K : PySem.W.Frag) : List V → Hp → VK → Prop := fun vs H Q => ∃ a us, vs = [.ref a] ∧ ((SqL K H a us ∧ ∀ n, H n = none → Q (.ref n) (upd H n (.tup us))) ∨ (SqT K H a us ∧ Q (.ref a) H))
theorem k_ixL (h : X.K = K := by rfl) : IxR X (rIxL K) := h ▸ ix_list
theorem k_ixT (h : X.K = K := by rfl) : IxR X (rIxT K) := h ▸ ix_tup
theorem k_slL (h : X.K = K := by rfl) : SlR X (rSlL K) := h ▸ sl_list
theorem k_len (h : X.K = K := by rfl) : CallR X (.builtin "len") (rLenQ K) := h ▸ call_len_seq
theorem k_list (h : X.K = K := by rfl) : CallR X (.type "list") (rListQ K) := h ▸ call_list_of
theorem k_tuple (h : X.K = K := by rfl) : CallR X (.type "tuple") (rTupleQ K) := h ▸ call_tuple_of
theorem k_max (hc : X.calm = true := by rfl) (h : X.K = K := by rfl) : CallR X (.builtin "max") (rMax K) := h ▸ cr_max hc
theorem k_min (hc : X.calm = true := by rfl) (h : X.K = K := by rfl) : CallR X (.builtin "min") (rMin K) := h ▸ cr_min hc
theorem k_all (hc : X.calm = true := by rfl) (h : X.K = K := by rfl) : CallR X (.builtin "all") (rAll K) := h ▸ cr_all hc
theorem k_isi (h : X.K = K := by rfl) : CallR X (.builtin "isinstance") (rIsi K) := h ▸ call_isi
theorem k_in (h : X.K = K := by rfl) : OpR X (compareOp .In) (rIn K false) := h ▸ op_in_seq
theorem k_notIn (h : X.K = K := by rfl) : OpR X (compareOp .NotIn) (rIn K true) := h ▸ op_notIn_seq
theorem k_eqD (hu : X.A.units + 64 < cLine) (h : X.K = K := by rfl) : OpR X (compareOp .Eq) (rEqD K) := h ▸ op_eqD hu
theorem k_neD (hu : X.A.units + 64 < cLine) (h : X.K = K := by rfl) : OpR X (compareOp .NotEq) (rNeD K) := h ▸ op_neD hu
theorem k_piL {tg l : Expr} {tl : TE} (hl : PE X l tl) (h : X.K = K := by rfl) : PI X tg l (iList K tl) := h ▸ pi_list hl
theorem k_piT {tg l : Expr} {tl : TE} (hl : PE X l tl) (h : X.K = K := by rfl) : PI X tg l (iTup K tl) := h ▸ pi_tup hl
theorem k_gT {es : List Expr} {k : Nat} {t : TGs} {n : Nat} {pos : Pos} (pt : PGs X es t) (hc : X.calm = true := by rfl) (hn : (assignEach es X.env).length = n := by rfl)
    (hst : (assignEach es X.env).findIdx? (·.1) = none := by rfl) (h : X.K = K := by rfl) : PG X (.Tuple es k pos) (gTup K n t) := h ▸ pg_tup hc pt hn hst
theorem k_gL {es : List Expr} {k : Nat} {t : TGs} {n : Nat} {pos : Pos} (pt : PGs X es t) (hc : X.calm = true := by rfl) (hn : (assignEach es X.env).length = n := by rfl)
    (hst : (assignEach es X.env).findIdx? (·.1) = none := by rfl) (h : X.K = K := by rfl) : PG X (.Tuple es k pos) (gUnl K n t) := h ▸ pg_unl hc pt hn hst
theorem k_zip {a b : Expr} {ta : TA} {p pos tpos : Pos} {elts : List Expr} {kk : Nat} (ha : PA X [a, b] ta) (hm : X.mg "zip" = none) (hg : Gl X "zip" := by rfl)
    (h1 : starEach [a, b] X.env = (false, eval a X.env) :: starEach [b] X.env := by rfl) (h2 : (backTo pos (starEach [b] X.env)).any (·.1) = false := by rfl) (h : X.K = K := by rfl) :
    PI X (.Tuple elts kk tpos) (.Call (.Name "zip" p) [a, b] [] pos) (RZ.iZipA K ta) := h ▸ RZ.pi_zipA hg hm ha h1 h2
theorem k_enum {e : Expr} {ta : TA} {p pos tpos : Pos} {elts : List Expr} {kk : Nat} (ha : PA X [e] ta) (hm : X.mg "enumerate" = none) (hg : Gl X "enumerate" := by rfl) (h1 : starEach [e] X.env = [(false, eval e X.env)] := by rfl) (h : X.K = K := by rfl) :
    PI X (.Tuple elts kk tpos) (.Call (.Name "enumerate" p) [e] [] pos) (iEnum K ta) := h ▸ pi_enum hg hm ha h1
end
/-! ### dicts of the module -/
section
variable {X : Cx} {K : PySem.W.Frag} {w : World}
theorem k_slT (h : X.K = K := by rfl) : SlR X (rSlT K) := h ▸ sl_tup
theorem k_ixK (h : X.K = K := by rfl) (h2 : X.w = w := by rfl) : IxR X (rIxD K w) := h ▸ h2 ▸ ix_kdict
def KD (K : PySem.W.Frag) (w : World) (a : Addr) : Prop := ∃ es n, K.lookup a = some ⟨.type "dict", none, .dict es n, #[]⟩ ∧ PySem.W.KeysLit w.params es.toList ∧ (a == sysModules) = false
def tKGet (K : PySem.W.Frag) (w : World) (a : Addr) (te : TE) : TE := fun σ H Q => te σ H fun y H2 => ∃ z, y = .str z ∧ ((∃ v, KDct K w a z v ∧ Q v H2) ∨ (KMiss K w a z ∧ Q .non H2))
theorem pe_kget {a : Addr} {o e : Expr} {apos cpos : Pos} {te : TE} (ho : PE X o (tC (.ref a))) (kd : KD K w a) (he : PE X e te) (m : M1 X o "get" apos e cpos) (h : X.K = K := by rfl) (h2 : X.w = w := by rfl) :
    PE X (.Call (.Attribute o "get" apos) [e] [] cpos) (tKGet K w a te) := by
  subst h h2
  obtain ⟨es, n, hl, hkl, low⟩ := kd
  constructor
  intro pins s σ H Q I hq
  refine wpAny_Call_method m.base m.few m.line PySem.F.plainAttrs_dict PySem.F.slot_dict_get PySem.F.type_dict_get (thn (ho.run pins s σ H (fun x H1 => x = .ref a ∧ H1 = H) I ⟨rfl, rfl⟩) fun u s1 ⟨x, H1, I1, rx, ex, eH⟩ => ?_)
  subst ex eH
  obtain rfl : u = Value.ref a := rx
  have hm := PySem.W.mapOf_K (prog := X.prog) (w := X.w) I1.kIn hl hkl
  refine ⟨hm.typeIs, ?_, ?_⟩
  · intro b eb
    cases eb
    exact ⟨_, I1.kIn _ _ hl, rfl⟩
  rw [m.trees]
  refine Calls.callWith_builtin rfl (Calls.evalArgs_plain (Calls.spliced_cons (thn (he.run pins s1 σ _ _ I1 hq) fun iv s2 ⟨y, H2, I2, ry, z, ey, q2⟩ => Calls.spliced_nil ?_)))
  subst ey
  obtain ⟨t, rfl⟩ := (show ∃ t, iv = Value.str z t from ry)
  have hm2 := PySem.W.mapOf_K (prog := X.prog) (w := X.w) I2.kIn hl hkl
  refine call_meetsIn PySem.F.slot_dict_get hm2.typeIs PySem.F.entry_dict_get (PySem.F.args_dict_get_2 _ _) (meets_dict_get (strKind X.prog X.w) a (strKind_is X.prog X.w z t) low) ⟨_, hm2, ?_⟩
  rcases q2 with ⟨v, ⟨es', n', u0, hl', hk', e, ru⟩, q⟩ | ⟨⟨es', n', hl', hk', low', e⟩, q⟩
  · rw [PySem.W.find_K hl e]
    exact ⟨v, H2, I2.tok _, ru, q⟩
  · rw [PySem.W.find_K hl e]
    exact ⟨.non, H2, I2.tok _, rfl, q⟩
end
/-! ### a def that stands in a class, called by the class's name -/
section
variable {X : Cx}
def tFnC (sp : Sp) (E : XK) (t : TA) : TE := fun σ H Q => t σ H fun vs H1 => sp vs H1 Q E
theorem pe_clsfn {CX : CXT} {k : Nat} {C g : Addr} {mc : Value} {fd : FuncData} {ps : List Str} {sp : Sp} {E : XK} {x m : Str} {e : Expr} {es : List Expr} {t : TA} {p1 p2 pos : Pos} {pl : Sem Bool}
    (hg : Gl X x) (hm : X.mg x = some (.ref C)) (r : ClX.CRead X.K C mc) (c : ClX.CVal X.K C mc m (.ref g) (.ref g)) (F : FnOk X.prog X.w X.K X.mg X.base CX k g fd ps sp) (hr : Room k X.A) (hk : PySem.W.keepIn X.K (.ref g) = true) (hb : Binds X.K fd ps []) (hx : Passes CX X E) (ha : PA X (e :: es) t)
    (hdb : (x == ("__debug__" : Str)) = false := by decide)
    (hst : starEach (e :: es) X.env = (false, eval e X.env) :: starEach es X.env := by rfl) (hpl : (backTo pos (starEach es X.env)).any (·.1) = false := by rfl)
    (ht : eval (.Call (.Attribute (.Name x p1) m p2) (e :: es) [] pos) X.env = (do
      let ov ← eval (.Name x p1) X.env
      standAt p2.atName
      let (f, first) ← holding [ov] (getMethod ov m pl)
      callWith pos f first (backTo pos (starEach (e :: es) X.env)) (backToKw pos (keywordEach [] X.env))) := by rfl) :
    PE X (.Call (.Attribute (.Name x p1) m p2) (e :: es) [] pos) (tFnC sp E t) := by
  refine ⟨fun pins s σ H Q I h => ?_⟩
  refine PySem.W.methodCall_KW (pl := pl) (ld_glob I hg hm ?_ hdb) ht
  refine PySem.W.method_cls I.kIn r.ga (ClX.getcval_ok I r c fun s2 I2 => ?_)
  refine PySem.W.callWith_K (h₀ := X.base) I2.ok.mod.kin hk (thn (ha.run pos pins s2 σ H _ I2 h) fun us s3 ⟨vs, H2, I3, rv, q2⟩ => ⟨I3.kIn, ?_⟩) hst hpl
  have q3 : sp (vs ++ []) H2 Q E := by rw [List.append_nil]; exact q2
  exact run_fn F hr hb .nil hx I3 rv q3
end
/-! ### a field of the exception that is pinned -/
/-- what the written part says of an exception's class: its field f is read -/
structure XRd (K : PySem.W.Frag) (C : Addr) (f : Str) : Prop where
  cls : XfC K C
  no : PySem.W.findIn K (.ref C) f = some none
def tXg (K : PySem.W.Frag) (a : Addr) (cls : Value) (d : Option Addr) (f : Str) (te : TE) : TE := fun σ H Q => te σ H fun x H1 => x = .ref a ∧ ∃ (C dd : Addr) (fs : List (Str × V)) (v : V), cls = .ref C ∧ d = some dd ∧ XRd K C f ∧ H1 dd = some (.xd fs) ∧ fs.lookup f = some v ∧ Q v H1
theorem pe_xg {X : Cx} {p : Addr × Obj} {cls : Value} {d : Option Addr} {e : Expr} {te : TE} {pos : Pos} {n : Str} (hp : p ∈ X.pn) (hz : Zc cls d p.2) (hf : ∃ vs, p.2.data = .fields vs) (he : PE X e te) (hb : attributeBase e n X.env (eval e X.env) = eval e X.env := by rfl) : PE X (.Attribute e n pos) (tXg X.K p.1 cls d n te) := by
  refine ⟨fun pins s σ H Q I h => ?_⟩
  refine attr_of hb (thn (he.run pins s σ H _ I h) fun u s1 hh => ?_)
  obtain ⟨x, H1, I1, rx, ex, C, dd, fs, v, hc0, hd0, T, ea, l, q⟩ := hh
  obtain ⟨vs, hd⟩ := hf
  have hc : p.2.cls = .ref C := hz.1.trans hc0
  have hdd : p.2.dict = some dd := hz.2.trans hd0
  subst ex
  obtain rfl : u = Value.ref p.1 := rx
  obtain ⟨ha, _⟩ := I1.pin p (List.mem_append_left _ hp)
  have hx : ObjOk X.prog X.w H1 s1.heap dd (.xd fs) := I1.hok dd _ ea
  obtain ⟨mA, hns, hr⟩ := hx
  obtain ⟨od, ho, hl⟩ := lookIn_ns hns
  obtain ⟨u, hu, ru⟩ := RelO.some_of (v := v) (o := mA n) (by rw [← l]; exact hr n)
  have J : PySem.W.InstAt s1.heap p.1 p.2 C (some od) := ⟨ha, hc, by unfold PySem.W.notCls; rw [hd] <;> rfl, by rw [hdd]; exact ho⟩
  exact HandSPX.exc_get I1.kIn J T.cls.ga T.cls.gg T.cls.exC (PySem.W.findObj_own T.cls.hdC T.no rfl (by rw [hl, hu])) (handed_of ru) ⟨v, H1, I1.tok _, ru, q⟩
theorem k_xg {K : PySem.W.Frag} {X : Cx} {p : Addr × Obj} {cls : Value} {d : Option Addr} {e : Expr} {te : TE} {pos : Pos} {n : Str} (hp : p ∈ X.pn) (hz : Zc cls d p.2) (hf : ∃ vs, p.2.data = .fields vs) (he : PE X e te) (hb : attributeBase e n X.env (eval e X.env) = eval e X.env := by rfl) (h : X.K = K := by rfl) : PE X (.Attribute e n pos) (tXg K p.1 cls d n te) := h ▸ pe_xg hp hz hf he hb
/-! ### a def called while the exception p is pinned -/
structure FnP (P : Program) (w : World) (K : PySem.W.Frag) (mg : Str → Option Value) (base : Heap) (k : Nat) (f : Addr) (fd : FuncData) (ps : List Str) (sp : Addr → Value → Option Addr → Sp) : Prop where
  len : ∀ a cls d vs H Q E, sp a cls d vs H Q E → vs.length = ps.length
  run : ∀ (A : Around) (outer : List Env) (s : Shared) (H : Hp) (args : Args) (us : List Value) (vs : List V) (Q : VK) (p : Addr × Obj) (cls : Value) (d : Option Addr), Zc cls d p.2 → (∃ vs, p.2.data = .fields vs) → L2H.RoomH k A → L2H.PinOk outer H s p → Env0 P w K mg base A outer s H → BindsTo s fd args (ps.zip us) → Vals vs us → sp p.1 cls d vs H Q E0 →
    codeAny (model P w) A (.call (.ref f) args) (CR CX0 outer P w H s Q E0) s
theorem fn_ofP {P : Program} {w : World} {K : PySem.W.Frag} {mg : Str → Option Value} {base : Heap} {k : Nat} {f : Addr} {name qual : Str} {params : Arguments} {body : List Stmt} {scope : Scope} {dV kV doc pm cdv ct oc : Value} {an od : Option Addr}
    {osl : Array (Option Value)} {N ps : List Str} {sp : Addr → Value → Option Addr → Sp} (lk : K.lookup f = some ⟨oc, od, .func (PySem.W.fnOf name qual params body scope dV kV doc pm an cdv ct), osl⟩) (hcd : PySem.W.codeIn K cdv qual = true) (S : FnScope N ps scope)
    (len : ∀ a cls d vs H Q E, sp a cls d vs H Q E → vs.length = ps.length)
    (hbody : ∀ (A : Around) (outer : List Env) (s : Shared) (H : Hp) (vs : List V) (Q : VK) (p : Addr × Obj) (cls : Value) (d : Option Addr), Zc cls d p.2 → (∃ vs, p.2.data = .fields vs) → L2H.RoomH k (A.deeper (envOfC qual scope s.heap.objs.size f cdv)) → sp p.1 cls d vs H Q E0 →
      ∃ t, PSs (L2H.cxH CX0 P w K mg base N qual scope f cdv A outer s H E0 p).nox body t ∧ t { nx := fun _ H' => Q .non H', rt := Q } (L2.start N vs) H) :
    FnP P w K mg base (k + 1) f (PySem.W.fnOf name qual params body scope dV kV doc pm an cdv ct) ps sp := by
  refine ⟨len, fun A outer s H args us vs Q p cls d hz hf hr hpin e0 hb r hsp => ?_⟩
  have hl := len _ _ _ _ _ _ _ hsp
  have KX : K.In s.heap := e0.mod.kin.keeps fun b o e => (e0.bs b o e).1
  have lim : s.heap.NoLimit := e0.mod.nolimit.keeps fun b o e => (e0.bs b o e).1
  have hkind : ∀ y ∈ ps.zip us, scope.names.lookup y.1 = some .local ∨ (scope.names.lookup y.1 = some .cell ∧ ((cellsFrom (s.heap.objs.size + 1) scope.names []).lookup y.1).isSome = true) := fun ⟨n, v⟩ hy => by
    rcases S.par n (List.of_mem_zip hy).1 with q | q
    · exact .inl q
    · exact .inr ⟨q, PySem.W.cellsFrom_some _ _ _ (.inl q)⟩
  refine codeAny_call_function hr.depth (KX _ _ lk) rfl S.co S.gen rfl (PySem.W.codeRec_of KX hcd) (hb _ _ _ _ ?_)
  refine wpAny_newFunctionEnv_cells S.kind hkind fun env he s1 x => ?_
  subst he
  refine ⟨lim.keeps x.toInCall.keep, codeAny_func ?_⟩
  obtain ⟨t, ht0, hq⟩ := hbody A outer s H vs Q p cls d hz hf (hr.deeper _) hsp
  have ht := ht0.nox
  have I : Inv (L2H.cxH CX0 P w K mg base N qual scope f cdv A outer s H E0 p) [] (L2.start N vs) H s1 := L2H.inv_startH S hpin e0 hl r x
  refine wpAny_mono (ht.run [] s1 (L2.start N vs) H _ I hq) (fun fl s' hs => ?_) fun e s' hs => hs
  have fin : ∀ {σ' : L2.St} {H' : Hp} {v : V} {u : Value}, Inv (L2H.cxH CX0 P w K mg base N qual scope f cdv A outer s H E0 p) [] σ' H' s' → RelV v u → Q v H' → CE outer P w H s Q u s' :=
    fun {σ' H' v u} J rv q => ⟨v, H', J.os, J.bare, J.base, J.hok, rv, q⟩
  cases fl with
  | ret u =>
    obtain ⟨v, σ', H', J, rv, q⟩ := hs
    exact fin J rv q
  | next =>
    obtain ⟨σ', H', J, q⟩ := hs
    exact fin (v := V.non) (u := Value.none) J rfl q
  | brk =>
    obtain ⟨_, _, _, q⟩ := hs
    exact False.elim q
  | cont =>
    obtain ⟨_, _, _, q⟩ := hs
    exact False.elim q
def tCallP (sp : Addr → Value → Option Addr → Sp) (a : Addr) (cls : Value) (d : Option Addr) (t : TA) : TE := fun σ H Q => t σ H fun vs H1 => sp a cls d vs H1 Q E0
theorem pe_callP {X : Cx} {k : Nat} {f : Addr} {fd : FuncData} {ps : List Str} {sp : Addr → Value → Option Addr → Sp} {x : Str} {q pos : Pos} {e : Expr} {es : List Expr} {t : TA} {p : Addr × Obj} {cls : Value} {d : Option Addr} (hp : p ∈ X.pn) (hz : Zc cls d p.2) (hf : ∃ vs, p.2.data = .fields vs) (F : FnP X.prog X.w X.K X.mg X.base k f fd ps sp) (hr : L2H.RoomH k X.A)
    (hg : Gl X x) (hm : X.mg x = some (.ref f)) (hk : PySem.W.keepIn X.K (.ref f) = true) (hb : Binds X.K fd ps [])
    (ha : PA X (e :: es) t) (hdb : (x == ("__debug__" : Str)) = false := by decide) (he : starEach (e :: es) X.env = (false, eval e X.env) :: starEach es X.env := by rfl) (hpl : (backTo pos (starEach es X.env)).any (·.1) = false := by rfl) :
    PE X (.Call (.Name x q) (e :: es) [] pos) (tCallP sp p.1 cls d t) := by
  refine ⟨fun pins s σ H Q I h => ?_⟩
  refine wpAny_Call_Name_kw (ld_glob I hg hm ?_ hdb)
  refine PySem.W.callWith_K (h₀ := X.base) I.ok.mod.kin hk (thn (ha.run pos pins s σ H _ I h) fun us s1 ⟨vs, H1, I1, r, q1⟩ => ⟨I1.kIn, ?_⟩) he hpl
  have hl : us.length = ps.length := by rw [← r.length]; exact F.len _ _ _ _ _ _ _ q1
  have b := hb s1 us I1.kIn (by rw [List.append_nil]; exact hl)
  rw [List.append_nil] at b
  have P1 := I1.pin p (List.mem_append_left _ hp)
  have hpin : L2H.PinOk X.stack H1 s1 p := ⟨P1.1, P1.2.1, fun hm => (List.mem_cons.mp (I1.stkSub p.1 hm)).elim P1.2.2.1 P1.2.2.2.1, P1.2.2.2.2⟩
  refine wpAny_call (codeAny_mono (F.run X.A X.stack s1 H1 ⟨us, []⟩ us vs Q p cls d hz hf hr hpin I1.env0 b r q1) fun r s' hq => ?_)
  cases r with
  | error e => exact (show False from hq).elim
  | ok fl =>
    cases fl with
    | ret u => exact I1.after hq
    | next => exact False.elim hq
    | brk => exact False.elim hq
    | cont => exact False.elim hq
/-! ### several except clauses with names -/
def wManyA (K : PySem.W.Frag) (n : Nat) (Wout : WX) (D : Ends) : List (Value × Nat × (Addr → Value → Option Addr → TS)) → WX
  | [] => Wout
  | (c, i, ts) :: r => fun cls d σ H => ∃ b, PySem.W.exmOne K cls c = some b ∧
      (b = true → ∀ a, H a = none → σ.length = n → ts a cls d { nx := fun σ' H' => D.nx (σ'.set i none) H', rt := D.rt, bk := fun σ' H' => D.bk (σ'.set i none) H', ct := fun σ' H' => D.ct (σ'.set i none) H' } (σ.set i (some (.ref a))) H) ∧
      (b = false → wManyA K n Wout D r cls d σ H)
inductive HdsA (X : Cx) : List ExceptHandler → List (Value × Nat × (Addr → Value → Option Addr → TS)) → Prop
  | nil : HdsA X [] []
  | cons {x n : Str} {c : Value} {i : Nat} {ts : Addr → Value → Option Addr → TS} {b₀ : Stmt} {suite : List Stmt} {np pos' : Pos} {hds : List ExceptHandler} {l : List (Value × Nat × (Addr → Value → Option Addr → TS))} (hc : Names X x c) (hi : X.N[i]? = some n) (hln : X.env.kindOf n = some .local)
      (hsu : ∀ (a : Addr) (oe : Obj) (cls : Value) (d : Option Addr) (pn : List (Addr × Obj)), Zc cls d oe → (∃ vs, oe.data = .fields vs) → PSs (X.suite a ((a, oe) :: pn)) (b₀ :: suite) (ts a cls d)) (r : HdsA X hds l) :
      HdsA X (.ExceptHandler (some (.Name x np)) (some n) (b₀ :: suite) pos' :: hds) ((c, i, ts) :: l)
section
variable {X : Cx} {body : List Stmt} {h₀ : ExceptHandler} {hds : List ExceptHandler} {l : List (Value × Nat × (Addr → Value → Option Addr → TS))} {pos : Pos} {tb : WX → TS} {Wout : WX}
theorem ps_try_manyA (hs : X.stack = X.env :: X.outer) (hf : X.env.frame = some X.env.locals) (hN : X.N.Nodup) (tk : Takes X Wout)
    (hb : ∀ (W : WX) (pn : List (Addr × Obj)) (xe : Value → Shared → Prop), Takes (X.tr pn xe) W → PassesOwn (model X.prog X.w) X.A X.env xe → PSs (X.tr pn xe) body (tb W))
    (hh : HdsA X (h₀ :: hds) l) : PS X (.Try body (h₀ :: hds) [] [] pos) (fun D σ H => tb (wManyA X.K X.N.length Wout D l) D σ H) := by
  refine ⟨fun pins s σ H D I h => ?_⟩
  have ok := I.ok
  have hfr : X.A.frames = some (X.env :: X.outer) := by rw [ok.frames, hs]
  refine wpAny_Try_except ?_
  refine wpAny_mono ((hb (wManyA X.K X.N.length Wout D l) (X.pn ++ pins) (fun e s₁ => wpAny (model X.prog X.w) X.A (noteFrame e X.env) (fun _ s₂ => wpAny (model X.prog X.w) X.A (setFlight e none) (fun _ s₃ =>
    wpAny (model X.prog X.w) X.A (handleBy e X.env (h₀ :: hds)) (SP X pins D) X.xe s₃) X.xe s₂) X.xe s₁) (fun u s' xx => ?_) PassesOwn.looking).run [] s σ H D (I.toTry _) h) (fun f s1 hsp => ?_) (fun e s1 he => he)
  · -- the catch
    obtain ⟨a, B, sI, pins', σ', H', cls, d, rfl, J', nb, up, sky, na, os, ag, w⟩ := xx
    have J : Inv X pins σ' H' sI := J'.ofTry ok
    have sky' : Sky B (X.env :: X.outer) a (Zc cls d) X.env.locals s'.heap := by rw [← hs]; exact sky
    show wpAny (model X.prog X.w) X.A (noteFrame (.ref a) X.env) _ _ _
    refine Sky.land Zc.steady hfr hf sky' fun h3 fl3 up3 => ?_
    have J3 : Inv X pins σ' H' { s' with heap := h3 } := J.landed nb fl3.1 (up.trans up3) os ag
    obtain ⟨oe3, vs3, he3, hz3, hd3⟩ := fl3.there
    have notFr : ∀ {h : Heap} {o : Obj} {vs : Array Value}, h.FunFrames B (X.env :: X.outer) → h.get? a = some o → o.data = .fields vs → a ∉ frs (X.env :: X.outer) := fun {h o vs} ff e dd hm => by
      obtain ⟨_, o', e', hnf⟩ := ff.mem hm
      rw [e] at e'; cases e'
      exact hnf _ dd
    have nfr := notFr fl3.2.2.1 he3 hd3
    have nL : a ≠ X.env.locals := fun z => nfr (List.mem_filterMap.mpr ⟨X.env, List.mem_cons_self, by rw [hf, z]⟩)
    have nF : a ∉ X.fs := fun hm => by
      obtain ⟨e, he, q⟩ := List.mem_filterMap.mp hm
      exact nfr (List.mem_filterMap.mpr ⟨e, List.mem_cons_of_mem _ he, q⟩)
    have S3 := J3.suite he3 hd3 na nL nF
    have go : ∀ {hds' : List ExceptHandler} {l' : List (Value × Nat × (Addr → Value → Option Addr → TS))}, HdsA X hds' l' → wManyA X.K X.N.length Wout D l' cls d σ' H' →
        wpAny (model X.prog X.w) X.A (handleBy (.ref a) X.env hds') (SP X pins D) X.xe { s' with heap := h3 } := by
      intro hds' l' hk
      induction hk with
      | nil =>
        intro w
        refine wpAny_handleBy_nil ?_
        obtain ⟨k1, k2, k3, oe, vs, T, oT, ts', he, hz, hd, h1, hr⟩ := id fl3
        unfold PySem.passOn
        refine wpAny_bind (wpAny_field he hd h1 ?_)
        rw [if_neg (show ¬ ((Value.ref T == Value.none) = true) from by simp)]
        have fin : wpAny (model X.prog X.w) X.A (setFlight (.ref a) X.env.frame) (fun _ s4 => wpAny (model X.prog X.w) X.A (throw (.ref a) : Sem Flow) (SP X pins D) X.xe s4) X.xe { s' with heap := h3 } := by
          rw [hf]
          refine HandSPX.setFlight_upZ fl3 fun h4 hh4 up4 => wpAny_throw (tk _ _ ?_)
          exact ⟨a, B, sI, pins, σ', H', cls, d, rfl, J, nb, (up.trans up3).trans up4, .inr (.inr (by rw [hs]; exact hh4)), na, os, ag, w⟩
        first
          | exact wpAny_bind (wpAny_pure (wpAny_bind fin))
          | exact wpAny_bind fin
      | @cons x n c i ts b₀ suite np pos' hds2 l2 hc hi hln hsu r ih =>
        intro w
        obtain ⟨b, hb1, hyes, hno⟩ := w
        have hloc : Loc X.env.scope n := .inl hln
        refine wpAny_handleBy_cons (codeAny_handlers_test ?_) (by intro q; cases q)
        have LT : PySem.W.Looks (model X.prog X.w) h3 (typeOf (.ref a)) cls := fun A Q E s k q => wpAny_typeOf_ref (k _ _ he3) (by rw [hz3.1]; exact q)
        have LM := PySem.W.exm_one (M := model X.prog X.w) (J3.kIn) LT hb1
        have test : ∀ {Q : Value → Shared → Prop} {E : Value → Shared → Prop}, Q c { s' with heap := h3 } → wpAny (model X.prog X.w) (X.A.mark (some (.ref a))) (eval (.Name x np) X.env) Q E { s' with heap := h3 } := fun {Q E} q => by
          obtain ⟨hg, hdbg, hm | ⟨hm, hv, hnn⟩⟩ := hc
          · exact ld_glob (X := X.suite a ((a, oe3) :: (X.pn ++ pins))) S3 hg hm q hdbg
          · exact ld_blt (X := X.suite a ((a, oe3) :: (X.pn ++ pins))) S3 hg hm hv q hnn hdbg
        refine test (LM.here ?_)
        cases b with
        | true =>
          refine codeAny_handlers_suite_as ?_
          refine HandSPX.lands_againZ fl3 fun h4 fl4 up4 => ?_
          have J4 : Inv X pins σ' H' { s' with heap := h4 } := J.landed nb fl4.1 ((up.trans up3).trans up4) os ag
          obtain ⟨oe4, vs4, he4, hz4, hd4⟩ := fl4.there
          have S4 := J4.suite he4 hd4 na nL nF
          refine store_ok (X := X.suite a ((a, oe4) :: (X.pn ++ pins))) (v := .ref a) S4 hN hi hloc rfl (fun s5 S5 => ?_) (.inr hln)
          refine wpAny_mono ((hsu a oe4 cls d (X.pn ++ pins) hz4 ⟨_, hd4⟩).run [] s5 _ H' _ S5 (hyes rfl a na J.len)) (fun f s6 hsp => ?_) (fun _ _ z => False.elim z)
          have end_ : ∀ {σ6 : L2.St} {H6 : Hp} {Q : Shared → Prop}, Inv (X.suite a ((a, oe4) :: (X.pn ++ pins))) [] σ6 H6 s6 → (∀ s7, Inv X pins (σ6.set i none) H6 s7 → Q s7) →
              wpAny (model X.prog X.w) X.A (do bindName X.env n .none; unbindBehindTheSuite X.env n pos') (fun _ s7 => Q s7) X.xe s6 := fun {σ6 H6 Q} S6 hq => gone_ok (S6.unsuite ok) hN hi hln hq
          cases f with
          | next =>
            obtain ⟨σ6, H6, S6, q6⟩ := hsp
            exact end_ S6 fun s7 J7 => ⟨_, _, J7, q6⟩
          | brk =>
            obtain ⟨σ6, H6, S6, q6⟩ := hsp
            exact end_ S6 fun s7 J7 => ⟨_, _, J7, q6⟩
          | cont =>
            obtain ⟨σ6, H6, S6, q6⟩ := hsp
            exact end_ S6 fun s7 J7 => ⟨_, _, J7, q6⟩
          | ret u =>
            obtain ⟨v6, σ6, H6, S6, r6, q6⟩ := hsp
            exact end_ S6 fun s7 J7 => ⟨_, _, _, J7, r6, q6⟩
        | false =>
          show wpAny _ X.A (handleBy (.ref a) X.env hds2) _ _ _
          exact ih (hno rfl)
    exact go hh w
  · cases f with
    | next =>
      obtain ⟨σ', H', J', q⟩ := hsp
      exact wpAny_execs_nil ⟨σ', H', J'.ofTry ok, q⟩
    | brk =>
      obtain ⟨σ', H', J', q⟩ := hsp
      exact ⟨σ', H', J'.ofTry ok, q⟩
    | cont =>
      obtain ⟨σ', H', J', q⟩ := hsp
      exact ⟨σ', H', J'.ofTry ok, q⟩
    | ret u =>
      obtain ⟨v, σ', H', J', r, q⟩ := hsp
      exact ⟨v, σ', H', J'.ofTry ok, r, q⟩
end
/-! ### what the written part says of the classes of errors, of the law's code -/
structure FunC (K : PySem.W.Frag) (x qual : Str) (st : Stmt) (f : Addr) (fd : FuncData) (c : Addr) : Prop where
  ex : ∃ (oc : Value) (od : Option Addr) (kV doc pm : Value) (an : Option Addr) (ct : Value) (osl : Array (Option Value)),
    fd = PySem.W.fnOf x qual (defArgs st) (defBody st) (defScope st) .none kV doc pm an (.ref c) ct ∧ K.lookup f = some ⟨oc, od, .func fd, osl⟩ ∧ PySem.W.codeIn K (.ref c) qual = true
  kp : PySem.W.keepIn K (.ref f) = true
theorem FunC.ok {P : Program} {w : World} {K : PySem.W.Frag} {mg : Str → Option Value} {base : Heap} {x qual : Str} {st : Stmt} {f c : Addr} {fd : FuncData} {N ps : List Str} {k : Nat} {sp : Sp} (F : FunC K x qual st f fd c) (S : FnScope N ps (defScope st)) (len : ∀ vs H Q E, sp vs H Q E → vs.length = ps.length)
    (hbody : ∀ (A : Around) (outer : List Env) (s : Shared) (H : Hp) (vs : List V) (Q : VK) (E : XK), Room k (A.deeper (envOfC qual (defScope st) s.heap.objs.size f (.ref c))) → sp vs H Q E →
      ∃ t, PSs (cxOf CX0 P w K mg base N qual (defScope st) f (.ref c) A outer s H E).nox (defBody st) t ∧ t { nx := fun _ H' => Q .non H', rt := Q } (start N vs) H) : FnOk P w K mg base CX0 (k + 1) f fd ps sp := by
  obtain ⟨oc, od, kV, doc, pm, an, ct, osl, rfl, lk, hcd⟩ := F.ex
  refine fn_of lk hcd S len fun A outer s H vs Q E hr hsp => ?_
  obtain ⟨t, h, q⟩ := hbody A outer s H vs Q E hr hsp
  exact ⟨t, h.nox, q⟩
structure ExcT (K : PySem.W.Frag) (C PE : Addr) (fs : List Str) : Prop where
  o : OexC K C
  x : XfC K C
  no : ∀ f ∈ fs, PySem.W.findIn K (.ref C) f = some none
  e : PySem.W.exmOne K (.ref C) (.ref PE) = some true
theorem ExcT.rd {K : PySem.W.Frag} {C PE : Addr} {fs : List Str} (T : ExcT K C PE fs) {f : Str} (h : f ∈ fs) : XRd K C f := ⟨T.x, T.no f h⟩
theorem tabs_nil {H : Hp} {P : Addr} {q : Str} (h : H P = some (.tbl #[])) : LamX.Tabs [(P, q)] H := fun p hp => by
  rw [List.mem_singleton.mp hp]
  exact LamX.TabS.nil h
/-! ### a dict of the module that has no such key -/
def keysIn (ks : List Str) (es : List DictEntry) : Bool := es.all fun e => !e.refKey && (match e.key with | .str y _ => ks.contains y | _ => false)
theorem miss_of {K : PySem.W.Frag} {w : World} {a : Addr} {es : Array DictEntry} {n : Nat} {ks : List Str} (hl : K.lookup a = some ⟨.type "dict", none, .dict es n, #[]⟩) (hk : PySem.W.KeysLit w.params es.toList) (hs : (a == sysModules) = false)
    (h : keysIn ks es.toList = true) (z : Str) (hz : z ∉ ks) : KMiss K w a z := by
  refine ⟨es, n, hl, hk, hs, ?_⟩
  unfold PySem.W.nsIn
  rw [hl]
  have h' := List.all_eq_true.mp h
  have e1 : es.toList.find? (·.key.isStr z) = none := by
    refine List.find?_eq_none.mpr fun e he q => ?_
    obtain ⟨_, h2⟩ := Bool.and_eq_true_iff.mp (h' e he)
    split at h2
    · rename_i y t ey
      rw [ey] at q
      have : y = z := by
        first
          | exact eq_of_beq q
          | simpa [Value.isStr] using q
      rw [this] at h2
      exact hz (List.contains_iff_mem.mp h2)
    · cases h2
  have e2 : es.toList.any (·.refKey) = false := by
    refine Bool.eq_false_iff.mpr fun q => ?_
    obtain ⟨e, he, q⟩ := List.any_eq_true.mp q
    obtain ⟨h1, _⟩ := Bool.and_eq_true_iff.mp (h' e he)
    rw [q] at h1
    cases h1
  dsimp only
  rw [e1, e2]
  rfl
/-! ### enumerate of a tuple; a list or a tuple walked -/
theorem pi_or {X : Cx} {tg iter : Expr} {w1 w2 : TI} (h1 : PI X tg iter w1) (h2 : PI X tg iter w2) : PI X tg iter (fun σ H R => w1 σ H R ∨ w2 σ H R) :=
  ⟨fun pins s σ H R I h => h.elim (h1.run pins s σ H R I) (h2.run pins s σ H R I)⟩
set_option maxHeartbeats 1000000 in
theorem meets_enum1 {v : Value} {o : Obj} {H : Heap → Prop} (B : Begins v o H) :
    Meets (Builtin.«enumerate.__new__» ⟨[.type "enumerate", v], []⟩) (fun _ R s => H s.heap ∧
      R (.ok (.ret (.ref (s.heap.push o).objs.size))) { s with heap := (s.heap.push o).push { cls := .type "enumerate", data := .fields #[.none, .bool false, .ref s.heap.objs.size, rawInt 0, .none, .none] } }) :=
  .of_wp fun prog w A R s h => by
    obtain ⟨hp, g, d, tk, os⟩ := s; obtain ⟨h1, h⟩ := h
    have hsub := sub_enumerate
    have q1 : ∀ {A' : Around} {E : Value → Shared → Prop} {Q : Value → Shared → Prop}, Q (.ref hp.objs.size) ⟨hp.push o, g, d, tk, os⟩ → wpAny (model prog w) A' (pyIter v) Q E ⟨hp, g, d, tk, os⟩ :=
      fun q => B.iter prog w _ _ ⟨hp, g, d, tk, os⟩ _ h1 q
    wp_walk using q1
    refine wpAny_stack_any fun st => wpAny_pure ?_
    split
    · rename_i c _ _ _ _ _
      cases (c == Value.type "enumerate")
      · wp_walk using q1
        exact ⟨_, rfl, h⟩
      · wp_walk using q1
        exact ⟨_, rfl, h⟩
    · wp_walk using q1
      exact ⟨_, rfl, h⟩
theorem enum1_begins {prog : Program} {w : World} {A : Around} {E : Value → Shared → Prop} {s : Shared} {v : Value} {o : Obj} {H : Heap → Prop} {Q : Value → Shared → Prop} (B : Begins v o H) (h1 : H s.heap)
    (h : ∀ h', IsEnum h' (s.heap.objs.size + 1) s.heap.objs.size 0 .none → h'.get? s.heap.objs.size = some o → h'.objs.size = s.heap.objs.size + 2 →
      (∀ b o, s.heap.get? b = some o → h'.get? b = some o) → Q (.ref (s.heap.objs.size + 1)) { s with heap := h' }) :
    wpAny (model prog w) A (call (.type "enumerate") [v]) Q E s := by
  refine callType_new F.called_enumerate (by decide) (F.typeCall_enumerate_1 _) (F.newCall_enumerate_1 _) (fun obj => F.args_object_init_2 obj _) F.entry_enumerate_new
    (meets_enum1 B) ⟨h1, ?_⟩
  have hz : (s.heap.push o).objs.size = s.heap.objs.size + 1 := Heap.size_push ..
  show _ ∧ _
  rw [hz]
  have he : IsEnum ((s.heap.push o).push { cls := .type "enumerate", data := .fields #[.none, .bool false, .ref s.heap.objs.size, rawInt 0, .none, .none] }) (s.heap.objs.size + 1) s.heap.objs.size 0 .none := by
    have := Heap.get?_push_size (s.heap.push o) (o := { cls := .type "enumerate", data := .fields #[.none, .bool false, .ref s.heap.objs.size, rawInt 0, .none, .none] }) rfl
    rw [hz] at this; exact this
  refine ⟨⟨_, he, rfl⟩, h _ he (Heap.get?_push_of_some _ (Heap.get?_push_size _ B.free)) (by rw [Heap.size_push, hz]) fun b o x => Heap.get?_push_of_some _ (Heap.get?_push_of_some _ x)⟩
def Itet (K : PySem.W.Frag) (a : Addr) : It :=
  ⟨fun i H => ∃ (xs : List V) (x : V), SqT K H a xs ∧ xs[i]? = some x, fun i H v H' => ∃ T x, v = .ref T ∧ H T = none ∧ H' = upd H T (.tup [.int (i : Nat), x]) ∧ ∀ xs, SqT K H a xs → xs[i]? = some x, fun i H => ∃ xs : List V, SqT K H a xs ∧ xs.length ≤ i⟩
theorem turn_enumT {P : Program} {w : World} {K : PySem.W.Frag} {elts : List Expr} {kk : Nat} {tpos : Pos} (a e it : Addr) :
    Turn P w K (.Tuple elts kk tpos) (Itet K a) [e, it] e (fun i h => (∃ old, IsEnum h e it ((i : Nat) : Int) old) ∧ h.IsTupleIter it a i ∧ e ≠ it ∧ e ≠ a ∧ a ≠ it) where
  mem := by simp
  obj := fun i h st b hb => by
    obtain ⟨⟨old, he⟩, ⟨o, ho, hc, hd⟩, _⟩ := st
    have e' : b = e ∨ b = it := by simpa using hb
    rcases e' with z | z
    · rw [z]; exact ⟨_, he, fun v q => nomatch q⟩
    · rw [z]; exact ⟨o, ho, fun v q => by rw [hd] at q; cases q⟩
  keep := fun i h h' st k => let ⟨⟨old, he⟩, hi, hne⟩ := st; ⟨⟨old, k e (by simp) _ he⟩, hi.at fun o q => k it (by simp) o q, hne⟩
  item := by
    intro X hP hw hK hc i pins s σ H E I hf st hg
    subst hP hw hK
    obtain ⟨⟨old, he⟩, hit, hne, hne2, hne3⟩ := st
    obtain ⟨xs, x, hq, hx⟩ := hg
    obtain ⟨its, rv, p, hz⟩ := I.tuple hq
    have hel : e < s.heap.objs.size := Heap.lt_size he
    have hil : it < s.heap.objs.size := by obtain ⟨_, q, _⟩ := hit; exact Heap.lt_size q
    have hn : i < its.toArray.size := by
      have h1 := (List.getElem?_eq_some_iff.mp hx).1
      have h2 := rv.length
      simp
      omega
    have D := Draws.tuple (prog := X.prog) (w := X.w) (A := X.A.in1) (I.ok.hd hc) it a hne3 its.toArray
    refine wpAny_pyNext_enum_itemD D he ⟨hit, p⟩ hn hne (by simp [hne, hne2]) fun u h' tk hu ho hst' hT hsz hk => ?_
    obtain ⟨u', hu', ru⟩ := rv.get hx
    have eu : u = u' := by
      have h1 : its[i]? = some u := by simpa using hu
      rw [hu'] at h1
      exact (Option.some.inj h1).symm
    subst eu
    refine ⟨_, rfl, wpAny_letOwnedTupleGo_enum (s := { s with heap := h', toks := tk + 1 }) ho fun h'' he' sb => ?_⟩
    have hT2 : h''.get? s.heap.objs.size = some { cls := .type "tuple", data := .seq #[.int i tk, u] } := (sb.2 _ (Nat.ne_of_gt hel)).trans hT
    have new : ObjOk X.prog X.w (upd H s.heap.objs.size (.tup [.int (i : Nat), x])) h'' s.heap.objs.size (.tup [.int (i : Nat), x]) :=
      ⟨by show 2 ≤ sizeLine; decide, [.int i tk, u], .cons ⟨_, rfl⟩ (.cons ru .nil), ⟨_, hT2, rfl, _, rfl⟩⟩
    have I1 : Inv X pins σ (upd H s.heap.objs.size (.tup [.int (i : Nat), x])) { s with heap := h'', toks := tk + 1 } :=
      I.turnedNew (ch := [e, it]) (fun b ob hb q => (sb.2 b (fun z => hb (by simp [z]))).trans (hk b ob (fun z => hb (by simp [z])) (fun z => hb (by simp [z])) q)) hf (Nat.le_refl _) new
    refine ⟨.ref s.heap.objs.size, _, I1, rfl, ⟨_, x, rfl, I.hok.fresh (Nat.le_refl _), rfl, fun ys hy => by rw [I.tuple_inj hy hq]; exact hx⟩, ⟨⟨u, ?_⟩, hst'.1.at fun o q => (sb.2 it (Ne.symm hne)).trans q, hne, hne2, hne3⟩, fun b hb => ?_⟩
    · have e1 : ((i + 1 : Nat) : Int) = (i : Int) + 1 := by omega
      rw [e1]; exact he'
    · have hb' : b < s.heap.objs.size := by
        have e' : b = e ∨ b = it := by simpa using hb
        rcases e' with z | z
        · rw [z]; exact hel
        · rw [z]; exact hil
      rw [upd_ne (Nat.ne_of_lt hb')]
      exact (hf b hb).1
  done := by
    intro X hP hw hK hc i pins s σ H E I hf st hg
    subst hP hw hK
    obtain ⟨⟨old, he⟩, hit, hne, hne2, hne3⟩ := st
    obtain ⟨xs, hq, hx⟩ := hg
    obtain ⟨its, rv, p, hz⟩ := I.tuple hq
    obtain ⟨f0, f1, f2, f3, f4, f5⟩ := hf it (by simp)
    have hl := rv.length
    have hend : its.toArray[i]? = none := by simp; omega
    have hT : s.TypeIs (.ref e) "enumerate" := ⟨_, he, rfl⟩
    unfold pyNext
    refine wpAny_bind (wpAny_attempt (wpAny_callSpecial?_slot (name := Str.ofString "__next__") hT F.slot_enumerate_next
      (wpAny_call_entry F.slot_enumerate_next hT F.entry_enumerate_next ?_ (F.args_enumerate_next_1 _))))
    show wpAny _ _ (field (.ref e) 2 >>= _) _ _ _
    refine wpAny_bind (wpAny_field he rfl (x := .ref it) rfl ?_)
    refine wpAny_bind (wpAny_nextOf_tuple_end (A := X.A.in1) (I.ok.hd hc) hit p hend fun h' x eb hx' => ?_)
    obtain ⟨o, ho, hc'⟩ := hx'
    refine wpAny_bind (wpAny_isInstance (T := "StopIteration") (b := true) ⟨o, ho, hc'⟩ isSubtype_stop ?_)
    exact wpAny_pure ⟨rfl, I.turned (t' := s.toks) (fun b o hb q => eb b o hb q) f0 f1 f3 f4 f5⟩
  self := fun A i s Q E st h => let ⟨⟨_, he⟩, _⟩ := st; wpAny_pyIter_enum he h
def iEnumT (K : PySem.W.Frag) (ta : TA) : TI := fun σ H R => ta σ H fun vs H1 => ∃ a xs, vs = [.ref a] ∧ SqT K H1 a xs ∧ R (Itet K a) H1
theorem pi_enumT {X : Cx} {e : Expr} {ta : TA} {p pos tpos : Pos} {elts : List Expr} {kk : Nat} (hg : Gl X "enumerate") (hm : X.mg "enumerate" = none) (ha : PA X [e] ta) (hs : starEach [e] X.env = [(false, eval e X.env)] := by rfl) :
    PI X (.Tuple elts kk tpos) (.Call (.Name "enumerate" p) [e] [] pos) (iEnumT X.K ta) := by
  refine ⟨fun pins s σ H R I h => ?_⟩
  refine Call_ (ld_blt I hg hm boot_enumerate (PyProof.Rows.callWith_type1 (thn (ha.run pos pins s σ H _ I h) fun us s1 ⟨vs, H1, I1, r1, q1⟩ => ?_) hs rfl))
  obtain ⟨a, xs, ex, hq, q⟩ := q1
  subst ex
  cases r1 with
  | cons r rr =>
    cases rr
    cases r
    obtain ⟨its, rv, p', hz⟩ := I1.tuple hq
    refine enum1_begins (begins_tuple a its.toArray) p' fun h' he hit hsz hk => wpAny_pyIter_enum he ?_
    have I2 : Inv X pins σ H1 { s1 with heap := h' } := I1.kept (t' := s1.toks) hk
    have hlt : a < s1.heap.objs.size := by
      obtain ⟨o, q, _⟩ := p'
      exact Heap.lt_size q
    refine ⟨s1.heap.objs.size + 1, [s1.heap.objs.size + 1, s1.heap.objs.size], _, _, H1, rfl, I2, turn_enumT a (s1.heap.objs.size + 1) s1.heap.objs.size, ⟨⟨.none, he⟩, ⟨_, hit, rfl, rfl⟩, Nat.succ_ne_self _, Nat.ne_of_gt (Nat.lt_succ_of_lt hlt), Nat.ne_of_lt hlt⟩, fun b hb => ?_, q⟩
    have e' : b = s1.heap.objs.size + 1 ∨ b = s1.heap.objs.size := by simpa using hb
    have hle : s1.heap.objs.size ≤ b := by
      rcases e' with z | z
      · rw [z]; exact Nat.le_add_right _ _
      · rw [z]; exact Nat.le_refl _
    exact I1.fpOk hle (I1.hok.fresh hle)
section
variable {X : Cx} {K : PySem.W.Frag}
theorem k_enumT {e : Expr} {ta : TA} {p pos tpos : Pos} {elts : List Expr} {kk : Nat} (ha : PA X [e] ta) (hm : X.mg "enumerate" = none) (hg : Gl X "enumerate" := by rfl) (h1 : starEach [e] X.env = [(false, eval e X.env)] := by rfl) (h : X.K = K := by rfl) :
    PI X (.Tuple elts kk tpos) (.Call (.Name "enumerate" p) [e] [] pos) (iEnumT K ta) := h ▸ pi_enumT hg hm ha h1
end
/-! ### calls without arguments, by keywords alone, of a starred def -/
section
variable {X : Cx} {CX : CXT} {k : Nat} {f : Addr} {fd : FuncData} {ps ks : List Str} {sp : Sp} {E : XK} {x : Str} {p pos : Pos} {e : Expr} {es : List Expr} {kws : List Keyword} {t tk : TA}
def tR (sp : Sp) (E : XK) (t : TA) : TE := fun σ H Q => t σ H fun vs H1 => sp vs H1 Q E
theorem pe_callR (F : FnR X.prog X.w X.K X.mg X.base CX k f sp) (hr : Room k X.A) (hk : PySem.W.keepIn X.K (.ref f) = true) (hg : Gl X x) (hm : X.mg x = some (.ref f)) (hx : Passes CX X E)
    (args : PA X (e :: es) t) (no_dbg : (x == ("__debug__" : Str)) = false := by decide) (h1 : starEach (e :: es) X.env = (false, eval e X.env) :: starEach es X.env := by rfl)
    (h2 : (backTo pos (starEach es X.env)).any (·.1) = false := by rfl) : PE X (.Call (.Name x p) (e :: es) [] pos) (tR sp E t) :=
  ⟨fun pins s σ H Q I h => wpAny_Call_Name_kw (ld_glob I hg hm (PySem.W.callWith_K (h₀ := X.base) I.ok.mod.kin hk
    (thn (args.run pos pins s σ H _ I h) fun us s1 ⟨vs, H1, I1, r, q⟩ => ⟨I1.kIn, wpAny_call (run_fnR F hr hx I1 r q)⟩) h1 h2) no_dbg)⟩
theorem pe_callR0 (F : FnR X.prog X.w X.K X.mg X.base CX k f sp) (hr : Room k X.A) (hk : PySem.W.keepIn X.K (.ref f) = true) (hg : Gl X x) (hm : X.mg x = some (.ref f)) (hx : Passes CX X E)
    (no_dbg : (x == ("__debug__" : Str)) = false := by decide) : PE X (.Call (.Name x p) [] [] pos) (tR sp E tNil) :=
  ⟨fun pins s σ H Q I h => wpAny_Call_Name_kw (ld_glob I hg hm (PySem.W.callWith_K0 I.kIn hk (wpAny_call (run_fnR (us := []) F hr hx I .nil h))) no_dbg)⟩
theorem pe_callK0 {g : List Value → List Value → List Value} {gV : List V → List V → List V} (F : FnOk X.prog X.w X.K X.mg X.base CX k f fd ps sp) (hr : Room k X.A) (hg : Gl X x) (hm : X.mg x = some (.ref f))
    (hk : PySem.W.keepIn X.K (.ref f) = true) (hb : KBinds X.K fd ps ks g gV) (hx : Passes CX X E) (hkw : PK X kws tk) (hall : (backToKw pos (keywordEach kws X.env)).all (·.1.isSome) = true := by rfl)
    (hks : (backToKw pos (keywordEach kws X.env)).filterMap (·.1) = ks := by rfl) (no_dbg : (x == ("__debug__" : Str)) = false := by decide)
    (hpl : ((backTo pos (starEach [] X.env)).any (·.1) || (backToKw pos (keywordEach kws X.env)).any (·.1.isNone)) = false := by rfl) : PE X (.Call (.Name x p) [] kws pos) (tCallK sp gV E tNil tk) := by
  constructor
  intro pins s σ H Q I h
  refine wpAny_Call_Name_kw (ld_glob I hg hm (PySem.W.callWith_KW0 (h₀ := X.base) I.ok.mod.kin hk hall (thn (hkw.run pos pins s σ H _ I h) fun ws s2 ⟨zs, H2, I2, rz, q2⟩ => ⟨I2.kIn, ?_⟩) hpl) no_dbg)
  rw [hks]
  exact run_fnk (us := []) F hr hb hx I2 .nil rz q2
end
/-! ### tests -/
theorem iteD {p : Prop} [Decidable p] {A B : Prop} (h1 : p → A) (h2 : ¬ p → B) : if decide p = true then A else B := by
  by_cases h : p
  · simp only [h, decide_true, if_true]; exact h1 h
  · simp only [h, decide_false, Bool.false_eq_true, if_false]; exact h2 h
theorem iteND {p : Prop} [Decidable p] {A B : Prop} (h1 : ¬ p → A) (h2 : p → B) : if (!decide p) = true then A else B := by
  by_cases h : p
  · simp only [h, decide_true, Bool.not_true, Bool.false_eq_true, if_false]; exact h2 h
  · simp only [h, decide_false, Bool.not_false, if_true]; exact h1 h
theorem iteE {i j : Int} {A B : Prop} (h1 : i = j → A) (h2 : i ≠ j → B) : if decide (V.int i = V.int j) = true then A else B :=
  iteD (fun h => h1 (V.int.inj h)) fun h => h2 fun e => h (by rw [e])
theorem iteNE {i j : Int} {A B : Prop} (h1 : i ≠ j → A) (h2 : i = j → B) : if (!decide (V.int i = V.int j)) = true then A else B :=
  iteND (fun h => h1 fun e => h (by rw [e])) fun h => h2 (V.int.inj h)
/-! ### the bag of drawn numbers -/
theorem same_new {H : Hp} {p : Addr} {o : HO} (h : H p = none) : Same H (upd H p o) := fun b x e => by rw [upd_ne (ne_of_none e h)]; exact e
def But (b : Addr) (H H' : Hp) : Prop := ∀ a o, a ≠ b → H a = some o → H' a = some o
theorem But.refl (b : Addr) (H : Hp) : But b H H := fun _ _ _ h => h
theorem But.trans {b : Addr} {H H1 H2 : Hp} (x : But b H H1) (y : But b H1 H2) : But b H H2 := fun a o n h => y a o n (x a o n h)
theorem But.upd {b : Addr} {H H' : Hp} {o : HO} (x : But b H H') : But b H (upd H' b o) := fun a u n h => by rw [upd_ne n]; exact x a u n h
theorem Same.but {b : Addr} {H H' : Hp} (x : Same H H') : But b H H' := fun a o _ h => x a o h
theorem But.new {b p : Addr} {H H' : Hp} {o : HO} (x : But b H H') (h : H' p = none) : But b H (L2.upd H' p o) := x.trans (Same.but (same_new h))
theorem But.get {b a : Addr} {H H' : Hp} {o : HO} (x : But b H H') (n : a ≠ b) (h : H a = some o) : H' a = some o := x a o n h
/-- the bag stands at b: its cells at l, the place, what is held, the seed -/
structure BagAt (H : Hp) (b l : Addr) (cs : List Int) (i h s : Int) : Prop where
  at_ : H b = some (.lst [.ref l, .int i, .int h, .int s])
  cells : H l = some (.lst (cs.map V.int))
  ne : l ≠ b
  len : cs.length ≤ 63
  i0 : 0 ≤ i
  h0 : 0 ≤ h
  s0 : 0 ≤ s
  s1 : s < 2147483647
def Bag (H : Hp) (b l : Addr) : Prop := ∃ cs i h s, BagAt H b l cs i h s
theorem BagAt.same {H H' : Hp} {b l : Addr} {cs : List Int} {i h s : Int} (x : BagAt H b l cs i h s) (e : Same H H') : BagAt H' b l cs i h s := ⟨e _ _ x.at_, e _ _ x.cells, x.ne, x.len, x.i0, x.h0, x.s0, x.s1⟩
theorem Bag.same {H H' : Hp} {b l : Addr} (x : Bag H b l) (e : Same H H') : Bag H' b l := by
  obtain ⟨cs, i, h, s, y⟩ := x
  exact ⟨cs, i, h, s, y.same e⟩
theorem Bag.ne {H : Hp} {a b l : Addr} (x : Bag H b l) (h : H a = none) : a ≠ b := by
  obtain ⟨cs, i, hh, s, y⟩ := x
  exact (ne_of_none y.at_ h).symm
theorem Bag.nl {H : Hp} {a b l : Addr} (x : Bag H b l) (h : H a = none) : a ≠ l := by
  obtain ⟨cs, i, hh, s, y⟩ := x
  exact (ne_of_none y.cells h).symm
theorem Bag.mut {H : Hp} {a b l : Addr} {o : HO} (x : Bag H b l) (h1 : a ≠ b) (h2 : a ≠ l) : Bag (upd H a o) b l := by
  obtain ⟨cs, i, hh, s, y⟩ := x
  exact ⟨cs, i, hh, s, by rw [upd_ne h1.symm]; exact y.at_, by rw [upd_ne h2.symm]; exact y.cells, y.ne, y.len, y.i0, y.h0, y.s0, y.s1⟩
theorem BagAt.set {H : Hp} {b l : Addr} {cs : List Int} {i h s i' h' s' : Int} {o : List V} (x : BagAt H b l cs i h s) (e : o = [.ref l, .int i', .int h', .int s']) (a1 : 0 ≤ i') (a2 : 0 ≤ h') (a3 : 0 ≤ s') (a4 : s' < 2147483647) :
    BagAt (upd H b (.lst o)) b l cs i' h' s' := ⟨by rw [upd_same, e], by rw [upd_ne x.ne]; exact x.cells, x.ne, x.len, a1, a2, a3, a4⟩
theorem bag_set {H : Hp} {b l : Addr} {cs : List Int} {i h s i' h' s' k : Int} {j : Nat} {v : V} {Q : Hp → Prop} (x : BagAt H b l cs i h s) (hj : ixN 4 k = some j)
    (e : ([.ref l, .int i, .int h, .int s] : List V).set j v = [.ref l, .int i', .int h', .int s']) (a1 : 0 ≤ i') (a2 : 0 ≤ h') (a3 : 0 ≤ s') (a4 : s' < 2147483647)
    (q : ∀ H', BagAt H' b l cs i' h' s' → But b H H' → Q H') : rSetL (.ref b) (.int k) v H Q :=
  ⟨b, _, k, j, rfl, rfl, x.at_, hj, q _ (x.set e a1 a2 a3 a4) (But.refl b H).upd⟩
theorem fmod_lo (a : Int) {m : Int} (h : 0 < m) : 0 ≤ a.fmod m := by rw [Int.fmod_eq_emod_of_nonneg _ (by omega)]; exact Int.emod_nonneg _ (by omega)
theorem fmod_hi (a : Int) {m : Int} (h : 0 < m) : a.fmod m < m := by rw [Int.fmod_eq_emod_of_nonneg _ (by omega)]; exact Int.emod_lt_of_pos _ h
theorem nat_lt {z : Int} {n : Nat} (h0 : 0 ≤ z) (h1 : z < 2 ^ n) : z.natAbs < 2 ^ n := by
  have : ((z.natAbs : Int)) < ((2 ^ n : Nat) : Int) := by rw [Int.natAbs_of_nonneg h0]; rw [Int.natCast_pow]; exact h1
  omega
def sp_bag (K : PySem.W.Frag) : Sp := fun vs H Q _ => ∃ (a : Addr) (ns : List Int), vs = [.ref a] ∧ SqL K H a (ns.map V.int) ∧ ns.length ≤ 63 ∧ ∀ b l H', H b = none → H l = none → Same H H' → Bag H' b l → Q (.ref b) H'
/-- an amount that // takes -/
def Fit (n : Int) : Prop := n.natAbs < 2 ^ 8000
theorem Fit.of {n : Int} (h0 : 0 ≤ n) (h : n < 1000000000000000000000000000000000000000000) : Fit n := Nat.lt_of_lt_of_le (show n.natAbs < 2 ^ 140 by omega) (Nat.pow_le_pow_right (by decide) (by decide))
def sp_pull : Sp := fun vs H Q _ => ∃ (b l : Addr) (n : Int), vs = [.ref b, .int n] ∧ Bag H b l ∧ 0 < n ∧ Fit n ∧ ∀ r H', 0 ≤ r → r < n → Bag H' b l → But b H H' → Q (.int r) H'
/-! ### steps of a reading -/
theorem mul_ok {i j : Int} (h1 : i.natAbs < 2 ^ 20000) (h2 : j.natAbs < 2 ^ 20000) : CMulW i j := wide_mul h1 h2 (by decide) (by decide) (by decide)
theorem small_pow {i : Int} {a b : Nat} (h : i.natAbs < 2 ^ a) (hab : a ≤ b) : i.natAbs < 2 ^ b := Nat.lt_of_lt_of_le h (Nat.pow_le_pow_right (by decide) hab)
theorem small_abs {i : Int} (h : i.natAbs < 1000000000000000000000000000000000000000000) : i.natAbs < 2 ^ 20000 := small_pow (a := 140) (Nat.lt_of_lt_of_le h (by decide)) (by decide)
theorem div_ok {i j : Int} (h : 0 < j) (h1 : Fit j) : CDivW i j := wide_div h h1 (by decide) (by decide)
theorem div_small {i j : Int} (h : 0 < j) (h1 : j < 1000000000000000000000000000000) : CDivW i j := div_ok h (Fit.of (by omega) (by omega))
theorem le_line {n : Nat} (h : n ≤ 1000) : n ≤ sizeLine := Nat.le_trans h (by decide)
theorem lt_line {n : Nat} (h : n < 1000) : n < sizeLine := Nat.lt_of_lt_of_le h (by decide)
theorem at0 {a b c d : V} : atI [a, b, c, d] 0 = some a := rfl
theorem at1 {a b c d : V} : atI [a, b, c, d] 1 = some b := rfl
theorem at2 {a b c d : V} : atI [a, b, c, d] 2 = some c := rfl
theorem at3 {a b c d : V} : atI [a, b, c, d] 3 = some d := rfl
/-! ### isinstance of built-in kinds -/
theorem kb_int_list : kitB "int" "list" = some false := by decide +kernel
theorem kb_int_tuple : kitB "int" "tuple" = some false := by decide +kernel
theorem kb_int_dict : kitB "int" "dict" = some false := by decide +kernel
theorem kb_int_bool : kitB "int" "bool" = some false := by decide +kernel
theorem kb_int_int : kitB "int" "int" = some true := by decide +kernel
theorem kb_int_str : kitB "int" "str" = some false := by decide +kernel
theorem kb_str_list : kitB "str" "list" = some false := by decide +kernel
theorem kb_str_tuple : kitB "str" "tuple" = some false := by decide +kernel
theorem kb_str_dict : kitB "str" "dict" = some false := by decide +kernel
theorem kb_str_bool : kitB "str" "bool" = some false := by decide +kernel
theorem kb_str_int : kitB "str" "int" = some false := by decide +kernel
theorem kb_str_str : kitB "str" "str" = some true := by decide +kernel
theorem kb_bool_list : kitB "bool" "list" = some false := by decide +kernel
theorem kb_bool_tuple : kitB "bool" "tuple" = some false := by decide +kernel
theorem kb_bool_dict : kitB "bool" "dict" = some false := by decide +kernel
theorem kb_bool_bool : kitB "bool" "bool" = some true := by decide +kernel
theorem kb_bool_int : kitB "bool" "int" = some true := by decide +kernel
theorem kb_bool_str : kitB "bool" "str" = some false := by decide +kernel
theorem kb_NoneType_list : kitB "NoneType" "list" = some false := by decide +kernel
theorem kb_NoneType_tuple : kitB "NoneType" "tuple" = some false := by decide +kernel
theorem kb_NoneType_dict : kitB "NoneType" "dict" = some false := by decide +kernel
theorem kb_NoneType_bool : kitB "NoneType" "bool" = some false := by decide +kernel
theorem kb_NoneType_int : kitB "NoneType" "int" = some false := by decide +kernel
theorem kb_NoneType_str : kitB "NoneType" "str" = some false := by decide +kernel
theorem kb_list_list : kitB "list" "list" = some true := by decide +kernel
theorem kb_list_tuple : kitB "list" "tuple" = some false := by decide +kernel
theorem kb_list_dict : kitB "list" "dict" = some false := by decide +kernel
theorem kb_list_bool : kitB "list" "bool" = some false := by decide +kernel
theorem kb_list_int : kitB "list" "int" = some false := by decide +kernel
theorem kb_list_str : kitB "list" "str" = some false := by decide +kernel
theorem kb_tuple_list : kitB "tuple" "list" = some false := by decide +kernel
theorem kb_tuple_tuple : kitB "tuple" "tuple" = some true := by decide +kernel
theorem kb_tuple_dict : kitB "tuple" "dict" = some false := by decide +kernel
theorem kb_tuple_bool : kitB "tuple" "bool" = some false := by decide +kernel
theorem kb_tuple_int : kitB "tuple" "int" = some false := by decide +kernel
theorem kb_tuple_str : kitB "tuple" "str" = some false := by decide +kernel
theorem tyL {K : PySem.W.Frag} {H : Hp} {a : Addr} {xs : List V} (h : SqL K H a xs) : TyX K H (.ref a) (.type "list") := by
  rcases h with (h | ⟨o, h⟩) | ⟨o, its, n, h1, h2, _⟩
  · exact .base (.lst h)
  · exact .base (.frz h)
  · exact .kList h1 h2
theorem tyT {K : PySem.W.Frag} {H : Hp} {a : Addr} {xs : List V} (h : SqT K H a xs) : TyX K H (.ref a) (.type "tuple") := by
  rcases h with (h | ⟨o, h⟩) | ⟨o, its, n, h1, h2, _⟩
  · exact .base (.tup h)
  · exact .fTuple h
  · exact .kTuple h1 h2
/-! ### loops over anything -/
theorem lc_by {J : It} {n : Nat} {g : TG} {tt : TT} {te : TE} {vs : List Nat} {σ : L2.St} {H1 : Hp} {D : Addr} {Qd : Hp → Prop} (Pv : Nat → Hp → Prop) (h0 : Pv 0 (upd H1 D (.lst []))) (hgo : ∀ i H, i < n → Pv i H → J.go i H) (hstop : ∀ H, Pv n H → J.stop n H)
    (hs : ∀ i H x H', i < n → Pv i H → J.yld i H x H' → g x (wipe σ vs) H' fun σ2 H2 => wipe σ2 vs = wipe σ vs ∧ tt σ2 H2 fun b H3 =>
      if b = true then te σ2 H3 fun y H4 => ∃ acc, H4 D = some (.lst acc) ∧ acc.length < sizeLine ∧ Pv (i + 1) (upd H4 D (.lst (acc ++ [y]))) else Pv (i + 1) H3) (hd : ∀ H, Pv n H → Qd H) :
    ∃ W : Nat → Nat → Hp → Prop, (∃ m, W 0 m (upd H1 D (.lst []))) ∧ ∀ i m H, W i m H →
      (J.stop i H ∧ Qd H) ∨ (J.go i H ∧ ∃ Nx : Hp → Prop, (∀ H', Nx H' → ∃ m', m' < m ∧ W (i + 1) m' H') ∧ ∀ x H', J.yld i H x H' → g x (wipe σ vs) H' fun σ2 H2 => wipe σ2 vs = wipe σ vs ∧ tt σ2 H2 fun b H3 =>
        if b = true then te σ2 H3 fun y H4 => ∃ acc, H4 D = some (.lst acc) ∧ acc.length < sizeLine ∧ Nx (upd H4 D (.lst (acc ++ [y]))) else Nx H3) := by
  refine ⟨fun i m H => m = n - i ∧ i ≤ n ∧ Pv i H, ⟨n, by simp, Nat.zero_le _, h0⟩, ?_⟩
  rintro i m H ⟨em, hi, pv⟩
  by_cases hlt : i < n
  · exact .inr ⟨hgo i H hlt pv, Pv (i + 1), fun H' p' => ⟨n - (i + 1), by omega, rfl, hlt, p'⟩, fun x H' y => hs i H x H' hlt pv y⟩
  · have e : i = n := by omega
    rw [e] at pv ⊢
    exact .inl ⟨hstop H pv, hd H pv⟩
theorem for_by {J : It} {n : Nat} {g : TG} {tb : TS} {D : Ends} {σ : L2.St} {H : Hp} (Pv : Nat → L2.St → Hp → Prop) (h0 : Pv 0 σ H) (hgo : ∀ i σ H, i < n → Pv i σ H → J.go i H) (hstop : ∀ σ H, Pv n σ H → J.stop n H)
    (hs : ∀ i σ H x H', i < n → Pv i σ H → J.yld i H x H' → g x σ H' fun σ2 H2 => tb { D with nx := Pv (i + 1), ct := Pv (i + 1), bk := D.nx } σ2 H2) (hd : ∀ σ H, Pv n σ H → D.nx σ H) :
    ∃ W : Nat → Nat → L2.St → Hp → Prop, (∃ m, W 0 m σ H) ∧ ∀ i m σ H, W i m σ H →
      (J.stop i H ∧ D.nx σ H) ∨ (J.go i H ∧ ∃ N : L2.St → Hp → Prop, (∀ σ' H', N σ' H' → ∃ m', m' < m ∧ W (i + 1) m' σ' H') ∧ ∀ x H', J.yld i H x H' → g x σ H' fun σ2 H2 => tb { D with nx := N, ct := N, bk := D.nx } σ2 H2) := by
  refine ⟨fun i m σ H => m = n - i ∧ i ≤ n ∧ Pv i σ H, ⟨n, by simp, Nat.zero_le _, h0⟩, ?_⟩
  rintro i m σ H ⟨em, hi, pv⟩
  by_cases hlt : i < n
  · exact .inr ⟨hgo i σ H hlt pv, Pv (i + 1), fun σ' H' p' => ⟨n - (i + 1), by omega, rfl, hlt, p'⟩, fun x H' y => hs i σ H x H' hlt pv y⟩
  · have e : i = n := by omega
    rw [e] at pv ⊢
    exact .inl ⟨hstop σ H pv, hd σ H pv⟩
theorem at_zero {α : Type} {x : α} {xs : List α} : atI (x :: xs) 0 = some x := by
  show atI (x :: xs) ((0 : Nat) : Int) = some x
  exact atI_nat rfl
theorem Same.mut {H H' : Hp} {p : Addr} {o : HO} (e : Same H H') (h : H p = none) : Same H (upd H' p o) := fun a u ha => by
  rw [upd_ne (ne_of_none ha h)]
  exact e a u ha
theorem Same.new {H H' : Hp} {p : Addr} {o : HO} (e : Same H H') (h : H' p = none) : Same H (upd H' p o) := Same.trans e (same_new h)
theorem Same.tup {K : PySem.W.Frag} {H H' : Hp} {a : Addr} {xs : List V} (e : Same H H') (h : SqT K H a xs) : SqT K H' a xs := by
  rcases h with (h | ⟨o, h⟩) | h
  · exact .inl (.inl (e _ _ h))
  · exact .inl (.inr ⟨o, e _ _ h⟩)
  · exact .inr h

/-! ### data -/
/-- data at any depth; an instance that is not changed; an address -/
inductive D where
  | non | bl (b : Bool) | int (i : Int) | str (z : Str)
  | tup (l : List D) | lst (l : List D)
  | ins (C : Addr) (l : List (Str × D))
  | oth (v : V)
  | fn (l : List (Addr × HO))
  | any
abbrev Ads := List Addr
mutual
/-- v is the data d; O: what may be changed, which d does not hold -/
inductive At (K : PySem.W.Frag) (O : Ads) (H : Hp) : V → D → Prop
  | non : At K O H .non .non
  | bl (b : Bool) : At K O H (.bl b) (.bl b)
  | int (i : Int) : At K O H (.int i) (.int i)
  | str (z : Str) : At K O H (.str z) (.str z)
  | tup {a : Addr} {xs : List V} {ds : List D} : SqT K H a xs → (a ∉ O ∨ ∀ H', SqT K H' a xs) → AtAll K O H xs ds → At K O H (.ref a) (.tup ds)
  | lst {a : Addr} {xs : List V} {ds : List D} : H a = some (.lst xs) → a ∉ O → AtAll K O H xs ds → At K O H (.ref a) (.lst ds)
  | ins {a C dx : Addr} {fs : List (Str × V)} {ds : List (Str × D)} : H a = some (.ins C dx fs) → a ∉ O → AtFs K O H fs ds → At K O H (.ref a) (.ins C ds)
  | oth (v : V) : At K O H v (.oth v)
  | fn {f : Addr} {o : HO} {r : List (Addr × HO)} : (∀ p ∈ (f, o) :: r, H p.1 = some p.2 ∧ p.1 ∉ O ∧ ∀ ps, p.2 ≠ .tbl ps) → At K O H (.ref f) (.fn ((f, o) :: r))
  | any (a : Addr) : At K O H (.ref a) .any
inductive AtAll (K : PySem.W.Frag) (O : Ads) (H : Hp) : List V → List D → Prop
  | nil : AtAll K O H [] []
  | cons {v : V} {vs : List V} {d : D} {ds : List D} : At K O H v d → AtAll K O H vs ds → AtAll K O H (v :: vs) (d :: ds)
inductive AtFs (K : PySem.W.Frag) (O : Ads) (H : Hp) : List (Str × V) → List (Str × D) → Prop
  | nil : AtFs K O H [] []
  | cons {x : Str} {v : V} {vs : List (Str × V)} {d : D} {ds : List (Str × D)} : At K O H v d → AtFs K O H vs ds → AtFs K O H ((x, v) :: vs) ((x, d) :: ds)
end
/-- all but N is as it was -/
def Fr (N : Ads) (H H' : Hp) : Prop := ∀ a o, a ∉ N → H a = some o → (∀ ps, o ≠ .tbl ps) → H' a = some o
theorem Fr.refl (N : Ads) (H : Hp) : Fr N H H := fun _ _ _ h _ => h
theorem Fr.trans {N : Ads} {H H1 H2 : Hp} (x : Fr N H H1) (y : Fr N H1 H2) : Fr N H H2 := fun a o n h t => y a o n (x a o n h t) t
theorem Fr.mono {N M : Ads} {H H' : Hp} (x : Fr N H H') (h : ∀ a ∈ N, a ∈ M) : Fr M H H' := fun a o n => x a o fun m => n (h a m)
theorem Fr.of {N : Ads} {H H' : Hp} (x : Same H H') : Fr N H H' := fun a o _ h _ => x a o h
theorem Fr.sqT {K : PySem.W.Frag} {N : Ads} {H H' : Hp} {a : Addr} {xs : List V} (x : Fr N H H') (h : SqT K H a xs) (n : a ∉ N ∨ ∀ H', SqT K H' a xs) : SqT K H' a xs := by
  rcases n with n | n
  · rcases h with (h | ⟨o, h⟩) | h
    · exact .inl (.inl (x _ _ n h fun _ z => nomatch z))
    · exact .inl (.inr ⟨o, x _ _ n h fun _ z => nomatch z⟩)
    · exact .inr h
  · exact n _
theorem Fr.sqL {K : PySem.W.Frag} {N : Ads} {H H' : Hp} {a : Addr} {xs : List V} (x : Fr N H H') (h : SqL K H a xs) (n : a ∉ N ∨ ∀ H', SqL K H' a xs) : SqL K H' a xs := by
  rcases n with n | n
  · rcases h with (h | ⟨o, h⟩) | h
    · exact .inl (.inl (x _ _ n h fun _ z => nomatch z))
    · exact .inl (.inr ⟨o, x _ _ n h fun _ z => nomatch z⟩)
    · exact .inr h
  · exact n _
section
variable {K : PySem.W.Frag} {O O' : Ads} {H H' : Hp}
mutual
theorem At.fr (x : Fr O H H') : ∀ {v : V} {d : D}, At K O H v d → At K O H' v d
  | _, _, .fn h => .fn fun p m => ⟨x _ _ (h p m).2.1 (h p m).1 (h p m).2.2, (h p m).2⟩
  | _, _, .any v => .any v
  | _, _, .non => .non
  | _, _, .bl b => .bl b
  | _, _, .int i => .int i
  | _, _, .str z => .str z
  | _, _, .tup h n t => .tup (x.sqT h n) n (AtAll.fr x t)
  | _, _, .lst h n t => .lst (x _ _ n h fun _ z => nomatch z) n (AtAll.fr x t)
  | _, _, .ins h n t => .ins (x _ _ n h fun _ z => nomatch z) n (AtFs.fr x t)
  | _, _, .oth v => .oth v
theorem AtAll.fr (x : Fr O H H') : ∀ {v : List V} {d : List D}, AtAll K O H v d → AtAll K O H' v d
  | _, _, .nil => .nil
  | _, _, .cons h t => .cons (At.fr x h) (AtAll.fr x t)
theorem AtFs.fr (x : Fr O H H') : ∀ {v : List (Str × V)} {d : List (Str × D)}, AtFs K O H v d → AtFs K O H' v d
  | _, _, .nil => .nil
  | _, _, .cons h t => .cons (At.fr x h) (AtFs.fr x t)
end
mutual
/-- what is known to be elsewhere may be excluded too; less may be excluded -/
theorem At.ex (x : ∀ a, a ∉ O → (∃ o, H a = some o) → a ∉ O') (k : ∀ a xs, SqT K H a xs → a ∉ O → a ∉ O' ∨ ∀ H', SqT K H' a xs) : ∀ {v : V} {d : D}, At K O H v d → At K O' H v d
  | _, _, .fn h => .fn fun p m => ⟨(h p m).1, x _ (h p m).2.1 ⟨_, (h p m).1⟩, (h p m).2.2⟩
  | _, _, .any v => .any v
  | _, _, .non => .non
  | _, _, .bl b => .bl b
  | _, _, .int i => .int i
  | _, _, .str z => .str z
  | _, _, .tup h n t => .tup h (n.elim (k _ _ h) .inr) (AtAll.ex x k t)
  | _, _, .lst h n t => .lst h (x _ n ⟨_, h⟩) (AtAll.ex x k t)
  | _, _, .ins h n t => .ins h (x _ n ⟨_, h⟩) (AtFs.ex x k t)
  | _, _, .oth v => .oth v
theorem AtAll.ex (x : ∀ a, a ∉ O → (∃ o, H a = some o) → a ∉ O') (k : ∀ a xs, SqT K H a xs → a ∉ O → a ∉ O' ∨ ∀ H', SqT K H' a xs) : ∀ {v : List V} {d : List D}, AtAll K O H v d → AtAll K O' H v d
  | _, _, .nil => .nil
  | _, _, .cons h t => .cons (At.ex x k h) (AtAll.ex x k t)
theorem AtFs.ex (x : ∀ a, a ∉ O → (∃ o, H a = some o) → a ∉ O') (k : ∀ a xs, SqT K H a xs → a ∉ O → a ∉ O' ∨ ∀ H', SqT K H' a xs) : ∀ {v : List (Str × V)} {d : List (Str × D)}, AtFs K O H v d → AtFs K O' H v d
  | _, _, .nil => .nil
  | _, _, .cons h t => .cons (At.ex x k h) (AtFs.ex x k t)
end
theorem At.less (x : ∀ a, a ∈ O' → a ∈ O) {v : V} {d : D} (h : At K O H v d) : At K O' H v d := At.ex (fun _ n _ m => n (x _ m)) (fun _ _ _ n => .inl fun m => n (x _ m)) h
theorem AtAll.less (x : ∀ a, a ∈ O' → a ∈ O) {v : List V} {d : List D} (h : AtAll K O H v d) : AtAll K O' H v d := AtAll.ex (fun _ n _ m => n (x _ m)) (fun _ _ _ n => .inl fun m => n (x _ m)) h
/-- a written tuple, at any heap -/
theorem sqT_any {a : Addr} {xs : List V} (h : SqT K H a xs) : (∃ o, H a = some o) ∨ ∀ H', SqT K H' a xs := by
  rcases h with (h | ⟨o, h⟩) | h
  · exact .inl ⟨_, h⟩
  · exact .inl ⟨_, h⟩
  · exact .inr fun _ => .inr h
theorem sqL_any {a : Addr} {xs : List V} (h : SqL K H a xs) : (∃ o, H a = some o) ∨ ∀ H', SqL K H' a xs := by
  rcases h with (h | ⟨o, h⟩) | h
  · exact .inl ⟨_, h⟩
  · exact .inl ⟨_, h⟩
  · exact .inr fun _ => .inr h
/-- what did not stand in H may be excluded -/
theorem At.new (x : ∀ a, a ∈ O' → a ∈ O ∨ H a = none) {v : V} {d : D} (h : At K O H v d) : At K O' H v d := by
  have y : ∀ a, a ∉ O → (∃ o, H a = some o) → a ∉ O' := fun a n ⟨o, e⟩ m => (x a m).elim n fun q => by rw [q] at e; cases e
  exact At.ex y (fun a xs h n => (sqT_any h).elim (fun e => .inl (y a n e)) .inr) h
theorem AtAll.new (x : ∀ a, a ∈ O' → a ∈ O ∨ H a = none) {v : List V} {d : List D} (h : AtAll K O H v d) : AtAll K O' H v d := by
  have y : ∀ a, a ∉ O → (∃ o, H a = some o) → a ∉ O' := fun a n ⟨o, e⟩ m => (x a m).elim n fun q => by rw [q] at e; cases e
  exact AtAll.ex y (fun a xs h n => (sqT_any h).elim (fun e => .inl (y a n e)) .inr) h
theorem AtAll.length {vs : List V} {ds : List D} (h : AtAll K O H vs ds) : vs.length = ds.length := by
  induction vs generalizing ds with
  | nil => cases h; rfl
  | cons v vs ih =>
    cases h with
    | cons a b => rw [List.length_cons, List.length_cons, ih b]
theorem AtAll.get {vs : List V} {ds : List D} (h : AtAll K O H vs ds) {i : Nat} {v : V} (e : vs[i]? = some v) : ∃ d, ds[i]? = some d ∧ At K O H v d := by
  induction vs generalizing ds i with
  | nil => simp at e
  | cons x vs ih =>
    cases h with
    | cons a b =>
      cases i with
      | zero => cases e; exact ⟨_, rfl, a⟩
      | succ i => exact ih b (by simpa using e)
theorem AtAll.getD {vs : List V} {ds : List D} (h : AtAll K O H vs ds) {i : Nat} {d : D} (e : ds[i]? = some d) : ∃ v, vs[i]? = some v ∧ At K O H v d := by
  induction vs generalizing ds i with
  | nil => cases h; simp at e
  | cons x vs ih =>
    cases h with
    | cons a b =>
      cases i with
      | zero => cases e; exact ⟨_, rfl, a⟩
      | succ i => exact ih b (by simpa using e)
theorem AtAll.append {vs ws : List V} {ds es : List D} (h : AtAll K O H vs ds) (g : AtAll K O H ws es) : AtAll K O H (vs ++ ws) (ds ++ es) := by
  induction vs generalizing ds with
  | nil => cases h; exact g
  | cons x vs ih =>
    cases h with
    | cons a b => exact .cons a (ih b)
theorem AtAll.take {vs : List V} {ds : List D} (h : AtAll K O H vs ds) (n : Nat) : AtAll K O H (vs.take n) (ds.take n) := by
  induction vs generalizing ds n with
  | nil => cases h; simp; exact .nil
  | cons x vs ih =>
    cases h with
    | cons a b =>
      cases n with
      | zero => exact .nil
      | succ n => exact .cons a (ih b n)
theorem AtAll.drop {vs : List V} {ds : List D} (h : AtAll K O H vs ds) (n : Nat) : AtAll K O H (vs.drop n) (ds.drop n) := by
  induction vs generalizing ds n with
  | nil => cases h; simp; exact .nil
  | cons x vs ih =>
    cases h with
    | cons a b =>
      cases n with
      | zero => exact .cons a b
      | succ n => exact ih b n
theorem AtAll.set {vs : List V} {ds : List D} (h : AtAll K O H vs ds) (i : Nat) {v : V} {d : D} (g : At K O H v d) : AtAll K O H (vs.set i v) (ds.set i d) := by
  induction vs generalizing ds i with
  | nil => cases h; exact .nil
  | cons x vs ih =>
    cases h with
    | cons a b =>
      cases i with
      | zero => exact .cons g b
      | succ i => exact .cons a (ih b i)
theorem AtAll.reverse {vs : List V} {ds : List D} (h : AtAll K O H vs ds) : AtAll K O H vs.reverse ds.reverse := by
  induction vs generalizing ds with
  | nil => cases h; exact .nil
  | cons x vs ih =>
    cases h with
    | cons a b => rw [List.reverse_cons, List.reverse_cons]; exact (ih b).append (.cons a .nil)
theorem AtAll.dropLast {vs : List V} {ds : List D} (h : AtAll K O H vs ds) : AtAll K O H vs.dropLast ds.dropLast := by
  rw [List.dropLast_eq_take, List.dropLast_eq_take, h.length]
  exact h.take _
theorem AtAll.of {vs : List V} {ds : List D} (hl : vs.length = ds.length) (h : ∀ (i : Nat) (v : V) (d : D), vs[i]? = some v → ds[i]? = some d → At K O H v d) : AtAll K O H vs ds := by
  induction vs generalizing ds with
  | nil =>
    cases ds with
    | nil => exact .nil
    | cons d ds => cases hl
  | cons v vs ih =>
    cases ds with
    | nil => cases hl
    | cons d ds => exact .cons (h 0 _ _ rfl rfl) (ih (Nat.succ.inj hl) fun i a b e1 e2 => h (i + 1) a b (by simpa using e1) (by simpa using e2))
end

theorem AtAll.one {K : PySem.W.Frag} {O : Ads} {H : Hp} {v : V} {d : D} (h : At K O H v d) : AtAll K O H [v] [d] := .cons h .nil
/-! ### what the slots hold -/
/-- an object that is one's own: a list, an instance -/
inductive Cd where
  | lst (l : List D) | ins (C dx : Addr) (l : List (Str × D)) | dK (l : List (Key × D)) | dT (l : List (List Key × D))
@[reducible] def Cd.d : Cd → D
  | .lst l => .lst l
  | .ins C _ l => .ins C l
  | _ => .any
inductive CAt (K : PySem.W.Frag) (O : Ads) (H : Hp) : HO → Cd → Prop
  | lst {vs : List V} {ds : List D} : AtAll K O H vs ds → CAt K O H (.lst vs) (.lst ds)
  | ins {C dx : Addr} {fs : List (Str × V)} {ds : List (Str × D)} : AtFs K O H fs ds → CAt K O H (.ins C dx fs) (.ins C dx ds)
  | dK {kvs : List (Key × V)} {l : List (Key × D)} : kvs.map (·.1) = l.map (·.1) → AtAll K O H (kvs.map (·.2)) (l.map (·.2)) → CAt K O H (.dK kvs) (.dK l)
  | dT {kvs : List (List Key × V)} {l : List (List Key × D)} : kvs.map (·.1) = l.map (·.1) → AtAll K O H (kvs.map (·.2)) (l.map (·.2)) → CAt K O H (.dT kvs) (.dT l)
section
variable {K : PySem.W.Frag} {O O' : Ads} {H H' : Hp} {o : HO} {c : Cd}
theorem CAt.fr (a : CAt K O H o c) (x : Fr O H H') : CAt K O H' o c := by
  cases a with
  | lst a => exact .lst (a.fr x)
  | ins a => exact .ins (AtFs.fr x a)
  | dK e a => exact .dK e (a.fr x)
  | dT e a => exact .dT e (a.fr x)
theorem CAt.less (x : ∀ a, a ∈ O' → a ∈ O) (a : CAt K O H o c) : CAt K O' H o c := by
  cases a with
  | lst a => exact .lst (a.less x)
  | ins a => exact .ins (AtFs.ex (fun _ n _ m => n (x _ m)) (fun _ _ _ n => .inl fun m => n (x _ m)) a)
  | dK e a => exact .dK e (a.less x)
  | dT e a => exact .dT e (a.less x)
theorem CAt.new (x : ∀ a, a ∈ O' → a ∈ O ∨ H a = none) (a : CAt K O H o c) : CAt K O' H o c := by
  have y : ∀ a, a ∉ O → (∃ o, H a = some o) → a ∉ O' := fun a n ⟨o, e⟩ m => (x a m).elim n fun q => by rw [q] at e; cases e
  cases a with
  | lst a => exact .lst (a.new x)
  | ins a => exact .ins (AtFs.ex y (fun a xs h n => (sqT_any h).elim (fun e => .inl (y a n e)) .inr) a)
  | dK e a => exact .dK e (a.new x)
  | dT e a => exact .dT e (a.new x)
theorem CAt.nt (a : CAt K O H o c) : ∀ ps, o ≠ .tbl ps := by
  cases a with
  | lst a => exact fun _ z => nomatch z
  | ins a => exact fun _ z => nomatch z
  | dK e a => exact fun _ z => nomatch z
  | dT e a => exact fun _ z => nomatch z
theorem CAt.at_ {p : Addr} (a : CAt K O H o c) (h : H p = some o) (n : p ∉ O) : At K O H (.ref p) c.d := by
  cases a with
  | lst a => exact .lst h n a
  | ins a => exact .ins h n a
  | dK e a => exact .any _
  | dT e a => exact .any _
end
inductive Sl where
  | no | val (d : D) | cell (p : Addr) (c : Cd)
@[reducible] def Sl.own (p : Addr) (l : List D) : Sl := .cell p (.lst l)
def Sl.o : Sl → Ads
  | .cell p _ => [p]
  | _ => []
def owns : List Sl → Ads
  | [] => []
  | s :: ρ => s.o ++ owns ρ
inductive SlAt (K : PySem.W.Frag) (O : Ads) (H : Hp) : Option V → Sl → Prop
  | no (x : Option V) : SlAt K O H x .no
  | val {v : V} {d : D} : At K O H v d → SlAt K O H (some v) (.val d)
  | cell {p : Addr} {o : HO} {c : Cd} : H p = some o → CAt K O H o c → SlAt K O H (some (.ref p)) (.cell p c)
inductive Sls (K : PySem.W.Frag) (O : Ads) (H : Hp) : L2.St → List Sl → Prop
  | nil : Sls K O H [] []
  | cons {v : Option V} {σ : L2.St} {s : Sl} {ρ : List Sl} : SlAt K O H v s → Sls K O H σ ρ → Sls K O H (v :: σ) (s :: ρ)
structure Ex where
  C : Addr
  fld : Str
  code : Str
  val : D
/-- where a reading stands: O0 what callers may change, H0 the heap at the def's beginning, N what the def may change, hv hd what is held besides, E X what may leave it -/
structure Cz where
  O0 : Ads
  H0 : Hp
  N : Ads
  bags : List (Addr × Addr)
  hv : List V
  hd : List D
  E : XK
  X : Ex → Prop
  tabs : Ads
def Raised (C : Addr) (fld code : Str) (v : V) (H : Hp) (E : XK) : Prop := ∀ dd, H dd = none → E (.ref C) (some dd) (upd H dd (.xd [(fld, v), ("code", .str code)]))
abbrev Os (C : Cz) (ρ : List Sl) : Ads := C.O0 ++ owns ρ
/-- a table of the law's lambdas -/
abbrev qLamS : Str := "law.<locals>.<lambda>"
abbrev Tab (H : Hp) (p : Addr) : Prop := LamX.TabS H p qLamS
theorem Tab.upd {H : Hp} {p a : Addr} {o : HO} (t : Tab H p) (ha : (∃ xs, H a = some (.lst xs)) ∨ (∃ C dx fs, H a = some (.ins C dx fs)) ∨ (∃ kvs, H a = some (.dK kvs)) ∨ ∃ kvs, H a = some (.dT kvs)) : Tab (L2.upd H a o) p := by
  obtain ⟨ps, h1, h2, h3⟩ := t
  have k : ∀ b u, H b = some u → (∀ xs, u ≠ .lst xs) → (∀ C dx fs, u ≠ .ins C dx fs) → (∀ kvs, u ≠ .dK kvs) → (∀ kvs, u ≠ .dT kvs) → L2.upd H a o b = some u := fun b u e n1 n2 n3 n4 => by
    rw [upd_ne]
    · exact e
    · intro z
      subst z
      rcases ha with ⟨xs, z⟩ | ⟨C, dx, fs, z⟩ | ⟨kvs, z⟩ | ⟨kvs, z⟩
      · exact n1 xs (Option.some.inj (e.symm.trans z))
      · exact n2 C dx fs (Option.some.inj (e.symm.trans z))
      · exact n3 kvs (Option.some.inj (e.symm.trans z))
      · exact n4 kvs (Option.some.inj (e.symm.trans z))
  refine ⟨ps, k _ _ h1 (fun _ z => nomatch z) (fun _ _ _ z => nomatch z) (fun _ z => nomatch z) (fun _ z => nomatch z), h2, fun pos cv hc => ?_⟩
  obtain ⟨c, e1, e2⟩ := h3 pos cv hc
  exact ⟨c, e1, k _ _ e2 (fun _ z => nomatch z) (fun _ _ _ z => nomatch z) (fun _ z => nomatch z) (fun _ z => nomatch z)⟩
/-- the bag alone has changed -/
theorem Tab.but {H H' : Hp} {p a : Addr} (t : Tab H p) (e : But a H H') (ha : ∃ xs, H a = some (.lst xs)) : Tab H' p := by
  obtain ⟨ps, h1, h2, h3⟩ := t
  have k : ∀ b u, H b = some u → (∀ xs, u ≠ .lst xs) → H' b = some u := fun b u e1 n1 => e b u (fun z => by
    subst z
    obtain ⟨xs, z⟩ := ha
    exact n1 xs (Option.some.inj (e1.symm.trans z))) e1
  refine ⟨ps, k _ _ h1 (fun _ z => nomatch z), h2, fun pos cv hc => ?_⟩
  obtain ⟨c, e1, e2⟩ := h3 pos cv hc
  exact ⟨c, e1, k _ _ e2 (fun _ z => nomatch z)⟩
/-- nothing stood there, but a table -/
def Void (H : Hp) (p : Addr) : Prop := ∀ o, H p = some o → ∃ ps, o = .tbl ps
theorem Void.of {H : Hp} {p : Addr} (h : H p = none) : Void H p := fun o e => by rw [h] at e; cases e
structure St (K : PySem.W.Frag) (C : Cz) (ρ : List Sl) (σ : L2.St) (H : Hp) : Prop where
  sl : Sls K (Os C ρ) H σ ρ
  nd : (owns ρ).Nodup
  fr : Fr C.N C.H0 H
  lv : ∀ p, p ∈ Os C ρ → H p ≠ none
  nO : (∀ p, p ∈ C.N → p ∈ C.O0) ∧ ∀ q, q ∈ C.bags → q.1 ∈ C.N ∨ C.H0 q.1 = none
  fresh : ∀ p, p ∈ owns ρ → Void C.H0 p ∧ p ∉ C.O0
  bg : ∀ q, q ∈ C.bags → Bag H q.1 q.2 ∧ q.1 ∈ C.O0 ∧ q.2 ∉ Os C ρ
  held : AtAll K (Os C ρ) H C.hv C.hd
  ex : ∀ x, C.X x → ∀ v H', Fr C.N C.H0 H' → (∀ p, p ∈ C.O0 → H' p ≠ none) → (∀ q, q ∈ C.bags → Bag H' q.1 q.2) → (∀ p, p ∈ C.tabs → Tab H' p) → At K C.O0 H' v x.val → Raised x.C x.fld x.code v H' C.E
  tb : ∀ p, p ∈ C.tabs → Tab H p
/-- what an expression may change: the bags -/
abbrev Bs (C : Cz) : Ads := C.bags.map (·.1)
/-- the expression gives a data of which P holds -/
def Ev (K : PySem.W.Frag) (C : Cz) (te : TE) (ρ : List Sl) (P : D → Prop) : Prop := ∀ σ H Q, St K C ρ σ H → (∀ d v H', P d → St K C ρ σ H' → Fr (Bs C) H H' → At K (Os C ρ) H' v d → Q v H') → te σ H Q
def EvA (K : PySem.W.Frag) (C : Cz) (ta : TA) (ρ : List Sl) (P : List D → Prop) : Prop := ∀ σ H Q, St K C ρ σ H → (∀ ds vs H', P ds → St K C ρ σ H' → Fr (Bs C) H H' → AtAll K (Os C ρ) H' vs ds → Q vs H') → ta σ H Q
def EvT (K : PySem.W.Frag) (C : Cz) (tt : TT) (ρ : List Sl) (P : Bool → Prop) : Prop := ∀ σ H Q, St K C ρ σ H → (∀ b H', P b → St K C ρ σ H' → Fr (Bs C) H H' → Q b H') → tt σ H Q
/-- the expression gives a new list -/
def EvF (K : PySem.W.Frag) (C : Cz) (te : TE) (ρ : List Sl) (P : List D → Prop) : Prop := ∀ σ H Q, St K C ρ σ H → (∀ ds p H', P ds → St K C (ρ ++ [.own p ds]) (σ ++ [some (.ref p)]) H' → Fr (Bs C) H H' → Q (.ref p) H') → te σ H Q
inductive Out where
  | nx (ρ : List Sl) | rt (d : D) | bk (ρ : List Sl) | ct (ρ : List Sl)
structure Sat (K : PySem.W.Frag) (C : Cz) (En : Ends) (P : Out → Prop) : Prop where
  nx : ∀ ρ σ H, P (.nx ρ) → St K C ρ σ H → En.nx σ H
  rt : ∀ d v ρ σ H, P (.rt d) → St K C ρ σ H → At K C.O0 H v d → En.rt v H
  bk : ∀ ρ σ H, P (.bk ρ) → St K C ρ σ H → En.bk σ H
  ct : ∀ ρ σ H, P (.ct ρ) → St K C ρ σ H → En.ct σ H
def Run (K : PySem.W.Frag) (C : Cz) (ts : TS) (ρ : List Sl) (P : Out → Prop) : Prop := ∀ En σ H, St K C ρ σ H → Sat K C En P → ts En σ H

/-! ### slots -/
section
variable {K : PySem.W.Frag} {O O' : Ads} {H H' : Hp} {σ : L2.St} {ρ : List Sl} {s : Sl} {v : V} {d : D} {i : Nat}
theorem Sls.length (h : Sls K O H σ ρ) : σ.length = ρ.length := by
  induction h with
  | nil => rfl
  | cons _ _ ih => rw [List.length_cons, List.length_cons, ih]
theorem Sls.get (h : Sls K O H σ ρ) {i : Nat} (e : ρ[i]? = some s) : ∃ x, σ[i]? = some x ∧ SlAt K O H x s := by
  induction h generalizing i with
  | nil => simp at e
  | cons a _ ih =>
    cases i with
    | zero => cases e; exact ⟨_, rfl, a⟩
    | succ i => exact ih (by simpa using e)
theorem Sls.set (h : Sls K O H σ ρ) (i : Nat) {x : Option V} (a : SlAt K O H x s) : Sls K O H (σ.set i x) (ρ.set i s) := by
  induction h generalizing i with
  | nil => exact .nil
  | cons b t ih =>
    cases i with
    | zero => exact .cons a t
    | succ i => exact .cons b (ih i)
theorem SlAt.map {x : Option V} (h : SlAt K O H x s) (hv : ∀ v d, At K O H v d → At K O' H' v d) (ho : ∀ p xs ds, s = .cell p ds → H p = some xs → CAt K O H xs ds → ∃ ys, H' p = some ys ∧ CAt K O' H' ys ds) : SlAt K O' H' x s := by
  cases h with
  | no => exact .no _
  | val a => exact .val (hv _ _ a)
  | cell e a =>
    obtain ⟨ys, e', a'⟩ := ho _ _ _ rfl e a
    exact .cell e' a'
theorem Sls.map (h : Sls K O H σ ρ) (hv : ∀ v d, At K O H v d → At K O' H' v d) (ho : ∀ p xs ds, Sl.cell p ds ∈ ρ → H p = some xs → CAt K O H xs ds → ∃ ys, H' p = some ys ∧ CAt K O' H' ys ds) : Sls K O' H' σ ρ := by
  induction h with
  | nil => exact .nil
  | cons a t ih => exact .cons (a.map hv fun p xs ds e => ho p xs ds (e ▸ List.mem_cons_self)) (ih fun p xs ds m => ho p xs ds (List.mem_cons_of_mem _ m))
theorem Sls.same (h : Sls K O H σ ρ) (e : Same H H') : Sls K O H' σ ρ :=
  h.map (fun _ _ a => a.fr (.of e)) fun _ _ _ _ h a => ⟨_, e _ _ h, a.fr (.of e)⟩
theorem mem_owns {p : Addr} : ∀ {ρ : List Sl}, p ∈ owns ρ ↔ ∃ l, Sl.cell p l ∈ ρ
  | [] => ⟨fun h => (nomatch h), fun ⟨_, h⟩ => (nomatch h)⟩
  | s :: ρ => by
    have ih := mem_owns (p := p) (ρ := ρ)
    show p ∈ s.o ++ owns ρ ↔ _
    rw [List.mem_append, ih]
    constructor
    · rintro (h | ⟨l, h⟩)
      · cases s with
        | cell q l => cases List.mem_singleton.mp h; exact ⟨l, List.mem_cons_self⟩
        | no => exact nomatch h
        | val d => exact nomatch h
      · exact ⟨l, List.mem_cons_of_mem _ h⟩
    · rintro ⟨l, h⟩
      rcases List.mem_cons.mp h with h | h
      · subst h; exact .inl (List.mem_singleton.mpr rfl)
      · exact .inr ⟨l, h⟩
theorem owns_set_sub (hs : s.o = []) : ∀ (ρ : List Sl) (i : Nat), List.Sublist (owns (ρ.set i s)) (owns ρ)
  | [], i => by simp [owns]
  | t :: ρ, 0 => by
    show List.Sublist (s.o ++ owns ρ) (t.o ++ owns ρ)
    rw [hs]
    exact List.sublist_append_right _ _
  | t :: ρ, i + 1 => (List.Sublist.refl _).append (owns_set_sub hs ρ i)
theorem owns_append (ρ ρ' : List Sl) : owns (ρ ++ ρ') = owns ρ ++ owns ρ' := by
  induction ρ with
  | nil => rfl
  | cons s ρ ih =>
    show s.o ++ owns (ρ ++ ρ') = (s.o ++ owns ρ) ++ owns ρ'
    rw [ih, List.append_assoc]
theorem owns_set_own {p : Addr} {l l' : Cd} : ∀ {ρ : List Sl} {i : Nat}, ρ[i]? = some (.cell p l) → owns (ρ.set i (.cell p l')) = owns ρ
  | [], _, h => by simp at h
  | t :: ρ, 0, h => by cases h; rfl
  | t :: ρ, i + 1, h => by
    show t.o ++ owns (ρ.set i _) = t.o ++ owns ρ
    rw [owns_set_own (by simpa using h)]
end
/-! ### states -/
section
variable {K : PySem.W.Frag} {C : Cz} {H H' : Hp} {σ : L2.St} {ρ : List Sl} {v : V} {d : D} {i : Nat}
theorem St.same (s : St K C ρ σ H) (e : Same H H') : St K C ρ σ H' where
  sl := s.sl.same e
  nd := s.nd
  fr := s.fr.trans (.of e)
  lv := fun p m z => s.lv p m (e.free z)
  nO := s.nO
  fresh := s.fresh
  bg := fun q m => ⟨(s.bg q m).1.same e, (s.bg q m).2⟩
  held := s.held.fr (.of e)
  ex := s.ex
  tb := fun p m => (s.tb p m).ext e
/-- a slot stored -/
theorem St.set (s : St K C ρ σ H) (i : Nat) (a : At K (Os C ρ) H v d) : St K C (ρ.set i (.val d)) (σ.set i (some v)) H := by
  have sub := (owns_set_sub (s := .val d) rfl ρ i)
  have sub2 : ∀ a, a ∈ Os C (ρ.set i (.val d)) → a ∈ Os C ρ := fun a m => (List.mem_append.mp m).elim (fun h => List.mem_append_left _ h) fun h => List.mem_append_right _ (sub.subset h)
  refine ⟨?_, s.nd.sublist sub, s.fr, fun p m => s.lv p (sub2 _ m), s.nO, fun p m => s.fresh p (sub.subset m), fun q m => ⟨(s.bg q m).1, (s.bg q m).2.1, fun z => (s.bg q m).2.2 (sub2 _ z)⟩, s.held.less sub2, s.ex, s.tb⟩
  exact (s.sl.set i (.val a)).map (fun _ _ a => a.less sub2) fun p xs ds _ e a => ⟨_, e, a.less sub2⟩
theorem St.wipe1 (s : St K C ρ σ H) (i : Nat) (x : Option V) : St K C (ρ.set i .no) (σ.set i x) H := by
  have sub := (owns_set_sub (s := .no) rfl ρ i)
  have sub2 : ∀ a, a ∈ Os C (ρ.set i .no) → a ∈ Os C ρ := fun a m => (List.mem_append.mp m).elim (fun h => List.mem_append_left _ h) fun h => List.mem_append_right _ (sub.subset h)
  refine ⟨?_, s.nd.sublist sub, s.fr, fun p m => s.lv p (sub2 _ m), s.nO, fun p m => s.fresh p (sub.subset m), fun q m => ⟨(s.bg q m).1, (s.bg q m).2.1, fun z => (s.bg q m).2.2 (sub2 _ z)⟩, s.held.less sub2, s.ex, s.tb⟩
  exact (s.sl.set i (.no x)).map (fun _ _ a => a.less sub2) fun p xs ds _ e a => ⟨_, e, a.less sub2⟩
theorem own_not_mem {p : Addr} {ds : Cd} : ∀ {ρ : List Sl} {i : Nat}, (owns ρ).Nodup → ρ[i]? = some (.cell p ds) → p ∉ owns (ρ.set i .no)
  | [], _, _, e => by simp at e
  | t :: ρ, 0, nd, e => by
    cases e
    have nd' : (p :: owns ρ).Nodup := nd
    exact (List.nodup_cons.mp nd').1
  | t :: ρ, i + 1, nd, e => by
    have nd' : (t.o ++ owns ρ).Nodup := nd
    have e' : ρ[i]? = some (.cell p ds) := by simpa using e
    intro m
    have m' : p ∈ t.o ++ owns (ρ.set i .no) := m
    rcases List.mem_append.mp m' with m' | m'
    · exact (List.nodup_append.mp nd').2.2 p m' p (mem_owns.mpr ⟨ds, List.mem_of_getElem? e'⟩) rfl
    · exact own_not_mem (List.nodup_append.mp nd').2.1 e' m'
/-- a slot's list is changed no more -/
theorem St.freeze {p : Addr} {ds : Cd} (s : St K C ρ σ H) (e : ρ[i]? = some (.cell p ds)) : σ[i]? = some (some (.ref p)) ∧ At K (Os C (ρ.set i .no)) H (.ref p) ds.d := by
  obtain ⟨x, e1, a⟩ := s.sl.get e
  cases a with
  | cell h b =>
    refine ⟨e1, (b.less fun a m => ?_).at_ h (fun m => ?_)⟩
    rotate_left
    · have mo : p ∈ owns ρ := mem_owns.mpr ⟨ds, List.mem_of_getElem? e⟩
      exact (List.mem_append.mp m).elim (s.fresh p mo).2 (own_not_mem s.nd e)
    · exact (List.mem_append.mp m).elim (fun h => List.mem_append_left _ h) fun h => List.mem_append_right _ ((owns_set_sub (s := .no) rfl ρ i).subset h)
theorem set_set_eq {α : Type} {l : List α} {i : Nat} {a b : α} : (l.set i a).set i b = l.set i b := by simp
theorem set_self {α : Type} {l : List α} {i : Nat} {a : α} (h : l[i]? = some a) : l.set i a = l := by
  apply List.ext_getElem?
  intro j
  by_cases e : i = j
  · subst e
    rw [h]
    obtain ⟨h1, h2⟩ := List.getElem?_eq_some_iff.mp h
    rw [List.getElem?_set_self h1]
  · rw [List.getElem?_set_ne e]
theorem St.frozen {p : Addr} {ds : Cd} (s : St K C ρ σ H) (e : ρ[i]? = some (.cell p ds)) : St K C (ρ.set i (.val ds.d)) σ H := by
  obtain ⟨e1, a⟩ := s.freeze e
  have s1 := (s.wipe1 i none).set i (v := .ref p) (d := ds.d) a
  rw [set_set_eq, set_set_eq, set_self e1] at s1
  exact s1
/-- the list of a slot is changed -/
theorem St.mutC {p : Addr} {ds ds' : Cd} {vs' : HO} (s : St K C ρ σ H) (e : ρ[i]? = some (.cell p ds)) (a : CAt K (Os C ρ) H vs' ds') : St K C (ρ.set i (.cell p ds')) σ (upd H p vs') := by
  have eo := owns_set_own (l' := ds') e
  have mo : p ∈ owns ρ := mem_owns.mpr ⟨ds, List.mem_of_getElem? e⟩
  have mO : p ∈ Os C ρ := List.mem_append_right _ mo
  have f : Fr (Os C ρ) H (upd H p vs') := fun a o n h _ => by rw [upd_ne fun z => n (by rw [z]; exact mO)]; exact h
  obtain ⟨x, e1, b⟩ := s.sl.get e
  have lv : ∀ q, H q ≠ none → upd H p vs' q ≠ none := fun q h => by
    by_cases z : q = p
    · rw [z, upd_same]; simp
    · rw [upd_ne z]; exact h
  have bg : ∀ q, q ∈ C.bags → Bag (upd H p vs') q.1 q.2 := fun q m => by
    obtain ⟨⟨cs, i, h, sd, y⟩, m1, m2⟩ := s.bg q m
    have n1 : q.1 ≠ p := fun z => (s.fresh p mo).2 (z ▸ m1)
    have n2 : q.2 ≠ p := fun z => m2 (z ▸ mO)
    exact ⟨cs, i, h, sd, by rw [upd_ne n1]; exact y.at_, by rw [upd_ne n2]; exact y.cells, y.ne, y.len, y.i0, y.h0, y.s0, y.s1⟩
  cases b with
  | cell h b =>
    refine ⟨?_, by rw [eo]; exact s.nd, fun b o n h0 nt => ?_, fun q m => lv q (s.lv q (by show q ∈ C.O0 ++ owns ρ; rw [← eo]; exact m)), s.nO, fun q m => s.fresh q (by rw [← eo]; exact m), fun q m => ⟨bg q m, (s.bg q m).2.1, ?_⟩, ?_, s.ex, fun q m => (s.tb q m).upd ?_⟩
    · show Sls K (C.O0 ++ owns _) _ _ _
      rw [eo]
      have sl := s.sl
      have nd := s.nd
      have h1 : ∀ q, q ∈ owns ρ → q ≠ p → ∀ xs, H q = some xs → upd H p vs' q = some xs := fun q m n xs h => by rw [upd_ne n]; exact h
      have key : ∀ {σ' : L2.St} {ρ' : List Sl} {j : Nat}, Sls K (Os C ρ) H σ' ρ' → ρ'[j]? = some (.cell p ds) → (owns ρ').Nodup → Sls K (Os C ρ) (upd H p vs') σ' (ρ'.set j (.cell p ds')) := by
        intro σ' ρ' j t
        induction t generalizing j with
        | nil => intro e _; simp at e
        | @cons x σ1 s1 ρ1 a1 t1 ih =>
          intro e nd
          have nd' : (s1.o ++ owns ρ1).Nodup := nd
          cases j with
          | zero =>
            cases e
            cases a1 with
            | cell h2 b2 =>
              refine .cons (.cell upd_same (a.fr f)) (t1.map (fun _ _ a => a.fr f) fun q xs ls m h3 a3 => ⟨xs, ?_, a3.fr f⟩)
              rw [upd_ne]
              · exact h3
              · intro z
                subst z
                have nd2 : (q :: owns ρ1).Nodup := nd'
                exact (List.nodup_cons.mp nd2).1 (mem_owns.mpr ⟨ls, m⟩)
          | succ j =>
            have e' : ρ1[j]? = some (.cell p ds) := by simpa using e
            refine .cons (a1.map (fun _ _ a => a.fr f) fun q xs ls m h3 a3 => ⟨xs, ?_, a3.fr f⟩) (ih e' (List.nodup_append.mp nd').2.1)
            rw [upd_ne]
            · exact h3
            · intro z
              subst z
              subst m
              exact (List.nodup_append.mp nd').2.2 q (List.mem_singleton.mpr rfl) q (mem_owns.mpr ⟨ds, List.mem_of_getElem? e'⟩) rfl
      exact key sl e nd
    · have := s.fr b o n h0 nt
      rw [upd_ne]
      · exact this
      · intro z
        subst z
        obtain ⟨ps, e⟩ := (s.fresh b mo).1 o h0
        exact nt ps e
    · show q.2 ∉ C.O0 ++ owns _
      rw [eo]
      exact (s.bg q m).2.2
    · show AtAll K (C.O0 ++ owns _) _ _ _
      rw [eo]
      exact s.held.fr f
    · cases b with
      | lst b => exact .inl ⟨_, h⟩
      | ins b => exact .inr (.inl ⟨_, _, _, h⟩)
      | dK e b => exact .inr (.inr (.inl ⟨_, h⟩))
      | dT e b => exact .inr (.inr (.inr ⟨_, h⟩))
theorem St.mut {p : Addr} {ds ds' : List D} {vs' : List V} (s : St K C ρ σ H) (e : ρ[i]? = some (.own p ds)) (a : AtAll K (Os C ρ) H vs' ds') : St K C (ρ.set i (.own p ds')) σ (upd H p (.lst vs')) := s.mutC e (.lst a)
/-- a new list of one's own -/
theorem St.ownC {p : Addr} {vs : HO} {ds : Cd} (s : St K C ρ σ H) (n : H p = none) (a : CAt K (Os C ρ) H vs ds) : St K C (ρ ++ [.cell p ds]) (σ ++ [some (.ref p)]) (upd H p vs) := by
  have e : Same H (upd H p vs) := fun b o h => by rw [upd_ne (ne_of_none h n)]; exact h
  have eo : owns (ρ ++ [.cell p ds]) = owns ρ ++ [p] := owns_append ρ _
  have x : ∀ a, a ∈ Os C (ρ ++ [.cell p ds]) → a ∈ Os C ρ ∨ H a = none := fun a m => by
    rw [show Os C (ρ ++ [.cell p ds]) = C.O0 ++ (owns ρ ++ [p]) by rw [← eo], ← List.append_assoc] at m
    rcases List.mem_append.mp m with m | m
    · exact .inl m
    · rw [List.mem_singleton.mp m]; exact .inr n
  have np : p ∉ Os C ρ := fun m => s.lv p m n
  have nN : p ∉ C.N := fun m => np (List.mem_append_left _ (s.nO.1 p m))
  refine ⟨?_, ?_, s.fr.trans (.of e), fun q m => ?_, s.nO, fun q m => ?_, fun q m => ⟨(s.bg q m).1.same e, (s.bg q m).2.1, fun z => ?_⟩, (s.held.new x).fr (.of e), s.ex, fun q m => (s.tb q m).ext e⟩
  · have h1 : Sls K (Os C (ρ ++ [.cell p ds])) (upd H p vs) σ ρ := s.sl.map (fun _ _ a => (a.new x).fr (.of e)) fun _ _ _ _ h a => ⟨_, e _ _ h, (a.new x).fr (.of e)⟩
    have h2 : SlAt K (Os C (ρ ++ [.cell p ds])) (upd H p vs) (some (.ref p)) (.cell p ds) := .cell upd_same ((a.new x).fr (.of e))
    generalize Os C (ρ ++ [.cell p ds]) = O at h1 h2
    clear e eo x np nN s a
    induction h1 with
    | nil => exact .cons h2 .nil
    | cons a t ih => exact .cons a ih
  · rw [eo]
    exact List.nodup_append.mpr ⟨s.nd, by simp, fun a ha b hb z => by rw [List.mem_singleton.mp hb] at z; subst z; exact np (List.mem_append_right _ ha)⟩
  · rcases x q m with h | h
    · exact fun z => s.lv q h (e.free z)
    · rw [show Os C (ρ ++ [.cell p ds]) = C.O0 ++ (owns ρ ++ [p]) by rw [← eo], ← List.append_assoc] at m
      rcases List.mem_append.mp m with m | m
      · exact absurd h (s.lv q m)
      · rw [List.mem_singleton.mp m, upd_same]; simp
  · rw [eo] at m
    rcases List.mem_append.mp m with m | m
    · exact s.fresh q m
    · rw [List.mem_singleton.mp m]
      refine ⟨fun o h => Classical.byContradiction fun z => ?_, fun z => np (List.mem_append_left _ z)⟩
      have := s.fr p o nN h fun ps e => z ⟨ps, e⟩
      rw [n] at this
      cases this
  · rcases x _ z with h | h
    · exact (s.bg q m).2.2 h
    · obtain ⟨cs, i, h', sd, y⟩ := (s.bg q m).1
      rw [y.cells] at h
      cases h
theorem St.own {p : Addr} {vs : List V} {ds : List D} (s : St K C ρ σ H) (n : H p = none) (a : AtAll K (Os C ρ) H vs ds) : St K C (ρ ++ [.own p ds]) (σ ++ [some (.ref p)]) (upd H p (.lst vs)) := s.ownC n (.lst a)
/-- the own list at the end stored in a slot -/
theorem St.land {p : Addr} {ds : Cd} {i : Nat} (s : St K C (ρ ++ [.cell p ds]) (σ ++ [some (.ref p)]) H) (hi : i < ρ.length) : St K C (ρ.set i (.cell p ds)) (σ.set i (some (.ref p))) H := by
  have l0 : σ.length = ρ.length := by
    have := s.sl.length
    simpa using this
  have key : ∀ {σ' : L2.St} {ρ' : List Sl} {j : Nat} {O : Ads}, Sls K O H (σ' ++ [some (.ref p)]) (ρ' ++ [.cell p ds]) → σ'.length = ρ'.length → j < ρ'.length → Sls K O H (σ'.set j (some (.ref p))) (ρ'.set j (.cell p ds)) := by
    intro σ' ρ' j O h l hj
    have last : SlAt K O H (some (.ref p)) (.cell p ds) := by
      obtain ⟨x, e1, a⟩ := h.get (i := ρ'.length) (s := .cell p ds) (by rw [List.getElem?_append_right (Nat.le_refl _)]; simp)
      rw [List.getElem?_append_right (by omega)] at e1
      rw [show ρ'.length - σ'.length = 0 by omega] at e1
      cases e1
      exact a
    have hh : Sls K O H σ' ρ' := by
      clear hj last
      induction σ' generalizing ρ' with
      | nil =>
        cases ρ' with
        | nil => exact .nil
        | cons t ρ' => cases l
      | cons x σ' ih =>
        cases ρ' with
        | nil => cases l
        | cons t ρ' =>
          cases h with
          | cons a b => exact .cons a (ih b (Nat.succ.inj l))
    exact hh.set j last
  have eo : owns (ρ ++ [.cell p ds]) = owns ρ ++ [p] := owns_append ρ _
  have nd := s.nd
  rw [eo] at nd
  have sub : ∀ {ρ' : List Sl} {j : Nat} {a : Addr}, j < ρ'.length → a ∈ owns (ρ'.set j (.cell p ds)) → a ∈ owns ρ' ∨ a = p := by
    intro ρ' j a hj m
    obtain ⟨l, m⟩ := mem_owns.mp m
    rcases List.mem_or_eq_of_mem_set m with m | m
    · exact .inl (mem_owns.mpr ⟨l, m⟩)
    · cases m; exact .inr rfl
  have sub1 : ∀ a, a ∈ owns (ρ.set i (.cell p ds)) → a ∈ owns (ρ ++ [.cell p ds]) := fun a m => by
    rw [eo]
    rcases sub hi m with m | m
    · exact List.mem_append_left _ m
    · exact List.mem_append_right _ (List.mem_singleton.mpr m)
  have sub2 : ∀ a, a ∈ Os C (ρ.set i (.cell p ds)) → a ∈ Os C (ρ ++ [.cell p ds]) := fun a m => (List.mem_append.mp m).elim (fun h => List.mem_append_left _ h) fun h => List.mem_append_right _ (sub1 a h)
  refine ⟨(key s.sl l0 hi).map (fun _ _ a => a.less sub2) fun _ _ _ _ h a => ⟨_, h, a.less sub2⟩, ?_, s.fr, fun q m => s.lv q (sub2 q m), s.nO, fun q m => s.fresh q (sub1 q m), fun q m => ⟨(s.bg q m).1, (s.bg q m).2.1, fun z => (s.bg q m).2.2 (sub2 _ z)⟩, s.held.less sub2, s.ex, s.tb⟩
  have nd1 := (List.nodup_append.mp nd).1
  have np : p ∉ owns ρ := fun m => (List.nodup_append.mp nd).2.2 p m p (List.mem_singleton.mpr rfl) rfl
  have k2 : ∀ {ρ' : List Sl} {j : Nat}, (owns ρ').Nodup → p ∉ owns ρ' → j < ρ'.length → (owns (ρ'.set j (.cell p ds))).Nodup := by
    intro ρ'
    induction ρ' with
    | nil => intro j h1 h2 h3; exact h1
    | cons t ρ' ih =>
      intro j h1 h2 h3
      have h1' : (t.o ++ owns ρ').Nodup := h1
      have h2' : p ∉ t.o ++ owns ρ' := h2
      cases j with
      | zero =>
        show (p :: owns ρ').Nodup
        exact List.nodup_cons.mpr ⟨fun m => h2' (List.mem_append_right _ m), (List.nodup_append.mp h1').2.1⟩
      | succ j =>
        show (t.o ++ owns (ρ'.set j _)).Nodup
        refine List.nodup_append.mpr ⟨(List.nodup_append.mp h1').1, ih (List.nodup_append.mp h1').2.1 (fun m => h2' (List.mem_append_right _ m)) (Nat.lt_of_succ_lt_succ h3), fun a ha b hb z => ?_⟩
        subst z
        rcases sub (Nat.lt_of_succ_lt_succ h3) hb with m | m
        · exact (List.nodup_append.mp h1').2.2 a ha a m rfl
        · subst m; exact h2' (List.mem_append_left _ ha)
  exact k2 nd1 np hi
/-- the own list at the end as a value -/
theorem St.loose {p : Addr} {ds : Cd} (s : St K C (ρ ++ [.cell p ds]) (σ ++ [some (.ref p)]) H) : St K C ρ σ H ∧ At K (Os C ρ) H (.ref p) ds.d := by
  have eo : owns (ρ ++ [.cell p ds]) = owns ρ ++ [p] := owns_append ρ _
  have sub1 : ∀ a, a ∈ owns ρ → a ∈ owns (ρ ++ [.cell p ds]) := fun a m => by rw [eo]; exact List.mem_append_left _ m
  have sub2 : ∀ a, a ∈ Os C ρ → a ∈ Os C (ρ ++ [.cell p ds]) := fun a m => (List.mem_append.mp m).elim (fun h => List.mem_append_left _ h) fun h => List.mem_append_right _ (sub1 a h)
  have nd := s.nd
  rw [eo] at nd
  have l0 : σ.length = ρ.length := by
    have := s.sl.length
    simpa using this
  have key : ∀ {σ' : L2.St} {ρ' : List Sl} {O : Ads}, Sls K O H (σ' ++ [some (.ref p)]) (ρ' ++ [.cell p ds]) → σ'.length = ρ'.length → Sls K O H σ' ρ' ∧ SlAt K O H (some (.ref p)) (.cell p ds) := by
    intro σ'
    induction σ' with
    | nil =>
      intro ρ' O h l
      cases ρ' with
      | nil =>
        cases h with
        | cons a _ => exact ⟨.nil, a⟩
      | cons t ρ' => cases l
    | cons x σ' ih =>
      intro ρ' O h l
      cases ρ' with
      | nil => cases l
      | cons t ρ' =>
        cases h with
        | cons a b =>
          obtain ⟨h1, h2⟩ := ih b (Nat.succ.inj l)
          exact ⟨.cons a h1, h2⟩
  obtain ⟨k1, k2⟩ := key s.sl l0
  refine ⟨⟨k1.map (fun _ _ a => a.less sub2) fun _ _ _ _ h a => ⟨_, h, a.less sub2⟩, (List.nodup_append.mp nd).1, s.fr, fun q m => s.lv q (sub2 q m), s.nO, fun q m => s.fresh q (sub1 q m), fun q m => ⟨(s.bg q m).1, (s.bg q m).2.1, fun z => (s.bg q m).2.2 (sub2 _ z)⟩, s.held.less sub2, s.ex, s.tb⟩, ?_⟩
  cases k2 with
  | cell h a =>
    refine (a.less sub2).at_ h (fun m => ?_)
    rcases List.mem_append.mp m with m | m
    · exact (s.fresh p (by rw [eo]; exact List.mem_append_right _ (List.mem_singleton.mpr rfl))).2 m
    · exact (List.nodup_append.mp nd).2.2 p m p (List.mem_singleton.mpr rfl) rfl
theorem St.up (s : St K C ρ σ H) {H1 H2 : Hp} (f : Fr (Bs C) H1 H2) : Fr (Os C ρ) H1 H2 := f.mono fun a m => by
  obtain ⟨q, hq, rfl⟩ := List.mem_map.mp m
  exact List.mem_append_left _ (s.bg q hq).2.1
theorem St.bfr (s : St K C ρ σ H) (f : Fr (Bs C) H H') (fr : Fr C.N C.H0 H') (lv : ∀ p, p ∈ Os C ρ → H' p ≠ none) (bg : ∀ q, q ∈ C.bags → Bag H' q.1 q.2) (tb : ∀ p, p ∈ C.tabs → Tab H' p) : St K C ρ σ H' :=
  ⟨s.sl.map (fun _ _ a => a.fr (s.up f)) (fun p xs ds m h a => ⟨xs, f p _ (fun z => by
      obtain ⟨q, hq, rfl⟩ := List.mem_map.mp z
      exact (s.fresh _ (mem_owns.mpr ⟨ds, m⟩)).2 (s.bg q hq).2.1) h a.nt, a.fr (s.up f)⟩), s.nd, fr, lv, s.nO, s.fresh, fun q m => ⟨bg q m, (s.bg q m).2⟩, s.held.fr (s.up f), s.ex, tb⟩
/-- bags and tables aside, all is as it was -/
theorem St.kept (s : St K C ρ σ H) (f : Fr [] H H') (lv : ∀ p, p ∈ Os C ρ → H' p ≠ none) (tb : ∀ p, p ∈ C.tabs → Tab H' p) : St K C ρ σ H' :=
  s.bfr (f.mono fun _ m => nomatch m) (s.fr.trans (f.mono fun _ m => nomatch m)) lv (fun q m => by
    obtain ⟨cs, i, hh, sd, y⟩ := (s.bg q m).1
    exact ⟨cs, i, hh, sd, f _ _ List.not_mem_nil y.at_ (fun _ z => nomatch z), f _ _ List.not_mem_nil y.cells (fun _ z => nomatch z), y.ne, y.len, y.i0, y.h0, y.s0, y.s1⟩) tb
theorem St.free {p : Addr} (s : St K C ρ σ H) (n : H p = none) : p ∉ Os C ρ := fun m => s.lv p m n
/-- a new tuple -/
theorem At.mkTup {O : Ads} {p : Addr} {vs : List V} {ds : List D} (n : H p = none) (np : p ∉ O) (a : AtAll K O H vs ds) : At K O (upd H p (.tup vs)) (.ref p) (.tup ds) :=
  .tup (.inl (.inl upd_same)) (.inl np) (a.fr (.of fun b o h => by rw [upd_ne (ne_of_none h n)]; exact h))
theorem same_upd {p : Addr} {o : HO} (n : H p = none) : Same H (upd H p o) := fun b x h => by rw [upd_ne (ne_of_none h n)]; exact h
end

/-! ### readings by names -/
def rIsN : R2 := fun x y H Q => y = .non ∧ Q (.bl (decide (x = .non))) H
def rNotN : R2 := fun x y H Q => y = .non ∧ Q (.bl (!decide (x = .non))) H
def rAddS : R2 := fun x y H Q => ∃ i j, x = .str i ∧ y = .str j ∧ i.length + j.length ≤ sizeLine ∧ Q (.str (i ++ j)) H
def rMulS : R2 := fun x y H Q => ∃ z n, x = .str z ∧ y = .int n ∧ MulOk z n ∧ Q (.str (Txt.mul z n)) H
def rInSg : R2 := fun x y H Q => ∃ (c : Nat) (z : Str), x = .str ⟨#[c]⟩ ∧ y = .str z ∧ Q (.bl (decide (c ∈ z.cps.toList))) H
def rNotInSg : R2 := fun x y H Q => ∃ (c : Nat) (z : Str), x = .str ⟨#[c]⟩ ∧ y = .str z ∧ Q (.bl (!decide (c ∈ z.cps.toList))) H
abbrev RC := List V → Hp → VK → Prop
def rLenS : RC := fun xs H Q => ∃ z, xs = [.str z] ∧ z.length ≤ sizeLine ∧ Q (.int z.length) H
def rAbs : RC := fun xs H Q => ∃ i, xs = [.int i] ∧ Q (.int (if i < 0 then -i else i)) H
def rInt1 : RC := fun xs H Q => (∃ i, xs = [.int i] ∧ Q (.int i) H) ∨ ∃ k, xs = [.bl k] ∧ Q (.int (if k then 1 else 0)) H
def rIntS : RC := fun xs H Q => ∃ a n, xs = [.str a] ∧ PySem.intText? a = some n ∧ a.length ≤ 640 ∧ Q (.int n) H
def rStrI : RC := fun xs H Q => ∃ i, xs = [.int i] ∧ i.natAbs.log2 < 1920 ∧ Q (.str (toString i)) H
def rMax2 : RC := fun xs H Q => ∃ i j, xs = [.int i, .int j] ∧ Q (.int (if j > i then j else i)) H
def rMin2 : RC := fun xs H Q => ∃ i j, xs = [.int i, .int j] ∧ Q (.int (if j < i then j else i)) H
abbrev RM := V → List V → Hp → VK → Prop
def rStarts : RM := fun x xs H Q => ∃ a b, x = .str a ∧ xs = [.str b] ∧ Q (.bl (Txt.startswith a b)) H
def rEnds : RM := fun x xs H Q => ∃ a b, x = .str a ∧ xs = [.str b] ∧ Q (.bl (Txt.endswith a b)) H
def rSplitS : RM := fun x xs H Q => ∃ a b, x = .str a ∧ xs = [.str b] ∧ (b.length == 0) = false ∧ a.length + 2 ≤ sizeLine ∧ rNewStrs (Txt.split a b) H Q
def rJoinS (K : PySem.W.Frag) : RM := fun x xs H Q => ∃ a p, ∃ ys : List Str, x = .str a ∧ xs = [.ref p] ∧ (SqL K H p (ys.map V.str) ∨ SqT K H p (ys.map V.str)) ∧
    (ys.map (·.length)).sum + ys.length * a.length ≤ 16777216 ∧ Q (.str (Txt.join a ys)) H
section
variable {X : Cx} {K : PySem.W.Frag} {w : World}
theorem k_isN : OpR X (compareOp .Is) rIsN := op_isN
theorem k_notN : OpR X (compareOp .IsNot) rNotN := op_notN
theorem k_addS : OpR X (binaryOp .Add) rAddS := op_add_str
theorem k_mulS : OpR X (binaryOp .Mult) rMulS := by
  intro pins s σ H x y v u Q I rx ry h
  obtain ⟨z, n, rfl, rfl, hz, q⟩ := h
  obtain ⟨t, rfl⟩ := rx
  obtain ⟨t', rfl⟩ := ry
  exact PySem.SB.mul hz fun t' tk => ⟨.str (Txt.mul z n), H, I.tok _, ⟨_, rfl⟩, q⟩
theorem k_inSg : OpR X (compareOp .In) rInSg := op_in_sign
theorem k_notInSg : OpR X (compareOp .NotIn) rNotInSg := op_notIn_sign
theorem k_lenS : CallR X (.builtin "len") rLenS := call_len_str
theorem k_abs : CallR X (.builtin "abs") rAbs := call_abs
theorem k_int1 : CallR X (.type "int") rInt1 := call_int1
theorem k_intS : CallR X (.type "int") rIntS := call_int_str
theorem k_strI : CallR X (.type "str") rStrI := call_str_int
theorem k_max2 (hc : X.calm = true := by rfl) : CallR X (.builtin "max") rMax2 := call_max2 hc
theorem k_min2 (hc : X.calm = true := by rfl) : CallR X (.builtin "min") rMin2 := call_min2 hc
theorem k_starts : MtR X "str.startswith" rStarts := mt_startswith
theorem k_ends : MtR X "str.endswith" rEnds := mt_endswith
theorem k_split : MtR X "str.split" rSplitS := mt_split
theorem k_join (h : X.K = K := by rfl) : MtR X "str.join" (rJoinS K) := h ▸ mt_join
theorem k_any (hc : X.calm = true := by rfl) (h : X.K = K := by rfl) : CallR X (.builtin "any") (rAny K) := h ▸ cr_any hc
theorem k_sum (hc : X.calm = true := by rfl) (h : X.K = K := by rfl) : CallR X (.builtin "sum") (rSum K) := h ▸ cr_sum hc
end
/-! ### what data is -/
@[reducible] def asI : D → (Int → Prop) → Prop
  | .int i, k => k i
  | _, _ => False
@[reducible] def asB : D → (Bool → Prop) → Prop
  | .bl b, k => k b
  | _, _ => False
@[reducible] def asS : D → (Str → Prop) → Prop
  | .str z, k => k z
  | _, _ => False
@[reducible] def asV : D → (V → Prop) → Prop
  | .non, k => k .non
  | .bl b, k => k (.bl b)
  | .int i, k => k (.int i)
  | .str z, k => k (.str z)
  | .oth v, k => k v
  | _, _ => False
@[reducible] def asT : D → (List D → Prop) → Prop
  | .tup l, k => k l
  | _, _ => False
@[reducible] def asL : D → (List D → Prop) → Prop
  | .lst l, k => k l
  | _, _ => False
@[reducible] def asQ : D → (List D → Prop) → Prop
  | .lst l, k => k l
  | .tup l, k => k l
  | _, _ => False
@[reducible] def vD : V → D
  | .non => .non
  | .bl b => .bl b
  | .int i => .int i
  | .str z => .str z
  | v => .oth v
@[reducible] def as1 : List D → (D → Prop) → Prop
  | [d], k => k d
  | _, _ => False
@[reducible] def as2 : List D → (D → D → Prop) → Prop
  | [d, e], k => k d e
  | _, _ => False
section
variable {K : PySem.W.Frag} {O : Ads} {H : Hp}
theorem at_vD (v : V) : At K O H v (vD v) := by
  cases v <;> constructor
theorem at_int {v : V} {d : D} {k : Int → Prop} (a : At K O H v d) (h : asI d k) : ∃ i, v = .int i ∧ d = .int i ∧ k i := by
  cases a <;> first | exact h.elim | exact ⟨_, rfl, rfl, h⟩
theorem at_bl {v : V} {d : D} {k : Bool → Prop} (a : At K O H v d) (h : asB d k) : ∃ i, v = .bl i ∧ d = .bl i ∧ k i := by
  cases a <;> first | exact h.elim | exact ⟨_, rfl, rfl, h⟩
theorem at_str {v : V} {d : D} {k : Str → Prop} (a : At K O H v d) (h : asS d k) : ∃ i, v = .str i ∧ d = .str i ∧ k i := by
  cases a <;> first | exact h.elim | exact ⟨_, rfl, rfl, h⟩
theorem at_V {v : V} {d : D} {k : V → Prop} (a : At K O H v d) (h : asV d k) : k v := by
  cases a <;> first | exact h.elim | exact h
theorem at_T {v : V} {d : D} {k : List D → Prop} (a : At K O H v d) (h : asT d k) : ∃ p xs ds, v = .ref p ∧ d = .tup ds ∧ SqT K H p xs ∧ (p ∉ O ∨ ∀ H', SqT K H' p xs) ∧ AtAll K O H xs ds ∧ k ds := by
  cases a <;> first | exact h.elim | exact ⟨_, _, _, rfl, rfl, by assumption, by assumption, by assumption, h⟩
theorem at_L {v : V} {d : D} {k : List D → Prop} (a : At K O H v d) (h : asL d k) : ∃ p xs ds, v = .ref p ∧ d = .lst ds ∧ H p = some (.lst xs) ∧ p ∉ O ∧ AtAll K O H xs ds ∧ k ds := by
  cases a <;> first | exact h.elim | exact ⟨_, _, _, rfl, rfl, by assumption, by assumption, by assumption, h⟩
theorem at_Q {v : V} {d : D} {k : List D → Prop} (a : At K O H v d) (h : asQ d k) : ∃ p xs ds, v = .ref p ∧ (SqL K H p xs ∨ SqT K H p xs) ∧ AtAll K O H xs ds ∧ k ds := by
  cases a <;> first | exact h.elim | exact ⟨_, _, _, rfl, .inl (SqL.of (by assumption)), by assumption, h⟩ | exact ⟨_, _, _, rfl, .inr (by assumption), by assumption, h⟩
theorem all_1 {vs : List V} {ds : List D} {k : D → Prop} (a : AtAll K O H vs ds) (h : as1 ds k) : ∃ v d, vs = [v] ∧ At K O H v d ∧ k d := by
  match ds, a, h with
  | [d], .cons a .nil, h => exact ⟨_, _, rfl, a, h⟩
theorem all_2 {vs : List V} {ds : List D} {k : D → D → Prop} (a : AtAll K O H vs ds) (h : as2 ds k) : ∃ v w d e, vs = [v, w] ∧ At K O H v d ∧ At K O H w e ∧ k d e := by
  match ds, a, h with
  | [d, e], .cons a (.cons b .nil), h => exact ⟨_, _, _, _, rfl, a, b, h⟩
end
/-! ### operators -/
class OpD (K : PySem.W.Frag) (r : R2) (f : outParam (D → D → (D → Prop) → Prop)) : Prop where
  op : ∀ O H x y d e (Q : VK) P, At K O H x d → At K O H y e → f d e P → (∀ p, p ∈ O → H p ≠ none) → (∀ d' v H', P d' → Same H H' → At K O H' v d' → Q v H') → r x y H Q
section
variable {K : PySem.W.Frag}
instance opd_I0 {g : Int → Int → V} : OpD K (rI0 g) (fun d e P => asI d fun i => asI e fun j => P (vD (g i j))) := ⟨fun O H x y d e Q P a b h _ q => by
  obtain ⟨i, rfl, rfl, h⟩ := at_int a h
  obtain ⟨j, rfl, rfl, h⟩ := at_int b h
  exact ⟨i, j, rfl, rfl, q _ _ _ h (Same.refl H) (at_vD _)⟩⟩
instance opd_I {c : Int → Int → Prop} {g : Int → Int → V} : OpD K (rI c g) (fun d e P => asI d fun i => asI e fun j => c i j ∧ P (vD (g i j))) := ⟨fun O H x y d e Q P a b h _ q => by
  obtain ⟨i, rfl, rfl, h⟩ := at_int a h
  obtain ⟨j, rfl, rfl, h⟩ := at_int b h
  exact ⟨i, j, rfl, rfl, h.1, q _ _ _ h.2 (Same.refl H) (at_vD _)⟩⟩
instance opd_eq : OpD K rEq (fun d e P => asV d fun x => asV e fun y => scal x y = true ∧ P (.bl (decide (x = y)))) := ⟨fun O H x y d e Q P a b h _ q => by
  have h1 := at_V b (at_V a h)
  exact ⟨h1.1, q _ _ _ h1.2 (Same.refl H) (.bl _)⟩⟩
instance opd_ne : OpD K rNe (fun d e P => asV d fun x => asV e fun y => scal x y = true ∧ P (.bl (!decide (x = y)))) := ⟨fun O H x y d e Q P a b h _ q => by
  have h1 := at_V b (at_V a h)
  exact ⟨h1.1, q _ _ _ h1.2 (Same.refl H) (.bl _)⟩⟩
@[reducible] def isN : D → Bool
  | .non => true
  | .oth v => decide (v = .non)
  | _ => false
theorem at_isN {O : Ads} {H : Hp} {v : V} {d : D} (a : At K O H v d) : decide (v = .non) = isN d := by
  cases a <;> first | rfl | exact decide_eq_false (fun z => nomatch z)
instance opd_isN : OpD K rIsN (fun d e P => asV e fun y => y = .non ∧ P (.bl (isN d))) := ⟨fun O H x y d e Q P a b h _ q => by
  have h1 := at_V b h
  exact ⟨h1.1, by rw [at_isN a]; exact q _ _ _ h1.2 (Same.refl H) (.bl _)⟩⟩
instance opd_notN : OpD K rNotN (fun d e P => asV e fun y => y = .non ∧ P (.bl (!isN d))) := ⟨fun O H x y d e Q P a b h _ q => by
  have h1 := at_V b h
  exact ⟨h1.1, by rw [at_isN a]; exact q _ _ _ h1.2 (Same.refl H) (.bl _)⟩⟩
instance opd_isB : OpD K rIsB (fun d e P => asB d fun i => asB e fun j => P (.bl (decide (i = j)))) := ⟨fun O H x y d e Q P a b h _ q => by
  obtain ⟨i, rfl, rfl, h⟩ := at_bl a h
  obtain ⟨j, rfl, rfl, h⟩ := at_bl b h
  exact ⟨i, j, rfl, rfl, q _ _ _ h (Same.refl H) (.bl _)⟩⟩
instance opd_notB : OpD K rNotB (fun d e P => asB d fun i => asB e fun j => P (.bl (!decide (i = j)))) := ⟨fun O H x y d e Q P a b h _ q => by
  obtain ⟨i, rfl, rfl, h⟩ := at_bl a h
  obtain ⟨j, rfl, rfl, h⟩ := at_bl b h
  exact ⟨i, j, rfl, rfl, q _ _ _ h (Same.refl H) (.bl _)⟩⟩
instance opd_addS : OpD K rAddS (fun d e P => asS d fun i => asS e fun j => i.length + j.length ≤ sizeLine ∧ P (.str (i ++ j))) := ⟨fun O H x y d e Q P a b h _ q => by
  obtain ⟨i, rfl, rfl, h⟩ := at_str a h
  obtain ⟨j, rfl, rfl, h⟩ := at_str b h
  exact ⟨i, j, rfl, rfl, h.1, q _ _ _ h.2 (Same.refl H) (.str _)⟩⟩
instance opd_mulS : OpD K rMulS (fun d e P => asS d fun i => asI e fun j => MulOk i j ∧ P (.str (Txt.mul i j))) := ⟨fun O H x y d e Q P a b h _ q => by
  obtain ⟨i, rfl, rfl, h⟩ := at_str a h
  obtain ⟨j, rfl, rfl, h⟩ := at_int b h
  exact ⟨i, j, rfl, rfl, h.1, q _ _ _ h.2 (Same.refl H) (.str _)⟩⟩
theorem atI_all {O : Ads} {H : Hp} {xs : List V} {ds : List D} {i : Int} {d : D} (a : AtAll K O H xs ds) (h : atI ds i = some d) : ∃ v, atI xs i = some v ∧ At K O H v d := by
  unfold atI at h ⊢
  rw [a.length]
  cases e : ixN ds.length i with
  | none => rw [e] at h; cases h
  | some j => rw [e] at h; exact a.getD h
instance opd_ixL : OpD K (rIxL K) (fun d e P => asL d fun ds => asI e fun i => ∃ x, atI ds i = some x ∧ P x) := ⟨fun O H x y d e Q P a b h _ q => by
  obtain ⟨p, xs, ds, rfl, rfl, h1, _, h3, h⟩ := at_L a h
  obtain ⟨i, rfl, rfl, x, h4, h5⟩ := at_int b h
  obtain ⟨v, h6, h7⟩ := atI_all h3 h4
  exact ⟨p, xs, i, v, rfl, rfl, SqL.of h1, h6, q _ _ _ h5 (Same.refl H) h7⟩⟩
instance opd_ixT : OpD K (rIxT K) (fun d e P => asT d fun ds => asI e fun i => ∃ x, atI ds i = some x ∧ P x) := ⟨fun O H x y d e Q P a b h _ q => by
  obtain ⟨p, xs, ds, rfl, rfl, h1, _, h3, h⟩ := at_T a h
  obtain ⟨i, rfl, rfl, x, h4, h5⟩ := at_int b h
  obtain ⟨v, h6, h7⟩ := atI_all h3 h4
  exact ⟨p, xs, i, v, rfl, rfl, h1, h6, q _ _ _ h5 (Same.refl H) h7⟩⟩
instance opd_catT : OpD K (rCatT K) (fun d e P => asT d fun ds => asT e fun es => ds ≠ [] ∧ ds.length + es.length ≤ sizeLine ∧ P (.tup (ds ++ es))) := ⟨fun O H x y d e Q P a b h lv q => by
  obtain ⟨p, xs, ds, rfl, rfl, h1, n1, h3, h⟩ := at_T a h
  obtain ⟨p2, ys, es, rfl, rfl, h4, n2, h6, h⟩ := at_T b h
  have l1 := h3.length
  have l2 := h6.length
  refine ⟨p, p2, xs, ys, rfl, rfl, h1, h4, fun z => ?_, by omega, ?_⟩
  · subst z
    cases h3
    exact h.1 rfl
  · first
      | (refine ⟨fun z => ?_, fun _ c nc => ?_⟩
         · subst z; cases h6
           refine q _ _ _ h.2.2 (Same.refl H) ?_
           rw [List.append_nil]
           exact .tup h1 n1 h3
         · exact q _ _ _ h.2.2 (same_upd nc) (At.mkTup nc (fun m => lv c m nc) (h3.append h6)))⟩
instance opd_cat : OpD K rCat (fun d e P => asL d fun ds => asL e fun es => ds.length + es.length ≤ sizeLine ∧ P (.lst (ds ++ es))) := ⟨fun O H x y d e Q P a b h lv q => by
  obtain ⟨p, xs, ds, rfl, rfl, h1, n1, h3, h⟩ := at_L a h
  obtain ⟨p2, ys, es, rfl, rfl, h4, n2, h6, h⟩ := at_L b h
  have l1 := h3.length
  have l2 := h6.length
  exact ⟨p, p2, xs, ys, rfl, rfl, h1, h4, by omega, fun c nc => q _ _ _ h.2 (same_upd nc) (.lst upd_same (fun m => lv c m nc) ((h3.append h6).fr (.of (same_upd nc))))⟩⟩
theorem AtAll.rep {O : Ads} {H : Hp} {xs : List V} {ds : List D} (h : AtAll K O H xs ds) : ∀ n : Nat, AtAll K O H (List.replicate n xs).flatten (List.replicate n ds).flatten
  | 0 => .nil
  | n + 1 => by
    rw [List.replicate_succ, List.replicate_succ, List.flatten_cons, List.flatten_cons]
    exact h.append (AtAll.rep h n)
class UnD (K : PySem.W.Frag) (r : V → Hp → VK → Prop) (f : outParam (D → (D → Prop) → Prop)) : Prop where
  op : ∀ O H x d (Q : VK) P, At K O H x d → f d P → (∀ d' v H', P d' → Same H H' → At K O H' v d' → Q v H') → r x H Q
instance und_U {g : Int → V} : UnD K (rU g) (fun d P => asI d fun i => P (vD (g i))) := ⟨fun O H x d Q P a h q => by
  obtain ⟨i, rfl, rfl, h⟩ := at_int a h
  exact ⟨i, rfl, q _ _ _ h (Same.refl H) (at_vD _)⟩⟩
end
/-! ### the data as the library's == has it -/
mutual
def D.py : D → PyData
  | .non => .none
  | .bl b => .bool b
  | .int i => .int i
  | .str z => .str z
  | .tup l => .tuple (pys l)
  | .lst l => .list (pys l)
  | _ => .none
def pys : List D → List PyData
  | [] => []
  | d :: l => d.py :: pys l
end
mutual
def D.pure : D → Bool
  | .non => true
  | .bl _ => true
  | .int _ => true
  | .str _ => true
  | .tup l => pures l
  | .lst l => pures l
  | _ => false
def pures : List D → Bool
  | [] => true
  | d :: l => d.pure && pures l
end
section
variable {K : PySem.W.Frag} {O : Ads} {H : Hp}
mutual
theorem At.dp : ∀ {v : V} {d : D}, At K O H v d → d.pure = true → Dp K H v d.py
  | _, _, .non, _ => .non
  | _, _, .bl b, _ => .bl b
  | _, _, .int i, _ => .int i
  | _, _, .str z, _ => .str z
  | _, _, .tup h _ t, p => .tup h (AtAll.dp t p)
  | _, _, .lst h _ t, p => .lst (SqL.of h) (AtAll.dp t p)
  | _, _, .ins _ _ _, p => nomatch p
  | _, _, .oth _, p => nomatch p
theorem AtAll.dp : ∀ {v : List V} {d : List D}, AtAll K O H v d → pures d = true → DpAll K H v (pys d)
  | _, _, .nil, _ => .nil
  | _, _, .cons h t, p => .cons (At.dp h (Bool.and_eq_true_iff.mp p).1) (AtAll.dp t (Bool.and_eq_true_iff.mp p).2)
end
instance opd_eqD : OpD K (rEqD K) (fun d e P => d.pure = true ∧ e.pure = true ∧ SeqAt.shaped d.py = true ∧ SeqAt.shaped e.py = true ∧ P (.bl (PyData.eqv d.py e.py))) := ⟨fun O H x y d e Q P a b h _ q => ⟨_, _, a.dp h.1, b.dp h.2.1, h.2.2.1, h.2.2.2.1, q _ _ _ h.2.2.2.2 (Same.refl H) (.bl _)⟩⟩
instance opd_neD : OpD K (rNeD K) (fun d e P => d.pure = true ∧ e.pure = true ∧ SeqAt.shaped d.py = true ∧ SeqAt.shaped e.py = true ∧ P (.bl (!PyData.eqv d.py e.py))) := ⟨fun O H x y d e Q P a b h _ q => ⟨_, _, a.dp h.1, b.dp h.2.1, h.2.2.1, h.2.2.2.1, q _ _ _ h.2.2.2.2 (Same.refl H) (.bl _)⟩⟩
end
/-! ### expressions -/
section
variable {K : PySem.W.Frag} {C : Cz} {ρ : List Sl} {P : D → Prop} {ta tb tc : TE} {d : D} {i : Nat}
theorem ev_mono {P' : D → Prop} (h : Ev K C ta ρ P) (k : ∀ d, P d → P' d) : Ev K C ta ρ P' := fun σ H Q s q => h σ H Q s fun d v H' p => q d v H' (k d p)
theorem ev_var (e : ρ[i]? = some (.val d)) (p : P d) : Ev K C (tVar i) ρ P := fun σ H Q s k => by
  obtain ⟨x, e1, a⟩ := s.sl.get e
  cases a with
  | val a => exact ⟨_, e1, k _ _ _ p s (Fr.refl _ _) a⟩
theorem ev_cV {v : V} (p : P (vD v)) : Ev K C (tC v) ρ P := fun σ H Q s k => k _ _ _ p s (Fr.refl _ _) (at_vD v)
theorem ev_int {z : Int} (p : P (.int z)) : Ev K C (tC (.int z)) ρ P := ev_cV p
theorem ev_str {z : Str} (p : P (.str z)) : Ev K C (tC (.str z)) ρ P := ev_cV p
theorem ev_bl {b : Bool} (p : P (.bl b)) : Ev K C (tC (.bl b)) ρ P := ev_cV p
theorem ev_non (p : P .non) : Ev K C (tC .non) ρ P := ev_cV p
theorem ev_ref {a : Addr} (p : P (.oth (.ref a))) : Ev K C (tC (.ref a)) ρ P := ev_cV p
theorem ev_ty {n : String} (p : P (.oth (.ty n))) : Ev K C (tC (.ty n)) ρ P := ev_cV p
/-- a written tuple of the module -/
theorem ev_refT {a : Addr} {xs : List V} {ds : List D} (h : ∀ H, SqT K H a xs) (g : ∀ O H, AtAll K O H xs ds) (p : P (.tup ds)) : Ev K C (tC (.ref a)) ρ P := fun σ H Q s k => k _ _ _ p s (Fr.refl _ _) (.tup (h H) (.inr h) (g _ _))
theorem ev_op {r : R2} {f : D → D → (D → Prop) → Prop} [o : OpD K r f] (h : Ev K C ta ρ fun d => Ev K C tb ρ fun e => f d e P) : Ev K C (tOp r ta tb) ρ P := fun σ H Q s k =>
  h σ H _ s fun d v H1 q s1 f1 a1 => q σ H1 _ s1 fun e w H2 q2 s2 f2 a2 => o.op (Os C ρ) H2 v w d e _ P (a1.fr (s.up f2)) a2 q2 s2.lv fun d' v' H' p e3 a3 => k _ _ _ p (s2.same e3) ((f1.trans f2).trans (Fr.of e3)) a3
theorem ev_un {r : V → Hp → VK → Prop} {f : D → (D → Prop) → Prop} [o : UnD K r f] (h : Ev K C ta ρ fun d => f d P) : Ev K C (tUn r ta) ρ P := fun σ H Q s k =>
  h σ H _ s fun d v H1 q s1 f1 a1 => o.op (Os C ρ) H1 v d _ P a1 q fun d' v' H' p e3 a3 => k _ _ _ p (s1.same e3) (f1.trans (Fr.of e3)) a3
theorem ev_if {t : TT} (h : EvT K C t ρ fun c => if c = true then Ev K C ta ρ P else Ev K C tb ρ P) : Ev K C (tIf t ta tb) ρ P := fun σ H Q s k =>
  h σ H _ s fun c H1 q s1 f1 => by
    cases c with
    | true => exact iteT ((show Ev K C ta ρ P from q) σ H1 Q s1 fun d v H2 p s2 f2 a2 => k d v H2 p s2 (f1.trans f2) a2)
    | false => exact iteF ((show Ev K C tb ρ P from q) σ H1 Q s1 fun d v H2 p s2 f2 a2 => k d v H2 p s2 (f1.trans f2) a2)
theorem ev_and (h : Ev K C ta ρ fun d => asB d fun c => if c = true then Ev K C tb ρ P else P (.bl false)) : Ev K C (tAndV ta tb) ρ P := fun σ H Q s k =>
  h σ H _ s fun d v H1 q s1 f1 a1 => by
    obtain ⟨c, rfl, rfl, q⟩ := at_bl a1 q
    refine ⟨c, rfl, ?_⟩
    cases c with
    | true => exact iteT ((show Ev K C tb ρ P from q) σ H1 Q s1 fun d v H2 p s2 f2 a2 => k d v H2 p s2 (f1.trans f2) a2)
    | false => exact iteF (k _ _ _ q s1 f1 (.bl _))
theorem ev_or (h : Ev K C ta ρ fun d => asB d fun c => if c = true then P (.bl true) else Ev K C tb ρ P) : Ev K C (tOrV ta tb) ρ P := fun σ H Q s k =>
  h σ H _ s fun d v H1 q s1 f1 a1 => by
    obtain ⟨c, rfl, rfl, q⟩ := at_bl a1 q
    refine ⟨c, rfl, ?_⟩
    cases c with
    | true => exact iteT (k _ _ _ q s1 f1 (.bl _))
    | false => exact iteF ((show Ev K C tb ρ P from q) σ H1 Q s1 fun d v H2 p s2 f2 a2 => k d v H2 p s2 (f1.trans f2) a2)
theorem ev_not (h : Ev K C ta ρ fun d => asB d fun c => P (.bl (!c))) : Ev K C (tNotV ta) ρ P := fun σ H Q s k =>
  h σ H _ s fun d v H1 q s1 f1 a1 => by
    obtain ⟨c, rfl, rfl, q⟩ := at_bl a1 q
    exact ⟨c, rfl, k _ _ _ q s1 f1 (.bl _)⟩
theorem ev_chain {r r' : R2} {f f' : D → D → (D → Prop) → Prop} [o : OpD K r f] [o' : OpD K r' f']
    (h : Ev K C ta ρ fun d => Ev K C tb ρ fun e => f d e fun z => asB z fun c => if c = true then Ev K C tc ρ fun g => f' e g P else P (.bl false)) : Ev K C (tChain r r' ta tb tc) ρ P := fun σ H Q s k =>
  h σ H _ s fun d v H1 q s1 f1 a1 => q σ H1 _ s1 fun e w H2 q2 s2 f2 a2 => o.op (Os C ρ) H2 v w d e _ _ (a1.fr (s.up f2)) a2 q2 s2.lv fun d' v' H3 p e3 a3 => by
    obtain ⟨c, rfl, rfl, p⟩ := at_bl a3 p
    refine ⟨c, rfl, ?_⟩
    have s3 := s2.same e3
    have f3 := (f1.trans f2).trans (Fr.of e3)
    cases c with
    | true => exact iteT ((show Ev K C tc ρ _ from p) σ H3 _ s3 fun g u H4 q4 s4 f4 a4 => o'.op (Os C ρ) H4 w u e g _ P ((a2.fr (Fr.of e3)).fr (s.up f4)) a4 q4 s4.lv fun d' v' H5 p5 e5 a5 => k _ _ _ p5 (s4.same e5) ((f3.trans f4).trans (Fr.of e5)) a5)
    | false => exact iteF (k _ _ _ p s3 f3 (.bl _))
/-! ### tests -/
variable {PB : Bool → Prop} {t u : TT}
theorem evt_b (h : Ev K C ta ρ fun d => asB d PB) : EvT K C (tB ta) ρ PB := fun σ H Q s k =>
  h σ H _ s fun d v H1 q s1 f1 a1 => by
    obtain ⟨c, rfl, rfl, q⟩ := at_bl a1 q
    exact ⟨c, rfl, k _ _ q s1 f1⟩
theorem evt_t (h : Ev K C ta ρ fun d => asB d PB) : EvT K C (tTest ta) ρ PB := fun σ H Q s k =>
  h σ H _ s fun d v H1 q s1 f1 a1 => by
    obtain ⟨c, rfl, rfl, q⟩ := at_bl a1 q
    exact ⟨c, rfl, k _ _ q s1 f1⟩
theorem evt_and (h : EvT K C t ρ fun c => if c = true then EvT K C u ρ PB else PB false) : EvT K C (tAnd t u) ρ PB := fun σ H Q s k =>
  h σ H _ s fun c H1 q s1 f1 => by
    cases c with
    | true => exact iteT ((show EvT K C u ρ PB from q) σ H1 Q s1 fun d H2 p s2 f2 => k d H2 p s2 (f1.trans f2))
    | false => exact iteF (k _ _ q s1 f1)
theorem evt_or (h : EvT K C t ρ fun c => if c = true then PB true else EvT K C u ρ PB) : EvT K C (tOr t u) ρ PB := fun σ H Q s k =>
  h σ H _ s fun c H1 q s1 f1 => by
    cases c with
    | true => exact iteT (k _ _ q s1 f1)
    | false => exact iteF ((show EvT K C u ρ PB from q) σ H1 Q s1 fun d H2 p s2 f2 => k d H2 p s2 (f1.trans f2))
theorem evt_not (h : EvT K C t ρ fun c => PB (!c)) : EvT K C (tNot t) ρ PB := fun σ H Q s k => h σ H _ s fun c H1 q s1 f1 => k _ _ q s1 f1
theorem evt_yes (p : PB true) : EvT K C tYes ρ PB := fun σ H Q s k => k _ _ p s (Fr.refl _ _)
/-! ### arguments, displays -/
variable {PL : List D → Prop} {tr : TA}
theorem eva_nil (p : PL []) : EvA K C tNil ρ PL := fun σ H Q s k => k _ _ _ p s (Fr.refl _ _) .nil
theorem eva_cons (h : Ev K C ta ρ fun d => EvA K C tr ρ fun ds => PL (d :: ds)) : EvA K C (tCons ta tr) ρ PL := fun σ H Q s k =>
  h σ H _ s fun d v H1 q s1 f1 a1 => q σ H1 _ s1 fun ds vs H2 q2 s2 f2 a2 => k _ _ _ q2 s2 (f1.trans f2) (.cons (a1.fr (s.up f2)) a2)
theorem eva_star (h : Ev K C ta ρ fun d => asQ d fun es => EvA K C tr ρ fun ds => PL (es ++ ds)) : EvA K C (StX.tStar K ta tr) ρ PL := fun σ H Q s k =>
  h σ H _ s fun d v H1 q s1 f1 a1 => by
    obtain ⟨p, xs, es, rfl, h1, h2, q⟩ := at_Q a1 q
    exact ⟨p, xs, rfl, h1.symm, q σ H1 _ s1 fun ds vs H2 q2 s2 f2 a2 => k _ _ _ q2 s2 (f1.trans f2) ((h2.fr (s.up f2)).append a2)⟩
theorem ev_tup (h : EvA K C tr ρ fun ds => ds.length ≤ sizeLine ∧ P (.tup ds)) : Ev K C (tTup tr) ρ P := fun σ H Q s k =>
  h σ H _ s fun ds vs H1 q s1 f1 a1 => ⟨by rw [a1.length]; exact q.1, fun p n => k _ _ _ q.2 (s1.same (same_upd n)) (f1.trans (Fr.of (same_upd n))) (At.mkTup n (s1.free n) a1)⟩
theorem evf_lst (h : EvA K C tr ρ fun ds => ds.length ≤ sizeLine ∧ PL ds) : EvF K C (tLst tr) ρ PL := fun σ H Q s k =>
  h σ H _ s fun ds vs H1 q s1 f1 a1 => ⟨by rw [a1.length]; exact q.1, fun p n => k _ _ _ q.2 (s1.own n a1) (f1.trans (Fr.of (same_upd n)))⟩
theorem ev_f (h : EvF K C ta ρ fun ds => P (.lst ds)) : Ev K C ta ρ P := fun σ H Q s k =>
  h σ H _ s fun ds p H1 q s1 f1 => k _ _ _ q s1.loose.1 f1 s1.loose.2
theorem ev_lst (h : EvA K C tr ρ fun ds => ds.length ≤ sizeLine ∧ P (.lst ds)) : Ev K C (tLst tr) ρ P := ev_f (evf_lst h)
/-! ### built-ins -/
class CbD (K : PySem.W.Frag) (r : RC) (f : outParam (List D → (D → Prop) → Prop)) : Prop where
  cb : ∀ O H vs ds (Q : VK) P, AtAll K O H vs ds → f ds P → (∀ p, p ∈ O → H p ≠ none) → (∀ d' v H', P d' → Same H H' → At K O H' v d' → Q v H') → r vs H Q
class CbF (K : PySem.W.Frag) (r : RC) (f : outParam (List D → (List D → Prop) → Prop)) : Prop where
  cb : ∀ O H vs ds (Q : VK) P, AtAll K O H vs ds → f ds P → (∀ ds' vs' p, P ds' → H p = none → AtAll K O H vs' ds' → Q (.ref p) (upd H p (.lst vs'))) → r vs H Q
theorem ev_cb {r : RC} {f : List D → (D → Prop) → Prop} [o : CbD K r f] (h : EvA K C tr ρ fun ds => f ds P) : Ev K C (tCB r tr) ρ P := fun σ H Q s k =>
  h σ H _ s fun ds vs H1 q s1 f1 a1 => o.cb (Os C ρ) H1 vs ds _ P a1 q s1.lv fun d' v' H' p e3 a3 => k _ _ _ p (s1.same e3) (f1.trans (Fr.of e3)) a3
theorem evf_cb {r : RC} {f : List D → (List D → Prop) → Prop} [o : CbF K r f] (h : EvA K C tr ρ fun ds => f ds PL) : EvF K C (tCB r tr) ρ PL := fun σ H Q s k =>
  h σ H _ s fun ds vs H1 q s1 f1 a1 => o.cb (Os C ρ) H1 vs ds _ PL a1 q fun ds' vs' p pl n a3 => k _ _ _ pl (s1.own n a3) (f1.trans (Fr.of (same_upd n)))
theorem ev_cbf {r : RC} {f : List D → (List D → Prop) → Prop} [o : CbF K r f] (h : EvA K C tr ρ fun ds => f ds fun l => P (.lst l)) : Ev K C (tCB r tr) ρ P := ev_f (evf_cb h)
end
section
variable {K : PySem.W.Frag}
instance cbd_lenS : CbD K rLenS (fun ds P => as1 ds fun d => asS d fun z => z.length ≤ sizeLine ∧ P (.int z.length)) := ⟨fun O H vs ds Q P a h _ q => by
  obtain ⟨v, d, rfl, a, h⟩ := all_1 a h
  obtain ⟨z, rfl, rfl, h⟩ := at_str a h
  exact ⟨z, rfl, h.1, q _ _ _ h.2 (Same.refl H) (.int _)⟩⟩
instance cbd_lenQ : CbD K (rLenQ K) (fun ds P => as1 ds fun d => asQ d fun l => P (.int l.length)) := ⟨fun O H vs ds Q P a h _ q => by
  obtain ⟨v, d, rfl, a, h⟩ := all_1 a h
  obtain ⟨p, xs, l, rfl, h1, h2, h⟩ := at_Q a h
  exact ⟨p, xs, rfl, h1, by rw [h2.length]; exact q _ _ _ h (Same.refl H) (.int _)⟩⟩
instance cbf_list : CbF K (rListQ K) (fun ds P => as1 ds fun d => asQ d fun l => P l) := ⟨fun O H vs ds Q P a h q => by
  obtain ⟨v, d, rfl, a, h⟩ := all_1 a h
  obtain ⟨p, xs, l, rfl, h1, h2, h⟩ := at_Q a h
  exact ⟨p, xs, rfl, h1, fun n nn => q _ _ _ h nn h2⟩⟩
instance cbd_tuple : CbD K (rTupleQ K) (fun ds P => as1 ds fun d => asQ d fun l => P (.tup l)) := ⟨fun O H vs ds Q P a h lv q => by
  obtain ⟨v, d, rfl, a, h⟩ := all_1 a h
  cases a with
  | lst h1 n h2 => exact ⟨_, _, rfl, .inl ⟨SqL.of h1, fun c nc => q _ _ _ h (same_upd nc) (At.mkTup nc (fun m => lv c m nc) h2)⟩⟩
  | tup h1 n h2 => exact ⟨_, _, rfl, .inr ⟨h1, q _ _ _ h (Same.refl H) (.tup h1 n h2)⟩⟩
  | _ => exact h.elim⟩
instance cbd_abs : CbD K rAbs (fun ds P => as1 ds fun d => asI d fun i => P (.int (if i < 0 then -i else i))) := ⟨fun O H vs ds Q P a h _ q => by
  obtain ⟨v, d, rfl, a, h⟩ := all_1 a h
  obtain ⟨z, rfl, rfl, h⟩ := at_int a h
  exact ⟨z, rfl, q _ _ _ h (Same.refl H) (.int _)⟩⟩
@[reducible] def asIB : D → (Int → Prop) → Prop
  | .int i, k => k i
  | .bl b, k => k (if b = true then 1 else 0)
  | _, _ => False
instance cbd_int1 : CbD K rInt1 (fun ds P => as1 ds fun d => asIB d fun i => P (.int i)) := ⟨fun O H vs ds Q P a h _ q => by
  obtain ⟨v, d, rfl, a, h⟩ := all_1 a h
  cases a with
  | int i => exact .inl ⟨i, rfl, q _ _ _ h (Same.refl H) (.int _)⟩
  | bl b => exact .inr ⟨b, rfl, q _ _ _ h (Same.refl H) (.int _)⟩
  | _ => exact h.elim⟩
instance cbd_intS : CbD K rIntS (fun ds P => as1 ds fun d => asS d fun z => ∃ n, PySem.intText? z = some n ∧ z.length ≤ 640 ∧ P (.int n)) := ⟨fun O H vs ds Q P a h _ q => by
  obtain ⟨v, d, rfl, a, h⟩ := all_1 a h
  obtain ⟨z, rfl, rfl, n, h1, h2, h⟩ := at_str a h
  exact ⟨z, n, rfl, h1, h2, q _ _ _ h (Same.refl H) (.int _)⟩⟩
instance cbd_strI : CbD K rStrI (fun ds P => as1 ds fun d => asI d fun i => i.natAbs.log2 < 1920 ∧ P (.str (Str.ofString (toString i)))) := ⟨fun O H vs ds Q P a h _ q => by
  obtain ⟨v, d, rfl, a, h⟩ := all_1 a h
  obtain ⟨z, rfl, rfl, h⟩ := at_int a h
  exact ⟨z, rfl, h.1, q _ _ _ h.2 (Same.refl H) (.str _)⟩⟩
instance cbd_max2 : CbD K rMax2 (fun ds P => as2 ds fun d e => asI d fun i => asI e fun j => P (.int (max i j))) := ⟨fun O H vs ds Q P a h _ q => by
  obtain ⟨v, w, d, e, rfl, a, b, h⟩ := all_2 a h
  obtain ⟨i, rfl, rfl, h⟩ := at_int a h
  obtain ⟨j, rfl, rfl, h⟩ := at_int b h
  refine ⟨i, j, rfl, ?_⟩
  rw [show (if j > i then j else i) = max i j by split <;> omega]
  exact q _ _ _ h (Same.refl H) (.int _)⟩
instance cbd_min2 : CbD K rMin2 (fun ds P => as2 ds fun d e => asI d fun i => asI e fun j => P (.int (min i j))) := ⟨fun O H vs ds Q P a h _ q => by
  obtain ⟨v, w, d, e, rfl, a, b, h⟩ := all_2 a h
  obtain ⟨i, rfl, rfl, h⟩ := at_int a h
  obtain ⟨j, rfl, rfl, h⟩ := at_int b h
  refine ⟨i, j, rfl, ?_⟩
  rw [show (if j < i then j else i) = min i j by split <;> omega]
  exact q _ _ _ h (Same.refl H) (.int _)⟩
/-- a list of ints, of truth values, of texts -/
@[reducible] def asIs : List D → (List Int → Prop) → Prop
  | [], k => k []
  | .int i :: l, k => asIs l fun r => k (i :: r)
  | _ :: _, _ => False
theorem all_ints {O : Ads} {H : Hp} {vs : List V} {ds : List D} {k : List Int → Prop} (a : AtAll K O H vs ds) (h : asIs ds k) : ∃ ns, vs = ns.map V.int ∧ ds = ns.map D.int ∧ k ns := by
  induction ds generalizing vs k with
  | nil => cases a; exact ⟨[], rfl, rfl, h⟩
  | cons d ds ih =>
    cases a with
    | cons b t =>
      cases d with
      | int i =>
        cases b
        obtain ⟨ns, rfl, rfl, g⟩ := ih t h
        exact ⟨i :: ns, rfl, rfl, g⟩
      | _ => exact h.elim
theorem as_ints {ns : List Int} {k : List Int → Prop} (h : k ns) : asIs (ns.map D.int) k := by
  induction ns generalizing k with
  | nil => exact h
  | cons i ns ih => exact ih h
@[reducible] def asBs : List D → (List Bool → Prop) → Prop
  | [], k => k []
  | .bl i :: l, k => asBs l fun r => k (i :: r)
  | _ :: _, _ => False
theorem all_bls {O : Ads} {H : Hp} {vs : List V} {ds : List D} {k : List Bool → Prop} (a : AtAll K O H vs ds) (h : asBs ds k) : ∃ ns, vs = ns.map V.bl ∧ ds = ns.map D.bl ∧ k ns := by
  induction ds generalizing vs k with
  | nil => cases a; exact ⟨[], rfl, rfl, h⟩
  | cons d ds ih =>
    cases a with
    | cons b t =>
      cases d with
      | bl i =>
        cases b
        obtain ⟨ns, rfl, rfl, g⟩ := ih t h
        exact ⟨i :: ns, rfl, rfl, g⟩
      | _ => exact h.elim
theorem as_bls {ns : List Bool} {k : List Bool → Prop} (h : k ns) : asBs (ns.map D.bl) k := by
  induction ns generalizing k with
  | nil => exact h
  | cons i ns ih => exact ih h
@[reducible] def asSs : List D → (List Str → Prop) → Prop
  | [], k => k []
  | .str i :: l, k => asSs l fun r => k (i :: r)
  | _ :: _, _ => False
theorem all_strs {O : Ads} {H : Hp} {vs : List V} {ds : List D} {k : List Str → Prop} (a : AtAll K O H vs ds) (h : asSs ds k) : ∃ ns, vs = ns.map V.str ∧ ds = ns.map D.str ∧ k ns := by
  induction ds generalizing vs k with
  | nil => cases a; exact ⟨[], rfl, rfl, h⟩
  | cons d ds ih =>
    cases a with
    | cons b t =>
      cases d with
      | str i =>
        cases b
        obtain ⟨ns, rfl, rfl, g⟩ := ih t h
        exact ⟨i :: ns, rfl, rfl, g⟩
      | _ => exact h.elim
theorem as_strs {ns : List Str} {k : List Str → Prop} (h : k ns) : asSs (ns.map D.str) k := by
  induction ns generalizing k with
  | nil => exact h
  | cons i ns ih => exact ih h
instance cbd_max : CbD K (rMax K) (fun ds P => as1 ds fun d => asL d fun l => asIs l fun ns => 0 < ns.length ∧ ∀ m, m ∈ ns → (∀ y, y ∈ ns → y ≤ m) → P (.int m)) := ⟨fun O H vs ds Q P a h _ q => by
  obtain ⟨v, d, rfl, a, h⟩ := all_1 a h
  obtain ⟨p, xs, l, rfl, rfl, h1, _, h3, h⟩ := at_L a h
  obtain ⟨ns, rfl, rfl, g⟩ := all_ints h3 h
  exact ⟨p, ns, rfl, SqL.of h1, g.1, fun m h1 h2 => q _ _ _ (g.2 m h1 h2) (Same.refl H) (.int _)⟩⟩
instance cbd_min : CbD K (rMin K) (fun ds P => as1 ds fun d => asL d fun l => asIs l fun ns => 0 < ns.length ∧ ∀ m, m ∈ ns → (∀ y, y ∈ ns → m ≤ y) → P (.int m)) := ⟨fun O H vs ds Q P a h _ q => by
  obtain ⟨v, d, rfl, a, h⟩ := all_1 a h
  obtain ⟨p, xs, l, rfl, rfl, h1, _, h3, h⟩ := at_L a h
  obtain ⟨ns, rfl, rfl, g⟩ := all_ints h3 h
  exact ⟨p, ns, rfl, SqL.of h1, g.1, fun m h1 h2 => q _ _ _ (g.2 m h1 h2) (Same.refl H) (.int _)⟩⟩
instance cbd_sum : CbD K (rSum K) (fun ds P => as1 ds fun d => asL d fun l => asIs l fun ns => P (.int ns.sum)) := ⟨fun O H vs ds Q P a h _ q => by
  obtain ⟨v, d, rfl, a, h⟩ := all_1 a h
  obtain ⟨p, xs, l, rfl, rfl, h1, _, h3, h⟩ := at_L a h
  obtain ⟨ns, rfl, rfl, g⟩ := all_ints h3 h
  exact ⟨p, ns, rfl, SqL.of h1, q _ _ _ g (Same.refl H) (.int _)⟩⟩
instance cbd_all : CbD K (rAll K) (fun ds P => as1 ds fun d => asL d fun l => asBs l fun ns => P (.bl (ns.all id))) := ⟨fun O H vs ds Q P a h _ q => by
  obtain ⟨v, d, rfl, a, h⟩ := all_1 a h
  obtain ⟨p, xs, l, rfl, rfl, h1, _, h3, h⟩ := at_L a h
  obtain ⟨ns, rfl, rfl, g⟩ := all_bls h3 h
  exact ⟨p, ns, rfl, SqL.of h1, q _ _ _ g (Same.refl H) (.bl _)⟩⟩
instance cbd_any : CbD K (rAny K) (fun ds P => as1 ds fun d => asL d fun l => asBs l fun ns => P (.bl (ns.any id))) := ⟨fun O H vs ds Q P a h _ q => by
  obtain ⟨v, d, rfl, a, h⟩ := all_1 a h
  obtain ⟨p, xs, l, rfl, rfl, h1, _, h3, h⟩ := at_L a h
  obtain ⟨ns, rfl, rfl, g⟩ := all_bls h3 h
  exact ⟨p, ns, rfl, SqL.of h1, q _ _ _ g (Same.refl H) (.bl _)⟩⟩
end

/-! ### statements -/
section
variable {K : PySem.W.Frag} {C : Cz} {ρ : List Sl} {P : Out → Prop} {te : TE} {a b : TS} {i j : Nat}
@[reducible] def seqP (K : PySem.W.Frag) (C : Cz) (b : TS) (P : Out → Prop) : Out → Prop
  | .nx ρ => Run K C b ρ P
  | .rt d => P (.rt d)
  | .bk ρ => P (.bk ρ)
  | .ct ρ => P (.ct ρ)
theorem run_seq (h : Run K C a ρ (seqP K C b P)) : Run K C (tSeq a b) ρ P := fun En σ H s k =>
  h { En with nx := b En } σ H s ⟨fun ρ' σ' H' q s' => q En σ' H' s' k, fun d v ρ' σ' H' q => k.rt d v ρ' σ' H' q, fun ρ' σ' H' q => k.bk ρ' σ' H' q, fun ρ' σ' H' q => k.ct ρ' σ' H' q⟩
theorem run_mono {P' : Out → Prop} (h : Run K C a ρ P) (k : ∀ o, P o → P' o) : Run K C a ρ P' := fun En σ H s q =>
  h En σ H s ⟨fun ρ' σ' H' p => q.nx ρ' σ' H' (k _ p), fun d v ρ' σ' H' p => q.rt d v ρ' σ' H' (k _ p), fun ρ' σ' H' p => q.bk ρ' σ' H' (k _ p), fun ρ' σ' H' p => q.ct ρ' σ' H' (k _ p)⟩
theorem run_next (p : P (.nx ρ)) : Run K C tNext ρ P := fun En σ H s k => k.nx _ _ _ p s
theorem run_break (p : P (.bk ρ)) : Run K C tBreak ρ P := fun En σ H s k => k.bk _ _ _ p s
theorem run_cont (p : P (.ct ρ)) : Run K C tCont ρ P := fun En σ H s k => k.ct _ _ _ p s
theorem run_ret (h : Ev K C te ρ fun d => P (.rt d)) : Run K C (tRet te) ρ P := fun En σ H s k => h σ H _ s fun d v H' p s' f a => k.rt d v ρ σ H' p s' (a.less fun _ m => List.mem_append_left _ m)
theorem run_retN (p : P (.rt .non)) : Run K C tRetN ρ P := fun En σ H s k => k.rt .non .non ρ σ H p s .non
theorem run_drop (h : Ev K C te ρ fun _ => P (.nx ρ)) : Run K C (tDrop te) ρ P := fun En σ H s k => h σ H _ s fun d v H' p s' _ _ => k.nx _ _ _ p s'
theorem run_if {c : TT} (h : EvT K C c ρ fun x => if x = true then Run K C a ρ P else Run K C b ρ P) : Run K C (tIfS c a b) ρ P := fun En σ H s k =>
  h σ H _ s fun x H' p s' _ => by
    cases x with
    | true => exact iteT ((show Run K C a ρ P from p) En σ H' s' k)
    | false => exact iteF ((show Run K C b ρ P from p) En σ H' s' k)
theorem run_set (h : Ev K C te ρ fun d => P (.nx (ρ.set i (.val d)))) : Run K C (tAsg te (gName i)) ρ P := fun En σ H s k => h σ H _ s fun d v H' p s' _ a => k.nx _ _ _ p (s'.set i a)
/-- a new list that the def goes on changing -/
theorem run_own (h : EvF K C te ρ fun ds => i < ρ.length ∧ ∀ p, P (.nx (ρ.set i (.own p ds)))) : Run K C (tAsg te (gName i)) ρ P := fun En σ H s k => h σ H _ s fun ds p H' q s' _ => k.nx _ _ _ (q.2 p) (s'.land q.1)
theorem run_freeze {p : Addr} {ds : List D} (i : Nat) (e : ρ[i]? = some (.own p ds)) (h : Run K C a (ρ.set i (.val (.lst ds))) P) : Run K C a ρ P := fun En σ H s k => h En σ H (s.frozen e) k
theorem ev_freeze {p : Addr} {ds : List D} {PD : D → Prop} (i : Nat) (e : ρ[i]? = some (.own p ds)) (h : Ev K C te (ρ.set i (.val (.lst ds))) PD) (hp : ∀ d, PD d → ∀ z : D, True) : True := trivial
/-- the def's way out gives its own list -/
theorem run_retO {p : Addr} {ds : List D} (e : ρ[i]? = some (.own p ds)) (h : P (.rt (.lst ds))) : Run K C (tRet (tVar i)) ρ P := run_freeze i e (run_ret (ev_var (d := .lst ds) (by
  obtain ⟨h1, _⟩ := List.getElem?_eq_some_iff.mp e
  rw [List.getElem?_set_self h1]) h))
theorem run_par {ta : TA} (h : EvA K C ta ρ fun ds => as2 ds fun d e => P (.nx ((ρ.set i (.val d)).set j (.val e)))) : Run K C (tPar i j ta) ρ P := fun En σ H s k => h σ H _ s fun ds vs H' p s' _ a => by
  obtain ⟨v, w, d, e, rfl, a1, a2, p⟩ := all_2 a p
  refine ⟨v, w, rfl, k.nx _ _ _ p ((s'.set i a1).set j (a2.less fun x m => ?_))⟩
  exact (List.mem_append.mp m).elim (fun h => List.mem_append_left _ h) fun h => List.mem_append_right _ ((owns_set_sub (s := .val d) rfl ρ i).subset h)
class IpD (K : PySem.W.Frag) (r : TIp) (f : outParam (D → D → (D → Prop) → Prop)) : Prop where
  op : ∀ O H x y d e (Q : VK) P, At K O H x d → At K O H y e → f d e P → (∀ d' v H', P d' → Same H H' → At K O H' v d' → Q v H') → r x y H Q
instance ipd_I {g : Int → Int → Int} : IpD K (ipI g) (fun d e P => asI d fun i => asI e fun j => P (.int (g i j))) := ⟨fun O H x y d e Q P a b h q => by
  obtain ⟨i, rfl, rfl, h⟩ := at_int a h
  obtain ⟨j, rfl, rfl, h⟩ := at_int b h
  exact ⟨i, j, rfl, rfl, q _ _ _ h (Same.refl H) (.int _)⟩⟩
theorem run_aug {r : TIp} {f : D → D → (D → Prop) → Prop} [o : IpD K r f] {d : D} (e : ρ[i]? = some (.val d)) (h : Ev K C te ρ fun e => f d e fun z => P (.nx (ρ.set i (.val z)))) : Run K C (tAug i te r) ρ P := fun En σ H s k => by
  obtain ⟨x, e1, a⟩ := s.sl.get e
  cases a with
  | val a =>
    exact ⟨_, e1, h σ H _ s fun y w H' p s' f a2 => o.op (Os C ρ) H' _ w d y _ _ (a.fr (s.up f)) a2 p fun d' v' H2 p2 e2 a3 => k.nx _ _ _ p2 ((s'.same e2).set i a3)⟩
def D.flat : D → Bool
  | .non => true
  | .bl _ => true
  | .int _ => true
  | .str _ => true
  | _ => false
theorem At.flat {O O' : Ads} {H H' : Hp} {v : V} {d : D} (a : At K O H v d) (h : d.flat = true) : At K O' H' v d := by
  cases a <;> first | exact .non | exact .bl _ | exact .int _ | exact .str _ | exact Bool.noConfusion h
/-! ### one's own lists -/
theorem own_V {O : Ads} {H : Hp} {σ : L2.St} {p : Addr} {ds : List D} (s : Sls K O H σ ρ) (e : ρ[i]? = some (.own p ds)) : ∃ vs, σ[i]? = some (some (.ref p)) ∧ H p = some (.lst vs) ∧ AtAll K O H vs ds := by
  obtain ⟨x, e1, a⟩ := s.get e
  cases a with
  | cell h a =>
    cases a with
    | lst a => exact ⟨_, e1, h, a⟩
theorem run_append {p : Addr} {ds : List D} (e : ρ[i]? = some (.own p ds)) (h : Ev K C te ρ fun d => ds.length < sizeLine ∧ P (.nx (ρ.set i (.own p (ds ++ [d]))))) :
    Run K C (tDrop (tBM K "list" rAppend (tVar i) (tCons te tNil))) ρ P := fun En σ H s k => by
  obtain ⟨vs0, e1, h0, _⟩ := own_V s.sl e
  refine ⟨_, e1, .inl ⟨rfl, _, SqL.of h0⟩, h σ H _ s fun d v H' q s' f a => ?_⟩
  obtain ⟨vs, _, h1, a1⟩ := own_V s'.sl e
  exact ⟨p, vs, v, rfl, rfl, h1, by rw [a1.length]; exact q.1, k.nx _ _ _ q.2 (s'.mut e (a1.append (.one a)))⟩
theorem run_extend {p : Addr} {ds : List D} (e : ρ[i]? = some (.own p ds)) (h : Ev K C te ρ fun d => asL d fun es => ds.length + es.length ≤ sizeLine ∧ P (.nx (ρ.set i (.own p (ds ++ es))))) :
    Run K C (tDrop (tBM K "list" rExtend (tVar i) (tCons te tNil))) ρ P := fun En σ H s k => by
  obtain ⟨vs0, e1, h0, _⟩ := own_V s.sl e
  refine ⟨_, e1, .inl ⟨rfl, _, SqL.of h0⟩, h σ H _ s fun d v H' q s' f a => ?_⟩
  obtain ⟨vs, _, h1, a1⟩ := own_V s'.sl e
  obtain ⟨p2, ys, es, rfl, rfl, h2, _, a2, q⟩ := at_L a q
  have l1 := a1.length
  have l2 := a2.length
  exact ⟨p, p2, vs, ys, rfl, rfl, h1, h2, by omega, k.nx _ _ _ q.2 (s'.mut e (a1.append a2))⟩
theorem run_pop {p : Addr} {ds : List D} (e : ρ[i]? = some (.own p ds)) (n : ds ≠ []) (h : P (.nx (ρ.set i (.own p ds.dropLast)))) :
    Run K C (tDrop (tBM0 K "list" rPop (tVar i))) ρ P := fun En σ H s k => by
  obtain ⟨vs, e1, h0, a⟩ := own_V s.sl e
  have l := a.length
  have hl : vs.length - 1 < vs.length := by
    cases ds with
    | nil => exact absurd rfl n
    | cons d ds => rw [List.length_cons] at l; omega
  exact ⟨_, e1, .inl ⟨rfl, _, SqL.of h0⟩, p, vs, _, rfl, rfl, h0, List.getElem?_eq_getElem hl, k.nx _ _ _ h (s.mut e a.dropLast)⟩
theorem run_setix {p : Addr} {ds : List D} {ti : TE} (e : ρ[i]? = some (.own p ds)) (h : Ev K C te ρ fun d => Ev K C ti ρ fun x => asI x fun z => ∃ j, ixN ds.length z = some j ∧ P (.nx (ρ.set i (.own p (ds.set j d))))) :
    Run K C (tAsg te (gSub (tVar i) ti rSetL)) ρ P := fun En σ H s k => h σ H _ s fun d v H1 q s1 f1 a => by
  obtain ⟨vs0, e1, h0, _⟩ := own_V s1.sl e
  refine ⟨_, e1, q σ H1 _ s1 fun x u H2 q s2 f2 a2 => ?_⟩
  obtain ⟨z, rfl, rfl, j, hj, q⟩ := at_int a2 q
  obtain ⟨vs, _, h1, a1⟩ := own_V s2.sl e
  exact ⟨p, vs, z, j, rfl, rfl, h1, by rw [a1.length]; exact hj, k.nx _ _ _ q (s2.mut e (a1.set j (a.fr (s1.up f2))))⟩
/-- reading one's own list -/
theorem ev_lenO {p : Addr} {ds : List D} {PD : D → Prop} (e : ρ[i]? = some (.own p ds)) (h : PD (.int ds.length)) : Ev K C (tCB (rLenQ K) (tCons (tVar i) tNil)) ρ PD := fun σ H Q s k => by
  obtain ⟨vs, e1, h0, a⟩ := own_V s.sl e
  exact ⟨_, e1, p, vs, rfl, .inl (SqL.of h0), by rw [a.length]; exact k _ _ _ h s (Fr.refl _ _) (.int _)⟩
theorem ev_ixO {p : Addr} {ds : List D} {ti : TE} {PD : D → Prop} (e : ρ[i]? = some (.own p ds)) (h : Ev K C ti ρ fun x => asI x fun z => ∃ d, atI ds z = some d ∧ PD d) : Ev K C (tOp (rIxL K) (tVar i) ti) ρ PD := fun σ H Q s k => by
  obtain ⟨vs, e1, h0, a⟩ := own_V s.sl e
  refine ⟨_, e1, h σ H _ s fun x u H2 q s2 f2 a2 => ?_⟩
  obtain ⟨z, rfl, rfl, d, hd, q⟩ := at_int a2 q
  obtain ⟨vs, _, h1, a1⟩ := own_V s2.sl e
  obtain ⟨v, hv, a3⟩ := atI_all a1 hd
  exact ⟨p, vs, z, v, rfl, rfl, SqL.of h1, hv, k _ _ _ q s2 f2 a3⟩
theorem ev_tupO {p : Addr} {ds : List D} {PD : D → Prop} (e : ρ[i]? = some (.own p ds)) (h : PD (.tup ds)) : Ev K C (tCB (rTupleQ K) (tCons (tVar i) tNil)) ρ PD := fun σ H Q s k => by
  obtain ⟨vs, e1, h0, a⟩ := own_V s.sl e
  exact ⟨_, e1, p, vs, rfl, .inl ⟨SqL.of h0, fun c nc => k _ _ _ h (s.same (same_upd nc)) (Fr.of (same_upd nc)) (At.mkTup nc (s.free nc) a)⟩⟩
/-- a built-in of one's own list that gives a number, a text, a truth value -/
theorem ev_cbO {r : RC} {f : List D → (D → Prop) → Prop} [o : CbD K r f] {p : Addr} {ds : List D} {PD : D → Prop} (e : ρ[i]? = some (.own p ds)) (h : f [.lst ds] fun d => d.flat = true ∧ PD d) : Ev K C (tCB r (tCons (tVar i) tNil)) ρ PD := fun σ H Q s k => by
  obtain ⟨e1, a⟩ := s.freeze e
  refine ⟨_, e1, o.cb (Os C (ρ.set i .no)) H _ _ _ _ (.one a) h (fun p m => s.lv p ((List.mem_append.mp m).elim (fun h => List.mem_append_left _ h) fun h => List.mem_append_right _ ((owns_set_sub (s := .no) rfl ρ i).subset h))) fun d' v' H' p2 e3 a3 => ?_⟩
  exact k _ _ _ p2.2 (s.same e3) (Fr.of e3) (a3.flat p2.1)
end
/-! ### targets -/
def nown (ρ : List Sl) (i : Nat) : Bool := match ρ[i]? with
  | some (.cell _ _) => false
  | _ => true
theorem owns_set_eq {s : Sl} (hs : s.o = []) : ∀ {ρ : List Sl} {i : Nat}, nown ρ i = true → owns (ρ.set i s) = owns ρ
  | [], _, _ => rfl
  | t :: ρ, 0, h => by
    show s.o ++ owns ρ = t.o ++ owns ρ
    rw [hs]
    cases t with
    | cell p l => exact nomatch h
    | _ => rfl
  | t :: ρ, i + 1, h => by
    show t.o ++ owns (ρ.set i s) = t.o ++ owns ρ
    rw [owns_set_eq hs (by simpa [nown] using h)]
/-- names are stored -/
def EvG (K : PySem.W.Frag) (C : Cz) (g : TG) (d : D) (is : List Nat) (ρ : List Sl) (P : List Sl → Prop) : Prop := ∀ v σ H (Q : L2.St → Hp → Prop), St K C ρ σ H → At K (Os C ρ) H v d →
  (∀ ρ' σ', P ρ' → St K C ρ' σ' H → owns ρ' = owns ρ → σ'.length = σ.length → (∀ j, j ∉ is → σ'[j]? = σ[j]?) → Q σ' H) → g v σ H Q
def EvGs (K : PySem.W.Frag) (C : Cz) (g : TGs) (ds : List D) (is : List Nat) (ρ : List Sl) (P : List Sl → Prop) : Prop := ∀ vs σ H (Q : L2.St → Hp → Prop), St K C ρ σ H → AtAll K (Os C ρ) H vs ds →
  (∀ ρ' σ', P ρ' → St K C ρ' σ' H → owns ρ' = owns ρ → σ'.length = σ.length → (∀ j, j ∉ is → σ'[j]? = σ[j]?) → Q σ' H) → g vs σ H Q
section
variable {K : PySem.W.Frag} {C : Cz} {ρ : List Sl} {d : D} {i n : Nat} {is js : List Nat} {g : TG} {gs : TGs} {P : List Sl → Prop}
theorem evg_name (h : nown ρ i = true) (m : i ∈ is) (p : P (ρ.set i (.val d))) : EvG K C (gName i) d is ρ P := fun v σ H Q s a k =>
  k _ _ p (s.set i a) (owns_set_eq rfl h) (List.length_set) fun j hj => List.getElem?_set_ne fun e => hj (by rw [← e]; exact m)
theorem evgs_nil (p : P ρ) : EvGs K C gNil [] is ρ P := fun vs σ H Q s a k => by
  cases a
  exact ⟨rfl, k _ _ p s rfl rfl fun _ _ => rfl⟩
theorem evgs_cons {ds : List D} (h : EvG K C g d is ρ fun ρ' => EvGs K C gs ds is ρ' P) : EvGs K C (gCons g gs) (d :: ds) is ρ P := fun vs σ H Q s a k => by
  cases a with
  | cons a b =>
    refine ⟨_, _, rfl, h _ σ H _ s a fun ρ' σ' p s' e1 l1 f1 => ?_⟩
    refine p _ σ' H _ s' (by show AtAll K (C.O0 ++ owns ρ') _ _ _; rw [e1]; exact b) fun ρ2 σ2 p2 s2 e2 l2 f2 => ?_
    exact k _ _ p2 s2 (e2.trans e1) (l2.trans l1) fun j hj => (f2 j hj).trans (f1 j hj)
theorem evg_tup (h : asT d fun ds => ds.length = n ∧ EvGs K C gs ds is ρ P) : EvG K C (gTup K n gs) d is ρ P := fun v σ H Q s a k => by
  obtain ⟨p, xs, ds, rfl, rfl, h1, _, h3, h⟩ := at_T a h
  exact ⟨p, xs, rfl, h1, by rw [h3.length]; exact h.1, h.2 xs σ H Q s h3 k⟩
theorem evg_lst (h : asL d fun ds => ds.length = n ∧ EvGs K C gs ds is ρ P) : EvG K C (gUnl K n gs) d is ρ P := fun v σ H Q s a k => by
  obtain ⟨p, xs, ds, rfl, rfl, h1, _, h3, h⟩ := at_L a h
  exact ⟨p, xs, rfl, SqL.of h1, by rw [h3.length]; exact h.1, h.2 xs σ H Q s h3 k⟩
/-- the same, whichever names are stored -/
def EvX (K : PySem.W.Frag) (C : Cz) (g : TG) (d : D) (ρ : List Sl) (P : List Sl → Prop) : Prop := ∀ v σ H (Q : L2.St → Hp → Prop), St K C ρ σ H → At K (Os C ρ) H v d → (∀ ρ' σ', P ρ' → St K C ρ' σ' H → owns ρ' = owns ρ → Q σ' H) → g v σ H Q
def EvXs (K : PySem.W.Frag) (C : Cz) (g : TGs) (ds : List D) (ρ : List Sl) (P : List Sl → Prop) : Prop := ∀ vs σ H (Q : L2.St → Hp → Prop), St K C ρ σ H → AtAll K (Os C ρ) H vs ds → (∀ ρ' σ', P ρ' → St K C ρ' σ' H → owns ρ' = owns ρ → Q σ' H) → g vs σ H Q
theorem evx_name (h : nown ρ i = true) (p : P (ρ.set i (.val d))) : EvX K C (gName i) d ρ P := fun v σ H Q s a k => k _ _ p (s.set i a) (owns_set_eq rfl h)
theorem evxs_nil (p : P ρ) : EvXs K C gNil [] ρ P := fun vs σ H Q s a k => by
  cases a
  exact ⟨rfl, k _ _ p s rfl⟩
theorem evxs_cons {ds : List D} (h : EvX K C g d ρ fun ρ' => EvXs K C gs ds ρ' P) : EvXs K C (gCons g gs) (d :: ds) ρ P := fun vs σ H Q s a k => by
  cases a with
  | cons a b =>
    exact ⟨_, _, rfl, h _ σ H _ s a fun ρ' σ' p s' e1 => p _ σ' H _ s' (by show AtAll K (C.O0 ++ owns ρ') _ _ _; rw [e1]; exact b) fun ρ2 σ2 p2 s2 e2 => k _ _ p2 s2 (e2.trans e1)⟩
theorem evx_tup (h : asT d fun ds => ds.length = n ∧ EvXs K C gs ds ρ P) : EvX K C (gTup K n gs) d ρ P := fun v σ H Q s a k => by
  obtain ⟨p, xs, ds, rfl, rfl, h1, _, h3, h⟩ := at_T a h
  exact ⟨p, xs, rfl, h1, by rw [h3.length]; exact h.1, h.2 xs σ H Q s h3 k⟩
theorem evx_lst (h : asL d fun ds => ds.length = n ∧ EvXs K C gs ds ρ P) : EvX K C (gUnl K n gs) d ρ P := fun v σ H Q s a k => by
  obtain ⟨p, xs, ds, rfl, rfl, h1, _, h3, h⟩ := at_L a h
  exact ⟨p, xs, rfl, SqL.of h1, by rw [h3.length]; exact h.1, h.2 xs σ H Q s h3 k⟩
theorem run_asg {te : TE} {PO : Out → Prop} (h : Ev K C te ρ fun d => EvX K C g d ρ fun ρ' => PO (.nx ρ')) : Run K C (tAsg te g) ρ PO := fun En σ H s k => h σ H _ s fun d v H' p s' _ a => p v σ H' _ s' a fun ρ' σ' p' s2 _ => k.nx _ _ _ p' s2
end
/-! ### what is walked -/
@[reducible] def Cz.hold (C : Cz) (vs : List V) (ds : List D) : Cz := { C with hv := vs ++ C.hv, hd := ds ++ C.hd }
def Walks (K : PySem.W.Frag) (J : It) (hv : List V) (hd : List D) (items : List D) : Prop := ∀ O H, AtAll K O H hv hd → (∀ i, i < items.length → J.go i H) ∧ J.stop items.length H ∧
  ∀ i x H', i < items.length → J.yld i H x H' → ∃ d, items[i]? = some d ∧ Same H H' ∧ ((∀ p, p ∈ O → H p ≠ none) → At K O H' x d)
def EvI (K : PySem.W.Frag) (C : Cz) (wi : TI) (ρ : List Sl) (P : List D → Prop) : Prop := ∀ σ H (R : It → Hp → Prop), St K C ρ σ H →
  (∀ items J H' hv hd, P items → St K C ρ σ H' → Fr (Bs C) H H' → AtAll K (Os C ρ) H' hv hd → Walks K J hv hd items → R J H') → wi σ H R
section
variable {K : PySem.W.Frag} {C : Cz} {ρ : List Sl} {P : List D → Prop} {te : TE} {ta : TA}
theorem walks_list {a : Addr} {ds : List D} : Walks K (Itl K a) [.ref a] [.lst ds] ds := fun O H h => by
  cases h with
  | cons h _ =>
    cases h with
    | lst h1 _ h3 =>
      have hl := h3.length
      refine ⟨fun i hi => ⟨_, _, SqL.of h1, List.getElem?_eq_getElem (by omega)⟩, ⟨_, SqL.of h1, by omega⟩, fun i x H' hi y => ?_⟩
      obtain ⟨rfl, y⟩ := y
      obtain ⟨d, e, a⟩ := h3.get (y _ (SqL.of h1))
      exact ⟨d, e, Same.refl _, fun _ => a⟩
theorem walks_tup {a : Addr} {ds : List D} : Walks K (Itt K a) [.ref a] [.tup ds] ds := fun O H h => by
  cases h with
  | cons h _ =>
    cases h with
    | tup h1 _ h3 =>
      have hl := h3.length
      refine ⟨fun i hi => ⟨_, _, h1, List.getElem?_eq_getElem (by omega)⟩, ⟨_, h1, by omega⟩, fun i x H' hi y => ?_⟩
      obtain ⟨rfl, y⟩ := y
      obtain ⟨d, e, a⟩ := h3.get (y _ h1)
      exact ⟨d, e, Same.refl _, fun _ => a⟩
def rngD (lo : Int) (n : Nat) : List D := (List.range n).map fun (i : Nat) => .int (lo + ((i : Nat) : Int))
theorem walks_rng {lo : Int} {n : Nat} : Walks K (Itr lo n) [] [] (rngD lo n) := fun O H h => by
  have hl : (rngD lo n).length = n := by unfold rngD; simp
  rw [hl]
  refine ⟨fun i hi => hi, Nat.le_refl _, fun i x H' hi y => ?_⟩
  obtain ⟨rfl, rfl⟩ := y
  exact ⟨.int (lo + i), by unfold rngD; simp [hi], Same.refl _, fun _ => .int _⟩
theorem evi_list (h : Ev K C te ρ fun d => asL d P) : EvI K C (iList K te) ρ P := fun σ H R s k => h σ H _ s fun d v H1 q s1 f1 a1 => by
  obtain ⟨p, xs, ds, rfl, rfl, h1, _, h3, q⟩ := at_L a1 q
  exact ⟨p, rfl, ⟨_, SqL.of h1⟩, k ds _ H1 [.ref p] [.lst ds] q s1 f1 (.one a1) walks_list⟩
theorem evi_tup (h : Ev K C te ρ fun d => asT d P) : EvI K C (iTup K te) ρ P := fun σ H R s k => h σ H _ s fun d v H1 q s1 f1 a1 => by
  obtain ⟨p, xs, ds, rfl, rfl, h1, _, h3, q⟩ := at_T a1 q
  exact ⟨p, rfl, ⟨_, h1⟩, k ds _ H1 [.ref p] [.tup ds] q s1 f1 (.one a1) walks_tup⟩
theorem evi_rng1 (h : EvA K C ta ρ fun ds => as1 ds fun d => asI d fun j => -(2 ^ 62) ≤ j ∧ j < 2 ^ 62 ∧ P (rngD 0 j.toNat)) : EvI K C (iRng1 ta) ρ P := fun σ H R s k => h σ H _ s fun ds vs H1 q s1 f1 a1 => by
  obtain ⟨v, d, rfl, a, q⟩ := all_1 a1 q
  obtain ⟨j, rfl, rfl, q⟩ := at_int a q
  exact ⟨j, rfl, q.1, q.2.1, k _ _ H1 [] [] q.2.2 s1 f1 .nil walks_rng⟩
theorem evi_rng2 (h : EvA K C ta ρ fun ds => as2 ds fun d e => asI d fun i => asI e fun j => (-(2 ^ 62) ≤ i ∧ i < 2 ^ 62 ∧ -(2 ^ 62) ≤ j ∧ j < 2 ^ 62) ∧ P (rngD i (j - i).toNat)) : EvI K C (iRng2 ta) ρ P := fun σ H R s k => h σ H _ s fun ds vs H1 q s1 f1 a1 => by
  obtain ⟨v, w, d, e, rfl, a, b, q⟩ := all_2 a1 q
  obtain ⟨i, rfl, rfl, q⟩ := at_int a q
  obtain ⟨j, rfl, rfl, q⟩ := at_int b q
  exact ⟨i, j, rfl, q.1, k _ _ H1 [] [] q.2 s1 f1 .nil walks_rng⟩
def enumD (ds : List D) : List D := (List.range ds.length).map fun (i : Nat) => .tup [.int ((i : Nat) : Int), ds.getD i .non]
theorem enumD_get {ds : List D} {i : Nat} {d : D} (h : ds[i]? = some d) : (enumD ds)[i]? = some (.tup [.int (i : Int), d]) := by
  have hi := (List.getElem?_eq_some_iff.mp h).1
  unfold enumD
  simp [hi, List.getD, h]
  have := (List.getElem?_eq_some_iff.mp h).2
  exact this
theorem enumD_len (ds : List D) : (enumD ds).length = ds.length := by unfold enumD; simp
theorem walks_enum {a : Addr} {ds : List D} : Walks K (Ite K a) [.ref a] [.lst ds] (enumD ds) := fun O H h => by
  cases h with
  | cons h _ =>
    cases h with
    | @lst _ xs _ h1 _ h3 =>
      have hl := h3.length
      have W := walk_enum (K := K) (a := a) (xs := xs)
      rw [enumD_len]
      refine ⟨fun i hi => W.goes i H (by omega) (SqL.of h1), by rw [← hl]; exact W.stops H (SqL.of h1), fun i x H' hi y => ?_⟩
      obtain ⟨T, u, z, rfl, nT, rfl, e1, e2⟩ := W.yields i H x H' (by omega) (SqL.of h1) y
      obtain ⟨d, e, a⟩ := h3.get e2
      cases e1
      exact ⟨_, enumD_get e, same_upd nT, fun lv => At.mkTup nT (fun m => lv _ m nT) (.cons (.int _) (.one a))⟩
theorem evi_enum (h : EvA K C ta ρ fun ds => as1 ds fun d => asL d fun l => P (enumD l)) : EvI K C (iEnum K ta) ρ P := fun σ H R s k => h σ H _ s fun ds vs H1 q s1 f1 a1 => by
  obtain ⟨v, d, rfl, a, q⟩ := all_1 a1 q
  obtain ⟨p, xs, ds, rfl, rfl, h1, _, h3, q⟩ := at_L a q
  exact ⟨p, _, rfl, SqL.of h1, k _ _ H1 [.ref p] [.lst ds] q s1 f1 (.one a) walks_enum⟩
def zipD (ds es : List D) : List D := List.zipWith (fun d e => .tup [d, e]) ds es
theorem zipD_get {ds es : List D} {i : Nat} {d e : D} (h : ds[i]? = some d) (g : es[i]? = some e) : (zipD ds es)[i]? = some (.tup [d, e]) := by
  unfold zipD
  rw [List.getElem?_zipWith, h, g]
theorem zipD_len (ds es : List D) : (zipD ds es).length = min ds.length es.length := by unfold zipD; exact List.length_zipWith
theorem walks_zip {a b : Addr} {ds es : List D} : Walks K (Itz K a b) [.ref a, .ref b] [.lst ds, .lst es] (zipD ds es) := fun O H h => by
  cases h with
  | cons h g =>
    cases g with
    | cons g _ =>
      cases h with
      | @lst _ xs _ h1 _ h3 =>
        cases g with
        | @lst _ ys _ g1 _ g3 =>
          have hl := h3.length
          have gl := g3.length
          have W := walk_zip (K := K) (a := a) (b := b) (xs := xs) (ys := ys) rfl
          rw [zipD_len, ← hl, ← gl]
          refine ⟨fun i hi => W.goes i H hi ⟨SqL.of h1, SqL.of g1⟩, W.stops H ⟨SqL.of h1, SqL.of g1⟩, fun i x H' hi y => ?_⟩
          obtain ⟨T, u, z, rfl, nT, rfl, e1, e2⟩ := W.yields i H x H' hi ⟨SqL.of h1, SqL.of g1⟩ y
          obtain ⟨d, e, a⟩ := h3.get e1
          obtain ⟨d2, e', a2⟩ := g3.get e2
          exact ⟨_, zipD_get e e', same_upd nT, fun lv => At.mkTup nT (fun m => lv _ m nT) (.cons a (.one a2))⟩
theorem walks_zipT {a b : Addr} {ds es : List D} : Walks K (RZ.ItzT K a b) [.ref a, .ref b] [.tup ds, .tup es] (zipD ds es) := fun O H h => by
  cases h with
  | cons h g =>
    cases g with
    | cons g _ =>
      cases h with
      | @tup _ xs _ h1 _ h3 =>
        cases g with
        | @tup _ ys _ g1 _ g3 =>
          have hl := h3.length
          have gl := g3.length
          rw [zipD_len, ← hl, ← gl]
          refine ⟨fun i hi => ⟨xs, ys, xs[i]'(by omega), ys[i]'(by omega), h1, g1, List.getElem?_eq_getElem (by omega), List.getElem?_eq_getElem (by omega)⟩, ⟨xs, ys, h1, g1, by omega⟩, fun i x H' hi y => ?_⟩
          obtain ⟨T, u, z, rfl, nT, rfl, f1, f2⟩ := y
          obtain ⟨d, e, a⟩ := h3.get (f1 _ h1)
          obtain ⟨d2, e', a2⟩ := g3.get (f2 _ g1)
          exact ⟨_, zipD_get e e', same_upd nT, fun lv => At.mkTup nT (fun m => lv _ m nT) (.cons a (.one a2))⟩
@[reducible] def asLL : D → D → (List D → List D → Prop) → Prop
  | .lst l, .lst m, k => k l m
  | .tup l, .tup m, k => k l m
  | _, _, _ => False
theorem evi_zip (h : EvA K C ta ρ fun ds => as2 ds fun d e => asLL d e fun l m => P (zipD l m)) : EvI K C (RZ.iZipA K ta) ρ P := fun σ H R s k => h σ H _ s fun ds vs H1 q s1 f1 a1 => by
  obtain ⟨v, w, d, e, rfl, a, b, q⟩ := all_2 a1 q
  cases a with
  | lst h1 n1 h3 =>
    cases b with
    | lst g1 n2 g3 => exact ⟨_, _, _, _, rfl, .inl ⟨SqL.of h1, SqL.of g1, k _ _ H1 [_, _] [_, _] q s1 f1 (.cons (.lst h1 n1 h3) (.one (.lst g1 n2 g3))) walks_zip⟩⟩
    | _ => exact q.elim
  | tup h1 n1 h3 =>
    cases b with
    | tup g1 n2 g3 => exact ⟨_, _, _, _, rfl, .inr ⟨h1, g1, k _ _ H1 [_, _] [_, _] q s1 f1 (.cons (.tup h1 n1 h3) (.one (.tup g1 n2 g3))) walks_zipT⟩⟩
    | _ => exact q.elim
  | _ => exact q.elim
end

section
variable {K : PySem.W.Frag} {C : Cz} {ρ : List Sl} {σ : L2.St} {H : Hp}
theorem St.hold (s : St K C ρ σ H) {vs : List V} {ds : List D} (a : AtAll K (Os C ρ) H vs ds) : St K (C.hold vs ds) ρ σ H := ⟨s.sl, s.nd, s.fr, s.lv, s.nO, s.fresh, s.bg, a.append s.held, s.ex, s.tb⟩
theorem AtAll.left {O : Ads} {vs ws : List V} {ds es : List D} (h : AtAll K O H (vs ++ ws) (ds ++ es)) (l : vs.length = ds.length) : AtAll K O H vs ds ∧ AtAll K O H ws es := by
  induction vs generalizing ds with
  | nil =>
    cases ds with
    | nil => exact ⟨.nil, h⟩
    | cons d ds => cases l
  | cons v vs ih =>
    cases ds with
    | nil => cases l
    | cons d ds =>
      cases h with
      | cons a b =>
        obtain ⟨h1, h2⟩ := ih b (Nat.succ.inj l)
        exact ⟨.cons a h1, h2⟩
theorem St.unhold {vs : List V} {ds : List D} (s : St K (C.hold vs ds) ρ σ H) (l : vs.length = ds.length) : St K C ρ σ H ∧ AtAll K (Os C ρ) H vs ds := by
  obtain ⟨h1, h2⟩ := AtAll.left (show AtAll K _ H (vs ++ C.hv) (ds ++ C.hd) from s.held) l
  exact ⟨⟨s.sl, s.nd, s.fr, s.lv, s.nO, s.fresh, s.bg, h2, s.ex, s.tb⟩, h1⟩
@[reducible] def loopP (I : List Sl → Prop) (P : Out → Prop) : Out → Prop
  | .nx ρ => I ρ
  | .ct ρ => I ρ
  | .bk ρ => P (.nx ρ)
  | .rt d => P (.rt d)
/-- for: I by the turn -/
theorem run_for {wi : TI} {g : TG} {tb : TS} {P : Out → Prop}
    (h : EvI K C wi ρ fun items => ∃ I : Nat → List Sl → Prop, I 0 ρ ∧ (∀ hv hd i d ρ', items[i]? = some d → I i ρ' → EvX K (C.hold hv hd) g d ρ' fun ρ2 => Run K (C.hold hv hd) tb ρ2 (loopP (I (i + 1)) P)) ∧ ∀ ρ', I items.length ρ' → P (.nx ρ')) :
    Run K C (tFor wi g tb) ρ P := fun En σ H s k => h σ H _ s fun items J H1 hv hd ⟨I, h0, hs, he⟩ s1 f1 a1 wk => by
  have hl := a1.length
  refine ⟨fun i m σ H => m = items.length - i ∧ i ≤ items.length ∧ ∃ ρ', I i ρ' ∧ St K (C.hold hv hd) ρ' σ H, ⟨_, rfl, Nat.zero_le _, ρ, h0, s1.hold a1⟩, ?_⟩
  rintro i m σ2 H2 ⟨rfl, hi, ρ', hI, s2⟩
  obtain ⟨s2', a2⟩ := s2.unhold hl
  obtain ⟨w1, w2, w3⟩ := wk _ H2 a2
  by_cases hlt : i < items.length
  · refine .inr ⟨w1 i hlt, fun σ' H' => ∃ ρ', I (i + 1) ρ' ∧ St K (C.hold hv hd) ρ' σ' H', fun σ' H' p => ⟨items.length - (i + 1), by omega, rfl, hlt, p⟩, fun x H' y => ?_⟩
    obtain ⟨d, hd2, e, a⟩ := w3 i x H' hlt y
    have s3 := s2.same e
    refine hs hv hd i d ρ' hd2 hI x σ2 H' _ s3 (a s2.lv) fun ρ2 σ3 hr s4 _ => ?_
    refine hr _ σ3 H' s4 ⟨fun ρ5 σ5 H5 p s5 => ⟨ρ5, p, s5⟩, fun d5 v5 ρ5 σ5 H5 p s5 a5 => k.rt d5 v5 ρ5 σ5 H5 p (s5.unhold hl).1 a5, fun ρ5 σ5 H5 p s5 => k.nx ρ5 σ5 H5 p (s5.unhold hl).1, fun ρ5 σ5 H5 p s5 => ⟨ρ5, p, s5⟩⟩
  · have e : i = items.length := by omega
    subst e
    exact .inl ⟨w2, k.nx ρ' σ2 H2 (he ρ' hI) s2'⟩
/-- while: I, a measure -/
theorem run_while {c : TT} {tb : TS} {P : Out → Prop} (I : List Sl → Prop) (μ : List Sl → Nat) (h0 : I ρ)
    (hs : ∀ ρ', I ρ' → EvT K C c ρ' fun b => if b = true then Run K C tb ρ' (loopP (fun ρ2 => I ρ2 ∧ μ ρ2 < μ ρ') P) else P (.nx ρ')) : Run K C (tWhile c tb) ρ P := fun En σ H s k => by
  refine ⟨fun m σ H => ∃ ρ', I ρ' ∧ m = μ ρ' ∧ St K C ρ' σ H, ⟨_, ρ, h0, rfl, s⟩, ?_⟩
  rintro m σ2 H2 ⟨ρ', hI, rfl, s2⟩
  refine hs ρ' hI σ2 H2 _ s2 fun b H3 q s3 _ => ?_
  cases b with
  | true =>
    refine ⟨fun σ' H' => ∃ ρ2, (I ρ2 ∧ μ ρ2 < μ ρ') ∧ St K C ρ2 σ' H', fun σ' H' ⟨ρ2, p, s4⟩ => ⟨_, p.2, ρ2, p.1, rfl, s4⟩, ?_⟩
    exact (show Run K C tb ρ' _ from q) _ σ2 H3 s3 ⟨fun ρ5 σ5 H5 p s5 => ⟨ρ5, p, s5⟩, k.rt, fun ρ5 σ5 H5 p s5 => k.nx ρ5 σ5 H5 p s5, fun ρ5 σ5 H5 p s5 => ⟨ρ5, p, s5⟩⟩
  | false => exact k.nx _ _ _ q s3
/-! ### comprehensions -/
def wipeR (ρ : List Sl) : List Nat → List Sl
  | [] => ρ
  | v :: vs => (wipeR ρ vs).set v .no
def nowns (ρ : List Sl) (vs : List Nat) : Bool := vs.all (nown ρ)
theorem nown_set {i j : Nat} {s : Sl} (hs : s.o = []) (h : nown ρ i = true) : nown (ρ.set j s) i = true := by
  unfold nown at *
  by_cases e : j = i
  · subst e
    by_cases hl : j < ρ.length
    · rw [List.getElem?_set_self hl]
      cases s <;> first | rfl | exact nomatch hs
    · rw [List.getElem?_eq_none (by simpa using hl)]
  · rw [List.getElem?_set_ne e]
    exact h
theorem nown_wipe {i : Nat} (h : nown ρ i = true) : ∀ vs, nown (wipeR ρ vs) i = true
  | [] => h
  | v :: vs => nown_set rfl (nown_wipe h vs)
theorem owns_wipe : ∀ {vs : List Nat}, nowns ρ vs = true → owns (wipeR ρ vs) = owns ρ
  | [], _ => rfl
  | v :: vs, h => by
    have h' : (nown ρ v && vs.all (nown ρ)) = true := h
    obtain ⟨h1, h2⟩ := Bool.and_eq_true_iff.mp h'
    show owns ((wipeR ρ vs).set v .no) = owns ρ
    rw [owns_set_eq rfl (nown_wipe h1 vs), owns_wipe (show nowns ρ vs = true from h2)]
theorem St.wipe (s : St K C ρ σ H) : ∀ vs, St K C (wipeR ρ vs) (L2.wipe σ vs) H
  | [] => s
  | v :: vs => (s.wipe vs).wipe1 v none
theorem wipe_same {σ2 : L2.St} {vs : List Nat} (hl : σ2.length = (wipe σ vs).length) (h : ∀ j, j ∉ vs → σ2[j]? = (wipe σ vs)[j]?) : wipe σ2 vs = wipe σ vs := by
  have g : ∀ (τ : L2.St) (vs : List Nat) (j : Nat), j ∈ vs → j < τ.length → (wipe τ vs)[j]? = some none := by
    intro τ vs
    induction vs with
    | nil => intro j hj; exact nomatch hj
    | cons v vs ih =>
      intro j hj hl
      show ((wipe τ vs).set v none)[j]? = _
      by_cases e : v = j
      · subst e
        rw [List.getElem?_set_self (by rw [wipe_length]; exact hl)]
      · rw [List.getElem?_set_ne e]
        rcases List.mem_cons.mp hj with z | z
        · exact absurd z.symm e
        · exact ih j z hl
  have g2 : ∀ (τ : L2.St) (vs : List Nat) (j : Nat), j ∉ vs → (wipe τ vs)[j]? = τ[j]? := by
    intro τ vs
    induction vs with
    | nil => intro j _; rfl
    | cons v vs ih =>
      intro j hj
      show ((wipe τ vs).set v none)[j]? = _
      rw [List.getElem?_set_ne fun e => hj (by rw [e]; exact List.mem_cons_self), ih j fun m => hj (List.mem_cons_of_mem _ m)]
  apply List.ext_getElem?
  intro j
  by_cases hj : j ∈ vs
  · by_cases hlt : j < σ.length
    · rw [g _ _ _ hj hlt, g _ _ _ hj (by rw [hl, wipe_length]; exact hlt)]
    · rw [List.getElem?_eq_none (by rw [wipe_length, hl, wipe_length]; omega), List.getElem?_eq_none (by rw [wipe_length]; omega)]
  · rw [g2 _ _ _ hj, h j hj]
/-- within a comprehension: D is being made -/
theorem St.inner {p : Addr} {ds : Cd} {vs : List Nat} (s : St K C (ρ ++ [.cell p ds]) (σ ++ [some (.ref p)]) H) (hv : nowns ρ vs = true) : St K { C with O0 := p :: C.O0 } (wipeR ρ vs) (L2.wipe σ vs) H := by
  have eo : owns (ρ ++ [.cell p ds]) = owns ρ ++ [p] := owns_append ρ _
  have ew := owns_wipe hv
  have s1 := s.loose.1
  have s2 := s1.wipe vs
  have nd := s.nd
  rw [eo] at nd
  have sub : ∀ a, a ∈ Os { C with O0 := p :: C.O0 } (wipeR ρ vs) → a ∈ Os C (ρ ++ [.cell p ds]) := fun a m => by
    have m' : a ∈ (p :: C.O0) ++ owns (wipeR ρ vs) := m
    show a ∈ C.O0 ++ owns (ρ ++ [.cell p ds])
    rw [eo]
    rw [ew] at m'
    rcases List.mem_append.mp m' with m' | m'
    · rcases List.mem_cons.mp m' with m' | m'
      · exact List.mem_append_right _ (List.mem_append_right _ (List.mem_singleton.mpr m'))
      · exact List.mem_append_left _ m'
    · exact List.mem_append_right _ (List.mem_append_left _ m')
  have sl : Sls K (Os { C with O0 := p :: C.O0 } (wipeR ρ vs)) H σ ρ := by
    have l0 : σ.length = ρ.length := by
      have := s.sl.length
      simpa using this
    have key : ∀ {σ' : L2.St} {ρ' : List Sl} {O : Ads}, Sls K O H (σ' ++ [some (.ref p)]) (ρ' ++ [.cell p ds]) → σ'.length = ρ'.length → Sls K O H σ' ρ' := by
      intro σ'
      induction σ' with
      | nil =>
        intro ρ' O h l
        cases ρ' with
        | nil => exact .nil
        | cons t ρ' => cases l
      | cons x σ' ih =>
        intro ρ' O h l
        cases ρ' with
        | nil => cases l
        | cons t ρ' =>
          cases h with
          | cons a b => exact .cons a (ih b (Nat.succ.inj l))
    exact (key s.sl l0).map (fun _ _ a => a.less sub) fun _ _ _ _ h a => ⟨_, h, a.less sub⟩
  have slw : ∀ vs', Sls K (Os { C with O0 := p :: C.O0 } (wipeR ρ vs)) H (L2.wipe σ vs') (wipeR ρ vs') := by
    intro vs'
    induction vs' with
    | nil => exact sl
    | cons v vs' ih => exact ih.set v (.no none)
  refine ⟨slw vs, by rw [ew]; exact s1.nd, s.fr, fun q m => s.lv q (sub q m), ⟨fun q m => List.mem_cons_of_mem _ (s.nO.1 q m), s.nO.2⟩, fun q m => ?_, fun q m => ⟨(s.bg q m).1, List.mem_cons_of_mem _ (s.bg q m).2.1, fun z => (s.bg q m).2.2 (sub _ z)⟩, s.held.less sub, fun x hx v H' f lv bg tb a => s.ex x hx v H' f (fun q m => lv q (List.mem_cons_of_mem _ m)) bg tb (a.less fun _ m => List.mem_cons_of_mem _ m), s.tb⟩
  rw [ew] at m
  refine ⟨(s1.fresh q m).1, fun z => ?_⟩
  rcases List.mem_cons.mp z with z | z
  · subst z
    exact (List.nodup_append.mp nd).2.2 q m q (List.mem_singleton.mpr rfl) rfl
  · exact (s1.fresh q m).2 z
def optP (I : List D → Prop) (ys : List D) (b : Option D) : Prop := match b with
  | some y => ys.length < sizeLine ∧ I (ys ++ [y])
  | none => I ys
/-- [e for g in wi if t]: I by the turn and by what is made so far -/
theorem evf_lc {wi : TI} {g : TG} {tt : TT} {te : TE} {vs : List Nat} {P : List D → Prop} (hv : nowns ρ vs = true)
    (h : EvI K C wi ρ fun items => ∃ I : Nat → List D → Prop, I 0 [] ∧ (∀ C' : Cz, C'.E = C.E → C'.X = C.X → C'.bags = C.bags → ∀ i d ys, items[i]? = some d → I i ys → EvG K C' g d vs (wipeR ρ vs) fun ρ2 =>
      EvT K C' tt ρ2 fun b => if b = true then Ev K C' te ρ2 fun y => ys.length < sizeLine ∧ I (i + 1) (ys ++ [y]) else I (i + 1) ys) ∧ ∀ ys, I items.length ys → P ys) :
    EvF K C (tLc wi g tt te vs) ρ P := fun σ H Q s k => h σ H _ s fun items J H1 hv' hd ⟨I, h0, hs, he⟩ s1 f1 a1 wk => by
  have hl := a1.length
  intro D nD
  have s1h := s1.hold a1
  refine ⟨fun i m H => m = items.length - i ∧ i ≤ items.length ∧ Fr (Bs C) H1 H ∧ ∃ ys, I i ys ∧ St K (C.hold hv' hd) (ρ ++ [.own D ys]) (σ ++ [some (.ref D)]) H, ⟨_, rfl, Nat.zero_le _, Fr.of (same_upd nD), [], h0, s1h.own nD .nil⟩, ?_⟩
  rintro i m H2 ⟨rfl, hi2, f2, ys, hI, s2⟩
  obtain ⟨s2', a2⟩ := s2.unhold hl
  obtain ⟨w1, w2, w3⟩ := wk _ H2 a2
  by_cases hlt : i < items.length
  · refine .inr ⟨w1 i hlt, fun H' => Fr (Bs C) H1 H' ∧ ∃ ys, I (i + 1) ys ∧ St K (C.hold hv' hd) (ρ ++ [.own D ys]) (σ ++ [some (.ref D)]) H', fun H' p => ⟨items.length - (i + 1), by omega, rfl, hlt, p⟩, fun x H' y => ?_⟩
    obtain ⟨d, hd2, e, a⟩ := w3 i x H' hlt y
    have s3 := s2.same e
    have si := s3.inner hv
    have ew := owns_wipe hv
    have eo : owns (ρ ++ [.own D ys]) = owns ρ ++ [D] := owns_append ρ _
    have eO : ∀ a, a ∈ Os { C.hold hv' hd with O0 := D :: (C.hold hv' hd).O0 } (wipeR ρ vs) → a ∈ Os (C.hold hv' hd) (ρ ++ [.own D ys]) := fun a m => by
      have m' : a ∈ (D :: C.O0) ++ owns (wipeR ρ vs) := m
      show a ∈ C.O0 ++ owns (ρ ++ [.own D ys])
      rw [eo]
      rw [ew] at m'
      rcases List.mem_append.mp m' with m' | m'
      · rcases List.mem_cons.mp m' with m' | m'
        · exact List.mem_append_right _ (List.mem_append_right _ (List.mem_singleton.mpr m'))
        · exact List.mem_append_left _ m'
      · exact List.mem_append_right _ (List.mem_append_left _ m')
    refine hs { C.hold hv' hd with O0 := D :: (C.hold hv' hd).O0 } rfl rfl rfl i d ys hd2 hI x _ H' _ si ((a s2.lv).less eO) fun ρ2 σ3 hr s4 eo2 l4 g4 => ?_
    refine ⟨wipe_same l4 g4, ?_⟩
    refine hr σ3 H' _ s4 fun b H4 q s5 f5 => ?_
    have back : ∀ {H5 : Hp}, Fr (Bs C) H' H5 → St K { C.hold hv' hd with O0 := D :: (C.hold hv' hd).O0 } ρ2 σ3 H5 → St K (C.hold hv' hd) (ρ ++ [.own D ys]) (σ ++ [some (.ref D)]) H5 := fun {H5} f s6 => by
      refine s3.bfr f s6.fr (fun p m => s6.lv p ?_) (fun q m => (s6.bg q m).1) s6.tb
      have m' : p ∈ C.O0 ++ owns (ρ ++ [.own D ys]) := m
      show p ∈ (D :: C.O0) ++ owns ρ2
      rw [eo2, ew]
      rw [eo] at m'
      rcases List.mem_append.mp m' with m' | m'
      · exact List.mem_append_left _ (List.mem_cons_of_mem _ m')
      · rcases List.mem_append.mp m' with m' | m'
        · exact List.mem_append_right _ m'
        · exact List.mem_append_left _ (by rw [List.mem_singleton.mp m']; exact List.mem_cons_self)
    cases b with
    | false => exact iteF ⟨(f2.trans (Fr.of e)).trans f5, ys, q, back f5 s5⟩
    | true =>
      refine iteT ((show Ev K _ te ρ2 _ from q) σ3 H4 _ s5 fun y v H5 q5 s6 f6 a6 => ?_)
      have s7 := back (f5.trans f6) s6
      obtain ⟨acc, e1, e2, e3⟩ := own_V (i := ρ.length) s7.sl (p := D) (ds := ys) (by rw [List.getElem?_append_right (Nat.le_refl _)]; simp)
      refine ⟨acc, e2, by rw [e3.length]; exact q5.1, ?_, ys ++ [y], q5.2, ?_⟩
      · intro b o n h
        rw [upd_ne (ne_of_none h nD)]
        exact ((f2.trans (Fr.of e)).trans (f5.trans f6)) b o n h
      · have s8 := s7.mut (i := ρ.length) (p := D) (ds := ys) (ds' := ys ++ [y]) (by rw [List.getElem?_append_right (Nat.le_refl _)]; simp) (e3.append (.one (a6.less fun a m => ?_)))
        · rw [show (ρ ++ [Sl.own D ys]).set ρ.length (Sl.own D (ys ++ [y])) = ρ ++ [Sl.own D (ys ++ [y])] by rw [List.set_append_right _ _ (Nat.le_refl _)]; simp] at s8
          exact s8
        · have m' : a ∈ C.O0 ++ owns (ρ ++ [.own D ys]) := m
          show a ∈ (D :: C.O0) ++ owns ρ2
          rw [eo2, ew]
          rw [eo] at m'
          rcases List.mem_append.mp m' with m' | m'
          · exact List.mem_append_left _ (List.mem_cons_of_mem _ m')
          · rcases List.mem_append.mp m' with m' | m'
            · exact List.mem_append_right _ m'
            · exact List.mem_append_left _ (by rw [List.mem_singleton.mp m']; exact List.mem_cons_self)
  · have e : i = items.length := by omega
    subst e
    exact .inl ⟨w2, k ys D H2 (he ys hI) s2'  (f1.trans f2)⟩
end

/-! ### defs by data -/
inductive Rs where
  | ok (d : D)
  | er (x : Ex)
/-- what a def does with data: its arguments, what is wanted of its answer -/
abbrev Sd := List (Addr × Addr) → List D → (Rs → Prop) → Prop
def spD (K : PySem.W.Frag) (S : Sd) : Sp := fun vs H Q E => ∃ (O ts : Ads) (bs : List (Addr × Addr)) (ds : List D) (Pq : Rs → Prop), AtAll K O H vs ds ∧ (∀ p, p ∈ O → H p ≠ none) ∧ (∀ q, q ∈ bs → Bag H q.1 q.2 ∧ q.1 ∈ O ∧ q.2 ∉ O) ∧ (∀ p, p ∈ ts → Tab H p) ∧ S bs ds Pq ∧
  (∀ d v H', Pq (.ok d) → Fr (bs.map (·.1)) H H' → (∀ p, p ∈ O → H' p ≠ none) → (∀ q, q ∈ bs → Bag H' q.1 q.2) → (∀ p, p ∈ ts → Tab H' p) → At K O H' v d → Q v H') ∧
  (∀ x, Pq (.er x) → ∀ v H', Fr (bs.map (·.1)) H H' → (∀ p, p ∈ O → H' p ≠ none) → (∀ q, q ∈ bs → Bag H' q.1 q.2) → (∀ p, p ∈ ts → Tab H' p) → At K O H' v x.val → Raised x.C x.fld x.code v H' E)
@[reducible] def okP (P : D → Prop) : Rs → Prop
  | .ok d => P d
  | .er _ => False
@[reducible] def exP (C : Cz) (P : D → Prop) : Rs → Prop
  | .ok d => P d
  | .er x => C.X x
/-- what stands behind a def's body -/
@[reducible] def endP (Pq : Rs → Prop) : Out → Prop
  | .rt d => Pq (.ok d)
  | .nx _ => Pq (.ok .non)
  | _ => False
@[reducible] def slots (n : Nat) (ds : List D) : List Sl := ds.map Sl.val ++ List.replicate (n - ds.length) Sl.no
theorem owns_vals (ds : List D) (n : Nat) : owns (ds.map Sl.val ++ List.replicate n Sl.no) = [] := by
  rw [owns_append]
  have h1 : owns (ds.map Sl.val) = [] := by
    induction ds with
    | nil => rfl
    | cons d ds ih => exact ih
  have h2 : owns (List.replicate n Sl.no) = [] := by
    induction n with
    | zero => rfl
    | succ n ih => exact ih
  rw [h1, h2]
  rfl
theorem sls_start {K : PySem.W.Frag} {O : Ads} {H : Hp} {vs : List V} {ds : List D} (a : AtAll K O H vs ds) (n : Nat) : Sls K O H (vs.map some ++ List.replicate n none) (ds.map Sl.val ++ List.replicate n Sl.no) := by
  induction vs generalizing ds with
  | nil =>
    cases a
    induction n with
    | zero => exact .nil
    | succ n ih => exact .cons (.no _) ih
  | cons v vs ih =>
    cases a with
    | cons a b => exact .cons (.val a) (ih b)
/-- from a promise to a run -/
theorem run_of {K : PySem.W.Frag} {S : Sd} {N : List Str} {vs : List V} {H : Hp} {Q : VK} {E : XK} {t : TS} (h : spD K S vs H Q E)
    (hr : ∀ (C : Cz) (ds : List D) (Pq : Rs → Prop), C.E = E → (∀ x, Pq (.er x) → C.X x) → S C.bags ds Pq → Run K C t (slots N.length ds) (endP Pq)) :
    t { nx := fun _ H' => Q .non H', rt := Q } (L2.start N vs) H := by
  obtain ⟨O, ts, bs, ds, Pq, a, lv, bg, ht, hS, q1, q2⟩ := h
  have hl := a.length
  have eo : owns (slots N.length ds) = [] := owns_vals ds _
  have eO : ∀ H : Hp, (∀ p, p ∈ O → H p ≠ none) → ∀ p, p ∈ O ++ owns (slots N.length ds) → H p ≠ none := fun H lv p m => by
    rw [eo, List.append_nil] at m
    exact lv p m
  refine hr ⟨O, H, bs.map (·.1), bs, [], [], E, fun x => Pq (.er x), ts⟩ ds Pq rfl (fun x h => h) hS _ _ H ?_ ?_
  · refine ⟨?_, by rw [eo]; exact List.nodup_nil, Fr.refl _ _, eO H lv, ⟨fun p m => ?_, fun q m => .inl (List.mem_map.mpr ⟨q, m, rfl⟩)⟩, fun p m => ?_, fun q m => ⟨(bg q m).1, (bg q m).2.1, ?_⟩, .nil, fun x hx v H' f lv bg tb a => q2 x hx v H' f lv bg tb a, ht⟩
    · show Sls K (O ++ owns (slots N.length ds)) H (L2.start N vs) _
      rw [eo, List.append_nil]
      unfold L2.start slots
      rw [hl]
      exact sls_start a _
    · obtain ⟨q, hq, rfl⟩ := List.mem_map.mp m
      exact (bg q hq).2.1
    · rw [eo] at m; exact nomatch m
    · show q.2 ∉ O ++ owns (slots N.length ds)
      rw [eo, List.append_nil]
      exact (bg q m).2.2
  · refine ⟨fun ρ σ H' p s => q1 .non .non H' p s.fr (fun x m => s.lv x (List.mem_append_left _ m)) (fun q m => (s.bg q m).1) s.tb .non, fun d v ρ σ H' p s a => q1 d v H' p s.fr (fun x m => s.lv x (List.mem_append_left _ m)) (fun q m => (s.bg q m).1) s.tb a, fun _ _ _ p => p.elim, fun _ _ _ p => p.elim⟩
theorem sp_len {K : PySem.W.Frag} {S : Sd} {n : Nat} (len : ∀ bs ds Pq, S bs ds Pq → ds.length = n) {vs : List V} {H : Hp} {Q : VK} {E : XK} (h : spD K S vs H Q E) : vs.length = n := by
  obtain ⟨O, ts, bs, ds, Pq, a, _, _, _, hS, _⟩ := h
  rw [a.length, len _ _ _ hS]
section
variable {P : Program} {w : World} {K : PySem.W.Frag} {mg : Str → Option Value} {base : Heap}
/-- THE RULE for a def by data; for one that may raise -/
theorem okD {x qual : Str} {st : Stmt} {f : Addr} {fd : FuncData} {N ps : List Str} {k : Nat} {S : Sd} (F : Fun K x qual st f fd) (sc : FnScope N ps (defScope st)) (len : ∀ bs ds Pq, S bs ds Pq → ds.length = ps.length)
    (hbody : ∀ (cdv : Value) (A : Around) (outer : List Env) (s : Shared) (H : Hp) (E : XK), Room k (A.deeper (envOfC qual (defScope st) s.heap.objs.size f cdv)) →
      ∃ t, PSs (cxOf CX0 P w K mg base N qual (defScope st) f cdv A outer s H E).nox (defBody st) t ∧ ∀ (C : Cz) (ds : List D) (Pq : Rs → Prop), C.E = E → (∀ x, Pq (.er x) → C.X x) → S C.bags ds Pq → Run K C t (slots N.length ds) (endP Pq)) : FnOk P w K mg base CX0 (k + 1) f fd ps (spD K S) :=
  F.ok sc (fun vs H Q E h => sp_len len h) fun cdv A outer s H vs Q E hr h => by
    obtain ⟨t, h1, h2⟩ := hbody cdv A outer s H E hr
    exact ⟨t, h1, run_of h h2⟩
theorem okDX {x qual : Str} {st : Stmt} {f : Addr} {fd : FuncData} {N ps : List Str} {k : Nat} {S : Sd} (F : Fun K x qual st f fd) (sc : FnScope N ps (defScope st)) (len : ∀ bs ds Pq, S bs ds Pq → ds.length = ps.length)
    (hbody : ∀ (cdv : Value) (A : Around) (outer : List Env) (s : Shared) (H : Hp) (E : XK), Room k (A.deeper (envOfC qual (defScope st) s.heap.objs.size f cdv)) →
      ∃ t, PSs (cxOf (L2.CX P w) P w K mg base N qual (defScope st) f cdv A outer s H E) (defBody st) t ∧ ∀ (C : Cz) (ds : List D) (Pq : Rs → Prop), C.E = E → (∀ x, Pq (.er x) → C.X x) → S C.bags ds Pq → Run K C t (slots N.length ds) (endP Pq)) : FnOk P w K mg base (L2.CX P w) (k + 1) f fd ps (spD K S) :=
  F.okX sc (fun vs H Q E h => sp_len len h) fun cdv A outer s H vs Q E hr h => by
    obtain ⟨t, h1, h2⟩ := hbody cdv A outer s H E hr
    exact ⟨t, h1, run_of h h2⟩
end
/-! ### calls -/
section
variable {K : PySem.W.Frag} {C : Cz} {ρ : List Sl} {P : D → Prop} {ta : TA} {S : Sd} {E : XK}
theorem call_core {bs : List (Addr × Addr)} (hb : ∀ q, q ∈ bs → q ∈ C.bags) {Pq : Rs → Prop} {dvs : List V} {dds : List D} (hd : ∀ O H, AtAll K O H dvs dds) (hok : ∀ d, Pq (.ok d) → P d) (hex : ∀ x, Pq (.er x) → C.X x ∧ E = C.E) (h : EvA K C ta ρ fun ds => S bs (ds ++ dds) Pq) : Ev K C (tCall (spD K S) dvs E ta) ρ P := fun σ H Q s k =>
  h σ H _ s fun ds vs H1 q s1 f1 a1 => by
    have up : ∀ {H'}, Fr (bs.map (·.1)) H1 H' → Fr (Bs C) H1 H' := fun f => f.mono fun a m => by
      obtain ⟨q, hq, rfl⟩ := List.mem_map.mp m
      exact List.mem_map.mpr ⟨q, hb q hq, rfl⟩
    have nN : ∀ a, a ∈ bs.map (·.1) → a ∈ C.O0 := fun a m => by
      obtain ⟨q, hq, rfl⟩ := List.mem_map.mp m
      exact (s1.bg q (hb q hq)).2.1
    have st : ∀ H', Fr (bs.map (·.1)) H1 H' → (∀ p, p ∈ Os C ρ → H' p ≠ none) → (∀ q, q ∈ bs → Bag H' q.1 q.2) → (∀ p, p ∈ C.tabs → Tab H' p) → Fr C.N C.H0 H' → St K C ρ σ H' := fun H' f lv bg tb fr => by
      refine s1.bfr (up f) fr lv (fun q m => ?_) tb
      by_cases z : q.1 ∈ bs.map (·.1)
      · obtain ⟨q', hq', e'⟩ := List.mem_map.mp z
        have b1 := bg q' hq'
        obtain ⟨cs, i, hh, sd, y⟩ := (s1.bg q m).1
        obtain ⟨cs', i', hh', sd', y'⟩ := (s1.bg q' (hb q' hq')).1
        have e2 : q.2 = q'.2 := by
          have := y.at_
          rw [← e', y'.at_] at this
          injection this with this
          injection this with this
          injection this with h1 h2
          injection h1 with h1
          exact h1.symm
        rw [← e', e2]
        exact b1
      · obtain ⟨cs, i, hh, sd, y⟩ := (s1.bg q m).1
        by_cases z2 : q.2 ∈ bs.map (·.1)
        · exact absurd (List.mem_append_left _ (nN _ z2)) (s1.bg q m).2.2
        · exact ⟨cs, i, hh, sd, f _ _ z y.at_ (fun _ z => nomatch z), f _ _ z2 y.cells (fun _ z => nomatch z), y.ne, y.len, y.i0, y.h0, y.s0, y.s1⟩
    have frN : ∀ H', Fr (bs.map (·.1)) H1 H' → Fr C.N C.H0 H' := fun H' f b o n h0 nt => by
      have h1 := s1.fr b o n h0 nt
      by_cases z : b ∈ bs.map (·.1)
      · obtain ⟨q, hq, rfl⟩ := List.mem_map.mp z
        rcases s1.nO.2 q (hb q hq) with z2 | z2
        · exact absurd z2 n
        · rw [z2] at h0; cases h0
      · exact f b o z h1 nt
    refine ⟨Os C ρ, C.tabs, bs, ds ++ dds, Pq, a1.append (hd _ _), s1.lv, fun q m => s1.bg q (hb q m) |> fun ⟨h1, h2, h3⟩ => ⟨h1, List.mem_append_left _ h2, h3⟩, s1.tb, q, fun d v H' p f lv bg tb a => ?_, fun x p v H' f lv bg tb a => ?_⟩
    · exact k d v H' (hok d p) (st H' f lv bg tb (frN H' f)) (f1.trans (up f)) a
    · obtain ⟨h1, h2⟩ := hex x p
      rw [h2]
      exact s1.ex x h1 v H' (frN H' f) (fun p m => lv p (List.mem_append_left _ m)) (fun q m => ((st H' f lv bg tb (frN H' f)).bg q m).1) tb (a.less fun _ m => List.mem_append_left _ m)
theorem ev_call (h : EvA K C ta ρ fun ds => S [] ds (okP P)) : Ev K C (tCall (spD K S) [] E ta) ρ P :=
  call_core (bs := []) (dds := []) (fun _ m => nomatch m) (fun _ _ => .nil) (fun _ p => p) (fun _ p => False.elim p) (by simpa using h)
theorem ev_callB (h : EvA K C ta ρ fun ds => S C.bags ds (okP P)) : Ev K C (tCall (spD K S) [] E ta) ρ P :=
  call_core (bs := C.bags) (dds := []) (fun _ m => m) (fun _ _ => .nil) (fun _ p => p) (fun _ p => False.elim p) (by simpa using h)
theorem ev_callC {bs : List (Addr × Addr)} (e : C.bags = bs) (h : EvA K C ta ρ fun ds => S bs ds (okP P)) : Ev K C (tCall (spD K S) [] E ta) ρ P := by
  subst e
  exact ev_callB h
theorem ev_callX (he : E = C.E) (h : EvA K C ta ρ fun ds => S [] ds (exP C P)) : Ev K C (tCall (spD K S) [] E ta) ρ P :=
  call_core (bs := []) (dds := []) (fun _ m => nomatch m) (fun _ _ => .nil) (fun _ p => p) (fun _ p => ⟨p, he⟩) (by simpa using h)
end
/-! ### a dict of the module -/
section
variable {K : PySem.W.Frag} {C : Cz} {ρ : List Sl} {P : D → Prop} {te : TE} {w : World}
/-- v as data, whatever the heap -/
def KAt (K : PySem.W.Frag) (v : V) (d : D) : Prop := ∀ O H, At K O H v d
theorem ev_kget {a : Addr} (h : Ev K C te ρ fun d => asS d fun z => (∃ v e, KDct K w a z v ∧ KAt K v e ∧ P e) ∨ (KMiss K w a z ∧ P .non)) : Ev K C (tKGet K w a te) ρ P := fun σ H Q s k => h σ H _ s fun d v H1 q s1 f1 a1 => by
  obtain ⟨z, rfl, rfl, q⟩ := at_str a1 q
  refine ⟨z, rfl, ?_⟩
  rcases q with ⟨v, e, h1, h2, q⟩ | ⟨h1, q⟩
  · exact .inl ⟨v, h1, k _ _ _ q s1 f1 (h2 _ _)⟩
  · exact .inr ⟨h1, k _ _ _ q s1 f1 .non⟩
instance opd_ixD : OpD K (rIxD K w) (fun d e P => asV d fun x => asS e fun z => ∃ p, x = .ref p ∧ ∃ v u, KDct K w p z v ∧ KAt K v u ∧ P u) := ⟨fun O H x y d e Q P a b h _ q => by
  have h1 := at_V a h
  obtain ⟨z, rfl, rfl, p, rfl, v, u, h2, h3, h4⟩ := at_str b h1
  exact ⟨p, z, v, rfl, rfl, h2, q _ _ _ h4 (Same.refl H) (h3 _ _)⟩⟩
end

/-! ### errors are made -/
def sp_pe (K : PySem.W.Frag) : Sp := fun vs H Q _ => ∃ (a C : Addr) (z : Str), vs = [.ref a, .str z] ∧ OexC K C ∧ PySem.W.findIn K (.ref C) "code" = some none ∧ H a = some (exo a C none) ∧ ∀ dx, H dx = none → dx ≠ a → Q .non (upd (upd H dx (exd dx [("code", .str z)])) a (exo a C (some dx)))
def sp_x1 (K : PySem.W.Frag) (C : Addr) (fld z : Str) : Sp := fun vs H Q _ => ∃ (a : Addr) (v : V), vs = [.ref a, v] ∧ H a = some (exo a C none) ∧ ∀ dx H', H dx = none → dx ≠ a → H' a = some (exo a C (some dx)) → H' dx = some (exd dx [(fld, v), ("code", .str z)]) → (∀ b, b ≠ a → b ≠ dx → H' b = H b) → Q .non H'
theorem mk_x1 {K : PySem.W.Frag} {C : Addr} {fld z : Str} {H1 : Hp} {v : V} {W : Option Addr → Hp → Prop} (h : ∀ d, H1 d = none → W (some d) (upd H1 d (.xd [(fld, v), ("code", .str z)]))) :
    ∀ a, H1 a = none → sp_x1 K C fld z (.ref a :: ([v] ++ [])) (upd H1 a (exo a C none)) (fun y H2 => y = .non ∧ ∃ (d : Addr) (fs : List (Str × V)), H2 a = some (exo a C (some d)) ∧ H2 d = some (exd d fs) ∧ H1 d = none ∧ W (some d) (upd (del H2 a) d (.xd fs))) (fun _ _ _ => False) := by
  intro a na
  refine ⟨a, v, rfl, upd_same, fun dx H' n ne e1 e2 e3 => ⟨rfl, dx, _, e1, e2, by rwa [upd_ne ne] at n, ?_⟩⟩
  have e : upd (del H' a) dx (.xd [(fld, v), ("code", .str z)]) = upd H1 dx (.xd [(fld, v), ("code", .str z)]) := by
    funext b
    by_cases h1 : b = dx
    · rw [h1, upd_same, upd_same]
    · rw [upd_ne h1, upd_ne h1]
      by_cases h2 : b = a
      · rw [h2, del_same, na]
      · rw [del_ne h2, e3 b h2 h1, upd_ne h2]
  rw [e]
  exact h dx (by rwa [upd_ne ne] at n)
section
variable {K : PySem.W.Frag} {C : Cz} {ρ : List Sl} {P : D → Prop} {te tl th : TE} {ta : TA}
theorem run_raise {PO : Out → Prop} {E : XK} {Ce : Addr} {fld z : Str} (he : C.E = E) (h : EvA K C ta ρ fun ds => as1 ds fun d => C.X ⟨Ce, fld, z, d⟩) : Run K C (fun _ σ H => tMkO Ce (sp_x1 K Ce fld z) [] ta σ H fun cls d H' => E cls d H') ρ PO := fun En σ H s k => h σ H _ s fun ds vs H1 q s1 f1 a1 => by
  obtain ⟨v, d, rfl, a, q⟩ := all_1 a1 q
  refine ⟨by show (1 : Nat) ≤ 1000; decide, ?_⟩
  have r := s1.ex _ q v H1 s1.fr (fun p m => s1.lv p (List.mem_append_left _ m)) (fun q m => (s1.bg q m).1) s1.tb (a.less fun _ m => List.mem_append_left _ m)
  rw [he] at r
  exact mk_x1 (W := fun d H' => E (.ref Ce) d H') r
/-! ### isinstance of built-in kinds -/
inductive Ty6 where
  | list | tuple | dict | bool | int | str
def Ty6.nm : Ty6 → String
  | .list => "list" | .tuple => "tuple" | .dict => "dict" | .bool => "bool" | .int => "int" | .str => "str"
@[reducible] def isi : D → Ty6 → Bool
  | .lst _, .list => true
  | .tup _, .tuple => true
  | .bl _, .bool => true
  | .bl _, .int => true
  | .int _, .int => true
  | .str _, .str => true
  | _, _ => false
@[reducible] def isiOk : D → Bool
  | .ins _ _ => false
  | .oth _ => false
  | .fn _ => false
  | .any => false
  | _ => true
def kits : List (String × Ty6 × Bool) := [("list", .list, true), ("list", .tuple, false)]
def tIsi (K : PySem.W.Frag) (T : Ty6) (te : TE) : TE := tCB (rIsi K) (tCons te (tCons (tC (.ty T.nm)) tNil))
theorem kb_non (T : Ty6) : kitB "NoneType" T.nm = some false := by cases T <;> decide +kernel
theorem kb_bl (T : Ty6) : kitB "bool" T.nm = some (isi (.bl true) T) := by cases T <;> decide +kernel
theorem kb_int (T : Ty6) : kitB "int" T.nm = some (isi (.int 0) T) := by cases T <;> decide +kernel
theorem kb_str (T : Ty6) : kitB "str" T.nm = some (isi (.str "") T) := by cases T <;> decide +kernel
theorem kb_tup (T : Ty6) : kitB "tuple" T.nm = some (isi (.tup []) T) := by cases T <;> decide +kernel
theorem kb_lst (T : Ty6) : kitB "list" T.nm = some (isi (.lst []) T) := by cases T <;> decide +kernel
theorem ev_isi {T : Ty6} (h : Ev K C te ρ fun d => isiOk d = true ∧ P (.bl (isi d T))) : Ev K C (tIsi K T te) ρ P := fun σ H Q s k => h σ H _ s fun d v H1 q s1 f1 a1 => by
  have fin : ∀ {b : Bool}, P (.bl b) → Q (.bl b) H1 := fun {b} p => k _ _ _ p s1 f1 (.bl b)
  cases a1 with
  | non => exact ⟨_, _, _, _, _, rfl, .ty _, .base .non, kit_ty (kb_non T), fin (by have := q.2; cases T <;> exact this)⟩
  | bl b => exact ⟨_, _, _, _, _, rfl, .ty _, .base (.bl b), kit_ty (kb_bl T), fin (by have := q.2; cases T <;> exact this)⟩
  | int b => exact ⟨_, _, _, _, _, rfl, .ty _, .base (.int b), kit_ty (kb_int T), fin (by have := q.2; cases T <;> exact this)⟩
  | str b => exact ⟨_, _, _, _, _, rfl, .ty _, .base (.str b), kit_ty (kb_str T), fin (by have := q.2; cases T <;> exact this)⟩
  | tup h1 _ _ => exact ⟨_, _, _, _, _, rfl, .ty _, tyT h1, kit_ty (kb_tup T), fin (by have := q.2; cases T <;> exact this)⟩
  | lst h1 _ _ => exact ⟨_, _, _, _, _, rfl, .ty _, tyL (SqL.of h1), kit_ty (kb_lst T), fin (by have := q.2; cases T <;> exact this)⟩
  | _ => exact nomatch q.1
/-! ### slices -/
def cutD (xs : List D) (lo hi : Option Int) : List D := (xs.drop (HT.sIx xs.length 0 lo)).take (HT.sIx xs.length xs.length hi - HT.sIx xs.length 0 lo)
theorem AtAll.cut {O : Ads} {H : Hp} {xs : List V} {ds : List D} (h : AtAll K O H xs ds) (lo hi : Option Int) : AtAll K O H (cutV xs lo hi) (cutD ds lo hi) := by
  unfold cutV cutD
  rw [h.length]
  exact (h.drop _).take _
theorem cutD_tail (x : D) (xs : List D) : cutD (x :: xs) (some 1) none = xs := by
  unfold cutD
  have e : HT.sIx (x :: xs).length 0 (some 1) = 1 := by
    have h := HT.sIx_nat (x :: xs).length 0 1
    rw [show ((1 : Nat) : Int) = 1 from rfl] at h
    rw [h, List.length_cons]
    omega
  rw [e, HT.sIx_none]
  show List.take ((x :: xs).length - 1) xs = xs
  rw [List.length_cons, Nat.add_sub_cancel]
  exact List.take_length
def EvO (K : PySem.W.Frag) (C : Cz) (to : TO) (ρ : List Sl) (P : Option Int → Prop) : Prop := ∀ σ H (Q : Option Int → Hp → Prop), St K C ρ σ H → (∀ z H', P z → St K C ρ σ H' → Fr (Bs C) H H' → Q z H') → to σ H Q
variable {PO : Option Int → Prop} {tol toh : TO}
theorem evo_none (p : PO none) : EvO K C tNoPart ρ PO := fun σ H Q s k => k _ _ p s (Fr.refl _ _)
theorem evo_some (h : Ev K C te ρ fun d => asI d fun i => PO (some i)) : EvO K C (tPart te) ρ PO := fun σ H Q s k => h σ H _ s fun d v H1 q s1 f1 a1 => by
  obtain ⟨i, rfl, rfl, q⟩ := at_int a1 q
  exact ⟨i, rfl, k _ _ q s1 f1⟩
class SlD (K : PySem.W.Frag) (r : V → Option Int → Option Int → Hp → VK → Prop) (f : outParam (D → Option Int → Option Int → (D → Prop) → Prop)) : Prop where
  op : ∀ O H x d lo hi (Q : VK) P, At K O H x d → f d lo hi P → (∀ p, p ∈ O → H p ≠ none) → (∀ d' v H', P d' → Same H H' → At K O H' v d' → Q v H') → r x lo hi H Q
theorem ev_sl {r : V → Option Int → Option Int → Hp → VK → Prop} {f : D → Option Int → Option Int → (D → Prop) → Prop} [o : SlD K r f] (h : Ev K C te ρ fun d => EvO K C tol ρ fun lo => EvO K C toh ρ fun hi => f d lo hi P) : Ev K C (tSl r te tol toh) ρ P := fun σ H Q s k =>
  h σ H _ s fun d v H1 q s1 f1 a1 => q σ H1 _ s1 fun lo H2 q2 s2 f2 => q2 σ H2 _ s2 fun hi H3 q3 s3 f3 => o.op (Os C ρ) H3 v d lo hi _ P ((a1.fr (s.up f2)).fr (s.up f3)) q3 s3.lv fun d' v' H' p e3 a3 => k _ _ _ p (s3.same e3) (((f1.trans f2).trans f3).trans (Fr.of e3)) a3
instance sld_str : SlD K rSlS (fun d lo hi P => asS d fun z => z.length ≤ sizeLine ∧ P (.str (cutS z lo hi))) := ⟨fun O H x d lo hi Q P a h _ q => by
  obtain ⟨z, rfl, rfl, h⟩ := at_str a h
  exact ⟨z, rfl, h.1, q _ _ _ h.2 (Same.refl H) (.str _)⟩⟩
instance sld_lst : SlD K (rSlL K) (fun d lo hi P => asL d fun l => P (.lst (cutD l lo hi))) := ⟨fun O H x d lo hi Q P a h lv q => by
  obtain ⟨p, xs, ds, rfl, rfl, h1, _, h3, h⟩ := at_L a h
  exact ⟨p, xs, rfl, SqL.of h1, fun c nc => q _ _ _ h (same_upd nc) (.lst upd_same (fun m => lv c m nc) ((h3.cut lo hi).fr (.of (same_upd nc))))⟩⟩
instance sld_tup : SlD K (rSlT K) (fun d lo hi P => asT d fun l => ¬ (HT.sIx l.length 0 lo = 0 ∧ HT.sIx l.length l.length hi = l.length) ∧ P (.tup (cutD l lo hi))) := ⟨fun O H x d lo hi Q P a h lv q => by
  obtain ⟨p, xs, ds, rfl, rfl, h1, _, h3, h⟩ := at_T a h
  exact ⟨p, xs, rfl, h1, by rw [h3.length]; exact h.1, fun c nc => q _ _ _ h.2 (same_upd nc) (At.mkTup nc (fun m => lv c m nc) (h3.cut lo hi))⟩⟩
theorem cut1_ok {x : D} {l : List D} : ¬ (HT.sIx (x :: l).length 0 (some 1) = 0 ∧ HT.sIx (x :: l).length (x :: l).length none = (x :: l).length) := by
  rintro ⟨h1, _⟩
  have h := HT.sIx_nat (x :: l).length 0 1
  rw [show ((1 : Nat) : Int) = 1 from rfl, h1, List.length_cons] at h
  omega
/-! ### texts -/
class MtD (K : PySem.W.Frag) (r : RM) (f : outParam (Str → D → (D → Prop) → Prop)) : Prop where
  op : ∀ O H z y e (Q : VK) P, At K O H y e → f z e P → (∀ p, p ∈ O → H p ≠ none) → (∀ d' v H', P d' → Same H H' → At K O H' v d' → Q v H') → r (.str z) [y] H Q
theorem ev_m1 {r : RM} {f : Str → D → (D → Prop) → Prop} [o : MtD K r f] (h : Ev K C te ρ fun d => asS d fun z => Ev K C tl ρ fun e => f z e P) : Ev K C (tM1 r te tl) ρ P := fun σ H Q s k => h σ H _ s fun d v H1 q s1 f1 a1 => by
  obtain ⟨z, rfl, rfl, q⟩ := at_str a1 q
  exact ⟨⟨z, rfl⟩, q σ H1 _ s1 fun e w H2 q2 s2 f2 a2 => o.op (Os C ρ) H2 z w e _ P a2 q2 s2.lv fun d' v' H' p e3 a3 => k _ _ _ p (s2.same e3) ((f1.trans f2).trans (Fr.of e3)) a3⟩
instance mtd_starts : MtD K rStarts (fun z e P => asS e fun y => P (.bl (Txt.startswith z y))) := ⟨fun O H z y e Q P a h _ q => by
  obtain ⟨y, rfl, rfl, h⟩ := at_str a h
  exact ⟨z, y, rfl, rfl, q _ _ _ h (Same.refl H) (.bl _)⟩⟩
instance mtd_ends : MtD K rEnds (fun z e P => asS e fun y => P (.bl (Txt.endswith z y))) := ⟨fun O H z y e Q P a h _ q => by
  obtain ⟨y, rfl, rfl, h⟩ := at_str a h
  exact ⟨z, y, rfl, rfl, q _ _ _ h (Same.refl H) (.bl _)⟩⟩
theorem AtAll.strs {O : Ads} {H : Hp} : ∀ ys : List Str, AtAll K O H (ys.map V.str) (ys.map D.str)
  | [] => .nil
  | y :: ys => .cons (.str y) (AtAll.strs ys)
theorem AtAll.ints {O : Ads} {H : Hp} : ∀ ys : List Int, AtAll K O H (ys.map V.int) (ys.map D.int)
  | [] => .nil
  | y :: ys => .cons (.int y) (AtAll.ints ys)
instance mtd_split : MtD K rSplitS (fun z e P => asS e fun y => (y.length == 0) = false ∧ z.length + 2 ≤ sizeLine ∧ P (.lst ((Txt.split z y).map D.str))) := ⟨fun O H z y e Q P a h lv q => by
  obtain ⟨y, rfl, rfl, h⟩ := at_str a h
  exact ⟨z, y, rfl, rfl, h.1, h.2.1, fun p n => q _ _ _ h.2.2 (same_upd n) (.lst upd_same (fun m => lv p m n) (AtAll.strs _))⟩⟩
instance mtd_join : MtD K (rJoinS K) (fun z e P => asQ e fun l => asSs l fun ys => (ys.map (·.length)).sum + ys.length * z.length ≤ 16777216 ∧ P (.str (Txt.join z ys))) := ⟨fun O H z y e Q P a h lv q => by
  obtain ⟨p, xs, l, rfl, h1, h3, h⟩ := at_Q a h
  obtain ⟨ys, rfl, rfl, g⟩ := all_strs h3 h
  exact ⟨z, p, ys, rfl, rfl, h1, g.1, q _ _ _ g.2 (Same.refl H) (.str _)⟩⟩
/-- sep.join of one's own list -/
theorem ev_joinO {p : Addr} {ds : List D} {i : Nat} (e : ρ[i]? = some (.own p ds)) (h : Ev K C te ρ fun d => asS d fun z => asSs ds fun ys => (ys.map (·.length)).sum + ys.length * z.length ≤ 16777216 ∧ P (.str (Txt.join z ys))) : Ev K C (tM1 (rJoinS K) te (tVar i)) ρ P := fun σ H Q s k => h σ H _ s fun d v H1 q s1 f1 a1 => by
  obtain ⟨z, rfl, rfl, q⟩ := at_str a1 q
  obtain ⟨vs, e1, h0, a⟩ := own_V s1.sl e
  obtain ⟨ys, rfl, rfl, g⟩ := all_strs a q
  exact ⟨⟨z, rfl⟩, _, e1, z, p, ys, rfl, rfl, .inl (SqL.of h0), g.1, k _ _ _ g.2 s1 f1 (.str _)⟩
/-- f-strings -/
theorem ev_fmt (h : Ev K C te ρ fun d => match d with
    | .str y => y.length ≤ sizeLine ∧ P (.str y)
    | .int i => i.natAbs.log2 < 1920 ∧ P (.str (Str.ofString (toString i)))
    | _ => False) : Ev K C (tFmt te) ρ P := fun σ H Q s k => h σ H _ s fun d v H1 q s1 f1 a1 => by
  cases a1 with
  | str y => exact .inl ⟨y, rfl, q.1, k _ _ _ q.2 s1 f1 (.str _)⟩
  | int i => exact .inr ⟨i, rfl, q.1, k _ _ _ q.2 s1 f1 (.str _)⟩
  | _ => exact q.elim
def EvJ (K : PySem.W.Frag) (C : Cz) (ts : List TE) (acc : Str) (ρ : List Sl) (P : Str → Prop) : Prop := ∀ σ H (Q : Str → Hp → Prop), St K C ρ σ H → (∀ z H', P z → St K C ρ σ H' → Fr (Bs C) H H' → Q z H') → tJs ts acc σ H Q
theorem evj_nil {acc : Str} {PS : Str → Prop} (p : PS acc) : EvJ K C [] acc ρ PS := fun σ H Q s k => k _ _ p s (Fr.refl _ _)
theorem evj_cons {acc : Str} {ts : List TE} {PS : Str → Prop} (h : Ev K C te ρ fun d => asS d fun y => (acc ++ y).length ≤ sizeLine ∧ EvJ K C ts (acc ++ y) ρ PS) : EvJ K C (te :: ts) acc ρ PS := fun σ H Q s k => h σ H _ s fun d v H1 q s1 f1 a1 => by
  obtain ⟨y, rfl, rfl, q⟩ := at_str a1 q
  exact ⟨y, rfl, q.1, q.2 σ H1 _ s1 fun z H2 p s2 f2 => k _ _ p s2 (f1.trans f2)⟩
def tJoin (ts : List TE) : TE := fun σ H Q => tJs ts Str.empty σ H fun out H1 => Q (.str out) H1
theorem ev_join {ts : List TE} (h : EvJ K C ts Str.empty ρ fun z => P (.str z)) : Ev K C (tJoin ts) ρ P := fun σ H Q s k => h σ H _ s fun z H1 p s1 f1 => k _ _ _ p s1 f1 (.str _)
end
section
variable {K : PySem.W.Frag} {C : Cz} {ρ : List Sl} {P : D → Prop} {te : TE}
/-- [e for g in wi], each item by f -/
theorem ev_lcm (f : D → D) {wi : TI} {g : TG} {tt : TT} {vs : List Nat} (hv : nowns ρ vs = true)
    (h : EvI K C wi ρ fun items => items.length ≤ 100000 ∧ (∀ C' : Cz, C'.E = C.E → C'.X = C.X → C'.bags = C.bags → ∀ (i : Nat) (d : D), items[i]? = some d → EvG K C' g d vs (wipeR ρ vs) fun ρ2 => EvT K C' tt ρ2 fun b => b = true ∧ Ev K C' te ρ2 fun y => y = f d) ∧ P (.lst (items.map f))) : Ev K C (tLc wi g tt te vs) ρ P := by
  refine ev_f (evf_lc hv fun σ H R s k => h σ H R s fun items J H' hv' hd q s1 f1 a1 w => k items J H' hv' hd ?_ s1 f1 a1 w)
  obtain ⟨q1, q2, q3⟩ := q
  refine ⟨fun i ys => ys = (items.take i).map f, rfl, fun C' e1 e2 e3 i d ys hi hI => ?_, fun ys hI => ?_⟩
  · intro v σ H Q s a k
    refine q2 C' e1 e2 e3 i d hi v σ H Q s a fun ρ' σ' p => k ρ' σ' fun σ2 H2 Q2 s2 k2 => p σ2 H2 Q2 s2 fun b H3 pb s3 f3 => k2 b H3 ?_ s3 f3
    have hlt := (List.getElem?_eq_some_iff.mp hi).1
    have e : (items.take (i + 1)).map f = (items.take i).map f ++ [f d] := by rw [List.take_add_one, hi, List.map_append]; rfl
    dsimp only
    rw [if_pos pb.1]
    refine ev_mono pb.2 fun y hy => ⟨?_, ?_⟩
    · rw [hI, List.length_map, List.length_take]
      exact Nat.lt_of_lt_of_le (show min i items.length < 200000 by omega) (by decide)
    · rw [hI, hy, e]
  · rw [hI, List.take_length]
    exact q3
instance cbf_sorted : CbF K (rSorted K) (fun ds P => as1 ds fun d => asL d fun l => asIs l fun ns => ns.length < 64 ∧ ∀ ns' : List Int, ns'.Perm ns → ns'.Pairwise (· ≤ ·) → P (ns'.map D.int)) := ⟨fun O H vs ds Q P a h q => by
  obtain ⟨v, d, rfl, a, h⟩ := all_1 a h
  obtain ⟨p, xs, l, rfl, rfl, h1, _, h3, h⟩ := at_L a h
  obtain ⟨ns, rfl, rfl, g⟩ := all_ints h3 h
  exact ⟨p, ns, rfl, SqL.of h1, g.1, fun ns' c hp hs nc => q _ _ _ (g.2 ns' hp hs) nc (AtAll.ints ns')⟩⟩
end
theorem k_sorted {X : Cx} {K : PySem.W.Frag} (h : X.K = K := by rfl) : CallR X (.builtin "sorted") (rSorted K) := h ▸ cr_sorted
theorem k_joined {X : Cx} {v1 v2 : Expr} {rest : List Expr} {ts : List TE} {pos : Pos} (h : PJ X (v1 :: v2 :: rest) ts) : PE X (.JoinedStr (v1 :: v2 :: rest) pos) (tJoin ts) := pe_joined h
theorem k_isi6 {X : Cx} {K : PySem.W.Frag} (T : Ty6) {e c : Expr} {te : TE} {p pos : Pos} (he : PE X e te) (hc : PE X c (tC (.ty T.nm))) (hg : Gl X "isinstance") (hm : X.mg "isinstance" = none) (h : X.K = K := by rfl)
    (h1 : starEach (e :: [c]) X.env = (false, eval e X.env) :: starEach [c] X.env := by rfl) (h2 : (backTo pos (starEach [c] X.env)).any (·.1) = false := by rfl) (hs2 : starEach (c :: []) X.env = (false, eval c X.env) :: starEach [] X.env := by rfl) : PE X (.Call (.Name "isinstance" p) [e, c] [] pos) (tIsi K T te) :=
  pe_callB (k_isi h) hg hm boot_isinstance (pa_cons he (pa_cons hc pa_nil (hs := hs2)) (hs := h1)) (he := h1) (hpl := h2)
/-! ### a def chosen by a table -/
theorem FnOk.weak {P : Program} {w : World} {K : PySem.W.Frag} {mg : Str → Option Value} {base : Heap} {CX : CXT} {k : Nat} {f : Addr} {fd : FuncData} {ps : List Str} {sp sp' : Sp} (F : FnOk P w K mg base CX k f fd ps sp) (h : ∀ vs H Q E, sp' vs H Q E → sp vs H Q E) : FnOk P w K mg base CX k f fd ps sp' :=
  ⟨fun vs H Q E q => F.len vs H Q E (h _ _ _ _ q), fun A outer s H args us vs Q E hr e0 hb hv q => F.run A outer s H args us vs Q E hr e0 hb hv (h _ _ _ _ q)⟩
theorem FnOk.lift {P : Program} {w : World} {K : PySem.W.Frag} {mg : Str → Option Value} {base : Heap} {k : Nat} {f : Addr} {fd : FuncData} {ps : List Str} {sp : Sp} (F : FnOk P w K mg base CX0 k f fd ps sp) : FnOk P w K mg base (L2.CX P w) k f fd ps sp :=
  ⟨F.len, fun A outer s H args us vs Q E hr e0 hb hv h => codeAny_mono (F.run A outer s H args us vs Q E hr e0 hb hv h) fun r s' q => by
    cases r with
    | error e => exact (show False from q).elim
    | ok fl => cases fl <;> exact q⟩
theorem FnOk.up {P : Program} {w : World} {K : PySem.W.Frag} {mg : Str → Option Value} {base : Heap} {CX : CXT} {k k' : Nat} {f : Addr} {fd : FuncData} {ps : List Str} {sp : Sp} (F : FnOk P w K mg base CX k f fd ps sp) (h : k ≤ k') : FnOk P w K mg base CX k' f fd ps sp :=
  ⟨F.len, fun A outer s H args us vs Q E hr e0 hb hv q => F.run A outer s H args us vs Q E (hr.mono h) e0 hb hv q⟩
theorem spD_mono {K : PySem.W.Frag} {S S' : Sd} (h : ∀ bs ds Pq, S' bs ds Pq → S bs ds Pq) {vs : List V} {H : Hp} {Q : VK} {E : XK} (q : spD K S' vs H Q E) : spD K S vs H Q E := by
  obtain ⟨O, ts, bs, ds, Pq, a, lv, bg, tb, hS, q1, q2⟩ := q
  exact ⟨O, ts, bs, ds, Pq, a, lv, bg, tb, h _ _ _ hS, q1, q2⟩
def tCallT {ι : Type} (K : PySem.W.Frag) (i : Nat) (adr : ι → Addr) (S : ι → Sd) (E : XK) (t : TA) : TE := fun σ H Q => ∃ x, σ[i]? = some (some (.ref (adr x))) ∧ t σ H fun vs H1 => spD K (S x) (vs ++ []) H1 Q E
theorem pe_callT {ι : Type} {X : Cx} {K : PySem.W.Frag} {CX : CXT} {k i : Nat} {x : Str} {p pos : Pos} {e : Expr} {es : List Expr} {t : TA} {E : XK} {adr : ι → Addr} {S : ι → Sd} (F : ∀ y, ∃ fd ps, FnOk X.prog X.w X.K X.mg X.base CX k (adr y) fd ps (spD K (S y)) ∧ PySem.W.keepIn X.K (.ref (adr y)) = true ∧ Binds X.K fd ps []) (hr : Room k X.A) (hN : X.N[i]? = some x) (hv : Vis X.env.scope x) (hx : Passes CX X E) (ha : PA X (e :: es) t)
    (hdb : (x == ("__debug__" : Str)) = false := by decide) (hcd : (x == ("__classdict__" : Str)) = false := by decide)
    (he : starEach (e :: es) X.env = (false, eval e X.env) :: starEach es X.env := by rfl) (hpl : (backTo pos (starEach es X.env)).any (·.1) = false := by rfl) : PE X (.Call (.Name x p) (e :: es) [] pos) (tCallT K i adr S E t) := by
  refine ⟨fun pins s σ H Q I h => ?_⟩
  obtain ⟨y, hs, ht⟩ := h
  obtain ⟨fd, ps, F1, hk, hb⟩ := F y
  exact (pe_callL (i := i) (f := adr y) (sp := spD K (S y)) (dvs := []) (E := E) F1 hr hN hv hk hb .nil hx ha hdb hcd he hpl).run pins s σ H Q I ⟨hs, ht⟩
section
variable {K : PySem.W.Frag} {C : Cz} {ρ : List Sl} {P : D → Prop} {ta : TA} {E : XK}
theorem ev_callT {ι : Type} {i : Nat} {adr : ι → Addr} {S : ι → Sd} (y : ι) (he : E = C.E) (e : ρ[i]? = some (.val (.oth (.ref (adr y))))) (h : EvA K C ta ρ fun ds => S y [] ds (exP C P)) : Ev K C (tCallT K i adr S E ta) ρ P := fun σ H Q s k => by
  obtain ⟨x, e1, a⟩ := s.sl.get e
  cases a with
  | val a =>
    cases a
    exact ⟨y, e1, ev_callX (S := S y) he h σ H Q s k⟩
end

/-! ### less is known of the slots -/
def Wk : List Sl → List Sl → Prop
  | [], [] => True
  | s :: ρ, s' :: ρ' => (s' = s ∨ (s' = .no ∧ s.o = [])) ∧ Wk ρ ρ'
  | _, _ => False
theorem Wk.refl : ∀ ρ, Wk ρ ρ
  | [] => True.intro
  | _ :: ρ => ⟨.inl rfl, Wk.refl ρ⟩
theorem Wk.owns_eq : ∀ {ρ ρ' : List Sl}, Wk ρ ρ' → owns ρ = owns ρ'
  | [], [], _ => rfl
  | s :: ρ, s' :: ρ', h => by
    show s.o ++ owns ρ = s'.o ++ owns ρ'
    rw [Wk.owns_eq h.2]
    rcases h.1 with rfl | ⟨rfl, e⟩
    · rfl
    · rw [e]; rfl
  | [], _ :: _, h => h.elim
  | _ :: _, [], h => h.elim
theorem Wk.trans : ∀ {ρ ρ1 ρ2 : List Sl}, Wk ρ ρ1 → Wk ρ1 ρ2 → Wk ρ ρ2
  | [], [], _, _, b => b
  | s :: ρ, s1 :: ρ1, [], _, b => b.elim
  | s :: ρ, s1 :: ρ1, s2 :: ρ2, a, b => ⟨by
      rcases b.1 with rfl | ⟨rfl, e⟩
      · exact a.1
      · rcases a.1 with rfl | ⟨rfl, e'⟩
        · exact .inr ⟨rfl, e⟩
        · exact .inr ⟨rfl, e'⟩, Wk.trans a.2 b.2⟩
  | [], _ :: _, _, a, _ => a.elim
  | _ :: _, [], _, a, _ => a.elim
theorem Wk.sls {K : PySem.W.Frag} {O : Ads} {H : Hp} : ∀ {ρ ρ' : List Sl} {σ : L2.St}, Wk ρ ρ' → Sls K O H σ ρ → Sls K O H σ ρ'
  | [], [], _, _, a => a
  | s :: ρ, s' :: ρ', _, h, .cons a b => .cons (by
      rcases h.1 with rfl | ⟨rfl, _⟩
      · exact a
      · exact .no _) (Wk.sls h.2 b)
  | [], _ :: _, _, h, _ => h.elim
  | _ :: _, [], _, h, _ => h.elim
section
variable {K : PySem.W.Frag} {C : Cz} {ρ ρ0 : List Sl} {σ : L2.St} {H : Hp}
theorem St.wk (s : St K C ρ σ H) (w : Wk ρ ρ0) : St K C ρ0 σ H := by
  have e := w.owns_eq
  have eo : Os C ρ = Os C ρ0 := by show _ ++ _ = _ ++ _; rw [e]
  exact ⟨eo ▸ w.sls s.sl, e ▸ s.nd, s.fr, eo ▸ s.lv, s.nO, e ▸ s.fresh, eo ▸ s.bg, eo ▸ s.held, s.ex, s.tb⟩
theorem run_wk {t : TS} {P : Out → Prop} (w : Wk ρ ρ0) (h : Run K C t ρ0 P) : Run K C t ρ P := fun En σ H s k => h En σ H (s.wk w) k
theorem evx_wk {g : TG} {d : D} {P : List Sl → Prop} (w : Wk ρ ρ0) (h : EvX K C g d ρ0 P) : EvX K C g d ρ P := fun v σ H Q s a k => h v σ H Q (s.wk w) (by rw [show Os C ρ0 = Os C ρ from congrArg (C.O0 ++ ·) w.owns_eq.symm]; exact a) fun ρ' σ' p s' e => k ρ' σ' p s' (e.trans w.owns_eq.symm)
/-- a loop that carries nothing -/
theorem forW (ρ0 : List Sl) {items : List D} {g : TG} {tb : TS} {P : Out → Prop} (w : Wk ρ ρ0)
    (h : ∀ (hv : List V) (hd : List D) (i : Nat) (d : D), items[i]? = some d → EvX K (C.hold hv hd) g d ρ0 fun ρ2 => Run K (C.hold hv hd) tb ρ2 (loopP (fun ρ3 => Wk ρ3 ρ0) P))
    (e : ∀ ρ3, Wk ρ3 ρ0 → P (.nx ρ3)) :
    ∃ I : Nat → List Sl → Prop, I 0 ρ ∧ (∀ hv hd i d ρ', items[i]? = some d → I i ρ' → EvX K (C.hold hv hd) g d ρ' fun ρ2 => Run K (C.hold hv hd) tb ρ2 (loopP (I (i + 1)) P)) ∧ ∀ ρ', I items.length ρ' → P (.nx ρ') :=
  ⟨fun _ ρ' => Wk ρ' ρ0, w, fun hv hd i d ρ' e hw => evx_wk hw (h hv hd i d e), fun ρ' hw => e ρ' hw⟩
end
/-- what follows, if less is known -/
theorem seq_wk {K : PySem.W.Frag} {C : Cz} {ρ0 : List Sl} {b : TS} {P : Out → Prop} (h : Run K C b ρ0 P) : ∀ ρ3, Wk ρ3 ρ0 → seqP K C b P (.nx ρ3) := fun _ w => run_wk w h
/-- a law's body, after its bag is made -/
theorem law_run {K : PySem.W.Frag} {t : TS} {Q : VK} {E : XK} {a b l : Addr} {H : Hp} {n : Nat} (hB : Bag H b l) (k : ∀ H', Q (.bl true) H')
    (h : ∀ C : Cz, C.E = E → C.bags = [(b, l)] → Run K C t (.val (.oth (.ref a)) :: .val (.oth (.ref b)) :: List.replicate n .no) fun o => o = .rt (.bl true)) :
    t { nx := fun _ H' => Q .non H', rt := Q } (some (.ref a) :: some (.ref b) :: List.replicate n none) H := by
  have eo : owns (.val (.oth (.ref a)) :: .val (.oth (.ref b)) :: List.replicate n Sl.no) = [] := owns_vals [.oth (.ref a), .oth (.ref b)] n
  have nl : l ∉ [b] := by
    obtain ⟨cs, i, hh, sd, y⟩ := hB
    exact fun m => y.ne (List.mem_singleton.mp m)
  have lb : H b ≠ none := by
    obtain ⟨cs, i, hh, sd, y⟩ := hB
    rw [y.at_]
    exact fun z => nomatch z
  refine h ⟨[b], H, [b], [(b, l)], [], [], E, fun _ => False, []⟩ rfl rfl _ _ H ?_ ?_
  · refine ⟨?_, by rw [eo]; exact List.nodup_nil, Fr.refl _ _, ?_, ⟨fun p m => m, fun q m => .inl ?_⟩, ?_, ?_, .nil, fun x h => h.elim, fun p m => nomatch m⟩
    · exact .cons (.val (.oth _)) (.cons (.val (.oth _)) (by
        clear eo h
        induction n with
        | zero => exact .nil
        | succ n ih => exact .cons (.no _) ih))
    · show ∀ p, p ∈ [b] ++ owns _ → _
      rw [eo, List.append_nil]
      exact fun p m => List.mem_singleton.mp m ▸ lb
    · obtain rfl := List.mem_singleton.mp m
      exact List.mem_singleton.mpr rfl
    · rw [eo]; exact fun p m => nomatch m
    · intro q m
      obtain rfl := List.mem_singleton.mp m
      refine ⟨hB, List.mem_singleton.mpr rfl, ?_⟩
      show l ∉ [b] ++ owns _
      rw [eo, List.append_nil]
      exact nl
  · exact ⟨fun _ _ _ p => (nomatch p), fun d v ρ σ H' p s a => by cases p; cases a; exact k _, fun _ _ _ p => (nomatch p), fun _ _ _ p => (nomatch p)⟩

/-! ### more of lists -/
def tRevQ (K : PySem.W.Frag) (te : TE) : TE := fun σ H Q => te σ H fun x H1 => ∃ a xs, x = .ref a ∧ SqL K H1 a xs ∧ ∀ p, H1 p = none → Q (.ref p) (upd H1 p (.lst xs.reverse))
theorem k_rev {X : Cx} {K : PySem.W.Frag} {e : Expr} {te : TE} {k : Nat} {p1 p2 p3 pos : Pos} (he : PE X e te) (h : X.K = K := by rfl) :
    PE X (.Subscript e (.Slice none none (some (.UnaryOp .USub (.Constant (.int 1) k p1) p2)) p3) pos) (tRevQ K te) := h ▸ pe_revL he
theorem mem_owns_set {x : Addr} {s : Sl} : ∀ {ρ : List Sl} {i : Nat}, x ∈ owns (ρ.set i s) → x ∈ s.o ∨ x ∈ owns ρ
  | [], _, h => .inr h
  | t :: ρ, 0, h => by
    rcases List.mem_append.mp h with h | h
    · exact .inl h
    · exact .inr (List.mem_append_right _ h)
  | t :: ρ, i + 1, h => by
    rcases List.mem_append.mp h with h | h
    · exact .inr (List.mem_append_left _ h)
    · rcases mem_owns_set h with h | h
      · exact .inl h
      · exact .inr (List.mem_append_right _ h)
section
variable {K : PySem.W.Frag} {C : Cz} {ρ : List Sl} {P : D → Prop} {te : TE} {i j : Nat} {PO : Out → Prop}
theorem ev_rev (h : Ev K C te ρ fun d => asL d fun l => P (.lst l.reverse)) : Ev K C (tRevQ K te) ρ P := fun σ H Q s k => h σ H _ s fun d v H1 q s1 f1 a1 => by
  obtain ⟨p, xs, ds, rfl, rfl, h1, _, h3, h⟩ := at_L a1 q
  exact ⟨p, xs, rfl, SqL.of h1, fun c nc => k _ _ _ h (s1.same (same_upd nc)) (f1.trans (Fr.of (same_upd nc))) (.lst upd_same (fun m => s1.lv c m nc) ((h3.reverse).fr (.of (same_upd nc))))⟩
theorem AtAll.flatRep {O : Ads} {H : Hp} {vs : List V} {ds : List D} (a : AtAll K O H vs ds) : ∀ n : Nat, AtAll K O H (List.replicate n vs).flatten (List.replicate n ds).flatten
  | 0 => .nil
  | n + 1 => by
    rw [List.replicate_succ, List.replicate_succ, List.flatten_cons, List.flatten_cons]
    exact a.append (AtAll.flatRep a n)
theorem flat_repD (d : D) : ∀ n : Nat, (List.replicate n [d]).flatten = List.replicate n d
  | 0 => rfl
  | n + 1 => by
    rw [List.replicate_succ, List.flatten_cons, flat_repD d n, List.replicate_succ]
    rfl
/-- one's own list of n times the items of another -/
theorem evf_rep {tn : TE} {PL : List D → Prop} (h : Ev K C te ρ fun d => asL d fun l => Ev K C tn ρ fun e => asI e fun n => -2 ^ 63 ≤ n ∧ n < 2 ^ 63 ∧ l.length * n.toNat ≤ sizeLine ∧ PL (List.replicate n.toNat l).flatten) : EvF K C (tOp rRep te tn) ρ PL := fun σ H Q s k =>
  h σ H _ s fun d v H1 q s1 f1 a1 => by
    obtain ⟨p, xs, ds, rfl, rfl, h1, h2, h3, q⟩ := at_L a1 q
    refine q σ H1 _ s1 fun e w H2 q s2 f2 a2 => ?_
    obtain ⟨n, rfl, rfl, n0, n1, n2, q⟩ := at_int a2 q
    have h1' : H2 p = some (.lst xs) := f2.mono (fun a m => by
      obtain ⟨q, hq, rfl⟩ := List.mem_map.mp m
      exact List.mem_append_left _ (s1.bg q hq).2.1) p _ h2 h1 fun _ z => nomatch z
    have h3' := h3.fr (s1.up f2)
    exact ⟨p, n, xs, rfl, rfl, h1', n0, n1, by rw [h3.length]; exact n2, fun c nc => k _ c _ q (s2.own nc (h3'.flatRep _)) ((f1.trans f2).trans (Fr.of (same_upd nc)))⟩
/-- a new list of one's own beside a value -/
theorem run_parO {te2 : TE} (h : EvF K C te ρ fun ds => i < ρ.length ∧ ∀ C' : Cz, C'.E = C.E → C'.X = C.X → C'.bags = C.bags → Ev K C' te2 ρ fun d => ∀ p, PO (.nx ((ρ.set i (.own p ds)).set j (.val d)))) : Run K C (tPar i j (tCons te (tCons te2 tNil))) ρ PO := fun En σ H s k =>
  h σ H _ s fun ds p H1 q s1 f1 => by
    have eo : owns (ρ ++ [.own p ds]) = owns ρ ++ [p] := owns_append ρ _
    have s2 : St K { C with O0 := p :: C.O0 } ρ σ H1 := s1.inner (vs := []) rfl
    refine q.2 { C with O0 := p :: C.O0 } rfl rfl rfl σ H1 _ s2 fun d w H2 pd s3 f3 a3 => ?_
    have s4 : St K C (ρ ++ [.own p ds]) (σ ++ [some (.ref p)]) H2 := s1.bfr f3 s3.fr (fun x m => s3.lv x (by
      have m : x ∈ C.O0 ++ owns (ρ ++ [.own p ds]) := m
      rw [eo] at m
      show x ∈ (p :: C.O0) ++ owns ρ
      rcases List.mem_append.mp m with m | m
      · exact List.mem_append_left _ (List.mem_cons_of_mem _ m)
      · rcases List.mem_append.mp m with m | m
        · exact List.mem_append_right _ m
        · rw [List.mem_singleton.mp m]; exact List.mem_append_left _ (List.mem_cons_self ..))) (fun x m => (s3.bg x m).1) s3.tb
    have s5 := s4.land q.1
    refine ⟨.ref p, w, rfl, k.nx _ _ _ (pd p) (s5.set j (a3.less fun x m => ?_))⟩
    have m : x ∈ C.O0 ++ owns (ρ.set i (.own p ds)) := m
    show x ∈ (p :: C.O0) ++ owns ρ
    rcases List.mem_append.mp m with m | m
    · exact List.mem_append_left _ (List.mem_cons_of_mem _ m)
    · rcases mem_owns_set m with m | m
      · rw [List.mem_singleton.mp (show x ∈ [p] from m)]; exact List.mem_append_left _ (List.mem_cons_self ..)
      · exact List.mem_append_right _ m
/-- pop(i) of one's own list -/
theorem run_popAt {p : Addr} {ds : List D} {r : Nat} (e : ρ[i]? = some (.own p ds)) (h : Ev K C te ρ fun x => asI x fun z => (-2 ^ 63 ≤ z ∧ z < 2 ^ 63) ∧ ∃ j d, seqIndex? z ds.length = some j ∧ ds[j]? = some d ∧ PO (.nx ((ρ.set i (.own p (ds.eraseIdx j))).set r (.val d)))) :
    Run K C (tAsg (tBM K "list" rPopAt (tVar i) (tCons te tNil)) (gName r)) ρ PO := fun En σ H s k => by
  obtain ⟨vs0, e1, h0, _⟩ := own_V s.sl e
  refine ⟨_, e1, .inl ⟨rfl, _, SqL.of h0⟩, h σ H _ s fun x u H2 q s2 f2 a2 => ?_⟩
  obtain ⟨z, rfl, rfl, ⟨z0, z1⟩, j, d, e2, e3, q⟩ := at_int a2 q
  obtain ⟨vs, e4, h1, a1⟩ := own_V s2.sl e
  obtain ⟨v, e5, a5⟩ := a1.getD e3
  have ae : AtAll K (Os C ρ) H2 (vs.eraseIdx j) (ds.eraseIdx j) := by
    rw [List.eraseIdx_eq_take_drop_succ, List.eraseIdx_eq_take_drop_succ]
    exact (a1.take j).append (a1.drop (j + 1))
  have s3 := s2.mut e ae
  have e6 : owns (ρ.set i (.own p (ds.eraseIdx j))) = owns ρ := owns_set_own e
  have hp : p ∈ Os C ρ := List.mem_append_right _ (mem_owns.mpr ⟨.lst ds, List.mem_of_getElem? e⟩)
  refine ⟨p, vs, z, j, v, rfl, rfl, h1, z0, z1, by rw [a1.length]; exact e2, e5, k.nx _ _ _ q (s3.set r ?_)⟩
  have eO : Os C (ρ.set i (.own p (ds.eraseIdx j))) = Os C ρ := congrArg (C.O0 ++ ·) e6
  rw [eO]
  exact a5.fr fun b o n hb _ => by rw [upd_ne (fun z : b = p => n (by rw [z]; exact hp))]; exact hb
def rIns : V → List V → Hp → VK → Prop := fun x vs H Q => ∃ l xs i y, x = .ref l ∧ vs = [.int i, y] ∧ H l = some (.lst xs) ∧ xs.length < sizeLine ∧ 0 ≤ i ∧ i < 2 ^ 63 ∧ Q .non (upd H l (.lst (xs.take i.toNat ++ [y] ++ xs.drop i.toNat)))
theorem k_insert {X : Cx} : MtR X "list.insert" rIns := mt_insert
theorem run_insert {p : Addr} {ds : List D} {te2 : TE} (e : ρ[i]? = some (.own p ds)) (h : Ev K C te ρ fun x => asI x fun z => Ev K C te2 ρ fun d => ds.length < sizeLine ∧ 0 ≤ z ∧ z < 2 ^ 63 ∧ PO (.nx (ρ.set i (.own p (ds.take z.toNat ++ [d] ++ ds.drop z.toNat))))) :
    Run K C (tDrop (tBM K "list" rIns (tVar i) (tCons te (tCons te2 tNil)))) ρ PO := fun En σ H s k => by
  obtain ⟨vs0, e1, h0, _⟩ := own_V s.sl e
  refine ⟨_, e1, .inl ⟨rfl, _, SqL.of h0⟩, h σ H _ s fun x u H2 q s2 f2 a2 => ?_⟩
  obtain ⟨z, rfl, rfl, q⟩ := at_int a2 q
  refine q σ H2 _ s2 fun d v H3 q s3 f3 a3 => ?_
  obtain ⟨vs, _, h1, a1⟩ := own_V s3.sl e
  exact ⟨p, vs, z, v, rfl, rfl, h1, by rw [a1.length]; exact q.1, q.2.1, q.2.2.1, k.nx _ _ _ q.2.2.2 (s3.mut e (((a1.take _).append (.one a3)).append (a1.drop _)))⟩
theorem run_parL {ta : TA} {te2 : TE} (h : EvF K C (tCB (rListQ K) ta) ρ fun ds => i < ρ.length ∧ ∀ C' : Cz, C'.E = C.E → C'.X = C.X → C'.bags = C.bags → Ev K C' te2 ρ fun d => ∀ p, PO (.nx ((ρ.set i (.own p ds)).set j (.val d)))) : Run K C (tPar i j (tCons (tCB (rListQ K) ta) (tCons te2 tNil))) ρ PO := run_parO h
theorem run_ownRep {tn : TE} (h : Ev K C te ρ fun d => asL d fun l => Ev K C tn ρ fun e => asI e fun n => -2 ^ 63 ≤ n ∧ n < 2 ^ 63 ∧ l.length * n.toNat ≤ sizeLine ∧ i < ρ.length ∧ ∀ p, PO (.nx (ρ.set i (.own p (List.replicate n.toNat l).flatten)))) : Run K C (tAsg (tOp rRep te tn) (gName i)) ρ PO := run_own (evf_rep h)
end
/-! ### calls by keywords -/
class KwD (K : PySem.W.Frag) (gV : List V → List V → List V) (gD : outParam (List D → List D → List D)) : Prop where
  kw : ∀ {O H vs us ds es}, AtAll K O H vs ds → AtAll K O H us es → AtAll K O H (gV vs us) (gD ds es)
section
variable {K : PySem.W.Frag} {C : Cz} {ρ : List Sl} {P : D → Prop} {ta tk : TA} {S : Sd} {E : XK} {gV : List V → List V → List V} {gD : List D → List D → List D}
def tKw (gV : List V → List V → List V) (ta tk : TA) : TA := fun σ H Q => ta σ H fun vs H1 => tk σ H1 fun us H2 => Q (gV vs us) H2
theorem eva_kw [o : KwD K gV gD] {PL : List D → Prop} (h : EvA K C ta ρ fun ds => EvA K C tk ρ fun es => PL (gD ds es)) : EvA K C (tKw gV ta tk) ρ PL := fun σ H Q s k =>
  h σ H _ s fun ds vs H1 q s1 f1 a1 => q σ H1 _ s1 fun es us H2 q2 s2 f2 a2 => k _ _ _ q2 s2 (f1.trans f2) (o.kw (a1.fr (s.up f2)) a2)
theorem tCallK_eq {sp : Sp} : tCallK sp gV E ta tk = tCall sp [] E (tKw gV ta tk) := by
  funext σ H Q
  show (ta σ H fun vs H1 => tk σ H1 fun zs H2 => sp (gV vs zs) H2 Q E) = (ta σ H fun vs H1 => tk σ H1 fun zs H2 => sp (gV vs zs ++ []) H2 Q E)
  simp only [List.append_nil]
theorem ev_callK [o : KwD K gV gD] (h : EvA K C ta ρ fun ds => EvA K C tk ρ fun es => S [] (gD ds es) (okP P)) : Ev K C (tCallK (spD K S) gV E ta tk) ρ P := by
  rw [tCallK_eq]
  exact ev_call (eva_kw h)
theorem ev_callKX [o : KwD K gV gD] (he : E = C.E) (h : EvA K C ta ρ fun ds => EvA K C tk ρ fun es => S [] (gD ds es) (exP C P)) : Ev K C (tCallK (spD K S) gV E ta tk) ρ P := by
  rw [tCallK_eq]
  exact ev_callX he (eva_kw h)
end
/-! ### methods of lists, with the written part's own letter -/
section
variable {X : Cx} {K : PySem.W.Frag} {o e : Expr} {es : List Expr} {to : TE} {t : TA} {name : Str} {apos cpos : Pos} {T id : String} {r : V → List V → Hp → VK → Prop}
theorem k_bm0 (pa : PlainAttrs T) (slot : Slot T name id) (hty : typeOf (.builtin id) = pure (.type "method_descriptor")) (hm : MtR X id r) (ho : PE X o to)
    (hbase : attributeBase o name X.env (eval o X.env) = eval o X.env := by rfl) (hline : (apos.endLine == cpos.line) = true := by rfl) (h : X.K = K := by rfl) : PE X (.Call (.Attribute o name apos) [] [] cpos) (tBM0 K T r to) :=
  h ▸ pe_bm0 pa slot hty hm ho hbase hline
theorem k_bm (pa : PlainAttrs T) (slot : Slot T name id) (hty : typeOf (.builtin id) = pure (.type "method_descriptor")) (hm : MtR X id r) (ho : PE X o to) (ha : PA X (e :: es) t)
    (hbase : attributeBase o name X.env (eval o X.env) = eval o X.env := by rfl)
    (hfew : ((backTo cpos (starEach (e :: es) X.env)).all (fun x => !x.1) && (backToKw cpos (keywordEach [] X.env)).all (fun x => x.1.isSome)
      && decide ((e :: es).length + ([] : List Keyword).length + (if ([] : List Keyword).isEmpty then 0 else 1) < 30)) = true := by rfl)
    (hline : (apos.endLine == cpos.line) = true := by rfl) (hs : starEach (e :: es) X.env = (false, eval e X.env) :: starEach es X.env := by rfl) (hplain : (backTo cpos (starEach es X.env)).any (·.1) = false := by rfl) (h : X.K = K := by rfl) :
    PE X (.Call (.Attribute o name apos) (e :: es) [] cpos) (tBM K T r to t) := h ▸ pe_bm pa slot hty hm ho ha hbase hfew hline hs hplain
end

/-! ### instances of own classes -/
@[reducible] def asIns (C : Addr) : D → (List (Str × D) → Prop) → Prop
  | .ins C' l, k => C' = C ∧ k l
  | _, _ => False
def putD (f : Str) (d : D) : List (Str × D) → List (Str × D)
  | [] => [(f, d)]
  | (g, x) :: r => if g = f then (g, d) :: r else (g, x) :: putD f d r
section
variable {K : PySem.W.Frag} {O : Ads} {H : Hp}
theorem at_ins {v : V} {d : D} {C : Addr} {k : List (Str × D) → Prop} (a : At K O H v d) (h : asIns C d k) : ∃ p dx fs l, v = .ref p ∧ d = .ins C l ∧ H p = some (.ins C dx fs) ∧ p ∉ O ∧ AtFs K O H fs l ∧ k l := by
  cases a with
  | ins h1 n h3 =>
    obtain ⟨e, h⟩ := h
    subst e
    exact ⟨_, _, _, _, rfl, rfl, h1, n, h3, h⟩
  | _ => exact h.elim
theorem AtFs.look {fs : List (Str × V)} {l : List (Str × D)} (a : AtFs K O H fs l) {f : Str} {d : D} (h : l.lookup f = some d) : ∃ v, fs.lookup f = some v ∧ At K O H v d := by
  induction l generalizing fs with
  | nil => cases h
  | cons z l ih =>
    cases a with
    | @cons x v vs d2 ds a b =>
      rw [List.lookup_cons] at h ⊢
      cases hx : f == x with
      | true => rw [hx] at h; cases h; exact ⟨_, rfl, a⟩
      | false => rw [hx] at h; exact ih b h
theorem AtFs.none_ {fs : List (Str × V)} {l : List (Str × D)} (a : AtFs K O H fs l) {f : Str} (h : l.lookup f = none) : fs.lookup f = none := by
  induction l generalizing fs with
  | nil => cases a; rfl
  | cons z l ih =>
    cases a with
    | @cons x v vs d2 ds a b =>
      rw [List.lookup_cons] at h ⊢
      cases hx : f == x with
      | true => rw [hx] at h; cases h
      | false => rw [hx] at h; exact ih b h
theorem AtFs.len {fs : List (Str × V)} {l : List (Str × D)} (a : AtFs K O H fs l) : fs.length = l.length := by
  induction l generalizing fs with
  | nil => cases a; rfl
  | cons z l ih =>
    cases a with
    | cons a b => rw [List.length_cons, List.length_cons, ih b]
theorem AtFs.put {fs : List (Str × V)} {l : List (Str × D)} (a : AtFs K O H fs l) {f : Str} {v : V} {d : D} (b : At K O H v d) : AtFs K O H (putF f v fs) (putD f d l) := by
  induction l generalizing fs with
  | nil => cases a; exact .cons b .nil
  | cons z l ih =>
    cases a with
    | @cons x u vs d2 ds a c =>
      show AtFs K O H (if x = f then (x, v) :: vs else (x, u) :: putF f v vs) (if x = f then (x, d) :: l else (x, d2) :: putD f d l)
      by_cases e : x = f
      · rw [if_pos e, if_pos e]; exact .cons b c
      · rw [if_neg e, if_neg e]; exact .cons a (ih c)
end
/-- e.f, an attribute of an instance of C -/
def tFldC (C : Addr) (f : Str) (ta : TE) : TE := fun σ H Q => ta σ H fun x H1 => ∃ a dx fs v, x = .ref a ∧ H1 a = some (.ins C dx fs) ∧ fs.lookup f = some v ∧ Q v H1
section
variable {X : Cx} {K : PySem.W.Frag} {C : Addr} {f : Str} {e o value : Expr} {pos pos' : Pos} {ta tv : TE}
theorem k_fld (c : Cls K C) (n : NoAttr K C f) (he : PE X e ta) (hb : attributeBase e f X.env (eval e X.env) = eval e X.env := by rfl) (h : X.K = K := by rfl) : PE X (.Attribute e f pos) (tFldC C f ta) := by
  subst h
  refine ⟨fun pins s σ H Q I h => ?_⟩
  refine attr_of hb (thn (he.run pins s σ H _ I h) fun u s1 ⟨x, H1, I1, rx, a, dx, fs, v, ex, ea, l, q⟩ => ?_)
  subst ex
  obtain rfl : u = Value.ref a := rx
  exact getattr_ok I1 ea c n l fun u' s2 I2 ru => ⟨v, H1, I2, ru, q⟩
theorem k_sfld (ha : PE X o ta) (hv : PE X value tv) (hs : swapsWith value (some (.Attribute o f pos')) pos.line X.env = pure false := by rfl) (h : X.K = K := by rfl) : PS X (.Assign [.Attribute o f pos'] value pos) (sFld K ta tv f) := h ▸ ps_fld ha hv hs
theorem k_cval {x : Str} {mc u : Value} {v : V} {p1 p2 : Pos} (hg : Gl X x) (hm : X.mg x = some (.ref C)) (r : ClX.CRead K C mc) (c : ClX.CVal K C mc f v u) (h : X.K = K := by rfl) (hd : (x == ("__debug__" : Str)) = false := by decide) (hb : attributeBase (.Name x p1) f X.env (eval (.Name x p1) X.env) = eval (.Name x p1) X.env := by rfl) : PE X (.Attribute (.Name x p1) f p2) (tC v) := by
  subst h
  exact ⟨fun pins s σ H Q I q => (ClX.pe_cval (pe_glob (v := .ref C) hg hm rfl hd) hb).run pins s σ H Q I ⟨C, mc, v, u, rfl, r, c, q⟩⟩
end
/-! ### made by __init__ -/
def spM (K : PySem.W.Frag) (Cl : Addr) (S : Sd) : Sp := fun vs H Q E => ∃ (x dx : Addr) (us : List V) (Hb : Hp) (O ts : Ads) (bs : List (Addr × Addr)) (ds : List D) (Pq : Rs → Prop), vs = .ref x :: us ∧ H = upd Hb x (.ins Cl dx []) ∧ Hb x = none ∧ AtAll K O Hb us ds ∧ (∀ p, p ∈ O → Hb p ≠ none) ∧ (∀ q, q ∈ bs → Bag Hb q.1 q.2 ∧ q.1 ∈ O ∧ q.2 ∉ O) ∧ (∀ p, p ∈ ts → Tab Hb p) ∧ S bs ds Pq ∧
  (∀ l H', Pq (.ok (.ins Cl l)) → Fr (bs.map (·.1)) Hb H' → (∀ p, p ∈ O → H' p ≠ none) → (∀ q, q ∈ bs → Bag H' q.1 q.2) → (∀ p, p ∈ ts → Tab H' p) → At K O H' (.ref x) (.ins Cl l) → Q .non H') ∧
  (∀ z, Pq (.er z) → ∀ v H', Fr (bs.map (·.1)) Hb H' → (∀ p, p ∈ O → H' p ≠ none) → (∀ q, q ∈ bs → Bag H' q.1 q.2) → (∀ p, p ∈ ts → Tab H' p) → At K O H' v z.val → Raised z.C z.fld z.code v H' E)
@[reducible] def endM (x Cl dx : Addr) (Pq : Rs → Prop) : Out → Prop
  | .nx ρ => ∃ l, ρ[0]? = some (.cell x (.ins Cl dx l)) ∧ Pq (.ok (.ins Cl l))
  | _ => False
@[reducible] def slotsM (n : Nat) (x Cl dx : Addr) (ds : List D) : List Sl := .cell x (.ins Cl dx []) :: (ds.map Sl.val ++ List.replicate (n - (ds.length + 1)) Sl.no)
theorem run_ofM {K : PySem.W.Frag} {Cl : Addr} {S : Sd} {N : List Str} {vs : List V} {H : Hp} {Q : VK} {E : XK} {t : TS} (h : spM K Cl S vs H Q E)
    (hr : ∀ (C : Cz) (ds : List D) (Pq : Rs → Prop) (x dx : Addr), C.E = E → (∀ z, Pq (.er z) → C.X z) → S C.bags ds Pq → Run K C t (slotsM N.length x Cl dx ds) (endM x Cl dx Pq)) :
    t { nx := fun _ H' => Q .non H', rt := Q } (L2.start N vs) H := by
  obtain ⟨x, dx, us, Hb, O, ts, bs, ds, Pq, rfl, rfl, hxb, a, lv, bg, ht, hS, q1, q2⟩ := h
  have hl := a.length
  have eo : owns (Sl.no :: (ds.map Sl.val ++ List.replicate (N.length - (ds.length + 1)) Sl.no)) = [] := owns_vals ds _
  have s0 : St K ⟨O, Hb, bs.map (·.1), bs, [], [], E, fun z => Pq (.er z), ts⟩ (Sl.no :: (ds.map Sl.val ++ List.replicate (N.length - (ds.length + 1)) Sl.no)) (L2.start N (.ref x :: us)) Hb := by
    refine ⟨?_, by rw [eo]; exact List.nodup_nil, Fr.refl _ _, ?_, ⟨fun p m => ?_, fun q m => .inl (List.mem_map.mpr ⟨q, m, rfl⟩)⟩, fun p m => ?_, fun q m => ⟨(bg q m).1, (bg q m).2.1, ?_⟩, .nil, fun z hz v H' f lv bg tb a => q2 z hz v H' f lv bg tb a, ht⟩
    · show Sls K (O ++ owns _) Hb (L2.start N (.ref x :: us)) _
      rw [eo, List.append_nil]
      have e1 : L2.start N (.ref x :: us) = some (.ref x) :: (us.map some ++ List.replicate (N.length - (ds.length + 1)) none) := by
        unfold L2.start
        rw [List.length_cons, hl]
        rfl
      rw [e1]
      exact .cons (.no _) (sls_start a _)
    · show ∀ p, p ∈ O ++ owns _ → _
      rw [eo, List.append_nil]
      exact lv
    · obtain ⟨q, hq, rfl⟩ := List.mem_map.mp m
      exact (bg q hq).2.1
    · rw [eo] at m; exact nomatch m
    · show q.2 ∉ O ++ owns _
      rw [eo, List.append_nil]
      exact (bg q m).2.2
  have s1 := s0.ownC (p := x) (vs := .ins Cl dx []) (ds := .ins Cl dx []) hxb (.ins .nil)
  have s2 := s1.land (i := 0) (Nat.succ_pos _)
  refine hr ⟨O, Hb, bs.map (·.1), bs, [], [], E, fun z => Pq (.er z), ts⟩ ds Pq x dx rfl (fun z h => h) hS _ _ _ s2 ?_
  refine ⟨fun ρ σ H' p s => ?_, fun d v ρ σ H' p s a => p.elim, fun _ _ _ p => p.elim, fun _ _ _ p => p.elim⟩
  obtain ⟨l, e, p⟩ := p
  obtain ⟨_, b⟩ := s.freeze e
  exact q1 l H' p s.fr (fun x m => s.lv x (List.mem_append_left _ m)) (fun q m => (s.bg q m).1) s.tb (b.less fun a m => List.mem_append_left _ m)
section
variable {P : Program} {w : World} {K : PySem.W.Frag} {mg : Str → Option Value} {base : Heap}
/-- an __init__ that may raise -/
theorem okMX {x qual : Str} {st : Stmt} {f Cl : Addr} {fd : FuncData} {N ps : List Str} {k : Nat} {S : Sd} (F : Fun K x qual st f fd) (sc : FnScope N ps (defScope st)) (len : ∀ bs ds Pq, S bs ds Pq → ds.length + 1 = ps.length)
    (hbody : ∀ (cdv : Value) (A : Around) (outer : List Env) (s : Shared) (H : Hp) (E : XK), Room k (A.deeper (envOfC qual (defScope st) s.heap.objs.size f cdv)) →
      ∃ t, PSs (cxOf (L2.CX P w) P w K mg base N qual (defScope st) f cdv A outer s H E) (defBody st) t ∧ ∀ (C : Cz) (ds : List D) (Pq : Rs → Prop) (x dx : Addr), C.E = E → (∀ z, Pq (.er z) → C.X z) → S C.bags ds Pq → Run K C t (slotsM N.length x Cl dx ds) (endM x Cl dx Pq)) : FnOk P w K mg base (L2.CX P w) (k + 1) f fd ps (spM K Cl S) :=
  F.okX sc (fun vs H Q E h => by
    obtain ⟨x, dx, us, Hb, O, ts, bs, ds, Pq, rfl, _, _, a, _, _, _, hS, _⟩ := h
    rw [List.length_cons, a.length]
    exact len _ _ _ hS) fun cdv A outer s H vs Q E hr h => by
    obtain ⟨t, h1, h2⟩ := hbody cdv A outer s H E hr
    exact ⟨t, h1, run_ofM h h2⟩
/-- def __init__(self, *xs) -/
theorem okMS {x qual pv : Str} {st : Stmt} {f Cl : Addr} {fd : FuncData} {N : List Str} {ps : List Str} {k : Nat} {S : Sd} (F : Fun K x qual st f fd) (sc : FnScope N (ps ++ [pv]) (defScope st)) (h1 : ps.length = 1) (len : ∀ bs ds Pq, S bs ds Pq → ds.length ≤ sizeLine)
    (hb : ∀ (kV doc pm : Value) (an : Option Addr) (cdv ct : Value) (us rest : List Value), us.length = ps.length → bindArgs (PySem.W.fnOf x qual (defArgs st) (defBody st) (defScope st) .none kV doc pm an cdv ct) ⟨us ++ rest, []⟩ = (newTuple rest >>= fun t => pure (ps.zip us ++ [(pv, t)])))
    (hbody : ∀ (cdv : Value) (A : Around) (outer : List Env) (s : Shared) (H : Hp) (E : XK), Room k (A.deeper (envOfC qual (defScope st) s.heap.objs.size f cdv)) →
      ∃ t, PSs (cxOf (L2.CX P w) P w K mg base N qual (defScope st) f cdv A outer s H E) (defBody st) t ∧ ∀ (C : Cz) (ds : List D) (Pq : Rs → Prop) (x dx : Addr), C.E = E → (∀ z, Pq (.er z) → C.X z) → S C.bags ds Pq → Run K C t (slotsM N.length x Cl dx [.tup ds]) (endM x Cl dx Pq)) : FnR P w K mg base (L2.CX P w) (k + 1) f (spM K Cl S) := by
  obtain ⟨oc, od, kV, doc, pm, an, cdv, ct, osl, rfl, lk, hcd⟩ := F.ex
  refine FnR.imp (StX.fn_star (sp := spM K Cl fun bs ds Pq => ∃ es, ds = [.tup es] ∧ S bs es Pq) lk hcd sc StX.cxUp (hb kV doc pm an cdv ct) fun A outer s H vs Q E hr hsp => ?_) fun vs H Q E h => ?_
  · obtain ⟨t, g1, g2⟩ := hbody cdv A outer s H E hr
    refine ⟨t, g1, run_ofM hsp fun C ds Pq x dx e1 e2 h => ?_⟩
    obtain ⟨es, rfl, h⟩ := h
    exact g2 C es Pq x dx e1 e2 h
  · obtain ⟨x, dx, us, Hb, O, ts, bs, ds, Pq, rfl, rfl, hxb, a, lv, bg, ht, hS, q1, q2⟩ := h
    refine ⟨[.ref x], us, rfl, h1.symm, by rw [a.length]; exact len _ _ _ hS, fun p hp => ?_⟩
    have px : p ≠ x := fun z => by rw [z, upd_same] at hp; cases hp
    have hpb : Hb p = none := by rwa [upd_ne px] at hp
    have e1 : Same Hb (upd Hb p (.tup us)) := same_upd hpb
    have eH : upd (upd Hb x (.ins Cl dx [])) p (.tup us) = upd (upd Hb p (.tup us)) x (.ins Cl dx []) := by
      funext b
      by_cases z : b = p
      · subst z; rw [upd_same, upd_ne px, upd_same]
      · by_cases z2 : b = x
        · subst z2; rw [upd_ne z, upd_same, upd_same]
        · rw [upd_ne z, upd_ne z2, upd_ne z2, upd_ne z]
    refine ⟨x, dx, [.ref p], upd Hb p (.tup us), O, ts, bs, [.tup ds], Pq, rfl, eH, by rw [upd_ne (Ne.symm px)]; exact hxb, .one (At.mkTup hpb (fun m => lv p m hpb) a), fun p m z => lv p m (e1.free z), fun q m => ⟨(bg q m).1.same e1, (bg q m).2⟩, fun p m => (ht p m).ext e1, ⟨ds, rfl, hS⟩, fun l H' p f => q1 l H' p ((Fr.of e1).trans f), fun z p v H' f => q2 z p v H' ((Fr.of e1).trans f)⟩
end
section
variable {K : PySem.W.Frag} {C : Cz} {ρ : List Sl} {P : D → Prop} {ta tb te : TE} {t : TA} {S : Sd} {E : XK} {Cl : Addr} {i : Nat} {f m : Str} {PO : Out → Prop}
theorem ev_fld (h : Ev K C ta ρ fun d => asIns Cl d fun l => ∃ v, l.lookup f = some v ∧ P v) : Ev K C (tFldC Cl f ta) ρ P := fun σ H Q s k => h σ H _ s fun d v H1 q s1 f1 a1 => by
  obtain ⟨p, dx, fs, l, rfl, rfl, h1, _, h3, u, hu, q⟩ := at_ins a1 q
  obtain ⟨v, hv, a⟩ := h3.look hu
  exact ⟨p, dx, fs, v, rfl, h1, hv, k _ _ _ q s1 f1 a⟩
theorem own_I {O : Ads} {H : Hp} {σ : L2.St} {p dx : Addr} {l : List (Str × D)} (s : Sls K O H σ ρ) (e : ρ[i]? = some (.cell p (.ins Cl dx l))) : ∃ fs, σ[i]? = some (some (.ref p)) ∧ H p = some (.ins Cl dx fs) ∧ AtFs K O H fs l := by
  obtain ⟨x, e1, a⟩ := s.get e
  cases a with
  | cell h a =>
    cases a with
    | ins a => exact ⟨_, e1, h, a⟩
theorem ev_fldO {p dx : Addr} {l : List (Str × D)} {d : D} (e : ρ[i]? = some (.cell p (.ins Cl dx l))) (hd : l.lookup f = some d) (h : P d) : Ev K C (tFldC Cl f (tVar i)) ρ P := fun σ H Q s k => by
  obtain ⟨fs, e1, h1, a⟩ := own_I s.sl e
  obtain ⟨v, hv, a⟩ := a.look hd
  exact ⟨_, e1, p, dx, fs, v, rfl, h1, hv, k _ _ _ h s (Fr.refl _ _) a⟩
theorem run_fld {p dx : Addr} {l : List (Str × D)} (c : Cls K Cl) (n : NoAttr K Cl f) (e : ρ[i]? = some (.cell p (.ins Cl dx l))) (h : Ev K C te ρ fun d => l.length < 1000 ∧ PO (.nx (ρ.set i (.cell p (.ins Cl dx (putD f d l)))))) : Run K C (sFld K (tVar i) te f) ρ PO := fun En σ H s k => h σ H _ s fun d v H1 q s1 f1 a1 => by
  obtain ⟨fs, e1, h1, a⟩ := own_I s1.sl e
  exact ⟨_, e1, p, Cl, dx, fs, rfl, h1, c, n, by rw [a.len]; exact q.1, k.nx _ _ _ q.2 (s1.mutC e (.ins (a.put a1)))⟩
/-- methods -/
def tRecv (C : Addr) (m : Str) (ta : TE) (t : TA) : TA := fun σ H Q => ta σ H fun x H1 => ∃ a dx fs, x = .ref a ∧ H1 a = some (.ins C dx fs) ∧ fs.lookup m = none ∧ t σ H1 fun vs H2 => Q (x :: vs) H2
theorem eva_recv {PL : List D → Prop} (h : Ev K C ta ρ fun d => asIns Cl d fun l => l.lookup m = none ∧ EvA K C t ρ fun ds => PL (.ins Cl l :: ds)) : EvA K C (tRecv Cl m ta t) ρ PL := fun σ H Q s k => h σ H _ s fun d v H1 q s1 f1 a1 => by
  obtain ⟨p, dx, fs, l, rfl, rfl, h1, _, h3, hn, q⟩ := at_ins a1 q
  exact ⟨p, dx, fs, rfl, h1, h3.none_ hn, q σ H1 _ s1 fun ds vs H2 q2 s2 f2 a2 => k _ _ _ q2 s2 (f1.trans f2) (.cons (a1.fr (s.up f2)) a2)⟩
theorem ev_meth (h : Ev K C ta ρ fun d => asIns Cl d fun l => l.lookup m = none ∧ EvA K C t ρ fun ds => S [] (.ins Cl l :: ds) (okP P)) : Ev K C (tMeth Cl m (spD K S) [] E ta t) ρ P := ev_call (eva_recv (m := m) h)
theorem ev_methX (he : E = C.E) (h : Ev K C ta ρ fun d => asIns Cl d fun l => l.lookup m = none ∧ EvA K C t ρ fun ds => S [] (.ins Cl l :: ds) (exP C P)) : Ev K C (tMeth Cl m (spD K S) [] E ta t) ρ P := ev_callX he (eva_recv (m := m) h)
/-- properties -/
def tPropA (C : Addr) (ta : TE) : TA := fun σ H Q => ta σ H fun x H1 => ∃ a dx fs, x = .ref a ∧ H1 a = some (.ins C dx fs) ∧ Q [.ref a] H1
theorem eva_prop {PL : List D → Prop} (h : Ev K C ta ρ fun d => asIns Cl d fun l => PL [.ins Cl l]) : EvA K C (tPropA Cl ta) ρ PL := fun σ H Q s k => h σ H _ s fun d v H1 q s1 f1 a1 => by
  obtain ⟨p, dx, fs, l, rfl, rfl, h1, _, h3, q⟩ := at_ins a1 q
  exact ⟨p, dx, fs, rfl, h1, k _ _ _ q s1 f1 (.one a1)⟩
theorem ev_prop (h : Ev K C ta ρ fun d => asIns Cl d fun l => S [] [.ins Cl l] (okP P)) : Ev K C (tProp Cl (spD K S) [] E ta) ρ P := ev_call (ta := tPropA Cl ta) (eva_prop h)
/-- made -/
theorem make_core {Pq : Rs → Prop} (hok : ∀ l, Pq (.ok (.ins Cl l)) → P (.ins Cl l)) (hex : ∀ z, Pq (.er z) → C.X z ∧ E = C.E) (h : EvA K C t ρ fun ds => S [] ds Pq) : Ev K C (StX.tMakeR Cl (spM K Cl S) E t) ρ P := fun σ H Q s k => h σ H _ s fun ds vs H1 q s1 f1 a1 x dx hx hdx ne => by
  have e1 : Same H1 (upd H1 dx (.own x)) := same_upd hdx
  have s2 := s1.same e1
  have hxb : upd H1 dx (.own x) x = none := by rw [upd_ne (Ne.symm ne)]; exact hx
  refine ⟨x, dx, vs, upd H1 dx (.own x), Os C ρ, C.tabs, [], ds, Pq, rfl, rfl, hxb, a1.fr (.of e1), s2.lv, (fun q m => nomatch m), s2.tb, q, fun l H' p f lv bg tb a => ⟨rfl, ?_⟩, fun z p v H' f lv bg tb a => ?_⟩
  · exact k _ _ _ (hok l p) (s2.kept f lv tb) ((f1.trans (Fr.of e1)).trans (f.mono fun _ m => nomatch m)) a
  · obtain ⟨h1, h2⟩ := hex z p
    rw [h2]
    have s3 := s2.kept f lv tb
    exact s3.ex z h1 v H' s3.fr (fun p m => lv p (List.mem_append_left _ m)) (fun q m => (s3.bg q m).1) s3.tb (a.less fun _ m => List.mem_append_left _ m)
theorem ev_make (h : EvA K C t ρ fun ds => S [] ds (okP P)) : Ev K C (StX.tMakeR Cl (spM K Cl S) E t) ρ P := make_core (fun _ p => p) (fun _ p => False.elim p) h
theorem ev_makeX (he : E = C.E) (h : EvA K C t ρ fun ds => S [] ds (exP C P)) : Ev K C (StX.tMakeR Cl (spM K Cl S) E t) ρ P := make_core (fun _ p => p) (fun _ p => ⟨p, he⟩) h
end
/-! ### how they are made, called -/
section
variable {X : Cx} {CX : CXT} {k : Nat} {f C : Addr} {fd : FuncData} {ps : List Str} {sp : Sp} {E : XK} {x : Str} {p pos sp_ : Pos} {e : Expr} {t : TA} {te : TE}
theorem pe_makeR0 (M : Mk X.K C f) (F : FnR X.prog X.w X.K X.mg X.base CX k f sp) (hr : Room (k + 1) X.A) (hg : Gl X x) (hm : X.mg x = some (.ref C)) (hx : Passes CX X E) (hdb : (x == ("__debug__" : Str)) = false := by decide) : PE X (.Call (.Name x p) [] [] pos) (StX.tMakeR C sp E tNil) := by
  refine ⟨fun pins s σ H Q I h => ?_⟩
  refine wpAny_Call_Name_kw (ld_glob I hg hm ?_ hdb)
  exact PySem.W.callWith_K0 I.kIn M.kp (StX.run_makeR M F hr hx I .nil h)
/-- the items of a tuple, a list -/
def tItems (K : PySem.W.Frag) (te : TE) : TA := fun σ H Q => te σ H fun y H1 => ∃ a xs, y = V.ref a ∧ (SqT K H1 a xs ∨ SqL K H1 a xs) ∧ Q xs H1
theorem pe_makeS (M : Mk X.K C f) (F : FnR X.prog X.w X.K X.mg X.base CX k f sp) (hr : Room (k + 1) X.A) (hg : Gl X x) (hm : X.mg x = some (.ref C)) (hx : Passes CX X E) (he : PE X e te) (hd : (x == ("__debug__" : Str)) = false := by decide)
    (hst : starEach [.Starred e sp_] X.env = [(true, eval e X.env)] := by rfl) : PE X (.Call (.Name x p) [.Starred e sp_] [] pos) (StX.tMakeR C sp E (tItems X.K te)) := by
  refine ⟨fun pins s σ H Q I h => ?_⟩
  refine wpAny_Call_Name_kw (ld_glob I hg hm ?_ hd)
  refine PySem.W.callWith_S (h₀ := X.base) I.ok.mod.kin M.kp (thn (he.run pins s σ H _ I h) fun v s1 ⟨y, H1, I1, ry, a, xs, ey, hxs, q⟩ => ?_) hst
  subst ey
  obtain rfl : v = Value.ref a := ry
  exact StX.star_any I1 hxs fun us s2 I2 rv => ⟨I2.kIn, StX.run_makeR M F hr hx I2 rv q⟩
theorem k_makeS {K : PySem.W.Frag} (M : Mk X.K C f) (F : FnR X.prog X.w X.K X.mg X.base CX k f sp) (hr : Room (k + 1) X.A) (hg : Gl X x) (hm : X.mg x = some (.ref C)) (hx : Passes CX X E) (he : PE X e te) (hd : (x == ("__debug__" : Str)) = false := by decide)
    (hst : starEach [.Starred e sp_] X.env = [(true, eval e X.env)] := by rfl) (h : X.K = K := by rfl) : PE X (.Call (.Name x p) [.Starred e sp_] [] pos) (StX.tMakeR C sp E (tItems K te)) := h ▸ pe_makeS M F hr hg hm hx he hd hst
end
section
variable {K : PySem.W.Frag} {C : Cz} {ρ : List Sl} {P : D → Prop} {ta tb te : TE} {S : Sd} {E : XK} {Cl : Addr}
theorem eva_items {PL : List D → Prop} (h : Ev K C te ρ fun d => asQ d PL) : EvA K C (tItems K te) ρ PL := fun σ H Q s k => h σ H _ s fun d v H1 q s1 f1 a1 => by
  obtain ⟨p, xs, es, rfl, h1, h2, q⟩ := at_Q a1 q
  exact ⟨p, xs, rfl, h1.symm, k _ _ _ q s1 f1 h2⟩
end
/-! ### an own class's operators -/
structure OwnOp (K : PySem.W.Frag) (C f : Addr) (nm : Str) : Prop where
  first : PySem.W.selfFirst K C = true
  at_ : PySem.W.findIn K (.ref C) nm = some (some (.ref f))
  fn : PySem.W.isFn K (.ref f) = true
def rOwn (C : Addr) (sp : Sp) (E : XK) : R2 := fun x y H Q => ∃ a dx fs b dy gs, x = .ref a ∧ y = .ref b ∧ H a = some (.ins C dx fs) ∧ H b = some (.ins C dy gs) ∧ sp [x, y] H Q E
section
variable {X : Cx} {CX : CXT} {k : Nat} {f C : Addr} {fd : FuncData} {ps : List Str} {sp : Sp} {E : XK}
theorem op_own {op : Operator} (M : OwnOp X.K C f (PySem.dunder op.info.2)) (F : FnOk X.prog X.w X.K X.mg X.base CX k f fd ps sp) (hb : Binds X.K fd ps []) (hr : Room k X.A) (hx : Passes CX X E) : OpR X (binaryOp op) (rOwn C sp E) := by
  intro pins s σ H x y v u Q I rx ry hq
  obtain ⟨a, dx, fs, b, dy, gs, rfl, rfl, ha, hb', q⟩ := hq
  obtain rfl : v = Value.ref a := rx
  obtain rfl : u = Value.ref b := ry
  obtain ⟨mA, J, _⟩ := ins_get I.hok ha
  obtain ⟨mB, J', _⟩ := ins_get I.hok hb'
  obtain ⟨od, J, _⟩ := J.look
  obtain ⟨od', J', _⟩ := J'.look
  obtain ⟨m, hF⟩ := I.fr
  refine PySem.W.binop_K hF I.ok.mod.kin J J'.type M.first M.at_ M.fn ?_
  refine wpAny_mono (run_fn (vs := [.ref a, .ref b]) (us := [.ref a, .ref b]) (dvs := []) (ds := []) F hr hb .nil hx I (.cons rfl (.cons rfl .nil)) q) (fun z s' ⟨y, H', I', rz, q⟩ => SlX.cmpback rz ⟨y, H', I', rz, q⟩) fun _ _ z => z
theorem op_ownEq (M : OwnOp X.K C f "__eq__") (F : FnOk X.prog X.w X.K X.mg X.base CX k f fd ps sp) (hb : Binds X.K fd ps []) (hr : Room k X.A) (hx : Passes CX X E) : OpR X (compareOp .Eq) (rOwn C sp E) := by
  intro pins s σ H x y v u Q I rx ry hq
  obtain ⟨a, dx, fs, b, dy, gs, rfl, rfl, ha, hb', q⟩ := hq
  obtain rfl : v = Value.ref a := rx
  obtain rfl : u = Value.ref b := ry
  obtain ⟨mA, J, _⟩ := ins_get I.hok ha
  obtain ⟨mB, J', _⟩ := ins_get I.hok hb'
  obtain ⟨od, J, _⟩ := J.look
  obtain ⟨od', J', _⟩ := J'.look
  obtain ⟨m, hF⟩ := I.fr
  show wpAny (model X.prog X.w) X.A (richCompare .Eq (.ref a) (.ref b)) (EP X pins σ Q) X.xe s
  refine PySem.W.cmp_K (op := .Eq) (tb := .ref C) hr.units0 hF I.ok.mod.kin J J'.type (by simp [PySem.W.notFirst]) M.at_ M.fn ?_
  refine wpAny_mono (run_fn (vs := [.ref a, .ref b]) (us := [.ref a, .ref b]) (dvs := []) (ds := []) F hr hb .nil hx I (.cons rfl (.cons rfl .nil)) q) (fun z s' ⟨y, H', I', rz, q⟩ => SlX.cmpback rz ⟨y, H', I', rz, q⟩) fun _ _ z => z
end
section
variable {K : PySem.W.Frag} {C : Cz} {ρ : List Sl} {P : D → Prop} {ta tb te : TE} {S : Sd} {E : XK} {Cl : Addr}
def tOwnA (C : Addr) (ta tb : TE) : TA := fun σ H Q => ta σ H fun x H1 => tb σ H1 fun y H2 => ∃ a dx fs b dy gs, x = .ref a ∧ y = .ref b ∧ H2 a = some (.ins C dx fs) ∧ H2 b = some (.ins C dy gs) ∧ Q [x, y] H2
theorem eva_own {PL : List D → Prop} (h : Ev K C ta ρ fun d => Ev K C tb ρ fun e => asIns Cl d fun l => asIns Cl e fun r => PL [.ins Cl l, .ins Cl r]) : EvA K C (tOwnA Cl ta tb) ρ PL := fun σ H Q s k => h σ H _ s fun d v H1 q s1 f1 a1 => q σ H1 _ s1 fun e u H2 q2 s2 f2 a2 => by
  have a1' := a1.fr (s.up f2)
  obtain ⟨p, dx, fs, l, rfl, rfl, h1, _, h3, q2⟩ := at_ins a1' q2
  obtain ⟨p', dx', fs', l', rfl, rfl, h1', _, h3', q2⟩ := at_ins a2 q2
  exact ⟨p, dx, fs, p', dx', fs', rfl, rfl, h1, h1', k _ _ _ q2 s2 (f1.trans f2) (.cons a1' (.one a2))⟩
theorem ev_own (h : Ev K C ta ρ fun d => Ev K C tb ρ fun e => asIns Cl d fun l => asIns Cl e fun r => S [] [.ins Cl l, .ins Cl r] (okP P)) : Ev K C (tOp (rOwn Cl (spD K S) E) ta tb) ρ P := ev_call (ta := tOwnA Cl ta tb) (eva_own h)
theorem ev_ownX (he : E = C.E) (h : Ev K C ta ρ fun d => Ev K C tb ρ fun e => asIns Cl d fun l => asIns Cl e fun r => S [] [.ins Cl l, .ins Cl r] (exP C P)) : Ev K C (tOp (rOwn Cl (spD K S) E) ta tb) ρ P := ev_callX (ta := tOwnA Cl ta tb) he (eva_own h)
/-- len(e), by an own __len__ -/
def rLenOwn (C : Addr) (sp : Sp) (E : XK) : RC := fun vs H Q => ∃ a dx fs, vs = [.ref a] ∧ H a = some (.ins C dx fs) ∧ sp [.ref a] H (fun v H' => ∃ n : Int, v = .int n ∧ 0 ≤ n ∧ n < 2 ^ 63 ∧ Q v H') E
theorem call_lenOwn {X : Cx} {CX : CXT} {k : Nat} {f C : Addr} {fd : FuncData} {ps : List Str} {sp : Sp} {E : XK} (M : OwnOp X.K C f "__len__") (F : FnOk X.prog X.w X.K X.mg X.base CX k f fd ps sp) (hb : Binds X.K fd ps []) (hr : Room (k + 1) X.A) (hx : Passes CX X E) : CallR X (.builtin "len") (rLenOwn C sp E) := by
  intro pins s σ H xs us Q I r h
  obtain ⟨a, dx, fs, rfl, ha, q⟩ := h
  cases r with
  | cons r1 r2 =>
    cases r2
    cases r1
    obtain ⟨mA, J, _⟩ := ins_get I.hok ha
    obtain ⟨od, J, _⟩ := J.look
    obtain ⟨m, hF⟩ := I.fr
    refine PySem.W.len_K hF I.ok.mod.kin J M.at_ M.fn ?_
    have e0 : Env0 X.prog X.w X.K X.mg X.base X.A.in1 X.stack s H := by
      have e := I.env0
      exact ⟨e.frames, e.mod, e.bs, e.bsz, e.funs, e.frf, e.hok, e.bare⟩
    have hl := F.len _ _ _ _ q
    refine wpAny_call (codeAny_mono (F.run X.A.in1 X.stack s H ⟨[.ref a], []⟩ [.ref a] [.ref a] _ E hr.in1 e0 (by
      have := hb s [.ref a] I.kIn (by simpa using hl)
      simpa using this) (.cons rfl .nil) q) fun r s' hq => ?_)
    cases r with
    | error e => exact hx pins σ H s e s' I hq
    | ok fl =>
      cases fl with
      | ret w =>
        obtain ⟨z, H', I', rz, n, ez, n0, n1, q⟩ := I.after hq
        subst ez
        obtain ⟨t, rfl⟩ := (show ∃ t, w = Value.int n t from rz)
        exact ⟨⟨n0, n1⟩, .int n, H', I'.tok _, ⟨_, rfl⟩, q⟩
      | next => exact False.elim hq
      | brk => exact False.elim hq
      | cont => exact False.elim hq
theorem ev_lenOwn (h : Ev K C ta ρ fun d => asIns Cl d fun l => S [] [.ins Cl l] (okP fun d => asI d fun n => (0 ≤ n ∧ n < 2 ^ 63) ∧ P (.int n))) : Ev K C (tCB (rLenOwn Cl (spD K S) E) (tCons ta tNil)) ρ P := fun σ H Q s k => h σ H _ s fun d v H1 q s1 f1 a1 => by
  obtain ⟨p, dx, fs, l, rfl, rfl, h1, _, h3, q⟩ := at_ins a1 q
  refine ⟨p, dx, fs, rfl, h1, Os C ρ, C.tabs, [], [.ins Cl l], _, .one a1, s1.lv, (fun q m => nomatch m), s1.tb, q, fun d v H' p f lv bg tb a => ?_, fun x p => False.elim p⟩
  obtain ⟨n, rfl, rfl, ⟨q0, q1⟩, q⟩ := at_int a (show asI d _ from p)
  exact ⟨n, rfl, q0, q1, k _ _ _ q (s1.kept f lv tb) (f1.trans (f.mono fun _ m => nomatch m)) (.int n)⟩
/-- isinstance(e, C) -/
structure IsOwn (K : PySem.W.Frag) (C : Addr) : Prop where
  cl : Cls K C
  hc : PySem.W.findIn K (.ref C) "__class__" = some (some (.builtin "object.__class__"))
  hg : PySem.W.specialIn K (.builtin "object.__class__") "__get__" = some (some (.builtin "getset_descriptor.__get__"))
  tk : PySem.W.takesIn K (.builtin "object.__class__") = some true
  mo : PySem.W.mroIn K C (.type "object") = some true
  kit : PySem.W.kitOne K (.ref C) (.ref C) = some true
theorem ev_isiOwn (o : IsOwn K Cl) (h : Ev K C ta ρ fun d => asIns Cl d fun _ => P (.bl true)) : Ev K C (tCB (rIsi K) (tCons ta (tCons (tC (.ref Cl)) tNil))) ρ P := fun σ H Q s k => h σ H _ s fun d v H1 q s1 f1 a1 => by
  obtain ⟨p, dx, fs, l, rfl, rfl, h1, _, h3, q⟩ := at_ins a1 q
  exact ⟨_, _, _, _, _, rfl, .own Cl,   .base (.ins h1 o.cl o.hc o.hg o.tk o.mo), o.kit, k _ _ _ q s1 f1 (.bl true)⟩
end

/-! ### more of what is walked -/
section
variable {K : PySem.W.Frag} {C : Cz} {ρ : List Sl} {P : List D → Prop} {te : TE} {ta : TA}
theorem walks_rev {a : Addr} {ds : List D} {n : Nat} (hn : n = ds.length) : Walks K (Itv K a n) [.ref a] [.lst ds] ds.reverse := fun O H h => by
  cases h with
  | cons h _ =>
    cases h with
    | @lst _ xs _ h1 _ h3 =>
      have hl := h3.length
      have W := walk_rev (K := K) (a := a) (xs := xs)
      rw [List.length_reverse, show n = xs.length by omega]
      refine ⟨fun i hi => W.goes i H (by omega) (SqL.of h1), by rw [← hl]; exact W.stops H (SqL.of h1), fun i x H' hi y => ?_⟩
      obtain ⟨rfl, e⟩ := W.yields i H x H' (by omega) (SqL.of h1) y
      obtain ⟨d, e, a⟩ := h3.get e
      refine ⟨d, ?_, Same.refl _, fun _ => a⟩
      rw [List.getElem?_reverse (by omega), ← hl]
      exact e
theorem evi_revA (h : Ev K C te ρ fun d => asL d fun l => P l.reverse) : EvI K C (RT.iRevA K te) ρ P := fun σ H R s k => h σ H _ s fun d v H1 q s1 f1 a1 => by
  obtain ⟨p, xs, ds, rfl, rfl, h1, _, h3, q⟩ := at_L a1 q
  exact ⟨p, xs, rfl, .inl ⟨SqL.of h1, k _ _ H1 [.ref p] [.lst ds] q s1 f1 (.one a1) (walks_rev h3.length)⟩⟩
theorem walks_revT {a : Addr} {ds : List D} {n : Nat} (hn : n = ds.length) : Walks K (RT.ItvT K a n) [.ref a] [.tup ds] ds.reverse := fun O H h => by
  cases h with
  | cons h _ =>
    cases h with
    | @tup _ xs _ h1 n3 h3 =>
      have hl := h3.length
      rw [List.length_reverse]
      refine ⟨fun i hi => ⟨by omega, xs, xs[n - 1 - i]'(by omega), h1, by rw [List.getElem?_eq_getElem]⟩, by show n ≤ ds.length; omega, fun i x H' hi y => ?_⟩
      obtain ⟨rfl, y⟩ := y
      have e := y xs h1
      obtain ⟨d, e, a⟩ := h3.get e
      refine ⟨d, ?_, Same.refl _, fun _ => a⟩
      rw [List.getElem?_reverse (by omega), ← hn]
      exact e
theorem evi_revT (h : Ev K C te ρ fun d => asT d fun l => P l.reverse) : EvI K C (RT.iRevA K te) ρ P := fun σ H R s k => h σ H _ s fun d v H1 q s1 f1 a1 => by
  obtain ⟨p, xs, ds, rfl, rfl, h1, _, h3, q⟩ := at_T a1 q
  exact ⟨p, xs, rfl, .inr ⟨h1, k _ _ H1 [.ref p] [.tup ds] q s1 f1 (.one a1) (walks_revT h3.length)⟩⟩
theorem evi_revQ (h : Ev K C te ρ fun d => asQ d fun l => P l.reverse) : EvI K C (RT.iRevA K te) ρ P := fun σ H R s k => h σ H _ s fun d v H1 q s1 f1 a1 => by
  cases a1 with
  | @lst p xs l h1 n h3 => exact ⟨p, xs, rfl, .inl ⟨SqL.of h1, k _ _ H1 [.ref p] [.lst l] q s1 f1 (.one (.lst h1 n h3)) (walks_rev h3.length)⟩⟩
  | @tup p xs l h1 n h3 => exact ⟨p, xs, rfl, .inr ⟨h1, k _ _ H1 [.ref p] [.tup l] q s1 f1 (.one (.tup h1 n h3)) (walks_revT h3.length)⟩⟩
  | _ => exact q.elim
theorem walks_enumT {a : Addr} {ds : List D} : Walks K (Itet K a) [.ref a] [.tup ds] (enumD ds) := fun O H h => by
  cases h with
  | cons h _ =>
    cases h with
    | @tup _ xs _ h1 n3 h3 =>
      have hl := h3.length
      rw [enumD_len]
      refine ⟨fun i hi => ⟨xs, xs[i]'(by omega), h1, by rw [List.getElem?_eq_getElem]⟩, ⟨xs, h1, by omega⟩, fun i x H' hi y => ?_⟩
      obtain ⟨T, z, rfl, nT, rfl, e2⟩ := y
      obtain ⟨d, e, a⟩ := h3.get (e2 xs h1)
      exact ⟨_, enumD_get e, same_upd nT, fun lv => At.mkTup nT (fun m => lv _ m nT) (.cons (.int _) (.one a))⟩
theorem evi_enumT (h : EvA K C ta ρ fun ds => as1 ds fun d => asT d fun l => P (enumD l)) : EvI K C (iEnumT K ta) ρ P := fun σ H R s k => h σ H _ s fun ds vs H1 q s1 f1 a1 => by
  obtain ⟨v, d, rfl, a, h⟩ := all_1 a1 q
  obtain ⟨p, xs, l, rfl, rfl, h1, n, h3, q⟩ := at_T a h
  exact ⟨p, xs, rfl, h1, k _ _ H1 [.ref p] [.tup l] q s1 f1 (.one a) walks_enumT⟩
end
section
variable {K : PySem.W.Frag} {C : Cz} {ρ : List Sl} {ta : TA} {i : Nat} {PO : Out → Prop}
/-- a new list that is changed -/
theorem run_ownNil (h : i < ρ.length ∧ ∀ p, PO (.nx (ρ.set i (.own p [])))) : Run K C (tAsg (tLst tNil) (gName i)) ρ PO := run_own (evf_lst (eva_nil ⟨Nat.zero_le _, h⟩))
theorem run_ownL (h : EvF K C (tCB (rListQ K) ta) ρ fun ds => i < ρ.length ∧ ∀ p, PO (.nx (ρ.set i (.own p ds)))) : Run K C (tAsg (tCB (rListQ K) ta) (gName i)) ρ PO := run_own h
end
section
variable {K : PySem.W.Frag} {C : Cz} {ρ : List Sl}
/-- a loop that carries x, of which J holds: of the slots what f says -/
theorem forX {α : Type} (J : Nat → α → Prop) (f : α → List Sl) (x0 : α) {items : List D} {g : TG} {tb : TS} {P : Out → Prop} (j0 : J 0 x0) (w : Wk ρ (f x0))
    (h : ∀ (hv : List V) (hd : List D) (i : Nat) (d : D) (x : α), items[i]? = some d → J i x → EvX K (C.hold hv hd) g d (f x) fun ρ2 => Run K (C.hold hv hd) tb ρ2 (loopP (fun ρ3 => ∃ x', J (i + 1) x' ∧ Wk ρ3 (f x')) P))
    (e : ∀ x, J items.length x → ∀ ρ3, Wk ρ3 (f x) → P (.nx ρ3)) :
    ∃ I : Nat → List Sl → Prop, I 0 ρ ∧ (∀ hv hd i d ρ', items[i]? = some d → I i ρ' → EvX K (C.hold hv hd) g d ρ' fun ρ2 => Run K (C.hold hv hd) tb ρ2 (loopP (I (i + 1)) P)) ∧ ∀ ρ', I items.length ρ' → P (.nx ρ') :=
  ⟨fun i ρ' => ∃ x, J i x ∧ Wk ρ' (f x), ⟨x0, j0, w⟩, fun hv hd i d ρ' e ⟨x, j, hw⟩ => evx_wk hw (h hv hd i d x e j), fun ρ' ⟨x, j, hw⟩ => e x j ρ' hw⟩
end
section
variable {K : PySem.W.Frag} {C : Cz} {ρ : List Sl} {P : D → Prop} {te : TE}
/-- [e for g in wi if t]: I by the turn and what is made so far -/
theorem ev_lcI (I : Nat → List D → Prop) {wi : TI} {g : TG} {tt : TT} {vs : List Nat} (hv : nowns ρ vs = true) (h0 : I 0 [])
    (h : EvI K C wi ρ fun items => (∀ C' : Cz, C'.E = C.E → C'.X = C.X → C'.bags = C.bags → ∀ i d ys, items[i]? = some d → I i ys → EvG K C' g d vs (wipeR ρ vs) fun ρ2 =>
      EvT K C' tt ρ2 fun b => if b = true then Ev K C' te ρ2 fun y => ys.length < sizeLine ∧ I (i + 1) (ys ++ [y]) else I (i + 1) ys) ∧ ∀ ys, I items.length ys → P (.lst ys)) : Ev K C (tLc wi g tt te vs) ρ P :=
  ev_f (evf_lc hv fun σ H R s k => h σ H R s fun items J H' hv' hd q s1 f1 a1 w => k items J H' hv' hd ⟨I, h0, q.1, q.2⟩ s1 f1 a1 w)
/-- [e for g in wi]: the items of out -/
theorem ev_lcx (f : List D → List D) {wi : TI} {g : TG} {tt : TT} {vs : List Nat} (hv : nowns ρ vs = true)
    (h : EvI K C wi ρ fun items => (items.length ≤ 100000 ∧ (f items).length = items.length) ∧ (∀ C' : Cz, C'.E = C.E → C'.X = C.X → C'.bags = C.bags → ∀ (i : Nat) (d : D), items[i]? = some d → EvG K C' g d vs (wipeR ρ vs) fun ρ2 => EvT K C' tt ρ2 fun b => b = true ∧ Ev K C' te ρ2 fun y => (f items)[i]? = some y) ∧ P (.lst (f items))) : Ev K C (tLc wi g tt te vs) ρ P := by
  refine ev_f (evf_lc hv fun σ H R s k => h σ H R s fun items J H' hv' hd q s1 f1 a1 w => k items J H' hv' hd ?_ s1 f1 a1 w)
  obtain ⟨⟨q1, q0⟩, q2, q3⟩ := q
  refine ⟨fun i ys => ys = (f items).take i, rfl, fun C' e1 e2 e3 i d ys hi hI => ?_, fun ys hI => ?_⟩
  · intro v σ H Q s a k
    refine q2 C' e1 e2 e3 i d hi v σ H Q s a fun ρ' σ' p => k ρ' σ' fun σ2 H2 Q2 s2 k2 => p σ2 H2 Q2 s2 fun b H3 pb s3 f3 => k2 b H3 ?_ s3 f3
    have hlt := (List.getElem?_eq_some_iff.mp hi).1
    dsimp only
    rw [if_pos pb.1]
    refine ev_mono pb.2 fun y hy => ⟨?_, ?_⟩
    · rw [hI, List.length_take]
      exact Nat.lt_of_lt_of_le (show min i (f items).length < 200000 by omega) (by decide)
    · rw [hI, List.take_add_one, hy]
      rfl
  · rw [hI, ← q0, List.take_length]
    exact q3
end
theorem k_star {X : Cx} {K : PySem.W.Frag} {e : Expr} {es : List Expr} {te : TE} {t : TA} {p : Pos} (he : PE X e te) (hr : PA X es t) (hs : starEach (.Starred e p :: es) X.env = (true, eval e X.env) :: starEach es X.env := by rfl) (h : X.K = K := by rfl) : PA X (.Starred e p :: es) (StX.tStar K te t) := h ▸ StX.pa_star he hr hs
theorem k_revA {X : Cx} {K : PySem.W.Frag} {tg e : Expr} {te : TE} {p pos : Pos} (hg : Gl X "reversed") (hm : X.mg "reversed" = none) (he : PE X e te) (hs : starEach [e] X.env = (false, eval e X.env) :: starEach [] X.env := by rfl) (h : X.K = K := by rfl) : PI X tg (.Call (.Name "reversed" p) [e] [] pos) (RT.iRevA K te) := h ▸ RT.pi_revA hg hm he hs

/-! ### lambdas as values: kept in a list, called later -/
/-- a lambda's data: no default, or one -/
abbrev lmFd (q : Str) (ps : Arguments) (b : Expr) (sc : Scope) (cl : List (Str × Addr)) (dv pm cdv ctv : Value) : FuncData :=
  { PySem.W.kla_fn "<lambda>" q ps b sc cl pm cdv ctv with defaults := dv }
abbrev lmObj (q : Str) (ps : Arguments) (b : Expr) (sc : Scope) (cl : List (Str × Addr)) (dv pm cdv ctv : Value) : Obj :=
  { cls := .type "function", data := .func (lmFd q ps b sc cl dv pm cdv ctv) }
/-- what stands at f -/
def lmIs (q : Str) (ps : Arguments) (b : Expr) (sc : Scope) (cl : List (Str × Addr)) (dv : Value) (f c' : Addr) : Heap → Prop :=
  fun h => ∃ pm ctv, h.get? f = some (lmObj q ps b sc cl dv pm (.ref c') ctv)
section
variable {M : Model} {A : Around} {E : Value → Shared → Prop} {s : Shared} {q : Str} {ps : Arguments} {b : Expr} {sc : Scope} {env : Env} {c P : Addr} {tab : Array Value} {pos : Pos} {mg : Str → Option Value}
/-- a lambda's code object is new, or found in the table -/
def TabStep (s : Shared) (P : Addr) (q : Str) (pos : Pos) (tab tab' : Array Value) (c' : Addr) (h' : Heap) : Prop :=
  (tab' = tab ∧ codeAmong pos tab.toList = some (.ref c')) ∨ (codeAmong pos tab.toList = none ∧ tab' = tab ++ #[rawInt pos.line, rawInt pos.col, .ref c'] ∧ s.heap.objs.size ≤ c' ∧ c' < h'.objs.size ∧ h'.CodeRec (.ref c') q)
theorem lm_tail {cl : List (Str × Addr)} {dv : Value} {Q : Value → Shared → Prop} {n : Nat} (e1 : closureFor sc env = pure cl) (e2 : env.globals = mainGlobals) (hn : s.heap.Ns mainGlobals mg) (e3 : env.code = .ref c) (C : PySem.W.CodeHd s.heap c P)
    (hP : s.heap.get? P = some (PySem.W.tabObj tab)) (ht : TriplesOk tab.toList) (hu : ∀ cv, codeAmong pos tab.toList = some cv → ∃ c', cv = .ref c') (gP : mainGlobals ≠ P) (bP : s.heap.BuiltinsAt mg P)
    (h : ∀ (c' : Addr) (ctv : Value) (tab' : Array Value) (h' : Heap) (tk : Tok), (∀ a o, a ≠ P → s.heap.get? a = some o → h'.get? a = some o) → s.heap.objs.size ≤ h'.objs.size → h'.get? P = some (PySem.W.tabObj tab') → TabStep s P q pos tab tab' c' h' →
      Q (.ref h'.objs.size) { s with heap := h'.push (lmObj q ps b sc cl dv ((mg "__name__").getD .none) (.ref c') ctv), toks := tk }) :
    wpAny M A (PySem.makeTail "<lambda>" q ps (.expr b) sc env dv .none none pos n) Q E s := by
  obtain ⟨bm, ob, g1, g2, _, g4, g5, g6, g7, g8⟩ := bP
  -- behind the closure's tuple
  have go : ∀ (ctv : Value) (h0 : Heap), (∀ a o, s.heap.get? a = some o → h0.get? a = some o) → s.heap.objs.size ≤ h0.objs.size →
      wpAny M A (do let code ← functionCode env pos n "<lambda>" q ps sc (.expr b); let bi ← builtinsFor env.globals env.builtins; let nm ← nsGet env.globals "__name__"; let doc ← (pure Value.none : Sem Value)
                    newObj (.type "function") (.func { name := "<lambda>", qualname := q, params := ps, body := .expr b, scope := sc, globals := env.globals, closure := cl, closureTuple := ctv, code, builtins := bi, defaults := dv, kwdefaults := .none, annotations := none, pyModule := nm.getD .none, doc })) Q E { s with heap := h0 } := by
    intro ctv h0 k0 z0
    have hP0 := k0 _ _ hP
    have C0 := C.keeps k0
    cases hc : codeAmong pos tab.toList with
    | some cv =>
      obtain ⟨c', rfl⟩ := hu cv hc
      refine wpAny_bind (wpAny_functionCode_hit (s := { s with heap := h0 }) e3 (C0.code hP0 ht) hc ?_)
      rw [e2]
      refine wpAny_bind (wpAny_builtinsFor (s := { s with heap := h0 }) (hn.keeps k0) g1 g2 (k0 _ _ g5) g6 g7 g8 (wpAny_bind (wpAny_nsGet (s := { s with heap := h0 }) (hn.keeps k0) (wpAny_bind (wpAny_pure ?_)))))
      exact wpAny_newObj_type (s := { s with heap := h0 }) (h c' ctv tab h0 s.toks (fun a o _ e => k0 a o e) z0 hP0 (.inl ⟨rfl, hc⟩)) (by size_fits)
    | none =>
      refine wpAny_bind (wpAny_functionCodeX (s := { s with heap := h0 }) e3 (C0.code hP0 ht) (C0.tab hP0) hc fun c' h' tk hx z1 z2 _ rc tb _ => ?_)
      have k1 : ∀ a o, a ≠ P → s.heap.get? a = some o → h'.get? a = some o := fun a o ha e => hx a o ha (k0 a o e)
      have hn' := (hn.keeps k0).extBut hx gP
      rw [e2]
      refine wpAny_bind (wpAny_builtinsFor (s := { s with heap := h', toks := tk }) hn' g1 g2 (k1 _ _ g4 g5) g6 g7 g8 (wpAny_bind (wpAny_nsGet (s := { s with heap := h', toks := tk }) hn' (wpAny_bind (wpAny_pure ?_)))))
      exact wpAny_newObj_type (s := { s with heap := h', toks := tk }) (h c' ctv _ h' tk k1 (Nat.le_trans z0 (Nat.le_trans z1 (Nat.le_of_lt z2))) tb.2 (.inr ⟨hc, rfl, Nat.le_trans z0 z1, z2, rc⟩)) (by size_fits)
  unfold PySem.makeTail
  rw [e1]
  refine wpAny_bind (wpAny_pure ?_)
  cases cl with
  | nil => exact wpAny_bind (wpAny_pure (go .none s.heap (fun _ _ e => e) (Nat.le_refl _)))
  | cons x r => exact wpAny_bind (wpAny_newTextTuple (go _ _ (fun a o e => Heap.get?_push_of_some _ e) (by rw [Heap.size_push]; omega)))
end

theorem upd_live {H : Hp} {a b : Addr} {o : HO} (h : H a ≠ none) : upd H b o a ≠ none := by
  by_cases z : a = b
  · rw [z, upd_same]; exact fun e => nomatch e
  · rw [upd_ne z]; exact h
/-- the default is written behind: nothing, or one number's tuple -/
def DflOk (H : Hp) : Value → Prop
  | .none => True
  | .ref d => ∃ i, H d = some (.tup [.int i])
  | _ => False
section
variable {X : Cx} {pins : List (Addr × Obj)} {σ : L2.St} {H : Hp} {s : Shared} {c P : Addr} {ps : Arguments} {b : Expr} {sc : Scope} {pos : Pos}
/-- the lambda is made, with its defaults at dv -/
theorem lm_make {q : Str} {dv : Value} {n : Nat} {E : Value → Shared → Prop} {Q : Value → Shared → Prop} (I : Inv X pins σ H s) (TB : LamX.TabB X.base X.mg c P) (e3 : X.env.code = .ref c) (hT : LamX.TabS H P q) (hf : ∀ y ∈ sc.names, y.2 = .free → ∃ c, X.env.cells.lookup y.1 = some c)
    (h : ∀ (f c' : Addr) (H1 : Hp) (s1 : Shared), Inv X pins σ H1 s1 → LamX.ExtN H H1 → LamX.TabS H1 P q → H f = none → H1 f = some (.ext (lmIs q ps b sc (cloFrom X.env.cells sc.names []) dv f c')) → H1 c' = some (LamX.CodeO c' q) → (H c' = none ∨ H c' = some (LamX.CodeO c' q)) → (∀ a, H a ≠ none → H1 a ≠ none) → Q (.ref f) s1) :
    wpAny (model X.prog X.w) X.A (PySem.makeTail "<lambda>" q ps (.expr b) sc X.env dv .none none pos n) Q E s := by
  obtain ⟨tab, hP, ht, ha⟩ := hT
  have gP : s.heap.get? P = some (PySem.W.tabObj tab) := I.hok P _ hP
  refine lm_tail (closure_ok hf) I.ok.glob (I.mod.glob.keeps I.bk) e3 (TB.code.keeps I.bk) gP ht (fun cv hc => (ha pos cv hc).imp fun _ z => z.1) TB.gP (TB.bm.keeps I.bk) fun c' ctv tab' h' tk k1 z1 gP' st => ?_
  have mk : ∀ {H1 : Hp}, Inv X pins σ H1 { s with heap := h', toks := tk } → H1 h'.objs.size = none ∧ Inv X pins σ (upd H1 h'.objs.size (.ext (lmIs q ps b sc (cloFrom X.env.cells sc.names []) dv h'.objs.size c')))
      { s with heap := h'.push (lmObj q ps b sc (cloFrom X.env.cells sc.names []) dv ((X.mg "__name__").getD .none) (.ref c') ctv), toks := tk } := fun {H1} I1 =>
    ⟨I1.hok.fresh (Nat.le_refl _), I1.laid (t' := tk) (fun a o e => Heap.get?_push_of_some _ e) (Nat.le_refl _) ⟨⟨_, ctv, Heap.get?_push_size _ rfl⟩, ⟨_, Heap.get?_push_size _ rfl⟩, fun h1 h2 ⟨pm, cv, e⟩ g => ⟨pm, cv, g _ e⟩⟩⟩
  rcases st with ⟨rfl, hc⟩ | ⟨hc, rfl, z2, z3, rc⟩
  · have I1 : Inv X pins σ H { s with heap := h', toks := tk } := I.kept fun a o e => by
      by_cases z : a = P
      · subst z; rw [gP] at e; cases e; exact gP'
      · exact k1 a o z e
    obtain ⟨n1, I2⟩ := mk I1
    obtain ⟨c2, e2, hco⟩ := ha pos _ hc
    cases e2
    have k2 : ∀ a o, H a = some o → upd H h'.objs.size (.ext (lmIs q ps b sc (cloFrom X.env.cells sc.names []) dv h'.objs.size c')) a = some o := fun a o e => by rw [upd_ne (ne_of_none e n1)]; exact e
    exact h _ c' _ _ I2 (LamX.ExtN.of k2) (LamX.TabS.ext ⟨_, hP, ht, ha⟩ k2) n1 upd_same (k2 _ _ hco) (.inr hco) (fun a na => upd_live (fun z => na z) )
  · obtain ⟨c2, oc, vs, t, e2, hoc, hd, hv⟩ := rc
    cases e2
    have nC : H c' = none := I.hok.fresh z2
    have nPc : P ≠ c' := ne_of_none hP nC
    have I1 := LamX.inv_table (t' := tk) (q := q) (more := #[rawInt pos.line, rawInt pos.col, .ref c']) (h' := h') I hP k1 gP' z2 ⟨oc, vs, t, hoc, hd, hv⟩
    obtain ⟨n1, I2⟩ := mk I1
    have nf : H h'.objs.size = none := I.hok.fresh (Nat.le_trans z2 (Nat.le_of_lt z3))
    have nfc : c' ≠ h'.objs.size := Nat.ne_of_lt z3
    have nfP : P ≠ h'.objs.size := ne_of_none hP nf
    have kE : LamX.ExtN H (upd (upd (upd H P (.tbl (tab ++ #[rawInt pos.line, rawInt pos.col, .ref c']))) c' (LamX.CodeO c' q)) h'.objs.size (.ext (lmIs q ps b sc (cloFrom X.env.cells sc.names []) dv h'.objs.size c'))) := fun a o e nt => by
      rw [upd_ne (ne_of_none e nf), upd_ne (ne_of_none e nC), upd_ne fun z => nt tab (Option.some.inj (e.symm.trans (by rw [z]; exact hP)))]
      exact e
    have kC : upd (upd (upd H P (.tbl (tab ++ #[rawInt pos.line, rawInt pos.col, .ref c']))) c' (LamX.CodeO c' q)) h'.objs.size (.ext (lmIs q ps b sc (cloFrom X.env.cells sc.names []) dv h'.objs.size c')) c' = some (LamX.CodeO c' q) := by
      rw [upd_ne nfc, upd_same]
    have eL : (tab ++ #[rawInt pos.line, rawInt pos.col, .ref c']).toList = tab.toList ++ [rawInt pos.line, rawInt pos.col, .ref c'] := by simp
    refine h _ c' _ _ I2 kE ⟨_, by rw [upd_ne nfP, upd_ne nPc, upd_same], by rw [eL]; exact PySem.TriplesOk_snoc _ _ _ _ ht, fun p' cv hcv => ?_⟩ nf upd_same kC (.inl nC) (fun a na => upd_live (upd_live (upd_live na)))
    rw [eL] at hcv
    rcases LamX.among_app _ ht hcv with z | rfl
    · obtain ⟨c0, g1, g2⟩ := ha p' cv z
      exact ⟨c0, g1, kE _ _ g2 LamX.codeO_ne⟩
    · exact ⟨c', rfl, kC⟩
/-- what an expression of a lambda without a default is, of one with a number -/
theorem lm_eval0 {E : Value → Shared → Prop} {Q : Value → Shared → Prop} (hd : defaultsOf ps X.env = ([], [])) (h : wpAny (model X.prog X.w) X.A (PySem.makeTail "<lambda>" (X.env.qual ++ "<lambda>") ps (.expr b) sc X.env .none .none none pos pos.line) Q E s) :
    wpAny (model X.prog X.w) X.A (eval (.Lambda ps b sc pos) X.env) Q E s := by
  refine PySem.W.kla_eval hd ?_
  rw [makeFunction_eq]
  simp only [List.zip_nil_right, List.filterMap_nil, List.isEmpty_nil, if_true, pure_bind]
  exact h
theorem lm_eval1 {i : Int} {k : Nat} {p : Pos} {E : Value → Shared → Prop} {Q : Value → Shared → Prop} (I : Inv X pins σ H s) (hd : defaultsOf ps X.env = ([eval (.Constant (.int i) k p) X.env], []))
    (h : ∀ (d : Addr) (s1 : Shared), H d = none → Inv X pins σ (upd H d (.tup [.int i])) s1 → wpAny (model X.prog X.w) X.A (PySem.makeTail "<lambda>" (X.env.qual ++ "<lambda>") ps (.expr b) sc X.env (.ref d) .none none pos pos.line) Q E s1)
    (hx : ∀ e s1, X.xe e s1 → E e s1) : wpAny (model X.prog X.w) X.A (eval (.Lambda ps b sc pos) X.env) Q E s := by
  rw [arm_eval_Lambda, hd]
  show wpAny _ X.A (do let dv ← evalAll [eval (.Constant (.int i) k p) X.env]; let kdv ← holding dv (evalAllOpt []); makeFunction "<lambda>" (X.env.qual ++ "<lambda>") ps (.expr b) sc X.env dv kdv [] pos pos.line) Q E s
  refine wpAny_bind ?_
  unfold evalAll
  refine wpAny_bind (wpAny_mono ((pe_int (X := X) (j := k) (pos := p) (i := i)).run pins s σ H (fun v H1 => v = .int i ∧ H1 = H) I ⟨rfl, rfl⟩) (fun u s1 hu => ?_) hx)
  obtain ⟨v, H1, I1, r, rfl, rfl⟩ := hu
  refine wpAny_bind (wpAny_holding (wpAny_pure (wpAny_pure ?_)))
  refine wpAny_bind (wpAny_holding (wpAny_pure ?_))
  rw [makeFunction_eq]
  simp only [List.zip_nil_right, List.filterMap_nil, List.isEmpty_nil, List.isEmpty_cons, Bool.false_eq_true, if_true, if_false, pure_bind]
  refine wpAny_bind (wpAny_newTextTuple ?_)
  exact h s1.heap.objs.size _ (I1.hok.fresh (Nat.le_refl _)) (I1.laid (t' := s1.toks) (fun a o e => Heap.get?_push_of_some _ e) (Nat.le_refl _) ⟨by show (1 : Nat) ≤ sizeLine; decide, [u], .cons r .nil, ⟨_, Heap.get?_push_size _ rfl, rfl, _, rfl⟩⟩)
end

/-- the lambda's names: captured ones, globals; a parameter that the def's own names don't have -/
structure LamN (N : List Str) (sd sc : Scope) : Prop where
  fn : sc.kind = .function
  noCo : sc.isCoroutine = false
  noGen : sc.isGenerator = false
  noCell : ∀ y ∈ sc.names, y.2 ≠ .cell
  par : ∀ y ∈ sc.names, y.2 = .local → y.1 ∉ N
  free : ∀ y ∈ sc.names, y.2 = .free → sd.names.lookup y.1 = some .cell ∨ sd.names.lookup y.1 = some .free
def lamNB (N : List Str) (sd sc : Scope) : Bool :=
  decide (sc.kind = .function) && (!sc.isCoroutine && (!sc.isGenerator && sc.names.all fun y => !decide (y.2 = .cell) && ((!decide (y.2 = .local) || !decide (y.1 ∈ N)) && (!decide (y.2 = .free) || (decide (sd.names.lookup y.1 = some .cell) || decide (sd.names.lookup y.1 = some .free))))))
theorem lamN_by {N : List Str} {sd sc : Scope} (h : lamNB N sd sc = true) : LamN N sd sc := by
  unfold lamNB at h
  simp only [Bool.and_eq_true, Bool.or_eq_true, Bool.not_eq_true', decide_eq_true_eq, decide_eq_false_iff_not, List.all_eq_true] at h
  obtain ⟨k1, k2, k3, k4⟩ := h
  refine ⟨k1, k2, k3, fun y hy => (k4 y hy).1, fun y hy e => ?_, fun y hy e => ?_⟩
  · exact (k4 y hy).2.1.elim (fun z => absurd e z) id
  · exact (k4 y hy).2.2.elim (fun z => absurd e z) id
section
variable {X : Cx} {pins : List (Addr × Obj)} {σ : L2.St} {H : Hp} {s : Shared} {sc : Scope}
theorem LamN.cells (L : LamN X.N X.env.scope sc) (ok : X.Ok) : ∀ y ∈ sc.names, y.2 = .free → ∃ c, X.env.cells.lookup y.1 = some c := fun y hy e =>
  ok.has _ (show X.env.kindOf y.1 = some .cell ∨ X.env.kindOf y.1 = some .free from L.free y hy e)
/-- the body's context, entered: HZ, s1 are now; nothing of what is captured has changed since s -/
theorem lm_start {A : Around} {outer : List Env} {E : XK} {f c' : Addr} {h1 : Heap} {tk : Nat} {HZ : Hp} {s1 : Shared} {bd : List (Str × Value)} (I : Inv X pins σ H s) (L : LamN X.N X.env.scope sc) (e0 : Env0 X.prog X.w X.K X.mg X.base A outer s1 HZ) (nh : A.handled = none)
    (un : Un (frs X.stack) [] H HZ s.heap s1.heap) (ns : h1.Ns s1.heap.objs.size fun y => bd.reverse.lookup y) (kp : ∀ a o, s1.heap.get? a = some o → h1.get? a = some o) :
    Inv (LamX.lamCx X A outer s1 HZ E sc f c') [] σ HZ { s1 with heap := h1, toks := tk } := by
  have hc := L.cells I.ok
  -- a captured name's cell is the def's
  have up : ∀ {y : Str} {a : Addr}, (cloFrom X.env.cells sc.names []).lookup y = some a → X.env.cells.lookup y = some a := by
    intro y a e
    rcases cloFrom_mem (PySem.mem_of_lookup e) with z | ⟨z, rfl⟩
    · exact nomatch z
    · obtain ⟨a', e'⟩ := hc _ z rfl
      have e' : X.env.cells.lookup y = some a' := e'
      rw [e']
      rfl
  have dn : ∀ {y : Str}, sc.names.lookup y = some .free → ∃ a, (cloFrom X.env.cells sc.names []).lookup y = some a := fun {y} e =>
    mem_lookup (cloFrom_has (cells := X.env.cells) (acc := []) (show (y, NameKind.free) ∈ sc.names from PySem.mem_of_lookup e))
  have cell : ∀ {a : Addr} {v : Option Value}, H a = none → s.heap.IsCell a v → h1.IsCell a v := by
    rintro a v n ⟨o, ho, hd⟩
    obtain ⟨sl, g⟩ := un.any ho n List.not_mem_nil
    exact ⟨_, kp _ _ g, hd⟩
  have ok : (LamX.lamCx X A outer s1 HZ E sc f c').Ok := {
    mod := e0.mod, kind := L.fn, glob := rfl, blt := rfl, above := Nat.le_refl _,
    inj := fun y z a g1 g2 => I.ok.inj y z a (up g1) (up g2),
    has := fun y hy => by
      have hy : sc.names.lookup y = some .cell ∨ sc.names.lookup y = some .free := hy
      rcases hy with hy | hy
      · exact absurd rfl (L.noCell _ (PySem.mem_of_lookup hy))
      · exact dn hy,
    cab := fun y a z _ => Bool.noConfusion (show false = true from z),
    hd := fun _ => nh, frames := Around.frames_deeper e0.frames, stk := .inr ⟨rfl, rfl⟩, exf := fun a m => (nomatch (show a ∈ ([] : List Addr) from m)),
    bs := e0.bs, bsz := e0.bsz, noex := fun a _ _ m => (nomatch (show a ∈ ([] : List Addr) from m)), exfs := fun a m => (nomatch (show a ∈ ([] : List Addr) from m)), funs := e0.funs, frf := e0.frf }
  refine { ok := ok, os := rfl, bare := e0.bare, base := Un.kept kp, loc := ⟨_, ns, fun i y v g1 g2 g3 => ?_⟩, cell := fun y a e => ?_, free := e0.hok.fresh (Nat.le_refl _), freeC := fun y a e => ?_, pin := fun p m => (nomatch (show p ∈ ([] : List (Addr × Obj)) ++ [] from m)), hok := e0.hok.kept kp, len := I.len }
  · have g3 : Vis sc y := g3
    rcases g3 with k | k | k
    · exact absurd (List.mem_of_getElem? (show X.N[i]? = some y from g1)) (L.par _ (PySem.mem_of_lookup k) rfl)
    · exact absurd rfl (L.noCell _ (PySem.mem_of_lookup k))
    · have kd := L.free _ (PySem.mem_of_lookup k) rfl
      obtain ⟨m, _, hl⟩ := I.loc
      obtain ⟨u, r, l⟩ := hl i y v g1 g2 (kd.elim (fun z => .inr (.inl z)) fun z => .inr (.inr z))
      obtain ⟨a, ea⟩ := dn k
      refine ⟨u, r, .inr ⟨.inr k, a, ea, ?_⟩⟩
      rcases l with ⟨z, _⟩ | ⟨_, a2, e2, z⟩
      · have z : X.env.scope.names.lookup y = some .local := z
        rcases kd with z2 | z2 <;> exact nomatch z.symm.trans z2
      · have ea2 := up ea
        rw [e2] at ea2
        cases ea2
        exact cell (I.freeC y _ e2) z
  · obtain ⟨v, z⟩ := I.cell y a (up e)
    exact ⟨v, cell (I.freeC y a (up e)) z⟩
  · obtain ⟨v, o, ho, hd⟩ := I.cell y a (up e)
    exact un.free a o ho (I.freeC y a (up e)) List.not_mem_nil
end
/-- what is asked of the lambda's parameters: it is called without arguments -/
def Bare0 (q : Str) (ps : Arguments) (b : Expr) (sc : Scope) (dv : Value) (H : Hp) : Prop :=
  ∀ (P : Program) (w : World) (h : Heap) (cl : List (Str × Addr)) (pm cdv ctv : Value), HOk P w H h → ∃ bd : List (Str × Value), (∀ y ∈ bd, sc.names.lookup y.1 = some .local) ∧ ∀ M : Model, PySem.W.Looks M h (bindArgs (lmFd q ps b sc cl dv pm cdv ctv) ⟨[], []⟩) bd
theorem bare_none {q : Str} {ps : Arguments} {b : Expr} {sc : Scope} {H : Hp} (h : ∀ (cl : List (Str × Addr)) (pm cdv ctv : Value), bindArgs (lmFd q ps b sc cl .none pm cdv ctv) ⟨[], []⟩ = pure []) : Bare0 q ps b sc .none H :=
  fun P w hh cl pm cdv ctv _ => ⟨[], fun y m => (nomatch m), fun M => PySem.W.Looks.of_pure (h cl pm cdv ctv)⟩
theorem bare_int {q x : Str} {ps : Arguments} {b : Expr} {sc : Scope} {H : Hp} {d : Addr} {i : Int} (hd : H d = some (.tup [.int i])) (hx : sc.names.lookup x = some .local)
    (h : ∀ (cl : List (Str × Addr)) (pm cdv ctv u : Value), ∃ k, bindArgs (lmFd q ps b sc cl (.ref d) pm cdv ctv) ⟨[], []⟩ = seqItems? (.ref d) >>= k ∧ k (some #[u]) = pure [(x, u)]) : Bare0 q ps b sc (.ref d) H := by
  intro P w hh cl pm cdv ctv ok
  obtain ⟨_, its, r, o, ho, _, n, hdat⟩ := ok d _ hd
  cases r with
  | cons r0 r1 =>
    cases r1
    rename_i u
    refine ⟨[(x, u)], fun y m => by rw [List.mem_singleton.mp m]; exact hx, fun M A Q E s kp g => ?_⟩
    obtain ⟨k, e1, e2⟩ := h cl pm cdv ctv u
    rw [e1]
    refine wpAny_bind (wpAny_seqItems (kp _ _ ho) hdat ?_)
    rw [show ([u] : List Value).toArray = #[u] from rfl, e2]
    exact wpAny_pure g
section
variable {X : Cx} {pins : List (Addr × Obj)} {σ : L2.St} {H : Hp} {s : Shared}
/-- a(), in the def that got the lambda at f -/
theorem lm_act {CXg : CXT} {Eg : XK} {Ng : List Str} {qg : Str} {sg : Scope} {g f c' : Addr} {cdg dv : Value} {ps : Arguments} {b : Expr} {sc : Scope} {k i : Nat} {a : Str} {pn : List (Addr × Obj)} {xe : Value → Shared → Prop} {W : WX} {E : XK} {tb : TE} {p1 p2 : Pos}
    (I : Inv X pins σ H s) (L : LamN X.N X.env.scope sc)
    (tk : Takes ((cxOf CXg X.prog X.w X.K X.mg X.base Ng qg sg g cdg X.A X.stack s H Eg).tr pn xe) W) (hW : ∀ cls d σ' H', E cls d H' → W cls d σ' H') (hr : Room (k + 1) (X.A.deeper (envOfC qg sg s.heap.objs.size g cdg)))
    (hbody : ∀ (A : Around) (outer : List Env) (s : Shared) (H : Hp), Room k (A.deeper (LamX.lamEnv X sc s.heap.objs.size f c')) → PE (LamX.lamCx X A outer s H E sc f c') b tb)
    (hN : Ng[i]? = some a) (hv : Vis sg a) (hd : (a == ("__debug__" : Str)) = false := by decide) (hcd : (a == ("__classdict__" : Str)) = false := by decide) :
    PE ((cxOf CXg X.prog X.w X.K X.mg X.base Ng qg sg g cdg X.A X.stack s H Eg).tr pn xe) (.Call (.Name a p1) [] [] p2)
      (fun τ HZ Q => τ[i]? = some (some (.ref f)) ∧ HZ c' = some (LamX.CodeO c' (X.env.qual ++ "<lambda>")) ∧ (HZ f = some (.ext (lmIs (X.env.qual ++ "<lambda>") ps b sc (cloFrom X.env.cells sc.names []) dv f c')) ∧ Bare0 (X.env.qual ++ "<lambda>") ps b sc dv HZ ∧ tb σ HZ Q)) := by
  constructor
  rintro pinsZ sZ τ HZ Q IZ ⟨h1, h2, h3, h4, h5⟩
  refine wpAny_Call_Name_kw (thn ((pe_var (X := (cxOf CXg X.prog X.w X.K X.mg X.base Ng qg sg g cdg X.A X.stack s H Eg).tr pn xe) (pos := p1) hN hv hd hcd).run pinsZ sZ τ HZ (fun v H1 => v = .ref f ∧ H1 = HZ) IZ ⟨.ref f, h1, rfl, rfl⟩) ?_)
  rintro u s1 ⟨v, H1, J, ru, rfl, rfl⟩
  obtain rfl : u = Value.ref f := ru
  obtain ⟨⟨pm, ctv, hob⟩, _, _⟩ := J.hok f _ h3
  obtain ⟨⟨oc, vs, t, hc1, hc2, hc3⟩, _, _⟩ := J.hok c' _ h2
  have un : Un (frs X.stack) [] H H1 s.heap s1.heap := J.base
  obtain ⟨bd, hbd, hlk⟩ := h4 X.prog X.w s1.heap (cloFrom X.env.cells sc.names []) pm (.ref c') ctv J.hok
  refine PySem.W.callWith_F0 ⟨_, _, _, _, hob⟩ ?_
  have rc : codeAny (model X.prog X.w) (X.A.deeper (envOfC qg sg s.heap.objs.size g cdg)) (.call (.ref f) ⟨[], []⟩) (CR (L2.CX X.prog X.w) (envOfC qg sg s.heap.objs.size g cdg :: X.stack) X.prog X.w H1 s1 Q E) s1 := by
    refine PySem.W.kla_callFunE hr.depth hob rfl L.noCo L.noGen rfl ⟨c', oc, vs, t, rfl, hc1, hc2, hc3⟩ ((hlk _).here ?_)
    refine wpAny_newFunctionEnv (fun y hy => L.noCell y hy) hbd (fun h1' hns hsb => ⟨J.nolimit.fresh _ hsb, ?_⟩) L.fn
    show codeAny _ _ (.expr b (LamX.lamEnv X sc s1.heap.objs.size f c')) _ _
    have kp : ∀ a o, s1.heap.get? a = some o → h1'.get? a = some o := fun a o e => hsb.extBut a o (Nat.ne_of_lt (Heap.lt_size e)) (Heap.get?_push_of_some _ e)
    have IB := lm_start (A := X.A.deeper (envOfC qg sg s.heap.objs.size g cdg)) (outer := envOfC qg sg s.heap.objs.size g cdg :: X.stack) (E := E) (f := f) (c' := c') (tk := s1.toks + bd.length) I L J.env0 hr.hd un hns kp
    exact PySem.W.kla_codeExpr (wpAny_mono ((hbody _ _ s1 H1 (hr.deeper _)).run [] _ σ H1 Q IB h5) (fun v s2 ⟨v', H2, J2, r2, q2⟩ => ⟨v', H2, J2.os, J2.bare, J2.base, J2.hok, r2, q2⟩) fun _ _ z => z)
  have hx : Passes (L2.CX X.prog X.w) ((cxOf CXg X.prog X.w X.K X.mg X.base Ng qg sg g cdg X.A X.stack s H Eg).tr pn xe) E := passes_call tk hW
  refine wpAny_call (codeAny_mono rc fun r s2 hq => ?_)
  cases r with
  | error e => exact hx pinsZ τ H1 s1 e s2 J hq
  | ok fl => cases fl <;> first | exact J.after hq | exact False.elim hq
end

/-! ### a comprehension whose items lean on the def's own state -/
section
variable {X : Cx}
abbrev blkE (X : Cx) (sc : Scope) (cl : List (Str × Addr)) (C : Addr) : Env := compEnvC sc cl C X.env
/-- as pe_lc, without tests; at each item the def's own state stands behind the block's -/
theorem pe_lcI {elt tg iter : Expr} {sc : Scope} {own : List (Str × Nat)} {pos : Pos} {wi : TI} {g : TG} {te : TE} (hc : X.calm = true) (nd : X.N.Nodup) (hi : PI X tg iter wi) (ok : BlkOk X.N X.env.scope sc own)
    (hg : ∀ (s : Shared) (H : Hp) (C : Addr) (cl : List (Str × Addr)) (fp : List Addr), PG (X.blk s H sc (blkE X sc cl C) fp) tg g)
    (he : ∀ (pins : List (Addr × Obj)) (σ : L2.St) (s0 : Shared) (H0 : Hp) (C : Addr) (cl : List (Str × Addr)) (fp : List Addr), (∀ pi τ Hn sn, Inv (X.blk s0 H0 sc (blkE X sc cl C) fp) pi τ Hn sn → Inv X pins σ Hn sn) →
      ∀ pi τ Hn sn (Qn : VK), Inv (X.blk s0 H0 sc (blkE X sc cl C) fp) pi τ Hn sn → wipe τ (own.map (·.2)) = wipe σ (own.map (·.2)) → te τ Hn Qn →
        wpAny (model X.prog X.w) X.A (eval elt (blkE X sc cl C)) (EP (X.blk s0 H0 sc (blkE X sc cl C) fp) pi τ Qn) (fun _ _ => False) sn)
    (hs : ∀ x, foldedSetIterable iter X.env x = pure x := by intro _; rfl) : PE X (.ListComp elt [⟨tg, iter, [], 0⟩] sc pos) (tLc wi g tYes te (own.map (·.2))) := by
  constructor
  intro pins s σ H Q I h
  have fr : ∀ y ∈ sc.names, y.2 = .free → ∃ c, X.env.cells.lookup y.1 = some c := fun y hy e =>
    I.ok.has _ (show X.env.kindOf y.1 = some .cell ∨ X.env.kindOf y.1 = some .free from ok.free y hy e)
  rw [eval_ListComp]
  refine wpAny_comprehension_free (use := none) rfl hs (closure_ok fr) ok.kind (fun y hy e => by rw [ok.uniq y hy, e]) (thn (hi.run pins s σ H _ I h) fun xv sa ha => thn ha ?_)
  rintro itv sb ⟨it, fp, tn, J, Hb, rfl, Ib, T, stb, fpb, q⟩
  refine wpAny_newObj_type (newEnv_comp ?_) (by show 0 ≤ sizeLine; decide)
  have nD : Hb sb.heap.objs.size = none := Ib.hok.fresh (Nat.le_refl _)
  obtain ⟨V, ⟨m0, v0⟩, turn⟩ := q _ nD
  have lD : ∀ a o, sb.heap.get? a = some o → (sb.heap.push { cls := .type "list", data := .seq ([] : List Value).toArray }).get? a = some o := fun a o e => Heap.get?_push_of_some _ e
  have Id := Ib.laid (o := .lst []) (a := sb.heap.objs.size) (t' := sb.toks) lD (Nat.le_refl _) ⟨Nat.zero_le _, [], 0, .nil, Heap.get?_push_size _ rfl⟩
  have live : ∀ a ∈ fp, a < sb.heap.objs.size := fun a ha => by
    obtain ⟨o, e, _⟩ := T.obj _ _ stb a ha
    exact Heap.lt_size e
  generalize hsd : ({ sb with heap := sb.heap.push { cls := .type "list", data := .seq ([] : List Value).toArray }, toks := sb.toks } : Shared) = sd at Id
  have esd : sd.heap = sb.heap.push { cls := .type "list", data := .seq ([] : List Value).toArray } := by rw [← hsd]
  generalize hDD : sb.heap.objs.size = D at nD v0 Id turn live
  have fpd : ∀ a ∈ fp, FpOk X pins (upd Hb D (.lst [])) a ∧ a < sd.heap.objs.size := fun a ha =>
    ⟨⟨by rw [upd_ne (Nat.ne_of_lt (live a ha))]; exact (fpb a ha).1, (fpb a ha).2⟩, by rw [esd, Heap.size_push, hDD]; exact Nat.lt_succ_of_lt (live a ha)⟩
  generalize upd Hb D (.lst []) = Hd at v0 Id fpd
  have std : tn 0 sd.heap := T.keep _ _ _ stb fun a _ o e => by rw [esd]; exact lD a o e
  have Ie : Inv (X.blk sd Hd sc (blkE X sc (cellsFrom (sd.heap.objs.size + 1) sc.names (cloFrom X.env.cells sc.names [])) sd.heap.objs.size) fp) [] (wipe σ (own.map (·.2))) Hd { sd with heap := pushCells (sd.heap.push { cls := .type "dict", data := .dict #[] }) sc.names } := block_start Id ok nd fpd
  show codeAny _ _ (.compStart _ 0 (.ref it) (.ref D) (blkE X sc (cellsFrom (sd.heap.objs.size + 1) sc.names (cloFrom X.env.cells sc.names [])) sd.heap.objs.size)) (compPost (model X.prog X.w) X.A X.xe none (EP X pins σ Q) (.ref D) sd.heap.objs.size) { sd with heap := pushCells (sd.heap.push { cls := .type "dict", data := .dict #[] }) sc.names }
  have pg := hg sd Hd sd.heap.objs.size (cellsFrom (sd.heap.objs.size + 1) sc.names (cloFrom X.env.cells sc.names [])) fp
  have pe := he pins σ sd Hd sd.heap.objs.size (cellsFrom (sd.heap.objs.size + 1) sc.names (cloFrom X.env.cells sc.names [])) fp
  generalize hbe : blkE X sc (cellsFrom (sd.heap.objs.size + 1) sc.names (cloFrom X.env.cells sc.names [])) sd.heap.objs.size = be at Ie pg pe ⊢
  have lb : be.locals = sd.heap.objs.size := by rw [← hbe]; rfl
  generalize hse : ({ sd with heap := pushCells (sd.heap.push { cls := .type "dict", data := .dict #[] }) sc.names } : Shared) = se at Ie ⊢
  have ste : tn 0 se.heap := T.keep _ _ _ std fun a _ o e => by rw [← hse]; exact pushCells_keeps _ _ _ _ (Heap.get?_push_of_some _ e)
  -- the def's own state, behind any of the block's
  have back : ∀ pi τ Hn sn, Inv (X.blk sd Hd sc be fp) pi τ Hn sn → Inv X pins σ Hn sn := fun pi τ Hn sn In =>
    Id.call' (ch := fp) In.os In.base In.hok In.bare fun a ha => ⟨(fpd a ha).1.2.2.2.1, (fpd a ha).1.2.1, (fpd a ha).1.2.2.2.2.1, (fpd a ha).1.2.2.2.2.2⟩
  have pe := pe back
  have fpn : ∀ {τ : L2.St} {Hn : Hp} {sn : Shared}, Inv (X.blk sd Hd sc be fp) [] τ Hn sn → (∀ a ∈ fp, Hn a = none) → ∀ a ∈ fp, FpOk (X.blk sd Hd sc be fp) [] Hn a := fun {τ Hn sn} In no a ha =>
    ⟨no a ha, (In.ok.exf a ha).1, In.ok.exfs a ha, .inl ha, fun x c e => (In.ok.exf a ha).2 x c e, fun p hp => nomatch (show p ∈ ([] : List (Addr × Obj)) ++ [] from hp)⟩
  have loop : codeAny (model X.prog X.w) X.A (.compLoop (.ListComp elt [⟨tg, iter, [], 0⟩] sc pos) 0 (.ref it) (.ref D) be) (compPost (model X.prog X.w) X.A X.xe none (EP X pins σ Q) (.ref D) sd.heap.objs.size) se := by
    refine compLoop_any (fun n sn => ∃ i Hn, Inv (X.blk sd Hd sc be fp) [] (wipe σ (own.map (·.2))) Hn sn ∧ tn i sn.heap ∧ (∀ a ∈ fp, Hn a = none) ∧ V i n Hn) ?_ m0 ⟨0, Hd, Ie, ste, fun a ha => (fpd a ha).1.1, v0⟩
    rintro n s5 ⟨i, H5, I5, st5, no5, v5⟩
    rcases turn i n H5 v5 with ⟨stop, fin⟩ | ⟨go, Nx, hNx, step⟩
    · refine thnF (T.done (X.blk sd Hd sc be fp) rfl rfl rfl hc i [] s5 _ H5 (fun _ _ => False) I5 (fpn I5 no5) st5 stop) ?_
      rintro r s6 ⟨rfl, I6⟩
      have I7 := back _ _ _ _ I6
      have nC : H5 sd.heap.objs.size = none := lb ▸ (show H5 be.locals = none from I6.free)
      obtain ⟨m, hn, _⟩ := I6.loc
      have hn : s6.heap.Ns be.locals m := hn
      rw [lb] at hn
      obtain ⟨f0, f1, f2, f3, f4, f5⟩ := Id.fpOk (Nat.le_refl _) nC
      exact ⟨m, hn, fun hh same => ⟨.ref D, H5, I7.turned (t' := s6.toks) (fun a o z e => (same.2 a z).trans e) f0 f1 f3 f4 f5, rfl, fin⟩⟩
    · refine thnF (T.item (X.blk sd Hd sc be fp) rfl rfl rfl hc i [] s5 _ H5 (fun _ _ => False) I5 (fpn I5 no5) st5 go) ?_
      rintro r s6 ⟨u, rfl, h6⟩
      refine thnF h6 ?_
      rintro _ s7 ⟨x, H7, I7, r7, y7, st7, no7⟩
      refine thnF (pg.run _ s7 _ H7 x u _ (I7.pinned (fpn I7 no7) (T.obj _ _ st7)) r7 (step x H7 y7)) ?_
      rintro _ s8 ⟨σ8, H8, I8, w8, q8⟩
      refine thnF (wpAny_tests_nil (Q := fun b sn => b = true ∧ sn = s8) ⟨rfl, rfl⟩) ?_
      rintro _ _ ⟨rfl, rfl⟩
      unfold tYes at q8
      simp only [if_true] at q8 ⊢
      refine thnF (pe _ _ _ _ _ I8 w8 q8) ?_
      rintro z s9 ⟨yv, H9, I9, r9, acc, hD9, z9, nx⟩
      refine app_ok (X := X.blk sd Hd sc be fp) I9 hD9 z9 r9 fun s10 I10 => ?_
      obtain ⟨m', hm, v'⟩ := hNx _ nx
      have pin : ∀ a ∈ fp, ∀ o, s7.heap.get? a = some o → s10.heap.get? a = some o ∧ upd H9 D (.lst (acc ++ [yv])) a = none := fun a ha o e =>
        let z := I10.pin (a, o) (List.mem_append_right _ (List.mem_append_right _ (mem_pinsAt ha e)))
        ⟨z.1, z.2.1⟩
      refine ⟨m', hm, i + 1, _, (I10.unpinned (pins := [])).weak (by rw [← w8, wipe_length]) (fun j v e => ?_), T.keep _ _ _ st7 fun a ha o e => (pin a ha o e).1, fun a ha => ?_, v'⟩
      · rw [← w8] at e
        exact (wipe_some e).1
      · obtain ⟨o, e, _⟩ := T.obj _ _ st7 a ha
        exact (pin a ha o e).2
  exact codeAny_compStart_list loop (T.self X.A 0 _ _ _ ste loop)
end

/-! ### a list of lambdas, each asked -/
/-- a lambda: its parameters, body, names, how many defaults (each 0), what its body reads -/
structure Lm where
  ps : Arguments
  b : Expr
  sc : Scope
  n : Nat
  t : XK → TE
def dvOf : List Addr → Value
  | [] => .none
  | d :: _ => .ref d
/-- what stands of it: itself, its code, its default -/
def lmL (q : Str) (ps : Arguments) (b : Expr) (sc : Scope) (cells : List (Str × Addr)) (f c' : Addr) (ds : List Addr) : List (Addr × HO) :=
  (f, .ext (lmIs q ps b sc (cloFrom cells sc.names []) (dvOf ds) f c')) :: (c', LamX.CodeO c' q) :: ds.map fun d => (d, .tup [.int 0])
def tMk (q : Str) (P : Addr) (cells : List (Str × Addr)) (ps : Arguments) (b : Expr) (sc : Scope) (n : Nat) : TE := fun _ H Q => LamX.TabS H P q ∧ ∀ (f c' : Addr) (ds : List Addr) (H1 : Hp), ds.length = n → LamX.ExtN H H1 → LamX.TabS H1 P q → (∀ a, H a ≠ none → H1 a ≠ none) →
  (∀ p ∈ lmL q ps b sc cells f c' ds, H1 p.1 = some p.2 ∧ (H p.1 = none ∨ H p.1 = some p.2) ∧ ∀ tab, p.2 ≠ .tbl tab) → Q (.ref f) H1
section
variable {X : Cx} {c P : Addr} {ps : Arguments} {b : Expr} {sc : Scope} {pos : Pos}
theorem ext_ne {φ : Heap → Prop} (tab : Array Value) : HO.ext φ ≠ .tbl tab := fun z => nomatch z
theorem pe_mk0 {q : Str} (TB : LamX.TabB X.base X.mg c P) (e3 : X.env.code = .ref c) (L : LamN X.N X.env.scope sc) (hq : X.env.qual ++ "<lambda>" = q := by rfl) (hd : defaultsOf ps X.env = ([], []) := by rfl) : PE X (.Lambda ps b sc pos) (tMk q P X.env.cells ps b sc 0) := by
  subst hq
  constructor
  rintro pins s σ H Q I ⟨hT, h⟩
  refine lm_eval0 hd (lm_make I TB e3 hT (L.cells I.ok) fun f c' H1 s1 I1 x1 x2 x3 x4 x5 x6 x7 => ⟨.ref f, H1, I1, rfl, h f c' [] H1 rfl x1 x2 x7 fun p m => ?_⟩)
  rcases List.mem_cons.mp m with rfl | m
  · exact ⟨x4, .inl x3, ext_ne⟩
  · obtain rfl := List.mem_singleton.mp m
    exact ⟨x5, x6, ext_ne⟩
theorem pe_mk1 {q : Str} {k : Nat} {p : Pos} (TB : LamX.TabB X.base X.mg c P) (e3 : X.env.code = .ref c) (L : LamN X.N X.env.scope sc) (hx : ∀ e s, X.xe e s → X.xe e s := by exact fun _ _ h => h) (hq : X.env.qual ++ "<lambda>" = q := by rfl) (hd : defaultsOf ps X.env = ([eval (.Constant (.int 0) k p) X.env], []) := by rfl) : PE X (.Lambda ps b sc pos) (tMk q P X.env.cells ps b sc 1) := by
  subst hq
  constructor
  rintro pins s σ H Q I ⟨hT, h⟩
  refine lm_eval1 I hd (fun d s0 nd I0 => ?_) fun _ _ z => z
  have k0 : ∀ a o, H a = some o → upd H d (.tup [.int 0]) a = some o := fun a o e => by rw [upd_ne (ne_of_none e nd)]; exact e
  have kN : ∀ a, upd H d (.tup [.int 0]) a = none → H a = none := fun a e => by
    by_cases z : a = d
    · rw [z]; exact nd
    · rwa [upd_ne z] at e
  refine lm_make I0 TB e3 (hT.ext k0) (L.cells I.ok) fun f c' H1 s1 I1 x1 x2 x3 x4 x5 x6 x7 => ⟨.ref f, H1, I1, rfl, h f c' [d] H1 rfl ((LamX.ExtN.of k0).trans x1) x2 (fun a na => x7 a (upd_live na)) fun p m => ?_⟩
  rcases List.mem_cons.mp m with rfl | m
  · exact ⟨x4, .inl (kN _ x3), ext_ne⟩
  rcases List.mem_cons.mp m with rfl | m
  · refine ⟨x5, ?_, ext_ne⟩
    rcases x6 with z | z
    · exact .inl (kN _ z)
    · by_cases e : c' = d
      · rw [e, upd_same] at z; exact nomatch z
      · rw [upd_ne e] at z; exact .inr z
  · obtain rfl := List.mem_singleton.mp m
    exact ⟨x1 _ _ upd_same (fun _ z => nomatch z), .inl nd, fun _ z => (nomatch z)⟩
end
/-- _law_try(x), x a lambda out of ls -/
def tAsk (TT : (XK → Hp → VK → Prop) → Hp → VK → Prop) (q : Str) (cells : List (Str × Addr)) (i : Nat) (vs : List Nat) (ls : List Lm) : TE := fun τ H Q => ∃ m ∈ ls, ∃ (f c' : Addr) (ds : List Addr), ds.length = m.n ∧ τ[i]? = some (some (.ref f)) ∧ H c' = some (LamX.CodeO c' q) ∧
  TT (fun E H' Q' => (∀ p ∈ lmL q m.ps m.b m.sc cells f c' ds, H' p.1 = some p.2) ∧ m.t E (wipe τ vs) H' Q') H Q
inductive Lms (X : Cx) (q : Str) (k : Nat) : List Lm → Prop
  | nil : Lms X q k []
  | cons {ps : Arguments} {b : Expr} {sc : Scope} {n : Nat} {t : XK → TE} {ls : List Lm} : LamN X.N X.env.scope sc → (∀ (ds : List Addr) (H : Hp), ds.length = n → (∀ d ∈ ds, H d = some (.tup [.int 0])) → Bare0 q ps b sc (dvOf ds) H) →
      (∀ (A : Around) (outer : List Env) (s : Shared) (H : Hp) (E : XK) (f c' : Addr), Room k (A.deeper (LamX.lamEnv X sc s.heap.objs.size f c')) → PE (LamX.lamCx X A outer s H E sc f c') b (t E)) → Lms X q k ls → Lms X q k (⟨ps, b, sc, n, t⟩ :: ls)
theorem Lms.get {X : Cx} {q : Str} {k : Nat} {ls : List Lm} (h : Lms X q k ls) {m : Lm} (hm : m ∈ ls) : LamN X.N X.env.scope m.sc ∧ (∀ (ds : List Addr) (H : Hp), ds.length = m.n → (∀ d ∈ ds, H d = some (.tup [.int 0])) → Bare0 q m.ps m.b m.sc (dvOf ds) H) ∧
    ∀ (A : Around) (outer : List Env) (s : Shared) (H : Hp) (E : XK) (f c' : Addr), Room k (A.deeper (LamX.lamEnv X m.sc s.heap.objs.size f c')) → PE (LamX.lamCx X A outer s H E m.sc f c') m.b (m.t E) := by
  induction h with
  | nil => exact nomatch hm
  | cons a1 a2 a3 _ ih =>
    rcases List.mem_cons.mp hm with rfl | hm
    · exact ⟨a1, a2, a3⟩
    · exact ih hm
section
variable {X : Cx}
/-- [x(y) for y in ..], y's the lambdas -/
theorem pe_asks {TT : (XK → Hp → VK → Prop) → Hp → VK → Prop} {x a y q : Str} {g : Addr} {k i : Nat} {pg : Arguments} {bg : List Stmt} {sg sc : Scope} {dV kV doc pm cdv ct oc : Value} {an od : Option Addr} {osl : Array (Option Value)} {Ng : List Str}
    {ls : List Lm} {own : List (Str × Nat)} {wi : TI} {tgt : TG} {tg iter : Expr} {p1 p2 p3 pos : Pos} (hc : X.calm = true) (nd : X.N.Nodup) (hi : PI X tg iter wi) (ok : BlkOk X.N X.env.scope sc own)
    (hg : ∀ (s : Shared) (H : Hp) (C : Addr) (cl : List (Str × Addr)) (fp : List Addr), PG (X.blk s H sc (blkE X sc cl C) fp) tg tgt)
    (gx : ∀ (s : Shared) (H : Hp) (C : Addr) (cl : List (Str × Addr)) (fp : List Addr), Gl (X.blk s H sc (blkE X sc cl C) fp) x) (vy : ∀ (cl : List (Str × Addr)) (C : Addr), Vis (blkE X sc cl C).scope y) (iy : X.N[i]? = some y)
    (hm : X.mg x = some (.ref g)) (hk : PySem.W.keepIn X.K (.ref g) = true)
    (lk : X.K.lookup g = some ⟨oc, od, .func (PySem.W.fnOf x x pg bg sg dV kV doc pm an cdv ct), osl⟩) (hcg : PySem.W.codeIn X.K cdv x = true) (hb : L2.Binds X.K (PySem.W.fnOf x x pg bg sg dV kV doc pm an cdv ct) [a] []) (Sg : FnScope Ng [a] sg) (hNg : Ng[0]? = some a) (hva : Vis sg a)
    (hG : LamX.GivesTo X Ng x sg g cdv bg a q TT) (hq : X.env.qual ++ "<lambda>" = q) (hr : Room (k + 2) X.A) (L : Lms X q k ls)
    (hs : ∀ x, foldedSetIterable iter X.env x = pure x := by intro _; rfl) (hdb : (x == ("__debug__" : Str)) = false := by decide) (hd : (a == ("__debug__" : Str)) = false := by decide) (hcd : (a == ("__classdict__" : Str)) = false := by decide)
    (hd2 : (y == ("__debug__" : Str)) = false := by decide) (hcd2 : (y == ("__classdict__" : Str)) = false := by decide) :
    PE X (.ListComp (.Call (.Name x p1) [.Name y p2] [] p3) [⟨tg, iter, [], 0⟩] sc pos) (tLc wi tgt tYes (tAsk TT q X.env.cells i (own.map (·.2)) ls) (own.map (·.2))) := by
  subst hq
  refine pe_lcI hc nd hi ok hg (fun pins σ s0 H0 C cl fp back pi τ Hn sn Qn J ew h => ?_) hs
  obtain ⟨m, hmem, f, c', ds, hds, h1, h2, h3⟩ := h
  obtain ⟨LN, LB, LE⟩ := L.get hmem
  refine wpAny_Call_Name_kw (ld_glob (X := X.blk s0 H0 sc (blkE X sc cl C) fp) J (gx s0 H0 C cl fp) hm ?_ hdb)
  have ha := (pa_cons (X := X.blk s0 H0 sc (blkE X sc cl C) fp) (pe_var (pos := p2) (i := i) iy (vy cl C) hd2 hcd2) pa_nil).run p3 pi sn τ Hn (fun vs H1 => vs = [.ref f] ∧ H1 = Hn) J ⟨_, h1, rfl, rfl⟩
  refine PySem.W.callWith_K (h₀ := X.base) J.ok.mod.kin hk (thn ha ?_) (by rfl) (by rfl)
  rintro us s1 ⟨vs, H1, J1, rv, rfl, rfl⟩
  refine ⟨J1.kIn, ?_⟩
  cases rv with
  | cons r0 r1 =>
    cases r1
    rename_i u
    obtain rfl : u = Value.ref f := r0
    have IX : Inv X pins (wipe τ (own.map (·.2))) H1 s1 := by
      rw [ew]
      exact (back _ _ _ _ J1).weak (wipe_length σ _) fun j v e => (wipe_some e).1
    have rc : codeAny (model X.prog X.w) X.A (.call (.ref g) ⟨[.ref f], []⟩) (CR C8.CX0 X.stack X.prog X.w H1 s1 Qn C8.E0) s1 := by
      refine LamX.run_ofS (N := Ng) (ps := [a]) (us := [.ref f]) (vs := [.ref f]) lk hcg Sg hr J1.env0 (hb s1 [.ref f] J1.kIn rfl) (.cons rfl .nil) rfl fun hr' => ?_
      have Z := hG f c' s1 H1 Qn (fun E H' Q' => (∀ p ∈ lmL (X.env.qual ++ "<lambda>") m.ps m.b m.sc X.env.cells f c' ds, H' p.1 = some p.2) ∧ m.t E (wipe τ (own.map (·.2))) H' Q') (fun W pn xe E p1 p2 tk hW => by
        have act := lm_act (i := 0) (c' := c') (dv := dvOf ds) (ps := m.ps) (p1 := p1) (p2 := p2) IX LN tk hW hr' (fun A outer s H hr2 => LE A outer s H E f c' hr2) hNg hva hd hcd
        refine ⟨fun pz sz τz Hz Qz Iz hz => act.run pz sz τz Hz Qz Iz ?_⟩
        obtain ⟨z1, z2, z3, z4⟩ := hz
        exact ⟨z1, z2, z3 _ (List.mem_cons_self ..), LB ds Hz hds fun d hd => z3 (d, .tup [.int 0]) (List.mem_cons_of_mem _ (List.mem_cons_of_mem _ (List.mem_map.mpr ⟨d, hd, rfl⟩))), z4⟩) h2 h3
      obtain ⟨t', g1, g2⟩ := Z
      exact ⟨t', g1.nox, g2⟩
    refine wpAny_call (codeAny_mono rc fun r s2 hq => ?_)
    cases r with
    | error e => exact (show False from hq).elim
    | ok fl => cases fl <;> first | exact J1.after hq | exact False.elim hq
end

/-! ### where a lambda is written -/
def stAt (i : Nat) (st : Stmt) : Stmt := (defBody st).getD i (.Pass ⟨0, 0, 0, 0⟩)
def stIn (i : Nat) : Stmt → Stmt
  | .For _ _ b _ _ => b.getD i (.Pass ⟨0, 0, 0, 0⟩)
  | .While _ b _ _ => b.getD i (.Pass ⟨0, 0, 0, 0⟩)
  | .If _ b _ _ => b.getD i (.Pass ⟨0, 0, 0, 0⟩)
  | st => st
def lamAt (j : Nat) : Stmt → Expr
  | .Assign _ (.List es _) _ => es.getD j (.Name "_" ⟨0, 0, 0, 0⟩)
  | _ => .Name "_" ⟨0, 0, 0, 0⟩
def eArgs : Expr → Arguments
  | .Lambda ps _ _ _ => ps
  | _ => ⟨[], [], none, [], [], none, []⟩
def eBody : Expr → Expr
  | .Lambda _ b _ _ => b
  | e => e
def eScope : Expr → Scope
  | .Lambda _ _ sc _ => sc
  | _ => { kind := .function, names := [], isGenerator := false, isCoroutine := false, more := [] }
theorem bareN0 {q : Str} {ps : Arguments} {b : Expr} {sc : Scope} (h : ∀ (cl : List (Str × Addr)) (pm cdv ctv : Value), bindArgs (lmFd q ps b sc cl .none pm cdv ctv) ⟨[], []⟩ = pure []) (ds : List Addr) (H : Hp) (hl : ds.length = 0) (_ : ∀ d ∈ ds, H d = some (.tup [.int 0])) : Bare0 q ps b sc (dvOf ds) H := by
  cases ds with
  | nil => exact bare_none h
  | cons d ds => exact nomatch hl
theorem bareN1 {q x : Str} {ps : Arguments} {b : Expr} {sc : Scope} (hx : sc.names.lookup x = some .local) (h : ∀ (d : Addr) (cl : List (Str × Addr)) (pm cdv ctv u : Value), ∃ k, bindArgs (lmFd q ps b sc cl (.ref d) pm cdv ctv) ⟨[], []⟩ = seqItems? (.ref d) >>= k ∧ k (some #[u]) = pure [(x, u)])
    (ds : List Addr) (H : Hp) (hl : ds.length = 1) (hd : ∀ d ∈ ds, H d = some (.tup [.int 0])) : Bare0 q ps b sc (dvOf ds) H := by
  match ds, hl with
  | [d], _ => exact bare_int (hd d (List.mem_cons_self ..)) hx (h d)
/-- what is never reached -/
theorem pss_none {X : Cx} {st : List Stmt} : PSs X st (fun _ _ _ => False) := ⟨fun _ _ _ _ _ _ h => h.elim⟩
theorem as_T {c : Bool} {x y : Prop} (h : c = true) (q : x) : if c = true then x else y := by rw [h]; exact q
theorem as_F {c : Bool} {x y : Prop} (h : c = false) (q : y) : if c = true then x else y := by rw [h]; exact q
/-- one number of a list -/
theorem pickZ {zs : List Int} {p : D → Prop} (lo hi : Int) (hb : ∀ z ∈ zs, lo ≤ z ∧ z ≤ hi) (h : ∀ z, lo ≤ z → z ≤ hi → p (.int z)) (i : Nat) (d : D) (e : (zs.map D.int)[i]? = some d) : p d := by
  rw [List.getElem?_map] at e
  cases e2 : zs[i]? with
  | none => rw [e2] at e; exact nomatch e
  | some z =>
    rw [e2] at e
    cases e
    exact h z (hb z (List.mem_of_getElem? e2)).1 (hb z (List.mem_of_getElem? e2)).2
theorem bd4 {a b c d lo hi : Int} (h1 : lo ≤ a ∧ a ≤ hi) (h2 : lo ≤ b ∧ b ≤ hi) (h3 : lo ≤ c ∧ c ≤ hi) (h4 : lo ≤ d ∧ d ≤ hi) : ∀ z ∈ [a, b, c, d], lo ≤ z ∧ z ≤ hi := fun z m => by
  simp only [List.mem_cons, List.not_mem_nil, or_false] at m
  rcases m with rfl | rfl | rfl | rfl <;> assumption
theorem bd3 {a b c lo hi : Int} (h1 : lo ≤ a ∧ a ≤ hi) (h2 : lo ≤ b ∧ b ≤ hi) (h3 : lo ≤ c ∧ c ≤ hi) : ∀ z ∈ [a, b, c], lo ≤ z ∧ z ≤ hi := fun z m => by
  simp only [List.mem_cons, List.not_mem_nil, or_false] at m
  rcases m with rfl | rfl | rfl <;> assumption

/-! ### x(lambda a=0: body) -/
section
variable {X : Cx}
theorem pe_lamcall1 {TT : (XK → Hp → VK → Prop) → Hp → VK → Prop} {x a z q : Str} {g c P : Addr} {k j : Nat} {pg ps : Arguments} {bg : List Stmt} {sg sc : Scope} {dV kV doc pm cdv ct oc : Value} {an od : Option Addr} {osl : Array (Option Value)} {Ng : List Str} {b : Expr} {t : XK → TE} {p lp pos kp : Pos}
    (gx : Gl X x) (hm : X.mg x = some (.ref g)) (hk : PySem.W.keepIn X.K (.ref g) = true)
    (lk : X.K.lookup g = some ⟨oc, od, .func (PySem.W.fnOf x x pg bg sg dV kV doc pm an cdv ct), osl⟩) (hcg : PySem.W.codeIn X.K cdv x = true) (hb : L2.Binds X.K (PySem.W.fnOf x x pg bg sg dV kV doc pm an cdv ct) [a] []) (Sg : FnScope Ng [a] sg) (hNg : Ng[0]? = some a) (hva : Vis sg a)
    (hG : LamX.GivesTo X Ng x sg g cdv bg a q TT) (hTT : ∀ (tl : XK → Hp → VK → Prop) (cd : Hp → Prop) (H : Hp) (Q : VK), TT tl H Q → cd H → TT (fun E H' Q' => cd H' ∧ tl E H' Q') H Q)
    (TB : LamX.TabB X.base X.mg c P) (e3 : X.env.code = .ref c) (hq : X.env.qual ++ "<lambda>" = q) (hr : Room (k + 2) X.A) (L : LamN X.N X.env.scope sc)
    (hz : sc.names.lookup z = some .local) (bz : ∀ (d : Addr) (cl : List (Str × Addr)) (pm cdv ctv u : Value), ∃ k, bindArgs (lmFd q ps b sc cl (.ref d) pm cdv ctv) ⟨[], []⟩ = seqItems? (.ref d) >>= k ∧ k (some #[u]) = pure [(z, u)])
    (hbody : ∀ (A : Around) (outer : List Env) (s : Shared) (H : Hp) (E : XK) (f c' : Addr), Room k (A.deeper (LamX.lamEnv X sc s.heap.objs.size f c')) → PE (LamX.lamCx X A outer s H E sc f c') b (t E))
    (hdf : defaultsOf ps X.env = ([eval (.Constant (.int 0) j kp) X.env], []) := by rfl) (hdb : (x == ("__debug__" : Str)) = false := by decide) (hd : (a == ("__debug__" : Str)) = false := by decide) (hcd : (a == ("__classdict__" : Str)) = false := by decide) :
    PE X (.Call (.Name x p) [.Lambda ps b sc lp] [] pos) (LamX.tLam [(P, q)] TT t) := by
  subst hq
  constructor
  rintro pins s σ H Q I ⟨hT, h⟩
  have hT := hT _ (List.mem_singleton.mpr rfl)
  refine wpAny_Call_Name_kw (ld_glob I gx hm ?_ hdb)
  refine PySem.W.callWith_K (h₀ := X.base) I.ok.mod.kin hk ?_ (by rfl) (by rfl)
  show wpAny _ _ (spliced ((false, eval (.Lambda ps b sc lp) X.env) :: backTo pos (starEach [] X.env))) _ _ s
  refine Calls.spliced_cons (lm_eval1 I hdf (fun d s0 nd I0 => ?_) fun _ _ z => z)
  have k0 : ∀ a o, H a = some o → upd H d (.tup [.int 0]) a = some o := fun a o e => by rw [upd_ne (ne_of_none e nd)]; exact e
  refine lm_make I0 TB e3 (hT.ext k0) (L.cells I.ok) fun f c' H1 s1 I1 x1 x2 x3 x4 x5 x6 x7 => ?_
  refine Calls.spliced_nil ⟨I1.kIn, ?_⟩
  have hd1 : H1 d = some (.tup [.int 0]) := x1 _ _ upd_same fun _ z => nomatch z
  have hTT1 := hTT _ (fun H' => H' f = some (.ext (lmIs (X.env.qual ++ "<lambda>") ps b sc (cloFrom X.env.cells sc.names []) (.ref d) f c')) ∧ H' d = some (.tup [.int 0])) H1 Q (h H1 ((LamX.ExtN.of k0).trans x1) fun y hy => by rw [List.mem_singleton.mp hy]; exact x2) ⟨x4, hd1⟩
  have rc : codeAny (model X.prog X.w) X.A (.call (.ref g) ⟨[.ref f], []⟩) (CR C8.CX0 X.stack X.prog X.w H1 s1 Q C8.E0) s1 := by
    refine LamX.run_ofS (N := Ng) (ps := [a]) (us := [.ref f]) (vs := [.ref f]) lk hcg Sg hr I1.env0 (hb s1 [.ref f] I1.kIn rfl) (.cons rfl .nil) rfl fun hr' => ?_
    have Z := hG f c' s1 H1 Q _ (fun W pn xe E p1 p2 tk hW => by
      have act := lm_act (i := 0) (c' := c') (dv := .ref d) (ps := ps) (p1 := p1) (p2 := p2) I1 L tk hW hr' (fun A outer s H hr2 => hbody A outer s H E f c' hr2) hNg hva hd hcd
      refine ⟨fun pz sz τz Hz Qz Iz hz' => act.run pz sz τz Hz Qz Iz ?_⟩
      obtain ⟨z1, z2, z3, z4⟩ := hz'
      exact ⟨z1, z2, z3.1, bare_int z3.2 hz (bz d), z4⟩) x5 hTT1
    obtain ⟨t', g1, g2⟩ := Z
    exact ⟨t', g1.nox, g2⟩
  refine wpAny_call (codeAny_mono rc fun r s2 hq => ?_)
  cases r with
  | error e => exact (show False from hq).elim
  | ok fl => cases fl <;> first | exact I1.after hq | exact False.elim hq
end

/-! ### o.m(k = v, ..) -/
section
variable {X : Cx} {CX : CXT} {k : Nat} {C f : Addr} {fd : FuncData} {ns ks : List Str} {sp : Sp} {E : XK} {m : Str} {o : Expr} {kws : List Keyword} {ta : TE} {tk : TA} {apos pos : Pos} {pl : Sem Bool} {g : List Value → List Value → List Value} {gV : List V → List V → List V}
theorem pe_methK0 (he : PE X o ta) (c : Cls X.K C) (hm : Meth X.K C m f) (F : FnOk X.prog X.w X.K X.mg X.base CX k f fd ns sp) (hr : Room k X.A) (hb : KBinds X.K fd ns ks g gV) (hx : Passes CX X E) (hkw : PK X kws tk)
    (hall : (backToKw pos (keywordEach kws X.env)).all (·.1.isSome) = true := by rfl) (hks : (backToKw pos (keywordEach kws X.env)).filterMap (·.1) = ks := by rfl)
    (hpl : ((backTo pos (starEach [] X.env)).any (·.1) || (backToKw pos (keywordEach kws X.env)).any (·.1.isNone)) = false := by rfl)
    (ht : eval (.Call (.Attribute o m apos) [] kws pos) X.env = (do
      let w ← eval o X.env
      standAt apos.atName
      let (h, one) ← holding [w] (getMethod w m pl)
      callWith pos h one (backTo pos (starEach [] X.env)) (backToKw pos (keywordEach kws X.env))) := by rfl) :
    PE X (.Call (.Attribute o m apos) [] kws pos) (tCallK sp gV E (tRecv C m ta tNil) tk) := by
  constructor
  intro pins s σ H Q I h
  refine PySem.W.methodCall_KW (pl := pl) (thn (he.run pins s σ H _ I h) ?_) ht
  rintro u s1 ⟨x, H1, I1, rx, a, dx, fs, rfl, ea, l, q⟩
  obtain rfl : u = Value.ref a := rx
  refine getmeth_ok I1 ea c hm l ?_
  have q : tk σ H1 _ := q
  refine PySem.W.callWith_KW0 (first := [.ref a]) (h₀ := X.base) I.ok.mod.kin hm.kp hall (thn (hkw.run pos pins s1 σ H1 _ I1 q) ?_) hpl
  rintro ws s2 ⟨zs, H2, I2, rz, q2⟩
  refine ⟨I2.kIn, ?_⟩
  rw [hks, List.append_nil]
  exact run_fnk (us := [.ref a]) (vs := [.ref a]) F hr hb hx I2 (.cons rfl .nil) rz q2
end

/-! ### more of texts, of defaults, of dicts that are written -/
section
variable {K : PySem.W.Frag}
@[reducible] def asC : D → (Nat → Prop) → Prop
  | .str ⟨#[c]⟩, k => k c
  | _, _ => False
theorem at_C {O : Ads} {H : Hp} {v : V} {d : D} {k : Nat → Prop} (a : At K O H v d) (h : asC d k) : ∃ c, v = .str ⟨#[c]⟩ ∧ d = .str ⟨#[c]⟩ ∧ k c := by
  cases a with
  | str z =>
    obtain ⟨⟨l⟩⟩ := z
    match l, h with
    | [c], h => exact ⟨c, rfl, rfl, h⟩
  | _ => exact h.elim
instance opd_ixS : OpD K rIxS (fun d e P => asS d fun z => asI e fun i => z.length ≤ sizeLine ∧ ∃ c, atI z.cps.toList i = some c ∧ P (.str ⟨#[c]⟩)) := ⟨fun O H x y d e Q P a b h _ q => by
  obtain ⟨z, rfl, rfl, h⟩ := at_str a h
  obtain ⟨i, rfl, rfl, h1, c, h2, h3⟩ := at_int b h
  exact ⟨z, i, c, rfl, rfl, h1, h2, q _ _ _ h3 (Same.refl H) (.str _)⟩⟩
instance opd_inSg : OpD K rInSg (fun d e P => asC d fun c => asS e fun z => P (.bl (decide (c ∈ z.cps.toList)))) := ⟨fun O H x y d e Q P a b h _ q => by
  obtain ⟨c, rfl, rfl, h⟩ := at_C a h
  obtain ⟨z, rfl, rfl, h⟩ := at_str b h
  exact ⟨c, z, rfl, rfl, q _ _ _ h (Same.refl H) (.bl _)⟩⟩
instance opd_notInSg : OpD K rNotInSg (fun d e P => asC d fun c => asS e fun z => P (.bl (!decide (c ∈ z.cps.toList)))) := ⟨fun O H x y d e Q P a b h _ q => by
  obtain ⟨c, rfl, rfl, h⟩ := at_C a h
  obtain ⟨z, rfl, rfl, h⟩ := at_str b h
  exact ⟨c, z, rfl, rfl, q _ _ _ h (Same.refl H) (.bl _)⟩⟩
instance opd_inD : OpD K (rInD K) (fun d e P => asL e fun l => d.pure = true ∧ pures l = true ∧ SeqAt.shaped d.py = true ∧ SeqAt.shaped (.list (pys l)) = true ∧ P (.bl ((pys l).any fun z => PyData.eqv z d.py))) := ⟨fun O H x y d e Q P a b h _ q => by
  obtain ⟨p, xs, l, rfl, rfl, g1, g2, g3, h1, h2, h3, h4, h5⟩ := at_L b h
  exact ⟨_, _, a.dp h1, .lst (SqL.of g1) (g3.dp h2), h3, h4, q _ _ _ h5 (Same.refl H) (.bl _)⟩⟩
instance opd_notInD : OpD K (rNotInD K) (fun d e P => asL e fun l => d.pure = true ∧ pures l = true ∧ SeqAt.shaped d.py = true ∧ SeqAt.shaped (.list (pys l)) = true ∧ P (.bl (!(pys l).any fun z => PyData.eqv z d.py))) := ⟨fun O H x y d e Q P a b h _ q => by
  obtain ⟨p, xs, l, rfl, rfl, g1, g2, g3, h1, h2, h3, h4, h5⟩ := at_L b h
  exact ⟨_, _, a.dp h1, .lst (SqL.of g1) (g3.dp h2), h3, h4, q _ _ _ h5 (Same.refl H) (.bl _)⟩⟩
end
theorem k_inD {K : PySem.W.Frag} {X : Cx} (hu : X.A.units + 65 < cLine) (h : X.K = K := by rfl) : OpR X (compareOp .In) (rInD K) := h ▸ op_inD hu
theorem units65 {k : Nat} {A : Around} (r : Room k A) : A.units + 65 < cLine := by have := r.un; omega
theorem k_notInD {K : PySem.W.Frag} {X : Cx} (hu : X.A.units + 65 < cLine) (h : X.K = K := by rfl) : OpR X (compareOp .NotIn) (rNotInD K) := h ▸ op_notInD hu
theorem hu_of {k : Nat} {A : Around} (r : Room k A) : A.units + 1 < cLine := by have := r.un; omega
section
variable {K : PySem.W.Frag} {C : Cz} {ρ : List Sl} {te : TE}
/-- the signs of a text -/
def signs (z : Str) : List D := z.cps.toList.map fun c => .str ⟨#[c]⟩
theorem signs_len (z : Str) : (signs z).length = z.cps.size := by unfold signs; simp
theorem signs_get {z : Str} {i : Nat} {d : D} (h : (signs z)[i]? = some d) : ∃ c, z.cps.toList[i]? = some c ∧ d = .str ⟨#[c]⟩ := by
  unfold signs at h
  rw [List.getElem?_map] at h
  cases e : z.cps.toList[i]? with
  | none => rw [e] at h; cases h
  | some c => rw [e] at h; cases h; exact ⟨c, rfl, rfl⟩
theorem walks_str {z : Str} : Walks K (Its z) [] [] (signs z) := fun O H h => by
  rw [signs_len]
  refine ⟨fun i hi => hi, Nat.le_refl _, fun i x H' hi y => ?_⟩
  obtain ⟨rfl, c, hc, rfl⟩ := y
  refine ⟨.str ⟨#[c]⟩, ?_, Same.refl _, fun _ => .str _⟩
  unfold signs
  rw [List.getElem?_map, Array.getElem?_toList, hc]
  rfl
theorem evi_str {P : List D → Prop} (h : Ev K C te ρ fun d => asS d fun z => P (signs z)) : EvI K C (iStr te) ρ P := fun σ H R s k => h σ H _ s fun d v H1 q s1 f1 a1 => by
  obtain ⟨z, rfl, rfl, q⟩ := at_str a1 q
  exact ⟨z, rfl, k _ _ H1 [] [] q s1 f1 .nil walks_str⟩
/-- {"k": "v", "l": "w"}[e] -/
theorem ev_dsel {P : D → Prop} {k1 v1 k2 v2 : Str} (h12 : k1 ≠ k2) (h : Ev K C te ρ fun d => asS d fun z => (z = k1 ∧ P (.str v1)) ∨ (z = k2 ∧ P (.str v2))) :
    Ev K C (tDGet (tDisp [(tC (.str k1), tC (.str v1)), (tC (.str k2), tC (.str v2))]) te) ρ P := fun σ H Q s k => by
  intro p np
  refine ⟨upd_same, [(Sum.inr k1, .str v1), (Sum.inr k2, .str v2)], rfl, by show (2 : Nat) ≤ 15; decide, ?_⟩
  rw [upd_upd]
  have e : Same H (upd H p (.dK (mergeK [] [(Sum.inr k1, .str v1), (Sum.inr k2, .str v2)]))) := same_upd np
  have s1 := s.same e
  have npb : p ∉ Bs C := fun m => s.free np (by
    obtain ⟨q, hq, rfl⟩ := List.mem_map.mp m
    exact List.mem_append_left _ (s.bg q hq).2.1)
  refine h σ _ _ s1 fun d v H1 q s2 f2 a => ?_
  obtain ⟨z, rfl, rfl, q⟩ := at_str a q
  have hp : H1 p = some (.dK (mergeK [] [(Sum.inr k1, .str v1), (Sum.inr k2, .str v2)])) := f2 p _ npb upd_same fun _ z => nomatch z
  have hm : mergeK [] [(Sum.inr k1, V.str v1), (Sum.inr k2, .str v2)] = [(Sum.inr k1, .str v1), (Sum.inr k2, .str v2)] := by
    simp [mergeK, putK, h12]
  rw [hm] at hp
  rcases q with ⟨rfl, g⟩ | ⟨rfl, g⟩
  · exact ⟨p, .str v1, rfl, .inl ⟨_, Sum.inr z, .inl hp, rfl, by simp [valV]⟩, k _ _ _ g s2 ((Fr.of e).trans f2) (.str _)⟩
  · exact ⟨p, .str v2, rfl, .inl ⟨_, Sum.inr z, .inl hp, rfl, by simp [valV, h12]⟩, k _ _ _ g s2 ((Fr.of e).trans f2) (.str _)⟩
/-- a call that leaves a number to the default -/
theorem ev_callD {P : D → Prop} {ta : TA} {S : Sd} {E : XK} {i : Int} (h : EvA K C ta ρ fun ds => S [] (ds ++ [.int i]) (okP P)) : Ev K C (tCall (spD K S) [.int i] E ta) ρ P :=
  call_core (bs := []) (dds := [.int i]) (fun _ m => nomatch m) (fun _ _ => .one (.int i)) (fun _ p => p) (fun _ p => False.elim p) h
end
section
variable {P : Program} {w : World} {K : PySem.W.Frag} {mg : Str → Option Value} {base : Heap}
/-- a def with defaults -/
theorem okDF {x qual : Str} {params : Arguments} {body : List Stmt} {scope : Scope} {dvs : List V} {kws : List (Str × V)} {f : Addr} {fd : FuncData} {N ps : List Str} {k : Nat} {S : Sd} (F : FunD K x qual params body scope dvs kws f fd) (sc : FnScope N ps scope) (len : ∀ bs ds Pq, S bs ds Pq → ds.length = ps.length)
    (hbody : ∀ (cdv : Value) (A : Around) (outer : List Env) (s : Shared) (H : Hp) (E : XK), Room k (A.deeper (envOfC qual scope s.heap.objs.size f cdv)) →
      ∃ t, PSs (cxOf CX0 P w K mg base N qual scope f cdv A outer s H E).nox body t ∧ ∀ (C : Cz) (ds : List D) (Pq : Rs → Prop), C.E = E → (∀ x, Pq (.er x) → C.X x) → S C.bags ds Pq → Run K C t (slots N.length ds) (endP Pq)) : FnOk P w K mg base CX0 (k + 1) f fd ps (spD K S) :=
  F.ok sc (fun vs H Q E h => sp_len len h) fun cdv A outer s H vs Q E hr h => by
    obtain ⟨t, h1, h2⟩ := hbody cdv A outer s H E hr
    exact ⟨t, h1.nox, run_of h h2⟩
end
theorem iteC2 {c : Bool} {A B : Prop} (h1 : c = true → A) (h2 : c = false → B) : if c = true then A else B := by
  cases c
  · exact h2 rfl
  · exact h1 rfl
/-! ### a test that is passed; a name that is stored or not -/
section
variable {K : PySem.W.Frag} {C : Cz} {ρ : List Sl} {PO : Out → Prop} {c : TT} {a : TS} {te : TE} {i : Nat}
theorem evt_mono {PB PB' : Bool → Prop} (h : EvT K C c ρ PB) (k : ∀ b, PB b → PB' b) : EvT K C c ρ PB' := fun σ H Q s q => h σ H Q s fun b H' p => q b H' (k b p)
theorem run_chk (h : EvT K C c ρ fun x => x = false) (k : PO (.nx ρ)) : Run K C (tIfS c a tNext) ρ PO :=
  run_if (evt_mono h fun b hb => by
    subst hb
    exact run_next k)
theorem run_upd {b : Prop} [Decidable b] {v w : D} (hw : ρ[i]? = some (.val w)) (h : EvT K C c ρ fun x => x = decide b ∧ (b → Ev K C te ρ fun d => d = v)) (k : PO (.nx (ρ.set i (.val (if b then v else w))))) : Run K C (tIfS c (tAsg te (gName i)) tNext) ρ PO :=
  run_if (evt_mono h fun x hx => by
    obtain ⟨rfl, hx⟩ := hx
    by_cases hb : b
    · rw [decide_eq_true hb]
      rw [if_pos hb] at k
      exact run_set (ev_mono (hx hb) fun d hd => by rw [hd]; exact k)
    · rw [decide_eq_false hb]
      rw [if_neg hb, set_self hw] at k
      exact run_next k)
/-- a value that is settled -/
theorem ev_to {d : D} {P : D → Prop} (h : Ev K C te ρ fun x => x = d) (k : P d) : Ev K C te ρ P := ev_mono h fun x hx => by rw [hx]; exact k
theorem run_to (h : ∀ {Q : Out → Prop}, Q (.nx ρ) → Run K C a ρ Q) (k : PO (.nx ρ)) : Run K C a ρ PO := h k
end

section
variable {K : PySem.W.Frag} {C : Cz} {ρ : List Sl}
/-- a loop over items that are known, one turn after another -/
def Unr (K : PySem.W.Frag) (C : Cz) (g : TG) (tb : TS) (P : Out → Prop) : List D → List Sl → Prop
  | [], ρ => P (.nx ρ)
  | d :: r, ρ => ∀ (hv : List V) (hd : List D), EvX K (C.hold hv hd) g d ρ fun ρ2 => Run K (C.hold hv hd) tb ρ2 (loopP (fun ρ3 => Unr K C g tb P r ρ3) P)
theorem forU {items : List D} {g : TG} {tb : TS} {P : Out → Prop} (h : Unr K C g tb P items ρ) :
    ∃ I : Nat → List Sl → Prop, I 0 ρ ∧ (∀ hv hd i d ρ', items[i]? = some d → I i ρ' → EvX K (C.hold hv hd) g d ρ' fun ρ2 => Run K (C.hold hv hd) tb ρ2 (loopP (I (i + 1)) P)) ∧ ∀ ρ', I items.length ρ' → P (.nx ρ') :=
  ⟨fun i ρ' => Unr K C g tb P (items.drop i) ρ', h, fun hv hd i d ρ' e hI => by
    obtain ⟨hi, rfl⟩ := List.getElem?_eq_some_iff.mp e
    dsimp only at hI
    rw [List.drop_eq_getElem_cons hi] at hI
    exact hI hv hd, fun ρ' hI => by
    dsimp only at hI
    rw [List.drop_length] at hI
    exact hI⟩
end

/-! ### zip of a tuple and a list -/
/-- as they stand at each turn; each pair is new -/
def ItzM (K : PySem.W.Frag) (a b : Addr) : It :=
  ⟨fun i H => ∃ (xs ys : List V) (x y : V), SqT K H a xs ∧ SqL K H b ys ∧ xs[i]? = some x ∧ ys[i]? = some y,
    fun i H v H' => ∃ T x y, v = .ref T ∧ H T = none ∧ H' = upd H T (.tup [x, y]) ∧ (∀ xs, SqT K H a xs → xs[i]? = some x) ∧ ∀ ys, SqL K H b ys → ys[i]? = some y,
    fun i H => ∃ xs ys : List V, SqT K H a xs ∧ SqL K H b ys ∧ i = min xs.length ys.length⟩
theorem turn_zipM {P : Program} {w : World} {K : PySem.W.Frag} {elts : List Expr} {kk : Nat} {tpos : Pos} {a b z TI TO i1 i2 : Addr} (S : ZipSep2 z TI TO i1 i2 [i1, a] [i2, b]) (n1 : a ≠ i1) (n2 : b ≠ i2) :
    Turn P w K (.Tuple elts kk tpos) (ItzM K a b) [z, TI, TO, i1, i2] z (fun i h => IsZip h z TI TO .none ∧ IsTupOf2 h TI (.ref i1) (.ref i2) ∧ (∃ x y, IsTupOf2 h TO x y) ∧ h.IsTupleIter i1 a i ∧ h.IsListIter i2 b i) where
  mem := by simp
  obj := fun i h st c hc => by
    obtain ⟨hz, hTI, ⟨x, y, hTO⟩, ⟨o1, e1, _, d1⟩, ⟨o2, e2, _, d2⟩⟩ := st
    have e' : c = z ∨ c = TI ∨ c = TO ∨ c = i1 ∨ c = i2 := by simpa using hc
    rcases e' with rfl | rfl | rfl | rfl | rfl
    · exact ⟨_, hz, fun v q => nomatch q⟩
    · exact ⟨_, hTI, fun v q => nomatch q⟩
    · exact ⟨_, hTO, fun v q => nomatch q⟩
    · exact ⟨o1, e1, fun v q => by rw [d1] at q; cases q⟩
    · exact ⟨o2, e2, fun v q => by rw [d2] at q; cases q⟩
  keep := fun i h h' st k => by
    obtain ⟨hz, hTI, ⟨x, y, hTO⟩, h1, h2⟩ := st
    exact ⟨k z (by simp) _ hz, k TI (by simp) _ hTI, ⟨x, y, k TO (by simp) _ hTO⟩, h1.at fun o q => k i1 (by simp) o q, h2.at fun o q => k i2 (by simp) o q⟩
  item := by
    intro X hP hw hK hc i pins s σ H E I hf st hg
    subst hP hw hK
    obtain ⟨hz, hTI, ⟨x0, y0, hTO⟩, h1, h2⟩ := st
    obtain ⟨xs, ys, x, y, hqx, hqy, hx, hy⟩ := hg
    obtain ⟨its, rv, p, _⟩ := I.tuple hqx
    obtain ⟨its2, rv2, p2, _⟩ := I.list hqy
    have D1 := Draws.tuple (prog := X.prog) (w := X.w) (A := X.A.in1) (I.ok.hd hc) i1 a n1 its.toArray
    have D2 := Draws.list (prog := X.prog) (w := X.w) (A := X.A.in1) (I.ok.hd hc) i2 b n2 its2.toArray
    obtain ⟨u, hu, ru⟩ := rv.get hx
    obtain ⟨u2, hu2, ru2⟩ := rv2.get hy
    have l1 := (List.getElem?_eq_some_iff.mp hu).1
    have l2 := (List.getElem?_eq_some_iff.mp hu2).1
    have hzl : z < s.heap.objs.size := Heap.lt_size hz
    refine wpAny_pyNext_zipD2_item S D1 D2 hz hTI hTO ⟨h1, p⟩ ⟨h2, p2.isList⟩ (by simpa using l1) (by simpa using l2) fun v1 v2 h' tk g1 g2 z' TO' s1 s2 hT hsz hk => ?_
    have e1 : u = v1 := by
      have g : its[i]? = some v1 := by simpa using g1
      rw [hu] at g
      exact Option.some.inj g
    have e2 : u2 = v2 := by
      have g : its2[i]? = some v2 := by simpa using g2
      rw [hu2] at g
      exact Option.some.inj g
    subst e1 e2
    refine ⟨_, rfl, wpAny_letOwnedTupleGo_zip (s := { s with heap := h', toks := tk }) z' fun h'' z'' sb => ?_⟩
    have hT2 : h''.get? s.heap.objs.size = some { cls := .type "tuple", data := .seq #[u, u2] } := (sb.2 _ (Nat.ne_of_gt hzl)).trans hT
    have new : ObjOk X.prog X.w (upd H s.heap.objs.size (.tup [x, y])) h'' s.heap.objs.size (.tup [x, y]) :=
      ⟨by show 2 ≤ sizeLine; decide, [u, u2], .cons ru (.cons ru2 .nil), ⟨_, hT2, rfl, _, rfl⟩⟩
    have I1 : Inv X pins σ (upd H s.heap.objs.size (.tup [x, y])) { s with heap := h'', toks := tk } :=
      I.turnedNew (t' := tk) (ch := [z, TI, TO, i1, i2]) (fun c o hb q => (sb.2 c (fun q' => hb (by simp [q']))).trans (hk c o (fun q' => hb (by simp [q'])) (fun q' => hb (by simp [q'])) (fun q' => hb (by simp [q'])) (fun q' => hb (by simp [q'])) q)) hf (Nat.le_refl _) new
    refine ⟨.ref s.heap.objs.size, _, I1, rfl, ⟨_, x, y, rfl, I.hok.fresh (Nat.le_refl _), rfl, fun l hl => by rw [I.tuple_inj hl hqx]; exact hx, fun l hl => by rw [I.list_inj hl hqy]; exact hy⟩, ⟨z'', ?_, ⟨u, u2, ?_⟩, ?_, ?_⟩, fun c hcm => ?_⟩
    · exact (sb.2 _ S.TIz).trans (hk _ _ S.TIz S.TITO S.TIi1 S.TIi2 hTI)
    · exact (sb.2 _ S.TOz).trans TO'
    · exact s1.1.at fun o q => (sb.2 _ (Ne.symm S.zi1)).trans q
    · exact s2.1.at fun o q => (sb.2 _ (Ne.symm S.zi2)).trans q
    · have hlt : c < s.heap.objs.size := by
        have e' : c = z ∨ c = TI ∨ c = TO ∨ c = i1 ∨ c = i2 := by simpa using hcm
        rcases e' with rfl | rfl | rfl | rfl | rfl
        · exact hzl
        · exact Heap.lt_size hTI
        · exact Heap.lt_size hTO
        · obtain ⟨_, e1, _⟩ := h1; exact Heap.lt_size e1
        · obtain ⟨_, e2, _⟩ := h2; exact Heap.lt_size e2
      rw [upd_ne (Nat.ne_of_lt hlt)]
      exact (hf c hcm).1
  done := by
    intro X hP hw hK hc i pins s σ H E I hf st hg
    subst hP hw hK
    obtain ⟨hz, hTI, ⟨x0, y0, hTO⟩, h1, h2⟩ := st
    obtain ⟨xs, ys, hqx, hqy, hend⟩ := hg
    obtain ⟨its, rv, p, _⟩ := I.tuple hqx
    obtain ⟨its2, rv2, p2, _⟩ := I.list hqy
    have D1 := Draws.tuple (prog := X.prog) (w := X.w) (A := X.A.in1) (I.ok.hd hc) i1 a n1 its.toArray
    have D2 := Draws.list (prog := X.prog) (w := X.w) (A := X.A.in1) (I.ok.hd hc) i2 b n2 its2.toArray
    have l1 := rv.length
    have l2 := rv2.length
    have z1 : its.toArray.size = its.length := by simp
    have z2 : its2.toArray.size = its2.length := by simp
    exact wpAny_pyNext_zipD2_end S D1 D2 hz hTI hTO ⟨h1, p⟩ ⟨h2, p2.isList⟩ (by omega) (by omega) (by omega) fun h' tk hk => ⟨rfl, I.turnedL (t' := tk) (ch := [z, TI, TO, i1, i2]) (fun c o hb q =>
      hk c o (fun q' => hb (by simp [q'])) (fun q' => hb (by simp [q'])) (fun q' => hb (by simp [q'])) (fun q' => hb (by simp [q'])) q) hf⟩
  self := fun A i s Q E st h => wpAny_pyIter_zip st.1 h
def iZipM (K : PySem.W.Frag) (ta : TA) : TI := fun σ H R => ta σ H fun vs H1 => ∃ a b xs ys, vs = [.ref a, .ref b] ∧ SqT K H1 a xs ∧ SqL K H1 b ys ∧ R (ItzM K a b) H1
theorem pi_zipM {X : Cx} {e e2 : Expr} {ta : TA} {p pos tpos : Pos} {elts : List Expr} {kk : Nat} (hg : Gl X "zip") (hm : X.mg "zip" = none) (ha : PA X [e, e2] ta)
    (hs : starEach [e, e2] X.env = (false, eval e X.env) :: starEach [e2] X.env := by rfl) (hpl : (backTo pos (starEach [e2] X.env)).any (·.1) = false := by rfl) :
    PI X (.Tuple elts kk tpos) (.Call (.Name "zip" p) [e, e2] [] pos) (iZipM X.K ta) := by
  refine ⟨fun pins s σ H R I h => ?_⟩
  refine Call_ (ld_blt I hg hm PyProof.Rows.boot_zip (PyProof.Rows.callWith_type1 (thn (ha.run pos pins s σ H _ I h) fun us s1 ⟨vs, H1, I1, r1, q1⟩ => ?_) hs hpl))
  obtain ⟨a, b, xs, ys, ex, hqx, hqy, q⟩ := q1
  subst ex
  cases r1 with
  | cons r rr =>
    cases rr with
    | cons r' rr =>
      cases rr
      cases r
      cases r'
      obtain ⟨its, rv, p1, _⟩ := I1.tuple hqx
      obtain ⟨its2, rv2, p2, _⟩ := I1.list hqy
      obtain ⟨o1, ho1, _⟩ := id p1
      have ha1 : a < s1.heap.objs.size := Heap.lt_size ho1
      have hb1 : b < s1.heap.objs.size := p2.lt
      refine zip_begins2 (begins_tuple a its.toArray) (begins_list b its2.toArray) p1 p2.isList fun h' hz hTI hTO h1 h2 hsz hk => wpAny_pyIter_zip hz ?_
      have I2 : Inv X pins σ H1 { s1 with heap := h' } := I1.kept (t' := s1.toks) hk
      generalize hN : s1.heap.objs.size = N at *
      have S : ZipSep2 (N + 4) (N + 2) (N + 3) N (N + 1) [N, a] [N + 1, b] := zip_sep2 (fun c h => List.mem_singleton.mp h ▸ ha1) (fun c h => List.mem_singleton.mp h ▸ hb1)
      refine ⟨N + 4, [N + 4, N + 2, N + 3, N, N + 1], _, _, H1, rfl, I2, turn_zipM S (Nat.ne_of_lt ha1) (Nat.ne_of_lt (Nat.lt_succ_of_lt hb1)), ⟨hz, hTI, ⟨_, _, hTO⟩, ⟨_, h1, rfl, rfl⟩, ⟨_, h2, rfl, rfl⟩⟩, fun c hcm => ?_, q⟩
      have e' : c = N + 4 ∨ c = N + 2 ∨ c = N + 3 ∨ c = N ∨ c = N + 1 := by simpa using hcm
      have hle : N ≤ c := by
        rcases e' with rfl | rfl | rfl | rfl | rfl
        · exact Nat.le_add_right _ _
        · exact Nat.le_add_right _ _
        · exact Nat.le_add_right _ _
        · exact Nat.le_refl _
        · exact Nat.le_add_right _ _
      rw [← hN] at hle
      exact I1.fpOk hle (I1.hok.fresh hle)
section
variable {X : Cx} {K : PySem.W.Frag}
theorem k_zipM {a b : Expr} {ta : TA} {p pos tpos : Pos} {elts : List Expr} {kk : Nat} (ha : PA X [a, b] ta) (hm : X.mg "zip" = none) (hg : Gl X "zip" := by rfl)
    (h1 : starEach [a, b] X.env = (false, eval a X.env) :: starEach [b] X.env := by rfl) (h2 : (backTo pos (starEach [b] X.env)).any (·.1) = false := by rfl) (h : X.K = K := by rfl) :
    PI X (.Tuple elts kk tpos) (.Call (.Name "zip" p) [a, b] [] pos) (iZipM K ta) := h ▸ pi_zipM hg hm ha h1 h2
end
section
variable {K : PySem.W.Frag} {C : Cz} {ρ : List Sl}
theorem walks_zipM {a b : Addr} {ds es : List D} : Walks K (ItzM K a b) [.ref a, .ref b] [.tup ds, .lst es] (zipD ds es) := fun O H h => by
  cases h with
  | cons h g =>
    cases g with
    | cons g _ =>
      cases h with
      | @tup _ xs _ h1 _ h3 =>
        cases g with
        | @lst _ ys _ g1 _ g3 =>
          have hl := h3.length
          have gl := g3.length
          rw [zipD_len, ← hl, ← gl]
          refine ⟨fun i hi => ⟨xs, ys, xs[i]'(by omega), ys[i]'(by omega), h1, SqL.of g1, List.getElem?_eq_getElem (by omega), List.getElem?_eq_getElem (by omega)⟩, ⟨xs, ys, h1, SqL.of g1, rfl⟩, fun i x H' hi y => ?_⟩
          obtain ⟨T, u, z, rfl, nT, rfl, f1, f2⟩ := y
          obtain ⟨d, e, a⟩ := h3.get (f1 _ h1)
          obtain ⟨d2, e', a2⟩ := g3.get (f2 _ (SqL.of g1))
          exact ⟨_, zipD_get e e', same_upd nT, fun lv => At.mkTup nT (fun m => lv _ m nT) (.cons a (.one a2))⟩
@[reducible] def asTL : D → D → (List D → List D → Prop) → Prop
  | .tup l, .lst m, k => k l m
  | _, _, _ => False
theorem evi_zipM {P : List D → Prop} {ta : TA} (h : EvA K C ta ρ fun ds => as2 ds fun d e => asTL d e fun l m => P (zipD l m)) : EvI K C (iZipM K ta) ρ P := fun σ H R s k => h σ H _ s fun ds vs H1 q s1 f1 a1 => by
  obtain ⟨v, w, d, e, rfl, a, b, q⟩ := all_2 a1 q
  cases a with
  | tup h1 n1 h3 =>
    cases b with
    | lst g1 n2 g3 => exact ⟨_, _, _, _, rfl, h1, SqL.of g1, k _ _ H1 [_, _] [_, _] q s1 f1 (.cons (.tup h1 n1 h3) (.one (.lst g1 n2 g3))) walks_zipM⟩
    | _ => exact q.elim
  | _ => exact q.elim
end

/-! ### str(e), by an own __str__ -/
def rStrOwn (C : Addr) (sp : Sp) (E : XK) : RC := fun vs H Q => ∃ a dx fs, vs = [.ref a] ∧ H a = some (.ins C dx fs) ∧ sp [.ref a] H (fun v H' => ∃ z : Str, v = .str z ∧ Q v H') E
theorem call_strOwn {X : Cx} {CX : CXT} {k : Nat} {f C : Addr} {fd : FuncData} {ps : List Str} {sp : Sp} {E : XK} (M : OwnOp X.K C f "__str__") (F : FnOk X.prog X.w X.K X.mg X.base CX k f fd ps sp) (hb : Binds X.K fd ps []) (hr : Room (k + 2) X.A) (hx : Passes CX X E) : CallR X (.type "str") (rStrOwn C sp E) := by
  intro pins s σ H xs us Q I r h
  obtain ⟨a, dx, fs, rfl, ha, q⟩ := h
  cases r with
  | cons r1 r2 =>
    cases r2
    cases r1
    obtain ⟨mA, J, _⟩ := ins_get I.hok ha
    obtain ⟨od, J, _⟩ := J.look
    refine PySem.W.kso_call (by have := hr.un; show X.A.units + 1 + 1 < cLine; omega) I.kIn J M.at_ M.fn ?_
    have e0 : Env0 X.prog X.w X.K X.mg X.base X.A.in1.in1 X.stack s H := by
      have e := I.env0
      exact ⟨e.frames, e.mod, e.bs, e.bsz, e.funs, e.frf, e.hok, e.bare⟩
    have hl := F.len _ _ _ _ q
    refine wpAny_call (codeAny_mono (F.run X.A.in1.in1 X.stack s H ⟨[.ref a], []⟩ [.ref a] [.ref a] _ E hr.in1.in1 e0 (by
      have := hb s [.ref a] I.kIn (by simpa using hl)
      simpa using this) (.cons rfl .nil) q) fun r s' hq => ?_)
    cases r with
    | error e => exact hx pins σ H s e s' I hq
    | ok fl =>
      cases fl with
      | ret w =>
        obtain ⟨z, H', I', rz, n, ez, q⟩ := I.after hq
        subst ez
        obtain ⟨t, rfl⟩ := (show ∃ t, w = Value.str n t from rz)
        exact ⟨.str n, H', I', ⟨_, rfl⟩, q⟩
      | next => exact False.elim hq
      | brk => exact False.elim hq
      | cont => exact False.elim hq
section
variable {K : PySem.W.Frag} {C : Cz} {ρ : List Sl} {P : D → Prop} {ta : TE} {S : Sd} {E : XK} {Cl : Addr}
theorem ev_strOwn (h : Ev K C ta ρ fun d => asIns Cl d fun l => S [] [.ins Cl l] (okP fun d => asS d fun z => P (.str z))) : Ev K C (tCB (rStrOwn Cl (spD K S) E) (tCons ta tNil)) ρ P := fun σ H Q s k => h σ H _ s fun d v H1 q s1 f1 a1 => by
  obtain ⟨p, dx, fs, l, rfl, rfl, h1, _, h3, q⟩ := at_ins a1 q
  refine ⟨p, dx, fs, rfl, h1, Os C ρ, C.tabs, [], [.ins Cl l], _, .one a1, s1.lv, (fun q m => nomatch m), s1.tb, q, fun d v H' p f lv bg tb a => ?_, fun x p => False.elim p⟩
  obtain ⟨n, rfl, rfl, q⟩ := at_str a (show asS d _ from p)
  exact ⟨n, rfl, k _ _ _ q (s1.kept f lv tb) (f1.trans (f.mono fun _ m => nomatch m)) (.str n)⟩
end

/-! ### dicts of one's own, by data -/
section
variable {κ α : Type} [DecidableEq κ]
def valG (l : List (κ × α)) (k : κ) : Option α := (l.find? fun kv => decide (kv.1 = k)).map (·.2)
def putG (l : List (κ × α)) (k : κ) (d : α) : List (κ × α) := if (l.any fun kv => decide (kv.1 = k)) = true then l.map (fun kv => if kv.1 = k then (kv.1, d) else kv) else l ++ [(k, d)]
end
section
variable {κ : Type} [DecidableEq κ] {K : PySem.W.Frag} {O : Ads} {H : Hp}
/-- the same keys, and what they hold -/
def KvAt (K : PySem.W.Frag) (O : Ads) (H : Hp) (kvs : List (κ × V)) (l : List (κ × D)) : Prop := kvs.map (·.1) = l.map (·.1) ∧ AtAll K O H (kvs.map (·.2)) (l.map (·.2))
theorem KvAt.inv {p : κ × V} {kvs : List (κ × V)} {l : List (κ × D)} (h : KvAt K O H (p :: kvs) l) : ∃ d r, l = (p.1, d) :: r ∧ At K O H p.2 d ∧ KvAt K O H kvs r := by
  obtain ⟨h1, h2⟩ := h
  cases l with
  | nil => cases h1
  | cons q r =>
    rw [List.map_cons, List.map_cons] at h1 h2
    cases h2 with
    | cons a b =>
      injection h1 with e1 e2
      exact ⟨q.2, r, by rw [e1], a, e2, b⟩
theorem KvAt.cons {k : κ} {v : V} {d : D} {kvs : List (κ × V)} {l : List (κ × D)} (a : At K O H v d) (h : KvAt K O H kvs l) : KvAt K O H ((k, v) :: kvs) ((k, d) :: l) :=
  ⟨by rw [List.map_cons, List.map_cons, h.1], .cons a h.2⟩
theorem KvAt.nil : KvAt (κ := κ) K O H [] [] := ⟨rfl, .nil⟩
theorem KvAt.length : ∀ {kvs : List (κ × V)} {l : List (κ × D)}, KvAt K O H kvs l → kvs.length = l.length := fun {kvs l} h => by
  have := congrArg List.length h.1
  simpa using this
theorem KvAt.val (k : κ) : ∀ {kvs : List (κ × V)} {l : List (κ × D)}, KvAt K O H kvs l → (valV kvs k = none ∧ valG l k = none) ∨ ∃ v d, valV kvs k = some v ∧ valG l k = some d ∧ At K O H v d
  | [], l, h => by
    obtain ⟨h1, _⟩ := h
    have : l = [] := List.map_eq_nil_iff.mp h1.symm
    subst this
    exact .inl ⟨rfl, rfl⟩
  | p :: kvs, l, h => by
    obtain ⟨d, r, rfl, a, b⟩ := h.inv
    by_cases e : p.1 = k
    · refine .inr ⟨p.2, d, ?_, ?_, a⟩
      · exact valV_pos e
      · simp [valG, List.find?_cons, e]
    · rcases b.val k with ⟨h1, h2⟩ | ⟨v, d', h1, h2, h3⟩
      · refine .inl ⟨by rw [valV_neg e]; exact h1, ?_⟩
        simpa [valG, List.find?_cons, e] using h2
      · refine .inr ⟨v, d', by rw [valV_neg e]; exact h1, ?_, h3⟩
        simpa [valG, List.find?_cons, e] using h2
theorem KvAt.any (k : κ) : ∀ {kvs : List (κ × V)} {l : List (κ × D)}, KvAt K O H kvs l → (kvs.any fun kv => decide (kv.1 = k)) = (l.any fun kv => decide (kv.1 = k))
  | [], l, h => by
    have : l = [] := List.map_eq_nil_iff.mp h.1.symm
    subst this
    rfl
  | p :: kvs, l, h => by
    obtain ⟨d, r, rfl, a, b⟩ := h.inv
    rw [List.any_cons, List.any_cons, b.any k]
theorem KvAt.rep (k : κ) {v : V} {d : D} (x : At K O H v d) : ∀ {kvs : List (κ × V)} {l : List (κ × D)}, KvAt K O H kvs l → KvAt K O H (kvs.map fun kv => if kv.1 = k then (kv.1, v) else kv) (l.map fun kv => if kv.1 = k then (kv.1, d) else kv)
  | [], l, h => by
    have : l = [] := List.map_eq_nil_iff.mp h.1.symm
    subst this
    exact .nil
  | p :: kvs, l, h => by
    obtain ⟨d', r, rfl, a, b⟩ := h.inv
    rw [List.map_cons, List.map_cons]
    by_cases e : p.1 = k
    · rw [if_pos e, if_pos e]
      exact (b.rep k x).cons x
    · rw [if_neg e, if_neg e]
      exact (b.rep k x).cons a
theorem KvAt.snoc {k : κ} {v : V} {d : D} {kvs : List (κ × V)} {l : List (κ × D)} (h : KvAt K O H kvs l) (x : At K O H v d) : KvAt K O H (kvs ++ [(k, v)]) (l ++ [(k, d)]) :=
  ⟨by rw [List.map_append, List.map_append, h.1]; rfl, by rw [List.map_append, List.map_append]; exact h.2.append (.one x)⟩
theorem KvAt.put {k : κ} {v : V} {d : D} {kvs : List (κ × V)} {l : List (κ × D)} (h : KvAt K O H kvs l) (x : At K O H v d) : KvAt K O H (putK kvs k v) (putG l k d) := by
  unfold putK putG
  rw [h.any k]
  split
  · exact h.rep k x
  · exact h.snoc x
end
@[reducible] def asKey : D → (Key → Prop) → Prop
  | .int i, k => k (.inl i)
  | .str z, k => k (.inr z)
  | _, _ => False
@[reducible] def asKeys : List D → (List Key → Prop) → Prop
  | [], k => k []
  | d :: r, k => asKey d fun x => asKeys r fun l => k (x :: l)
section
variable {K : PySem.W.Frag} {O : Ads} {H : Hp}
theorem at_key {v : V} {d : D} {k : Key → Prop} (a : At K O H v d) (h : asKey d k) : ∃ x, v = kV x ∧ k x := by
  cases a with
  | int i => exact ⟨.inl i, rfl, h⟩
  | str z => exact ⟨.inr z, rfl, h⟩
  | _ => exact h.elim
theorem at_keys : ∀ {vs : List V} {ds : List D} {k : List Key → Prop}, AtAll K O H vs ds → asKeys ds k → ∃ l, vs = l.map kV ∧ k l
  | _, _, _, .nil, h => ⟨[], rfl, h⟩
  | _, _, _, .cons a b, h => by
    obtain ⟨x, rfl, h⟩ := at_key a h
    obtain ⟨l, rfl, h⟩ := at_keys b h
    exact ⟨x :: l, rfl, h⟩
end
section
variable {K : PySem.W.Frag} {C : Cz} {ρ : List Sl} {P : D → Prop} {PO : Out → Prop} {ty tv : TE} {ta : TA} {i : Nat}
theorem run_dnewK (h : i < ρ.length ∧ ∀ p, PO (.nx (ρ.set i (.cell p (.dK []))))) : Run K C (tAsg tDNewK (gName i)) ρ PO := fun En σ H s k => fun p n => k.nx _ _ _ (h.2 p) ((s.ownC n (.dK rfl .nil)).land h.1)
theorem run_dnewT (h : i < ρ.length ∧ ∀ p, PO (.nx (ρ.set i (.cell p (.dT []))))) : Run K C (tAsg tDNewT (gName i)) ρ PO := fun En σ H s k => fun p n => k.nx _ _ _ (h.2 p) ((s.ownC n (.dT rfl .nil)).land h.1)
theorem own_K {H : Hp} {σ : L2.St} {p : Addr} {l : List (Key × D)} (s : Sls K O H σ ρ) (e : ρ[i]? = some (.cell p (.dK l))) : ∃ kvs, σ[i]? = some (some (.ref p)) ∧ H p = some (.dK kvs) ∧ KvAt K O H kvs l := by
  obtain ⟨x, e1, a⟩ := s.get e
  cases a with
  | cell h b =>
    cases b with
    | dK e2 b => exact ⟨_, e1, h, e2, b⟩
theorem own_T {H : Hp} {σ : L2.St} {p : Addr} {l : List (List Key × D)} (s : Sls K O H σ ρ) (e : ρ[i]? = some (.cell p (.dT l))) : ∃ kvs, σ[i]? = some (some (.ref p)) ∧ H p = some (.dT kvs) ∧ KvAt K O H kvs l := by
  obtain ⟨x, e1, a⟩ := s.get e
  cases a with
  | cell h b =>
    cases b with
    | dT e2 b => exact ⟨_, e1, h, e2, b⟩
/-- d[y] = e, by texts and numbers -/
theorem run_dputK {p : Addr} {l : List (Key × D)} (e : ρ[i]? = some (.cell p (.dK l))) (h : Ev K C tv ρ fun d => Ev K C ty ρ fun y => asKey y fun k => l.length < sizeLine ∧ PO (.nx (ρ.set i (.cell p (.dK (putG l k d)))))) :
    Run K C (sDPut (tVar i) ty tv) ρ PO := fun En σ H s k => h σ H _ s fun d v H1 q s1 f1 a => by
  obtain ⟨_, e1, _, _⟩ := own_K s1.sl e
  refine ⟨_, e1, q σ H1 _ s1 fun c y H2 q s2 f2 b => ?_⟩
  obtain ⟨x, rfl, hl, q⟩ := at_key b q
  obtain ⟨kvs, _, e2, g⟩ := own_K s2.sl e
  have g2 := g.put (k := x) (a.fr (s1.up f2))
  exact ⟨p, _, rfl, DPut.k e2 (by rw [g.length]; exact hl), k.nx _ _ _ q (s2.mutC e (.dK g2.1 g2.2))⟩
/-- d[y, z] = e -/
theorem run_dputT {p : Addr} {l : List (List Key × D)} (e : ρ[i]? = some (.cell p (.dT l))) (h : Ev K C tv ρ fun d => EvA K C ta ρ fun ys => asKeys ys fun k => ys.length ≤ sizeLine ∧ l.length < sizeLine ∧ PO (.nx (ρ.set i (.cell p (.dT (putG l k d)))))) :
    Run K C (sDPut (tVar i) (tTup ta) tv) ρ PO := fun En σ H s k => h σ H _ s fun d v H1 q s1 f1 a => by
  obtain ⟨_, e1, _, _⟩ := own_T s1.sl e
  refine ⟨_, e1, q σ H1 _ s1 fun cs ys H2 q s2 f2 b => ?_⟩
  have hlen := b.length
  obtain ⟨x, rfl, hz, hl, q⟩ := at_keys b q
  refine ⟨by rw [hlen]; exact hz, fun n nn => ?_⟩
  have s3 := s2.same (same_upd (o := .tup (x.map kV)) nn)
  obtain ⟨kvs, _, e2, g⟩ := own_T s3.sl e
  have g2 := g.put (k := x) ((a.fr (s1.up f2)).fr (.of (same_upd nn)))
  exact ⟨p, _, rfl, DPut.t e2 upd_same (by rw [g.length]; exact hl), k.nx _ _ _ q (s3.mutC e (.dT g2.1 g2.2))⟩
/-- d[y] -/
theorem ev_dgetK {p : Addr} {l : List (Key × D)} (e : ρ[i]? = some (.cell p (.dK l))) (h : Ev K C ty ρ fun y => asKey y fun k => ∃ d, valG l k = some d ∧ P d) : Ev K C (tDGet (tVar i) ty) ρ P := fun σ H Q s k => by
  obtain ⟨_, e1, _, _⟩ := own_K s.sl e
  refine ⟨_, e1, h σ H _ s fun c y H2 q s2 f2 b => ?_⟩
  obtain ⟨x, rfl, d, hd, q⟩ := at_key b q
  obtain ⟨kvs, _, e2, g⟩ := own_K s2.sl e
  rcases g.val x with ⟨_, h2⟩ | ⟨v, d', h1, h2, h3⟩
  · rw [h2] at hd
    cases hd
  · rw [h2] at hd
    cases hd
    exact ⟨p, v, rfl, h1 ▸ DGet.k e2, k _ _ _ q s2 f2 h3⟩
theorem val_some {κ : Type} [DecidableEq κ] {O : Ads} {H : Hp} {kvs : List (κ × V)} {l : List (κ × D)} (g : KvAt K O H kvs l) (k : κ) : (valV kvs k).isSome = (valG l k).isSome := by
  rcases g.val k with ⟨h1, h2⟩ | ⟨v, d, h1, h2, _⟩ <;> rw [h1, h2] <;> rfl
/-- y in d, y not in d -/
theorem ev_dinK {p : Addr} {l : List (Key × D)} (e : ρ[i]? = some (.cell p (.dK l))) (h : Ev K C ty ρ fun y => asKey y fun k => P (.bl (valG l k).isSome)) : Ev K C (tDIn ty (tVar i)) ρ P := fun σ H Q s k => h σ H _ s fun c y H2 q s2 f2 b => by
  obtain ⟨x, rfl, q⟩ := at_key b q
  obtain ⟨kvs, e1, e2, g⟩ := own_K s2.sl e
  exact ⟨_, e1, p, _, rfl, DGet.k e2, by rw [val_some g]; exact k _ _ _ q s2 f2 (.bl _)⟩
theorem ev_dnotinK {p : Addr} {l : List (Key × D)} (e : ρ[i]? = some (.cell p (.dK l))) (h : Ev K C ty ρ fun y => asKey y fun k => P (.bl (!(valG l k).isSome))) : Ev K C (tDNotIn ty (tVar i)) ρ P := fun σ H Q s k => h σ H _ s fun c y H2 q s2 f2 b => by
  obtain ⟨x, rfl, q⟩ := at_key b q
  obtain ⟨kvs, e1, e2, g⟩ := own_K s2.sl e
  exact ⟨_, e1, p, _, rfl, DGet.k e2, by rw [val_some g]; exact k _ _ _ q s2 f2 (.bl _)⟩
theorem ev_dinT {p : Addr} {l : List (List Key × D)} (e : ρ[i]? = some (.cell p (.dT l))) (h : EvA K C ta ρ fun ys => asKeys ys fun k => ys.length ≤ sizeLine ∧ P (.bl (valG l k).isSome)) : Ev K C (tDIn (tTup ta) (tVar i)) ρ P := fun σ H Q s k => h σ H _ s fun cs ys H2 q s2 f2 b => by
  have hlen := b.length
  obtain ⟨x, rfl, hz, q⟩ := at_keys b q
  refine ⟨by rw [hlen]; exact hz, fun n nn => ?_⟩
  have s3 := s2.same (same_upd (o := .tup (x.map kV)) nn)
  obtain ⟨kvs, e1, e2, g⟩ := own_T s3.sl e
  exact ⟨_, e1, p, _, rfl, DGet.t e2 upd_same, by rw [val_some g]; exact k _ _ _ q s3 (f2.trans (Fr.of (same_upd nn))) (.bl _)⟩
end

/-! ### sorted of tuples that begin with ints, no two alike -/
def IsKey (h : Heap) (v : Value) (x : Int) : Prop := ∃ a o t y n, v = .ref a ∧ h.get? a = some o ∧ o.cls = .type "tuple" ∧ o.data = .seq #[.int x t, y] n
theorem IsKey.keeps {h h' : Heap} {v : Value} {x : Int} (p : IsKey h v x) (k : ∀ b o, h.get? b = some o → o.cls = .type "tuple" → h'.get? b = some o) : IsKey h' v x := by
  obtain ⟨a, o, t, y, n, e, ho, hc, hd⟩ := p
  exact ⟨a, o, t, y, n, e, k _ _ ho hc, hc, hd⟩
theorem IsKey.firsts {h : Heap} : ∀ {vs : List Value}, (∀ v ∈ vs, ∃ x, IsKey h v x) → ∃ fs : List Value, PySem.W.KatTups h vs fs ∧ fs.length = vs.length ∧ ∀ f ∈ fs, ∃ x t, f = Value.int x t
  | [], _ => ⟨[], PySem.W.KatTups.nil, rfl, fun _ hm => by simp at hm⟩
  | v :: vs, hp => by
    obtain ⟨fs, h1, h2, h3⟩ := IsKey.firsts (vs := vs) fun v' hm => hp v' (List.mem_cons_of_mem _ hm)
    obtain ⟨x, a, o, t, y, n, e, ho, hc, hd⟩ := hp v (List.mem_cons_self ..)
    subst e
    refine ⟨.int x t :: fs, PySem.W.KatTups.cons ho hc hd rfl h1, by rw [List.length_cons, List.length_cons, h2], fun f hm => ?_⟩
    rcases List.mem_cons.mp hm with rfl | hm
    · exact ⟨x, t, rfl⟩
    · exact h3 f hm
def ltK (k : Value → Int) (v u : Value) : Bool := decide (k v < k u)
theorem ltK_swo (k : Value → Int) : SrtO.Swo (ltK k) := by
  refine ⟨fun x y h => ?_, fun x y z h1 h2 => ?_⟩
  · have a := of_decide_eq_true (p := k x < k y) h
    exact decide_eq_false (p := k y < k x) (by omega)
  · have a := of_decide_eq_false (p := k y < k x) h1
    have b := of_decide_eq_false (p := k z < k y) h2
    exact decide_eq_false (p := k z < k x) (by omega)
section
variable {prog : Program} {w : World} {A : Around} {E : Value → Shared → Prop} {s : Shared}
theorem key_cmp {vs : List Value} {k : Value → Int} (hp : ∀ v ∈ vs, IsKey s.heap v (k v)) (hi : ∀ v ∈ vs, ∀ u ∈ vs, k v = k u → v = u) : SrtO.Cmp prog w A s (PyProof.Rows.tuples' true) (fun p => p.1 ∈ vs) (SrtO.lt2 (ltK k)) := by
  intro p q hm hm'
  have h1 := hp _ hm
  have h2 := hp _ hm'
  have h3 := hi _ hm _ hm'
  show wpAny (model prog w) A (keyLt' (tuples' true) p.1 q.1) (fun r s' => s' = s ∧ r = decide (k p.1 < k q.1)) (fun _ _ => False) s
  generalize k p.1 = x at h1 h3 ⊢
  generalize k q.1 = x' at h2 h3 ⊢
  obtain ⟨a, o, t, y, n, e, ho, hc, hd⟩ := h1
  obtain ⟨a', o', t', y', n', e', ho', hc', hd'⟩ := h2
  rw [e, e'] at h3 ⊢
  refine PySem.W.kat_lt ho hd ho' hd' ?_
  show PySem.W.KatLex prog w A true (decide (2 < 2)) _ [(.int x t, .int x' t'), (y, y')] 0 s
  refine PySem.W.kat_cons (SeqAt.EqAt.int_int x t x' t' prog w _ _ ?_)
  refine PySem.W.kat_go (fun e1 => ?_) (fun e1 => ?_)
  · have ex : x = x' := by simpa using e1
    have ea := h3 ex
    cases ea
    rw [ho] at ho'
    cases ho'
    rw [hd] at hd'
    injection hd' with hd1 _
    have ey : y = y' := by
      have := congrArg (fun z : Array Value => z[1]?) hd1
      simpa using this
    subst ey
    refine PySem.W.kat_yes (PySem.W.kat_cons (SeqAt.EqAt.same y prog w _ _ ?_))
    refine PySem.W.kat_yes (PySem.W.kat_nil ⟨rfl, ?_⟩)
    rw [ex]
    exact (decide_eq_false (Int.lt_irrefl _)).symm
  · exact PySem.W.kat_no (oneLt_int ⟨rfl, rfl⟩)
theorem keys_sortable {a : Addr} {vs : List Value} {k : Value → Int} (h0 : 0 < vs.length) (hp : ∀ v ∈ vs, IsKey s.heap v (k v)) (hi : ∀ v ∈ vs, ∀ u ∈ vs, k v = k u → v = u) (ha : ∀ o, s.heap.get? a = some o → o.cls ≠ .type "tuple") : SrtO.SortableO prog w A s a vs (ltK k) := by
  intro h' keep
  have hp' : ∀ v ∈ vs, IsKey h' v (k v) := fun v hm => (hp v hm).keeps fun b o e c => keep b o (fun z => by subst z; exact ha o e c) e
  obtain ⟨fs, h1, h2, h3⟩ := IsKey.firsts fun v hm => ⟨_, hp' v hm⟩
  refine ⟨tuples' true, fun Q E hq => ?_, key_cmp hp' hi⟩
  refine PySem.W.kat_kind (T := .type "int") h1 (by omega) (fun f hm => ?_) (by rfl) ?_
  · obtain ⟨x, t, rfl⟩ := h3 f hm
    exact PySem.W.Looks.now
  · have e : (Value.type "int" != Value.type "tuple") = true := by first | decide +kernel | rfl | decide
    rw [e]
    exact hq
end
def keyAt (h : Heap) : Value → Int
  | .ref a => match h.get? a with
    | some o => match o.data with
      | .seq its _ => match (its[0]? : Option Value) with
        | some (Value.int i _) => i
        | _ => 0
      | _ => 0
    | none => 0
  | _ => 0
theorem IsKey.at_ {h : Heap} {v : Value} {x : Int} (p : IsKey h v x) : keyAt h v = x := by
  obtain ⟨a, o, t, y, n, rfl, ho, hc, hd⟩ := p
  unfold keyAt
  dsimp only
  rw [ho]
  dsimp only
  rw [hd]
  rfl
/-- sorted(xs), xs tuples that begin with the ints ks, no two alike: by these -/
def rSortedR (K : PySem.W.Frag) : List V → Hp → VK → Prop := fun vs H Q => ∃ (a : Addr) (xs : List V) (ks : List Int), vs = [V.ref a] ∧ SqL K H a xs ∧ xs.length = ks.length ∧ (∀ (i : Nat) (x : V) (k : Int), xs[i]? = some x → ks[i]? = some k → ∃ t y, x = V.ref t ∧ SqT K H t [.int k, y]) ∧ ks.Nodup ∧
  ∀ (ys : List (V × Int)) p, ys.Perm (xs.zip ks) → (ys.map (·.2)).Pairwise (· < ·) → H p = none → Q (.ref p) (upd H p (.lst (ys.map (·.1))))
theorem nodup_ix {α : Type} {l : List α} (nd : l.Nodup) {i j : Nat} {x : α} (h1 : l[i]? = some x) (h2 : l[j]? = some x) : i = j := by
  obtain ⟨a1, b1⟩ := List.getElem?_eq_some_iff.mp h1
  obtain ⟨a2, b2⟩ := List.getElem?_eq_some_iff.mp h2
  have := List.pairwise_iff_getElem.mp nd
  rcases Nat.lt_trichotomy i j with h | h | h
  · exact absurd (b1.trans b2.symm) (this i j a1 a2 h)
  · exact h
  · exact absurd (b2.trans b1.symm) (this j i a2 a1 h)
section
variable {X : Cx}
theorem cr_sortedR : CallR X (.builtin "sorted") (rSortedR X.K) := by
  intro pins s σ H vs us Q I r h
  obtain ⟨a, xs, ks, rfl, hs, hlen, hx, nd, q⟩ := h
  obtain ⟨its, rv, hl, hz⟩ := I.list hs
  obtain ⟨u, rfl, ru⟩ := vals1 r
  obtain rfl : u = Value.ref a := ru
  obtain ⟨e1, e2⟩ := refs_back rv fun x m => by
    obtain ⟨i, hi, rfl⟩ := List.getElem_of_mem m
    obtain ⟨t, y, e, _⟩ := hx i _ _ (List.getElem?_eq_getElem hi) (List.getElem?_eq_getElem (by omega))
    exact ⟨t, e⟩
  have hl2 : its.length = xs.length := rv.length.symm
  have hk : ∀ (i : Nat) (v : Value) (k : Int), its[i]? = some v → ks[i]? = some k → IsKey s.heap v k := fun i v k hv hk => by
    have hxi : xs[i]? = some (backV v) := by rw [e1, List.getElem?_map, hv]; rfl
    obtain ⟨t, y, e, ht⟩ := hx i _ _ hxi hk
    obtain ⟨t', rfl⟩ := e2 v (List.mem_of_getElem? hv)
    cases e
    obtain ⟨its2, r2, ⟨o, ho, hc, n, hd⟩, _⟩ := I.tuple ht
    obtain ⟨u1, u2, rfl, ri, rj⟩ := vals2 r2
    obtain ⟨t1, rfl⟩ := ri
    exact ⟨_, o, t1, u2, n, rfl, ho, hc, hd⟩
  have ix : ∀ v ∈ its, ∃ (i : Nat) (k : Int), its[i]? = some v ∧ ks[i]? = some k ∧ keyAt s.heap v = k := fun v hm => by
    obtain ⟨i, hi, rfl⟩ := List.getElem_of_mem hm
    have h1 : its[i]? = some its[i] := List.getElem?_eq_getElem hi
    have h2 : ks[i]? = some ks[i] := List.getElem?_eq_getElem (by omega)
    exact ⟨i, _, h1, h2, (hk i _ _ h1 h2).at_⟩
  have hkey : ∀ v ∈ its, IsKey s.heap v (keyAt s.heap v) := fun v hm => by
    obtain ⟨i, k, h1, h2, h3⟩ := ix v hm
    rw [h3]
    exact hk i v k h1 h2
  have hinj : ∀ v ∈ its, ∀ u ∈ its, keyAt s.heap v = keyAt s.heap u → v = u := fun v hv u hu e => by
    obtain ⟨i, k, h1, h2, h3⟩ := ix v hv
    obtain ⟨j, k', g1, g2, g3⟩ := ix u hu
    have ek : k = k' := by rw [← h3, ← g3, e]
    subst ek
    have := nodup_ix nd h2 g2
    subst this
    rw [h1] at g1
    exact Option.some.inj g1
  have hzip : its.map (fun v => (backV v, keyAt s.heap v)) = xs.zip ks := by
    refine List.ext_getElem? fun i => ?_
    rw [List.getElem?_map]
    by_cases hi : i < its.length
    · have h1 : its[i]? = some its[i] := List.getElem?_eq_getElem hi
      have h2 : ks[i]? = some ks[i] := List.getElem?_eq_getElem (by omega)
      have h0 : xs[i]? = some (backV its[i]) := by rw [e1, List.getElem?_map, h1]; rfl
      have h4 : (xs.zip ks)[i]? = some (backV its[i], ks[i]) := List.getElem?_zip_eq_some.mpr ⟨h0, h2⟩
      rw [h4, h1]
      show some (backV its[i], keyAt s.heap its[i]) = _
      rw [(hk i _ _ h1 h2).at_]
    · rw [List.getElem?_eq_none (by omega), List.getElem?_eq_none (by rw [List.length_zip]; omega)]
      rfl
  refine SrtO.sorted_ord (ltK_swo (keyAt s.heap)) hl.isList (by omega) (fun h2 h₁ a' ha' kk => ?_) fun out h1 h2 => ?_
  · refine keys_sortable (s := { s with heap := h₁ }) (by omega) (fun v hm => (hkey v hm).keeps fun b o e _ => (kk b o e).2) hinj fun o e => ?_
    have e' : some o = some (seqObj "list" its.toArray 0) := e.symm.trans ha'
    cases e'
    intro c
    exact absurd (Value.type.inj c) (by decide)
  · have h3 : ∀ u ∈ out, ∃ a, u = Value.ref a := fun u hu => e2 u (h2.perm.mem_iff.mp hu)
    obtain ⟨ep, he'⟩ := PyProof.Rows.sortedAll_at s.heap its out.toArray
    have hp : (out.map fun v => (backV v, keyAt s.heap v)).Perm (xs.zip ks) := by
      rw [← hzip]
      exact h2.perm.map _
    have hnd : ((out.map fun v => (backV v, keyAt s.heap v)).map (·.2)).Nodup := by
      refine (hp.map (·.2)).nodup_iff.mpr ?_
      rw [List.map_snd_zip (by omega)]
      exact nd
    have hlt : ((out.map fun v => (backV v, keyAt s.heap v)).map (·.2)).Pairwise (· < ·) := by
      have h4 : ((out.map fun v => (backV v, keyAt s.heap v)).map (·.2)).Pairwise (· ≤ ·) := by
        rw [List.map_map]
        exact List.pairwise_map.mpr (h1.imp fun {x y} h => Int.not_lt.mp (of_decide_eq_false (p := keyAt s.heap y < keyAt s.heap x) h))
      exact (h4.and hnd).imp fun {x y} h => Int.lt_iff_le_and_ne.mpr h
    have hf := q _ (s.heap.objs.size + 1) hp hlt (I.hok.fresh (Nat.le_succ _))
    rw [List.map_map] at hf
    refine ⟨.ref _, upd H (s.heap.objs.size + 1) (.lst (out.map backV)), I.laid (t' := s.toks) (fun _ _ => PyProof.Rows.sortedAll_old) (Nat.le_succ _) ⟨?_, out, ep, vals_back h3, he'⟩, rfl, hf⟩
    rw [List.length_map, h2.len]
    omega
end
theorem k_sortedR {X : Cx} {K : PySem.W.Frag} (h : X.K = K := by rfl) : CallR X (.builtin "sorted") (rSortedR K) := h ▸ cr_sortedR
@[reducible] def keyD (y : Int × D) : D := .tup [.int y.1, y.2]
section
variable {K : PySem.W.Frag}
instance cbf_sortedR : CbF K (rSortedR K) (fun ds P => as1 ds fun d => asL d fun l => ∃ xs : List (Int × D), l = xs.map keyD ∧ (xs.map (·.1)).Nodup ∧ ∀ ys : List (Int × D), ys.Perm xs → (ys.map (·.1)).Pairwise (· < ·) → P (ys.map keyD)) := ⟨fun O H vs ds Q P a h q => by
  obtain ⟨v, d, rfl, a, h⟩ := all_1 a h
  obtain ⟨p, vs, l, rfl, rfl, h1, _, h3, xs, rfl, nd, h⟩ := at_L a h
  have hl := h3.length
  rw [List.length_map] at hl
  refine ⟨p, vs, xs.map (·.1), rfl, SqL.of h1, by rw [List.length_map]; exact hl, fun i x k hx hk => ?_, nd, fun ys c hp hs nc => ?_⟩
  · obtain ⟨d, hd, a⟩ := h3.get hx
    rw [List.getElem?_map] at hd hk
    cases e : xs[i]? with
    | none => rw [e] at hk; cases hk
    | some y =>
      rw [e] at hd hk
      cases hd
      cases hk
      cases a with
      | tup g1 g2 g3 =>
        cases g3 with
        | cons a1 a2 =>
          cases a2 with
          | cons a2 a3 =>
            cases a3
            cases a1
            exact ⟨_, _, rfl, g1⟩
  · -- the permutation of the data
    have hm : ∀ y ∈ ys, ∃ (i : Nat) (x : Int × D), vs[i]? = some y.1 ∧ xs[i]? = some x ∧ x.1 = y.2 := fun y hy => by
      have hy' := hp.mem_iff.mp hy
      obtain ⟨i, hi⟩ := List.getElem?_of_mem hy'
      obtain ⟨g1, g2⟩ := List.getElem?_zip_eq_some.mp hi
      rw [List.getElem?_map] at g2
      cases e : xs[i]? with
      | none => rw [e] at g2; cases g2
      | some x => rw [e] at g2; exact ⟨i, x, g1, e, Option.some.inj g2⟩
    -- data by keys
    let f : Int → D := fun k => ((xs.find? fun x => decide (x.1 = k)).map (·.2)).getD .non
    have hf : ∀ x ∈ xs, f x.1 = x.2 := fun x hx => by
      have : xs.find? (fun z => decide (z.1 = x.1)) = some x := by
        obtain ⟨i, hi⟩ := List.getElem?_of_mem hx
        cases e : xs.find? (fun z => decide (z.1 = x.1)) with
        | none =>
          have := List.find?_eq_none.mp e x hx
          exact absurd (decide_eq_true rfl) this
        | some z =>
          have h1 := List.find?_some e
          have h2 := List.mem_of_find?_eq_some e
          obtain ⟨j, hj⟩ := List.getElem?_of_mem h2
          have h1 : z.1 = x.1 := of_decide_eq_true h1
          have := nodup_ix nd (x := x.1) (i := i) (j := j) (by rw [List.getElem?_map, hi]; rfl) (by rw [List.getElem?_map, hj]; show some z.1 = _; rw [h1])
          subst this
          rw [hi] at hj
          exact hj.symm
      show ((xs.find? fun z => decide (z.1 = x.1)).map (·.2)).getD .non = x.2
      rw [this]
      rfl
    have hperm : (ys.map fun y => (y.2, f y.2)).Perm xs := by
      have h5 := (hp.map (·.2)).map fun k => (k, f k)
      rw [List.map_snd_zip (by rw [List.length_map]; omega), List.map_map, List.map_map] at h5
      refine h5.trans (List.Perm.of_eq ?_)
      have : ∀ x ∈ xs, ((fun k => (k, f k)) ∘ fun x : Int × D => x.1) x = x := fun x hx => by
        show (x.1, f x.1) = x
        rw [hf x hx]
      rw [List.map_congr_left this, List.map_id']
    have hP := h (ys.map fun y => (y.2, f y.2)) hperm (by rw [List.map_map]; exact hs)
    refine q _ _ c hP nc ?_
    refine AtAll.of (by simp) fun i v d hv hd => ?_
    rw [List.getElem?_map] at hv
    rw [List.map_map, List.getElem?_map] at hd
    cases e : ys[i]? with
    | none => rw [e] at hv; cases hv
    | some y =>
      rw [e] at hv hd
      cases hv
      cases hd
      obtain ⟨j, x, g1, g2, g3⟩ := hm y (List.mem_of_getElem? e)
      obtain ⟨d, hd, a⟩ := h3.get g1
      rw [List.getElem?_map, g2] at hd
      cases hd
      show At K O H y.1 (keyD (y.2, f y.2))
      rw [← g3, hf x (List.mem_of_getElem? g2)]
      exact a⟩
end

/-! ### a staticmethod called by the class's name -/
/-- C.m is a staticmethod: its record at p, its def at g -/
structure SMet (K : PySem.W.Frag) (C : Addr) (mc : Value) (m : Str) (p g : Addr) : Prop where
  at_ : PySem.W.findCls K (.ref C) mc m = some (.get (.builtin "staticmethod.__get__") (.ref p) .none (.ref C))
  rc : ∃ rest, PySem.W.recIn K p "staticmethod" = some (.ref g :: rest)
section
variable {X : Cx}
theorem pe_static0 {CX : CXT} {k : Nat} {C p g : Addr} {mc : Value} {fd : FuncData} {ps : List Str} {sp : Sp} {E : XK} {x m : Str} {p1 p2 pos : Pos} {pl : Sem Bool}
    (hg : Gl X x) (hm : X.mg x = some (.ref C)) (r : ClX.CRead X.K C mc) (c : SMet X.K C mc m p g) (F : FnOk X.prog X.w X.K X.mg X.base CX k g fd ps sp) (hr : Room k X.A) (hk : PySem.W.keepIn X.K (.ref g) = true) (hb : Binds X.K fd ps []) (hx : Passes CX X E)
    (hdb : (x == ("__debug__" : Str)) = false := by decide)
    (ht : eval (.Call (.Attribute (.Name x p1) m p2) [] [] pos) X.env = (do
      let ov ← eval (.Name x p1) X.env
      standAt p2.atName
      let (f, first) ← holding [ov] (getMethod ov m pl)
      callWith pos f first (backTo pos (starEach [] X.env)) (backToKw pos (keywordEach [] X.env))) := by rfl) :
    PE X (.Call (.Attribute (.Name x p1) m p2) [] [] pos) (tCall sp [] E tNil) := by
  refine ⟨fun pins s σ H Q I h => ?_⟩
  refine PySem.W.methodCall_KW (pl := pl) (ld_glob I hg hm ?_ hdb) ht
  refine PySem.W.method_cls I.kIn r.ga ?_
  obtain ⟨rest, hp⟩ := c.rc
  refine PySem.W.cls_bind I.kIn r.rd c.at_ (wpAny_call (PySem.W.sm_get (s := { s with toks := s.toks + 1 }) I.kIn hp (PySem.W.handed_on rfl ?_)))
  exact PySem.W.callWith_K0 (I.tok _).kIn hk (run_fn (us := []) F hr hb .nil hx (I.tok _) .nil h)
end
/-! ### three names at once -/
@[reducible] def as3 : List D → (D → D → D → Prop) → Prop
  | [d, e, f], k => k d e f
  | _, _ => False
theorem all_3 {K : PySem.W.Frag} {O : Ads} {H : Hp} {vs : List V} {ds : List D} {k : D → D → D → Prop} (a : AtAll K O H vs ds) (h : as3 ds k) : ∃ v w u d e f, vs = [v, w, u] ∧ At K O H v d ∧ At K O H w e ∧ At K O H u f ∧ k d e f := by
  match ds, a, h with
  | [d, e, f], .cons a (.cons b (.cons c .nil)), h => exact ⟨_, _, _, _, _, _, rfl, a, b, c, h⟩
theorem run_par3 {K : PySem.W.Frag} {C : Cz} {ρ : List Sl} {P : Out → Prop} {i j l : Nat} {ta : TA} (h : EvA K C ta ρ fun ds => as3 ds fun d e f => P (.nx (((ρ.set i (.val d)).set j (.val e)).set l (.val f)))) : Run K C (tPar3 i j l ta) ρ P := fun En σ H s k => by
  refine h σ H _ s fun ds vs H' p s' _ a => ?_
  obtain ⟨v, w, u, d, e, f, rfl, a, b, c, p⟩ := all_3 a p
  have sub : ∀ i d (ρ : List Sl) a, a ∈ Os C (ρ.set i (.val d)) → a ∈ Os C ρ := fun i d ρ a m => (List.mem_append.mp m).elim (fun h => List.mem_append_left _ h) fun h => List.mem_append_right _ ((owns_set_sub (s := .val d) rfl ρ i).subset h)
  have s1 := s'.set i a
  have s2 := s1.set j (b.less (sub i d ρ))
  exact ⟨v, w, u, rfl, k.nx _ _ _ p (s2.set l ((c.less (sub i d ρ)).less (sub j e _)))⟩

/-! ### an instance that is called -/
structure OwnCall (K : PySem.W.Frag) (C f : Addr) : Prop where
  at_ : PySem.W.findIn K (.ref C) "__call__" = some (some (.ref f))
  fn : PySem.W.isFn K (.ref f) = true
  fi : PySem.W.fnIn K f = true
section
variable {M : Model} {A : Around} {E : Value → Shared → Prop} {s : Shared} {Q : Value → Shared → Prop}
theorem callI_end {t : Sem Value} (h : wpAny M A t Q E s) : wpAny M A (t >>= fun r => holding [r] point >>= fun _ => pure r) Q E s := by
  apply wpAny_bind
  refine wpAny_mono h ?_ (fun _ _ z => z)
  intro r t hr
  exact wpAny_bind (wpAny_holding (wpAny_point (wpAny_pure hr)))
theorem callI_of {P : Heap → Prop} {pos : Pos} {x : Addr} {first : List Value} {args : List (Bool × Sem Value)} {kws : List (Option Str × Sem Value)} (hp : (args.any (·.1) || kws.any (·.1.isNone)) = false) (hk : ∀ h, P h → PySem.W.Looks M h (keeperOf (.ref x)) .caller)
    (h : wpAny M A (evalArgs (.ref x) true args kws) (fun b t => P t.heap ∧ wpAny M A (call (.ref x) (first ++ b.pos) b.kw) Q E t) E s) : wpAny M A (callWith pos (.ref x) first args kws) Q E s := by
  unfold callWith
  apply wpAny_bind
  apply wpAny_holding
  refine wpAny_mono h ?_ (fun _ _ z => z)
  rintro b t ⟨hP, hc⟩
  apply wpAny_bind
  apply wpAny_standAt
  simp only [hp]
  exact wpAny_bind ((hk _ hP).here (callI_end (wpAny_operateT hc)))
end
/-- the instance in the slot i of the class at C, before the arguments -/
def tSelf (C : Addr) (i : Nat) (t : TA) : TA := fun σ H Q => ∃ a dx fs, σ[i]? = some (some (.ref a)) ∧ H a = some (.ins C dx fs) ∧ t σ H fun vs H1 => (∃ dy gs, H1 a = some (.ins C dy gs)) ∧ Q (.ref a :: vs) H1
section
variable {X : Cx} {CX : CXT} {k i : Nat} {C f : Addr} {fd : FuncData} {ps : List Str} {sp : Sp} {E : XK} {x : Str} {p pos : Pos} {e : Expr} {es : List Expr} {t : TA}
theorem pe_callI (M : OwnCall X.K C f) (F : FnOk X.prog X.w X.K X.mg X.base CX k f fd ps sp) (hr : Room k X.A) (hb : Binds X.K fd ps []) (hx : Passes CX X E) (hN : X.N[i]? = some x) (hv : Vis X.env.scope x) (ha : PA X (e :: es) t)
    (hdb : (x == ("__debug__" : Str)) = false := by decide) (hcd : (x == ("__classdict__" : Str)) = false := by decide)
    (he : starEach (e :: es) X.env = (false, eval e X.env) :: starEach es X.env := by rfl) (hpl : (backTo pos (starEach es X.env)).any (·.1) = false := by rfl) : PE X (.Call (.Name x p) (e :: es) [] pos) (tCall sp [] E (tSelf C i t)) := by
  refine ⟨fun pins s σ H Q I h => ?_⟩
  obtain ⟨a, dx, fs, hs, ha0, ht⟩ := h
  have hn := (pe_var (X := X) (i := i) (pos := p) hN hv hdb hcd).run pins s σ H (fun v H1 => v = .ref a ∧ H1 = H) I ⟨_, hs, rfl, rfl⟩
  refine wpAny_Call_Name_kw (wpAny_mono hn ?_ (fun _ _ z => z))
  rintro u s1 ⟨v, H1, I1, r1, rfl, rfl⟩
  obtain rfl : u = Value.ref a := r1
  rw [he]
  refine callI_of (P := fun h => ∃ ox od, PySem.W.InstAt h a ox C od ∧ ox.data = .plain) (by show ((false || (backTo pos (starEach es X.env)).any (·.1)) || false) = false; rw [hpl]; rfl) (fun h ⟨ox, od, J, hd⟩ => PySem.W.kco_keeper J hd) ?_
  refine Calls.evalArgs_plain ?_
  have hsp := ha.run pos pins s1 σ _ _ I1 ht
  rw [he] at hsp
  refine wpAny_mono hsp ?_ (fun _ _ z => z)
  rintro us s2 ⟨vs, H2, I2, rv, ⟨dy, gs, h2⟩, q⟩
  obtain ⟨mA, J, _⟩ := ins_get I2.hok h2
  obtain ⟨od, J, _⟩ := J.look
  refine ⟨⟨_, _, J, rfl⟩, ?_⟩
  have q' : sp (.ref a :: vs) H2 Q E := by rw [List.append_nil] at q; exact q
  have hl : (Value.ref a :: us).length = ps.length := by
    have := F.len _ _ _ _ q'
    rw [List.length_cons] at this ⊢
    rw [← this, rv.length]
  have hb2 := hb s2 (.ref a :: us) I2.kIn (by rw [List.append_nil]; exact hl)
  rw [List.append_nil] at hb2
  refine wpAny_call (PySem.W.kco_code (K := X.K) I2.kIn J rfl M.at_ M.fn M.fi (codeAny_mono (F.run X.A X.stack s2 H2 ⟨.ref a :: us, []⟩ (.ref a :: us) (.ref a :: vs) Q E hr I2.env0 hb2 (.cons rfl rv) q') fun r s' hq => ?_))
  cases r with
  | error e => exact hx pins σ H2 s2 e s' I2 hq
  | ok fl =>
    cases fl with
    | ret w => exact I2.after hq
    | next => exact False.elim hq
    | brk => exact False.elim hq
    | cont => exact False.elim hq
end
section
variable {K : PySem.W.Frag} {C : Cz} {ρ : List Sl} {P : D → Prop} {t : TA} {S : Sd} {E : XK} {Cl : Addr} {i : Nat} {l : List (Str × D)}
theorem eva_self {PL : List D → Prop} (e : ρ[i]? = some (.val (.ins Cl l))) (h : EvA K C t ρ fun ds => PL (.ins Cl l :: ds)) : EvA K C (tSelf Cl i t) ρ PL := fun σ H Q s k => by
  obtain ⟨x, e1, a⟩ := s.sl.get e
  cases a with
  | val a =>
    have a0 := a
    cases a with
    | ins h1 n h3 =>
      refine ⟨_, _, _, e1, h1, h σ H _ s fun ds vs H2 q2 s2 f2 a2 => ?_⟩
      have a1 := a0.fr (s.up f2)
      refine ⟨?_, k _ _ _ q2 s2 f2 (.cons a1 a2)⟩
      cases a1 with
      | ins g1 _ _ => exact ⟨_, _, g1⟩
theorem ev_callI (e : ρ[i]? = some (.val (.ins Cl l))) (h : EvA K C t ρ fun ds => S [] (.ins Cl l :: ds) (okP P)) : Ev K C (tCall (spD K S) [] E (tSelf Cl i t)) ρ P := ev_call (eva_self e h)
theorem ev_callIX (he : E = C.E) (e : ρ[i]? = some (.val (.ins Cl l))) (h : EvA K C t ρ fun ds => S [] (.ins Cl l :: ds) (exP C P)) : Ev K C (tCall (spD K S) [] E (tSelf Cl i t)) ρ P := ev_callX he (eva_self e h)
end
/-! ### defs that give new lists -/
abbrev Sn := List (Addr × Addr) → List D → (List D → Prop) → Prop
/-- the def's answer is a list that is new -/
def spN (K : PySem.W.Frag) (S : Sn) : Sp := fun vs H Q E => ∃ (O ts : Ads) (bs : List (Addr × Addr)) (ds : List D) (Pq : List D → Prop), AtAll K O H vs ds ∧ (∀ p, p ∈ O → H p ≠ none) ∧ (∀ q, q ∈ bs → Bag H q.1 q.2 ∧ q.1 ∈ O ∧ q.2 ∉ O) ∧ (∀ p, p ∈ ts → Tab H p) ∧ S bs ds Pq ∧
  (∀ l vs' p H', Pq l → Void H p → p ∉ O → H' p = some (.lst vs') → AtAll K (p :: O) H' vs' l → Fr (bs.map (·.1)) H H' → (∀ p, p ∈ O → H' p ≠ none) → (∀ q, q ∈ bs → Bag H' q.1 q.2 ∧ q.2 ≠ p) → (∀ p, p ∈ ts → Tab H' p) → Q (.ref p) H')
section
variable {P : Program} {w : World} {K : PySem.W.Frag} {mg : Str → Option Value} {base : Heap}
/-- a def that only returns a new list -/
theorem okN {x qual : Str} {st : Stmt} {f : Addr} {fd : FuncData} {N ps : List Str} {k : Nat} {S : Sn} (F : Fun K x qual st f fd) (sc : FnScope N ps (defScope st)) (len : ∀ bs ds Pq, S bs ds Pq → ds.length = ps.length)
    (hbody : ∀ (cdv : Value) (A : Around) (outer : List Env) (s : Shared) (H : Hp) (E : XK), Room k (A.deeper (envOfC qual (defScope st) s.heap.objs.size f cdv)) →
      ∃ te, PSs (cxOf CX0 P w K mg base N qual (defScope st) f cdv A outer s H E).nox (defBody st) (tRet te) ∧ ∀ (C : Cz) (ds : List D) (Pq : List D → Prop), C.E = E → S C.bags ds Pq → EvF K C te (slots N.length ds) Pq) : FnOk P w K mg base CX0 (k + 1) f fd ps (spN K S) :=
  F.ok sc (fun vs H Q E h => by
    obtain ⟨O, ts, bs, ds, Pq, a, _, _, _, hS, _⟩ := h
    rw [a.length, len _ _ _ hS]) fun cdv A outer s H vs Q E hr h => by
    obtain ⟨te, h1, h2⟩ := hbody cdv A outer s H E hr
    refine ⟨_, h1, ?_⟩
    obtain ⟨O, ts, bs, ds, Pq, a, lv, bg, ht, hS, q1⟩ := h
    have hl := a.length
    have eo : owns (slots N.length ds) = [] := owns_vals ds _
    have eO : ∀ H : Hp, (∀ p, p ∈ O → H p ≠ none) → ∀ p, p ∈ O ++ owns (slots N.length ds) → H p ≠ none := fun H lv p m => by
      rw [eo, List.append_nil] at m
      exact lv p m
    refine h2 ⟨O, H, bs.map (·.1), bs, [], [], E, fun _ => False, ts⟩ ds Pq rfl hS _ H _ ?_ fun l p H' hq s' f' => ?_
    · refine ⟨?_, by rw [eo]; exact List.nodup_nil, Fr.refl _ _, eO H lv, ⟨fun p m => ?_, fun q m => .inl (List.mem_map.mpr ⟨q, m, rfl⟩)⟩, fun p m => ?_, fun q m => ⟨(bg q m).1, (bg q m).2.1, ?_⟩, .nil, fun x hx => hx.elim, ht⟩
      · show Sls K (O ++ owns (slots N.length ds)) H (L2.start N vs) _
        rw [eo, List.append_nil]
        unfold L2.start slots
        rw [hl]
        exact sls_start a _
      · obtain ⟨q, hq, rfl⟩ := List.mem_map.mp m
        exact (bg q hq).2.1
      · rw [eo] at m; exact nomatch m
      · show q.2 ∉ O ++ owns (slots N.length ds)
        rw [eo, List.append_nil]
        exact (bg q m).2.2
    · have ho := own_V (i := (slots N.length ds).length) s'.sl (p := p) (ds := l) (by rw [List.getElem?_append_right (Nat.le_refl _)]; simp)
      obtain ⟨vs', _, g1, g2⟩ := ho
      have e2 : owns (slots N.length ds ++ [.own p l]) = [p] := by
        rw [owns_append, eo]
        rfl
      have hp : p ∈ owns (slots N.length ds ++ [.own p l]) := by rw [e2]; exact List.mem_singleton.mpr rfl
      refine q1 l vs' p H' hq (s'.fresh p hp).1 (s'.fresh p hp).2 g1 (g2.less fun x m => ?_) s'.fr (fun x m => s'.lv x (List.mem_append_left _ m)) (fun q m => ⟨(s'.bg q m).1, fun z => ?_⟩) s'.tb
      · show x ∈ O ++ owns _
        rw [e2]
        rcases List.mem_cons.mp m with m | m
        · exact List.mem_append_right _ (List.mem_singleton.mpr m)
        · exact List.mem_append_left _ m
      · exact (s'.bg q m).2.2 (by rw [z]; exact List.mem_append_right _ hp)
end
section
variable {K : PySem.W.Frag} {O O' : Ads} {H : Hp}
mutual
theorem At.exV (x : ∀ a o, a ∉ O → H a = some o → (∀ ps, o ≠ .tbl ps) → a ∉ O') : ∀ {v : V} {d : D}, At K O H v d → At K O' H v d
  | _, _, .fn h => .fn fun p m => ⟨(h p m).1, x _ _ (h p m).2.1 (h p m).1 (h p m).2.2, (h p m).2.2⟩
  | _, _, .any v => .any v
  | _, _, .non => .non
  | _, _, .bl b => .bl b
  | _, _, .int i => .int i
  | _, _, .str z => .str z
  | _, _, .tup h n t => .tup h (by
      rcases n with n | n
      · rcases h with (h | ⟨o, h⟩) | h
        · exact .inl (x _ _ n h fun _ z => nomatch z)
        · exact .inl (x _ _ n h fun _ z => nomatch z)
        · exact .inr fun _ => .inr h
      · exact .inr n) (AtAll.exV x t)
  | _, _, .lst h n t => .lst h (x _ _ n h fun _ z => nomatch z) (AtAll.exV x t)
  | _, _, .ins h n t => .ins h (x _ _ n h fun _ z => nomatch z) (AtFs.exV x t)
  | _, _, .oth v => .oth v
theorem AtAll.exV (x : ∀ a o, a ∉ O → H a = some o → (∀ ps, o ≠ .tbl ps) → a ∉ O') : ∀ {v : List V} {d : List D}, AtAll K O H v d → AtAll K O' H v d
  | _, _, .nil => .nil
  | _, _, .cons h t => .cons (At.exV x h) (AtAll.exV x t)
theorem AtFs.exV (x : ∀ a o, a ∉ O → H a = some o → (∀ ps, o ≠ .tbl ps) → a ∉ O') : ∀ {v : List (Str × V)} {d : List (Str × D)}, AtFs K O H v d → AtFs K O' H v d
  | _, _, .nil => .nil
  | _, _, .cons h t => .cons (At.exV x h) (AtFs.exV x t)
end
theorem CAt.exV {o : HO} {c : Cd} (x : ∀ a o, a ∉ O → H a = some o → (∀ ps, o ≠ .tbl ps) → a ∉ O') (a : CAt K O H o c) : CAt K O' H o c := by
  cases a with
  | lst a => exact .lst (a.exV x)
  | ins a => exact .ins (a.exV x)
  | dK e a => exact .dK e (a.exV x)
  | dT e a => exact .dT e (a.exV x)
end
/-- a list that a def has made becomes one's own -/
theorem St.adopt {K : PySem.W.Frag} {C : Cz} {ρ : List Sl} {σ : L2.St} {H1 H' : Hp} {p : Addr} {vs' : List V} {l : List D} (s1 : St K C ρ σ H1) (s2 : St K C ρ σ H') (f : Fr [] H1 H') (v : Void H1 p) (np : p ∉ Os C ρ) (hp : H' p = some (.lst vs')) (a : AtAll K (p :: Os C ρ) H' vs' l) (hb : ∀ q, q ∈ C.bags → q.2 ≠ p) :
    St K C (ρ ++ [.own p l]) (σ ++ [some (.ref p)]) H' := by
  have eo : owns (ρ ++ [.own p l]) = owns ρ ++ [p] := owns_append ρ _
  have sub : ∀ a, a ∈ Os C (ρ ++ [.own p l]) → a ∈ Os C ρ ∨ a = p := fun a m => by
    rw [show Os C (ρ ++ [.own p l]) = C.O0 ++ (owns ρ ++ [p]) by rw [← eo], ← List.append_assoc] at m
    exact (List.mem_append.mp m).imp id fun m => List.mem_singleton.mp m
  have x : ∀ a o, a ∉ Os C ρ → H1 a = some o → (∀ ps, o ≠ .tbl ps) → a ∉ Os C (ρ ++ [.own p l]) := fun a o n h nt m => by
    rcases sub a m with m | m
    · exact n m
    · subst m
      obtain ⟨ps, e⟩ := v o h
      exact nt ps e
  have f2 : ∀ O, Fr O H1 H' := fun O => f.mono fun _ m => nomatch m
  refine ⟨?_, ?_, s2.fr, fun q m => ?_, s1.nO, fun q m => ?_, fun q m => ⟨(s2.bg q m).1, (s2.bg q m).2.1, fun z => ?_⟩, (s1.held.exV x).fr (f2 _), s1.ex, s2.tb⟩
  · have h1 : Sls K (Os C (ρ ++ [.own p l])) H' σ ρ := s1.sl.map (fun _ _ a => (a.exV x).fr (f2 _)) fun q xs ds _ h a => ⟨_, f q _ List.not_mem_nil h a.nt, (a.exV x).fr (f2 _)⟩
    have h2 : SlAt K (Os C (ρ ++ [.own p l])) H' (some (.ref p)) (.own p l) := .cell hp (.lst (a.less fun b m => by
      rcases sub b m with m | m
      · exact List.mem_cons_of_mem _ m
      · exact m ▸ List.mem_cons_self ..))
    generalize Os C (ρ ++ [.own p l]) = O at h1 h2
    clear eo sub x np s1 s2 a
    induction h1 with
    | nil => exact .cons h2 .nil
    | cons a t ih => exact .cons a ih
  · rw [eo]
    exact List.nodup_append.mpr ⟨s1.nd, by simp, fun a ha b hb z => by rw [List.mem_singleton.mp hb] at z; subst z; exact np (List.mem_append_right _ ha)⟩
  · rcases sub q m with m | m
    · exact s2.lv q m
    · rw [m, hp]; exact fun z => nomatch z
  · rw [eo] at m
    rcases List.mem_append.mp m with m | m
    · exact s1.fresh q m
    · rw [List.mem_singleton.mp m]
      refine ⟨fun o h => Classical.byContradiction fun z => ?_, fun z => np (List.mem_append_left _ z)⟩
      have nN : p ∉ C.N := fun m => np (List.mem_append_left _ (s1.nO.1 p m))
      have h1 := s1.fr p o nN h fun ps e => z ⟨ps, e⟩
      exact z (v o h1)
  · rcases sub _ z with z | z
    · exact (s2.bg q m).2.2 z
    · exact hb q m z
section
variable {K : PySem.W.Frag} {C : Cz} {ρ : List Sl} {P : D → Prop} {PL : List D → Prop} {ta t : TA} {te : TE} {S : Sn} {E : XK} {Cl : Addr} {m : Str}
theorem evf_callN (h : EvA K C ta ρ fun ds => S [] ds PL) : EvF K C (tCall (spN K S) [] E ta) ρ PL := fun σ H Q s k =>
  h σ H _ s fun ds vs H1 q s1 f1 a1 => by
    rw [List.append_nil]
    refine ⟨Os C ρ, C.tabs, [], ds, PL, a1, s1.lv, (fun q m => nomatch m), s1.tb, q, fun l vs' p H' hq hv hO hp al f lv bg tb => ?_⟩
    have s2 := s1.kept f lv tb
    refine k l p H' hq (s1.adopt s2 f hv hO hp al fun q m z => ?_) (f1.trans (f.mono fun _ m => nomatch m))
    obtain ⟨cs, i, hh, sd, y⟩ := (s1.bg q m).1
    obtain ⟨ps, e⟩ := hv _ (z ▸ y.cells)
    cases e
theorem ev_callN (h : EvA K C ta ρ fun ds => S [] ds fun l => P (.lst l)) : Ev K C (tCall (spN K S) [] E ta) ρ P := ev_f (evf_callN h)
theorem evf_methN (h : Ev K C te ρ fun d => asIns Cl d fun l => l.lookup m = none ∧ EvA K C t ρ fun ds => S [] (.ins Cl l :: ds) PL) : EvF K C (tMeth Cl m (spN K S) [] E te t) ρ PL := evf_callN (eva_recv (m := m) h)
theorem ev_methN (h : Ev K C te ρ fun d => asIns Cl d fun l => l.lookup m = none ∧ EvA K C t ρ fun ds => S [] (.ins Cl l :: ds) fun r => P (.lst r)) : Ev K C (tMeth Cl m (spN K S) [] E te t) ρ P := ev_f (evf_methN h)
/-- something put behind a list that is let go -/
theorem run_appC {v : V} {PO : Out → Prop} (h : EvF K C te ρ fun l => l.length < sizeLine ∧ PO (.nx ρ)) : Run K C (tDrop (tBM K "list" rAppend te (tCons (tC v) tNil))) ρ PO := fun En σ H s k =>
  h σ H _ s fun l p H' q s' f' => by
    obtain ⟨vs, e1, h0, a⟩ := own_V (i := ρ.length) s'.sl (p := p) (ds := l) (by rw [List.getElem?_append_right (Nat.le_refl _)]; simp)
    refine ⟨.inl ⟨rfl, _, SqL.of h0⟩, p, vs, v, rfl, rfl, h0, by rw [a.length]; exact q.1, ?_⟩
    have s2 := s'.mut (i := ρ.length) (p := p) (ds := l) (ds' := l ++ [vD v]) (by rw [List.getElem?_append_right (Nat.le_refl _)]; simp) (a.append (.one (at_vD v)))
    rw [show (ρ ++ [Sl.own p l]).set ρ.length (Sl.own p (l ++ [vD v])) = ρ ++ [Sl.own p (l ++ [vD v])] by rw [List.set_append_right _ _ (Nat.le_refl _)]; simp] at s2
    exact k.nx _ _ _ q.2 s2.loose.1
end
/-! ### list(range(n)) -/
section
variable {K : PySem.W.Frag} {C : Cz} {ρ : List Sl} {P : D → Prop} {PL : List D → Prop} {ta tb : TE}
theorem rgV_at {O : Ads} {H : Hp} (a b : Int) : AtAll K O H (rgV a b) (rngD a (b - a).toNat) := by
  unfold rgV rngD
  refine AtAll.of (by simp) fun i v d hv hd => ?_
  rw [List.getElem?_map] at hv hd
  cases e : (List.range (b - a).toNat)[i]? with
  | none => rw [e] at hv; cases hv
  | some x =>
    rw [e] at hv hd
    cases hv
    cases hd
    exact .int _
theorem evf_listRg1 (h : Ev K C ta ρ fun d => asI d fun n => (0 ≤ n ∧ n ≤ 16777216) ∧ PL (rngD 0 n.toNat)) : EvF K C (tLstRg (tRg1 ta)) ρ PL := fun σ H Q s k => h σ H _ s fun d v H1 q s1 f1 a1 => by
  obtain ⟨n, rfl, rfl, ⟨q0, q1⟩, q⟩ := at_int a1 q
  refine ⟨n, rfl, RgOk.of_le (Int.le_refl 0) q1 (by omega) q0, fun p np => ?_⟩
  have := rgV_at (K := K) (O := Os C ρ) (H := H1) 0 n
  rw [Int.sub_zero] at this
  exact k _ p _ q (s1.own np this) (f1.trans (Fr.of (same_upd np)))
theorem ev_listRg1 (h : Ev K C ta ρ fun d => asI d fun n => (0 ≤ n ∧ n ≤ 16777216) ∧ P (.lst (rngD 0 n.toNat))) : Ev K C (tLstRg (tRg1 ta)) ρ P := ev_f (evf_listRg1 h)
end

/-! ### where more lambdas are written -/
def noE : Expr := .Name "_" ⟨0, 0, 0, 0⟩
def sVal : Stmt → Expr
  | .Assign _ v _ => v
  | .Expr v _ => v
  | _ => noE
def eRight : Expr → Expr
  | .BinOp _ _ r _ => r
  | _ => noE
def eItem (j : Nat) : Expr → Expr
  | .List es _ => es.getD j noE
  | .Call _ es _ _ => es.getD j noE
  | _ => noE
/-! ### lists of one's own, put together -/
section
variable {K : PySem.W.Frag} {C : Cz} {ρ : List Sl} {PL : List D → Prop} {ta tb : TE} {i : Nat} {PO : Out → Prop}
theorem evf_cat (h : Ev K C ta ρ fun d => asL d fun ds => Ev K C tb ρ fun e => asL e fun es => ds.length + es.length ≤ sizeLine ∧ PL (ds ++ es)) : EvF K C (tOp rCat ta tb) ρ PL := fun σ H Q s k =>
  h σ H _ s fun d v H1 q s1 f1 a1 => by
    obtain ⟨p, xs, ds, rfl, rfl, h1, n1, h3, q⟩ := at_L a1 q
    refine q σ H1 _ s1 fun e w H2 q s2 f2 a2 => ?_
    obtain ⟨p2, ys, es, rfl, rfl, h4, n2, h6, q⟩ := at_L a2 q
    have h1' : H2 p = some (.lst xs) := f2.mono (fun a m => by
      obtain ⟨q, hq, rfl⟩ := List.mem_map.mp m
      exact List.mem_append_left _ (s1.bg q hq).2.1) p _ n1 h1 fun _ z => nomatch z
    have h3' := h3.fr (s1.up f2)
    have l1 := h3.length
    have l2 := h6.length
    exact ⟨p, p2, xs, ys, rfl, rfl, h1', h4, by omega, fun c nc => k _ c _ q.2 (s2.own nc (h3'.append h6)) ((f1.trans f2).trans (Fr.of (same_upd nc)))⟩
theorem run_ownCat (h : Ev K C ta ρ fun d => asL d fun ds => Ev K C tb ρ fun e => asL e fun es => ds.length + es.length ≤ sizeLine ∧ i < ρ.length ∧ ∀ p, PO (.nx (ρ.set i (.own p (ds ++ es))))) : Run K C (tAsg (tOp rCat ta tb) (gName i)) ρ PO := run_own (evf_cat h)
end

/-! ### repr(e), by an own __repr__ -/
theorem kro_call {prog : Program} {w : World} {A : Around} {E : Value → Shared → Prop} {s : Shared} {K : PySem.W.Frag} {x C f : Addr} {ox : Obj} {od : Option Obj} {Q : Value → Shared → Prop}
    (hu : A.in1.units < cLine) (X : K.In s.heap) (I : PySem.W.InstAt s.heap x ox C od) (hr : PySem.W.findIn K (Value.ref C) (Str.ofString "__repr__") = some (some (Value.ref f))) (hf : PySem.W.isFn K (Value.ref f) = true)
    (h : wpAny (model prog w) A.in1 (PySem.call (Value.ref f) [Value.ref x]) (PySem.W.StrBack Q) E s) : wpAny (model prog w) A (PySem.call (Value.builtin "repr") [Value.ref x]) Q E s := by
  refine Calls.call_function_entry F.kind_repr F.plain_repr F.entry_repr (F.args_repr1 (.ref x)) ?_
  refine id (wpAny_bind (wpAny_pure (wpAny_bind (wpAny_cRoomFor hu (wpAny_bind (Q := _) ?_)))))
  refine wpAny_bind ?_
  refine PySem.W.Looks.here (PySem.W.InstAt.type I) ?_
  refine PySem.W.Looks.here (PySem.W.looks_findIn X hr) ?_
  refine wpAny_bind (PySem.W.ifBound_K X I hr hf (wpAny_mono h (fun r s' hr => ?_) fun _ _ z => z))
  match r, hr with
  | .str a t, hr => exact wpAny_bind (wpAny_isInstance rfl isSubtype_str_str (wpAny_pure ⟨_, rfl, hr⟩))
theorem call_reprOwn {X : Cx} {CX : CXT} {k : Nat} {f C : Addr} {fd : FuncData} {ps : List Str} {sp : Sp} {E : XK} (M : OwnOp X.K C f "__repr__") (F : FnOk X.prog X.w X.K X.mg X.base CX k f fd ps sp) (hb : Binds X.K fd ps []) (hr : Room (k + 1) X.A) (hx : Passes CX X E) : CallR X (.builtin "repr") (rStrOwn C sp E) := by
  intro pins s σ H xs us Q I r h
  obtain ⟨a, dx, fs, rfl, ha, q⟩ := h
  cases r with
  | cons r1 r2 =>
    cases r2
    cases r1
    obtain ⟨mA, J, _⟩ := ins_get I.hok ha
    obtain ⟨od, J, _⟩ := J.look
    refine kro_call (by have := hr.un; show X.A.units + 1 < cLine; omega) I.kIn J M.at_ M.fn ?_
    have e0 : Env0 X.prog X.w X.K X.mg X.base X.A.in1 X.stack s H := by
      have e := I.env0
      exact ⟨e.frames, e.mod, e.bs, e.bsz, e.funs, e.frf, e.hok, e.bare⟩
    have hl := F.len _ _ _ _ q
    refine wpAny_call (codeAny_mono (F.run X.A.in1 X.stack s H ⟨[.ref a], []⟩ [.ref a] [.ref a] _ E hr.in1 e0 (by
      have := hb s [.ref a] I.kIn (by simpa using hl)
      simpa using this) (.cons rfl .nil) q) fun r s' hq => ?_)
    cases r with
    | error e => exact hx pins σ H s e s' I hq
    | ok fl =>
      cases fl with
      | ret w =>
        obtain ⟨z, H', I', rz, n, ez, q⟩ := I.after hq
        subst ez
        obtain ⟨t, rfl⟩ := (show ∃ t, w = Value.str n t from rz)
        exact ⟨.str n, H', I', ⟨_, rfl⟩, q⟩
      | next => exact False.elim hq
      | brk => exact False.elim hq
      | cont => exact False.elim hq
/-! ### x != y, by an own __eq__ -/
theorem cmp_same {prog : Program} {w : World} {A : Around} {E : Value → Shared → Prop} {s : Shared} {x C : Addr} {ox : Obj} {od : Option Obj} {b : Value} {Q : Value → Shared → Prop} (hu : A.units < cLine) (I : PySem.W.InstAt s.heap x ox C od) (hb : PySem.W.Looks (model prog w) s.heap (typeOf b) (.ref C))
    (one : wpAny (model prog w) A (tryCompare (.ref x) (cmpInfo .NotEq).2.fst b) (fun r s' => ∃ v, r = some v ∧ Q v s') E s) : wpAny (model prog w) A (richCompare .NotEq (.ref x) b) Q E s := by
  unfold richCompare
  refine wpAny_holding ?_
  refine wpAny_bind (wpAny_cRoomFor hu ?_)
  have e : oneThing? .NotEq (.ref x) b = none := rfl
  rw [e]
  dsimp only
  generalize cmpInfo .NotEq = ci at *
  obtain ⟨sym, f, r⟩ := ci
  dsimp only at *
  refine wpAny_bind (PySem.W.Looks.here (PySem.W.InstAt.type I) ?_)
  refine wpAny_bind (PySem.W.Looks.here hb ?_)
  rw [if_neg (by simp)]
  refine wpAny_bind (wpAny_pure ?_)
  rw [if_neg (by decide)]
  refine wpAny_bind (wpAny_mono one (fun r s' hr => ?_) fun _ _ z => z)
  obtain ⟨v, rfl, q⟩ := hr
  exact wpAny_pure q
theorem ifBound_B {M : Model} {A : Around} {E : Value → Shared → Prop} {s : Shared} {K : PySem.W.Frag} {x C : Addr} {ox : Obj} {od : Option Obj} {name : Str} {id : String} {args : List Value} {Q : Option Value → Shared → Prop} (X : K.In s.heap) (I : PySem.W.InstAt s.heap x ox C od)
    (hs : PySem.W.findIn K (.ref C) name = some (some (.builtin id))) (hb : ∀ self : Value, bindSpecial (.builtin id) self = pure (.builtin id, [self])) (h : wpAny M A (PySem.call (.builtin id) (.ref x :: args)) (fun v => Q (some v)) E s) : wpAny M A (callSpecialIfBound? (.ref x) name args) Q E s := by
  have fin : wpAny M A (do let r ← PySem.call (.builtin id) ([Value.ref x] ++ args); pure (some r)) Q E s := wpAny_bind (wpAny_mono h (fun v s' h' => wpAny_pure h') fun _ _ h' => h')
  refine wpAny_holding (wpAny_bind (wpAny_bind (wpAny_bind (PySem.W.Looks.here (PySem.W.InstAt.type I) (PySem.W.Looks.here (PySem.W.looks_findIn X hs) (wpAny_bind (wpAny_askSetting (wpAny_ite ?_))))))))
  split
  · exact wpAny_bind (PySem.W.Looks.here (PySem.W.Looks.of_pure (hb (.ref x))) (wpAny_pure fin))
  · exact wpAny_tryCatch (wpAny_bind (PySem.W.Looks.here (PySem.W.Looks.of_pure (hb (.ref x))) (wpAny_pure fin)))
theorem ne_K {prog : Program} {w : World} {A : Around} {E : Value → Shared → Prop} {s : Shared} {K : PySem.W.Frag} {x C f : Addr} {ox : Obj} {od : Option Obj} {b : Value} {Q : Value → Shared → Prop} (hu : A.in1.units < cLine) (hu0 : A.units < cLine) (X : K.In s.heap) (I : PySem.W.InstAt s.heap x ox C od) (hb : PySem.W.Looks (model prog w) s.heap (typeOf b) (.ref C))
    (hn : PySem.W.findIn K (.ref C) (cmpInfo .NotEq).2.1 = some (some (.builtin "object.__ne__"))) (hm : PySem.W.mroIn K C (Value.type "object") = some true) (hr : PySem.W.findIn K (.ref C) (Str.ofString "__eq__") = some (some (.ref f))) (hf : PySem.W.isFn K (.ref f) = true)
    (h : wpAny (model prog w) A.in1 (PySem.call (.ref f) [.ref x, b]) (fun v s' => ∃ z : Bool, v = .bool z ∧ Q (.bool (!z)) s') E s) : wpAny (model prog w) A (richCompare .NotEq (.ref x) b) Q E s := by
  refine cmp_same hu0 I hb ?_
  unfold tryCompare
  refine wpAny_bind (ifBound_B X I hn F.slot_object_ne.bind ?_)
  refine wpAny_call (codeAny_call_builtin F.slot_object_ne.plain F.entry_object_ne (PySem.W.check_slot (owner := "object") (n := "__ne__") (by decide +kernel) (by decide +kernel) (PySem.W.Looks.andThen (PySem.W.InstAt.type I) (PySem.W.looks_mroIn X hm)) (F.args_object_ne_2 (.ref x) b) ?_))
  refine id (wpAny_bind (wpAny_pure (wpAny_bind (wpAny_cRoomFor hu (wpAny_bind (PySem.W.ifBound_K X I hr hf (wpAny_mono h (fun r s' hr => ?_) fun _ _ z => z)))))))
  obtain ⟨z, rfl, q⟩ := hr
  refine wpAny_bind (wpAny_truthy_bool ?_)
  refine wpAny_pure ?_
  exact wpAny_pure ⟨_, rfl, q⟩
structure OwnNe (K : PySem.W.Frag) (C f : Addr) : Prop where
  ne_ : PySem.W.findIn K (.ref C) (PySem.cmpInfo .NotEq).2.1 = some (some (.builtin "object.__ne__"))
  obj : PySem.W.mroIn K C (Value.type "object") = some true
  at_ : PySem.W.findIn K (.ref C) "__eq__" = some (some (.ref f))
  fn : PySem.W.isFn K (.ref f) = true
def rOwnNe (C : Addr) (sp : Sp) (E : XK) : R2 := fun x y H Q => ∃ a dx fs b dy gs, x = .ref a ∧ y = .ref b ∧ H a = some (.ins C dx fs) ∧ H b = some (.ins C dy gs) ∧ sp [x, y] H (fun v H' => ∃ z, v = .bl z ∧ Q (.bl (!z)) H') E
theorem op_ownNe {X : Cx} {CX : CXT} {k : Nat} {f C : Addr} {fd : FuncData} {ps : List Str} {sp : Sp} {E : XK} (N : OwnNe X.K C f) (F : FnOk X.prog X.w X.K X.mg X.base CX k f fd ps sp) (hb : Binds X.K fd ps []) (hr : Room (k + 1) X.A) (hx : Passes CX X E) : OpR X (compareOp .NotEq) (rOwnNe C sp E) := by
  intro pins s σ H x y v u Q I rx ry hq
  obtain ⟨a, dx, fs, b, dy, gs, rfl, rfl, ha, hb', q⟩ := hq
  obtain rfl : v = Value.ref a := rx
  obtain rfl : u = Value.ref b := ry
  obtain ⟨mA, J, _⟩ := ins_get I.hok ha
  obtain ⟨mB, J', _⟩ := ins_get I.hok hb'
  obtain ⟨od, J, _⟩ := J.look
  obtain ⟨od', J', _⟩ := J'.look
  show wpAny (model X.prog X.w) X.A (richCompare .NotEq (.ref a) (.ref b)) (EP X pins σ Q) X.xe s
  refine ne_K (by have := hr.un; show X.A.units + 1 < cLine; omega) hr.units0 I.kIn J J'.type N.ne_ N.obj N.at_ N.fn ?_
  have e0 : Env0 X.prog X.w X.K X.mg X.base X.A.in1 X.stack s H := by
    have e := I.env0
    exact ⟨e.frames, e.mod, e.bs, e.bsz, e.funs, e.frf, e.hok, e.bare⟩
  have hl := F.len _ _ _ _ q
  refine wpAny_call (codeAny_mono (F.run X.A.in1 X.stack s H ⟨[.ref a, .ref b], []⟩ [.ref a, .ref b] [.ref a, .ref b] _ E hr.in1 e0 (by
    have := hb s [.ref a, .ref b] I.kIn (by simpa using hl)
    simpa using this) (.cons rfl (.cons rfl .nil)) q) fun r s' hq => ?_)
  cases r with
  | error e => exact hx pins σ H s e s' I hq
  | ok fl =>
    cases fl with
    | ret w =>
      obtain ⟨z, H', I', rz, n, ez, q⟩ := I.after hq
      subst ez
      have e : w = Value.bool n := rz
      exact ⟨n, e, .bl (!n), H', I', rfl, q⟩
    | next => exact False.elim hq
    | brk => exact False.elim hq
    | cont => exact False.elim hq
section
variable {K : PySem.W.Frag} {C : Cz} {ρ : List Sl} {P : D → Prop} {ta tb : TE} {S : Sd} {E : XK} {Cl : Addr}
theorem ev_ownNe (h : Ev K C ta ρ fun d => Ev K C tb ρ fun e => asIns Cl d fun l => asIns Cl e fun r => S [] [.ins Cl l, .ins Cl r] (okP fun d => asB d fun z => P (.bl (!z)))) : Ev K C (tOp (rOwnNe Cl (spD K S) E) ta tb) ρ P := fun σ H Q s k => h σ H _ s fun d v H1 q s1 f1 a1 => q σ H1 _ s1 fun e u H2 q2 s2 f2 a2 => by
  have a1' := a1.fr (s.up f2)
  obtain ⟨p, dx, fs, l, rfl, rfl, h1, _, h3, q2⟩ := at_ins a1' q2
  obtain ⟨p', dx', fs', l', rfl, rfl, h1', _, h3', q2⟩ := at_ins a2 q2
  refine ⟨p, dx, fs, p', dx', fs', rfl, rfl, h1, h1', Os C ρ, C.tabs, [], [.ins Cl l, .ins Cl l'], _, .cons a1' (.one a2), s2.lv, (fun q m => nomatch m), s2.tb, q2, fun d v H' p f lv bg tb a => ?_, fun x p => False.elim p⟩
  obtain ⟨z, rfl, rfl, q⟩ := at_bl a (show asB d _ from p)
  exact ⟨z, rfl, k _ _ _ q (s2.kept f lv tb) ((f1.trans f2).trans (f.mono fun _ m => nomatch m)) (.bl _)⟩
end

/-! ### x in [..], by an own __eq__ that answers for the other side -/
section
open PySem.SeqAt GQ MeetsSeq MeetsSeq2 MeetsSeq3 SeqRoads2
open AutoSeq1 (wpAny_loadPart')
variable {prog : Program} {w : World} {A : Around} {R : Result → Shared → Prop}
/-- at each turn the list is read anew: N items -/
def ContI (prog : Program) (w : World) (A : Around) (E : Value → Shared → Prop) (T : Shared → Prop) (l : Addr) (x : Value) (N : Nat) (I : Nat → Shared → Prop) : Prop :=
  ∀ i s, I i s → ∃ (items : Array Value) (n : Nat), s.heap.get? l = some { cls := .type "list", data := .seq items n } ∧ items.size = N ∧
    ∀ h1 : i < items.size, wpAny (model prog w) A.in1 (eqBool items[i] x) (fun r s' => if r = true then T s' else I (i + 1) s') E s
theorem cont_loopG (l : Addr) (x : Value) (N : Nat) (I : Nat → Shared → Prop) (hl : ContI prog w A (fun e s' => R (.error e) s') (fun s' => R (.ok (.ret (.bool true))) s') l x N I)
    (fin : ∀ s, I N s → R (.ok (.ret (.bool false))) s) (k : Nat) :
    ∀ i : Nat, N - i = k → i ≤ N → ∀ s, I i s →
      wpAny (model prog w) A.in1 (Builtin.«list.__contains__.loop» ⟨[.ref l, x, rawInt i], []⟩) (FinOf prog w A R) (fun e s' => R (.error e) s') s := by
  induction k with
  | zero =>
    intro i hk hi s h
    obtain ⟨items, n, hl, hz, _⟩ := hl _ _ h
    have hi' : i = N := by omega
    have hR := fin s (hi' ▸ h)
    obtain ⟨hp, g, d, tk, os⟩ := s
    wp_walk using wpAny_loadPart' hl
    have hi1 : items[((i : Nat) : Int).toNat]? = none := by simp; omega
    rw [hi1]
    wp_walk
    exact hR
  | succ k ih =>
    intro i hk hi s h
    obtain ⟨items, n, hl, hz, turn⟩ := hl _ _ h
    have hlt : i < items.size := by omega
    have ht := turn hlt
    obtain ⟨hp, g, d, tk, os⟩ := s
    wp_walk using wpAny_loadPart' hl
    have hi1 : items[((i : Nat) : Int).toNat]? = some items[i] := by simp [hlt]
    have hc : ((i : Int) + 1) = ((i + 1 : Nat) : Int) := by omega
    rw [hi1]
    refine wpAny_bind (wpAny_mono ht (fun r s2 h2 => ?_) fun _ _ x => x)
    cases r with
    | true =>
      rw [if_pos rfl] at h2
      obtain ⟨hp2, g2, d2, tk2, os2⟩ := s2
      wp_walk
      exact h2
    | false =>
      rw [if_neg (by decide)] at h2
      have hrec := ih (i + 1) (by omega) (by omega) s2 h2
      obtain ⟨hp2, g2, d2, tk2, os2⟩ := s2
      wp_walk
      rw [hc]
      exact ⟨plainId_quiet plain_contains_loop _, codeAny_builtin entry_contains_loop (by
        rw [Around.under_plainId plain_contains_loop _]
        exact hrec)⟩
theorem in_listG {E : Value → Shared → Prop} {s : Shared} {l : Addr} {x : Value} {N : Nat} {Q : Value → Shared → Prop} (I : Nat → Shared → Prop)
    (hl : ContI prog w A E (fun s' => Q (.bool true) s') l x N I)
    (fin : ∀ s, I N s → Q (.bool false) s) (h : I 0 s) : wpAny (model prog w) A (compareOp .In x (.ref l)) Q E s := by
  obtain ⟨items, n, ho, hz, _⟩ := hl _ _ h
  show wpAny _ A (do return .bool (← contains (.ref l) x)) Q E s
  refine wpAny_bind (wpAny_contains_slot ⟨_, ho, rfl⟩ F.slot_list_contains (wpAny_mono (call_here (Q := fun v s' => ∃ b, v = .bool b ∧ Q (.bool b) s') F.slot_list_contains ⟨_, ho, rfl⟩ F.entry_list_contains (F.args_list_contains_2 _ _) ?_) (fun v s' hv => ?_) fun _ _ e => e))
  · have hrec := cont_loopG (R := wants (fun v s' => ∃ b, v = .bool b ∧ Q (.bool b) s') E) l x N I (fun i s' q => by
      obtain ⟨items, n, ho, hz, turn⟩ := hl i s' q
      exact ⟨items, n, ho, hz, fun h1 => wpAny_mono (turn h1) (fun r s2 h2 => by
        cases r with
        | true => rw [if_pos rfl] at h2 ⊢; exact ⟨true, rfl, h2⟩
        | false => rw [if_neg (by decide)] at h2 ⊢; exact h2) fun _ _ e => e⟩) (fun s' q => ⟨false, rfl, fin s' q⟩) _ 0 rfl (Nat.zero_le _) s h
    obtain ⟨hp, g, d, tk, os⟩ := s
    wp_walk using wpAny_loadPart' ho
    exact ⟨plainId_quiet plain_contains_loop _, codeAny_builtin entry_contains_loop (by
      rw [Around.under_plainId plain_contains_loop _]
      exact hrec)⟩
  · obtain ⟨b, rfl, hq⟩ := hv
    exact wpAny_truthy_bool (wpAny_pure hq)
end

section
open PySem.SeqAt GQ MeetsSeq MeetsSeq2 MeetsSeq3 SeqRoads2
open AutoSeq1 (wpAny_loadPart')
variable {prog : Program} {w : World} {A : Around} {E : Value → Shared → Prop} {s : Shared} {K : PySem.W.Frag} {x C f : Addr} {ox : Obj} {od : Option Obj}
theorem rc_refl {y : Value} {T id : String} {Q : Value → Shared → Prop} (hu : A.units < cLine) (hy : s.TypeIs y T) (X : K.In s.heap) (I : PySem.W.InstAt s.heap x ox C od) (hs : PySem.W.mroIn K C (.type T) = some false) (h1 : Slot T (cmpInfo .Eq).2.1 id)
    (hc : ∀ Q' : Value → Shared → Prop, Q' .notImplemented s → wpAny (model prog w) A (PySem.call (.builtin id) [y, .ref x]) Q' E s)
    (hr : PySem.W.findIn K (.ref C) "__eq__" = some (some (.ref f))) (hf : PySem.W.isFn K (.ref f) = true)
    (h : wpAny (model prog w) A (PySem.call (.ref f) [.ref x, y]) (fun v s' => ∃ z : Bool, v = .bool z ∧ Q (.bool z) s') E s) : wpAny (model prog w) A (richCompare .Eq y (.ref x)) Q E s := by
  have hr : PySem.W.findIn K (.ref C) (cmpInfo .Eq).2.2 = some (some (.ref f)) := hr
  rcases hi : cmpInfo CmpOp.Eq with ⟨sym, g, r⟩
  rw [hi] at h1 hr
  simp only [richCompare, hi, hy.oneThing_none]
  refine wpAny_holding ?_
  refine wpAny_bind (wpAny_cRoomFor hu ?_)
  refine wpAny_bind (wpAny_typeOf hy (wpAny_bind (PySem.W.Looks.here (PySem.W.InstAt.type I) ?_)))
  have hne : (Value.type T != Value.ref C) = true := rfl
  simp only [hne, if_true]
  refine wpAny_bind (PySem.W.Looks.here (PySem.W.looks_mroIn X hs) ?_)
  simp only [Bool.false_eq_true, if_false, Bool.not_false, if_true]
  refine wpAny_bind (m := tryCompare y _ (.ref x)) (wpAny_tryCompare_declines hy h1 (hc _ ⟨rfl, ?_⟩))
  refine wpAny_bind (m := tryCompare (.ref x) _ y) ?_
  unfold tryCompare
  refine wpAny_bind (PySem.W.ifBound_K X I hr hf (wpAny_mono h (fun v s' hv => ?_) fun _ _ e => e))
  obtain ⟨z, rfl, q⟩ := hv
  exact wpAny_pure (wpAny_pure q)
theorem eqBool_refl {y : Value} {Q : Bool → Shared → Prop} (hne : y ≠ .ref x) (hnf : ∀ a t, y ≠ .float a t) (h : wpAny (model prog w) A (richCompare .Eq y (.ref x)) (fun v s' => ∃ r, v = .bool r ∧ Q r s') E s) : wpAny (model prog w) A (eqBool y (.ref x)) Q E s := by
  unfold eqBool
  refine wpAny_holding ?_
  refine wpAny_ite_split (fun hab => absurd (eq_of_beq hab) hne) (fun _ => ?_)
  cases y with
  | float a t => exact absurd rfl (hnf a t)
  | _ =>
    refine wpAny_bind (wpAny_mono h (fun v s' hv => ?_) fun _ _ x => x)
    obtain ⟨r, rfl, q⟩ := hv
    exact wpAny_truthy_bool q
/-- what declines: None, a text, a tuple, a list -/
theorem dec_non (Q' : Value → Shared → Prop) (hq : Q' .notImplemented s) : wpAny (model prog w) A (PySem.call (.builtin "NoneType.__eq__") [.none, .ref x]) Q' E s :=
  call_gives F.slot_NoneType_eq rfl F.entry_NoneType_eq (F.args_NoneType_eq_2 _ _) (NoneType___eq___none_ref_0 x) hq
theorem str_dec (b : Str) (u : Tok) (l : Addr) (o : Obj) (hd : o.data = .plain) :
    Meets (Builtin.«str.__eq__» ⟨[.str b u, .ref l], []⟩) (fun _ R s => s.heap.get? l = some o ∧ R (.ok (.ret .notImplemented)) s) :=
  .of_wp fun prog w A R s h => by
    obtain ⟨hp, g, d, tk, os⟩ := s
    obtain ⟨hl, h⟩ := h
    obtain ⟨cls, dd, data, sl⟩ := o
    subst hd
    wp_walk using wpAny_loadPart' hl, wpAny_load hl
    exact ⟨_, rfl, h⟩
theorem dec_str {z : Str} {t : Tok} (ha : s.heap.get? x = some ox) (hd : ox.data = .plain) (Q' : Value → Shared → Prop) (hq : Q' .notImplemented s) : wpAny (model prog w) A (PySem.call (.builtin "str.__eq__") [.str z t, .ref x]) Q' E s :=
  call_meets F.slot_str_eq (typeIs_str s z t) F.entry_str_eq (F.args_str_eq_2 _ _) (str_dec z t x ox hd) ⟨ha, hq⟩
theorem dec_tup {l : Addr} {items : Array Value} (hl : s.heap.IsTuple l items) (X : K.In s.heap) (I : PySem.W.InstAt s.heap x ox C od) (hs : PySem.W.mroIn K C (.type "tuple") = some false) (Q' : Value → Shared → Prop) (hq : Q' .notImplemented s) :
    wpAny (model prog w) A (PySem.call (.builtin "tuple.__eq__") [.ref l, .ref x]) Q' E s := by
  obtain ⟨⟨cls, dd, data, sl⟩, ho, hc, n, hd⟩ := id hl
  simp only at hc hd
  subst hc hd
  refine call_here F.slot_tuple_eq ⟨_, ho, rfl⟩ F.entry_tuple_eq (F.args_tuple_eq_2 _ _) ?_
  have h1 := PySem.W.InstAt.type (M := model prog w) I
  have h2 := PySem.W.looks_mroIn (M := model prog w) X hs
  have h3 : PySem.W.Looks (model prog w) s.heap (isInstance (.ref x) (.type "tuple")) false := h1.andThen h2
  obtain ⟨hp, g, d, tk, os⟩ := s
  wp_walk using wpAny_loadPart' ho, PySem.W.Looks.here h3
  exact hq
theorem dec_lst {l : Addr} {items : Array Value} (hl : s.heap.IsList l items) (X : K.In s.heap) (I : PySem.W.InstAt s.heap x ox C od) (hs : PySem.W.mroIn K C (.type "list") = some false) (Q' : Value → Shared → Prop) (hq : Q' .notImplemented s) :
    wpAny (model prog w) A (PySem.call (.builtin "list.__eq__") [.ref l, .ref x]) Q' E s := by
  obtain ⟨⟨cls, dd, data, sl⟩, ho, hc, n, hd⟩ := id hl
  simp only at hc hd
  subst hc hd
  refine call_here F.slot_list_eq ⟨_, ho, rfl⟩ F.entry_list_eq (F.args_list_eq_2 _ _) ?_
  have h1 := PySem.W.InstAt.type (M := model prog w) I
  have h2 := PySem.W.looks_mroIn (M := model prog w) X hs
  have h3 : PySem.W.Looks (model prog w) s.heap (isInstance (.ref x) (.type "list")) false := h1.andThen h2
  obtain ⟨hp, g, d, tk, os⟩ := s
  wp_walk using wpAny_loadPart' ho, PySem.W.Looks.here h3
  exact hq
end
/-- what leaves the answer to the other side -/
inductive Decl (K : PySem.W.Frag) (H : Hp) : V → Prop
  | non : Decl K H .non
  | str (z : Str) : Decl K H (.str z)
  | tup {a : Addr} {xs : List V} : SqT K H a xs → Decl K H (.ref a)
  | lst {a : Addr} {xs : List V} : H a = some (.lst xs) → Decl K H (.ref a)
structure OwnIn (K : PySem.W.Frag) (C f : Addr) : Prop where
  n1 : PySem.W.mroIn K C (.type "NoneType") = some false
  n2 : PySem.W.mroIn K C (.type "str") = some false
  n3 : PySem.W.mroIn K C (.type "tuple") = some false
  n4 : PySem.W.mroIn K C (.type "list") = some false
  at_ : PySem.W.findIn K (.ref C) "__eq__" = some (some (.ref f))
  fn : PySem.W.isFn K (.ref f) = true
/-- isinstance(e, C) of what is no instance -/
structure NoOwn (K : PySem.W.Frag) (C : Addr) : Prop where
  n1 : PySem.W.kitOne K (.type "NoneType") (.ref C) = some false
  n2 : PySem.W.kitOne K (.type "str") (.ref C) = some false
  n3 : PySem.W.kitOne K (.type "tuple") (.ref C) = some false
  n4 : PySem.W.kitOne K (.type "list") (.ref C) = some false
def inG (K : PySem.W.Frag) (C l a : Addr) (xs : List V) (sp : Sp) (E : XK) : List V → VK → Hp → Prop
  | [], Q, H => H l = some (.lst xs) ∧ Q (.bl false) H
  | y :: ys, Q, H => H l = some (.lst xs) ∧ (∃ dx fs, H a = some (.ins C dx fs)) ∧ Decl K H y ∧ sp [.ref a, y] H (fun v H' => ∃ z, v = .bl z ∧ if z = true then Q (.bl true) H' else inG K C l a xs sp E ys Q H') E
theorem inG.lst {K : PySem.W.Frag} {C l a : Addr} {xs ys : List V} {sp : Sp} {E : XK} {Q : VK} {H : Hp} (h : inG K C l a xs sp E ys Q H) : H l = some (.lst xs) := by
  cases ys with
  | nil => exact h.1
  | cons y ys => exact h.1
def rInOwn (K : PySem.W.Frag) (C : Addr) (sp : Sp) (E : XK) : R2 := fun x y H Q => ∃ a l xs, x = .ref a ∧ y = .ref l ∧ inG K C l a xs sp E xs Q H
theorem eq_own {X : Cx} {CX : CXT} {k : Nat} {f C : Addr} {fd : FuncData} {ps : List Str} {sp : Sp} {E : XK} {pins : List (Addr × Obj)} {σ : L2.St} {H : Hp} {s : Shared} {A : Around} {a : Addr} {y : V} {u : Value} {Q : VK}
    (N : OwnIn X.K C f) (F : FnOk X.prog X.w X.K X.mg X.base CX k f fd ps sp) (hb : Binds X.K fd ps []) (sb : Sub X k A) (hx : Passes CX X E) (I : Inv X pins σ H s) (ry : RelV y u) (hi : ∃ dx fs, H a = some (.ins C dx fs)) (hd : Decl X.K H y) (q : sp [.ref a, y] H Q E) :
    wpAny (model X.prog X.w) A (PySem.call (.ref f) [.ref a, u]) (EP X pins σ Q) X.xe s := by
  have e0 : Env0 X.prog X.w X.K X.mg X.base A X.stack s H := by
    have e := I.env0
    exact ⟨by rw [sb.fr]; exact e.frames, e.mod, e.bs, e.bsz, e.funs, e.frf, e.hok, e.bare⟩
  have hl := F.len _ _ _ _ q
  refine wpAny_call (codeAny_mono (F.run A X.stack s H ⟨[.ref a, u], []⟩ [.ref a, u] [.ref a, y] _ E sb.room e0 (by
    have := hb s [.ref a, u] I.kIn (by simpa using hl)
    simpa using this) (.cons rfl (.cons ry .nil)) q) fun r s' hq => ?_)
  cases r with
  | error e => exact hx pins σ H s e s' I hq
  | ok fl =>
    cases fl with
    | ret w => exact I.after hq
    | next => exact False.elim hq
    | brk => exact False.elim hq
    | cont => exact False.elim hq
theorem op_inOwn {X : Cx} {CX : CXT} {k : Nat} {f C : Addr} {fd : FuncData} {ps : List Str} {sp : Sp} {E : XK} {K : PySem.W.Frag} (N : OwnIn X.K C f) (F : FnOk X.prog X.w X.K X.mg X.base CX k f fd ps sp) (hb : Binds X.K fd ps []) (hr : Room (k + 1) X.A) (hx : Passes CX X E) (hK : X.K = K := by rfl) : OpR X (compareOp .In) (rInOwn K C sp E) := by
  subst hK
  intro pins s σ H x y v u Q I rx ry hq
  obtain ⟨a, l, xs, rfl, rfl, q⟩ := hq
  obtain rfl : v = Value.ref a := rx
  obtain rfl : u = Value.ref l := ry
  have sb : Sub X k X.A.in1 := ⟨hr.in1, rfl⟩
  refine in_listG (N := xs.length) (fun i s' => i ≤ xs.length ∧ ∃ H', Inv X pins σ H' s' ∧ inG X.K C l a xs sp E (xs.drop i) Q H') ?_ ?_ ⟨Nat.zero_le _, H, I, q⟩
  · rintro i s' ⟨hi, H', I', q⟩
    obtain ⟨z, its, n, r, e⟩ := I'.hok l _ q.lst
    refine ⟨its.toArray, n, e, by rw [List.size_toArray, ← r.length], fun h1 => ?_⟩
    have h1' : i < its.length := by simpa using h1
    have k1 : i < xs.length := by rw [r.length]; exact h1'
    obtain ⟨u, hu, ru⟩ := r.get (List.getElem?_eq_getElem k1)
    have hu' : its.toArray[i] = u := by
      rw [List.getElem?_eq_getElem h1'] at hu
      rw [← Option.some.inj hu] <;> simp
    rw [hu']
    rw [List.drop_eq_getElem_cons k1] at q
    obtain ⟨_, hi', hd, q⟩ := q
    generalize xs[i] = y at ru hd q
    obtain ⟨dx, fs, ha⟩ := id hi'
    obtain ⟨ox, od, J, hpl⟩ := StX.insC_at (X := X) I' (.inr ⟨dx, fs, ha⟩)
    have key : ∀ {T id : String}, s'.TypeIs u T → PySem.W.mroIn X.K C (.type T) = some false → Slot T (cmpInfo .Eq).2.1 id → (∀ Q' : Value → Shared → Prop, Q' .notImplemented s' → wpAny (model X.prog X.w) X.A.in1 (PySem.call (.builtin id) [u, .ref a]) Q' X.xe s') → u ≠ .ref a → (∀ c t, u ≠ .float c t) →
        wpAny (model X.prog X.w) X.A.in1 (eqBool u (.ref a)) (fun r s' => if r = true then EP X pins σ Q (.bool true) s' else i + 1 ≤ xs.length ∧ ∃ H', Inv X pins σ H' s' ∧ inG X.K C l a xs sp E (xs.drop (i + 1)) Q H') X.xe s' := fun hT hm hs hc n1 n2 => by
      refine eqBool_refl n1 n2 (rc_refl sb.room.units0 hT I'.kIn J hm hs hc N.at_ N.fn (wpAny_mono (eq_own N F hb sb hx I' ru hi' hd q) (fun r s2 hr2 => ?_) fun _ _ e => e))
      obtain ⟨v, H2, I2, rv, z, rfl, q2⟩ := hr2
      obtain rfl : r = Value.bool z := rv
      refine ⟨z, rfl, z, rfl, ?_⟩
      cases z with
      | true => rw [if_pos rfl] at q2 ⊢; exact ⟨.bl true, H2, I2, rfl, q2⟩
      | false => rw [if_neg (by decide)] at q2 ⊢; exact ⟨k1, H2, I2, q2⟩
    cases hd with
    | non =>
      obtain rfl : u = Value.none := ru
      exact key rfl N.n1 PySem.F.slot_NoneType_eq (fun Q' h => dec_non Q' h) (fun z => nomatch z) (fun _ _ z => nomatch z)
    | str z =>
      obtain ⟨t, rfl⟩ := (show ∃ t, u = Value.str z t from ru)
      exact key (typeIs_str _ _ _) N.n2 PySem.F.slot_str_eq (fun Q' h => dec_str J.at_ hpl Q' h) (fun z => nomatch z) (fun _ _ z => nomatch z)
    | @tup b ys hb' =>
      obtain rfl : u = Value.ref b := ru
      obtain ⟨its2, r2, pl2, _⟩ := I'.tuple hb'
      obtain ⟨o2, ho2, hc2, _⟩ := id pl2
      refine key ⟨o2, ho2, hc2⟩ N.n3 PySem.F.slot_tuple_eq (fun Q' h => dec_tup pl2 I'.kIn J N.n3 Q' h) (fun z => ?_) (fun _ _ z => nomatch z)
      cases z
      have e1 := J.at_.symm.trans ho2
      cases e1
      exact nomatch J.cls.symm.trans hc2
    | @lst b ys hb' =>
      obtain rfl : u = Value.ref b := ru
      obtain ⟨its2, r2, pl2, _⟩ := I'.list (SqL.of hb')
      obtain ⟨o2, ho2, hc2, _⟩ := pl2.isList
      refine key ⟨o2, ho2, hc2⟩ N.n4 PySem.F.slot_list_eq (fun Q' h => dec_lst pl2.isList I'.kIn J N.n4 Q' h) (fun z => ?_) (fun _ _ z => nomatch z)
      cases z
      have e1 := J.at_.symm.trans ho2
      cases e1
      exact nomatch J.cls.symm.trans hc2
  · rintro s' ⟨_, H', I', q⟩
    rw [List.drop_length] at q
    exact ⟨.bl false, H', I', rfl, q.2⟩
/-- an item that declines; how the items answer -/
@[reducible] def declD : D → Prop
  | .non => True
  | .str _ => True
  | .tup _ => True
  | .lst _ => True
  | _ => False
@[reducible] def inD (S : Sd) (d : D) : List D → (D → Prop) → Prop
  | [], P => P (.bl false)
  | e :: es, P => declD e ∧ S [] [d, e] (okP fun r => asB r fun z => if z = true then P (.bl true) else inD S d es P)
theorem decl_at {K : PySem.W.Frag} {O : Ads} {H : Hp} {v : V} {d : D} (a : At K O H v d) (h : declD d) : Decl K H v := by
  cases a with
  | non => exact .non
  | str z => exact .str z
  | tup h1 _ _ => exact .tup h1
  | lst h1 _ _ => exact .lst h1
  | _ => exact h.elim
section
variable {K : PySem.W.Frag} {C : Cz} {ρ : List Sl} {P : D → Prop} {ta tb : TE} {S : Sd} {E : XK} {Cl : Addr}
theorem ev_isiNo (o : NoOwn K Cl) (h : Ev K C ta ρ fun d => declD d ∧ P (.bl false)) : Ev K C (tCB (rIsi K) (tCons ta (tCons (tC (.ref Cl)) tNil))) ρ P := fun σ H Q s k => h σ H _ s fun d v H1 q s1 f1 a1 => by
  obtain ⟨q0, q⟩ := q
  have q := k _ _ _ q s1 f1 (.bl false)
  cases a1 with
  | non => exact ⟨_, _, _, _, _, rfl, .own Cl, .base .non, o.n1, q⟩
  | str z => exact ⟨_, _, _, _, _, rfl, .own Cl, .base (.str z), o.n2, q⟩
  | tup h1 _ _ => exact ⟨_, _, _, _, _, rfl, .own Cl, tyT h1, o.n3, q⟩
  | lst h1 _ _ => exact ⟨_, _, _, _, _, rfl, .own Cl, tyL (SqL.of h1), o.n4, q⟩
  | _ => exact q0.elim
theorem ev_inOwn (h : Ev K C ta ρ fun d => Ev K C tb ρ fun e => asIns Cl d fun l => asL e fun es => inD S (.ins Cl l) es P) : Ev K C (tOp (rInOwn K Cl (spD K S) E) ta tb) ρ P := fun σ H Q s k => h σ H _ s fun d v H1 q s1 f1 a1 => q σ H1 _ s1 fun e u H2 q2 s2 f2 a2 => by
  have a1' := a1.fr (s.up f2)
  obtain ⟨p, dx, fs, l, rfl, rfl, h1, n1, h3, q2⟩ := at_ins a1' q2
  obtain ⟨p', xs, es, rfl, rfl, h1', _, h3', q2⟩ := at_L a2 q2
  refine ⟨p, p', xs, rfl, rfl, ?_⟩
  have key : ∀ (ys : List V) (es : List D) (H3 : Hp), St K C ρ σ H3 → Fr (Bs C) H H3 → H3 p' = some (.lst xs) → At K (Os C ρ) H3 (.ref p) (.ins Cl l) → AtAll K (Os C ρ) H3 ys es → inD S (.ins Cl l) es P → inG K Cl p' p xs (spD K S) E ys Q H3 := by
    intro ys
    induction ys with
    | nil =>
      intro es H3 s3 f3 hl ha hh q
      cases hh
      exact ⟨hl, k _ _ _ q s3 f3 (.bl _)⟩
    | cons y ys ih =>
      intro es H3 s3 f3 hl ha hh q
      cases hh with
      | cons a as =>
        obtain ⟨q0, q⟩ := q
        refine ⟨hl, ?_, decl_at a q0, ?_⟩
        · cases ha with
          | ins h1 _ _ => exact ⟨_, _, h1⟩
        · refine ⟨Os C ρ, C.tabs, [], _, _, .cons ha (.one a), s3.lv, (fun q m => nomatch m), s3.tb, q, fun d v H' p f lv bg tb a' => ?_, fun x p => False.elim p⟩
          obtain ⟨z, rfl, rfl, q⟩ := at_bl a' (show asB d _ from p)
          refine ⟨z, rfl, ?_⟩
          have s4 := s3.kept f lv tb
          have f4 : Fr (Bs C) H H' := f3.trans (f.mono fun _ m => nomatch m)
          cases z with
          | true => rw [if_pos rfl] at q ⊢; exact k _ _ _ q s4 f4 (.bl _)
          | false =>
            rw [if_neg (by decide)] at q ⊢
            exact ih _ H' s4 f4 (f _ _ List.not_mem_nil hl fun _ z => nomatch z) (ha.fr (f.mono fun _ m => nomatch m)) (as.fr (f.mono fun _ m => nomatch m)) q
  exact key xs es H2 s2 (f1.trans f2) h1' (.ins h1 n1 h3) h3' q2
end

/-! ### classmethods called by the class's name; cls(*e) -/
section
variable {X : Cx} {CX : CXT} {k i : Nat} {f C p g : Addr} {mc : Value} {sp : Sp} {E : XK} {x m : Str} {e : Expr} {es : List Expr} {t : TA} {te : TE} {p1 p2 pos sp_ : Pos}
theorem pe_cm {pl : Sem Bool} (hg : Gl X x) (hm : X.mg x = some (.ref C)) (r : ClX.CRead X.K C mc) (c : ClX.CMet X.K C mc m p g) (F : FnR X.prog X.w X.K X.mg X.base CX k g sp) (hr : Room k X.A) (hx : Passes CX X E) (ha : PA X (e :: es) t)
    (hdb : (x == ("__debug__" : Str)) = false := by decide)
    (hst : starEach (e :: es) X.env = (false, eval e X.env) :: starEach es X.env := by rfl) (hpl : (backTo pos (starEach es X.env)).any (·.1) = false := by rfl)
    (ht : eval (.Call (.Attribute (.Name x p1) m p2) (e :: es) [] pos) X.env = (do
      let ov ← eval (.Name x p1) X.env
      standAt p2.atName
      let (f, first) ← holding [ov] (getMethod ov m pl)
      callWith pos f first (backTo pos (starEach (e :: es) X.env)) (backToKw pos (keywordEach [] X.env))) := by rfl) :
    PE X (.Call (.Attribute (.Name x p1) m p2) (e :: es) [] pos) (tCall sp [] E (tCons (tC (.ref C)) t)) := by
  refine ⟨fun pins s σ H Q I h => ?_⟩
  refine (ClX.pe_cmeth (ta := tC (.ref C)) (pl := pl) (pe_glob (v := .ref C) hg hm rfl hdb) r c F hr hx ha hst hpl ht).run pins s σ H Q I ?_
  refine ⟨rfl, ?_⟩
  have h' : t σ H fun vs H2 => sp ((V.ref C :: vs) ++ []) H2 Q E := h
  simpa only [List.append_nil] using h'
/-- cls(*e), cls in slot i -/
def tMakeV (i : Nat) (C : Addr) (sp : Sp) (E : XK) (t : TA) : TE := fun σ H Q => σ[i]? = some (some (.ref C)) ∧ StX.tMakeR C sp E t σ H Q
theorem pe_makeV (M : Mk X.K C f) (F : FnR X.prog X.w X.K X.mg X.base CX k f sp) (hr : Room (k + 1) X.A) (hx : Passes CX X E) (hN : X.N[i]? = some x) (hv : Vis X.env.scope x) (he : PE X e te)
    (hdb : (x == ("__debug__" : Str)) = false := by decide) (hcd : (x == ("__classdict__" : Str)) = false := by decide)
    (hst : starEach [.Starred e sp_] X.env = [(true, eval e X.env)] := by rfl) : PE X (.Call (.Name x p1) [.Starred e sp_] [] pos) (tMakeV i C sp E (tItems X.K te)) := by
  refine ⟨fun pins s σ H Q I h => ?_⟩
  obtain ⟨hs, h⟩ := h
  have hn := (pe_var (X := X) (i := i) (pos := p1) hN hv hdb hcd).run pins s σ H (fun v H1 => v = .ref C ∧ H1 = H) I ⟨_, hs, rfl, rfl⟩
  refine wpAny_Call_Name_kw (wpAny_mono hn ?_ (fun _ _ z => z))
  rintro u s1 ⟨v, H1, I1, r1, rfl, rfl⟩
  obtain rfl : u = Value.ref C := r1
  refine PySem.W.callWith_S (h₀ := X.base) I1.ok.mod.kin M.kp (thn (he.run pins s1 σ _ _ I1 h) fun v s1 ⟨y, H1, I1, ry, a, xs, ey, hxs, q⟩ => ?_) hst
  subst ey
  obtain rfl : v = Value.ref a := ry
  exact StX.star_any I1 hxs fun us s2 I2 rv => ⟨I2.kIn, StX.run_makeR M F hr hx I2 rv q⟩
theorem k_makeV {K : PySem.W.Frag} (M : Mk X.K C f) (F : FnR X.prog X.w X.K X.mg X.base CX k f sp) (hr : Room (k + 1) X.A) (hx : Passes CX X E) (hN : X.N[i]? = some x) (hv : Vis X.env.scope x) (he : PE X e te)
    (hdb : (x == ("__debug__" : Str)) = false := by decide) (hcd : (x == ("__classdict__" : Str)) = false := by decide)
    (hst : starEach [.Starred e sp_] X.env = [(true, eval e X.env)] := by rfl) (h : X.K = K := by rfl) : PE X (.Call (.Name x p1) [.Starred e sp_] [] pos) (tMakeV i C sp E (tItems K te)) := h ▸ pe_makeV M F hr hx hN hv he hdb hcd hst
end
section
variable {K : PySem.W.Frag} {C : Cz} {ρ : List Sl} {P : D → Prop} {t : TA} {S : Sd} {E : XK} {Cl : Addr} {i : Nat}
theorem ev_cref {a : Addr} (h : P (.oth (.ref a))) : Ev K C (tC (.ref a)) ρ P := fun σ H Q s k => k _ _ _ h s (Fr.refl _ _) (.oth _)
theorem ev_makeVX (he : E = C.E) (e : ρ[i]? = some (.val (.oth (.ref Cl)))) (h : EvA K C t ρ fun ds => S [] ds (exP C P)) : Ev K C (tMakeV i Cl (spM K Cl S) E t) ρ P := fun σ H Q s k => by
  refine ⟨?_, ev_makeX he h σ H Q s k⟩
  obtain ⟨x, e1, a⟩ := s.sl.get e
  cases a with
  | val a =>
    cases a
    exact e1
end
/-! ### a loop over a list or a tuple -/
def iSeq (K : PySem.W.Frag) (tl : TE) : TI := fun σ H R => tl σ H fun x H1 => ∃ a, x = .ref a ∧ (((∃ xs, SqL K H1 a xs) ∧ R (Itl K a) H1) ∨ ((∃ xs, SqT K H1 a xs) ∧ R (Itt K a) H1))
theorem pi_seq {X : Cx} {tg l : Expr} {i : Nat} (hl : PE X l (tVar i)) : PI X tg l (iSeq X.K (tVar i)) := by
  refine ⟨fun pins s σ H R I h => ?_⟩
  obtain ⟨v, hv, a, ev, q⟩ := h
  rcases q with ⟨hq, q⟩ | ⟨hq, q⟩
  · exact (pi_list hl).run pins s σ H R I ⟨v, hv, a, ev, hq, q⟩
  · exact (pi_tup hl).run pins s σ H R I ⟨v, hv, a, ev, hq, q⟩
theorem k_piQ {X : Cx} {K : PySem.W.Frag} {tg l : Expr} {i : Nat} (hl : PE X l (tVar i)) (h : X.K = K := by rfl) : PI X tg l (iSeq K (tVar i)) := h ▸ pi_seq hl
theorem evi_seq {K : PySem.W.Frag} {C : Cz} {ρ : List Sl} {te : TE} {P : List D → Prop} (h : Ev K C te ρ fun d => asQ d P) : EvI K C (iSeq K te) ρ P := fun σ H R s k => h σ H _ s fun d v H1 q s1 f1 a1 => by
  cases a1 with
  | lst h1 n h3 => exact ⟨_, rfl, .inl ⟨⟨_, SqL.of h1⟩, k _ _ H1 [.ref _] [.lst _] q s1 f1 (.one (.lst h1 n h3)) walks_list⟩⟩
  | tup h1 n h3 => exact ⟨_, rfl, .inr ⟨⟨_, h1⟩, k _ _ H1 [.ref _] [.tup _] q s1 f1 (.one (.tup h1 n h3)) walks_tup⟩⟩
  | _ => exact q.elim
/-! ### one or the other reading of a loop's iterable -/
def iOr (a b : TI) : TI := fun σ H R => a σ H R ∨ b σ H R
theorem pi_alt {X : Cx} {tg it : Expr} {a b : TI} (ha : PI X tg it a) (hb : PI X tg it b) : PI X tg it (iOr a b) := ⟨fun pins s σ H R I h => h.elim (fun h => ha.run pins s σ H R I h) fun h => hb.run pins s σ H R I h⟩
theorem evi_orL {K : PySem.W.Frag} {C : Cz} {ρ : List Sl} {a b : TI} {P : List D → Prop} (h : EvI K C a ρ P) : EvI K C (iOr a b) ρ P := fun σ H R s k => .inl (h σ H R s k)
theorem evi_orR {K : PySem.W.Frag} {C : Cz} {ρ : List Sl} {a b : TI} {P : List D → Prop} (h : EvI K C b ρ P) : EvI K C (iOr a b) ρ P := fun σ H R s k => .inr (h σ H R s k)

/-! ### [g(x(y), e) for y in ..], y's the lambdas -/
section
variable {X : Cx}
theorem pe_asks2 {x2 : Str} {f2 : Addr} {fd2 : FuncData} {ps2 : List Str} {sp2 : Sp} {k2 : Nat} {e2 : Expr} {te2 : TE} {p4 p5 : Pos} {TT : (XK → Hp → VK → Prop) → Hp → VK → Prop} {x a y q : Str} {g : Addr} {k i : Nat} {pg : Arguments} {bg : List Stmt} {sg sc : Scope} {dV kV doc pm cdv ct oc : Value} {an od : Option Addr} {osl : Array (Option Value)} {Ng : List Str}
    {ls : List Lm} {own : List (Str × Nat)} {wi : TI} {tgt : TG} {tg iter : Expr} {p1 p2 p3 pos : Pos} (hc : X.calm = true) (nd : X.N.Nodup) (hi : PI X tg iter wi) (ok : BlkOk X.N X.env.scope sc own)
    (hg : ∀ (s : Shared) (H : Hp) (C : Addr) (cl : List (Str × Addr)) (fp : List Addr), PG (X.blk s H sc (blkE X sc cl C) fp) tg tgt)
    (gx : ∀ (s : Shared) (H : Hp) (C : Addr) (cl : List (Str × Addr)) (fp : List Addr), Gl (X.blk s H sc (blkE X sc cl C) fp) x) (vy : ∀ (cl : List (Str × Addr)) (C : Addr), Vis (blkE X sc cl C).scope y) (iy : X.N[i]? = some y)
    (hm : X.mg x = some (.ref g)) (hk : PySem.W.keepIn X.K (.ref g) = true)
    (lk : X.K.lookup g = some ⟨oc, od, .func (PySem.W.fnOf x x pg bg sg dV kV doc pm an cdv ct), osl⟩) (hcg : PySem.W.codeIn X.K cdv x = true) (hb : L2.Binds X.K (PySem.W.fnOf x x pg bg sg dV kV doc pm an cdv ct) [a] []) (Sg : FnScope Ng [a] sg) (hNg : Ng[0]? = some a) (hva : Vis sg a)
    (hG : LamX.GivesTo X Ng x sg g cdv bg a q TT) (hq : X.env.qual ++ "<lambda>" = q) (hr : Room (k + 2) X.A) (L : Lms X q k ls)
    (F2 : FnOk X.prog X.w X.K X.mg X.base CX0 k2 f2 fd2 ps2 sp2) (hr2 : Room k2 X.A) (gx2 : ∀ (s : Shared) (H : Hp) (C : Addr) (cl : List (Str × Addr)) (fp : List Addr), Gl (X.blk s H sc (blkE X sc cl C) fp) x2) (hm2 : X.mg x2 = some (.ref f2)) (hk2 : PySem.W.keepIn X.K (.ref f2) = true)
    (hb2 : L2.Binds X.K fd2 ps2 []) (he2 : ∀ (s : Shared) (H : Hp) (C : Addr) (cl : List (Str × Addr)) (fp : List Addr), PE (X.blk s H sc (blkE X sc cl C) fp) e2 te2)
    (hs : ∀ x, foldedSetIterable iter X.env x = pure x := by intro _; rfl) (hdb : (x == ("__debug__" : Str)) = false := by decide) (hd : (a == ("__debug__" : Str)) = false := by decide) (hcd : (a == ("__classdict__" : Str)) = false := by decide)
    (hd2 : (y == ("__debug__" : Str)) = false := by decide) (hcd2 : (y == ("__classdict__" : Str)) = false := by decide)
    (hst : ∀ (C : Addr) (cl : List (Str × Addr)), starEach [.Call (.Name x p1) [.Name y p2] [] p3, e2] (blkE X sc cl C) = (false, eval (.Call (.Name x p1) [.Name y p2] [] p3) (blkE X sc cl C)) :: starEach [e2] (blkE X sc cl C) := by intros; rfl)
    (hst2 : ∀ (C : Addr) (cl : List (Str × Addr)), starEach [e2] (blkE X sc cl C) = (false, eval e2 (blkE X sc cl C)) :: starEach [] (blkE X sc cl C) := by intros; rfl)
    (hpl : ∀ (C : Addr) (cl : List (Str × Addr)), (backTo p4 (starEach [e2] (blkE X sc cl C))).any (·.1) = false := by intros; rfl) (hdb2 : (x2 == ("__debug__" : Str)) = false := by decide) :
    PE X (.ListComp (.Call (.Name x2 p5) [.Call (.Name x p1) [.Name y p2] [] p3, e2] [] p4) [⟨tg, iter, [], 0⟩] sc pos) (tLc wi tgt tYes (tCall sp2 [] E0 (tCons (tAsk TT q X.env.cells i (own.map (·.2)) ls) (tCons te2 tNil))) (own.map (·.2))) := by
  subst hq
  refine pe_lcI hc nd hi ok hg (fun pins σ s0 H0 C cl fp back pi τ Hn sn Qn J ew h => ?_) hs
  have ask : ∀ Q2 : VK, tAsk TT (X.env.qual ++ "<lambda>") X.env.cells i (own.map (·.2)) ls τ Hn Q2 → wpAny (model X.prog X.w) X.A (eval (.Call (.Name x p1) [.Name y p2] [] p3) (blkE X sc cl C)) (EP (X.blk s0 H0 sc (blkE X sc cl C) fp) pi τ Q2) (fun _ _ => False) sn := by
    intro Qn h
    obtain ⟨m, hmem, f, c', ds, hds, h1, h2, h3⟩ := h
    obtain ⟨LN, LB, LE⟩ := L.get hmem
    refine wpAny_Call_Name_kw (ld_glob (X := X.blk s0 H0 sc (blkE X sc cl C) fp) J (gx s0 H0 C cl fp) hm ?_ hdb)
    have ha := (pa_cons (X := X.blk s0 H0 sc (blkE X sc cl C) fp) (pe_var (pos := p2) (i := i) iy (vy cl C) hd2 hcd2) pa_nil).run p3 pi sn τ Hn (fun vs H1 => vs = [.ref f] ∧ H1 = Hn) J ⟨_, h1, rfl, rfl⟩
    refine PySem.W.callWith_K (h₀ := X.base) J.ok.mod.kin hk (thn ha ?_) (by rfl) (by rfl)
    rintro us s1 ⟨vs, H1, J1, rv, rfl, rfl⟩
    refine ⟨J1.kIn, ?_⟩
    cases rv with
    | cons r0 r1 =>
      cases r1
      rename_i u
      obtain rfl : u = Value.ref f := r0
      have IX : Inv X pins (wipe τ (own.map (·.2))) H1 s1 := by
        rw [ew]
        exact (back _ _ _ _ J1).weak (wipe_length σ _) fun j v e => (wipe_some e).1
      have rc : codeAny (model X.prog X.w) X.A (.call (.ref g) ⟨[.ref f], []⟩) (CR C8.CX0 X.stack X.prog X.w H1 s1 Qn C8.E0) s1 := by
        refine LamX.run_ofS (N := Ng) (ps := [a]) (us := [.ref f]) (vs := [.ref f]) lk hcg Sg hr J1.env0 (hb s1 [.ref f] J1.kIn rfl) (.cons rfl .nil) rfl fun hr' => ?_
        have Z := hG f c' s1 H1 Qn (fun E H' Q' => (∀ p ∈ lmL (X.env.qual ++ "<lambda>") m.ps m.b m.sc X.env.cells f c' ds, H' p.1 = some p.2) ∧ m.t E (wipe τ (own.map (·.2))) H' Q') (fun W pn xe E p1 p2 tk hW => by
          have act := lm_act (i := 0) (c' := c') (dv := dvOf ds) (ps := m.ps) (p1 := p1) (p2 := p2) IX LN tk hW hr' (fun A outer s H hr2 => LE A outer s H E f c' hr2) hNg hva hd hcd
          refine ⟨fun pz sz τz Hz Qz Iz hz => act.run pz sz τz Hz Qz Iz ?_⟩
          obtain ⟨z1, z2, z3, z4⟩ := hz
          exact ⟨z1, z2, z3 _ (List.mem_cons_self ..), LB ds Hz hds fun d hd => z3 (d, .tup [.int 0]) (List.mem_cons_of_mem _ (List.mem_cons_of_mem _ (List.mem_map.mpr ⟨d, hd, rfl⟩))), z4⟩) h2 h3
        obtain ⟨t', g1, g2⟩ := Z
        exact ⟨t', g1.nox, g2⟩
      refine wpAny_call (codeAny_mono rc fun r s2 hq => ?_)
      cases r with
      | error e => exact (show False from hq).elim
      | ok fl => cases fl <;> first | exact J1.after hq | exact False.elim hq
  have hA : wpAny (model X.prog X.w) X.A (spliced (backTo p4 (starEach [.Call (.Name x p1) [.Name y p2] [] p3, e2] (blkE X sc cl C)))) (fun us s1 => ∃ vs H1, Inv (X.blk s0 H0 sc (blkE X sc cl C) fp) pi τ H1 s1 ∧ Vals vs us ∧ sp2 (vs ++ []) H1 Qn E0) (fun _ _ => False) sn := by
    refine args_cons (thn (ask (fun v H1 => te2 τ H1 fun u H2 => sp2 ([v, u] ++ []) H2 Qn E0) h) ?_) (hst C cl)
    rintro v s1 ⟨z, H1, I1, r1, q1⟩
    exact one_arg (X := X.blk s0 H0 sc (blkE X sc cl C) fp) (he2 s0 H0 C cl fp) I1 q1 (fun u s2 y H2 I2 r2 q => ⟨[z, y], H2, I2, .cons r1 (.cons r2 .nil), q⟩) (hst2 C cl)
  refine wpAny_Call_Name_kw (ld_glob (X := X.blk s0 H0 sc (blkE X sc cl C) fp) J (gx2 s0 H0 C cl fp) hm2 ?_ hdb2)
  refine PySem.W.callWith_K (h₀ := X.base) J.ok.mod.kin hk2 (thn hA fun us s1 ⟨vs, H1, I1, r, q⟩ => ⟨I1.kIn, ?_⟩) (hst C cl) (hpl C cl)
  exact run_fn (X := X.blk s0 H0 sc (blkE X sc cl C) fp) F2 hr2 hb2 .nil pass0 I1 r q
end

/-! ### try: .. except X: .. where nothing is raised -/
theorem pss_void {X : Cx} {ss : List Stmt} : PSs X ss (fun _ _ _ => False) := ⟨fun _ _ _ _ _ _ h => h.elim⟩
def tTry0 (K : PySem.W.Frag) (c : Value) (tb : WX → TS) (Wout : WX) : TS := fun D σ H => tb (wOnly K c (fun _ _ _ _ _ _ => False) Wout D) D σ H
theorem ps_try0 {X : Cx} {x : Str} {c : Value} {body suite : List Stmt} {b₀ : Stmt} {np pos pos' : Pos} {tb : WX → TS} {Wout : WX} (hs : X.stack = X.env :: X.outer) (hf : X.env.frame = some X.env.locals) (hc : Names X x c) (tk : Takes X Wout)
    (hb : ∀ (W : WX) (pn : List (Addr × Obj)) (xe : Value → Shared → Prop), Takes (X.tr pn xe) W → PassesOwn (model X.prog X.w) X.A X.env xe → PSs (X.tr pn xe) body (tb W)) :
    PS X (.Try body [.ExceptHandler (some (.Name x np)) none (b₀ :: suite) pos'] [] [] pos) (tTry0 X.K c tb Wout) := ps_try_only (ts := fun _ _ _ _ _ _ => False) hs hf hc tk hb (fun _ _ _ _ _ _ _ => pss_void)
section
variable {K : PySem.W.Frag} {C : Cz} {ρ : List Sl} {PO : Out → Prop} {P : D → Prop} {ta : TA} {S : Sd} {E : L2.St → XK} {c : Value} {tb : WX → TS} {Wout : WX}
theorem run_try0 (h : ∀ W, Run K C (tb W) ρ PO) : Run K C (tTry0 K c tb Wout) ρ PO := fun En σ H s k => h _ En σ H s k
theorem ev_callSD (h : EvA K C ta ρ fun ds => S [] ds (okP P)) : Ev K C (tCallSD (spD K S) [] E ta) ρ P := fun σ H Q s k => ev_call (E := E σ) h σ H Q s k
end

/-! ### one's own list looked at as a value, for a test or a plain answer; a class's constant read off an instance -/
section
variable {K : PySem.W.Frag} {C : Cz} {ρ : List Sl} {i : Nat} {te ta : TE} {tt : TT} {P : D → Prop} {Cl : Addr} {f : Str}
theorem St.unborrow {σ : L2.St} {H H' : Hp} {p : Addr} {ds : Cd} (s : St K C ρ σ H) (e : ρ[i]? = some (.cell p ds)) (s2 : St K C (ρ.set i (.val ds.d)) σ H') (f : Fr (Bs C) H H') : St K C ρ σ H' := by
  refine s.bfr f s2.fr (fun q m => ?_) (fun q m => (s2.bg q m).1) s2.tb
  rcases List.mem_append.mp m with m | m
  · exact s2.lv q (List.mem_append_left _ m)
  · obtain ⟨c, mc⟩ := mem_owns.mp m
    obtain ⟨j, ej⟩ := List.getElem?_of_mem mc
    obtain ⟨x, _, a⟩ := s.sl.get ej
    cases a with
    | cell h a =>
      have := f q _ (fun z => by
        obtain ⟨q2, hq, z⟩ := List.mem_map.mp z
        exact (s.fresh _ m).2 (z ▸ (s.bg q2 hq).2.1)) h a.nt
      rw [this]
      exact fun z => nomatch z
theorem evt_borrow {p : Addr} {ds : List D} (i : Nat) (e : ρ[i]? = some (.own p ds)) {P : Bool → Prop} (h : EvT K C tt (ρ.set i (.val (.lst ds))) P) : EvT K C tt ρ P := fun σ H Q s k =>
  h σ H Q (s.frozen e) fun b H' pb s2 f => k b H' pb (St.unborrow s e s2 f) f
/-- an answer without an address -/
def plainA : D → Prop
  | .bl _ => True
  | .int _ => True
  | .str _ => True
  | .non => True
  | _ => False
theorem plainA_at {O O' : Ads} {H : Hp} {v : V} {d : D} (h : plainA d) (a : At K O H v d) : At K O' H v d := by
  cases a with
  | bl b => exact .bl b
  | int b => exact .int b
  | str b => exact .str b
  | non => exact .non
  | _ => exact h.elim
theorem ev_borrow {p : Addr} {ds : List D} (i : Nat) (e : ρ[i]? = some (.own p ds)) (h : Ev K C te (ρ.set i (.val (.lst ds))) fun d => plainA d ∧ P d) : Ev K C te ρ P := fun σ H Q s k =>
  h σ H Q (s.frozen e) fun d v H' pd s2 f a => k d v H' pd.2 (St.unborrow s e s2 f) f (plainA_at pd.1 a)
theorem k_con {X : Cx} {e : Expr} {pos : Pos} (he : PE X e ta) (hb : attributeBase e f X.env (eval e X.env) = eval e X.env := by rfl) (h : X.K = K := by rfl) : PE X (.Attribute e f pos) (tCon K ta f) := h ▸ pe_con he hb
theorem ev_conI {z : Int} {u : Value} (c : Cls K Cl) (n : Con K Cl f (.int z) u) (h : Ev K C ta ρ fun d => asIns Cl d fun l => l.lookup f = none ∧ P (.int z)) : Ev K C (tCon K ta f) ρ P := fun σ H Q s k => h σ H _ s fun d v H1 q s1 f1 a1 => by
  obtain ⟨p, dx, fs, l, rfl, rfl, h1, _, h3, hn, q⟩ := at_ins a1 q
  exact ⟨p, Cl, dx, fs, _, u, rfl, h1, c, n, h3.none_ hn, k _ _ _ q s1 f1 (.int _)⟩
/-- a new list of one's own beside a value, by way of a tuple (the names are cells) -/
theorem run_tupO {j : Nat} {te2 : TE} {PO : Out → Prop} (h : EvF K C te ρ fun ds => i < ρ.length ∧ ∀ C' : Cz, C'.E = C.E → C'.X = C.X → C'.bags = C.bags → Ev K C' te2 ρ fun d => ∀ p, PO (.nx ((ρ.set i (.own p ds)).set j (.val d)))) :
    Run K C (tAsg (tTup (tCons te (tCons te2 tNil))) (gTup K 2 (gCons (gName i) (gCons (gName j) gNil)))) ρ PO := fun En σ H s k =>
  h σ H _ s fun ds p H1 q s1 f1 => by
    have eo : owns (ρ ++ [.own p ds]) = owns ρ ++ [p] := owns_append ρ _
    have s2 : St K { C with O0 := p :: C.O0 } ρ σ H1 := s1.inner (vs := []) rfl
    refine q.2 { C with O0 := p :: C.O0 } rfl rfl rfl σ H1 _ s2 fun d w H2 pd s3 f3 a3 => ?_
    have s4 : St K C (ρ ++ [.own p ds]) (σ ++ [some (.ref p)]) H2 := s1.bfr f3 s3.fr (fun x m => s3.lv x (by
      have m : x ∈ C.O0 ++ owns (ρ ++ [.own p ds]) := m
      rw [eo] at m
      show x ∈ (p :: C.O0) ++ owns ρ
      rcases List.mem_append.mp m with m | m
      · exact List.mem_append_left _ (List.mem_cons_of_mem _ m)
      · rcases List.mem_append.mp m with m | m
        · exact List.mem_append_right _ m
        · rw [List.mem_singleton.mp m]; exact List.mem_append_left _ (List.mem_cons_self ..))) (fun x m => (s3.bg x m).1) s3.tb
    refine ⟨Nat.le_of_ble_eq_true rfl, fun t nt => ⟨t, _, rfl, .inl (.inl upd_same), rfl, _, _, rfl, _, _, rfl, rfl, ?_⟩⟩
    have sm : Same H2 (upd H2 t (.tup [.ref p, w])) := same_upd nt
    have s5 := (s4.same sm).land q.1
    refine k.nx _ _ _ (pd p) (s5.set j ((a3.fr (.of sm)).less fun x m => ?_))
    have m : x ∈ C.O0 ++ owns (ρ.set i (.own p ds)) := m
    show x ∈ (p :: C.O0) ++ owns ρ
    rcases List.mem_append.mp m with m | m
    · exact List.mem_append_left _ (List.mem_cons_of_mem _ m)
    · rcases mem_owns_set m with m | m
      · rw [List.mem_singleton.mp (show x ∈ [p] from m)]; exact List.mem_append_left _ (List.mem_cons_self ..)
      · exact List.mem_append_right _ m
end

/-! ### errors that are caught and answered with another error -/
/-- an exception whose context is known to be None is an exception -/
theorem cx_less {P : Program} {w : World} {outer : List Env} {H : Hp} {s : Shared} {E : XK} {u : Value} {s' : Shared} (h : L2N.CX P w outer H s E u s') : L2.CX P w outer H s E u s' := by
  obtain ⟨a, B, H', cls, d, e, fl, h⟩ := h
  exact ⟨a, B, H', cls, d, e, L2H.flyingZ_imp (fun o z => z.zc) fl, h⟩
theorem FnOk.lessN {P : Program} {w : World} {K : PySem.W.Frag} {mg : Str → Option Value} {base : Heap} {k : Nat} {f : Addr} {fd : FuncData} {ps : List Str} {sp : Sp} (F : FnOk P w K mg base (L2N.CX P w) k f fd ps sp) : FnOk P w K mg base (L2.CX P w) k f fd ps sp :=
  ⟨F.len, fun A outer s H args us vs Q E hr e0 hb r h => codeAny_mono (F.run A outer s H args us vs Q E hr e0 hb r h) fun r s' q => by
    cases r with
    | error e => exact cx_less q
    | ok fl =>
      cases fl with
      | ret u => exact q
      | _ => exact q.elim⟩
section
variable {P : Program} {w : World} {K : PySem.W.Frag} {mg : Str → Option Value} {base : Heap}
/-- a def by data whose errors have no context -/
theorem okDN {x qual : Str} {st : Stmt} {f : Addr} {fd : FuncData} {N ps : List Str} {k : Nat} {S : Sd} (F : Fun K x qual st f fd) (sc : FnScope N ps (defScope st)) (len : ∀ bs ds Pq, S bs ds Pq → ds.length = ps.length)
    (hbody : ∀ (cdv : Value) (A : Around) (outer : List Env) (s : Shared) (H : Hp) (E : XK), Room k (A.deeper (envOfC qual (defScope st) s.heap.objs.size f cdv)) →
      ∃ t, PSs (cxOf (L2N.CX P w) P w K mg base N qual (defScope st) f cdv A outer s H E) (defBody st) t ∧ ∀ (C : Cz) (ds : List D) (Pq : Rs → Prop), C.E = E → (∀ x, Pq (.er x) → C.X x) → S C.bags ds Pq → Run K C t (slots N.length ds) (endP Pq)) : FnOk P w K mg base (L2N.CX P w) (k + 1) f fd ps (spD K S) := by
  obtain ⟨oc, od, kV, doc, pm, an, cdv, ct, osl, rfl, lk, hcd⟩ := F.ex
  refine fn_of lk hcd sc (fun vs H Q E h => sp_len len h) fun A outer s H vs Q E hr h => ?_
  obtain ⟨t, h1, h2⟩ := hbody cdv A outer s H E hr
  exact ⟨t, h1, run_of h h2⟩
/-- a def that runs while an exception is handled -/
theorem okH {CX : CXT} {x qual : Str} {st : Stmt} {f : Addr} {fd : FuncData} {N ps : List Str} {k : Nat} {sp : Sp} (F : Fun K x qual st f fd) (sc : FnScope N ps (defScope st)) (len : ∀ vs H Q E, sp vs H Q E → vs.length = ps.length)
    (hbody : ∀ (cdv : Value) (A : Around) (outer : List Env) (s : Shared) (H : Hp) (vs : List V) (Q : VK) (E : XK) (p : Addr × Obj), L2H.Hot1 A p → L2H.RoomH k (A.deeper (envOfC qual (defScope st) s.heap.objs.size f cdv)) → sp vs H Q E →
      ∃ t, PSs (L2H.cxH CX P w K mg base N qual (defScope st) f cdv A outer s H E p) (defBody st) t ∧ t { nx := fun _ H' => Q .non H', rt := Q } (L2.start N vs) H) : L2H.FnH P w K mg base CX (k + 1) f fd ps sp := by
  obtain ⟨oc, od, kV, doc, pm, an, cdv, ct, osl, rfl, lk, hcd⟩ := F.ex
  exact L2H.fn_ofH lk hcd sc len fun A outer s H vs Q E p hot hr hsp => hbody cdv A outer s H vs Q E p hot hr hsp
theorem okHD {CX : CXT} {x qual : Str} {st : Stmt} {dv : List V} {kw : List (Str × V)} {f : Addr} {fd : FuncData} {N ps : List Str} {k : Nat} {sp : Sp} (F : FunD K x qual (defArgs st) (defBody st) (defScope st) dv kw f fd) (sc : FnScope N ps (defScope st)) (len : ∀ vs H Q E, sp vs H Q E → vs.length = ps.length)
    (hbody : ∀ (cdv : Value) (A : Around) (outer : List Env) (s : Shared) (H : Hp) (vs : List V) (Q : VK) (E : XK) (p : Addr × Obj), L2H.Hot1 A p → L2H.RoomH k (A.deeper (envOfC qual (defScope st) s.heap.objs.size f cdv)) → sp vs H Q E →
      ∃ t, PSs (L2H.cxH CX P w K mg base N qual (defScope st) f cdv A outer s H E p) (defBody st) t ∧ t { nx := fun _ H' => Q .non H', rt := Q } (L2.start N vs) H) : L2H.FnH P w K mg base CX (k + 1) f fd ps sp := by
  obtain ⟨oc, od, dV, kV, doc, pm, an, cdv, ct, osl, rfl, lk, hcd, _, _⟩ := F.ex
  exact L2H.fn_ofH lk hcd sc len fun A outer s H vs Q E p hot hr hsp => hbody cdv A outer s H vs Q E p hot hr hsp
end
section
variable {X : Cx} {x : Str} {e : Expr} {es : List Expr} {ta : TA} {p pos : Pos}
/-- an own exception is made where nothing is handled: its context is None -/
theorem pmk_new {CX : CXT} {C fI : Addr} {k : Nat} {fd : FuncData} {ps : List Str} {sp : Sp} (T : OexC X.K C) (iC : PySem.W.findIn X.K (.ref C) "__init__" = some (some (.ref fI))) (tI : PySem.W.typeIn X.K (.ref fI) = some (.type "function"))
    (F1 : FnOk X.prog X.w X.K X.mg X.base CX k fI fd ps sp) (hr : Room (k + 1) X.A) (hb : Binds X.K fd ps []) (hx : Passes CX X (fun _ _ _ => False)) (hg : Gl X x) (hm : X.mg x = some (.ref C)) (ha : PA X (e :: es) ta)
    (hdb : (x == ("__debug__" : Str)) = false := by decide) (he : starEach (e :: es) X.env = (false, eval e X.env) :: starEach es X.env := by rfl) (hpl : (backTo pos (starEach es X.env)).any (·.1) = false := by rfl) :
    L2N.PMk X (.Call (.Name x p) (e :: es) [] pos) (tMkO C sp [] ta) := fun pins s σ H Q I h => by
  refine wpAny_Call_Name_kw (ld_glob I hg hm (PySem.W.callWith_K (h₀ := X.base) I.ok.mod.kin T.kC (thn (ha.run pos pins s σ H _ I h) fun us s1 y => ?_) he hpl) hdb)
  obtain ⟨vs, H1, I1, r1, hz, q1⟩ := y
  refine ⟨I1.kIn, ?_⟩
  obtain ⟨_, _, _, _, bm, _, _, _, _, _, _, _, _, _, _, hC, hbm⟩ := T.cls
  obtain ⟨hp, g, dr, tk, os⟩ := s1
  show wpAny _ _ (call (.ref C) us) _ _ _
  -- the new object's place
  generalize hA : hp.objs.size + 1 = a
  have sz : hp.objs.size ≤ a := by omega
  have fresh : H1 a = none := I1.hok.fresh sz
  have q2 := q1 a fresh
  rw [List.append_nil] at q2
  have kk : ∀ b o, hp.get? b = some o → ((hp.push (PySem.W.kdv_tup us)).push (PySem.HandSPX.excO C hp.objs.size)).get? b = some o := fun b o z => Heap.get?_push_of_some _ (Heap.get?_push_of_some _ z)
  have at_a : ((hp.push (PySem.W.kdv_tup us)).push (PySem.HandSPX.excO C hp.objs.size)).get? a = some (PySem.HandSPX.excO C hp.objs.size) := by subst hA; heap_get
  have I2 : Inv X pins σ (upd H1 a (exo a C none)) ⟨(hp.push (PySem.W.kdv_tup us)).push (PySem.HandSPX.excO C hp.objs.size), g, dr, tk, os⟩ := I1.laid (t' := tk) (a := a) (o := exo a C none) (h' := (hp.push (PySem.W.kdv_tup us)).push (PySem.HandSPX.excO C hp.objs.size)) kk sz (exo_ok at_a)
  have r2 : Vals (V.ref a :: vs) (Value.ref a :: us) := .cons rfl r1
  have len : (Value.ref a :: us ++ []).length = ps.length := by
    rw [List.append_nil, ← r2.length]
    exact F1.len _ _ _ _ q2
  have short : us.length ≤ sizeLine := by
    rw [← Paired.length r1, sizeLine_eq]
    omega
  have b2 := hb _ (Value.ref a :: us) I2.kIn len
  rw [List.append_nil] at b2
  have run := F1.run (X.A.under (.builtin "type.__call__" ⟨.ref C :: us, []⟩)) X.stack _ _ ⟨Value.ref a :: us, []⟩ (Value.ref a :: us) _ (fun y H2 => y = .non ∧ ∃ (d : Addr) (fs : List (Str × V)), H2 a = some (exo a C (some d)) ∧ H2 d = some (exd d fs) ∧ H1 d = none ∧ Q (.ref C) (some d) (upd (del H2 a) d (.xd fs))) (fun _ _ _ => False) (hr.make C us []) (I2.env0.make C us []) b2 r2 q2
  subst hA
  refine wpAny_call (PySem.HandSPX.call_own F.excBase_ValueError (fun Y => PySem.HandSPX.refsVE_contains Y bm hbm) (I1.kIn _ _ hC) (PySem.W.looks_findIn I1.kIn iC) (fun self => PySem.W.bind_fn I1.kIn self tI) short (codeAny_mono run fun r s' y => ?_))
  cases r with
  | error er => exact hx pins σ _ _ er s' I2 y
  | ok fl =>
    cases fl with
    | ret u =>
      obtain ⟨v, H2, os2, bare2, un2, hok2, rv, rfl, d, fs, ea, ed, hd1, q3⟩ := y
      obtain ⟨h2, g2, d2, t2, os'⟩ := s'
      obtain ⟨t0, G, J, kG, ge, hoe, na⟩ := mk_end0 (d2 := d2) (t2 := t2) I1 sz kk un2 hok2 os2 bare2 ea ed hd1
      exact ⟨rv, _, _, _, ⟨G, g2, d2, t2, os'⟩, _, .ref C, some d, rfl, J, kG, ge, hoe, ⟨rfl, rfl, fun vs z => by cases z; rfl⟩, rfl, rfl, na, rfl, bare2, raises_own T.exC T.tyC, q3⟩
    | _ => exact y.elim
/-- C.m(self, ..) while an exception is handled -/
theorem pe_clsfnH {CX : CXT} {k : Nat} {C g : Addr} {mc : Value} {fd : FuncData} {ps : List Str} {sp : Sp} {E : XK} {m : Str} {t : TA} {p1 p2 : Pos} {pl : Sem Bool}
    (hg : Gl X x) (hm : X.mg x = some (.ref C)) (r : ClX.CRead X.K C mc) (c : ClX.CVal X.K C mc m (.ref g) (.ref g)) (F : L2H.FnH X.prog X.w X.K X.mg X.base CX k g fd ps sp) (hr : L2H.RoomH k X.A) (hc : L2H.HotC X) (hk : PySem.W.keepIn X.K (.ref g) = true) (hb : Binds X.K fd ps []) (hx : Passes CX X E) (ha : PA X (e :: es) t)
    (hdb : (x == ("__debug__" : Str)) = false := by decide)
    (hst : starEach (e :: es) X.env = (false, eval e X.env) :: starEach es X.env := by rfl) (hpl : (backTo pos (starEach es X.env)).any (·.1) = false := by rfl)
    (ht : eval (.Call (.Attribute (.Name x p1) m p2) (e :: es) [] pos) X.env = (do
      let ov ← eval (.Name x p1) X.env
      standAt p2.atName
      let (f, first) ← holding [ov] (getMethod ov m pl)
      callWith pos f first (backTo pos (starEach (e :: es) X.env)) (backToKw pos (keywordEach [] X.env))) := by rfl) :
    PE X (.Call (.Attribute (.Name x p1) m p2) (e :: es) [] pos) (tFnC sp E t) := ⟨fun pins s σ H Q I h =>
  PySem.W.methodCall_KW (pl := pl) (ld_glob I hg hm (PySem.W.method_cls I.kIn r.ga (ClX.getcval_ok I r c fun s2 I2 =>
    PySem.W.callWith_K (h₀ := X.base) I2.ok.mod.kin hk (thn (ha.run pos pins s2 σ H _ I2 h) fun us s3 ⟨vs, H2, I3, rv, q2⟩ => ⟨I3.kIn, L2H.run_fnH (E := fun _ => E) F hr hc hb (fun pins H s e s' I c => hx pins σ H s e s' I c) I3 rv q2⟩) hst hpl)) hdb) ht⟩
end
def tTryX (K : PySem.W.Frag) (c : Value) (tb : WX → TS) (ts : Addr → Value → Option Addr → TS) (Wout : WX) : TS := fun D σ H => tb (wOnly K c ts Wout D) D σ H
theorem ps_tryX {X : Cx} {x : Str} {c : Value} {body suite : List Stmt} {b₀ : Stmt} {np pos pos' : Pos} {tb : WX → TS} {ts : Addr → Value → Option Addr → TS} {Wout : WX} (hs : X.stack = X.env :: X.outer) (hf : X.env.frame = some X.env.locals) (hc : Names X x c) (hpa : ∀ hd : Option Value, PassesOwnAt (model X.prog X.w) (X.A.mark hd) X.A X.env X.xe) (tk : L2.Takes X Wout)
    (hb : ∀ (W : WX) (pn : List (Addr × Obj)) (xe : Value → Shared → Prop), L2N.Takes (X.tr pn xe) W → L2.Takes (X.tr pn xe) (L2H.wPass X.K c Wout) → PassesOwn (model X.prog X.w) X.A X.env xe → PSs (X.tr pn xe) body (tb W))
    (hsu : ∀ (a : Addr) (oe : Obj) (cls : Value) (d : Option Addr) (pn : List (Addr × Obj)), L2N.Zn cls d oe → (∃ vs, oe.data = .fields vs) → L2.Takes (L2H.suiteX X a ((a, oe) :: pn)) Wout → L2H.HotC (L2H.suiteX X a ((a, oe) :: pn)) → PSs (L2H.suiteX X a ((a, oe) :: pn)) (b₀ :: suite) (ts a cls d)) :
    PS X (.Try body [.ExceptHandler (some (.Name x np)) none (b₀ :: suite) pos'] [] [] pos) (tTryX X.K c tb ts Wout) := L2H.ps_try_onlyX hs hf hc hpa tk hb hsu
section
variable {K : PySem.W.Frag} {C : Cz} {ρ : List Sl} {PO : Out → Prop} {P : D → Prop} {ta : TA} {S : Sd}
/-- try: body except c: handler -/
theorem run_tryX {c : Value} {tb : WX → TS} {ts : Addr → Value → Option Addr → TS} {Wout : WX} (hb : ∀ W : WX, ((∀ a cls d, Run K C (ts a cls d) ρ PO) → ∀ cls, PySem.W.exmOne K cls c = some true → ∀ d σ H, St K C ρ σ H → W cls d σ H) → Run K C (tb W) ρ PO) :
    Run K C (tTryX K c tb ts Wout) ρ PO := fun En σ H s k =>
  hb _ (fun hs cls hc d σ H s => ⟨true, hc, fun _ a _ => hs a cls d En σ H s k, fun z => nomatch z⟩) En σ H s k
/-- a call in the body: what it raises is caught -/
theorem ev_callSX {W : WX} {Ce : Addr} {c : Value} (hW : ∀ cls, PySem.W.exmOne K cls c = some true → ∀ d σ H, St K C ρ σ H → W cls d σ H) (hc : PySem.W.exmOne K (.ref Ce) c = some true)
    (h : EvA K C ta ρ fun ds => S [] ds fun r => match r with | .ok d => P d | .er x => x.C = Ce) : Ev K C (tCallSD (spD K S) [] (WE W) ta) ρ P := fun σ H Q s k =>
  h σ H _ s fun ds vs H1 q s1 f1 a1 => by
    have st : ∀ H', Fr [] H1 H' → (∀ p, p ∈ Os C ρ → H' p ≠ none) → (∀ p, p ∈ C.tabs → Tab H' p) → St K C ρ σ H' := fun H' f lv tb =>
      s1.bfr (f.mono fun _ m => nomatch m) (fun b o n h0 nt => f b o (fun z => nomatch z) (s1.fr b o n h0 nt) nt) lv (fun q m => by
        obtain ⟨cs, i, hh, sd, y⟩ := (s1.bg q m).1
        exact ⟨cs, i, hh, sd, f _ _ (fun z => nomatch z) y.at_ (fun _ z => nomatch z), f _ _ (fun z => nomatch z) y.cells (fun _ z => nomatch z), y.ne, y.len, y.i0, y.h0, y.s0, y.s1⟩) tb
    refine ⟨Os C ρ, C.tabs, [], ds, fun r => match r with | .ok d => P d | .er x => x.C = Ce, by rw [List.append_nil]; exact a1, s1.lv, (fun q m => by cases m), s1.tb, q, fun d v H' p f lv bg tb a => ?_, fun y p v H' f lv bg tb a => ?_⟩
    · exact k d v H' p (st H' f lv tb) (f1.trans (f.mono fun _ m => nomatch m)) a
    · have p : y.C = Ce := p
      exact fun dd nd => hW (.ref y.C) (by rw [p]; exact hc) _ _ _ ((st H' f lv tb).same (same_upd nd))
end

/-! ### an operator that is read in one of two ways -/
theorem fnR_ofB {P : Program} {w : World} {K : PySem.W.Frag} {mg : Str → Option Value} {base : Heap} {CX : CXT} {k : Nat} {f : Addr} {fd : FuncData} {ps : List Str} {sp : Sp} (F : FnOk P w K mg base CX k f fd ps sp) (hb : Binds K fd ps []) : FnR P w K mg base CX k f sp :=
  (F.raw (dvs := []) hb .nil).imp fun vs H Q E h => by rw [List.append_nil]; exact h
def rOr2 (r1 r2 : R2) : R2 := fun x y H Q => r1 x y H Q ∨ r2 x y H Q
theorem op_or2 {X : Cx} {o : Value → Value → Sem Value} {r1 r2 : R2} (h1 : OpR X o r1) (h2 : OpR X o r2) : OpR X o (rOr2 r1 r2) := by
  intro pins s σ H x y v u Q I rx ry h
  rcases h with h | h
  · exact h1 pins s σ H x y v u Q I rx ry h
  · exact h2 pins s σ H x y v u Q I rx ry h
section
variable {K : PySem.W.Frag} {C : Cz} {ρ : List Sl} {P : D → Prop} {ta tb : TE} {S : Sd} {E : XK} {Cl : Addr} {r1 r2 : R2}
/-- a goal that the steps leave alone -/
def Hold (p : Prop) : Prop := p
theorem hold_if {tt : TT} {te : TE} {i : Nat} {PO : Out → Prop} (h : Hold (Run K C (tIfS tt (tAsg te (gName i)) tNext) ρ PO)) : Run K C (tIfS tt (tAsg te (gName i)) tNext) ρ PO := h
/-- if test: x = e; both ways come to one value of x -/
theorem run_ifTo {tt : TT} {ta : TS} {PO : Out → Prop} (i : Nat) (d0 : D) (h : EvT K C tt ρ fun b => (b = true → Run K C ta ρ fun o => o = .nx (ρ.set i (.val d0))) ∧ (b = false → ρ[i]? = some (.val d0))) (k : PO (.nx (ρ.set i (.val d0)))) : Hold (Run K C (tIfS tt ta tNext) ρ PO) :=
  run_if fun σ H Q s kk => h σ H Q s fun b H' p s' f => kk b H' (by
    cases b with
    | true =>
      rw [if_pos rfl]
      exact run_mono (p.1 rfl) fun o e => by rw [e]; exact k
    | false =>
      rw [if_neg (by decide)]
      refine run_next ?_
      have := set_self (p.2 rfl)
      rw [this] at k
      exact k) s' f
theorem ev_or2L {f : D → D → (D → Prop) → Prop} [o : OpD K r1 f] (h : Ev K C ta ρ fun d => Ev K C tb ρ fun e => f d e P) : Ev K C (tOp (rOr2 r1 r2) ta tb) ρ P := fun σ H Q s k =>
  h σ H _ s fun d v H1 q s1 f1 a1 => q σ H1 _ s1 fun e w H2 q2 s2 f2 a2 => .inl (o.op (Os C ρ) H2 v w d e _ P (a1.fr (s.up f2)) a2 q2 s2.lv fun d' v' H' p e3 a3 => k _ _ _ p (s2.same e3) ((f1.trans f2).trans (Fr.of e3)) a3)
theorem ev_or2Ne (h : Ev K C ta ρ fun d => Ev K C tb ρ fun e => asIns Cl d fun l => asIns Cl e fun r => S [] [.ins Cl l, .ins Cl r] (okP fun d => asB d fun z => P (.bl (!z)))) : Ev K C (tOp (rOr2 r1 (rOwnNe Cl (spD K S) E)) ta tb) ρ P := fun σ H Q s k => h σ H _ s fun d v H1 q s1 f1 a1 => q σ H1 _ s1 fun e u H2 q2 s2 f2 a2 => by
  have a1' := a1.fr (s.up f2)
  obtain ⟨p, dx, fs, l, rfl, rfl, h1, _, h3, q2⟩ := at_ins a1' q2
  obtain ⟨p', dx', fs', l', rfl, rfl, h1', _, h3', q2⟩ := at_ins a2 q2
  refine .inr ⟨p, dx, fs, p', dx', fs', rfl, rfl, h1, h1', Os C ρ, C.tabs, [], [.ins Cl l, .ins Cl l'], _, .cons a1' (.one a2), s2.lv, (fun q m => nomatch m), s2.tb, q2, fun d v H' p f lv bg tb a => ?_, fun x p => False.elim p⟩
  obtain ⟨z, rfl, rfl, q⟩ := at_bl a (show asB d _ from p)
  exact ⟨z, rfl, k _ _ _ q (s2.kept f lv tb) ((f1.trans f2).trans (f.mono fun _ m => nomatch m)) (.bl _)⟩
end

theorem binds_pe {K : PySem.W.Frag} {f : Addr} {fd : FuncData} (F : FunD K "__init__" "PileError.__init__" (defArgs s_PileError) (defBody s_PileError) (defScope s_PileError) [.str "PileError"] [] f fd) : Binds K fd P_PileError [] := by
  obtain ⟨ds, h1, h2⟩ := F.binds1 (ps := P_PileError) 2 1 (List.cons_ne_nil _ _) rfl (fun T kV doc pm an cdv ct us its hu hi => match us, hu, its, hi with | [_, _], _, [_], _ => ⟨_, rfl, rfl⟩)
  cases h1
  exact h2
structure Txt (K : PySem.W.Frag) (mg : Str → Option Value) (w : World) where
  a__wall : Addr
  d__wall : FuncData
  F__wall : Fun K "_wall" "_wall" s__wall a__wall d__wall
  g__wall : mg "_wall" = some (.ref a__wall)
  b__wall : Binds K d__wall P__wall []
  a_is_number : Addr
  d_is_number : FuncData
  F_is_number : Fun K "is_number" "is_number" s_is_number a_is_number d_is_number
  g_is_number : mg "is_number" = some (.ref a_is_number)
  b_is_number : Binds K d_is_number P_is_number []
  a_read_number : Addr
  d_read_number : FuncData
  F_read_number : FunD K "read_number" "read_number" (defArgs s_read_number) (defBody s_read_number) (defScope s_read_number) [.int 31] [] a_read_number d_read_number
  b_read_number : ∃ ds, Vals [.int 31] ds ∧ Binds K d_read_number P_read_number ds
  g_read_number : mg "read_number" = some (.ref a_read_number)
  a_is_end : Addr
  d_is_end : FuncData
  F_is_end : Fun K "is_end" "is_end" s_is_end a_is_end d_is_end
  g_is_end : mg "is_end" = some (.ref a_is_end)
  b_is_end : Binds K d_is_end P_is_end []
  a_is_end_place : Addr
  d_is_end_place : FuncData
  F_is_end_place : Fun K "is_end_place" "is_end_place" s_is_end_place a_is_end_place d_is_end_place
  g_is_end_place : mg "is_end_place" = some (.ref a_is_end_place)
  b_is_end_place : Binds K d_is_end_place P_is_end_place []
  a_check_end_place : Addr
  d_check_end_place : FuncData
  F_check_end_place : Fun K "check_end_place" "check_end_place" s_check_end_place a_check_end_place d_check_end_place
  g_check_end_place : mg "check_end_place" = some (.ref a_check_end_place)
  b_check_end_place : Binds K d_check_end_place P_check_end_place []
  a_end_text : Addr
  d_end_text : FuncData
  F_end_text : Fun K "end_text" "end_text" s_end_text a_end_text d_end_text
  g_end_text : mg "end_text" = some (.ref a_end_text)
  b_end_text : Binds K d_end_text P_end_text []
  a_read_end : Addr
  d_read_end : FuncData
  F_read_end : Fun K "read_end" "read_end" s_read_end a_read_end d_read_end
  g_read_end : mg "read_end" = some (.ref a_read_end)
  b_read_end : Binds K d_read_end P_read_end []
  a_place_text : Addr
  d_place_text : FuncData
  F_place_text : Fun K "place_text" "place_text" s_place_text a_place_text d_place_text
  g_place_text : mg "place_text" = some (.ref a_place_text)
  b_place_text : Binds K d_place_text P_place_text []
  a_parse_place : Addr
  d_parse_place : FuncData
  F_parse_place : Fun K "parse_place" "parse_place" s_parse_place a_parse_place d_parse_place
  g_parse_place : mg "parse_place" = some (.ref a_parse_place)
  b_parse_place : Binds K d_parse_place P_parse_place []
  a_is_move : Addr
  d_is_move : FuncData
  F_is_move : Fun K "is_move" "is_move" s_is_move a_is_move d_is_move
  g_is_move : mg "is_move" = some (.ref a_is_move)
  b_is_move : Binds K d_is_move P_is_move []
  a_fits : Addr
  d_fits : FuncData
  F_fits : Fun K "fits" "fits" s_fits a_fits d_fits
  g_fits : mg "fits" = some (.ref a_fits)
  b_fits : Binds K d_fits P_fits []
  a_check_move : Addr
  d_check_move : FuncData
  F_check_move : Fun K "check_move" "check_move" s_check_move a_check_move d_check_move
  g_check_move : mg "check_move" = some (.ref a_check_move)
  b_check_move : Binds K d_check_move P_check_move []
  a_cards_needed : Addr
  d_cards_needed : FuncData
  F_cards_needed : Fun K "cards_needed" "cards_needed" s_cards_needed a_cards_needed d_cards_needed
  g_cards_needed : mg "cards_needed" = some (.ref a_cards_needed)
  b_cards_needed : Binds K d_cards_needed P_cards_needed []
  a_move_text : Addr
  d_move_text : FuncData
  F_move_text : Fun K "move_text" "move_text" s_move_text a_move_text d_move_text
  g_move_text : mg "move_text" = some (.ref a_move_text)
  b_move_text : Binds K d_move_text P_move_text []
  a_item_text : Addr
  d_item_text : FuncData
  F_item_text : Fun K "item_text" "item_text" s_item_text a_item_text d_item_text
  g_item_text : mg "item_text" = some (.ref a_item_text)
  b_item_text : Binds K d_item_text P_item_text []
  a_parse_move : Addr
  d_parse_move : FuncData
  F_parse_move : Fun K "parse_move" "parse_move" s_parse_move a_parse_move d_parse_move
  g_parse_move : mg "parse_move" = some (.ref a_parse_move)
  b_parse_move : Binds K d_parse_move P_parse_move []
  a_read_item : Addr
  d_read_item : FuncData
  F_read_item : Fun K "read_item" "read_item" s_read_item a_read_item d_read_item
  g_read_item : mg "read_item" = some (.ref a_read_item)
  b_read_item : Binds K d_read_item P_read_item []
  a__law_bag : Addr
  d__law_bag : FuncData
  F__law_bag : Fun K "_law_bag" "_law_bag" s__law_bag a__law_bag d__law_bag
  g__law_bag : mg "_law_bag" = some (.ref a__law_bag)
  b__law_bag : Binds K d__law_bag P__law_bag []
  a__law_pull : Addr
  d__law_pull : FuncData
  F__law_pull : Fun K "_law_pull" "_law_pull" s__law_pull a__law_pull d__law_pull
  g__law_pull : mg "_law_pull" = some (.ref a__law_pull)
  b__law_pull : Binds K d__law_pull P__law_pull []
  a__law_of : Addr
  d__law_of : FuncData
  F__law_of : Fun K "_law_of" "_law_of" s__law_of a__law_of d__law_of
  g__law_of : mg "_law_of" = some (.ref a__law_of)
  b__law_of : Binds K d__law_of P__law_of []
  a__law_same : Addr
  d__law_same : FuncData
  F__law_same : Fun K "_law_same" "_law_same" s__law_same a__law_same d__law_same
  g__law_same : mg "_law_same" = some (.ref a__law_same)
  b__law_same : Binds K d__law_same P__law_same []
  a__law_field : Addr
  d__law_field : FuncData
  F__law_field : Fun K "_law_field" "_law_field" s__law_field a__law_field d__law_field
  g__law_field : mg "_law_field" = some (.ref a__law_field)
  b__law_field : Binds K d__law_field P__law_field []
  a__law_try : Addr
  d__law_try : FuncData
  F__law_try : Fun K "_law_try" "_law_try" s__law_try a__law_try d__law_try
  g__law_try : mg "_law_try" = some (.ref a__law_try)
  b__law_try : Binds K d__law_try P__law_try []
  a__law_made : Addr
  d__law_made : FuncData
  F__law_made : Fun K "_law_made" "_law_made" s__law_made a__law_made d__law_made
  g__law_made : mg "_law_made" = some (.ref a__law_made)
  b__law_made : Binds K d__law_made P__law_made []
  a__law_end_text : Addr
  d__law_end_text : FuncData
  F__law_end_text : Fun K "_law_end_text" "_law_end_text" s__law_end_text a__law_end_text d__law_end_text
  g__law_end_text : mg "_law_end_text" = some (.ref a__law_end_text)
  b__law_end_text : Binds K d__law_end_text P__law_end_text []
  a__law_move_text : Addr
  d__law_move_text : FuncData
  F__law_move_text : Fun K "_law_move_text" "_law_move_text" s__law_move_text a__law_move_text d__law_move_text
  g__law_move_text : mg "_law_move_text" = some (.ref a__law_move_text)
  b__law_move_text : Binds K d__law_move_text P__law_move_text []
  a__law_text : Addr
  d__law_text : FuncData
  F__law_text : Fun K "_law_text" "_law_text" s__law_text a__law_text d__law_text
  g__law_text : mg "_law_text" = some (.ref a__law_text)
  b__law_text : Binds K d__law_text P__law_text []
  a_law : Addr
  d_law : FuncData
  F_law : Fun K "law" "law" s_law a_law d_law
  g_law : mg "law" = some (.ref a_law)
  a_Word___init__ : Addr
  d_Word___init__ : FuncData
  F_Word___init__ : Fun K "__init__" "Word.__init__" s_Word___init__ a_Word___init__ d_Word___init__
  a_Word_read : Addr
  d_Word_read : FuncData
  F_Word_read : Fun K "read" "Word.read" s_Word_read a_Word_read d_Word_read
  b_Word_read : Binds K d_Word_read P_Word_read []
  a_Word___add__ : Addr
  d_Word___add__ : FuncData
  F_Word___add__ : Fun K "__add__" "Word.__add__" s_Word___add__ a_Word___add__ d_Word___add__
  b_Word___add__ : Binds K d_Word___add__ P_Word___add__ []
  a_Word___str__ : Addr
  d_Word___str__ : FuncData
  F_Word___str__ : Fun K "__str__" "Word.__str__" s_Word___str__ a_Word___str__ d_Word___str__
  b_Word___str__ : Binds K d_Word___str__ P_Word___str__ []
  c_law : Addr
  p_law : Addr
  C_law : FunC K "law" "law" s_law a_law d_law c_law
  a_PileError : Addr
  g_PileError : mg "PileError" = some (.ref a_PileError)
  f_PileError : Addr
  d_PileError : FuncData
  F_PileError : FunD K "__init__" "PileError.__init__" (defArgs s_PileError) (defBody s_PileError) (defScope s_PileError) [.str "PileError"] [] f_PileError d_PileError
  b_PileError : Binds K d_PileError P_PileError []
  r_PileError : ClX.CRead K a_PileError (.type "type")
  v_PileError : ClX.CVal K a_PileError (.type "type") "__init__" (.ref f_PileError) (.ref f_PileError)
  a_BadPlace : Addr
  g_BadPlace : mg "BadPlace" = some (.ref a_BadPlace)
  x_BadPlace : ExcT K a_BadPlace a_PileError ["code", "place"]
  f_BadPlace : Addr
  d_BadPlace : FuncData
  F_BadPlace : Fun K "__init__" "BadPlace.__init__" s_BadPlace f_BadPlace d_BadPlace
  b_BadPlace : Binds K d_BadPlace P_BadPlace []
  i_BadPlace : PySem.W.findIn K (.ref a_BadPlace) "__init__" = some (some (.ref f_BadPlace))
  ti_BadPlace : PySem.W.typeIn K (.ref f_BadPlace) = some (.type "function")
  a_BadMove : Addr
  g_BadMove : mg "BadMove" = some (.ref a_BadMove)
  x_BadMove : ExcT K a_BadMove a_PileError ["code", "at"]
  f_BadMove : Addr
  d_BadMove : FuncData
  F_BadMove : Fun K "__init__" "BadMove.__init__" s_BadMove f_BadMove d_BadMove
  b_BadMove : Binds K d_BadMove P_BadMove []
  i_BadMove : PySem.W.findIn K (.ref a_BadMove) "__init__" = some (some (.ref f_BadMove))
  ti_BadMove : PySem.W.typeIn K (.ref f_BadMove) = some (.type "function")
  a_BadText : Addr
  g_BadText : mg "BadText" = some (.ref a_BadText)
  e_BadText : PySem.W.exmOne K (.ref a_BadText) (.ref a_BadText) = some true
  x_BadText : ExcT K a_BadText a_PileError ["code", "at"]
  f_BadText : Addr
  d_BadText : FuncData
  F_BadText : Fun K "__init__" "BadText.__init__" s_BadText f_BadText d_BadText
  b_BadText : Binds K d_BadText P_BadText []
  i_BadText : PySem.W.findIn K (.ref a_BadText) "__init__" = some (some (.ref f_BadText))
  ti_BadText : PySem.W.typeIn K (.ref f_BadText) = some (.type "function")
  a_TooLong : Addr
  g_TooLong : mg "TooLong" = some (.ref a_TooLong)
  x_TooLong : ExcT K a_TooLong a_PileError ["code", "limit"]
  f_TooLong : Addr
  d_TooLong : FuncData
  F_TooLong : Fun K "__init__" "TooLong.__init__" s_TooLong f_TooLong d_TooLong
  b_TooLong : Binds K d_TooLong P_TooLong []
  i_TooLong : PySem.W.findIn K (.ref a_TooLong) "__init__" = some (some (.ref f_TooLong))
  ti_TooLong : PySem.W.typeIn K (.ref f_TooLong) = some (.type "function")
  a_Missing : Addr
  g_Missing : mg "Missing" = some (.ref a_Missing)
  a_Word : Addr
  g_Word : mg "Word" = some (.ref a_Word)
  cls_Word : Cls K a_Word
  is_Word : IsOwn K a_Word
  mk_Word : Mk K a_Word a_Word___init__
  no_Word_steps : NoAttr K a_Word "steps"
  no_Word_needed : NoAttr K a_Word "needed"
  r_Word : ClX.CRead K a_Word (.type "type")
  t_Word_MOST_MOVES : Tok
  v_Word_MOST_MOVES : ClX.CVal K a_Word (.type "type") "MOST_MOVES" (.int 40) (.int 40 t_Word_MOST_MOVES)
  t_Word_MOST_REACH : Tok
  v_Word_MOST_REACH : ClX.CVal K a_Word (.type "type") "MOST_REACH" (.int 60) (.int 60 t_Word_MOST_REACH)
  O_Word___add__ : OwnOp K a_Word a_Word___add__ "__add__"
  O_Word___str__ : OwnOp K a_Word a_Word___str__ "__str__"
  p_Word_read : Addr
  K_Word_read : ClX.CMet K a_Word (.type "type") "read" p_Word_read a_Word_read
  m_abs : mg "abs" = none
  m_all : mg "all" = none
  m_bool : mg "bool" = none
  m_dict : mg "dict" = none
  m_enumerate : mg "enumerate" = none
  m_int : mg "int" = none
  m_isinstance : mg "isinstance" = none
  m_len : mg "len" = none
  m_list : mg "list" = none
  m_max : mg "max" = none
  m_range : mg "range" = none
  m_str : mg "str" = none
  m_sum : mg "sum" = none
  m_tuple : mg "tuple" = none
  m_zip : mg "zip" = none
  t_MOST_DIGITS : Tok
  c_MOST_DIGITS : mg "MOST_DIGITS" = some (.int 31 t_MOST_DIGITS)
  t_MOST_DEPTH : Tok
  c_MOST_DEPTH : mg "MOST_DEPTH" = some (.int 399 t_MOST_DEPTH)
  t_MOST_BLOCK : Tok
  c_MOST_BLOCK : mg "MOST_BLOCK" = some (.int 400 t_MOST_BLOCK)
  a_ENDS : Addr
  c_ENDS : mg "ENDS" = some (.ref a_ENDS)
  d_ENDS : KD K w a_ENDS
  x_ENDS : ∀ z : Str, z ∉ (["t", "b"] : List Str) → KMiss K w a_ENDS z
  e_ENDS_t : KDct K w a_ENDS "t" (.str "top")
  e_ENDS_b : KDct K w a_ENDS "b" (.str "bottom")
  a_SHAPES : Addr
  c_SHAPES : mg "SHAPES" = some (.ref a_SHAPES)
  d_SHAPES : KD K w a_SHAPES
  x_SHAPES : ∀ z : Str, z ∉ (["swap", "carry", "cut", "turn", "over", "face"] : List Str) → KMiss K w a_SHAPES z
  a_SHAPES_swap : Addr
  e_SHAPES_swap : KDct K w a_SHAPES "swap" (.ref a_SHAPES_swap)
  q_SHAPES_swap : ∀ H : Hp, SqT K H a_SHAPES_swap [.str "place", .str "place"]
  a_SHAPES_carry : Addr
  e_SHAPES_carry : KDct K w a_SHAPES "carry" (.ref a_SHAPES_carry)
  q_SHAPES_carry : ∀ H : Hp, SqT K H a_SHAPES_carry [.str "place", .str "place"]
  a_SHAPES_cut : Addr
  e_SHAPES_cut : KDct K w a_SHAPES "cut" (.ref a_SHAPES_cut)
  q_SHAPES_cut : ∀ H : Hp, SqT K H a_SHAPES_cut [.str "signed"]
  a_SHAPES_turn : Addr
  e_SHAPES_turn : KDct K w a_SHAPES "turn" (.ref a_SHAPES_turn)
  q_SHAPES_turn : ∀ H : Hp, SqT K H a_SHAPES_turn [.str "end", .str "block"]
  a_SHAPES_over : Addr
  e_SHAPES_over : KDct K w a_SHAPES "over" (.ref a_SHAPES_over)
  q_SHAPES_over : ∀ H : Hp, SqT K H a_SHAPES_over []
  a_SHAPES_face : Addr
  e_SHAPES_face : KDct K w a_SHAPES "face" (.ref a_SHAPES_face)
  q_SHAPES_face : ∀ H : Hp, SqT K H a_SHAPES_face [.str "place"]
end Z
namespace Z
open PySem PySem.Spec PyProof.Rows L2
-- what stands at an address
local macro_rules | `(tactic| walk_at "hp") => `(tactic| first | assumption | exact upd_same | exact BagAt.at_ (by assumption) | exact BagAt.cells (by assumption) | fail "hp")
local macro_rules | `(tactic| walk_at "sq") => `(tactic| first | assumption | (refine Or.inl (Or.inl ?_); walk_at "hp") | (apply Same.seq <;> assumption))
-- bounds
local macro_rules | `(tactic| walk_at "num") => `(tactic| first
  | exact rfl | decide | exact le_line (Nat.le_of_ble_eq_true rfl) | exact lt_line (Nat.le_of_ble_eq_true rfl)
  | (exact mul_ok (small_abs (by omega)) (small_abs (by omega)))
  | (exact div_small (by omega) (by omega))
  | (exact div_ok (by omega) (by assumption))
  | (refine ⟨?_, ?_⟩ <;> omega) | omega
  | (show (_ : Int) ≠ 0; omega) | (show CPow _ _; unfold CPow; decide))
-- one step
local macro_rules | `(tactic| walk_at "rd") => `(tactic| first
  | (refine Exists.intro _ (And.intro rfl ?_))
  | (refine Exists.intro _ (Exists.intro _ (And.intro rfl (And.intro rfl ?_))))
  | (refine Or.inl (Exists.intro _ (And.intro rfl ?_)))
  | (refine Or.inr (Exists.intro _ (And.intro rfl ?_)))
  | (with_reducible refine iteF ?_) | (with_reducible refine iteT ?_)
  | (refine And.intro ?cc ?_; (case cc => walk_at "num"))
  | (refine' Exists.intro _ (Exists.intro _ (Exists.intro _ (Exists.intro _ (And.intro rfl (And.intro rfl (And.intro ?sq (And.intro ?ha ?k))))))); (case sq => walk_at "sq"); (case ha => first | exact rfl | assumption | exact at_zero))
  | (refine' Exists.intro _ (Exists.intro _ (And.intro rfl (And.intro (Or.inl ?sq) ?k))); (case sq => walk_at "sq")))
local macro_rules | `(tactic| walk_at "sqt") => `(tactic| first | assumption | (refine Or.inl (Or.inl ?_); walk_at "hp") | (apply Same.tup <;> assumption))
local macro_rules | `(tactic| walk_at "rdt") => `(tactic| first
  | walk_at "rd"
  | (refine' Exists.intro _ (Exists.intro _ (And.intro rfl (And.intro (Or.inr ?sq) ?k))); (case sq => walk_at "sqt"))
  | (refine' Exists.intro _ (Exists.intro _ (Exists.intro _ (Exists.intro _ (And.intro rfl (And.intro rfl (And.intro ?sq (And.intro ?ha ?k))))))); (case sq => walk_at "sqt"); (case ha => first | exact rfl | assumption | exact at_zero))
  | (refine iteF ?_) | (refine iteT ?_))
local macro_rules | `(tactic| walk_at "rds") => `(tactic| repeat walk_at "rdt")
local macro_rules | `(tactic| walk_at "pull") => `(tactic| (refine' Exists.intro _ (Exists.intro _ (Exists.intro _ (And.intro rfl (And.intro ?bag (And.intro ?pos (And.intro ?fit ?kk)))))); (case bag => assumption); (case pos => first | decide | omega); (case fit => exact Fit.of (by first | decide | omega) (by first | decide | omega))))
local macro_rules | `(tactic| walk_at "two") => `(tactic| refine Exists.intro _ (Exists.intro _ (And.intro rfl ?_)))
/-! ### steps by data -/
local macro_rules | `(tactic| walk_at "side") => `(tactic| first
  | exact rfl | assumption | exact Nat.le_of_ble_eq_true rfl | decide | exact True.intro | exact le_line (Nat.le_of_ble_eq_true rfl) | exact lt_line (Nat.le_of_ble_eq_true rfl) | omega | (show (_ : Int) ≠ 0; omega) | exact cut1_ok | (unfold CPow; decide) | exact mul_ok (small_abs (by omega)) (small_abs (by omega)) | exact div_small (by omega) (by omega))
local macro_rules | `(tactic| walk_at "dR") => `(tactic| first
  | with_reducible refine run_seq ?_ | with_reducible refine run_if ?_ | with_reducible refine run_set ?_ | with_reducible refine run_ret ?_ | with_reducible refine run_next ?_
  | with_reducible refine run_asg ?_ | with_reducible refine run_for ?_ | ((with_reducible refine' run_append ?ev ?kk); (case ev => exact rfl)) | ((with_reducible refine' run_aug ?ev ?kk); (case ev => exact rfl))
  | with_reducible refine run_par ?_ | with_reducible refine run_drop ?_ | with_reducible refine run_retN ?_ | with_reducible refine run_break ?_ | with_reducible refine run_cont ?_)
local macro_rules | `(tactic| walk_at "dE") => `(tactic| first
  | ((with_reducible refine' ev_var ?ev ?kk); (case ev => exact rfl))
  | with_reducible refine ev_op ?_ | with_reducible refine ev_int ?_ | with_reducible refine ev_str ?_ | with_reducible refine ev_callC (by assumption) ?_ | with_reducible refine ev_callX (by assumption) ?_ | with_reducible refine ev_call ?_ | with_reducible refine ev_cb ?_ | with_reducible refine ev_tup ?_
  | with_reducible refine ev_if ?_ | with_reducible refine ev_and ?_ | with_reducible refine ev_or ?_ | with_reducible refine ev_not ?_ | with_reducible refine ev_bl ?_ | with_reducible refine ev_non ?_ | with_reducible refine ev_isi ?_
  | with_reducible refine ev_un ?_ | with_reducible refine ev_chain ?_ | with_reducible refine ev_lst ?_ | with_reducible refine ev_cbf ?_ | with_reducible refine ev_sl ?_ | with_reducible refine ev_m1 ?_ | with_reducible refine ev_kget ?_ | with_reducible refine ev_fmt ?_ | with_reducible refine ev_join ?_ | with_reducible refine ev_ty ?_ | with_reducible refine ev_cV ?_)
local macro_rules | `(tactic| walk_at "dT") => `(tactic| first
  | with_reducible refine evt_t ?_ | with_reducible refine evt_b ?_ | with_reducible refine evt_and ?_ | with_reducible refine evt_or ?_ | with_reducible refine evt_not ?_ | with_reducible refine evt_yes ?_)
local macro_rules | `(tactic| walk_at "dX") => `(tactic| first
  | ((with_reducible refine' evx_name ?ev ?kk); (case ev => first | exact rfl | assumption)) | with_reducible refine evx_tup ?_ | with_reducible refine evx_lst ?_ | with_reducible refine evxs_cons ?_ | with_reducible refine evxs_nil ?_
  | ((with_reducible refine' evg_name ?ev ?mm ?kk); (case ev => first | exact rfl | assumption); (case mm => decide)) | with_reducible refine evg_tup ?_ | with_reducible refine evg_lst ?_ | with_reducible refine evgs_cons ?_ | with_reducible refine evgs_nil ?_
  | with_reducible refine evi_list ?_ | with_reducible refine evi_tup ?_ | with_reducible refine evi_rng1 ?_ | with_reducible refine evi_rng2 ?_ | with_reducible refine evi_enum ?_ | with_reducible refine evi_zip ?_
  | with_reducible refine evo_none ?_ | with_reducible refine evo_some ?_ | with_reducible refine evj_cons ?_ | with_reducible refine evj_nil ?_)
local macro_rules | `(tactic| walk_at "d1") => `(tactic| first
  | ((with_reducible change Ev _ _ _ _ _); walk_at "dE")
  | ((with_reducible change Run _ _ _ _ _); walk_at "dR")
  | with_reducible refine eva_cons ?_ | with_reducible refine eva_nil ?_
  | ((with_reducible change EvT _ _ _ _ _); walk_at "dT")
  | with_reducible refine eva_star ?_
  | with_reducible refine iteT ?_ | with_reducible refine iteF ?_
  | ((with_reducible change if (_ : Bool) = true then _ else _); first | refine iteT ?_ | refine iteF ?_)
  | ((with_reducible refine And.intro ?cc ?_); (case cc => walk_at "side"))
  | ((with_reducible refine' Exists.intro _ (And.intro ?cc ?kk)); (case cc => first | exact rfl | exact at_zero))
  | ((with_reducible refine' Exists.intro _ (Exists.intro _ (And.intro ?cc ?kk))); (case cc => exact rfl))
  | ((with_reducible refine' Exists.intro _ (Exists.intro _ (Exists.intro _ (And.intro ?cc (And.intro ?cd ?kk))))); (case cc => exact rfl); (case cd => exact rfl))
  | ((with_reducible refine' Exists.intro _ (Exists.intro _ (Exists.intro _ (And.intro ?cc ?kk)))); (case cc => exact rfl))
  | ((with_reducible refine' Exists.intro _ (Exists.intro _ (Exists.intro _ (Exists.intro _ (And.intro ?cc ?kk))))); (case cc => exact rfl))
  | walk_at "dX")
local macro_rules | `(tactic| walk_at "d2") => `(tactic| walk_at "d1")
local macro_rules | `(tactic| walk_at "dgo") => `(tactic| repeat walk_at "d1")
local macro_rules | `(tactic| walk_at "wk") => `(tactic| repeat first | exact True.intro | refine And.intro (Or.inl rfl) ?_ | refine And.intro (Or.inr (And.intro rfl rfl)) ?_)
/-! ### end places by data -/
def fine (d : D) : Prop := d.pure = true ∧ SeqAt.shaped d.py = true
@[reducible] def isNum : D → Bool
  | .int _ => true
  | _ => false
def isEnd (d : D) : Bool := PyData.eqv d.py (.str "top") || PyData.eqv d.py (.str "bottom")
def isN0 : D → Bool
  | .int i => decide (0 ≤ i)
  | _ => false
def isEP : D → Bool
  | .tup [a, b] => isEnd a && isN0 b
  | _ => false
theorem isiOk_of {d : D} (h : d.pure = true) : isiOk d = true := by cases d <;> first | rfl | exact Bool.noConfusion h
theorem fine_str {z : Str} (h : PyData.strOk z = true) : fine (.str z) := ⟨rfl, by show (PyData.strOk z && _) = true; rw [h]; rfl⟩
theorem fine_int (i : Int) : fine (.int i) := ⟨rfl, rfl⟩
theorem canLayAll_get : ∀ {l : List D} {i : Nat} {d : D}, PyData.canLayAll0 (pys l) = true → l[i]? = some d → d.py.canLay0 = true
  | [], i, d, _, e => by simp at e
  | x :: l, i, d, h, e => by
    have h' : (PyData.canLay0 x.py && PyData.canLayAll0 (pys l)) = true := h
    obtain ⟨h1, h2⟩ := Bool.and_eq_true_iff.mp h'
    cases i with
    | zero => cases e; exact h1
    | succ i => exact canLayAll_get h2 (by simpa using e)
theorem pures_get : ∀ {l : List D} {i : Nat} {d : D}, pures l = true → l[i]? = some d → d.pure = true
  | [], i, d, _, e => by simp at e
  | x :: l, i, d, h, e => by
    have h' : (x.pure && pures l) = true := h
    obtain ⟨h1, h2⟩ := Bool.and_eq_true_iff.mp h'
    cases i with
    | zero => cases e; exact h1
    | succ i => exact pures_get h2 (by simpa using e)
/-- fine data of at most so many layers -/
def fineN (n : Nat) (d : D) : Prop := d.pure = true ∧ d.py.canLay0 = true ∧ d.py.depth ≤ n
theorem fineN.fine {n : Nat} {d : D} (h : fineN n d) (hn : n ≤ 64 := by decide) : fine d := by
  refine ⟨h.1, ?_⟩
  unfold SeqAt.shaped
  rw [h.2.1, Bool.true_and]
  exact decide_eq_true (Nat.le_trans h.2.2 hn)
theorem fineN.mono {n m : Nat} {d : D} (h : fineN n d) (hn : n ≤ m) : fineN m d := ⟨h.1, h.2.1, Nat.le_trans h.2.2 hn⟩
theorem fineN_int (n : Nat) (i : Int) : fineN n (.int i) := ⟨rfl, by simp [D.py, PyData.canLay0], by simp [D.py, PyData.depth]⟩
theorem fineN_bl (n : Nat) (i : Bool) : fineN n (.bl i) := ⟨rfl, by simp [D.py, PyData.canLay0], by simp [D.py, PyData.depth]⟩
theorem fineN_non (n : Nat) : fineN n .non := ⟨rfl, by simp [D.py, PyData.canLay0], by simp [D.py, PyData.depth]⟩
theorem fineN_str (n : Nat) {z : Str} (h : PyData.strOk z = true) : fineN n (.str z) := ⟨rfl, by simpa [D.py, PyData.canLay0] using h, by simp [D.py, PyData.depth]⟩
theorem finesN {n : Nat} {l : List D} (h : ∀ d, d ∈ l → fineN n d) : pures l = true ∧ PyData.canLayAll0 (pys l) = true ∧ PyData.depthAll (pys l) ≤ n := by
  induction l with
  | nil => exact ⟨rfl, by simp [pys, PyData.canLayAll0], by simp [pys, PyData.depthAll]⟩
  | cons x l ih =>
    obtain ⟨h1, h2, h3⟩ := ih fun d m => h d (List.mem_cons_of_mem _ m)
    obtain ⟨g1, g2, g3⟩ := h x List.mem_cons_self
    refine ⟨?_, ?_, ?_⟩
    · show (x.pure && pures l) = true
      rw [g1, h1]; rfl
    · simp [pys, PyData.canLayAll0, g2, h2]
    · simp only [pys, PyData.depthAll]
      omega
theorem fineN_tup {n : Nat} {l : List D} (h : ∀ d, d ∈ l → fineN n d) : fineN (n + 1) (.tup l) := by
  obtain ⟨h1, h2, h3⟩ := finesN h
  exact ⟨h1, by simpa [D.py, PyData.canLay0] using h2, by simp only [D.py, PyData.depth]; omega⟩
theorem fineN_lst {n : Nat} {l : List D} (h : ∀ d, d ∈ l → fineN n d) : fineN (n + 1) (.lst l) := by
  obtain ⟨h1, h2, h3⟩ := finesN h
  exact ⟨h1, by simpa [D.py, PyData.canLay0] using h2, by simp only [D.py, PyData.depth]; omega⟩
section
variable {P : Program} {w : World} {K : PySem.W.Frag} {mg : Str → Option Value} {base : Heap}
abbrev S_isnum : Sd := fun _ ds Pq => ∃ d, ds = [d] ∧ isiOk d = true ∧ Pq (.ok (.bl (isNum d)))
theorem ok_is_number (T : Txt K mg w) : FnOk P w K mg base CX0 1 T.a_is_number T.d_is_number P_is_number (spD K S_isnum) := by
  refine okD T.F_is_number sc_is_number (fun bs ds Pq h => ?_) (fun cdv A outer s H E hr => ⟨_, (pss_one (ps_ret (pe_and (k_isi6 (K := K) .int (pv 0) (pe_bltn (v := .ty "int") (by rfl) T.m_int boot_int rfl) (by rfl) T.m_isinstance) (pe_one (pe_not (k_isi6 (K := K) .bool (pv 0) (pe_bltn (v := .ty "bool") (by rfl) T.m_bool boot_bool rfl) (by rfl) T.m_isinstance)))))), ?_⟩)
  · obtain ⟨d, rfl, _⟩ := h
    rfl
  · rintro C ds Pq hE hX ⟨d, rfl, h1, q⟩
    cases d <;> first | exact Bool.noConfusion h1 | (walk_at "dgo"; exact q)
abbrev S_isend : Sd := fun _ ds Pq => ∃ d, ds = [d] ∧ fine d ∧ Pq (.ok (.bl (isEnd d)))
theorem fine_top : SeqAt.shaped (D.str "top").py = true := by decide +kernel
theorem fine_bottom : SeqAt.shaped (D.str "bottom").py = true := by decide +kernel
theorem ok_is_end (T : Txt K mg w) : FnOk P w K mg base CX0 1 T.a_is_end T.d_is_end P_is_end (spD K S_isend) := by
  refine okD T.F_is_end sc_is_end (fun bs ds Pq h => ?_) (fun cdv A outer s H E hr => ⟨_, (pss_one (ps_ret (pe_or (pe_cmpR (k_eqD (K := K) hr.units) (pv 0) pe_str (nomark _)) (pe_one (pe_cmpR (k_eqD (K := K) hr.units) (pv 0) pe_str (nomark _)))))), ?_⟩)
  · obtain ⟨d, rfl, _⟩ := h
    rfl
  · rintro C ds Pq hE hX ⟨d, rfl, ⟨h1, h2⟩, q⟩
    have f1 := fine_top
    have f2 := fine_bottom
    unfold isEnd at q
    walk_at "dgo"
    cases e : PyData.eqv d.py (D.str "top").py with
    | true =>
      rw [show PyData.eqv d.py (.str "top") = true from e] at q
      walk_at "dgo"
      exact q
    | false =>
      rw [show PyData.eqv d.py (.str "top") = false from e] at q
      walk_at "dgo"
      exact q
abbrev S_isep : Sd := fun _ ds Pq => ∃ d, ds = [d] ∧ fine d ∧ Pq (.ok (.bl (isEP d)))
theorem fine_get {l : List D} {i : Nat} {d : D} (h : fine (.tup l)) (e : l[i]? = some d) : fine d := by
  refine ⟨pures_get h.1 e, ?_⟩
  have h1 := SeqAt.canLay_of_shaped h.2
  have h2 := SeqAt.depth_of_shaped h.2
  have h3 : d.py.canLay0 = true := canLayAll_get h1 e
  unfold SeqAt.shaped
  rw [h3, Bool.true_and]
  refine decide_eq_true (Nat.le_trans ?_ h2)
  show d.py.depth ≤ PyData.depth (.tuple (pys l))
  have h4 : d.py ∈ pys l := by
    clear h h1 h2 h3
    induction l generalizing i with
    | nil => simp at e
    | cons x l ih =>
      cases i with
      | zero => cases e; exact List.mem_cons_self
      | succ i => exact List.mem_cons_of_mem _ (ih (by simpa using e))
  have h5 := PyData.depth_le_depthAll (pys l) d.py h4
  first
    | exact Nat.le_succ_of_le h5
    | (unfold PyData.depth; omega)
theorem ok_is_end_place (T : Txt K mg w) : FnOk P w K mg base CX0 2 T.a_is_end_place T.d_is_end_place P_is_end_place (spD K S_isep) := by
  have G_is_number := ok_is_number (P := P) (w := w) (base := base) T
  have G_is_end := ok_is_end (P := P) (w := w) (base := base) T
  refine okD T.F_is_end_place sc_is_end_place (fun bs ds Pq h => ?_) (fun cdv A outer s H E hr => ⟨_, (pss_cons (ps_if (PW.pt (pw_or (pt_not (pt_val (k_isi6 (K := K) .tuple (pv 0) (pe_bltn (v := .ty "tuple") (by rfl) T.m_tuple boot_tuple rfl) (by rfl) T.m_isinstance))) (pw_or1 (pt_cmpR op_ne (pe_callB (k_len (K := K)) (by rfl) T.m_len boot_len (pa_cons (pv 0) pa_nil)) pe_int (nomark _)))))
  (pss_one (ps_ret pe_bl)) pss_nil)
  (pss_one (ps_ret (pe_and (pe_call G_is_end (hr.mono (by decide)) (by rfl) T.g_is_end T.F_is_end.kp T.b_is_end .nil pass0 (pa_cons (pe_ix (k_ixT (K := K)) (pv 0) pe_int (fun _ _ => rfl)) pa_nil)) (pe_and (pe_call G_is_number (hr.mono (by decide)) (by rfl) T.g_is_number T.F_is_number.kp T.b_is_number .nil pass0 (pa_cons (pe_ix (k_ixT (K := K)) (pv 0) pe_int (fun _ _ => rfl)) pa_nil)) (pe_one (pe_cmpR op_ge (pe_ix (k_ixT (K := K)) (pv 0) pe_int (fun _ _ => rfl)) pe_int (nomark _)))))))), ?_⟩)
  · obtain ⟨d, rfl, _⟩ := h
    rfl
  · rintro C ds Pq hE hX ⟨d, rfl, hf, q⟩
    have h1 := isiOk_of hf.1
    cases d with
    | tup l =>
      walk_at "dgo"
      refine iteNE (fun ne => ?_) (fun e => ?_)
      · have : isEP (.tup l) = false := by
          match l, ne with
          | [], _ => rfl
          | [_], _ => rfl
          | [_, _], ne => exact absurd rfl ne
          | _ :: _ :: _ :: _, _ => rfl
        rw [this] at q
        walk_at "dgo"
        exact q
      · obtain ⟨a, b, rfl⟩ : ∃ a b, l = [a, b] := by
          match l, e with
          | [a, b], _ => exact ⟨a, b, rfl⟩
          | [], e => exact absurd e (by decide)
          | [_], e => exact absurd e (by simp)
          | _ :: _ :: _ :: l, e => exact absurd e (by simp only [List.length_cons]; omega)
        have fa := fine_get (i := 0) hf rfl
        have fb := fine_get (i := 1) hf rfl
        walk_at "dgo"
        have q' : Pq (.ok (.bl (isEnd a && isN0 b))) := q
        clear q
        generalize isEnd a = ea at q' ⊢
        cases ea with
        | false =>
          walk_at "dgo"
          exact q'
        | true =>
          have ob := isiOk_of fb.1
          walk_at "dgo"
          cases b <;> (walk_at "dgo"; exact q')
    | _ => walk_at "dgo"; exact q
end
/-! ### moves -/
inductive Mv where
  | swap (a : Bool) (i : Int) (b : Bool) (j : Int)
  | carry (a : Bool) (i : Int) (b : Bool) (j : Int)
  | cut (k : Int)
  | turn (a : Bool) (k : Int)
  | over
  | face (a : Bool) (i : Int)
def endS (a : Bool) : Str := if a = true then "top" else "bottom"
def Mv.nm : Mv → Str
  | .swap .. => "swap"
  | .carry .. => "carry"
  | .cut .. => "cut"
  | .turn .. => "turn"
  | .over => "over"
  | .face .. => "face"
def EndAt (K : PySem.W.Frag) (H : Hp) (v : V) (a : Bool) (i : Int) : Prop := ∃ p, v = .ref p ∧ SqT K H p [.str (endS a), .int i]
def MvIs (K : PySem.W.Frag) (H : Hp) : Mv → List V → Prop
  | .swap a i b j, xs => ∃ x y, xs = [.str "swap", x, y] ∧ EndAt K H x a i ∧ EndAt K H y b j
  | .carry a i b j, xs => ∃ x y, xs = [.str "carry", x, y] ∧ EndAt K H x a i ∧ EndAt K H y b j
  | .cut k, xs => xs = [.str "cut", .int k]
  | .turn a k, xs => xs = [.str "turn", .str (endS a), .int k]
  | .over, xs => xs = [.str "over"]
  | .face a i, xs => ∃ x, xs = [.str "face", x] ∧ EndAt K H x a i
def MvAt (K : PySem.W.Frag) (H : Hp) (v : V) (m : Mv) : Prop := ∃ p xs, v = .ref p ∧ SqT K H p xs ∧ MvIs K H m xs
def Mv.ok : Mv → Prop
  | .swap _ i _ j => 0 ≤ i ∧ i ≤ 399 ∧ 0 ≤ j ∧ j ≤ 399
  | .carry _ i _ j => 0 ≤ i ∧ i ≤ 399 ∧ 0 ≤ j ∧ j ≤ 399
  | .cut k => -400 ≤ k ∧ k ≤ 400
  | .turn _ k => 0 ≤ k ∧ k ≤ 400
  | .over => True
  | .face _ i => 0 ≤ i ∧ i ≤ 399
def Mv.reach : Mv → Int
  | .swap _ i _ j => max i j + 1
  | .carry _ i _ j => max i j + 1
  | .cut k => if k < 0 then -k else k
  | .turn _ k => k
  | .over => 0
  | .face _ i => i + 1
/-- the place of an end place -/
def plc (a : Bool) (i n : Int) : Int := if a = true then i else n - 1 - i
/-- the image of a place, as the program reckons it -/
def Mv.img (n p : Int) : Mv → Int × Bool
  | .swap a i b j => if p = plc a i n then (plc b j n, false) else if p = plc b j n then (plc a i n, false) else (p, false)
  | .carry a i b j => if p = plc a i n then (plc b j n, false) else if plc a i n < p ∧ p ≤ plc b j n then (p - 1, false) else if plc b j n ≤ p ∧ p < plc a i n then (p + 1, false) else (p, false)
  | .cut k => ((p - k).fmod n, false)
  | .turn a k => let f := if a = true then 0 else n - k
    if f ≤ p ∧ p < f + k then (f + (f + k) - 1 - p, true) else (p, false)
  | .over => (n - 1 - p, true)
  | .face a i => (p, decide (p = plc a i n))
def Mv.image (m : Mv) (n p : Int) : Int × Bool := if n < m.reach then (p, false) else m.img n p
theorem EndAt.same {K : PySem.W.Frag} {H H' : Hp} {v : V} {a : Bool} {i : Int} (h : EndAt K H v a i) (e : Same H H') : EndAt K H' v a i := by
  obtain ⟨p, e1, h1⟩ := h
  exact ⟨p, e1, Same.tup e h1⟩
theorem MvIs.same {K : PySem.W.Frag} {H H' : Hp} {m : Mv} {xs : List V} (h : MvIs K H m xs) (e : Same H H') : MvIs K H' m xs := by
  cases m with
  | swap a i b j =>
    obtain ⟨x, y, e1, h1, h2⟩ := h
    exact ⟨x, y, e1, h1.same e, h2.same e⟩
  | carry a i b j =>
    obtain ⟨x, y, e1, h1, h2⟩ := h
    exact ⟨x, y, e1, h1.same e, h2.same e⟩
  | cut k => exact h
  | turn a k => exact h
  | over => exact h
  | face a i =>
    obtain ⟨x, e1, h1⟩ := h
    exact ⟨x, e1, h1.same e⟩
theorem MvAt.same {K : PySem.W.Frag} {H H' : Hp} {v : V} {m : Mv} (h : MvAt K H v m) (e : Same H H') : MvAt K H' v m := by
  obtain ⟨p, xs, e1, h1, h2⟩ := h
  exact ⟨p, xs, e1, Same.tup e h1, h2.same e⟩
/-- texts told apart -/
theorem iteS {z : Str} {A B : Prop} (h : A) : if decide (V.str z = V.str z) = true then A else B := iteD (fun _ => h) fun e => absurd rfl e
theorem iteSN {y z : Str} {A B : Prop} (h : decide (y = z) = false) (q : B) : if decide (V.str y = V.str z) = true then A else B := iteD (fun e => absurd (V.str.inj e) (of_decide_eq_false h)) fun _ => q
theorem dS {z : Str} : decide (V.str z = V.str z) = true := decide_eq_true rfl
theorem dSN {y z : Str} (h : decide (y = z) = false) : decide (V.str y = V.str z) = false := decide_eq_false fun e => of_decide_eq_false h (V.str.inj e)
theorem endS_ne (a : Bool) : decide (endS a = ("top" : Str)) = a := by cases a <;> decide +kernel
theorem endS_bot (a : Bool) : decide (endS a = ("bottom" : Str)) = !a := by cases a <;> decide +kernel
/-! ### moves by data -/
def sndD : D → D
  | .tup [_, x] => x
  | _ => .non
abbrev epD (a : Bool) (i : Int) : D := .tup [.str (endS a), .int i]
@[reducible] def mvD : Mv → D
  | .swap a i b j => .tup [.str "swap", epD a i, epD b j]
  | .carry a i b j => .tup [.str "carry", epD a i, epD b j]
  | .cut k => .tup [.str "cut", .int k]
  | .turn a k => .tup [.str "turn", .str (endS a), .int k]
  | .over => .tup [.str "over"]
  | .face a i => .tup [.str "face", epD a i]
def shapeL : List (Str × List Str) := [("swap", ["place", "place"]), ("carry", ["place", "place"]), ("cut", ["signed"]), ("turn", ["end", "block"]), ("over", []), ("face", ["place"])]
def lkS (z : Str) : List (Str × List Str) → Option (List Str)
  | [] => none
  | (k, v) :: r => if z = k then some v else lkS z r
def shapeOf (z : Str) : Option (List Str) := lkS z shapeL
def d399 : D → Bool
  | .tup [_, .int i] => decide (i ≤ 399)
  | _ => false
def isPl (d : D) : Bool := isEP d && d399 d
def isBt (lo hi : Int) : D → Bool
  | .int i => decide (lo ≤ i) && decide (i ≤ hi)
  | _ => false
def fitsD (part : Str) (item : D) : Bool :=
  if part = "place" then isPl item else if part = "end" then isEnd item else if part = "signed" then isBt (-400) 400 item else isBt 0 400 item
def fitsAll (parts : List Str) (items : List D) : Bool := (parts.zip items).all fun p => fitsD p.1 p.2
def isMoveD : D → Bool
  | .tup (.str n :: items) => match shapeOf n with
    | some parts => decide (items.length = parts.length) && fitsAll parts items
    | none => false
  | _ => false
theorem scalS (y z : Str) : scal (.str y) (.str z) = true := rfl
theorem decS {y z : Str} : decide (V.str y = V.str z) = decide (y = z) := by
  by_cases h : y = z
  · subst h; simp
  · rw [decide_eq_false h, decide_eq_false fun e => h (V.str.inj e)]
theorem isEP_of {d : D} (e : isEP d = true) : ∃ a i, d = .tup [a, .int i] ∧ isEnd a = true ∧ 0 ≤ i := by
  unfold isEP at e
  split at e
  · rename_i a b
    obtain ⟨h1, h2⟩ := Bool.and_eq_true_iff.mp e
    cases b <;> first | exact Bool.noConfusion h2 | exact ⟨a, _, rfl, h1, of_decide_eq_true h2⟩
  · cases e
theorem isNum_of {d : D} (e : isNum d = true) : ∃ i, d = .int i := by
  cases d <;> first | exact Bool.noConfusion e | exact ⟨_, rfl⟩
section
variable {P : Program} {w : World} {K : PySem.W.Frag} {mg : Str → Option Value} {base : Heap}
abbrev S_fits : Sd := fun _ ds Pq => ∃ part item, ds = [.str part, item] ∧ fine item ∧ Pq (.ok (.bl (fitsD part item)))
theorem ok_fits (T : Txt K mg w) : FnOk P w K mg base CX0 3 T.a_fits T.d_fits P_fits (spD K S_fits) := by
  have G_is_end_place := ok_is_end_place (P := P) (w := w) (base := base) T
  have G_is_number := ok_is_number (P := P) (w := w) (base := base) T
  have G_is_end := ok_is_end (P := P) (w := w) (base := base) T
  refine okD T.F_fits sc_fits (fun bs ds Pq h => ?_) (fun cdv A outer s H E hr => ⟨_, (pss_cons (ps_if (pt_cmpR op_eq (pv 0) pe_str (nomark _))
  (pss_one (ps_ret (pe_and (pe_call G_is_end_place (hr.mono (by decide)) (by rfl) T.g_is_end_place T.F_is_end_place.kp T.b_is_end_place .nil pass0 (pa_cons (pv 1) pa_nil)) (pe_one (pe_cmpR op_le (pe_ix (k_ixT (K := K)) (pv 1) pe_int (fun _ _ => rfl)) (pe_glob (v := .int 399) rfl T.c_MOST_DEPTH ⟨_, rfl⟩) (nomark _)))))) pss_nil)
  (pss_cons (ps_if (pt_cmpR op_eq (pv 0) pe_str (nomark _))
  (pss_one (ps_ret (pe_call G_is_end (hr.mono (by decide)) (by rfl) T.g_is_end T.F_is_end.kp T.b_is_end .nil pass0 (pa_cons (pv 1) pa_nil)))) pss_nil)
  (pss_cons (ps_set (i := 2) sc_fits.nd rfl (Or.inl rfl) (pe_ifExp (pt_cmpR op_eq (pv 0) pe_str (nomark _)) (pe_un un_neg (pe_glob (v := .int 400) rfl T.c_MOST_BLOCK ⟨_, rfl⟩)) pe_int))
  (pss_one (ps_ret (pe_and (pe_call G_is_number (hr.mono (by decide)) (by rfl) T.g_is_number T.F_is_number.kp T.b_is_number .nil pass0 (pa_cons (pv 1) pa_nil)) (pe_one (pe_chain op_le op_le (pv 2) (pv 1) (pe_glob (v := .int 400) rfl T.c_MOST_BLOCK ⟨_, rfl⟩))))))))), ?_⟩)
  · obtain ⟨d, i, rfl, _⟩ := h
    rfl
  · rintro C ds Pq hE hX ⟨part, item, rfl, hf, q⟩
    unfold fitsD at q
    have ok := isiOk_of hf.1
    walk_at "dgo"
    rw [decS]
    by_cases h1 : part = "place"
    · rw [decide_eq_true h1]
      rw [if_pos h1] at q
      unfold isPl at q
      walk_at "dgo"
      cases e : isEP item with
      | true =>
        obtain ⟨a, i, rfl, ha, hi⟩ := isEP_of e
        rw [e] at q
        walk_at "dgo"
        exact q
      | false =>
        rw [e] at q
        walk_at "dgo"
        exact q
    · rw [decide_eq_false h1]
      rw [if_neg h1] at q
      walk_at "dgo"
      rw [decS]
      by_cases h2 : part = "end"
      · rw [decide_eq_true h2]
        rw [if_pos h2] at q
        walk_at "dgo"
        exact q
      · rw [decide_eq_false h2]
        rw [if_neg h2] at q
        walk_at "dgo"
        rw [decS]
        have fin : ∀ (lo i : Int), Pq (.ok (.bl (isBt lo 400 (.int i)))) → if decide (lo ≤ i) = true then Pq (.ok (.bl (decide (i ≤ 400)))) else Pq (.ok (.bl false)) := fun lo i q => by
          have q : Pq (.ok (.bl (decide (lo ≤ i) && decide (i ≤ 400)))) := q
          cases e : decide (lo ≤ i) with
          | true => rw [e] at q; exact q
          | false => rw [e] at q; exact q
        have nn : ∀ lo, isNum item = false → isBt lo 400 item = false := fun lo e => by cases item <;> first | rfl | exact Bool.noConfusion e
        by_cases h3 : part = "signed"
        · rw [decide_eq_true h3]
          rw [if_pos h3] at q
          walk_at "dgo"
          cases e : isNum item with
          | true =>
            obtain ⟨i, rfl⟩ := isNum_of e
            walk_at "dgo"
            refine iteD (fun a => ?_) (fun a => ?_)
            · walk_at "dgo"
              have := fin _ _ q
              rw [decide_eq_true a] at this
              exact this
            · have := fin _ _ q
              rw [decide_eq_false a] at this
              exact this
          | false =>
            rw [nn _ e] at q
            walk_at "dgo"
            exact q
        · rw [decide_eq_false h3]
          rw [if_neg h3] at q
          walk_at "dgo"
          cases e : isNum item with
          | true =>
            obtain ⟨i, rfl⟩ := isNum_of e
            walk_at "dgo"
            refine iteD (fun a => ?_) (fun a => ?_)
            · walk_at "dgo"
              have := fin _ _ q
              rw [decide_eq_true a] at this
              exact this
            · have := fin _ _ q
              rw [decide_eq_false a] at this
              exact this
          | false =>
            rw [nn _ e] at q
            walk_at "dgo"
            exact q
/-- the shapes of the module -/
theorem shape_at (T : Txt K mg w) {z : Str} {parts : List Str} (h : shapeOf z = some parts) : ∃ a, KDct K w T.a_SHAPES z (.ref a) ∧ KAt K (.ref a) (.tup (parts.map D.str)) := by
  have ka : ∀ {a : Addr} {ps : List Str}, (∀ H, SqT K H a (ps.map V.str)) → KAt K (.ref a) (.tup (ps.map D.str)) := fun h O H => .tup (h H) (.inr h) (AtAll.strs _)
  unfold shapeOf shapeL at h
  simp only [lkS] at h
  repeat' split at h
  all_goals first
    | (cases h; rename_i e; subst e; first
        | exact ⟨_, T.e_SHAPES_swap, ka T.q_SHAPES_swap⟩
        | exact ⟨_, T.e_SHAPES_carry, ka T.q_SHAPES_carry⟩
        | exact ⟨_, T.e_SHAPES_cut, ka T.q_SHAPES_cut⟩
        | exact ⟨_, T.e_SHAPES_turn, ka T.q_SHAPES_turn⟩
        | exact ⟨_, T.e_SHAPES_over, ka T.q_SHAPES_over⟩
        | exact ⟨_, T.e_SHAPES_face, ka T.q_SHAPES_face⟩)
    | cases h
theorem shape_none (T : Txt K mg w) {z : Str} (h : shapeOf z = none) : KMiss K w T.a_SHAPES z := by
  refine T.x_SHAPES z fun m => ?_
  unfold shapeOf shapeL at h
  simp only [lkS] at h
  simp only [List.mem_cons, List.not_mem_nil, or_false] at m
  rcases m with rfl | rfl | rfl | rfl | rfl | rfl <;> exact absurd h (by decide)
end
/-! ### is_move -/
theorem fine_tail {x : D} {l : List D} (h : fine (.tup (x :: l))) (i : Nat) (d : D) (e : l[i]? = some d) : fine d := fine_get (i := i + 1) h (by simpa using e)
theorem fitsAll_snoc {parts : List Str} {items : List D} (i : Nat) {p : Str} {d : D} (h1 : parts[i]? = some p) (h2 : items[i]? = some d) :
    ((parts.zip items).take (i + 1)).all (fun p => fitsD p.1 p.2) = (((parts.zip items).take i).all (fun p => fitsD p.1 p.2) && fitsD p d) := by
  have e : (parts.zip items)[i]? = some (p, d) := by rw [List.getElem?_zip_eq_some]; exact ⟨h1, h2⟩
  rw [List.take_add_one, e, List.all_append]
  simp
theorem zipD_inv {l m : List D} {i : Nat} {d : D} (h : (zipD l m)[i]? = some d) : ∃ a b, l[i]? = some a ∧ m[i]? = some b ∧ d = .tup [a, b] := by
  unfold zipD at h
  rw [List.getElem?_zipWith] at h
  cases e1 : l[i]? with
  | none => rw [e1] at h; cases h
  | some a =>
    cases e2 : m[i]? with
    | none => rw [e1, e2] at h; cases h
    | some b => rw [e1, e2] at h; cases h; exact ⟨a, b, rfl, rfl, rfl⟩
theorem map_inv {α : Type} {f : α → D} {l : List α} {i : Nat} {d : D} (h : (l.map f)[i]? = some d) : ∃ a, l[i]? = some a ∧ d = f a := by
  rw [List.getElem?_map] at h
  cases e : l[i]? with
  | none => rw [e] at h; cases h
  | some a => rw [e] at h; cases h; exact ⟨a, rfl, rfl⟩
section
variable {P : Program} {w : World} {K : PySem.W.Frag} {mg : Str → Option Value} {base : Heap}
abbrev S_ismove : Sd := fun _ ds Pq => ∃ d, ds = [d] ∧ fine d ∧ Pq (.ok (.bl (isMoveD d)))
theorem ok_is_move (T : Txt K mg w) : FnOk P w K mg base CX0 4 T.a_is_move T.d_is_move P_is_move (spD K S_ismove) := by
  have G_fits := ok_fits (P := P) (w := w) (base := base) T
  refine okD T.F_is_move sc_is_move (fun bs ds Pq h => ?_) (fun cdv A outer s H E hr => ⟨_, (pss_cons (ps_if (PW.pt (pw_or (pt_not (pt_val (k_isi6 (K := K) .tuple (pv 0) (pe_bltn (v := .ty "tuple") (by rfl) T.m_tuple boot_tuple rfl) (by rfl) T.m_isinstance))) (pw_or (pt_cmpR op_eq (pe_callB (k_len (K := K)) (by rfl) T.m_len boot_len (pa_cons (pv 0) pa_nil)) pe_int (nomark _)) (pw_or1 (pt_not (pt_val (k_isi6 (K := K) .str (pe_ix (k_ixT (K := K)) (pv 0) pe_int (fun _ _ => rfl)) (pe_bltn (v := .ty "str") (by rfl) T.m_str boot_str rfl) (by rfl) T.m_isinstance)))))))
  (pss_one (ps_ret pe_bl)) pss_nil)
  (pss_cons (ps_set (i := 1) sc_is_move.nd rfl (Or.inl rfl) (pe_kget (K := K) (w := w) (pe_glob (v := .ref T.a_SHAPES) rfl T.c_SHAPES rfl) T.d_SHAPES (pe_ix (k_ixT (K := K)) (pv 0) pe_int (fun _ _ => rfl)) ⟨rfl, rfl, rfl, rfl⟩))
  (pss_cons (ps_if (PW.pt (pw_or (pt_cmpR k_isN (pv 1) pe_non (nomark _)) (pw_or1 (pt_cmpR op_ne (pe_callB (k_len (K := K)) (by rfl) T.m_len boot_len (pa_cons (pv 0) pa_nil)) (pe_op op_add (pe_callB (k_len (K := K)) (by rfl) T.m_len boot_len (pa_cons (pv 1) pa_nil)) pe_int) (nomark _)))))
  (pss_one (ps_ret pe_bl)) pss_nil)
  (pss_cons (ps_for PassesOwn.never rfl (k_zip (K := K) (pa_cons (pv 1) (pa_cons (pe_slice (k_slT (K := K)) (pv 0) (po_some pe_int) po_none) pa_nil)) T.m_zip) (k_gT (K := K) (n := 2) (pgs_cons (pg_name (i := 2) sc_is_move.nd rfl (Or.inl rfl)) (pgs_cons (pg_name (i := 3) sc_is_move.nd rfl (Or.inl rfl)) pgs_nil)))
  (pss_one (ps_if (pt_not (pt_val (pe_call G_fits (hr.mono (by decide)) (by rfl) T.g_fits T.F_fits.kp T.b_fits .nil pass0 (pa_cons (pv 2) (pa_cons (pv 3) pa_nil)))))
  (pss_one (ps_ret pe_bl)) pss_nil)))
  (pss_one (ps_ret pe_bl)))))), ?_⟩)
  · obtain ⟨d, rfl, _⟩ := h
    rfl
  · rintro C ds Pq hE hX ⟨d, rfl, hf, q⟩
    have ok := isiOk_of hf.1
    cases d with
    | tup l =>
      cases l with
      | nil => walk_at "dgo"; exact q
      | cons x items =>
        have fx : fine x := fine_get (i := 0) hf rfl
        have okx := isiOk_of fx.1
        walk_at "dgo"
        cases x with
        | str z =>
          walk_at "dgo"
          cases e : shapeOf z with
          | none =>
            have e2 : isMoveD (.tup (.str z :: items)) = false := by simp only [isMoveD, e]
            rw [e2] at q
            refine .inr ⟨shape_none T e, ?_⟩
            walk_at "dgo"
            exact q
          | some parts =>
            have e2 : isMoveD (.tup (.str z :: items)) = (decide (items.length = parts.length) && fitsAll parts items) := by simp only [isMoveD, e]
            rw [e2] at q
            obtain ⟨a, h1, h2⟩ := shape_at T e
            refine .inl ⟨_, _, h1, h2, ?_⟩
            walk_at "dgo"
            refine iteNE (fun ne => ?_) (fun e3 => ?_)
            · rw [decide_eq_false (fun z => ne (by rw [List.length_cons, List.length_map, z]; rfl)), Bool.false_and] at q
              walk_at "dgo"
              exact q
            · have hl : items.length = parts.length := by
                rw [List.length_cons, List.length_map] at e3
                omega
              rw [decide_eq_true hl, Bool.true_and] at q
              walk_at "dgo"
              rw [cutD_tail]
              refine ⟨fun i ρ' => ((parts.zip items).take i).all (fun p => fitsD p.1 p.2) = true ∧ ∃ s2 s3, ρ' = [.val (.tup (.str z :: items)), .val (.tup (parts.map D.str)), s2, s3] ∧ s2.o = [] ∧ s3.o = [], ⟨rfl, .no, .no, rfl, rfl, rfl⟩, ?_, ?_⟩
              · rintro hv hd i d ρ' hi ⟨hI, s2, s3, rfl, o2, o3⟩
                obtain ⟨x, y, e1, e2, rfl⟩ := zipD_inv hi
                obtain ⟨p, e0, rfl⟩ := map_inv e1
                have fy := fine_tail hf i y e2
                have n2 : nown [.val (.tup (.str z :: items)), .val (.tup (parts.map D.str)), s2, s3] 2 = true := by cases s2 <;> first | rfl | exact nomatch o2
                have n3 : nown [.val (.tup (.str z :: items)), .val (.tup (parts.map D.str)), .val (.str p), s3] 3 = true := by cases s3 <;> first | rfl | exact nomatch o3
                have st := fitsAll_snoc i e0 e2
                rw [hI, Bool.true_and] at st
                walk_at "dgo"
                cases ef : fitsD p y with
                | true =>
                  rw [ef] at st
                  walk_at "dgo"
                  exact rfl
                | false =>
                  have e4 : fitsAll parts items = false := by
                    unfold fitsAll
                    rw [List.all_eq_false]
                    have em : (parts.zip items)[i]? = some (p, y) := by rw [List.getElem?_zip_eq_some]; exact ⟨e0, e2⟩
                    exact ⟨(p, y), List.mem_of_getElem? em, by rw [ef]; decide⟩
                  rw [e4] at q
                  walk_at "dgo"
                  exact q
              · rintro ρ' ⟨hI, s2, s3, rfl, o2, o3⟩
                have e4 : fitsAll parts items = true := by
                  unfold fitsAll
                  rw [List.take_of_length_le] at hI
                  · exact hI
                  · rw [zipD_len, List.length_zip, List.length_map]
                    exact Nat.le_refl _
                rw [e4] at q
                walk_at "dgo"
                exact q
        | _ => walk_at "dgo"; exact q
    | _ => walk_at "dgo"; exact q
end
theorem enum_get {ds : List D} {i : Nat} {d : D} (h : (enumD ds)[i]? = some d) : ∃ x, ds[i]? = some x ∧ d = .tup [.int (i : Int), x] := by
  have hi := (List.getElem?_eq_some_iff.mp h).1
  rw [enumD_len] at hi
  have hx : ds[i]? = some ds[i] := List.getElem?_eq_getElem hi
  exact ⟨_, hx, Option.some.inj (h.symm.trans (enumD_get hx))⟩
section
variable {P : Program} {w : World} {K : PySem.W.Frag} {mg : Str → Option Value} {base : Heap}
theorem ok_PileError (T : Txt K mg w) : FnOk P w K mg base CX0 1 T.f_PileError T.d_PileError P_PileError (sp_pe K) := by
  refine T.F_PileError.ok (CX := CX0) sc_PileError (fun vs H Q E h => ?_) (fun cdv A outer s H vs Q E hr h => ?_)
  · obtain ⟨a, C, z, rfl, _⟩ := h
    rfl
  · obtain ⟨a, C, z, rfl, hO, hn, ha, q⟩ := h
    refine ⟨_, pss_one (ps_ost (pv 0) (pv 1)), ?_⟩
    exact ⟨_, rfl, _, rfl, a, C, rfl, hO, hn, .inl ⟨ha, fun dx n ne => q dx n ne⟩⟩
theorem ok_BadPlace (T : Txt K mg w) : FnOk P w K mg base CX0 2 T.f_BadPlace T.d_BadPlace P_BadPlace (sp_x1 K T.a_BadPlace "place" "BadPlace") := by
  have G_PE := ok_PileError (P := P) (w := w) (base := base) T
  refine T.F_BadPlace.ok sc_BadPlace (fun vs H Q E h => ?_) (fun cdv A outer s H vs Q E hr h => ?_)
  · obtain ⟨a, v, rfl, _⟩ := h
    rfl
  · obtain ⟨a, v, rfl, ha, q⟩ := h
    refine ⟨_, pss_cons (ps_expr (pe_clsfn (by rfl) T.g_PileError T.r_PileError T.v_PileError G_PE (hr.mono (by decide)) T.F_PileError.kp T.b_PileError pass0 (pa_cons (pv 0) (pa_cons pe_str pa_nil)))) (pss_one (ps_ost (pv 0) (pv 1))), ?_⟩
    refine ⟨_, rfl, a, T.a_BadPlace, _, rfl, T.x_BadPlace.o, T.x_BadPlace.no _ (List.mem_cons_self ..), ha, fun dx n ne => ?_⟩
    refine ⟨_, rfl, _, rfl, a, T.a_BadPlace, rfl, T.x_BadPlace.o, T.x_BadPlace.no _ (List.mem_cons_of_mem _ (List.mem_cons_self ..)), .inr ⟨dx, _, upd_same, by rw [upd_ne ne, upd_same], by decide, ?_⟩⟩
    exact q dx _ n ne (by rw [upd_ne (Ne.symm ne), upd_same]) upd_same fun b h1 h2 => by rw [upd_ne h2, upd_ne h1, upd_ne h2]
theorem ok_BadMove (T : Txt K mg w) : FnOk P w K mg base CX0 2 T.f_BadMove T.d_BadMove P_BadMove (sp_x1 K T.a_BadMove "at" "BadMove") := by
  have G_PE := ok_PileError (P := P) (w := w) (base := base) T
  refine T.F_BadMove.ok sc_BadMove (fun vs H Q E h => ?_) (fun cdv A outer s H vs Q E hr h => ?_)
  · obtain ⟨a, v, rfl, _⟩ := h
    rfl
  · obtain ⟨a, v, rfl, ha, q⟩ := h
    refine ⟨_, pss_cons (ps_expr (pe_clsfn (by rfl) T.g_PileError T.r_PileError T.v_PileError G_PE (hr.mono (by decide)) T.F_PileError.kp T.b_PileError pass0 (pa_cons (pv 0) (pa_cons pe_str pa_nil)))) (pss_one (ps_ost (pv 0) (pv 1))), ?_⟩
    refine ⟨_, rfl, a, T.a_BadMove, _, rfl, T.x_BadMove.o, T.x_BadMove.no _ (List.mem_cons_self ..), ha, fun dx n ne => ?_⟩
    refine ⟨_, rfl, _, rfl, a, T.a_BadMove, rfl, T.x_BadMove.o, T.x_BadMove.no _ (List.mem_cons_of_mem _ (List.mem_cons_self ..)), .inr ⟨dx, _, upd_same, by rw [upd_ne ne, upd_same], by decide, ?_⟩⟩
    exact q dx _ n ne (by rw [upd_ne (Ne.symm ne), upd_same]) upd_same fun b h1 h2 => by rw [upd_ne h2, upd_ne h1, upd_ne h2]
theorem ok_BadText (T : Txt K mg w) : FnOk P w K mg base CX0 2 T.f_BadText T.d_BadText P_BadText (sp_x1 K T.a_BadText "at" "BadText") := by
  have G_PE := ok_PileError (P := P) (w := w) (base := base) T
  refine T.F_BadText.ok sc_BadText (fun vs H Q E h => ?_) (fun cdv A outer s H vs Q E hr h => ?_)
  · obtain ⟨a, v, rfl, _⟩ := h
    rfl
  · obtain ⟨a, v, rfl, ha, q⟩ := h
    refine ⟨_, pss_cons (ps_expr (pe_clsfn (by rfl) T.g_PileError T.r_PileError T.v_PileError G_PE (hr.mono (by decide)) T.F_PileError.kp T.b_PileError pass0 (pa_cons (pv 0) (pa_cons pe_str pa_nil)))) (pss_one (ps_ost (pv 0) (pv 1))), ?_⟩
    refine ⟨_, rfl, a, T.a_BadText, _, rfl, T.x_BadText.o, T.x_BadText.no _ (List.mem_cons_self ..), ha, fun dx n ne => ?_⟩
    refine ⟨_, rfl, _, rfl, a, T.a_BadText, rfl, T.x_BadText.o, T.x_BadText.no _ (List.mem_cons_of_mem _ (List.mem_cons_self ..)), .inr ⟨dx, _, upd_same, by rw [upd_ne ne, upd_same], by decide, ?_⟩⟩
    exact q dx _ n ne (by rw [upd_ne (Ne.symm ne), upd_same]) upd_same fun b h1 h2 => by rw [upd_ne h2, upd_ne h1, upd_ne h2]
theorem ok_TooLong (T : Txt K mg w) : FnOk P w K mg base CX0 2 T.f_TooLong T.d_TooLong P_TooLong (sp_x1 K T.a_TooLong "limit" "TooLong") := by
  have G_PE := ok_PileError (P := P) (w := w) (base := base) T
  refine T.F_TooLong.ok sc_TooLong (fun vs H Q E h => ?_) (fun cdv A outer s H vs Q E hr h => ?_)
  · obtain ⟨a, v, rfl, _⟩ := h
    rfl
  · obtain ⟨a, v, rfl, ha, q⟩ := h
    refine ⟨_, pss_cons (ps_expr (pe_clsfn (by rfl) T.g_PileError T.r_PileError T.v_PileError G_PE (hr.mono (by decide)) T.F_PileError.kp T.b_PileError pass0 (pa_cons (pv 0) (pa_cons pe_str pa_nil)))) (pss_one (ps_ost (pv 0) (pv 1))), ?_⟩
    refine ⟨_, rfl, a, T.a_TooLong, _, rfl, T.x_TooLong.o, T.x_TooLong.no _ (List.mem_cons_self ..), ha, fun dx n ne => ?_⟩
    refine ⟨_, rfl, _, rfl, a, T.a_TooLong, rfl, T.x_TooLong.o, T.x_TooLong.no _ (List.mem_cons_of_mem _ (List.mem_cons_self ..)), .inr ⟨dx, _, upd_same, by rw [upd_ne ne, upd_same], by decide, ?_⟩⟩
    exact q dx _ n ne (by rw [upd_ne (Ne.symm ne), upd_same]) upd_same fun b h1 h2 => by rw [upd_ne h2, upd_ne h1, upd_ne h2]
end
/-! ### the checks that may raise -/
def badSize (n : Int) : Prop := n < 0 ∨ 1000000000000000000000000000000 < n
instance (n : Int) : Decidable (badSize n) := by unfold badSize; infer_instance
section
variable {P : Program} {w : World} {K : PySem.W.Frag} {mg : Str → Option Value} {base : Heap}
abbrev S_ckep (T : Txt K mg w) : Sd := fun _ ds Pq => ∃ d, ds = [d] ∧ fine d ∧ Pq (if isEP d = true then .ok .non else .er ⟨T.a_BadPlace, "place", "BadPlace", d⟩)
theorem ok_check_end_place (T : Txt K mg w) : FnOk P w K mg base (L2.CX P w) 4 T.a_check_end_place T.d_check_end_place P_check_end_place (spD K (S_ckep T)) := by
  have G_BadPlace := ok_BadPlace (P := P) (w := w) (base := base) T
  have G_is_end_place := ok_is_end_place (P := P) (w := w) (base := base) T
  refine okDX T.F_check_end_place sc_check_end_place (fun bs ds Pq h => ?_) (fun cdv A outer s H E hr => ⟨_, (pss_one (ps_if (pt_not (pt_val (pe_call G_is_end_place (hr.mono (by decide)) (by rfl) T.g_is_end_place T.F_is_end_place.kp T.b_is_end_place .nil pass0 (pa_cons (pv 0) pa_nil))))
  (pss_one (ps_raise rfl (takes_of rfl rfl rfl rfl) (pmk_oex T.x_BadPlace.o T.i_BadPlace T.ti_BadPlace G_BadPlace (hr.mono (by decide)) T.b_BadPlace .nil pass0 (by rfl) T.g_BadPlace (pa_cons (pv 0) pa_nil)))) pss_nil)), ?_⟩)
  · obtain ⟨d, rfl, _⟩ := h
    rfl
  · rintro C ds Pq hE hX ⟨d, rfl, hf, q⟩
    have hE' := hE.symm
    walk_at "dgo"
    cases e : isEP d with
    | true =>
      rw [e, if_pos rfl] at q
      walk_at "dgo"
      exact q
    | false =>
      rw [e, if_neg (by decide)] at q
      walk_at "dgo"
      refine run_raise hE ?_
      walk_at "dgo"
      exact hX _ q
end
section
variable {P : Program} {w : World} {K : PySem.W.Frag} {mg : Str → Option Value} {base : Heap}
theorem fineN_endS (n : Nat) (a : Bool) : fineN n (.str (endS a)) := fineN_str n (by cases a <;> decide +kernel)
theorem fineN_epD (a : Bool) (i : Int) : fineN 1 (epD a i) := fineN_tup fun d m => by
  rcases List.mem_cons.mp m with rfl | m
  · exact fineN_endS _ a
  · rw [List.mem_singleton.mp m]; exact fineN_int _ i
theorem fine_epD (a : Bool) (i : Int) : fine (epD a i) := (fineN_epD a i).fine
theorem isEP_epD {a : Bool} {i : Int} (h : 0 ≤ i) : isEP (epD a i) = true := by
  show (isEnd (.str (endS a)) && decide (0 ≤ i)) = true
  rw [decide_eq_true h, Bool.and_true]
  cases a <;> decide
theorem endS_top (a : Bool) : decide (V.str (endS a) = V.str "top") = a := by cases a <;> decide
end
/-! ### moves, data and texts -/
theorem endS_of {d : D} (h : isEnd d = true) (hp : d.pure = true) : ∃ a, d = .str (endS a) := by
  unfold isEnd at h
  cases d with
  | str z =>
    rcases Bool.or_eq_true_iff.mp h with h | h
    · have : z = "top" := by
        have h : (z == ("top" : Str)) = true := h
        exact eq_of_beq h
      exact ⟨true, by rw [this]; rfl⟩
    · have : z = "bottom" := by
        have h : (z == ("bottom" : Str)) = true := h
        exact eq_of_beq h
      exact ⟨false, by rw [this]; rfl⟩
  | _ => first | exact Bool.noConfusion hp | (simp [D.py, PyData.eqv] at h)
theorem isEnd_endS (a : Bool) : isEnd (.str (endS a)) = true := by cases a <;> decide +kernel
theorem isMoveD_mv {m : Mv} (h : m.ok) : isMoveD (mvD m) = true := by
  cases m with
  | swap a i b j =>
    obtain ⟨h1, h2, h3, h4⟩ := h
    have e : shapeOf "swap" = (some ["place", "place"] : Option (List Str)) := by decide +kernel
    simp only [mvD, isMoveD, e, fitsAll, epD, fitsD, isPl, isEP, d399, isN0, isEnd_endS]
    simp [isEnd_endS, h1, h2, h3, h4]
  | carry a i b j =>
    obtain ⟨h1, h2, h3, h4⟩ := h
    have e : shapeOf "carry" = (some ["place", "place"] : Option (List Str)) := by decide +kernel
    simp only [mvD, isMoveD, e, fitsAll, epD, fitsD, isPl, isEP, d399, isN0, isEnd_endS]
    simp [isEnd_endS, h1, h2, h3, h4]
  | cut k =>
    obtain ⟨h1, h2⟩ := h
    have e : shapeOf "cut" = (some ["signed"] : Option (List Str)) := by decide +kernel
    have e1 : fitsD "signed" (.int k) = isBt (-400) 400 (.int k) := by unfold fitsD; rw [if_neg (by decide), if_neg (by decide), if_pos rfl]
    simp only [mvD, isMoveD, e, fitsAll]
    simp [e1, isBt, h1, h2]
  | turn a k =>
    obtain ⟨h1, h2⟩ := h
    have e : shapeOf "turn" = (some ["end", "block"] : Option (List Str)) := by decide +kernel
    have e1 : fitsD "block" (.int k) = isBt 0 400 (.int k) := by unfold fitsD; rw [if_neg (by decide), if_neg (by decide), if_neg (by decide)]
    have e2 : fitsD "end" (.str (endS a)) = true := by unfold fitsD; rw [if_neg (by decide), if_pos rfl, isEnd_endS]
    simp only [mvD, isMoveD, e, fitsAll]
    simp [e1, e2, isBt, h1, h2]
  | over =>
    have e : shapeOf "over" = (some [] : Option (List Str)) := by decide +kernel
    simp only [mvD, isMoveD, e, fitsAll]
    simp
  | face a i =>
    obtain ⟨h1, h2⟩ := h
    have e : shapeOf "face" = (some ["place"] : Option (List Str)) := by decide +kernel
    simp only [mvD, isMoveD, e, fitsAll, epD, fitsD, isPl, isEP, d399, isN0, isEnd_endS]
    simp [isEnd_endS, h1, h2]
theorem fineN_mv (m : Mv) : fineN 2 (mvD m) := by
  have e : ∀ a i, fineN 1 (epD a i) := fineN_epD
  have s : ∀ (n : Nat) (z : Str), z ∈ ([("swap" : Str), "carry", "cut", "turn", "over", "face"]) → fineN n (.str z) := fun n z hz => fineN_str n (by
    have : ∀ z, z ∈ ([("swap" : Str), "carry", "cut", "turn", "over", "face"]) → PyData.strOk z = true := by decide +kernel
    exact this z hz)
  cases m <;> refine fineN_tup fun d hd => ?_ <;> simp only [List.mem_cons, List.not_mem_nil, or_false] at hd
  · rcases hd with rfl | rfl | rfl
    · exact s _ _ (by decide)
    · exact e _ _
    · exact e _ _
  · rcases hd with rfl | rfl | rfl
    · exact s _ _ (by decide)
    · exact e _ _
    · exact e _ _
  · rcases hd with rfl | rfl
    · exact s _ _ (by decide)
    · exact fineN_int _ _
  · rcases hd with rfl | rfl | rfl
    · exact s _ _ (by decide)
    · exact fineN_endS _ _
    · exact fineN_int _ _
  · subst hd
    exact s _ _ (by decide)
  · rcases hd with rfl | rfl
    · exact s _ _ (by decide)
    · exact e _ _
theorem fine_mv (m : Mv) : fine (mvD m) := (fineN_mv m).fine
/-! ### the blocks of a move -/
abbrev Blk := Int × Int × Bool
@[reducible] def blkD (b : Blk) : D := .tup [.int b.1, .int b.2.1, .bl b.2.2]
def Mv.blks (n : Int) : Mv → List Blk
  | .swap a i b j => let x := min (plc a i n) (plc b j n)
    let y := max (plc a i n) (plc b j n)
    if x = y then [(0, n, false)] else [(0, x, false), (y, y + 1, false), (x + 1, y, false), (x, x + 1, false), (y + 1, n, false)]
  | .carry a i b j => let x := plc a i n
    let y := plc b j n
    if x ≤ y then [(0, x, false), (x + 1, y + 1, false), (x, x + 1, false), (y + 1, n, false)] else [(0, y, false), (x, x + 1, false), (y, x, false), (x + 1, n, false)]
  | .cut k => let x := if 0 ≤ k then k else n + k
    [(x, n, false), (0, x, false)]
  | .turn a k => if a = true then [(0, k, true), (k, n, false)] else [(0, n - k, false), (n - k, n, true)]
  | .over => [(0, n, true)]
  | .face a i => let x := plc a i n
    [(0, x, false), (x, x + 1, true), (x + 1, n, false)]
def Mv.blocks (m : Mv) (n : Int) : List Blk := if n < m.reach then [(0, n, false)] else m.blks n
def movedL : List Blk → Int → Int → Option (Int × Bool)
  | [], _, _ => none
  | (f, b, t) :: r, ab, p => if f ≤ p ∧ p < b then some (if t = true then (ab + b - 1 - p, true) else (ab + p - f, false)) else movedL r (ab + (b - f)) p
theorem pairS {a b : Int} {c : Bool} (h : a = b) : some (a, c) = some (b, c) := by rw [h]
theorem moved_image {m : Mv} (hk : m.ok) {n p : Int} (p0 : 0 ≤ p) (p1 : p < n) : movedL (m.blocks n) 0 p = some (m.image n p) := by
  unfold Mv.blocks Mv.image
  by_cases hr : n < m.reach
  · rw [if_pos hr, if_pos hr]
    simp only [movedL]
    rw [if_pos ⟨p0, p1⟩]
    simp
  rw [if_neg hr, if_neg hr]
  have pb : ∀ (a : Bool) (i : Int), 0 ≤ i → i < n → 0 ≤ plc a i n ∧ plc a i n < n := fun a i h0 h1 => by unfold plc; split <;> omega
  cases m with
  | over =>
    simp only [Mv.blks, movedL, Mv.img, reduceIte]
    rw [if_pos ⟨p0, p1⟩]
    exact pairS (by omega)
  | cut k =>
    obtain ⟨h1, h2⟩ := hk
    have hr' : ¬ n < (if k < 0 then -k else k) := hr
    have fm : ∀ z : Int, z.fmod n = z % n := fun z => Int.fmod_eq_emod_of_nonneg _ (by omega)
    have hk1 : ¬ n < k ∧ ¬ n < -k := by
      split at hr' <;> omega
    have e1 : k ≤ p → p - k < n → (p - k) % n = p - k := fun h h2 => Int.emod_eq_of_lt (by omega) (by omega)
    have e2 : p - k < 0 → 0 ≤ p - k + n → (p - k) % n = p - k + n := fun h h2 => by
      rw [← Int.add_emod_right, Int.emod_eq_of_lt h2 (by omega)]
    have e3 : n ≤ p - k → p - k < n + n → (p - k) % n = p - k - n := fun h h2 => by
      rw [← Int.sub_emod_right, Int.emod_eq_of_lt (by omega) (by omega)]
    simp only [Mv.blks, movedL, Mv.img, Bool.false_eq_true, reduceIte]
    rw [fm]
    by_cases hk0 : 0 ≤ k
    · rw [if_pos hk0]
      by_cases h : k ≤ p
      · rw [if_pos ⟨h, p1⟩, e1 h (by omega)]
        exact pairS (by omega)
      · rw [if_neg fun z => h z.1, if_pos ⟨p0, by omega⟩, e2 (by omega) (by omega)]
        exact pairS (by omega)
    · rw [if_neg hk0]
      by_cases h : n + k ≤ p
      · rw [if_pos ⟨h, p1⟩, e3 (by omega) (by omega)]
        exact pairS (by omega)
      · rw [if_neg fun z => h z.1, if_pos ⟨p0, by omega⟩, e1 (by omega) (by omega)]
        exact pairS (by omega)
  | turn a k =>
    obtain ⟨h1, h2⟩ := hk
    have hr' : ¬ n < k := hr
    cases a <;> simp only [Mv.blks, movedL, Mv.img, Bool.false_eq_true, reduceIte]
    all_goals repeat' split
    all_goals first | (exfalso; omega) | exact pairS (by omega)
  | face a i =>
    obtain ⟨h1, h2⟩ := hk
    have hr' : ¬ n < i + 1 := hr
    obtain ⟨b1, b2⟩ := pb a i h1 (by omega)
    simp only [Mv.blks, movedL, Mv.img, Bool.false_eq_true, reduceIte]
    generalize plc a i n = x at *
    by_cases e : p = x
    · rw [decide_eq_true e]
      repeat' split
      all_goals first | (exfalso; omega) | exact pairS (by omega)
    · rw [decide_eq_false e]
      repeat' split
      all_goals first | (exfalso; omega) | exact pairS (by omega)
  | swap a i b j =>
    obtain ⟨k1, k2, k3, k4⟩ := hk
    have hr' : ¬ n < max i j + 1 := hr
    obtain ⟨b1, b2⟩ := pb a i k1 (by omega)
    obtain ⟨b3, b4⟩ := pb b j k3 (by omega)
    simp only [Mv.blks, Mv.img]
    generalize plc a i n = x at *
    generalize plc b j n = y at *
    by_cases e : min x y = max x y
    · have e2 : x = y := by omega
      subst e2
      rw [if_pos e]
      simp only [movedL, Bool.false_eq_true, reduceIte]
      repeat' split
      all_goals first | (exfalso; omega) | exact pairS (by omega)
    · rw [if_neg e]
      have e2 : x ≠ y := by omega
      rcases Int.lt_or_gt_of_ne e2 with h | h
      · rw [show min x y = x by omega, show max x y = y by omega]
        simp only [movedL, Bool.false_eq_true, reduceIte]
        repeat' split
        all_goals first | (exfalso; omega) | exact pairS (by omega)
      · rw [show min x y = y by omega, show max x y = x by omega]
        simp only [movedL, Bool.false_eq_true, reduceIte]
        repeat' split
        all_goals first | (exfalso; omega) | exact pairS (by omega)
  | carry a i b j =>
    obtain ⟨k1, k2, k3, k4⟩ := hk
    have hr' : ¬ n < max i j + 1 := hr
    obtain ⟨b1, b2⟩ := pb a i k1 (by omega)
    obtain ⟨b3, b4⟩ := pb b j k3 (by omega)
    simp only [Mv.blks, Mv.img]
    generalize plc a i n = x at *
    generalize plc b j n = y at *
    by_cases e : x ≤ y
    · rw [if_pos e]
      simp only [movedL, Bool.false_eq_true, reduceIte]
      repeat' split
      all_goals first | (exfalso; omega) | exact pairS (by omega)
    · rw [if_neg e]
      simp only [movedL, Bool.false_eq_true, reduceIte]
      repeat' split
      all_goals first | (exfalso; omega) | exact pairS (by omega)
theorem img_turn_in {n p k f : Int} {a : Bool} (e : (if a = true then 0 else n - k) = f) (h1 : f ≤ p) (h2 : p < f + k) : (Mv.turn a k).img n p = (f + (f + k) - 1 - p, true) := by
  show (if (if a = true then 0 else n - k) ≤ p ∧ p < (if a = true then 0 else n - k) + k then ((if a = true then 0 else n - k) + ((if a = true then 0 else n - k) + k) - 1 - p, true) else (p, false)) = _
  rw [e, if_pos ⟨h1, h2⟩]
theorem img_turn_out {n p k f : Int} {a : Bool} (e : (if a = true then 0 else n - k) = f) (h : ¬ (f ≤ p ∧ p < f + k)) : (Mv.turn a k).img n p = (p, false) := by
  show (if (if a = true then 0 else n - k) ≤ p ∧ p < (if a = true then 0 else n - k) + k then ((if a = true then 0 else n - k) + ((if a = true then 0 else n - k) + k) - 1 - p, true) else (p, false)) = _
  rw [e, if_neg h]
def Mv.undo : Mv → Mv
  | .carry a i b j => .carry b j a i
  | .cut k => .cut (-k)
  | m => m
theorem undo_reach (m : Mv) : m.undo.reach = m.reach := by
  cases m with
  | carry a i b j => show max j i + 1 = max i j + 1; omega
  | cut k => show (if -k < 0 then - -k else -k) = if k < 0 then -k else k; split <;> split <;> omega
  | _ => rfl
theorem undo_ok {m : Mv} (h : m.ok) : m.undo.ok := by
  cases m with
  | carry a i b j => obtain ⟨h1, h2, h3, h4⟩ := h; exact ⟨h3, h4, h1, h2⟩
  | cut k => obtain ⟨h1, h2⟩ := h; exact ⟨by omega, by omega⟩
  | _ => exact h
theorem undo_undo (m : Mv) : m.undo.undo = m := by
  cases m with
  | cut k => show Mv.cut (- -k) = Mv.cut k; rw [Int.neg_neg]
  | _ => rfl
theorem plc_bd {a : Bool} {i n : Int} (h0 : 0 ≤ i) (h1 : i < n) : 0 ≤ plc a i n ∧ plc a i n < n := by
  unfold plc
  split <;> omega
theorem fmod_back {n p k : Int} (p0 : 0 ≤ p) (p1 : p < n) : ((p - k).fmod n - -k).fmod n = p := by
  rw [Int.fmod_eq_emod_of_nonneg _ (by omega), Int.fmod_eq_emod_of_nonneg _ (by omega), Int.sub_neg, Int.emod_add_emod, Int.sub_add_cancel]
  exact Int.emod_eq_of_lt p0 p1
def sw (x y p : Int) : Int × Bool := if p = x then (y, false) else if p = y then (x, false) else (p, false)
def cr (x y p : Int) : Int × Bool := if p = x then (y, false) else if x < p ∧ p ≤ y then (p - 1, false) else if y ≤ p ∧ p < x then (p + 1, false) else (p, false)
theorem sw_sw {x y n p : Int} (hx : 0 ≤ x ∧ x < n) (hy : 0 ≤ y ∧ y < n) (p0 : 0 ≤ p) (p1 : p < n) : 0 ≤ (sw x y p).1 ∧ (sw x y p).1 < n ∧ sw x y (sw x y p).1 = (p, (sw x y p).2) := by
  by_cases h1 : p = x
  · have e : sw x y p = (y, false) := if_pos h1
    rw [e]
    refine ⟨hy.1, hy.2, ?_⟩
    show sw x y y = (p, false)
    unfold sw
    by_cases h2 : y = x
    · rw [if_pos h2, h1, h2]
    · rw [if_neg h2, if_pos rfl, h1]
  · by_cases h2 : p = y
    · have e : sw x y p = (x, false) := by unfold sw; rw [if_neg h1, if_pos h2]
      rw [e]
      refine ⟨hx.1, hx.2, ?_⟩
      show sw x y x = (p, false)
      unfold sw
      rw [if_pos rfl, h2]
    · have e : sw x y p = (p, false) := by unfold sw; rw [if_neg h1, if_neg h2]
      rw [e]
      exact ⟨p0, p1, e⟩
theorem cr_cr {x y n p : Int} (hx : 0 ≤ x ∧ x < n) (hy : 0 ≤ y ∧ y < n) (p0 : 0 ≤ p) (p1 : p < n) : 0 ≤ (cr x y p).1 ∧ (cr x y p).1 < n ∧ cr y x (cr x y p).1 = (p, (cr x y p).2) := by
  by_cases h1 : p = x
  · have e : cr x y p = (y, false) := if_pos h1
    rw [e]
    refine ⟨hy.1, hy.2, ?_⟩
    show cr y x y = (p, false)
    unfold cr
    rw [if_pos rfl, h1]
  · by_cases h2 : x < p ∧ p ≤ y
    · have e : cr x y p = (p - 1, false) := by unfold cr; rw [if_neg h1, if_pos h2]
      rw [e]
      refine ⟨by show 0 ≤ p - 1; omega, by show p - 1 < n; omega, ?_⟩
      show cr y x (p - 1) = (p, false)
      unfold cr
      rw [if_neg (by omega), if_neg (by omega), if_pos (by omega), Int.sub_add_cancel]
    · by_cases h3 : y ≤ p ∧ p < x
      · have e : cr x y p = (p + 1, false) := by unfold cr; rw [if_neg h1, if_neg h2, if_pos h3]
        rw [e]
        refine ⟨by show 0 ≤ p + 1; omega, by show p + 1 < n; omega, ?_⟩
        show cr y x (p + 1) = (p, false)
        unfold cr
        rw [if_neg (by omega), if_pos (by omega), Int.add_sub_cancel]
      · have e : cr x y p = (p, false) := by unfold cr; rw [if_neg h1, if_neg h2, if_neg h3]
        rw [e]
        refine ⟨p0, p1, ?_⟩
        show cr y x p = (p, false)
        unfold cr
        by_cases h4 : p = y
        · omega
        · rw [if_neg h4, if_neg (by omega), if_neg (by omega)]
theorem image_undo {m : Mv} (hk : m.ok) {n p : Int} (p0 : 0 ≤ p) (p1 : p < n) : 0 ≤ (m.image n p).1 ∧ (m.image n p).1 < n ∧ m.undo.image n (m.image n p).1 = (p, (m.image n p).2) := by
  unfold Mv.image
  rw [undo_reach]
  by_cases hr : n < m.reach
  · simp only [if_pos hr]
    exact ⟨p0, p1, trivial⟩
  simp only [if_neg hr]
  cases m with
  | over =>
    refine ⟨?_, ?_, ?_⟩
    · show 0 ≤ n - 1 - p; omega
    · show n - 1 - p < n; omega
    · show (n - 1 - (n - 1 - p), true) = (p, true)
      congr 1
      omega
  | cut k =>
    have e1 : (Mv.cut k).img n p = ((p - k).fmod n, false) := rfl
    rw [e1]
    refine ⟨?_, ?_, ?_⟩
    · show 0 ≤ (p - k).fmod n
      rw [Int.fmod_eq_emod_of_nonneg _ (by omega)]
      exact Int.emod_nonneg _ (by omega)
    · show (p - k).fmod n < n
      rw [Int.fmod_eq_emod_of_nonneg _ (by omega)]
      exact Int.emod_lt_of_pos _ (by omega)
    · show (((p - k).fmod n - -k).fmod n, false) = (p, false)
      rw [fmod_back p0 p1]
  | turn a k =>
    have hk0 : 0 ≤ k := hk.1
    have hr' : ¬ n < k := hr
    show 0 ≤ ((Mv.turn a k).img n p).1 ∧ ((Mv.turn a k).img n p).1 < n ∧ (Mv.turn a k).img n ((Mv.turn a k).img n p).1 = (p, ((Mv.turn a k).img n p).2)
    obtain ⟨f, ef, f0, f1⟩ : ∃ f, (if a = true then 0 else n - k) = f ∧ 0 ≤ f ∧ f + k ≤ n := ⟨_, rfl, by split <;> omega, by split <;> omega⟩
    by_cases h : f ≤ p ∧ p < f + k
    · rw [img_turn_in ef h.1 h.2]
      refine ⟨by show 0 ≤ f + (f + k) - 1 - p; omega, by show f + (f + k) - 1 - p < n; omega, ?_⟩
      show (Mv.turn a k).img n (f + (f + k) - 1 - p) = (p, true)
      rw [img_turn_in ef (by omega) (by omega)]
      congr 1
      omega
    · rw [img_turn_out ef h]
      refine ⟨p0, p1, ?_⟩
      show (Mv.turn a k).img n p = (p, false)
      rw [img_turn_out ef h]
  | face a i => exact ⟨p0, p1, rfl⟩
  | swap a i b j =>
    obtain ⟨k1, k2, k3, k4⟩ := hk
    have hr' : ¬ n < max i j + 1 := hr
    exact sw_sw (plc_bd (a := a) (i := i) (n := n) k1 (by omega)) (plc_bd (a := b) (i := j) (n := n) k3 (by omega)) p0 p1
  | carry a i b j =>
    obtain ⟨k1, k2, k3, k4⟩ := hk
    have hr' : ¬ n < max i j + 1 := hr
    exact cr_cr (plc_bd (a := a) (i := i) (n := n) k1 (by omega)) (plc_bd (a := b) (i := j) (n := n) k3 (by omega)) p0 p1
theorem img_swap {n p i j : Int} {a b : Bool} : (Mv.swap a i b j).img n p = if p = plc a i n then (plc b j n, false) else if p = plc b j n then (plc a i n, false) else (p, false) := rfl
theorem img_carry {n p i j : Int} {a b : Bool} : (Mv.carry a i b j).img n p = if p = plc a i n then (plc b j n, false) else if plc a i n < p ∧ p ≤ plc b j n then (p - 1, false) else if plc b j n ≤ p ∧ p < plc a i n then (p + 1, false) else (p, false) := rfl
theorem dB {a b : Bool} : (!decide (V.bl a = V.bl b)) = (a != b) := by
  cases a <;> cases b <;> decide
/-! ### the program's moves, by data -/
theorem mvD_nm (m : Mv) : ∃ items, mvD m = .tup (.str m.nm :: items) := by cases m <;> exact ⟨_, rfl⟩
section
variable {P : Program} {w : World} {K : PySem.W.Frag} {mg : Str → Option Value} {base : Heap}
abbrev S_cn : Sd := fun _ ds Pq => ∃ m : Mv, ds = [mvD m] ∧ Pq (.ok (.int m.reach))
theorem ok_cards_needed (T : Txt K mg w) : FnOk P w K mg base CX0 1 T.a_cards_needed T.d_cards_needed P_cards_needed (spD K S_cn) := by
  refine okD T.F_cards_needed sc_cards_needed (fun bs ds Pq h => ?_) (fun cdv A outer s H E hr => ⟨_, (pss_cons (ps_set (i := 1) sc_cards_needed.nd rfl (Or.inl rfl) (pe_ix (k_ixT (K := K)) (pv 0) pe_int (fun _ _ => rfl)))
  (pss_cons (ps_if (pt_cmpR op_eq (pv 1) pe_str (nomark _))
  (pss_one (ps_ret pe_int)) pss_nil)
  (pss_cons (ps_if (pt_cmpR op_eq (pv 1) pe_str (nomark _))
  (pss_one (ps_ret (pe_callB k_abs (by rfl) T.m_abs boot_abs (pa_cons (pe_ix (k_ixT (K := K)) (pv 0) pe_int (fun _ _ => rfl)) pa_nil)))) pss_nil)
  (pss_cons (ps_if (pt_cmpR op_eq (pv 1) pe_str (nomark _))
  (pss_one (ps_ret (pe_ix (k_ixT (K := K)) (pv 0) pe_int (fun _ _ => rfl)))) pss_nil)
  (pss_one (ps_ret (pe_op op_add (pe_callB (k_max (K := K)) (by rfl) T.m_max boot_max (pa_cons (pe_lc (own := [("end", 2), ("depth", 3)]) rfl sc_cards_needed.nd (k_piT (K := K) (pe_slice (k_slT (K := K)) (pv 0) (po_some pe_int) po_none)) (blkOk_by (N := N_cards_needed) (sc := defScope s_cards_needed) (by decide +kernel)) (fun _ _ _ _ _ => (k_gT (K := K) (n := 2) (pgs_cons (pg_name (i := 2) sc_cards_needed.nd rfl (Or.inl rfl)) (pgs_cons (pg_name (i := 3) sc_cards_needed.nd rfl (Or.inl rfl)) pgs_nil)))) (fun _ _ _ _ _ => pts_nil) (fun _ _ _ _ _ => (pv 3))) pa_nil)) pe_int))))))), ?_⟩)
  · obtain ⟨d, rfl, _⟩ := h
    rfl
  · rintro C ds Pq hE hX ⟨m, rfl, q⟩
    cases m with
    | over => walk_at "dgo"; exact q
    | cut k => walk_at "dgo"; exact q
    | turn a k => walk_at "dgo"; exact q
    | swap a i b j =>
      walk_at "dgo"
      refine ev_lcm sndD (by rfl) ?_
      walk_at "dgo"
      rw [cutD_tail]
      walk_at "dgo"
      refine ⟨fun C' e1 e2 e3 n d hn => ?_, ?_⟩
      · match n, hn with
        | 0, hn => cases hn; walk_at "dgo"; exact rfl
        | 1, hn => cases hn; walk_at "dgo"; exact rfl
        | n + 2, hn => exact nomatch hn
      · walk_at "dgo"
        refine And.intro (show 0 < [i, j].length from Nat.le_of_ble_eq_true rfl) (fun m hm hy => ?_)
        have hm : m ∈ [i, j] := hm
        have h1 : i ≤ m := hy i (List.mem_cons_self ..)
        have h2 : j ≤ m := hy j (List.mem_cons_of_mem _ (List.mem_cons_self ..))
        walk_at "dgo"
        have e : m + 1 = max i j + 1 := by
          simp only [List.mem_cons, List.not_mem_nil, or_false] at hm
          omega
        show Pq (.ok (.int (m + 1)))
        rw [e]
        exact q
    | carry a i b j =>
      walk_at "dgo"
      refine ev_lcm sndD (by rfl) ?_
      walk_at "dgo"
      rw [cutD_tail]
      walk_at "dgo"
      refine ⟨fun C' e1 e2 e3 n d hn => ?_, ?_⟩
      · match n, hn with
        | 0, hn => cases hn; walk_at "dgo"; exact rfl
        | 1, hn => cases hn; walk_at "dgo"; exact rfl
        | n + 2, hn => exact nomatch hn
      · walk_at "dgo"
        refine And.intro (show 0 < [i, j].length from Nat.le_of_ble_eq_true rfl) (fun m hm hy => ?_)
        have hm : m ∈ [i, j] := hm
        have h1 : i ≤ m := hy i (List.mem_cons_self ..)
        have h2 : j ≤ m := hy j (List.mem_cons_of_mem _ (List.mem_cons_self ..))
        walk_at "dgo"
        have e : m + 1 = max i j + 1 := by
          simp only [List.mem_cons, List.not_mem_nil, or_false] at hm
          omega
        show Pq (.ok (.int (m + 1)))
        rw [e]
        exact q
    | face a i =>
      walk_at "dgo"
      refine ev_lcm sndD (by rfl) ?_
      walk_at "dgo"
      rw [cutD_tail]
      walk_at "dgo"
      refine ⟨fun C' e1 e2 e3 n d hn => ?_, ?_⟩
      · match n, hn with
        | 0, hn => cases hn; walk_at "dgo"; exact rfl
        | n + 1, hn => exact nomatch hn
      · walk_at "dgo"
        refine And.intro (show 0 < [i].length from Nat.le_of_ble_eq_true rfl) (fun m hm hy => ?_)
        have hm : m ∈ [i] := hm
        walk_at "dgo"
        rw [List.mem_singleton.mp hm]
        exact q
abbrev S_ckmv (T : Txt K mg w) : Sd := fun _ ds Pq => ∃ d, ds = [d] ∧ fine d ∧ Pq (if isMoveD d = true then .ok .non else .er ⟨T.a_BadMove, "at", "BadMove", .int 0⟩)
theorem ok_check_move (T : Txt K mg w) : FnOk P w K mg base (L2.CX P w) 6 T.a_check_move T.d_check_move P_check_move (spD K (S_ckmv T)) := by
  have G_BadMove := ok_BadMove (P := P) (w := w) (base := base) T
  have G_is_move := ok_is_move (P := P) (w := w) (base := base) T
  refine okDX T.F_check_move sc_check_move (fun bs ds Pq h => ?_) (fun cdv A outer s H E hr => ⟨_, (pss_one (ps_if (pt_not (pt_val (pe_call G_is_move (hr.mono (by decide)) (by rfl) T.g_is_move T.F_is_move.kp T.b_is_move .nil pass0 (pa_cons (pv 0) pa_nil))))
  (pss_one (ps_raise rfl (takes_of rfl rfl rfl rfl) (pmk_oex T.x_BadMove.o T.i_BadMove T.ti_BadMove G_BadMove (hr.mono (by decide)) T.b_BadMove .nil pass0 (by rfl) T.g_BadMove (pa_cons pe_int pa_nil)))) pss_nil)), ?_⟩)
  · obtain ⟨d, rfl, _⟩ := h
    rfl
  · rintro C ds Pq hE hX ⟨d, rfl, hf, q⟩
    have hE' := hE.symm
    walk_at "dgo"
    cases e : isMoveD d with
    | true =>
      rw [e, if_pos rfl] at q
      walk_at "dgo"
      exact q
    | false =>
      rw [e, if_neg (by decide)] at q
      walk_at "dgo"
      refine run_raise hE ?_
      walk_at "dgo"
      exact hX _ q
/-- of a move, or of what is none -/
abbrev mvOr (T : Txt K mg w) (d : D) (Pq : Rs → Prop) (r : Mv → Rs) : Prop := (∃ m, d = mvD m ∧ m.ok ∧ Pq (r m)) ∨ (fine d ∧ isMoveD d = false ∧ Pq (.er ⟨T.a_BadMove, "at", "BadMove", .int 0⟩))
theorem mvOr_mv (T : Txt K mg w) {m : Mv} {Pq : Rs → Prop} {r : Mv → Rs} (hk : m.ok) (q : Pq (r m)) : mvOr T (mvD m) Pq r := .inl ⟨m, rfl, hk, q⟩
end
end Z
namespace Z
open PySem PySem.Spec PyProof.Rows L2
-- what stands at an address
local macro_rules | `(tactic| walk_at "hp") => `(tactic| first | assumption | exact upd_same | exact BagAt.at_ (by assumption) | exact BagAt.cells (by assumption) | fail "hp")
local macro_rules | `(tactic| walk_at "sq") => `(tactic| first | assumption | (refine Or.inl (Or.inl ?_); walk_at "hp") | (apply Same.seq <;> assumption))
-- bounds
local macro_rules | `(tactic| walk_at "num") => `(tactic| first
  | exact rfl | decide | exact le_line (Nat.le_of_ble_eq_true rfl) | exact lt_line (Nat.le_of_ble_eq_true rfl)
  | (exact mul_ok (small_abs (by omega)) (small_abs (by omega)))
  | (exact div_small (by omega) (by omega))
  | (exact div_ok (by omega) (by assumption))
  | (refine ⟨?_, ?_⟩ <;> omega) | omega
  | (show (_ : Int) ≠ 0; omega) | (show CPow _ _; unfold CPow; decide))
-- one step
local macro_rules | `(tactic| walk_at "rd") => `(tactic| first
  | (refine Exists.intro _ (And.intro rfl ?_))
  | (refine Exists.intro _ (Exists.intro _ (And.intro rfl (And.intro rfl ?_))))
  | (refine Or.inl (Exists.intro _ (And.intro rfl ?_)))
  | (refine Or.inr (Exists.intro _ (And.intro rfl ?_)))
  | (with_reducible refine iteF ?_) | (with_reducible refine iteT ?_)
  | (refine And.intro ?cc ?_; (case cc => walk_at "num"))
  | (refine' Exists.intro _ (Exists.intro _ (Exists.intro _ (Exists.intro _ (And.intro rfl (And.intro rfl (And.intro ?sq (And.intro ?ha ?k))))))); (case sq => walk_at "sq"); (case ha => first | exact rfl | assumption | exact at_zero))
  | (refine' Exists.intro _ (Exists.intro _ (And.intro rfl (And.intro (Or.inl ?sq) ?k))); (case sq => walk_at "sq")))
local macro_rules | `(tactic| walk_at "sqt") => `(tactic| first | assumption | (refine Or.inl (Or.inl ?_); walk_at "hp") | (apply Same.tup <;> assumption))
local macro_rules | `(tactic| walk_at "rdt") => `(tactic| first
  | walk_at "rd"
  | (refine' Exists.intro _ (Exists.intro _ (And.intro rfl (And.intro (Or.inr ?sq) ?k))); (case sq => walk_at "sqt"))
  | (refine' Exists.intro _ (Exists.intro _ (Exists.intro _ (Exists.intro _ (And.intro rfl (And.intro rfl (And.intro ?sq (And.intro ?ha ?k))))))); (case sq => walk_at "sqt"); (case ha => first | exact rfl | assumption | exact at_zero))
  | (refine iteF ?_) | (refine iteT ?_))
local macro_rules | `(tactic| walk_at "rds") => `(tactic| repeat walk_at "rdt")
local macro_rules | `(tactic| walk_at "pull") => `(tactic| (refine' Exists.intro _ (Exists.intro _ (Exists.intro _ (And.intro rfl (And.intro ?bag (And.intro ?pos (And.intro ?fit ?kk)))))); (case bag => assumption); (case pos => first | decide | omega); (case fit => exact Fit.of (by first | decide | omega) (by first | decide | omega))))
local macro_rules | `(tactic| walk_at "two") => `(tactic| refine Exists.intro _ (Exists.intro _ (And.intro rfl ?_)))
/-! ### steps by data -/
local macro_rules | `(tactic| walk_at "side") => `(tactic| first
  | exact rfl | assumption | exact Nat.le_of_ble_eq_true rfl | decide | exact True.intro | exact le_line (Nat.le_of_ble_eq_true rfl) | exact lt_line (Nat.le_of_ble_eq_true rfl) | omega | (show (_ : Int) ≠ 0; omega) | exact cut1_ok | (unfold CPow; decide) | exact mul_ok (small_abs (by omega)) (small_abs (by omega)) | exact div_small (by omega) (by omega))
local macro_rules | `(tactic| walk_at "dR") => `(tactic| first
  | with_reducible refine run_seq ?_ | with_reducible refine run_if ?_ | with_reducible refine run_set ?_ | with_reducible refine run_ret ?_ | with_reducible refine run_next ?_
  | with_reducible refine run_asg ?_ | with_reducible refine run_for ?_ | ((with_reducible refine' run_append ?ev ?kk); (case ev => exact rfl)) | ((with_reducible refine' run_aug ?ev ?kk); (case ev => exact rfl))
  | with_reducible refine run_par ?_ | with_reducible refine run_drop ?_ | with_reducible refine run_retN ?_ | with_reducible refine run_break ?_ | with_reducible refine run_cont ?_)
local macro_rules | `(tactic| walk_at "dE") => `(tactic| first
  | ((with_reducible refine' ev_var ?ev ?kk); (case ev => exact rfl))
  | with_reducible refine ev_op ?_ | with_reducible refine ev_int ?_ | with_reducible refine ev_str ?_ | with_reducible refine ev_callC (by assumption) ?_ | with_reducible refine ev_callX (by assumption) ?_ | with_reducible refine ev_call ?_ | with_reducible refine ev_cb ?_ | with_reducible refine ev_tup ?_
  | with_reducible refine ev_if ?_ | with_reducible refine ev_and ?_ | with_reducible refine ev_or ?_ | with_reducible refine ev_not ?_ | with_reducible refine ev_bl ?_ | with_reducible refine ev_non ?_ | with_reducible refine ev_isi ?_
  | with_reducible refine ev_un ?_ | with_reducible refine ev_chain ?_ | with_reducible refine ev_lst ?_ | with_reducible refine ev_cbf ?_ | with_reducible refine ev_sl ?_ | with_reducible refine ev_m1 ?_ | with_reducible refine ev_kget ?_ | with_reducible refine ev_fmt ?_ | with_reducible refine ev_join ?_ | with_reducible refine ev_ty ?_ | with_reducible refine ev_cV ?_)
local macro_rules | `(tactic| walk_at "dT") => `(tactic| first
  | with_reducible refine evt_t ?_ | with_reducible refine evt_b ?_ | with_reducible refine evt_and ?_ | with_reducible refine evt_or ?_ | with_reducible refine evt_not ?_ | with_reducible refine evt_yes ?_)
local macro_rules | `(tactic| walk_at "dX") => `(tactic| first
  | ((with_reducible refine' evx_name ?ev ?kk); (case ev => first | exact rfl | assumption)) | with_reducible refine evx_tup ?_ | with_reducible refine evx_lst ?_ | with_reducible refine evxs_cons ?_ | with_reducible refine evxs_nil ?_
  | ((with_reducible refine' evg_name ?ev ?mm ?kk); (case ev => first | exact rfl | assumption); (case mm => decide)) | with_reducible refine evg_tup ?_ | with_reducible refine evg_lst ?_ | with_reducible refine evgs_cons ?_ | with_reducible refine evgs_nil ?_
  | with_reducible refine evi_list ?_ | with_reducible refine evi_tup ?_ | with_reducible refine evi_rng1 ?_ | with_reducible refine evi_rng2 ?_ | with_reducible refine evi_enum ?_ | with_reducible refine evi_zip ?_
  | with_reducible refine evo_none ?_ | with_reducible refine evo_some ?_ | with_reducible refine evj_cons ?_ | with_reducible refine evj_nil ?_)
local macro_rules | `(tactic| walk_at "d1") => `(tactic| first
  | ((with_reducible change Ev _ _ _ _ _); walk_at "dE")
  | ((with_reducible change Run _ _ _ _ _); walk_at "dR")
  | with_reducible refine eva_cons ?_ | with_reducible refine eva_nil ?_
  | ((with_reducible change EvT _ _ _ _ _); walk_at "dT")
  | with_reducible refine eva_star ?_
  | with_reducible refine iteT ?_ | with_reducible refine iteF ?_
  | ((with_reducible change if (_ : Bool) = true then _ else _); first | refine iteT ?_ | refine iteF ?_)
  | ((with_reducible refine And.intro ?cc ?_); (case cc => walk_at "side"))
  | ((with_reducible refine' Exists.intro _ (And.intro ?cc ?kk)); (case cc => first | exact rfl | exact at_zero))
  | ((with_reducible refine' Exists.intro _ (Exists.intro _ (And.intro ?cc ?kk))); (case cc => exact rfl))
  | ((with_reducible refine' Exists.intro _ (Exists.intro _ (Exists.intro _ (And.intro ?cc (And.intro ?cd ?kk))))); (case cc => exact rfl); (case cd => exact rfl))
  | ((with_reducible refine' Exists.intro _ (Exists.intro _ (Exists.intro _ (And.intro ?cc ?kk)))); (case cc => exact rfl))
  | ((with_reducible refine' Exists.intro _ (Exists.intro _ (Exists.intro _ (Exists.intro _ (And.intro ?cc ?kk))))); (case cc => exact rfl))
  | walk_at "dX")
local macro_rules | `(tactic| walk_at "d2") => `(tactic| walk_at "d1")
local macro_rules | `(tactic| walk_at "dgo") => `(tactic| repeat walk_at "d1")
local macro_rules | `(tactic| walk_at "wk") => `(tactic| repeat first | exact True.intro | refine And.intro (Or.inl rfl) ?_ | refine And.intro (Or.inr (And.intro rfl rfl)) ?_)
/-! ### steps by data -/
local macro_rules | `(tactic| walk_at "side") => `(tactic| first
  | exact rfl | with_reducible assumption | exact Nat.le_of_ble_eq_true rfl | decide | exact True.intro | exact le_line (Nat.le_of_ble_eq_true rfl) | exact lt_line (Nat.le_of_ble_eq_true rfl) | omega | (show (_ : Int) ≠ 0; omega) | exact cut1_ok | (unfold CPow; decide) | exact mul_ok (small_abs (by omega)) (small_abs (by omega)) | exact div_small (by omega) (by omega) | assumption)
local macro_rules | `(tactic| walk_at "dR") => `(tactic| first
  | with_reducible refine run_ownNil ?_ | with_reducible refine run_ownL ?_ | ((with_reducible refine' run_extend ?ev ?kk); (case ev => exact rfl))
  | ((with_reducible refine' run_fld ?c ?n ?e ?kk); (case c => assumption); (case n => assumption); (case e => exact rfl))
  | ((with_reducible refine' run_retO ?ev ?kk); (case ev => exact rfl)) | ((with_reducible refine' run_setix ?ev ?kk); (case ev => exact rfl)) | ((with_reducible refine' run_popAt ?ev ?kk); (case ev => exact rfl)) | ((with_reducible refine' run_insert ?ev ?kk); (case ev => exact rfl)) | with_reducible refine run_parL ?_ | with_reducible refine run_ownRep ?_
  | with_reducible refine run_seq ?_ | with_reducible refine run_if ?_ | with_reducible refine run_set ?_ | with_reducible refine run_ret ?_ | with_reducible refine run_next ?_
  | with_reducible refine run_asg ?_ | with_reducible refine run_for ?_ | ((with_reducible refine' run_append ?ev ?kk); (case ev => exact rfl)) | ((with_reducible refine' run_aug ?ev ?kk); (case ev => exact rfl))
  | with_reducible refine run_par ?_ | with_reducible refine run_drop ?_ | with_reducible refine run_retN ?_ | with_reducible refine run_break ?_ | with_reducible refine run_cont ?_)
local macro_rules | `(tactic| walk_at "dE") => `(tactic| first
  | ((with_reducible refine' ev_var ?ev ?kk); (case ev => exact rfl))
  | with_reducible refine ev_lenOwn ?_
  | ((with_reducible refine' ev_fldO ?ev ?dd ?kk); (case ev => exact rfl); (case dd => exact rfl)) | with_reducible refine ev_fld ?_ | with_reducible refine ev_methX (by assumption) ?_ | with_reducible refine ev_meth ?_ | with_reducible refine ev_prop ?_ | with_reducible refine ev_makeX (by assumption) ?_ | with_reducible refine ev_make ?_ | with_reducible refine ev_ownX (by assumption) ?_ | with_reducible refine ev_own ?_ | ((with_reducible refine' ev_isiOwn ?o ?kk); (case o => assumption))
  | ((with_reducible refine' ev_ixO ?ev ?kk); (case ev => exact rfl)) | with_reducible refine ev_rev ?_ | with_reducible refine ev_op ?_ | with_reducible refine ev_int ?_ | with_reducible refine ev_str ?_ | with_reducible refine ev_callKX (by assumption) ?_ | with_reducible refine ev_callK ?_ | with_reducible refine ev_callC (by assumption) ?_ | with_reducible refine ev_callX (by assumption) ?_ | with_reducible refine ev_call ?_ | with_reducible refine ev_cb ?_ | with_reducible refine ev_tup ?_
  | with_reducible refine ev_if ?_ | with_reducible refine ev_and ?_ | with_reducible refine ev_or ?_ | with_reducible refine ev_not ?_ | with_reducible refine ev_bl ?_ | with_reducible refine ev_non ?_ | with_reducible refine ev_isi ?_
  | with_reducible refine ev_un ?_ | with_reducible refine ev_chain ?_ | with_reducible refine ev_lst ?_ | with_reducible refine ev_cbf ?_ | with_reducible refine ev_sl ?_ | with_reducible refine ev_m1 ?_ | with_reducible refine ev_kget ?_ | with_reducible refine ev_fmt ?_ | with_reducible refine ev_join ?_ | with_reducible refine ev_ty ?_ | with_reducible refine ev_cV ?_)
local macro_rules | `(tactic| walk_at "dT") => `(tactic| first
  | with_reducible refine evt_t ?_ | with_reducible refine evt_b ?_ | with_reducible refine evt_and ?_ | with_reducible refine evt_or ?_ | with_reducible refine evt_not ?_ | with_reducible refine evt_yes ?_)
local macro_rules | `(tactic| walk_at "dX") => `(tactic| first
  | ((with_reducible refine' evx_name ?ev ?kk); (case ev => first | exact rfl | assumption)) | with_reducible refine evx_tup ?_ | with_reducible refine evx_lst ?_ | with_reducible refine evxs_cons ?_ | with_reducible refine evxs_nil ?_
  | ((with_reducible refine' evg_name ?ev ?mm ?kk); (case ev => first | exact rfl | assumption); (case mm => decide)) | with_reducible refine evg_tup ?_ | with_reducible refine evg_lst ?_ | with_reducible refine evgs_cons ?_ | with_reducible refine evgs_nil ?_
  | with_reducible refine evi_list ?_ | with_reducible refine evi_tup ?_ | with_reducible refine evi_rng1 ?_ | with_reducible refine evi_rng2 ?_ | with_reducible refine evi_enum ?_ | with_reducible refine evi_zip ?_
  | with_reducible refine eva_items ?_ | with_reducible refine evi_revA ?_ | with_reducible refine evi_enumT ?_ | with_reducible refine evf_cb ?_ | with_reducible refine evo_none ?_ | with_reducible refine evo_some ?_ | with_reducible refine evj_cons ?_ | with_reducible refine evj_nil ?_)
local macro_rules | `(tactic| walk_at "d1") => `(tactic| first
  | ((with_reducible change Ev _ _ _ _ _); walk_at "dE")
  | ((with_reducible change Run _ _ _ _ _); walk_at "dR")
  | with_reducible refine eva_cons ?_ | with_reducible refine eva_nil ?_
  | ((with_reducible change EvT _ _ _ _ _); walk_at "dT")
  | with_reducible refine eva_star ?_
  | with_reducible refine iteT ?_ | with_reducible refine iteF ?_
  | ((with_reducible change if (_ : Bool) = true then _ else _); first | refine iteT ?_ | refine iteF ?_)
  | ((with_reducible refine And.intro ?cc ?_); (case cc => walk_at "side"))
  | ((with_reducible refine' Exists.intro _ (And.intro ?cc ?kk)); (case cc => first | exact rfl | exact at_zero))
  | ((with_reducible refine' Exists.intro _ (Exists.intro _ (And.intro ?cc ?kk))); (case cc => exact rfl))
  | ((with_reducible refine' Exists.intro _ (Exists.intro _ (Exists.intro _ (And.intro ?cc (And.intro ?cd ?kk))))); (case cc => exact rfl); (case cd => exact rfl))
  | ((with_reducible refine' Exists.intro _ (Exists.intro _ (Exists.intro _ (And.intro ?cc ?kk)))); (case cc => exact rfl))
  | ((with_reducible refine' Exists.intro _ (Exists.intro _ (Exists.intro _ (Exists.intro _ (And.intro ?cc ?kk))))); (case cc => exact rfl))
  | walk_at "dX")
local macro_rules | `(tactic| walk_at "d2") => `(tactic| walk_at "d1")
local macro_rules | `(tactic| walk_at "dgo") => `(tactic| repeat walk_at "d1")
local macro_rules | `(tactic| walk_at "wk") => `(tactic| repeat first | exact True.intro | refine And.intro (Or.inl rfl) ?_ | refine And.intro (Or.inr (And.intro rfl rfl)) ?_)
/-! ### texts and numbers -/
theorem str_len (z : Str) : z.length = z.cps.toList.length := by simp [Str.length]
theorem str_ext {y z : Str} (h : y.cps.toList = z.cps.toList) : y = z := by
  obtain ⟨a⟩ := y
  obtain ⟨b⟩ := z
  congr 1
  exact Array.toList_inj.mp h
theorem starts_one {y : Str} {c : Nat} (hy : y.cps.toList = [c]) (z : Str) : Txt.startswith z y = decide (z.cps.toList.head? = some c) := by
  unfold Txt.startswith
  rw [PySem.StrLaws.subAt_eq, str_len, str_len, hy]
  cases h : z.cps.toList with
  | nil => rfl
  | cons a l =>
    have e : (decide (0 + [c].length ≤ (a :: l).length)) = true := by simp
    rw [e, Bool.true_and]
    show ([a] == [c]) = _
    rw [Bool.eq_iff_iff]
    simp
theorem cut_tail (z : Str) : (cutS z (some 1) none).cps.toList = z.cps.toList.tail := by
  unfold cutS
  rw [str_len]
  show (z.cps.toList.drop (HT.sIx z.cps.toList.length 0 (some ((1 : Nat) : Int)))).take (HT.sIx z.cps.toList.length z.cps.toList.length none - HT.sIx z.cps.toList.length 0 (some ((1 : Nat) : Int))) = _
  rw [HT.sIx_nat, HT.sIx_none]
  cases z.cps.toList with
  | nil => rfl
  | cons a l =>
    show ((a :: l).drop (min 1 (l.length + 1))).take (l.length + 1 - min 1 (l.length + 1)) = l
    rw [show min 1 (l.length + 1) = 1 by omega]
    show l.take l.length = l
    exact List.take_length
theorem cut_head (z : Str) : (cutS z none (some 1)).cps.toList = z.cps.toList.take 1 := by
  unfold cutS
  rw [str_len]
  show (z.cps.toList.drop (HT.sIx z.cps.toList.length 0 none)).take (HT.sIx z.cps.toList.length z.cps.toList.length (some ((1 : Nat) : Int)) - HT.sIx z.cps.toList.length 0 none) = _
  rw [HT.sIx_nat, HT.sIx_none]
  cases z.cps.toList with
  | nil => rfl
  | cons a l =>
    show (a :: l).take (min 1 (l.length + 1) - 0) = [a]
    rw [show min 1 (l.length + 1) - 0 = 1 by omega]
    rfl
/-- what read_number makes of a text -/
def isDig (c : Nat) : Bool := decide (c ∈ ("0123456789" : Str).cps.toList)
theorem isDig_iff {c : Nat} : isDig c = true ↔ 48 ≤ c ∧ c ≤ 57 := by
  unfold isDig
  rw [decide_eq_true_eq, show ("0123456789" : Str).cps.toList = [48, 49, 50, 51, 52, 53, 54, 55, 56, 57] by decide +kernel]
  constructor
  · intro h
    simp only [List.mem_cons, List.not_mem_nil, or_false] at h
    omega
  · intro h
    simp only [List.mem_cons, List.not_mem_nil, or_false]
    omega
def digL (l : List Nat) : List Nat := if l.head? = some 45 then l.tail else l
def rdL (l : List Nat) : Option Int :=
  if (digL l).length = 0 ∨ 31 < (digL l).length then none else if (digL l).all isDig = false then none else if (digL l).head? = some 48 ∧ l ≠ [48] then none
  else some (if l.head? = some 45 then -((NumText.digitsVal (digL l) : Nat) : Int) else ((NumText.digitsVal (digL l) : Nat) : Int))
def numV : Option Int → V
  | none => .non
  | some i => .int i
theorem all_dig {l : List Nat} (h : l.all isDig = true) : NumText.AllDigits l := fun c hc => isDig_iff.mp (List.all_eq_true.mp h c hc)
theorem rd_text {z : Str} (hl : (digL z.cps.toList).length ≠ 0) (h31 : ¬ 31 < (digL z.cps.toList).length) (ha : (digL z.cps.toList).all isDig = true) :
    intText? z = some (if z.cps.toList.head? = some 45 then -((NumText.digitsVal (digL z.cps.toList) : Nat) : Int) else ((NumText.digitsVal (digL z.cps.toList) : Nat) : Int)) ∧ z.length ≤ 640 := by
  have hd := all_dig ha
  unfold digL at *
  by_cases h : z.cps.toList.head? = some 45
  · rw [if_pos h] at *
    cases e : z.cps.toList with
    | nil => rw [e] at h; cases h
    | cons a l =>
      rw [e] at h hl h31 hd
      cases h
      have l1 : z.length = l.length + 1 := by rw [str_len, e]; rfl
      have l2 : ¬ 31 < l.length := h31
      refine ⟨?_, by omega⟩
      show intText? z = some (-((NumText.digitsVal l : Nat) : Int))
      exact PySem.intText_neg e hd (fun z => hl (by rw [show ((45 : Nat) :: l).tail = l from rfl, z]; rfl)) (by omega)
  · rw [if_neg h] at hl h31 ha hd
    rw [if_neg h, if_neg h]
    have l1 := str_len z
    exact ⟨PySem.intText_digits hd (fun e => hl (by rw [e]; rfl)) (by omega), by omega⟩
theorem tl_app (a b : Str) : (a ++ b).cps.toList = a.cps.toList ++ b.cps.toList := TL.tl_append a b
theorem len_app (a b : Str) : (a ++ b).length = a.length + b.length := by rw [str_len, tl_app, List.length_append, ← str_len, ← str_len]
theorem empty_app (a : Str) : Str.empty ++ a = a := str_ext (by rw [tl_app]; rfl)
def numR : Option Int → D
  | none => .non
  | some i => .int i
section
variable {P : Program} {w : World} {K : PySem.W.Frag} {mg : Str → Option Value} {base : Heap}
abbrev S_rdnum : Sd := fun _ ds Pq => ∃ z : Str, ds = [.str z, .int 31] ∧ z.length ≤ 1000 ∧ Pq (.ok (numR (rdL z.cps.toList)))
theorem ok_read_number (T : Txt K mg w) : FnOk P w K mg base CX0 1 T.a_read_number T.d_read_number P_read_number (spD K S_rdnum) := by
  refine okDF T.F_read_number sc_read_number (fun bs ds Pq h => ?_) (fun cdv A outer s H E hr => ⟨_, (pss_cons (ps_set (i := 2) sc_read_number.nd rfl (Or.inl rfl) (pe_ifExp (pt_val (pe_m1 PySem.F.slot_str_startswith PySem.F.type_str_startswith k_starts (pv 0) pe_str)) (pe_slice sl_str (pv 0) (po_some pe_int) po_none) (pv 0)))
  (pss_cons (ps_if (PW.pt (pw_or (pt_cmpR op_eq (pe_callB k_lenS (by rfl) T.m_len boot_len (pa_cons (pv 2) pa_nil)) pe_int (nomark _)) (pw_or1 (pt_cmpR op_gt (pe_callB k_lenS (by rfl) T.m_len boot_len (pa_cons (pv 2) pa_nil)) (pv 1) (nomark _)))))
  (pss_one (ps_ret pe_non)) pss_nil)
  (pss_cons (ps_for PassesOwn.never rfl (pi_str (pv 2)) (pg_name (i := 3) sc_read_number.nd rfl (Or.inl rfl))
  (pss_one (ps_if (pt_cmpR k_notInSg (pv 3) pe_str (by rfl))
  (pss_one (ps_ret pe_non)) pss_nil)))
  (pss_cons (ps_if (PW.pt (pw_and (pt_val (pe_m1 PySem.F.slot_str_startswith PySem.F.type_str_startswith k_starts (pv 2) pe_str)) (pw_and1 (pt_cmpR op_ne (pv 0) pe_str (nomark _)))))
  (pss_one (ps_ret pe_non)) pss_nil)
  (pss_one (ps_ret (pe_callTy k_intS (by rfl) T.m_int boot_int (pa_cons (pv 0) pa_nil)))))))), ?_⟩)
  · obtain ⟨z, rfl, _⟩ := h
    rfl
  · rintro C ds Pq hE hX ⟨z, rfl, hz, q⟩
    have hsl : z.length ≤ sizeLine := le_line hz
    have h1 := starts_one (y := "-") (c := 45) (by decide +kernel) z
    have hct := cut_tail z
    refine run_seq (run_set (ev_mono (P := fun d => ∃ y : Str, d = .str y ∧ y.cps.toList = digL z.cps.toList ∧ y.length ≤ 1000) ?_ fun d hd => ?_))
    · walk_at "dgo"
      change if Txt.startswith z "-" = true then _ else _
      rw [h1]
      refine iteC2 (fun e => ?_) (fun e => ?_)
      · walk_at "dgo"
        have hdl : (cutS z (some 1) none).cps.toList = digL z.cps.toList := by
          unfold digL
          rw [if_pos (of_decide_eq_true e), hct]
        refine ⟨hdl, ?_⟩
        rw [str_len, hct]
        refine Nat.le_trans ?_ hz
        rw [str_len z]
        cases z.cps.toList with
        | nil => exact Nat.le_refl _
        | cons a l => exact Nat.le_succ _
      · walk_at "dgo"
        exact ⟨by unfold digL; rw [if_neg (of_decide_eq_false e)], hz⟩
    obtain ⟨y, rfl, hdl, hyl⟩ := hd
    have hds : y.length ≤ sizeLine := le_line hyl
    have nn : (y.length : Int) = ((digL z.cps.toList).length : Int) := congrArg Int.ofNat ((str_len _).trans (congrArg List.length hdl))
    have fail : rdL z.cps.toList = none → Pq (.ok .non) := fun e => by
      rw [e] at q
      exact q
    walk_at "dgo"
    refine iteE (fun e0 => ?_) (fun e0 => ?_)
    · walk_at "dgo"
      exact fail (by unfold rdL; rw [if_pos (.inl (by omega))])
    walk_at "dgo"
    refine iteD (fun e1 => ?_) (fun e1 => ?_)
    · walk_at "dgo"
      exact fail (by unfold rdL; rw [if_pos (.inr (by omega))])
    walk_at "dgo"
    have hno : ¬ ((digL z.cps.toList).length = 0 ∨ 31 < (digL z.cps.toList).length) := by omega
    refine evi_str ?_
    walk_at "dgo"
    refine forX (fun k (_ : Unit) => ∀ c ∈ y.cps.toList.take k, isDig c = true) (fun _ => [.val (.str z), .val (.int 31), .val (.str y), .no]) () (fun c h => absurd h List.not_mem_nil) ?_ (fun hv hd k d _ hi hk => ?_) (fun _ hk => ?_)
    · walk_at "wk"
    · obtain ⟨c, hc, rfl⟩ := signs_get hi
      walk_at "dgo"
      change if (!isDig c) = true then _ else _
      refine iteC2 (fun e => ?_) (fun e => ?_)
      · walk_at "dgo"
        refine fail ?_
        unfold rdL
        rw [if_neg hno, if_pos]
        rw [← hdl]
        refine Bool.eq_false_iff.mpr fun h => ?_
        rw [List.all_eq_true.mp h c (List.mem_of_getElem? hc)] at e
        cases e
      · walk_at "dgo"
        refine ⟨(), fun x hx => ?_, ?_⟩
        · rw [List.take_add_one, hc] at hx
          rcases List.mem_append.mp hx with h | h
          · exact hk x h
          · rw [List.mem_singleton.mp h]
            cases hi2 : isDig c with
            | false =>
              rw [hi2] at e
              cases e
            | true => rfl
        · walk_at "wk"
    · have hall : (digL z.cps.toList).all isDig = true := by
        rw [← hdl]
        refine List.all_eq_true.mpr fun c hc => hk c ?_
        rw [List.take_of_length_le (by rw [signs_len]; simp)]
        exact hc
      obtain ⟨t1, t2⟩ := rd_text (z := z) (by omega) (by omega) hall
      refine seq_wk ?_
      have e0 := starts_one (y := "0") (c := 48) (by decide +kernel) y
      rw [hdl] at e0
      have good : ¬ ((digL z.cps.toList).head? = some 48 ∧ z.cps.toList ≠ [48]) → Run K C (tRet (tCB rIntS (tCons (tVar 0) tNil))) [.val (.str z), .val (.int 31), .val (.str y), .no] (endP Pq) := fun hg => by
        walk_at "dgo"
        refine ⟨_, t1, t2, ?_⟩
        unfold rdL at q
        rw [if_neg hno, if_neg (by rw [hall]; decide), if_neg hg] at q
        exact q
      walk_at "dgo"
      change if Txt.startswith y "0" = true then _ else _
      rw [e0]
      refine iteC2 (fun e => ?_) (fun e => ?_)
      · have e48 := of_decide_eq_true e
        walk_at "dgo"
        refine iteND (fun e2 => ?_) (fun e2 => ?_)
        · walk_at "dgo"
          refine fail ?_
          unfold rdL
          have hn : z.cps.toList ≠ [48] := fun h => e2 (congrArg V.str (str_ext (by rw [h]; decide +kernel)))
          rw [if_neg hno, if_neg (by rw [hall]; decide), if_pos ⟨e48, hn⟩]
        · have ez : z = ("0" : Str) := V.str.inj e2
          refine run_next ?_
          exact good fun h => h.2 (by rw [ez]; decide +kernel)
      · refine run_next ?_
        exact good fun h => of_decide_eq_false e h.1
end
/-! ### places and their texts, by data -/
def ltrS (z : Str) : Str := if z = "top" then "t" else "b"
def endD (z : Str) : D := if z = "t" then .str "top" else if z = "b" then .str "bottom" else .non
def numS (i : Int) : Str := Str.ofString (toString i)
/-- what parse_place makes of a text -/
def pplD (z : Str) : D := .tup [endD (cutS z none (some 1)), numR (rdL z.cps.toList.tail)]
theorem fineN_pair (e d : D) (he : fineN 0 e) (hd : fineN 0 d) : fineN 1 (.tup [e, d]) := fineN_tup fun x m => by
  rcases List.mem_cons.mp m with rfl | m
  · exact he
  · rw [List.mem_singleton.mp m]; exact hd
theorem fineN_endD (z : Str) : fineN 0 (endD z) := by
  unfold endD
  split
  · exact fineN_str 0 (by decide +kernel)
  · split
    · exact fineN_str 0 (by decide +kernel)
    · exact fineN_non 0
theorem fineN_numD (o : Option Int) : fineN 0 (numR o) := by
  cases o with
  | none => exact fineN_non 0
  | some i => exact fineN_int 0 i
theorem fine_pplD (z : Str) : fine (pplD z) := (fineN_pair _ _ (fineN_endD _) (fineN_numD _)).fine
theorem dSx {a b : Str} : decide (V.str a = V.str b) = decide (a = b) := by
  by_cases h : a = b
  · subst h
    rw [decide_eq_true rfl, decide_eq_true rfl]
  · rw [decide_eq_false h, decide_eq_false fun e => h (V.str.inj e)]
section
variable {P : Program} {w : World} {K : PySem.W.Frag} {mg : Str → Option Value} {base : Heap}
abbrev S_endtext : Sd := fun _ ds Pq => ∃ z : Str, ds = [.str z] ∧ Pq (.ok (.str (ltrS z)))
theorem ok_end_text (T : Txt K mg w) : FnOk P w K mg base CX0 1 T.a_end_text T.d_end_text P_end_text (spD K S_endtext) := by
  refine okD T.F_end_text sc_end_text (fun bs ds Pq h => ?_) (fun cdv A outer s H E hr => ⟨_, (pss_one (ps_ret (pe_ifExp (pt_cmpR op_eq (pv 0) pe_str (nomark _)) pe_str pe_str))), ?_⟩)
  · obtain ⟨z, rfl, _⟩ := h
    rfl
  · rintro C ds Pq hE hX ⟨z, rfl, q⟩
    unfold ltrS at q
    walk_at "dgo"
    rw [dSx]
    refine iteD (fun c => ?_) (fun c => ?_)
    · rw [if_pos c] at q
      walk_at "dgo"
      exact q
    · rw [if_neg c] at q
      walk_at "dgo"
      exact q
abbrev S_rdend : Sd := fun _ ds Pq => ∃ z : Str, ds = [.str z] ∧ Pq (.ok (endD z))
theorem ok_read_end (T : Txt K mg w) : FnOk P w K mg base CX0 1 T.a_read_end T.d_read_end P_read_end (spD K S_rdend) := by
  refine okD T.F_read_end sc_read_end (fun bs ds Pq h => ?_) (fun cdv A outer s H E hr => ⟨_, (pss_one (ps_ret (pe_kget (K := K) (w := w) (pe_glob (v := .ref T.a_ENDS) rfl T.c_ENDS rfl) T.d_ENDS (pv 0) ⟨rfl, rfl, rfl, rfl⟩))), ?_⟩)
  · obtain ⟨z, rfl, _⟩ := h
    rfl
  · rintro C ds Pq hE hX ⟨z, rfl, q⟩
    unfold endD at q
    walk_at "dgo"
    by_cases h1 : z = "t"
    · subst h1
      rw [if_pos rfl] at q
      refine .inl ⟨_, _, T.e_ENDS_t, fun O H => .str _, ?_⟩
      exact q
    · rw [if_neg h1] at q
      by_cases h2 : z = "b"
      · subst h2
        rw [if_pos rfl] at q
        refine .inl ⟨_, _, T.e_ENDS_b, fun O H => .str _, ?_⟩
        exact q
      · rw [if_neg h2] at q
        refine .inr ⟨T.x_ENDS z (fun h => ?_), ?_⟩
        · rcases List.mem_cons.mp h with h | h
          · exact h1 h
          · exact h2 (List.mem_singleton.mp h)
        exact q
abbrev S_ptext (T : Txt K mg w) : Sd := fun _ ds Pq => ∃ (z : Str) (j : Int), ds = [.tup [.str z, .int j]] ∧ fine (.tup [.str z, .int j]) ∧ (isEP (.tup [.str z, .int j]) = true → j.natAbs.log2 < 1920 ∧ (numS j).length ≤ 1000) ∧
  Pq (if isEP (.tup [.str z, .int j]) = false then .er ⟨T.a_BadPlace, "place", "BadPlace", .tup [.str z, .int j]⟩ else .ok (.str (ltrS z ++ numS j)))
theorem ltrS_len (z : Str) : (ltrS z).length = 1 := by unfold ltrS; split <;> rfl
theorem ok_place_text (T : Txt K mg w) : FnOk P w K mg base (L2.CX P w) 6 T.a_place_text T.d_place_text P_place_text (spD K (S_ptext T)) := by
  have G_check_end_place := ok_check_end_place (P := P) (w := w) (base := base) T
  have G_end_text := ok_end_text (P := P) (w := w) (base := base) T
  refine okDX T.F_place_text sc_place_text (fun bs ds Pq h => ?_) (fun cdv A outer s H E hr => ⟨_, (pss_cons (ps_expr (pe_call G_check_end_place (hr.mono (by decide)) (by rfl) T.g_check_end_place T.F_check_end_place.kp T.b_check_end_place .nil (passes_call (takes_of rfl rfl rfl rfl) fun _ _ _ _ h => h) (pa_cons (pv 0) pa_nil)))
  (pss_cons (ps_asg (pv 0) (k_gT (K := K) (n := 2) (pgs_cons (pg_name (i := 1) sc_place_text.nd rfl (Or.inl rfl)) (pgs_cons (pg_name (i := 2) sc_place_text.nd rfl (Or.inl rfl)) pgs_nil))))
  (pss_one (ps_ret (k_joined (.cons (pe_fmt (pe_call G_end_text (hr.mono (by decide)) (by rfl) T.g_end_text T.F_end_text.kp T.b_end_text .nil pass0 (pa_cons (pv 1) pa_nil))) (.cons (pe_fmt (pv 2)) .nil))))))), ?_⟩)
  · obtain ⟨d, i, rfl, _⟩ := h
    rfl
  · rintro C ds Pq hE hX ⟨z, j, rfl, hf, hb, q⟩
    have hE' := hE.symm
    walk_at "dgo"
    cases he : isEP (.tup [.str z, .int j]) with
    | false =>
      rw [he, if_pos rfl] at q
      rw [if_neg (by decide)]
      exact hX _ q
    | true =>
      rw [he, if_neg (by decide)] at q
      rw [if_pos rfl]
      obtain ⟨b1, b2⟩ := hb he
      have l1 := ltrS_len z
      have l2 : (ltrS z).length ≤ sizeLine := by rw [l1]; decide
      have l3 : (Str.empty ++ ltrS z).length ≤ sizeLine := by rw [empty_app]; exact l2
      have l4 : (Str.empty ++ ltrS z ++ Str.ofString (toString j)).length ≤ sizeLine := by
        rw [empty_app, len_app, l1]
        exact Nat.le_trans (Nat.add_le_add_left b2 1) (by decide)
      walk_at "dgo"
      rw [empty_app]
      exact q
/-- parse_place -/
abbrev S_pplace (T : Txt K mg w) : Sd := fun _ ds Pq => ∃ z : Str, ds = [.str z] ∧ z.length ≤ 1000 ∧ Pq (if isEP (pplD z) = true then .ok (pplD z) else .er ⟨T.a_BadText, "at", "BadText", .int 0⟩)
theorem ok_parse_place (T : Txt K mg w) : FnOk P w K mg base (L2N.CX P w) 6 T.a_parse_place T.d_parse_place P_parse_place (spD K (S_pplace T)) := by
  have G_BadText := ok_BadText (P := P) (w := w) (base := base) T
  have G_is_end_place := ok_is_end_place (P := P) (w := w) (base := base) T
  have G_read_end := ok_read_end (P := P) (w := w) (base := base) T
  have G_read_number := ok_read_number (P := P) (w := w) (base := base) T
  refine okDN T.F_parse_place sc_parse_place (fun bs ds Pq h => ?_) (fun cdv A outer s H E hr => ⟨_, (pss_cons (ps_set (i := 1) sc_parse_place.nd rfl (Or.inl rfl) (pe_tup (pa_cons (pe_call G_read_end (hr.mono (by decide)) (by rfl) T.g_read_end T.F_read_end.kp T.b_read_end .nil pass0 (pa_cons (pe_slice sl_str (pv 0) po_none (po_some pe_int)) pa_nil)) (pa_cons (pe_call G_read_number (hr.mono (by decide)) (by rfl) T.g_read_number T.F_read_number.kp T.b_read_number.choose_spec.2 T.b_read_number.choose_spec.1 pass0 (pa_cons (pe_slice sl_str (pv 0) (po_some pe_int) po_none) pa_nil)) pa_nil))))
  (pss_cons (ps_if (pt_not (pt_val (pe_call G_is_end_place (hr.mono (by decide)) (by rfl) T.g_is_end_place T.F_is_end_place.kp T.b_is_end_place .nil pass0 (pa_cons (pv 1) pa_nil))))
  (pss_one (L2N.ps_raise rfl (L2N.takes_of rfl rfl rfl rfl) (pmk_new T.x_BadText.o T.i_BadText T.ti_BadText G_BadText (hr.mono (by decide)) T.b_BadText pass0 (by rfl) T.g_BadText (pa_cons pe_int pa_nil)))) pss_nil)
  (pss_one (ps_ret (pv 1))))), ?_⟩)
  · obtain ⟨d, rfl, _⟩ := h
    rfl
  · rintro C ds Pq hE hX ⟨z, rfl, hz, q⟩
    have hE' := hE.symm
    have hsl : z.length ≤ sizeLine := le_line hz
    have hct := cut_tail z
    have hl : (cutS z (some 1) none).length ≤ 1000 := by
      rw [str_len, hct]
      rw [str_len z] at hz
      cases e : z.cps.toList with
      | nil => exact Nat.zero_le _
      | cons a l =>
        rw [e] at hz
        exact Nat.le_of_succ_le hz
    have hf := fine_pplD z
    have e1 : D.tup [endD (cutS z none (some 1)), numR (rdL (cutS z (some 1) none).cps.toList)] = pplD z := by rw [hct]; rfl
    walk_at "dgo"
    refine ev_callD ?_
    walk_at "dgo"
    rw [e1]
    walk_at "dgo"
    cases he : isEP (pplD z) with
    | true =>
      rw [he, if_pos rfl] at q
      walk_at "dgo"
      exact q
    | false =>
      rw [he, if_neg (by decide)] at q
      walk_at "dgo"
      refine run_raise hE ?_
      walk_at "dgo"
      exact hX _ q
end
end Z
namespace Z
open PySem PySem.Spec PyProof.Rows L2
-- what stands at an address
local macro_rules | `(tactic| walk_at "hp") => `(tactic| first | assumption | exact upd_same | exact BagAt.at_ (by assumption) | exact BagAt.cells (by assumption) | fail "hp")
local macro_rules | `(tactic| walk_at "sq") => `(tactic| first | assumption | (refine Or.inl (Or.inl ?_); walk_at "hp") | (apply Same.seq <;> assumption))
-- bounds
local macro_rules | `(tactic| walk_at "num") => `(tactic| first
  | exact rfl | decide | exact le_line (Nat.le_of_ble_eq_true rfl) | exact lt_line (Nat.le_of_ble_eq_true rfl)
  | (exact mul_ok (small_abs (by omega)) (small_abs (by omega)))
  | (exact div_small (by omega) (by omega))
  | (exact div_ok (by omega) (by assumption))
  | (refine ⟨?_, ?_⟩ <;> omega) | omega
  | (show (_ : Int) ≠ 0; omega) | (show CPow _ _; unfold CPow; decide))
-- one step
local macro_rules | `(tactic| walk_at "rd") => `(tactic| first
  | (refine Exists.intro _ (And.intro rfl ?_))
  | (refine Exists.intro _ (Exists.intro _ (And.intro rfl (And.intro rfl ?_))))
  | (refine Or.inl (Exists.intro _ (And.intro rfl ?_)))
  | (refine Or.inr (Exists.intro _ (And.intro rfl ?_)))
  | (with_reducible refine iteF ?_) | (with_reducible refine iteT ?_)
  | (refine And.intro ?cc ?_; (case cc => walk_at "num"))
  | (refine' Exists.intro _ (Exists.intro _ (Exists.intro _ (Exists.intro _ (And.intro rfl (And.intro rfl (And.intro ?sq (And.intro ?ha ?k))))))); (case sq => walk_at "sq"); (case ha => first | exact rfl | assumption | exact at_zero))
  | (refine' Exists.intro _ (Exists.intro _ (And.intro rfl (And.intro (Or.inl ?sq) ?k))); (case sq => walk_at "sq")))
local macro_rules | `(tactic| walk_at "sqt") => `(tactic| first | assumption | (refine Or.inl (Or.inl ?_); walk_at "hp") | (apply Same.tup <;> assumption))
local macro_rules | `(tactic| walk_at "rdt") => `(tactic| first
  | walk_at "rd"
  | (refine' Exists.intro _ (Exists.intro _ (And.intro rfl (And.intro (Or.inr ?sq) ?k))); (case sq => walk_at "sqt"))
  | (refine' Exists.intro _ (Exists.intro _ (Exists.intro _ (Exists.intro _ (And.intro rfl (And.intro rfl (And.intro ?sq (And.intro ?ha ?k))))))); (case sq => walk_at "sqt"); (case ha => first | exact rfl | assumption | exact at_zero))
  | (refine iteF ?_) | (refine iteT ?_))
local macro_rules | `(tactic| walk_at "rds") => `(tactic| repeat walk_at "rdt")
local macro_rules | `(tactic| walk_at "pull") => `(tactic| (refine' Exists.intro _ (Exists.intro _ (Exists.intro _ (And.intro rfl (And.intro ?bag (And.intro ?pos (And.intro ?fit ?kk)))))); (case bag => assumption); (case pos => first | decide | omega); (case fit => exact Fit.of (by first | decide | omega) (by first | decide | omega))))
local macro_rules | `(tactic| walk_at "two") => `(tactic| refine Exists.intro _ (Exists.intro _ (And.intro rfl ?_)))
local macro_rules | `(tactic| walk_at "isi") => `(tactic| (refine' Exists.intro _ (Exists.intro _ (Exists.intro _ (Exists.intro _ (Exists.intro _ (And.intro rfl (And.intro (ClsV.ty _) (And.intro ?tt (And.intro (kit_ty ?ee) ?kk)))))))); (case tt => assumption); (case ee => first | exact kb_int_list | exact kb_int_tuple | exact kb_int_dict | exact kb_int_bool | exact kb_int_int | exact kb_int_str | exact kb_str_list | exact kb_str_tuple | exact kb_str_dict | exact kb_str_bool | exact kb_str_int | exact kb_str_str | exact kb_bool_list | exact kb_bool_tuple | exact kb_bool_dict | exact kb_bool_bool | exact kb_bool_int | exact kb_bool_str | exact kb_NoneType_list | exact kb_NoneType_tuple | exact kb_NoneType_dict | exact kb_NoneType_bool | exact kb_NoneType_int | exact kb_NoneType_str | exact kb_list_list | exact kb_list_tuple | exact kb_list_dict | exact kb_list_bool | exact kb_list_int | exact kb_list_str | exact kb_tuple_list | exact kb_tuple_tuple | exact kb_tuple_dict | exact kb_tuple_bool | exact kb_tuple_int | exact kb_tuple_str)))
-- one step
local macro_rules | `(tactic| walk_at "same") => `(tactic| repeat first | walk_at "rdt" | walk_at "isi")
/-! ### steps by data -/
local macro_rules | `(tactic| walk_at "side") => `(tactic| first
  | exact rfl | with_reducible assumption | exact Nat.le_of_ble_eq_true rfl | decide | exact True.intro | exact le_line (Nat.le_of_ble_eq_true rfl) | exact lt_line (Nat.le_of_ble_eq_true rfl) | omega | (show (_ : Int) ≠ 0; omega) | exact cut1_ok | (unfold CPow; decide) | exact mul_ok (small_abs (by omega)) (small_abs (by omega)) | exact div_small (by omega) (by omega) | assumption)
local macro_rules | `(tactic| walk_at "dR") => `(tactic| first
  | with_reducible refine run_ownNil ?_ | with_reducible refine run_ownL ?_ | ((with_reducible refine' run_extend ?ev ?kk); (case ev => exact rfl))
  | ((with_reducible refine' run_fld ?c ?n ?e ?kk); (case c => assumption); (case n => assumption); (case e => exact rfl))
  | ((with_reducible refine' run_retO ?ev ?kk); (case ev => exact rfl)) | ((with_reducible refine' run_setix ?ev ?kk); (case ev => exact rfl)) | ((with_reducible refine' run_popAt ?ev ?kk); (case ev => exact rfl)) | ((with_reducible refine' run_insert ?ev ?kk); (case ev => exact rfl)) | with_reducible refine run_parL ?_ | with_reducible refine run_ownRep ?_
  | with_reducible refine run_seq ?_ | with_reducible refine run_if ?_ | with_reducible refine run_set ?_ | with_reducible refine run_ret ?_ | with_reducible refine run_next ?_
  | with_reducible refine run_asg ?_ | with_reducible refine run_for ?_ | ((with_reducible refine' run_append ?ev ?kk); (case ev => exact rfl)) | ((with_reducible refine' run_aug ?ev ?kk); (case ev => exact rfl))
  | with_reducible refine run_par ?_ | with_reducible refine run_drop ?_ | with_reducible refine run_retN ?_ | with_reducible refine run_break ?_ | with_reducible refine run_cont ?_)
local macro_rules | `(tactic| walk_at "dE") => `(tactic| first
  | ((with_reducible refine' ev_var ?ev ?kk); (case ev => exact rfl))
  | with_reducible refine ev_lenOwn ?_
  | ((with_reducible refine' ev_fldO ?ev ?dd ?kk); (case ev => exact rfl); (case dd => exact rfl)) | with_reducible refine ev_fld ?_ | with_reducible refine ev_methX (by assumption) ?_ | with_reducible refine ev_meth ?_ | with_reducible refine ev_prop ?_ | with_reducible refine ev_makeX (by assumption) ?_ | with_reducible refine ev_make ?_ | with_reducible refine ev_ownX (by assumption) ?_ | with_reducible refine ev_own ?_ | ((with_reducible refine' ev_isiOwn ?o ?kk); (case o => assumption))
  | ((with_reducible refine' ev_ixO ?ev ?kk); (case ev => exact rfl)) | with_reducible refine ev_rev ?_ | with_reducible refine ev_op ?_ | with_reducible refine ev_int ?_ | with_reducible refine ev_str ?_ | with_reducible refine ev_callKX (by assumption) ?_ | with_reducible refine ev_callK ?_ | with_reducible refine ev_callC (by assumption) ?_ | with_reducible refine ev_callX (by assumption) ?_ | with_reducible refine ev_call ?_ | with_reducible refine ev_cb ?_ | with_reducible refine ev_tup ?_
  | with_reducible refine ev_if ?_ | with_reducible refine ev_and ?_ | with_reducible refine ev_or ?_ | with_reducible refine ev_not ?_ | with_reducible refine ev_bl ?_ | with_reducible refine ev_non ?_ | with_reducible refine ev_isi ?_
  | with_reducible refine ev_un ?_ | with_reducible refine ev_chain ?_ | with_reducible refine ev_lst ?_ | with_reducible refine ev_cbf ?_ | with_reducible refine ev_sl ?_ | with_reducible refine ev_m1 ?_ | with_reducible refine ev_kget ?_ | with_reducible refine ev_fmt ?_ | with_reducible refine ev_join ?_ | with_reducible refine ev_ty ?_ | with_reducible refine ev_cV ?_)
local macro_rules | `(tactic| walk_at "dT") => `(tactic| first
  | with_reducible refine evt_t ?_ | with_reducible refine evt_b ?_ | with_reducible refine evt_and ?_ | with_reducible refine evt_or ?_ | with_reducible refine evt_not ?_ | with_reducible refine evt_yes ?_)
local macro_rules | `(tactic| walk_at "dX") => `(tactic| first
  | ((with_reducible refine' evx_name ?ev ?kk); (case ev => first | exact rfl | assumption)) | with_reducible refine evx_tup ?_ | with_reducible refine evx_lst ?_ | with_reducible refine evxs_cons ?_ | with_reducible refine evxs_nil ?_
  | ((with_reducible refine' evg_name ?ev ?mm ?kk); (case ev => first | exact rfl | assumption); (case mm => decide)) | with_reducible refine evg_tup ?_ | with_reducible refine evg_lst ?_ | with_reducible refine evgs_cons ?_ | with_reducible refine evgs_nil ?_
  | with_reducible refine evi_list ?_ | with_reducible refine evi_tup ?_ | with_reducible refine evi_rng1 ?_ | with_reducible refine evi_rng2 ?_ | with_reducible refine evi_enum ?_ | with_reducible refine evi_zip ?_
  | with_reducible refine eva_items ?_ | with_reducible refine evi_revA ?_ | with_reducible refine evi_enumT ?_ | with_reducible refine evf_cb ?_ | with_reducible refine evo_none ?_ | with_reducible refine evo_some ?_ | with_reducible refine evj_cons ?_ | with_reducible refine evj_nil ?_)
local macro_rules | `(tactic| walk_at "d1") => `(tactic| first
  | ((with_reducible change Ev _ _ _ _ _); walk_at "dE")
  | ((with_reducible change Run _ _ _ _ _); walk_at "dR")
  | with_reducible refine eva_cons ?_ | with_reducible refine eva_nil ?_
  | ((with_reducible change EvT _ _ _ _ _); walk_at "dT")
  | with_reducible refine eva_star ?_
  | with_reducible refine iteT ?_ | with_reducible refine iteF ?_
  | ((with_reducible change if (_ : Bool) = true then _ else _); first | refine iteT ?_ | refine iteF ?_)
  | ((with_reducible refine And.intro ?cc ?_); (case cc => walk_at "side"))
  | ((with_reducible refine' Exists.intro _ (And.intro ?cc ?kk)); (case cc => first | exact rfl | exact at_zero))
  | ((with_reducible refine' Exists.intro _ (Exists.intro _ (And.intro ?cc ?kk))); (case cc => exact rfl))
  | ((with_reducible refine' Exists.intro _ (Exists.intro _ (Exists.intro _ (And.intro ?cc (And.intro ?cd ?kk))))); (case cc => exact rfl); (case cd => exact rfl))
  | ((with_reducible refine' Exists.intro _ (Exists.intro _ (Exists.intro _ (And.intro ?cc ?kk)))); (case cc => exact rfl))
  | ((with_reducible refine' Exists.intro _ (Exists.intro _ (Exists.intro _ (Exists.intro _ (And.intro ?cc ?kk))))); (case cc => exact rfl))
  | walk_at "dX")
local macro_rules | `(tactic| walk_at "d2") => `(tactic| walk_at "d1")
local macro_rules | `(tactic| walk_at "dgo") => `(tactic| repeat walk_at "d1")
local macro_rules | `(tactic| walk_at "wk") => `(tactic| repeat first | exact True.intro | refine And.intro (Or.inl rfl) ?_ | refine And.intro (Or.inr (And.intro rfl rfl)) ?_)
/-! ### numbers and their texts -/
theorem log_small {d : Int} (h0 : 0 ≤ d) (h : d ≤ 999999999999999999999999999999) : d.natAbs.log2 < 1920 := by
  by_cases e : d.natAbs = 0
  · rw [e]
    decide
  · exact (Nat.log2_lt e).mpr (Nat.lt_of_lt_of_le (show d.natAbs < 2 ^ 100 by omega) (Nat.pow_le_pow_right (by decide) (by decide)))
theorem num_text {d : Int} (h0 : 0 ≤ d) : (Str.ofString (toString d)).cps.toList = TL.numL d.toNat := by
  obtain ⟨n, rfl⟩ := Int.eq_ofNat_of_zero_le h0
  exact TL.tl_num n
theorem num_len {d : Int} (h0 : 0 ≤ d) (h : d ≤ 999999999999999999999999999999) : (Str.ofString (toString d)).length ≤ 31 := by
  rw [str_len, num_text h0]
  refine TL.numL_len (by decide) ?_
  have : d.toNat ≤ 999999999999999999999999999999 := by omega
  exact Nat.lt_of_le_of_lt this (by decide)
theorem num_head {n : Nat} (h : (TL.numL n).head? = some 48) : n = 0 := by
  induction n using Nat.strongRecOn with
  | _ n ih =>
    by_cases h9 : n < 10
    · rw [TL.numL_lt h9] at h
      have h2 : 48 + n = 48 := Option.some.inj h
      omega
    · rw [TL.numL_step (by omega)] at h
      have hn := TL.numL_ne (n / 10)
      cases e : TL.numL (n / 10) with
      | nil => exact absurd e hn
      | cons a l =>
        rw [e] at h
        have h3 : (TL.numL (n / 10)).head? = some 48 := by rw [e]; exact h
        have h4 := ih (n / 10) (by omega) h3
        omega
theorem rd_num {n : Nat} (h : n < 10 ^ 31) : rdL (TL.numL n) = some (n : Int) := by
  have hl := TL.numL_len (n := n) (k := 31) (by decide) h
  have hd := TL.numL_digits n
  have hne := TL.numL_ne n
  have h45 : (TL.numL n).head? ≠ some 45 := fun e => by
    cases e2 : TL.numL n with
    | nil => exact hne e2
    | cons a l =>
      rw [e2] at e hd
      have : a = 45 := Option.some.inj e
      have := (hd a (List.mem_cons_self ..)).1
      omega
  have e1 : digL (TL.numL n) = TL.numL n := by unfold digL; rw [if_neg h45]
  unfold rdL
  rw [e1]
  have hpos : (TL.numL n).length ≠ 0 := fun e => hne (List.length_eq_zero_iff.mp e)
  rw [if_neg (by omega), if_neg (fun e => ?_), if_neg (fun e => ?_), if_neg h45, TL.numL_val]
  · have h0 := num_head e.1
    subst h0
    exact e.2 (by rw [TL.numL_lt (by decide)])
  · rw [List.all_eq_true.mpr fun c hc => isDig_iff.mpr (hd c hc)] at e
    cases e
theorem ltr_list {z : Str} (hz : z = "top" ∨ z = "bottom") : (ltrS z).cps.toList = [if z = "top" then 116 else 98] := by
  rcases hz with rfl | rfl <;> decide +kernel
theorem endD_text {z : Str} (hz : z = "top" ∨ z = "bottom") (y : Str) : endD (cutS (ltrS z ++ y) none (some 1)) = .str z := by
  have e : cutS (ltrS z ++ y) none (some 1) = ltrS z := str_ext (by rw [cut_head, tl_app, ltr_list hz]; rfl)
  rw [e]
  rcases hz with rfl | rfl <;> rfl
theorem rd_numS {d : Int} (h0 : 0 ≤ d) (h : d ≤ 999999999999999999999999999999) : rdL (numS d).cps.toList = some d := by
  unfold numS
  rw [num_text h0, rd_num (by have : d.toNat ≤ 999999999999999999999999999999 := by omega
                              exact Nat.lt_of_le_of_lt this (by decide)), Int.toNat_of_nonneg h0]
theorem ppl_text {z : Str} {d : Int} (hz : z = "top" ∨ z = "bottom") (h0 : 0 ≤ d) (h : d ≤ 999999999999999999999999999999) : pplD (ltrS z ++ numS d) = .tup [.str z, .int d] := by
  unfold pplD
  rw [endD_text hz, tl_app, ltr_list hz]
  show D.tup [.str z, numR (rdL (numS d).cps.toList)] = _
  rw [rd_numS h0 h]
  rfl
theorem text_len {z : Str} {d : Int} (h0 : 0 ≤ d) (h : d ≤ 999999999999999999999999999999) : (ltrS z ++ numS d).length ≤ 1000 := by
  have h2 := num_len h0 h
  rw [len_app, ltrS_len]
  show 1 + (numS d).length ≤ 1000
  unfold numS
  omega
theorem isEP_good {z : Str} {d : Int} (hz : z = "top" ∨ z = "bottom") (h0 : 0 ≤ d) : isEP (.tup [.str z, .int d]) = true := by
  show (isEnd (.str z) && decide (0 ≤ d)) = true
  rw [decide_eq_true h0, Bool.and_true]
  rcases hz with rfl | rfl <;> decide +kernel
/-! ### texts of moves: numbers there and back -/
theorem val_snoc (l : List Nat) (c : Nat) : NumText.digitsVal (l ++ [c]) = NumText.digitsVal l * 10 + (c - 48) := by
  unfold NumText.digitsVal
  rw [List.foldl_append]
  rfl
theorem numL_back : ∀ (n : Nat) (l : List Nat), l.length = n → NumText.AllDigits l → l ≠ [] → (l.head? = some 48 → l = [48]) → TL.numL (NumText.digitsVal l) = l := by
  intro n
  induction n with
  | zero => intro l hl _ hne _; exact absurd (List.length_eq_zero_iff.mp hl) hne
  | succ n ih =>
    intro l hl hd hne h0
    obtain ⟨l', c, rfl⟩ : ∃ l' c, l = l' ++ [c] := ⟨l.dropLast, l.getLast hne, (List.dropLast_concat_getLast hne).symm⟩
    have hc := hd c (List.mem_append.mpr (.inr (List.mem_singleton.mpr rfl)))
    rw [val_snoc]
    cases hl' : l' with
    | nil =>
      show TL.numL (0 * 10 + (c - 48)) = [c]
      rw [TL.numL_lt (by omega)]
      congr 1
      omega
    | cons a r =>
      rw [← hl']
      have hne' : l' ≠ [] := by rw [hl']; exact fun h => nomatch h
      have hh : l'.head? ≠ some 48 := fun e => by
        have e2 : (l' ++ [c]).head? = some 48 := by rw [hl'] at e ⊢; exact e
        have := congrArg List.length (h0 e2)
        rw [List.length_append, hl'] at this
        simp at this
      have e := ih l' (by rw [List.length_append] at hl; simpa using hl) (fun x hx => hd x (List.mem_append.mpr (.inl hx))) hne' (fun h => absurd h hh)
      have hp : NumText.digitsVal l' ≠ 0 := fun z => by
        rw [z, TL.numL_lt (by decide)] at e
        rw [← e] at hh
        exact hh rfl
      rw [TL.numL_step (by omega), show (NumText.digitsVal l' * 10 + (c - 48)) / 10 = NumText.digitsVal l' by omega, e]
      congr 2
      omega
theorem neg_text {n : Nat} (h : n ≠ 0) : (numS (-((n : Nat) : Int))).cps.toList = 45 :: TL.numL n := by
  cases n with
  | zero => exact absurd rfl h
  | succ m =>
    unfold numS
    show (Str.ofString (toString (Int.negSucc m))).cps.toList = _
    rw [PyProof.Rows.signs_ofString]
    show ("-" ++ Nat.repr (m + 1)).toList.map Char.toNat = _
    rw [String.toList_append, List.map_append]
    show 45 :: (Nat.repr (m + 1)).toList.map Char.toNat = _
    rw [Nat.toList_repr]
    rfl
theorem pos_text (n : Nat) : (numS ((n : Nat) : Int)).cps.toList = TL.numL n := TL.tl_num n
/-- what is read as a number is the text of that number -/
theorem rd_back {l : List Nat} {i : Int} (h : rdL l = some i) : (numS i).cps.toList = l := by
  unfold rdL at h
  split at h
  · cases h
  rename_i h1
  split at h
  · cases h
  rename_i h2
  split at h
  · cases h
  rename_i h3
  have ha : (digL l).all isDig = true := by
    cases e : (digL l).all isDig with
    | true => rfl
    | false => exact absurd e h2
  have hd := all_dig ha
  have hne : digL l ≠ [] := fun e => h1 (.inl (by rw [e]; rfl))
  split at h
  · rename_i h45
    cases h
    have e1 : l = 45 :: digL l := by
      unfold digL
      rw [if_pos h45]
      cases l with
      | nil => cases h45
      | cons a r => cases h45; rfl
    have h48 : (digL l).head? ≠ some 48 := fun e => h3 ⟨e, fun z => by rw [z] at h45; cases h45⟩
    have e2 := numL_back _ _ rfl hd hne (fun e => absurd e h48)
    have hp : NumText.digitsVal (digL l) ≠ 0 := fun z => by
      rw [z, TL.numL_lt (by decide)] at e2
      rw [← e2] at h48
      exact h48 rfl
    rw [neg_text hp, e2]
    exact e1.symm
  · rename_i h45
    cases h
    have e1 : digL l = l := by unfold digL; rw [if_neg h45]
    rw [e1] at hd hne h3
    rw [e1, pos_text]
    refine numL_back _ _ rfl hd hne fun e => ?_
    cases Decidable.em (l = [48]) with
    | inl z => exact z
    | inr z => exact absurd ⟨e, z⟩ h3
theorem rd_neg {n : Nat} (h0 : n ≠ 0) (h : n < 10 ^ 31) : rdL (45 :: TL.numL n) = some (-((n : Nat) : Int)) := by
  have hl := TL.numL_len (n := n) (k := 31) (by decide) h
  have hd := TL.numL_digits n
  have hne := TL.numL_ne n
  have e1 : digL (45 :: TL.numL n) = TL.numL n := by unfold digL; exact if_pos rfl
  unfold rdL
  rw [e1]
  have hpos : (TL.numL n).length ≠ 0 := fun e => hne (List.length_eq_zero_iff.mp e)
  rw [if_neg (by omega), if_neg (fun e => ?_), if_neg (fun e => ?_), if_pos (show (45 :: TL.numL n).head? = some 45 from rfl), TL.numL_val]
  · exact h0 (num_head e.1)
  · rw [List.all_eq_true.mpr fun c hc => isDig_iff.mpr (hd c hc)] at e
    cases e
theorem rd_int {i : Int} (h0 : -400 ≤ i) (h1 : i ≤ 400) : rdL (numS i).cps.toList = some i := by
  by_cases h : 0 ≤ i
  · exact rd_numS h (by omega)
  · have e : i = -((i.natAbs : Nat) : Int) := by omega
    have hn : i.natAbs ≠ 0 := by omega
    rw [e, neg_text hn, rd_neg hn (Nat.lt_of_le_of_lt (show i.natAbs ≤ 400 by omega) (by decide))]
theorem num_small {i : Int} (h0 : -400 ≤ i) (h1 : i ≤ 400) : i.natAbs.log2 < 1920 ∧ (numS i).length ≤ 32 ∧ 32 ∉ (numS i).cps.toList := by
  refine ⟨?_, ?_, ?_⟩
  · by_cases e : i.natAbs = 0
    · rw [e]
      decide
    · exact (Nat.log2_lt e).mpr (Nat.lt_of_lt_of_le (show i.natAbs < 2 ^ 100 by omega) (Nat.pow_le_pow_right (by decide) (by decide)))
  · by_cases h : 0 ≤ i
    · exact Nat.le_trans (num_len h (by omega)) (by decide)
    · have e : i = -((i.natAbs : Nat) : Int) := by omega
      have hn : i.natAbs ≠ 0 := by omega
      rw [e, str_len, neg_text hn]
      have := TL.numL_len (n := i.natAbs) (k := 31) (by decide) (Nat.lt_of_le_of_lt (show i.natAbs ≤ 400 by omega) (by decide))
      show (TL.numL i.natAbs).length + 1 ≤ 32
      omega
  · by_cases h : 0 ≤ i
    · have e : i = ((i.natAbs : Nat) : Int) := by omega
      rw [e, pos_text]
      exact TL.numL_free (by omega)
    · have e : i = -((i.natAbs : Nat) : Int) := by omega
      have hn : i.natAbs ≠ 0 := by omega
      rw [e, neg_text hn]
      intro hm
      rcases List.mem_cons.mp hm with hm | hm
      · cases hm
      · exact TL.numL_free (by omega) hm
/-! ### the parts of a move's text -/
def ptS (a : Bool) (i : Int) : Str := ltrS (endS a) ++ numS i
def mparts : Mv → List Str
  | .swap a i b j => ["swap", ptS a i, ptS b j]
  | .carry a i b j => ["carry", ptS a i, ptS b j]
  | .cut k => ["cut", numS k]
  | .turn a k => ["turn", ltrS (endS a), numS k]
  | .over => ["over"]
  | .face a i => ["face", ptS a i]
def mtxt (m : Mv) : Str := Txt.join " " (mparts m)
theorem endS_or (a : Bool) : endS a = "top" ∨ endS a = "bottom" := by
  cases a
  · exact .inr rfl
  · exact .inl rfl
theorem pt_read {a : Bool} {i : Int} (h0 : 0 ≤ i) (h1 : i ≤ 399) : pplD (ptS a i) = epD a i := ppl_text (endS_or a) h0 (by omega)
theorem pt_len {a : Bool} {i : Int} (h0 : 0 ≤ i) (h1 : i ≤ 399) : (ptS a i).length ≤ 33 ∧ 32 ∉ (ptS a i).cps.toList := by
  obtain ⟨_, h2, h3⟩ := num_small (i := i) (by omega) (by omega)
  unfold ptS
  refine ⟨by rw [len_app, ltrS_len]; omega, ?_⟩
  rw [tl_app, ltr_list (endS_or a)]
  intro hm
  rcases List.mem_append.mp hm with hm | hm
  · cases a <;> exact absurd hm (by decide +kernel)
  · exact h3 hm
theorem parts_small {m : Mv} (h : m.ok) : ∀ p ∈ mparts m, p.length ≤ 33 ∧ 32 ∉ p.cps.toList := by
  have c : ∀ p ∈ [("swap" : Str), "carry", "cut", "turn", "over", "face"], p.length ≤ 33 ∧ 32 ∉ p.cps.toList := by decide +kernel
  have l : ∀ a, (ltrS (endS a)).length ≤ 33 ∧ 32 ∉ (ltrS (endS a)).cps.toList := by decide +kernel
  have n : ∀ {k : Int}, -400 ≤ k → k ≤ 400 → (numS k).length ≤ 33 ∧ 32 ∉ (numS k).cps.toList := fun h0 h1 => ⟨Nat.le_trans (num_small h0 h1).2.1 (by decide), (num_small h0 h1).2.2⟩
  intro p hp
  cases m with
  | swap a i b j =>
    obtain ⟨h1, h2, h3, h4⟩ := h
    simp only [mparts, List.mem_cons, List.not_mem_nil, or_false] at hp
    rcases hp with rfl | rfl | rfl
    · exact c _ (by decide)
    · exact pt_len h1 h2
    · exact pt_len h3 h4
  | carry a i b j =>
    obtain ⟨h1, h2, h3, h4⟩ := h
    simp only [mparts, List.mem_cons, List.not_mem_nil, or_false] at hp
    rcases hp with rfl | rfl | rfl
    · exact c _ (by decide)
    · exact pt_len h1 h2
    · exact pt_len h3 h4
  | cut k =>
    obtain ⟨h1, h2⟩ := h
    simp only [mparts, List.mem_cons, List.not_mem_nil, or_false] at hp
    rcases hp with rfl | rfl
    · exact c _ (by decide)
    · exact n h1 h2
  | turn a k =>
    obtain ⟨h1, h2⟩ := h
    simp only [mparts, List.mem_cons, List.not_mem_nil, or_false] at hp
    rcases hp with rfl | rfl | rfl
    · exact c _ (by decide)
    · exact l a
    · exact n (by omega) h2
  | over =>
    simp only [mparts, List.mem_cons, List.not_mem_nil, or_false] at hp
    rcases hp with rfl
    exact c _ (by decide)
  | face a i =>
    obtain ⟨h1, h2⟩ := h
    simp only [mparts, List.mem_cons, List.not_mem_nil, or_false] at hp
    rcases hp with rfl | rfl
    · exact c _ (by decide)
    · exact pt_len h1 h2
theorem parts_ne (m : Mv) : mparts m ≠ [] := by cases m <;> exact fun h => nomatch h
theorem mtxt_split {m : Mv} (h : m.ok) : Txt.split (mtxt m) " " = mparts m :=
  TL.split_join (s := 32) (S := []) (by decide +kernel) (by decide +kernel) (parts_ne m) fun p hp => (parts_small h p hp).2
theorem split_mtxt {z : Str} {m : Mv} (h : Txt.split z " " = mparts m) : z = mtxt m := by
  unfold mtxt
  rw [← h, TL.join_eq, StrLaws.join_split]
theorem mtxt_len {m : Mv} (h : m.ok) : (mtxt m).length ≤ 200 ∧ ((mparts m).map (·.length)).sum + (mparts m).length * (" " : Str).length ≤ 16777216 := by
  have hs := fun p hp => (parts_small h p hp).1
  have h1 : (" " : Str).length = 1 := by decide +kernel
  have e : mtxt m = Str.join " " (mparts m) := TL.join_eq _ _
  rw [e]
  cases m <;> simp only [mparts, List.mem_cons, List.not_mem_nil, or_false, forall_eq_or_imp, forall_eq] at hs <;> simp only [mparts, Str.join, len_app, h1, List.map, List.sum_cons, List.sum_nil, List.length_cons, List.length_nil] <;> omega
/-! ### what is read from a text -/
def itemR (part : Str) (w : Str) : Option D :=
  if part = "place" then (if isEP (pplD w) = true then some (pplD w) else none) else if part = "end" then some (endD w) else some (numR (rdL w.cps.toList))
def itemsR : List Str → List Str → Option (List D)
  | p :: ps, w :: ws => match itemR p w, itemsR ps ws with
    | some d, some l => some (d :: l)
    | _, _ => none
  | _, _ => some []
def pmR : List Str → Option D
  | [] => none
  | w0 :: r => match shapeOf w0 with
    | none => none
    | some parts => if r.length = parts.length then (match itemsR parts r with
      | none => none
      | some l => if isMoveD (.tup (.str w0 :: l)) = true then some (.tup (.str w0 :: l)) else none) else none
theorem pm_parts {m : Mv} (h : m.ok) : pmR (mparts m) = some (mvD m) := by
  have hm := isMoveD_mv h
  have ep : ∀ {a i}, 0 ≤ i → i ≤ 399 → itemR "place" (ptS a i) = some (epD a i) := fun {a i} h0 h1 => by
    unfold itemR
    rw [if_pos rfl, pt_read h0 h1, if_pos (isEP_epD h0)]
  have en : ∀ {p k}, p ≠ ("place" : Str) → p ≠ ("end" : Str) → -400 ≤ k → k ≤ 400 → itemR p (numS k) = some (.int k) := fun {p k} n1 n2 h0 h1 => by
    unfold itemR
    rw [if_neg n1, if_neg n2, rd_int h0 h1]
    rfl
  cases m with
  | swap a i b j =>
    obtain ⟨h1, h2, h3, h4⟩ := h
    have e : shapeOf "swap" = (some ["place", "place"] : Option (List Str)) := by decide +kernel
    simp only [mparts, pmR, e, itemsR, ep h1 h2, ep h3 h4, List.length_cons, List.length_nil, if_true, hm]
  | carry a i b j =>
    obtain ⟨h1, h2, h3, h4⟩ := h
    have e : shapeOf "carry" = (some ["place", "place"] : Option (List Str)) := by decide +kernel
    simp only [mparts, pmR, e, itemsR, ep h1 h2, ep h3 h4, List.length_cons, List.length_nil, if_true, hm]
  | cut k =>
    obtain ⟨h1, h2⟩ := h
    have e : shapeOf "cut" = (some ["signed"] : Option (List Str)) := by decide +kernel
    simp only [mparts, pmR, e, itemsR, en (p := "signed") (by decide) (by decide) h1 h2, List.length_cons, List.length_nil, if_true, hm]
  | turn a k =>
    obtain ⟨h1, h2⟩ := h
    have e : shapeOf "turn" = (some ["end", "block"] : Option (List Str)) := by decide +kernel
    have ee : itemR "end" (ltrS (endS a)) = some (.str (endS a)) := by
      unfold itemR
      rw [if_neg (by decide), if_pos rfl]
      cases a <;> rfl
    simp only [mparts, pmR, e, itemsR, ee, en (p := "block") (by decide) (by decide) (by omega) h2, List.length_cons, List.length_nil, if_true, hm]
  | over =>
    have e : shapeOf "over" = (some [] : Option (List Str)) := by decide +kernel
    simp only [mparts, pmR, e, itemsR, List.length_nil, if_true, hm]
  | face a i =>
    obtain ⟨h1, h2⟩ := h
    have e : shapeOf "face" = (some ["place"] : Option (List Str)) := by decide +kernel
    simp only [mparts, pmR, e, itemsR, ep h1 h2, List.length_cons, List.length_nil, if_true, hm]
/-! ### the way back -/
theorem endD_back {y : Str} (h : isEnd (endD y) = true) : ∃ a, endD y = .str (endS a) ∧ ltrS (endS a) = y := by
  unfold endD at *
  split
  · rename_i e
    exact ⟨true, rfl, by rw [e]; rfl⟩
  · rename_i e1
    rw [if_neg e1] at h
    split
    · rename_i e
      exact ⟨false, rfl, by rw [e]; rfl⟩
    · rename_i e2
      rw [if_neg e2] at h
      exact absurd h (by decide +kernel)
theorem num_back {w : Str} {lo hi : Int} (h : isBt lo hi (numR (rdL w.cps.toList)) = true) : ∃ i, numR (rdL w.cps.toList) = .int i ∧ lo ≤ i ∧ i ≤ hi ∧ numS i = w := by
  cases e : rdL w.cps.toList with
  | none => rw [e] at h; cases h
  | some i =>
    rw [e] at h
    obtain ⟨h1, h2⟩ := Bool.and_eq_true_iff.mp (show (decide (lo ≤ i) && decide (i ≤ hi)) = true from h)
    exact ⟨i, rfl, of_decide_eq_true h1, of_decide_eq_true h2, str_ext (rd_back e)⟩
theorem pt_back {w : Str} (h : isPl (pplD w) = true) : ∃ a i, pplD w = epD a i ∧ 0 ≤ i ∧ i ≤ 399 ∧ ptS a i = w := by
  obtain ⟨h1, h2⟩ := Bool.and_eq_true_iff.mp h
  unfold pplD at *
  obtain ⟨g1, g2⟩ := Bool.and_eq_true_iff.mp (show (isEnd (endD (cutS w none (some 1))) && isN0 (numR (rdL w.cps.toList.tail))) = true from h1)
  obtain ⟨a, ea, el⟩ := endD_back g1
  cases e : rdL w.cps.toList.tail with
  | none => rw [e] at g2; cases g2
  | some i =>
    rw [e] at g2 h2
    refine ⟨a, i, by rw [ea]; rfl, of_decide_eq_true g2, of_decide_eq_true h2, ?_⟩
    unfold ptS
    refine str_ext ?_
    rw [tl_app, rd_back e, el, cut_head]
    cases w.cps.toList <;> rfl
theorem fits_place {d : D} : fitsD "place" d = isPl d := by unfold fitsD; rw [if_pos rfl]
theorem fits_end {d : D} : fitsD "end" d = isEnd d := by unfold fitsD; rw [if_neg (by decide), if_pos rfl]
theorem fits_signed {d : D} : fitsD "signed" d = isBt (-400) 400 d := by unfold fitsD; rw [if_neg (by decide), if_neg (by decide), if_pos rfl]
theorem fits_block {d : D} : fitsD "block" d = isBt 0 400 d := by unfold fitsD; rw [if_neg (by decide), if_neg (by decide), if_neg (by decide)]
theorem shape_of {z : Str} {parts : List Str} (h : shapeOf z = some parts) : (z = "swap" ∧ parts = (["place", "place"] : List Str)) ∨ (z = "carry" ∧ parts = (["place", "place"] : List Str)) ∨ (z = "cut" ∧ parts = (["signed"] : List Str)) ∨ (z = "turn" ∧ parts = (["end", "block"] : List Str)) ∨ (z = "over" ∧ parts = []) ∨ (z = "face" ∧ parts = (["place"] : List Str)) := by
  unfold shapeOf shapeL at h
  simp only [lkS] at h
  repeat' split at h
  all_goals first
    | (cases h; rename_i e; first
        | exact .inl ⟨e, rfl⟩
        | exact .inr (.inl ⟨e, rfl⟩)
        | exact .inr (.inr (.inl ⟨e, rfl⟩))
        | exact .inr (.inr (.inr (.inl ⟨e, rfl⟩)))
        | exact .inr (.inr (.inr (.inr (.inl ⟨e, rfl⟩))))
        | exact .inr (.inr (.inr (.inr (.inr ⟨e, rfl⟩)))))
    | cases h
theorem item_place {w : Str} {d : D} (h : itemR "place" w = some d) : d = pplD w := by
  unfold itemR at h
  rw [if_pos rfl] at h
  split at h
  · exact (Option.some.inj h).symm
  · cases h
theorem item_end {w : Str} {d : D} (h : itemR "end" w = some d) : d = endD w := by
  unfold itemR at h
  rw [if_neg (by decide), if_pos rfl] at h
  exact (Option.some.inj h).symm
theorem item_num {p w : Str} {d : D} (h1 : p ≠ "place") (h2 : p ≠ "end") (h : itemR p w = some d) : d = numR (rdL w.cps.toList) := by
  unfold itemR at h
  rw [if_neg h1, if_neg h2] at h
  exact (Option.some.inj h).symm
theorem items1 {p w : Str} {l : List D} (h : itemsR [p] [w] = some l) : ∃ d, itemR p w = some d ∧ l = [d] := by
  simp only [itemsR] at h
  split at h
  · rename_i d l' e1 e2
    cases e2
    exact ⟨d, e1, (Option.some.inj h).symm⟩
  · cases h
theorem items2 {p q w y : Str} {l : List D} (h : itemsR [p, q] [w, y] = some l) : ∃ d e, itemR p w = some d ∧ itemR q y = some e ∧ l = [d, e] := by
  rw [itemsR] at h
  split at h
  · rename_i d l' e1 e2
    obtain ⟨e, g1, rfl⟩ := items1 e2
    exact ⟨d, e, e1, g1, (Option.some.inj h).symm⟩
  · cases h
theorem fits1 {p : Str} {d : D} (h : fitsAll [p] [d] = true) : fitsD p d = true := by
  unfold fitsAll at h
  simpa using h
theorem fits2 {p q : Str} {d e : D} (h : fitsAll [p, q] [d, e] = true) : fitsD p d = true ∧ fitsD q e = true := by
  unfold fitsAll at h
  simpa using h
theorem len_1 {α : Type} {r : List α} (h : r.length = 1) : ∃ a, r = [a] := by
  match r, h with
  | [a], _ => exact ⟨a, rfl⟩
theorem len_2 {α : Type} {r : List α} (h : r.length = 2) : ∃ a b, r = [a, b] := by
  match r, h with
  | [a, b], _ => exact ⟨a, b, rfl⟩
/-- what is read is a move, and of its text the parts are these -/
theorem pm_back {W : List Str} {d : D} (h : pmR W = some d) : ∃ m : Mv, m.ok ∧ d = mvD m ∧ mparts m = W := by
  unfold pmR at h
  split at h
  · cases h
  rename_i w0 r
  split at h
  · cases h
  rename_i parts e
  split at h
  case isFalse => cases h
  rename_i hl
  split at h
  · cases h
  rename_i l el
  split at h
  case isFalse => cases h
  rename_i hm
  cases h
  simp only [isMoveD, e] at hm
  have hf := (Bool.and_eq_true_iff.mp hm).2
  have pl2 : ∀ {w y : Str}, itemsR ["place", "place"] [w, y] = some l → fitsAll ["place", "place"] l = true → ∃ a i b j, l = [epD a i, epD b j] ∧ (0 ≤ i ∧ i ≤ 399 ∧ 0 ≤ j ∧ j ≤ 399) ∧ [ptS a i, ptS b j] = [w, y] := fun {w y} h1 h2 => by
    obtain ⟨d, e, g1, g2, rfl⟩ := items2 h1
    obtain ⟨f1, f2⟩ := fits2 h2
    rw [item_place g1, fits_place] at f1
    rw [item_place g2, fits_place] at f2
    obtain ⟨a, i, e1, i0, i1, ew⟩ := pt_back f1
    obtain ⟨b, j, e2, j0, j1, ey⟩ := pt_back f2
    exact ⟨a, i, b, j, by rw [item_place g1, item_place g2, e1, e2], ⟨i0, i1, j0, j1⟩, by rw [ew, ey]⟩
  rcases shape_of e with ⟨rfl, rfl⟩ | ⟨rfl, rfl⟩ | ⟨rfl, rfl⟩ | ⟨rfl, rfl⟩ | ⟨rfl, rfl⟩ | ⟨rfl, rfl⟩
  · obtain ⟨w, y, rfl⟩ := len_2 hl
    obtain ⟨a, i, b, j, rfl, ok, ew⟩ := pl2 el hf
    exact ⟨.swap a i b j, ok, rfl, congrArg (List.cons _) ew⟩
  · obtain ⟨w, y, rfl⟩ := len_2 hl
    obtain ⟨a, i, b, j, rfl, ok, ew⟩ := pl2 el hf
    exact ⟨.carry a i b j, ok, rfl, congrArg (List.cons _) ew⟩
  · obtain ⟨w, rfl⟩ := len_1 hl
    obtain ⟨d, g1, rfl⟩ := items1 el
    have f1 := fits1 hf
    rw [item_num (by decide) (by decide) g1, fits_signed] at f1
    obtain ⟨i, ei, i0, i1, ew⟩ := num_back f1
    exact ⟨.cut i, ⟨i0, i1⟩, by rw [item_num (by decide) (by decide) g1, ei], by rw [mparts, ew]⟩
  · obtain ⟨w, y, rfl⟩ := len_2 hl
    obtain ⟨d, e, g1, g2, rfl⟩ := items2 el
    obtain ⟨f1, f2⟩ := fits2 hf
    rw [item_end g1, fits_end] at f1
    rw [item_num (by decide) (by decide) g2, fits_block] at f2
    obtain ⟨a, ea, ew⟩ := endD_back f1
    obtain ⟨i, ei, i0, i1, ey⟩ := num_back f2
    exact ⟨.turn a i, ⟨i0, i1⟩, by rw [item_end g1, ea, item_num (by decide) (by decide) g2, ei], by rw [mparts, ew, ey]⟩
  · obtain rfl : r = [] := List.length_eq_zero_iff.mp hl
    have : l = [] := by
      simp only [itemsR] at el
      exact (Option.some.inj el).symm
    subst this
    exact ⟨.over, True.intro, rfl, rfl⟩
  · obtain ⟨w, rfl⟩ := len_1 hl
    obtain ⟨d, g1, rfl⟩ := items1 el
    have f1 := fits1 hf
    rw [item_place g1, fits_place] at f1
    obtain ⟨a, i, e1, i0, i1, ew⟩ := pt_back f1
    exact ⟨.face a i, ⟨i0, i1⟩, by rw [item_place g1, e1], by rw [mparts, ew]⟩
end Z
namespace Z
open PySem PySem.Spec PyProof.Rows L2
-- what stands at an address
local macro_rules | `(tactic| walk_at "hp") => `(tactic| first | assumption | exact upd_same | exact BagAt.at_ (by assumption) | exact BagAt.cells (by assumption) | fail "hp")
local macro_rules | `(tactic| walk_at "sq") => `(tactic| first | assumption | (refine Or.inl (Or.inl ?_); walk_at "hp") | (apply Same.seq <;> assumption))
-- bounds
local macro_rules | `(tactic| walk_at "num") => `(tactic| first
  | exact rfl | decide | exact le_line (Nat.le_of_ble_eq_true rfl) | exact lt_line (Nat.le_of_ble_eq_true rfl)
  | (exact mul_ok (small_abs (by omega)) (small_abs (by omega)))
  | (exact div_small (by omega) (by omega))
  | (exact div_ok (by omega) (by assumption))
  | (refine ⟨?_, ?_⟩ <;> omega) | omega
  | (show (_ : Int) ≠ 0; omega) | (show CPow _ _; unfold CPow; decide))
-- one step
local macro_rules | `(tactic| walk_at "rd") => `(tactic| first
  | (refine Exists.intro _ (And.intro rfl ?_))
  | (refine Exists.intro _ (Exists.intro _ (And.intro rfl (And.intro rfl ?_))))
  | (refine Or.inl (Exists.intro _ (And.intro rfl ?_)))
  | (refine Or.inr (Exists.intro _ (And.intro rfl ?_)))
  | (with_reducible refine iteF ?_) | (with_reducible refine iteT ?_)
  | (refine And.intro ?cc ?_; (case cc => walk_at "num"))
  | (refine' Exists.intro _ (Exists.intro _ (Exists.intro _ (Exists.intro _ (And.intro rfl (And.intro rfl (And.intro ?sq (And.intro ?ha ?k))))))); (case sq => walk_at "sq"); (case ha => first | exact rfl | assumption | exact at_zero))
  | (refine' Exists.intro _ (Exists.intro _ (And.intro rfl (And.intro (Or.inl ?sq) ?k))); (case sq => walk_at "sq")))
local macro_rules | `(tactic| walk_at "sqt") => `(tactic| first | assumption | (refine Or.inl (Or.inl ?_); walk_at "hp") | (apply Same.tup <;> assumption))
local macro_rules | `(tactic| walk_at "rdt") => `(tactic| first
  | walk_at "rd"
  | (refine' Exists.intro _ (Exists.intro _ (And.intro rfl (And.intro (Or.inr ?sq) ?k))); (case sq => walk_at "sqt"))
  | (refine' Exists.intro _ (Exists.intro _ (Exists.intro _ (Exists.intro _ (And.intro rfl (And.intro rfl (And.intro ?sq (And.intro ?ha ?k))))))); (case sq => walk_at "sqt"); (case ha => first | exact rfl | assumption | exact at_zero))
  | (refine iteF ?_) | (refine iteT ?_))
local macro_rules | `(tactic| walk_at "rds") => `(tactic| repeat walk_at "rdt")
local macro_rules | `(tactic| walk_at "pull") => `(tactic| (refine' Exists.intro _ (Exists.intro _ (Exists.intro _ (And.intro rfl (And.intro ?bag (And.intro ?pos (And.intro ?fit ?kk)))))); (case bag => assumption); (case pos => first | decide | omega); (case fit => exact Fit.of (by first | decide | omega) (by first | decide | omega))))
local macro_rules | `(tactic| walk_at "two") => `(tactic| refine Exists.intro _ (Exists.intro _ (And.intro rfl ?_)))
local macro_rules | `(tactic| walk_at "isi") => `(tactic| (refine' Exists.intro _ (Exists.intro _ (Exists.intro _ (Exists.intro _ (Exists.intro _ (And.intro rfl (And.intro (ClsV.ty _) (And.intro ?tt (And.intro (kit_ty ?ee) ?kk)))))))); (case tt => assumption); (case ee => first | exact kb_int_list | exact kb_int_tuple | exact kb_int_dict | exact kb_int_bool | exact kb_int_int | exact kb_int_str | exact kb_str_list | exact kb_str_tuple | exact kb_str_dict | exact kb_str_bool | exact kb_str_int | exact kb_str_str | exact kb_bool_list | exact kb_bool_tuple | exact kb_bool_dict | exact kb_bool_bool | exact kb_bool_int | exact kb_bool_str | exact kb_NoneType_list | exact kb_NoneType_tuple | exact kb_NoneType_dict | exact kb_NoneType_bool | exact kb_NoneType_int | exact kb_NoneType_str | exact kb_list_list | exact kb_list_tuple | exact kb_list_dict | exact kb_list_bool | exact kb_list_int | exact kb_list_str | exact kb_tuple_list | exact kb_tuple_tuple | exact kb_tuple_dict | exact kb_tuple_bool | exact kb_tuple_int | exact kb_tuple_str)))
-- one step
local macro_rules | `(tactic| walk_at "same") => `(tactic| repeat first | walk_at "rdt" | walk_at "isi")
/-! ### steps by data -/
local macro_rules | `(tactic| walk_at "side") => `(tactic| first
  | exact rfl | with_reducible assumption | exact Nat.le_of_ble_eq_true rfl | decide | exact True.intro | exact le_line (Nat.le_of_ble_eq_true rfl) | exact lt_line (Nat.le_of_ble_eq_true rfl) | omega | (show (_ : Int) ≠ 0; omega) | exact cut1_ok | (unfold CPow; decide) | exact mul_ok (small_abs (by omega)) (small_abs (by omega)) | exact div_small (by omega) (by omega) | assumption)
local macro_rules | `(tactic| walk_at "dR") => `(tactic| first
  | with_reducible refine run_ownNil ?_ | with_reducible refine run_ownL ?_ | ((with_reducible refine' run_extend ?ev ?kk); (case ev => exact rfl))
  | ((with_reducible refine' run_fld ?c ?n ?e ?kk); (case c => assumption); (case n => assumption); (case e => exact rfl))
  | ((with_reducible refine' run_retO ?ev ?kk); (case ev => exact rfl)) | ((with_reducible refine' run_setix ?ev ?kk); (case ev => exact rfl)) | ((with_reducible refine' run_popAt ?ev ?kk); (case ev => exact rfl)) | ((with_reducible refine' run_insert ?ev ?kk); (case ev => exact rfl)) | with_reducible refine run_parL ?_ | with_reducible refine run_ownRep ?_
  | with_reducible refine run_seq ?_ | with_reducible refine run_if ?_ | with_reducible refine run_set ?_ | with_reducible refine run_ret ?_ | with_reducible refine run_next ?_
  | with_reducible refine run_asg ?_ | with_reducible refine run_for ?_ | ((with_reducible refine' run_append ?ev ?kk); (case ev => exact rfl)) | ((with_reducible refine' run_aug ?ev ?kk); (case ev => exact rfl))
  | with_reducible refine run_par ?_ | with_reducible refine run_drop ?_ | with_reducible refine run_retN ?_ | with_reducible refine run_break ?_ | with_reducible refine run_cont ?_)
local macro_rules | `(tactic| walk_at "dE") => `(tactic| first
  | ((with_reducible refine' ev_var ?ev ?kk); (case ev => exact rfl))
  | with_reducible refine ev_lenOwn ?_
  | ((with_reducible refine' ev_fldO ?ev ?dd ?kk); (case ev => exact rfl); (case dd => exact rfl)) | with_reducible refine ev_fld ?_ | with_reducible refine ev_methX (by assumption) ?_ | with_reducible refine ev_meth ?_ | with_reducible refine ev_prop ?_ | with_reducible refine ev_makeX (by assumption) ?_ | with_reducible refine ev_make ?_ | with_reducible refine ev_ownX (by assumption) ?_ | with_reducible refine ev_own ?_ | ((with_reducible refine' ev_isiOwn ?o ?kk); (case o => assumption))
  | ((with_reducible refine' ev_ixO ?ev ?kk); (case ev => exact rfl)) | with_reducible refine ev_rev ?_ | with_reducible refine ev_op ?_ | with_reducible refine ev_int ?_ | with_reducible refine ev_str ?_ | with_reducible refine ev_callKX (by assumption) ?_ | with_reducible refine ev_callK ?_ | with_reducible refine ev_callC (by assumption) ?_ | with_reducible refine ev_callX (by assumption) ?_ | with_reducible refine ev_call ?_ | with_reducible refine ev_cb ?_ | with_reducible refine ev_tup ?_
  | with_reducible refine ev_if ?_ | with_reducible refine ev_and ?_ | with_reducible refine ev_or ?_ | with_reducible refine ev_not ?_ | with_reducible refine ev_bl ?_ | with_reducible refine ev_non ?_ | with_reducible refine ev_isi ?_
  | with_reducible refine ev_un ?_ | with_reducible refine ev_chain ?_ | with_reducible refine ev_lst ?_ | with_reducible refine ev_cbf ?_ | with_reducible refine ev_sl ?_ | with_reducible refine ev_m1 ?_ | with_reducible refine ev_kget ?_ | with_reducible refine ev_fmt ?_ | with_reducible refine ev_join ?_ | with_reducible refine ev_ty ?_ | with_reducible refine ev_cV ?_)
local macro_rules | `(tactic| walk_at "dT") => `(tactic| first
  | with_reducible refine evt_t ?_ | with_reducible refine evt_b ?_ | with_reducible refine evt_and ?_ | with_reducible refine evt_or ?_ | with_reducible refine evt_not ?_ | with_reducible refine evt_yes ?_)
local macro_rules | `(tactic| walk_at "dX") => `(tactic| first
  | ((with_reducible refine' evx_name ?ev ?kk); (case ev => first | exact rfl | assumption)) | with_reducible refine evx_tup ?_ | with_reducible refine evx_lst ?_ | with_reducible refine evxs_cons ?_ | with_reducible refine evxs_nil ?_
  | ((with_reducible refine' evg_name ?ev ?mm ?kk); (case ev => first | exact rfl | assumption); (case mm => decide)) | with_reducible refine evg_tup ?_ | with_reducible refine evg_lst ?_ | with_reducible refine evgs_cons ?_ | with_reducible refine evgs_nil ?_
  | with_reducible refine evi_list ?_ | with_reducible refine evi_tup ?_ | with_reducible refine evi_rng1 ?_ | with_reducible refine evi_rng2 ?_ | with_reducible refine evi_enum ?_ | with_reducible refine evi_zip ?_
  | with_reducible refine eva_items ?_ | with_reducible refine evi_revA ?_ | with_reducible refine evi_enumT ?_ | with_reducible refine evf_cb ?_ | with_reducible refine evo_none ?_ | with_reducible refine evo_some ?_ | with_reducible refine evj_cons ?_ | with_reducible refine evj_nil ?_)
local macro_rules | `(tactic| walk_at "d1") => `(tactic| first
  | ((with_reducible change Ev _ _ _ _ _); walk_at "dE")
  | ((with_reducible change Run _ _ _ _ _); walk_at "dR")
  | with_reducible refine eva_cons ?_ | with_reducible refine eva_nil ?_
  | ((with_reducible change EvT _ _ _ _ _); walk_at "dT")
  | with_reducible refine eva_star ?_
  | with_reducible refine iteT ?_ | with_reducible refine iteF ?_
  | ((with_reducible change if (_ : Bool) = true then _ else _); first | refine iteT ?_ | refine iteF ?_)
  | ((with_reducible refine And.intro ?cc ?_); (case cc => walk_at "side"))
  | ((with_reducible refine' Exists.intro _ (And.intro ?cc ?kk)); (case cc => first | exact rfl | exact at_zero))
  | ((with_reducible refine' Exists.intro _ (Exists.intro _ (And.intro ?cc ?kk))); (case cc => exact rfl))
  | ((with_reducible refine' Exists.intro _ (Exists.intro _ (Exists.intro _ (And.intro ?cc (And.intro ?cd ?kk))))); (case cc => exact rfl); (case cd => exact rfl))
  | ((with_reducible refine' Exists.intro _ (Exists.intro _ (Exists.intro _ (And.intro ?cc ?kk)))); (case cc => exact rfl))
  | ((with_reducible refine' Exists.intro _ (Exists.intro _ (Exists.intro _ (Exists.intro _ (And.intro ?cc ?kk))))); (case cc => exact rfl))
  | walk_at "dX")
local macro_rules | `(tactic| walk_at "d2") => `(tactic| walk_at "d1")
local macro_rules | `(tactic| walk_at "dgo") => `(tactic| repeat walk_at "d1")
local macro_rules | `(tactic| walk_at "wk") => `(tactic| repeat first | exact True.intro | refine And.intro (Or.inl rfl) ?_ | refine And.intro (Or.inr (And.intro rfl rfl)) ?_)
local macro_rules | `(tactic| walk_at "dgo") => `(tactic| repeat first | walk_at "d1" | with_reducible refine evi_zipM ?_)
/-! ### the law's text of an end place -/
section
variable {P : Program} {w : World} {K : PySem.W.Frag} {mg : Str → Option Value} {base : Heap}
abbrev S_letext : Sd := fun _ ds Pq => ∃ (z : Str) (i : Int), ds = [.tup [.str z, .int i]] ∧ (z = "top" ∨ z = "bottom") ∧ i.natAbs.log2 < 1920 ∧ (numS i).length ≤ 1000 ∧ Pq (.ok (.str (ltrS z ++ numS i)))
theorem ok__law_end_text (T : Txt K mg w) : FnOk P w K mg base CX0 1 T.a__law_end_text T.d__law_end_text P__law_end_text (spD K S_letext) := by
  refine okD T.F__law_end_text sc__law_end_text (fun bs ds Pq h => ?_) (fun cdv A outer s H E hr => ⟨_, (pss_one (ps_ret (pe_op k_addS (pe_dget (hu_of hr) (pe_disp (pps_cons pe_str pe_str (pps_cons pe_str pe_str pps_nil)) (by rfl) (by rfl) (fun z => by cases z) (by decide)) (pe_ix (k_ixT (K := K)) (pv 0) pe_int (fun _ _ => rfl)) (fun _ _ => rfl)) (pe_callTy k_strI (by rfl) T.m_str boot_str (pa_cons (pe_ix (k_ixT (K := K)) (pv 0) pe_int (fun _ _ => rfl)) pa_nil))))), ?_⟩)
  · obtain ⟨z, i, rfl, _⟩ := h
    rfl
  · rintro C ds Pq hE hX ⟨z, i, rfl, hz, hi, hl, q⟩
    have l4 : (ltrS z).length + (Str.ofString (toString i)).length ≤ sizeLine := by
      rw [ltrS_len]
      exact Nat.le_trans (Nat.add_le_add_left hl 1) (by decide)
    walk_at "dgo"
    refine ev_dsel (by decide) ?_
    walk_at "dgo"
    rcases hz with rfl | rfl
    · refine .inl ⟨rfl, ?_⟩
      walk_at "dgo"
      exact q
    · refine .inr ⟨rfl, ?_⟩
      walk_at "dgo"
      exact q
end
/-! ### texts of moves, the defs -/
/-- a part of a text is no longer than the text -/
theorem all2m {a b : D} {p : D → Prop} (h1 : p a) (h2 : p b) : ∀ d, d ∈ [a, b] → p d := fun d m => by
  rcases List.mem_cons.mp m with rfl | m
  · exact h1
  · rw [List.mem_singleton.mp m]; exact h2
theorem join_le (y : Str) : ∀ (l : List Str) (p : Str), p ∈ l → p.length ≤ (Str.join y l).length
  | [a], p, h => by
    rw [List.mem_singleton.mp h]
    exact Nat.le_refl _
  | a :: b :: r, p, h => by
    show p.length ≤ (a ++ y ++ Str.join y (b :: r)).length
    rw [len_app, len_app]
    rcases List.mem_cons.mp h with rfl | h
    · omega
    · have := join_le y (b :: r) p h
      omega
theorem split_le {z y p : Str} (h : p ∈ Txt.split z y) : p.length ≤ z.length := by
  have := join_le y _ p h
  rwa [StrLaws.join_split] at this
theorem item_fine {p w : Str} {d : D} (h : itemR p w = some d) : fineN 1 d := by
  unfold itemR at h
  split at h
  · split at h
    · cases h
      exact fineN_pair _ _ (fineN_endD _) (fineN_numD _)
    · cases h
  · split at h
    · cases h
      exact (fineN_endD _).mono (by decide)
    · cases h
      exact (fineN_numD _).mono (by decide)
theorem fine_mvl {z : Str} {parts : List Str} {l : List D} (h : shapeOf z = some parts) (hl : ∀ d ∈ l, fineN 1 d) : fine (.tup (.str z :: l)) := by
  have hz : PyData.strOk z = true := by
    rcases shape_of h with ⟨rfl, _⟩ | ⟨rfl, _⟩ | ⟨rfl, _⟩ | ⟨rfl, _⟩ | ⟨rfl, _⟩ | ⟨rfl, _⟩ <;> decide +kernel
  refine (fineN_tup (n := 1) fun d hd => ?_).fine
  rcases List.mem_cons.mp hd with rfl | hd
  · exact fineN_str 1 hz
  · exact hl d hd
section
variable {P : Program} {w : World} {K : PySem.W.Frag} {mg : Str → Option Value} {base : Heap}
def itxtD : D → Str
  | .tup [.str z, .int j] => ltrS z ++ numS j
  | .str z => ltrS z
  | .int i => numS i
  | _ => Str.empty
/-- the items of a move, and of what parts they are -/
abbrev S_itext (T : Txt K mg w) : Sd := fun _ ds Pq => ∃ part item, ds = [.str part, item] ∧
  ((part = "place" ∧ ∃ a i, item = epD a i ∧ 0 ≤ i ∧ i ≤ 399) ∨ (part = "end" ∧ ∃ a, item = .str (endS a)) ∨ (part ≠ "place" ∧ part ≠ "end" ∧ ∃ k, item = .int k ∧ -400 ≤ k ∧ k ≤ 400)) ∧ Pq (.ok (.str (itxtD item)))
theorem ok_item_text (T : Txt K mg w) : FnOk P w K mg base (L2.CX P w) 7 T.a_item_text T.d_item_text P_item_text (spD K (S_itext T)) := by
  have G_place_text := ok_place_text (P := P) (w := w) (base := base) T
  have G_end_text := ok_end_text (P := P) (w := w) (base := base) T
  refine okDX T.F_item_text sc_item_text (fun bs ds Pq h => ?_) (fun cdv A outer s H E hr => ⟨_, (pss_cons (ps_if (pt_cmpR op_eq (pv 0) pe_str (nomark _))
  (pss_one (ps_ret (pe_call G_place_text (hr.mono (by decide)) (by rfl) T.g_place_text T.F_place_text.kp T.b_place_text .nil (passes_call (takes_of rfl rfl rfl rfl) fun _ _ _ _ h => h) (pa_cons (pv 1) pa_nil)))) pss_nil)
  (pss_cons (ps_if (pt_cmpR op_eq (pv 0) pe_str (nomark _))
  (pss_one (ps_ret (pe_call G_end_text (hr.mono (by decide)) (by rfl) T.g_end_text T.F_end_text.kp T.b_end_text .nil pass0 (pa_cons (pv 1) pa_nil)))) pss_nil)
  (pss_one (ps_ret (pe_callTy k_strI (by rfl) T.m_str boot_str (pa_cons (pv 1) pa_nil)))))), ?_⟩)
  · obtain ⟨d, i, rfl, _⟩ := h
    rfl
  · rintro C ds Pq hE hX ⟨part, item, rfl, h, q⟩
    have hE' := hE.symm
    walk_at "dgo"
    rw [decS]
    rcases h with ⟨rfl, a, i, rfl, h0, h1⟩ | ⟨rfl, a, rfl⟩ | ⟨n1, n2, k, rfl, h0, h1⟩
    · have hf := fine_epD a i
      have he := isEP_epD (a := a) h0
      obtain ⟨b1, b2, b3⟩ := num_small (i := i) (by omega) (by omega)
      walk_at "dgo"
      rw [if_neg (show ¬ isEP (.tup [.str (endS a), .int i]) = false by rw [he]; decide)]
      exact q
    · walk_at "dgo"
      exact q
    · rw [decide_eq_false n1]
      walk_at "dgo"
      rw [decS, decide_eq_false n2]
      obtain ⟨b1, b2, b3⟩ := num_small h0 h1
      walk_at "dgo"
      exact q
abbrev S_mtext (T : Txt K mg w) : Sd := fun _ ds Pq => ∃ m : Mv, ds = [mvD m] ∧ m.ok ∧ Pq (.ok (.str (mtxt m)))
theorem ok_move_text (T : Txt K mg w) : FnOk P w K mg base (L2.CX P w) 8 T.a_move_text T.d_move_text P_move_text (spD K (S_mtext T)) := by
  have G_check_move := ok_check_move (P := P) (w := w) (base := base) T
  have G_item_text := ok_item_text (P := P) (w := w) (base := base) T
  refine okDX T.F_move_text sc_move_text (fun bs ds Pq h => ?_) (fun cdv A outer s H E hr => ⟨_, (pss_cons (ps_expr (pe_call G_check_move (hr.mono (by decide)) (by rfl) T.g_check_move T.F_check_move.kp T.b_check_move .nil (passes_call (takes_of rfl rfl rfl rfl) fun _ _ _ _ h => h) (pa_cons (pv 0) pa_nil)))
  (pss_cons (ps_set (i := 1) sc_move_text.nd rfl (Or.inl rfl) (pe_lst (pa_cons (pe_ix (k_ixT (K := K)) (pv 0) pe_int (fun _ _ => rfl)) pa_nil)))
  (pss_cons (ps_for PassesOwn.leaving rfl (k_zip (K := K) (pa_cons (pe_ix (k_ixK (K := K) (w := w)) (pe_glob (v := .ref T.a_SHAPES) rfl T.c_SHAPES rfl) (pe_ix (k_ixT (K := K)) (pv 0) pe_int (fun _ _ => rfl)) (fun _ _ => rfl)) (pa_cons (pe_slice (k_slT (K := K)) (pv 0) (po_some pe_int) po_none) pa_nil)) T.m_zip) (k_gT (K := K) (n := 2) (pgs_cons (pg_name (i := 2) sc_move_text.nd rfl (Or.inl rfl)) (pgs_cons (pg_name (i := 3) sc_move_text.nd rfl (Or.inl rfl)) pgs_nil)))
  (pss_one (ps_expr (k_bm (K := K) PySem.F.plainAttrs_list PySem.F.slot_list_append PySem.F.type_list_append mt_append (pv 1) (pa_cons (pe_call G_item_text (hr.mono (by decide)) (by rfl) T.g_item_text T.F_item_text.kp T.b_item_text .nil (passes_call (takes_of rfl rfl rfl rfl) fun _ _ _ _ h => h) (pa_cons (pv 2) (pa_cons (pv 3) pa_nil))) pa_nil)))))
  (pss_one (ps_ret (pe_m1 PySem.F.slot_str_join PySem.F.type_str_join (k_join (K := K)) pe_str (pv 1))))))), ?_⟩)
  · obtain ⟨m, rfl, _⟩ := h
    rfl
  · rintro C ds Pq hE hX ⟨m, rfl, hk, q⟩
    have hE' := hE.symm
    have hm := isMoveD_mv hk
    have hf := fine_mv m
    walk_at "dgo"
    rw [if_pos hm]
    have hs := (mtxt_len hk).2
    cases m with
    | swap a i b j =>
      obtain ⟨h1, h2, h3, h4⟩ := hk
      have e : shapeOf "swap" = (some ["place", "place"] : Option (List Str)) := by decide +kernel
      obtain ⟨sa, s1, s2⟩ := shape_at T e
      refine run_seq (run_own (evf_lst ?_))
      walk_at "dgo"
      intro p
      walk_at "dgo"
      refine ⟨_, _, s1, s2, ?_⟩
      walk_at "dgo"
      rw [cutD_tail]
      refine forU ?_
      intro hv hd
      walk_at "dgo"
      refine And.intro (.inl ⟨rfl, _, _, rfl, h1, h2⟩) ?_
      walk_at "dgo"
      intro hv hd
      walk_at "dgo"
      refine And.intro (.inl ⟨rfl, _, _, rfl, h3, h4⟩) ?_
      walk_at "dgo"
      refine run_freeze 1 rfl ?_
      walk_at "dgo"
      refine And.intro hs ?_
      exact q
    | carry a i b j =>
      obtain ⟨h1, h2, h3, h4⟩ := hk
      have e : shapeOf "carry" = (some ["place", "place"] : Option (List Str)) := by decide +kernel
      obtain ⟨sa, s1, s2⟩ := shape_at T e
      refine run_seq (run_own (evf_lst ?_))
      walk_at "dgo"
      intro p
      walk_at "dgo"
      refine ⟨_, _, s1, s2, ?_⟩
      walk_at "dgo"
      rw [cutD_tail]
      refine forU ?_
      intro hv hd
      walk_at "dgo"
      refine And.intro (.inl ⟨rfl, _, _, rfl, h1, h2⟩) ?_
      walk_at "dgo"
      intro hv hd
      walk_at "dgo"
      refine And.intro (.inl ⟨rfl, _, _, rfl, h3, h4⟩) ?_
      walk_at "dgo"
      refine run_freeze 1 rfl ?_
      walk_at "dgo"
      refine And.intro hs ?_
      exact q
    | cut k =>
      obtain ⟨h1, h2⟩ := hk
      have e : shapeOf "cut" = (some ["signed"] : Option (List Str)) := by decide +kernel
      obtain ⟨sa, s1, s2⟩ := shape_at T e
      refine run_seq (run_own (evf_lst ?_))
      walk_at "dgo"
      intro p
      walk_at "dgo"
      refine ⟨_, _, s1, s2, ?_⟩
      walk_at "dgo"
      rw [cutD_tail]
      refine forU ?_
      intro hv hd
      walk_at "dgo"
      refine And.intro (.inr (.inr ⟨by decide, by decide, _, rfl, h1, h2⟩)) ?_
      walk_at "dgo"
      refine run_freeze 1 rfl ?_
      walk_at "dgo"
      refine And.intro hs ?_
      exact q
    | turn a k =>
      obtain ⟨h1, h2⟩ := hk
      have e : shapeOf "turn" = (some ["end", "block"] : Option (List Str)) := by decide +kernel
      obtain ⟨sa, s1, s2⟩ := shape_at T e
      refine run_seq (run_own (evf_lst ?_))
      walk_at "dgo"
      intro p
      walk_at "dgo"
      refine ⟨_, _, s1, s2, ?_⟩
      walk_at "dgo"
      rw [cutD_tail]
      refine forU ?_
      intro hv hd
      walk_at "dgo"
      refine And.intro (.inr (.inl ⟨rfl, _, rfl⟩)) ?_
      walk_at "dgo"
      intro hv hd
      walk_at "dgo"
      refine And.intro (.inr (.inr ⟨by decide, by decide, _, rfl, (by omega), h2⟩)) ?_
      walk_at "dgo"
      refine run_freeze 1 rfl ?_
      walk_at "dgo"
      refine And.intro hs ?_
      exact q
    | over =>
      have e : shapeOf "over" = (some [] : Option (List Str)) := by decide +kernel
      obtain ⟨sa, s1, s2⟩ := shape_at T e
      refine run_seq (run_own (evf_lst ?_))
      walk_at "dgo"
      intro p
      walk_at "dgo"
      refine ⟨_, _, s1, s2, ?_⟩
      walk_at "dgo"
      rw [cutD_tail]
      refine forU ?_
      refine run_freeze 1 rfl ?_
      walk_at "dgo"
      exact q
    | face a i =>
      obtain ⟨h1, h2⟩ := hk
      have e : shapeOf "face" = (some ["place"] : Option (List Str)) := by decide +kernel
      obtain ⟨sa, s1, s2⟩ := shape_at T e
      refine run_seq (run_own (evf_lst ?_))
      walk_at "dgo"
      intro p
      walk_at "dgo"
      refine ⟨_, _, s1, s2, ?_⟩
      walk_at "dgo"
      rw [cutD_tail]
      refine forU ?_
      intro hv hd
      walk_at "dgo"
      refine And.intro (.inl ⟨rfl, _, _, rfl, h1, h2⟩) ?_
      walk_at "dgo"
      refine run_freeze 1 rfl ?_
      walk_at "dgo"
      refine And.intro hs ?_
      exact q
/-- what read_item makes of a word -/
def rdit (bt : Rs) (part w : Str) : Rs := if part = "place" then (if isEP (pplD w) = true then .ok (pplD w) else bt) else if part = "end" then .ok (endD w) else .ok (numR (rdL w.cps.toList))
theorem rdit_item {bt : Rs} {part w : Str} : rdit bt part w = match itemR part w with
    | some d => .ok d
    | none => bt := by
  unfold rdit itemR
  split
  · split <;> rfl
  · split <;> rfl
abbrev S_rditem (T : Txt K mg w) : Sd := fun _ ds Pq => ∃ part w, ds = [.str part, .str w] ∧ w.length ≤ 1000 ∧ Pq (rdit (.er ⟨T.a_BadText, "at", "BadText", .int 0⟩) part w)
theorem ok_read_item (T : Txt K mg w) : FnOk P w K mg base (L2N.CX P w) 7 T.a_read_item T.d_read_item P_read_item (spD K (S_rditem T)) := by
  have G_parse_place := ok_parse_place (P := P) (w := w) (base := base) T
  have G_read_end := ok_read_end (P := P) (w := w) (base := base) T
  have G_read_number := ok_read_number (P := P) (w := w) (base := base) T
  refine okDN T.F_read_item sc_read_item (fun bs ds Pq h => ?_) (fun cdv A outer s H E hr => ⟨_, (pss_cons (ps_if (pt_cmpR op_eq (pv 0) pe_str (nomark _))
  (pss_one (ps_ret (pe_call G_parse_place (hr.mono (by decide)) (by rfl) T.g_parse_place T.F_parse_place.kp T.b_parse_place .nil (L2N.passes_call (L2N.takes_of rfl rfl rfl rfl) fun _ _ _ _ h => h) (pa_cons (pv 1) pa_nil)))) pss_nil)
  (pss_cons (ps_if (pt_cmpR op_eq (pv 0) pe_str (nomark _))
  (pss_one (ps_ret (pe_call G_read_end (hr.mono (by decide)) (by rfl) T.g_read_end T.F_read_end.kp T.b_read_end .nil pass0 (pa_cons (pv 1) pa_nil)))) pss_nil)
  (pss_one (ps_ret (pe_call G_read_number (hr.mono (by decide)) (by rfl) T.g_read_number T.F_read_number.kp T.b_read_number.choose_spec.2 T.b_read_number.choose_spec.1 pass0 (pa_cons (pv 1) pa_nil)))))), ?_⟩)
  · obtain ⟨d, i, rfl, _⟩ := h
    rfl
  · rintro C ds Pq hE hX ⟨part, z, rfl, hz, q⟩
    have hE' := hE.symm
    unfold rdit at q
    walk_at "dgo"
    rw [decS]
    by_cases h1 : part = "place"
    · rw [decide_eq_true h1]
      rw [if_pos h1] at q
      walk_at "dgo"
      cases he : isEP (pplD z) with
      | true =>
        rw [he, if_pos rfl] at q
        rw [if_pos rfl]
        exact q
      | false =>
        rw [he, if_neg (by decide)] at q
        rw [if_neg (by decide)]
        exact hX _ q
    · rw [decide_eq_false h1]
      rw [if_neg h1] at q
      walk_at "dgo"
      rw [decS]
      by_cases h2 : part = "end"
      · rw [decide_eq_true h2]
        rw [if_pos h2] at q
        walk_at "dgo"
        exact q
      · rw [decide_eq_false h2]
        rw [if_neg h2] at q
        walk_at "dgo"
        refine ev_callD ?_
        walk_at "dgo"
        exact q
theorem mtxt_cut (k : Int) : mtxt (.cut k) = "cut " ++ numS k := by
  unfold mtxt
  rw [TL.join_eq]
  show ("cut" : Str) ++ " " ++ numS k = _
  rw [show (("cut" : Str) ++ " ") = "cut " by decide +kernel]
theorem mtxt_turn (a : Bool) (k : Int) : mtxt (.turn a k) = "turn " ++ ltrS (endS a) ++ " " ++ numS k := by
  unfold mtxt
  rw [TL.join_eq]
  show ("turn" : Str) ++ " " ++ (ltrS (endS a) ++ " " ++ numS k) = _
  refine str_ext ?_
  rw [show (("turn" : Str) ++ " ") = "turn " by decide +kernel]
  simp only [tl_app, List.append_assoc]
abbrev S_lmtext : Sd := fun _ ds Pq => ∃ m : Mv, ds = [mvD m] ∧ m.ok ∧ Pq (.ok (.str (mtxt m)))
theorem ok__law_move_text (T : Txt K mg w) : FnOk P w K mg base CX0 2 T.a__law_move_text T.d__law_move_text P__law_move_text (spD K S_lmtext) := by
  have G__law_end_text := ok__law_end_text (P := P) (w := w) (base := base) T
  refine okD T.F__law_move_text sc__law_move_text (fun bs ds Pq h => ?_) (fun cdv A outer s H E hr => ⟨_, (pss_cons (ps_if (pt_cmpR op_eq (pe_ix (k_ixT (K := K)) (pv 0) pe_int (fun _ _ => rfl)) pe_str (nomark _))
  (pss_one (ps_ret (pe_op k_addS pe_str (pe_callTy k_strI (by rfl) T.m_str boot_str (pa_cons (pe_ix (k_ixT (K := K)) (pv 0) pe_int (fun _ _ => rfl)) pa_nil))))) pss_nil)
  (pss_cons (ps_if (pt_cmpR op_eq (pe_ix (k_ixT (K := K)) (pv 0) pe_int (fun _ _ => rfl)) pe_str (nomark _))
  (pss_one (ps_ret (pe_op k_addS (pe_op k_addS (pe_op k_addS pe_str (pe_ix ix_str (pe_ix (k_ixT (K := K)) (pv 0) pe_int (fun _ _ => rfl)) pe_int (fun _ _ => rfl))) pe_str) (pe_callTy k_strI (by rfl) T.m_str boot_str (pa_cons (pe_ix (k_ixT (K := K)) (pv 0) pe_int (fun _ _ => rfl)) pa_nil))))) pss_nil)
  (pss_one (ps_ret (pe_m1 PySem.F.slot_str_join PySem.F.type_str_join (k_join (K := K)) pe_str (pe_op op_cat (pe_lst (pa_cons (pe_ix (k_ixT (K := K)) (pv 0) pe_int (fun _ _ => rfl)) pa_nil)) (pe_lc (own := [("_law_spot", 1)]) rfl sc__law_move_text.nd (k_piT (K := K) (pe_slice (k_slT (K := K)) (pv 0) (po_some pe_int) po_none)) (blkOk_by (N := N__law_move_text) (sc := defScope s__law_move_text) (by decide +kernel)) (fun _ _ _ _ _ => (pg_name (i := 1) sc__law_move_text.nd rfl (Or.inl rfl))) (fun _ _ _ _ _ => pts_nil) (fun _ _ _ _ _ => (pe_call G__law_end_text (hr.mono (by decide)) (by rfl) T.g__law_end_text T.F__law_end_text.kp T.b__law_end_text .nil pass0 (pa_cons (pv 1) pa_nil)))))))))), ?_⟩)
  · obtain ⟨m, rfl, _⟩ := h
    rfl
  · rintro C ds Pq hE hX ⟨m, rfl, hk, q⟩
    have hs := (mtxt_len hk).2
    cases m with
    | swap a i b j =>
      obtain ⟨h1, h2, h3, h4⟩ := hk
      obtain ⟨b1, b2, b3⟩ := num_small (i := i) (by omega) (by omega)
      have b4 : (numS i).length ≤ 1000 := Nat.le_trans b2 (by decide)
      obtain ⟨c1, c2, c3⟩ := num_small (i := j) (by omega) (by omega)
      have c4 : (numS j).length ≤ 1000 := Nat.le_trans c2 (by decide)
      walk_at "dgo"
      refine ev_lcm (fun d => .str (itxtD d)) (by rfl) ?_
      walk_at "dgo"
      rw [cutD_tail]
      walk_at "dgo"
      refine ⟨fun C' e1 e2 e3 n d hn => ?_, ?_⟩
      · rcases n with _ | _ | n
        · cases hn
          walk_at "dgo"
          refine And.intro (endS_or a) ?_
          walk_at "dgo"
          exact rfl
        · cases hn
          walk_at "dgo"
          refine And.intro (endS_or b) ?_
          walk_at "dgo"
          exact rfl
        · exact nomatch (show none = some d from hn)
      · exact And.intro (Nat.le_of_ble_eq_true rfl) (And.intro hs q)
    | carry a i b j =>
      obtain ⟨h1, h2, h3, h4⟩ := hk
      obtain ⟨b1, b2, b3⟩ := num_small (i := i) (by omega) (by omega)
      have b4 : (numS i).length ≤ 1000 := Nat.le_trans b2 (by decide)
      obtain ⟨c1, c2, c3⟩ := num_small (i := j) (by omega) (by omega)
      have c4 : (numS j).length ≤ 1000 := Nat.le_trans c2 (by decide)
      walk_at "dgo"
      refine ev_lcm (fun d => .str (itxtD d)) (by rfl) ?_
      walk_at "dgo"
      rw [cutD_tail]
      walk_at "dgo"
      refine ⟨fun C' e1 e2 e3 n d hn => ?_, ?_⟩
      · rcases n with _ | _ | n
        · cases hn
          walk_at "dgo"
          refine And.intro (endS_or a) ?_
          walk_at "dgo"
          exact rfl
        · cases hn
          walk_at "dgo"
          refine And.intro (endS_or b) ?_
          walk_at "dgo"
          exact rfl
        · exact nomatch (show none = some d from hn)
      · exact And.intro (Nat.le_of_ble_eq_true rfl) (And.intro hs q)
    | cut k =>
      obtain ⟨h1, h2⟩ := hk
      obtain ⟨b1, b2, b3⟩ := num_small h1 h2
      rw [mtxt_cut] at q
      have l1 : ("cut " : Str).length + (Str.ofString (toString k)).length ≤ sizeLine := Nat.le_trans (Nat.add_le_add_left b2 _) (by decide +kernel)
      walk_at "dgo"
      exact q
    | turn a k =>
      obtain ⟨h1, h2⟩ := hk
      obtain ⟨b1, b2, b3⟩ := num_small (i := k) (by omega) h2
      rw [mtxt_turn] at q
      cases a
      all_goals
        walk_at "dgo"
        refine And.intro (Nat.le_trans (Nat.add_le_add_left b2 _) (by decide +kernel)) ?_
        exact q
    | over =>
      walk_at "dgo"
      refine ev_lcm (fun d => .str (itxtD d)) (by rfl) ?_
      walk_at "dgo"
      rw [cutD_tail]
      walk_at "dgo"
      refine ⟨fun C' e1 e2 e3 n d hn => (by exact nomatch (show none = some d from hn)), ?_⟩
      exact And.intro (Nat.le_of_ble_eq_true rfl) (And.intro hs q)
    | face a i =>
      obtain ⟨h1, h2⟩ := hk
      obtain ⟨b1, b2, b3⟩ := num_small (i := i) (by omega) (by omega)
      have b4 : (numS i).length ≤ 1000 := Nat.le_trans b2 (by decide)
      walk_at "dgo"
      refine ev_lcm (fun d => .str (itxtD d)) (by rfl) ?_
      walk_at "dgo"
      rw [cutD_tail]
      walk_at "dgo"
      refine ⟨fun C' e1 e2 e3 n d hn => ?_, ?_⟩
      · rcases n with _ | n
        · cases hn
          walk_at "dgo"
          refine And.intro (endS_or a) ?_
          walk_at "dgo"
          exact rfl
        · exact nomatch (show none = some d from hn)
      · exact And.intro (Nat.le_of_ble_eq_true rfl) (And.intro hs q)
abbrev S_pmove (T : Txt K mg w) : Sd := fun _ ds Pq => ∃ z : Str, ds = [.str z] ∧ z.length ≤ 1000 ∧ Pq (match pmR (Txt.split z " ") with
  | some d => .ok d
  | none => .er ⟨T.a_BadText, "at", "BadText", .int 0⟩)
theorem ok_parse_move (T : Txt K mg w) : FnOk P w K mg base (L2N.CX P w) 8 T.a_parse_move T.d_parse_move P_parse_move (spD K (S_pmove T)) := by
  have G_BadText := ok_BadText (P := P) (w := w) (base := base) T
  have G_is_move := ok_is_move (P := P) (w := w) (base := base) T
  have G_read_item := ok_read_item (P := P) (w := w) (base := base) T
  refine okDN T.F_parse_move sc_parse_move (fun bs ds Pq h => ?_) (fun cdv A outer s H E hr => ⟨_, (pss_cons (ps_set (i := 1) sc_parse_move.nd rfl (Or.inl rfl) (pe_m1 PySem.F.slot_str_split PySem.F.type_str_split k_split (pv 0) pe_str))
  (pss_cons (ps_set (i := 2) sc_parse_move.nd rfl (Or.inl rfl) (pe_kget (K := K) (w := w) (pe_glob (v := .ref T.a_SHAPES) rfl T.c_SHAPES rfl) T.d_SHAPES (pe_ix (k_ixL (K := K)) (pv 1) pe_int (fun _ _ => rfl)) ⟨rfl, rfl, rfl, rfl⟩))
  (pss_cons (ps_if (PW.pt (pw_or (pt_cmpR k_isN (pv 2) pe_non (nomark _)) (pw_or1 (pt_cmpR op_ne (pe_callB (k_len (K := K)) (by rfl) T.m_len boot_len (pa_cons (pv 1) pa_nil)) (pe_op op_add (pe_callB (k_len (K := K)) (by rfl) T.m_len boot_len (pa_cons (pv 2) pa_nil)) pe_int) (nomark _)))))
  (pss_one (L2N.ps_raise rfl (L2N.takes_of rfl rfl rfl rfl) (pmk_new T.x_BadText.o T.i_BadText T.ti_BadText G_BadText (hr.mono (by decide)) T.b_BadText pass0 (by rfl) T.g_BadText (pa_cons pe_int pa_nil)))) pss_nil)
  (pss_cons (ps_set (i := 3) sc_parse_move.nd rfl (Or.inl rfl) (pe_lst (pa_cons (pe_ix (k_ixL (K := K)) (pv 1) pe_int (fun _ _ => rfl)) pa_nil)))
  (pss_cons (ps_for PassesOwn.leaving rfl (k_zipM (K := K) (pa_cons (pv 2) (pa_cons (pe_slice (k_slL (K := K)) (pv 1) (po_some pe_int) po_none) pa_nil)) T.m_zip) (k_gT (K := K) (n := 2) (pgs_cons (pg_name (i := 4) sc_parse_move.nd rfl (Or.inl rfl)) (pgs_cons (pg_name (i := 5) sc_parse_move.nd rfl (Or.inl rfl)) pgs_nil)))
  (pss_one (ps_expr (k_bm (K := K) PySem.F.plainAttrs_list PySem.F.slot_list_append PySem.F.type_list_append mt_append (pv 3) (pa_cons (pe_call G_read_item (hr.mono (by decide)) (by rfl) T.g_read_item T.F_read_item.kp T.b_read_item .nil (L2N.passes_call (L2N.takes_of rfl rfl rfl rfl) fun _ _ _ _ h => h) (pa_cons (pv 4) (pa_cons (pv 5) pa_nil))) pa_nil)))))
  (pss_cons (ps_set (i := 6) sc_parse_move.nd rfl (Or.inl rfl) (pe_callTy (k_tuple (K := K)) (by rfl) T.m_tuple boot_tuple (pa_cons (pv 3) pa_nil)))
  (pss_cons (ps_if (pt_not (pt_val (pe_call G_is_move (hr.mono (by decide)) (by rfl) T.g_is_move T.F_is_move.kp T.b_is_move .nil pass0 (pa_cons (pv 6) pa_nil))))
  (pss_one (L2N.ps_raise rfl (L2N.takes_of rfl rfl rfl rfl) (pmk_new T.x_BadText.o T.i_BadText T.ti_BadText G_BadText (hr.mono (by decide)) T.b_BadText pass0 (by rfl) T.g_BadText (pa_cons pe_int pa_nil)))) pss_nil)
  (pss_one (ps_ret (pv 6)))))))))), ?_⟩)
  · obtain ⟨d, rfl, _⟩ := h
    rfl
  · rintro C ds Pq hE hX ⟨z, rfl, hz, q⟩
    have hE' := hE.symm
    have hsl : z.length + 2 ≤ sizeLine := Nat.le_trans (Nat.add_le_add_right hz 2) (by decide)
    have hw : ∀ p ∈ Txt.split z " ", p.length ≤ 1000 := fun p hp => Nat.le_trans (split_le hp) hz
    generalize hW : Txt.split z " " = W at q hw
    walk_at "dgo"
    rw [hW]
    have hne : W ≠ [] := fun e => by
      have := split_pos z " "
      rw [hW, e] at this
      exact absurd this (by decide)
    cases W with
    | nil => exact absurd rfl hne
    | cons w0 r =>
      have bad : pmR (w0 :: r) = none → Pq (.er ⟨T.a_BadText, "at", "BadText", .int 0⟩) := fun h => by
        rw [h] at q
        exact q
      refine ⟨D.str w0, at_zero, ?_⟩
      walk_at "dgo"
      cases e : shapeOf w0 with
      | none =>
        have q := bad (by simp only [pmR, e])
        refine .inr ⟨shape_none T e, ?_⟩
        walk_at "dgo"
        refine run_raise hE ?_
        walk_at "dgo"
        exact hX _ q
      | some parts =>
        obtain ⟨sa, s1, s2⟩ := shape_at T e
        refine .inl ⟨_, _, s1, s2, ?_⟩
        walk_at "dgo"
        refine iteNE (fun ne => ?_) (fun e3 => ?_)
        · have q := bad (by
            simp only [pmR, e]
            rw [if_neg]
            intro h
            refine ne ?_
            rw [List.length_map, List.length_map, List.length_cons, h]
            rfl)
          walk_at "dgo"
          refine run_raise hE ?_
          walk_at "dgo"
          exact hX _ q
        have hl : r.length = parts.length := by
          rw [List.length_map, List.length_map, List.length_cons] at e3
          omega
        rcases shape_of e with ⟨rfl, rfl⟩ | ⟨rfl, rfl⟩ | ⟨rfl, rfl⟩ | ⟨rfl, rfl⟩ | ⟨rfl, rfl⟩ | ⟨rfl, rfl⟩
        · obtain ⟨x, y, rfl⟩ := len_2 hl
          refine run_next (run_seq (run_own (evf_lst ?_)))
          walk_at "dgo"
          intro p
          walk_at "dgo"
          rw [show cutD (List.map D.str ["swap", x, y]) (some 1) none = [D.str x, D.str y] from cutD_tail _ _]
          show Exists _
          refine forU ?_
          intro hv hd
          walk_at "dgo"
          refine And.intro (hw x (by simp)) ?_
          rw [rdit_item]
          cases g1 : itemR "place" x with
          | none => exact hX _ (bad (by simp only [pmR, e, itemsR, g1, List.length_cons, List.length_nil, if_true]))
          | some d1 =>
            show exP _ _ (Rs.ok _)
            walk_at "dgo"
            intro hv hd
            walk_at "dgo"
            refine And.intro (hw y (by simp)) ?_
            rw [rdit_item]
            cases g2 : itemR "place" y with
            | none => exact hX _ (bad (by simp only [pmR, e, itemsR, g2, g1, List.length_cons, List.length_nil, if_true]))
            | some d2 =>
              show exP _ _ (Rs.ok _)
              walk_at "dgo"
              have hp : pmR ["swap", x, y] = if isMoveD (.tup (.str "swap" :: [d1, d2])) = true then some (.tup (.str "swap" :: [d1, d2])) else none := by simp only [pmR, e, itemsR, g1, g2, List.length_cons, List.length_nil, if_true]
              refine run_freeze 3 rfl ?_
              walk_at "dgo"
              refine And.intro (fine_mvl e (l := [d1, d2]) (all2m (item_fine g1) (item_fine g2))) ?_
              show okP _ (Rs.ok (D.bl (isMoveD (.tup (.str "swap" :: [d1, d2])))))
              cases hm : isMoveD (.tup (.str "swap" :: [d1, d2])) with
              | true =>
                rw [hp, if_pos hm] at q
                walk_at "dgo"
                exact q
              | false =>
                have q := bad (by rw [hp, if_neg (by rw [hm]; decide)])
                walk_at "dgo"
                refine run_raise hE ?_
                walk_at "dgo"
                exact hX _ q
        · obtain ⟨x, y, rfl⟩ := len_2 hl
          refine run_next (run_seq (run_own (evf_lst ?_)))
          walk_at "dgo"
          intro p
          walk_at "dgo"
          rw [show cutD (List.map D.str ["carry", x, y]) (some 1) none = [D.str x, D.str y] from cutD_tail _ _]
          show Exists _
          refine forU ?_
          intro hv hd
          walk_at "dgo"
          refine And.intro (hw x (by simp)) ?_
          rw [rdit_item]
          cases g1 : itemR "place" x with
          | none => exact hX _ (bad (by simp only [pmR, e, itemsR, g1, List.length_cons, List.length_nil, if_true]))
          | some d1 =>
            show exP _ _ (Rs.ok _)
            walk_at "dgo"
            intro hv hd
            walk_at "dgo"
            refine And.intro (hw y (by simp)) ?_
            rw [rdit_item]
            cases g2 : itemR "place" y with
            | none => exact hX _ (bad (by simp only [pmR, e, itemsR, g2, g1, List.length_cons, List.length_nil, if_true]))
            | some d2 =>
              show exP _ _ (Rs.ok _)
              walk_at "dgo"
              have hp : pmR ["carry", x, y] = if isMoveD (.tup (.str "carry" :: [d1, d2])) = true then some (.tup (.str "carry" :: [d1, d2])) else none := by simp only [pmR, e, itemsR, g1, g2, List.length_cons, List.length_nil, if_true]
              refine run_freeze 3 rfl ?_
              walk_at "dgo"
              refine And.intro (fine_mvl e (l := [d1, d2]) (all2m (item_fine g1) (item_fine g2))) ?_
              show okP _ (Rs.ok (D.bl (isMoveD (.tup (.str "carry" :: [d1, d2])))))
              cases hm : isMoveD (.tup (.str "carry" :: [d1, d2])) with
              | true =>
                rw [hp, if_pos hm] at q
                walk_at "dgo"
                exact q
              | false =>
                have q := bad (by rw [hp, if_neg (by rw [hm]; decide)])
                walk_at "dgo"
                refine run_raise hE ?_
                walk_at "dgo"
                exact hX _ q
        · obtain ⟨x, rfl⟩ := len_1 hl
          refine run_next (run_seq (run_own (evf_lst ?_)))
          walk_at "dgo"
          intro p
          walk_at "dgo"
          rw [show cutD (List.map D.str ["cut", x]) (some 1) none = [D.str x] from cutD_tail _ _]
          show Exists _
          refine forU ?_
          intro hv hd
          walk_at "dgo"
          refine And.intro (hw x (by simp)) ?_
          rw [rdit_item]
          cases g1 : itemR "signed" x with
          | none => exact hX _ (bad (by simp only [pmR, e, itemsR, g1, List.length_cons, List.length_nil, if_true]))
          | some d1 =>
            show exP _ _ (Rs.ok _)
            walk_at "dgo"
            have hp : pmR ["cut", x] = if isMoveD (.tup (.str "cut" :: [d1])) = true then some (.tup (.str "cut" :: [d1])) else none := by simp only [pmR, e, itemsR, g1, List.length_cons, List.length_nil, if_true]
            refine run_freeze 3 rfl ?_
            walk_at "dgo"
            refine And.intro (fine_mvl e (l := [d1]) (fun d hd => List.mem_singleton.mp hd ▸ item_fine g1)) ?_
            show okP _ (Rs.ok (D.bl (isMoveD (.tup (.str "cut" :: [d1])))))
            cases hm : isMoveD (.tup (.str "cut" :: [d1])) with
            | true =>
              rw [hp, if_pos hm] at q
              walk_at "dgo"
              exact q
            | false =>
              have q := bad (by rw [hp, if_neg (by rw [hm]; decide)])
              walk_at "dgo"
              refine run_raise hE ?_
              walk_at "dgo"
              exact hX _ q
        · obtain ⟨x, y, rfl⟩ := len_2 hl
          refine run_next (run_seq (run_own (evf_lst ?_)))
          walk_at "dgo"
          intro p
          walk_at "dgo"
          rw [show cutD (List.map D.str ["turn", x, y]) (some 1) none = [D.str x, D.str y] from cutD_tail _ _]
          show Exists _
          refine forU ?_
          intro hv hd
          walk_at "dgo"
          refine And.intro (hw x (by simp)) ?_
          rw [rdit_item]
          cases g1 : itemR "end" x with
          | none => exact hX _ (bad (by simp only [pmR, e, itemsR, g1, List.length_cons, List.length_nil, if_true]))
          | some d1 =>
            show exP _ _ (Rs.ok _)
            walk_at "dgo"
            intro hv hd
            walk_at "dgo"
            refine And.intro (hw y (by simp)) ?_
            rw [rdit_item]
            cases g2 : itemR "block" y with
            | none => exact hX _ (bad (by simp only [pmR, e, itemsR, g2, g1, List.length_cons, List.length_nil, if_true]))
            | some d2 =>
              show exP _ _ (Rs.ok _)
              walk_at "dgo"
              have hp : pmR ["turn", x, y] = if isMoveD (.tup (.str "turn" :: [d1, d2])) = true then some (.tup (.str "turn" :: [d1, d2])) else none := by simp only [pmR, e, itemsR, g1, g2, List.length_cons, List.length_nil, if_true]
              refine run_freeze 3 rfl ?_
              walk_at "dgo"
              refine And.intro (fine_mvl e (l := [d1, d2]) (all2m (item_fine g1) (item_fine g2))) ?_
              show okP _ (Rs.ok (D.bl (isMoveD (.tup (.str "turn" :: [d1, d2])))))
              cases hm : isMoveD (.tup (.str "turn" :: [d1, d2])) with
              | true =>
                rw [hp, if_pos hm] at q
                walk_at "dgo"
                exact q
              | false =>
                have q := bad (by rw [hp, if_neg (by rw [hm]; decide)])
                walk_at "dgo"
                refine run_raise hE ?_
                walk_at "dgo"
                exact hX _ q
        · obtain rfl : r = [] := List.length_eq_zero_iff.mp hl
          refine run_next (run_seq (run_own (evf_lst ?_)))
          walk_at "dgo"
          intro p
          walk_at "dgo"
          rw [show cutD (List.map D.str ["over"]) (some 1) none = [] from cutD_tail _ _]
          show Exists _
          refine forU ?_
          have hp : pmR ["over"] = if isMoveD (.tup (.str "over" :: [])) = true then some (.tup (.str "over" :: [])) else none := by simp only [pmR, e, itemsR, List.length_cons, List.length_nil, if_true]
          refine run_freeze 3 rfl ?_
          walk_at "dgo"
          refine And.intro (fine_mvl e (l := []) (fun d hd => absurd hd List.not_mem_nil)) ?_
          show okP _ (Rs.ok (D.bl (isMoveD (.tup (.str "over" :: [])))))
          cases hm : isMoveD (.tup (.str "over" :: [])) with
          | true =>
            rw [hp, if_pos hm] at q
            walk_at "dgo"
            exact q
          | false =>
            have q := bad (by rw [hp, if_neg (by rw [hm]; decide)])
            walk_at "dgo"
            refine run_raise hE ?_
            walk_at "dgo"
            exact hX _ q
        · obtain ⟨x, rfl⟩ := len_1 hl
          refine run_next (run_seq (run_own (evf_lst ?_)))
          walk_at "dgo"
          intro p
          walk_at "dgo"
          rw [show cutD (List.map D.str ["face", x]) (some 1) none = [D.str x] from cutD_tail _ _]
          show Exists _
          refine forU ?_
          intro hv hd
          walk_at "dgo"
          refine And.intro (hw x (by simp)) ?_
          rw [rdit_item]
          cases g1 : itemR "place" x with
          | none => exact hX _ (bad (by simp only [pmR, e, itemsR, g1, List.length_cons, List.length_nil, if_true]))
          | some d1 =>
            show exP _ _ (Rs.ok _)
            walk_at "dgo"
            have hp : pmR ["face", x] = if isMoveD (.tup (.str "face" :: [d1])) = true then some (.tup (.str "face" :: [d1])) else none := by simp only [pmR, e, itemsR, g1, List.length_cons, List.length_nil, if_true]
            refine run_freeze 3 rfl ?_
            walk_at "dgo"
            refine And.intro (fine_mvl e (l := [d1]) (fun d hd => List.mem_singleton.mp hd ▸ item_fine g1)) ?_
            show okP _ (Rs.ok (D.bl (isMoveD (.tup (.str "face" :: [d1])))))
            cases hm : isMoveD (.tup (.str "face" :: [d1])) with
            | true =>
              rw [hp, if_pos hm] at q
              walk_at "dgo"
              exact q
            | false =>
              have q := bad (by rw [hp, if_neg (by rw [hm]; decide)])
              walk_at "dgo"
              refine run_raise hE ?_
              walk_at "dgo"
              exact hX _ q
end
end Z
namespace Z
open PySem PySem.Spec PyProof.Rows L2
-- what stands at an address
local macro_rules | `(tactic| walk_at "hp") => `(tactic| first | assumption | exact upd_same | exact BagAt.at_ (by assumption) | exact BagAt.cells (by assumption) | fail "hp")
local macro_rules | `(tactic| walk_at "sq") => `(tactic| first | assumption | (refine Or.inl (Or.inl ?_); walk_at "hp") | (apply Same.seq <;> assumption))
-- bounds
local macro_rules | `(tactic| walk_at "num") => `(tactic| first
  | exact rfl | decide | exact le_line (Nat.le_of_ble_eq_true rfl) | exact lt_line (Nat.le_of_ble_eq_true rfl)
  | (exact mul_ok (small_abs (by omega)) (small_abs (by omega)))
  | (exact div_small (by omega) (by omega))
  | (exact div_ok (by omega) (by assumption))
  | (refine ⟨?_, ?_⟩ <;> omega) | omega
  | (show (_ : Int) ≠ 0; omega) | (show CPow _ _; unfold CPow; decide))
-- one step
local macro_rules | `(tactic| walk_at "rd") => `(tactic| first
  | (refine Exists.intro _ (And.intro rfl ?_))
  | (refine Exists.intro _ (Exists.intro _ (And.intro rfl (And.intro rfl ?_))))
  | (refine Or.inl (Exists.intro _ (And.intro rfl ?_)))
  | (refine Or.inr (Exists.intro _ (And.intro rfl ?_)))
  | (with_reducible refine iteF ?_) | (with_reducible refine iteT ?_)
  | (refine And.intro ?cc ?_; (case cc => walk_at "num"))
  | (refine' Exists.intro _ (Exists.intro _ (Exists.intro _ (Exists.intro _ (And.intro rfl (And.intro rfl (And.intro ?sq (And.intro ?ha ?k))))))); (case sq => walk_at "sq"); (case ha => first | exact rfl | assumption | exact at_zero))
  | (refine' Exists.intro _ (Exists.intro _ (And.intro rfl (And.intro (Or.inl ?sq) ?k))); (case sq => walk_at "sq")))
local macro_rules | `(tactic| walk_at "sqt") => `(tactic| first | assumption | (refine Or.inl (Or.inl ?_); walk_at "hp") | (apply Same.tup <;> assumption))
local macro_rules | `(tactic| walk_at "rdt") => `(tactic| first
  | walk_at "rd"
  | (refine' Exists.intro _ (Exists.intro _ (And.intro rfl (And.intro (Or.inr ?sq) ?k))); (case sq => walk_at "sqt"))
  | (refine' Exists.intro _ (Exists.intro _ (Exists.intro _ (Exists.intro _ (And.intro rfl (And.intro rfl (And.intro ?sq (And.intro ?ha ?k))))))); (case sq => walk_at "sqt"); (case ha => first | exact rfl | assumption | exact at_zero))
  | (refine iteF ?_) | (refine iteT ?_))
local macro_rules | `(tactic| walk_at "rds") => `(tactic| repeat walk_at "rdt")
local macro_rules | `(tactic| walk_at "pull") => `(tactic| (refine' Exists.intro _ (Exists.intro _ (Exists.intro _ (And.intro rfl (And.intro ?bag (And.intro ?pos (And.intro ?fit ?kk)))))); (case bag => assumption); (case pos => first | decide | omega); (case fit => exact Fit.of (by first | decide | omega) (by first | decide | omega))))
local macro_rules | `(tactic| walk_at "two") => `(tactic| refine Exists.intro _ (Exists.intro _ (And.intro rfl ?_)))
/-! ### steps by data -/
local macro_rules | `(tactic| walk_at "side") => `(tactic| first
  | exact rfl | assumption | exact Nat.le_of_ble_eq_true rfl | decide | exact True.intro | exact le_line (Nat.le_of_ble_eq_true rfl) | exact lt_line (Nat.le_of_ble_eq_true rfl) | omega | (show (_ : Int) ≠ 0; omega) | exact cut1_ok | (unfold CPow; decide) | exact mul_ok (small_abs (by omega)) (small_abs (by omega)) | exact div_small (by omega) (by omega))
local macro_rules | `(tactic| walk_at "dR") => `(tactic| first
  | with_reducible refine run_seq ?_ | with_reducible refine run_if ?_ | with_reducible refine run_set ?_ | with_reducible refine run_ret ?_ | with_reducible refine run_next ?_
  | with_reducible refine run_asg ?_ | with_reducible refine run_for ?_ | ((with_reducible refine' run_append ?ev ?kk); (case ev => exact rfl)) | ((with_reducible refine' run_aug ?ev ?kk); (case ev => exact rfl))
  | with_reducible refine run_par ?_ | with_reducible refine run_drop ?_ | with_reducible refine run_retN ?_ | with_reducible refine run_break ?_ | with_reducible refine run_cont ?_)
local macro_rules | `(tactic| walk_at "dE") => `(tactic| first
  | ((with_reducible refine' ev_var ?ev ?kk); (case ev => exact rfl))
  | with_reducible refine ev_op ?_ | with_reducible refine ev_int ?_ | with_reducible refine ev_str ?_ | with_reducible refine ev_callC (by assumption) ?_ | with_reducible refine ev_callX (by assumption) ?_ | with_reducible refine ev_call ?_ | with_reducible refine ev_cb ?_ | with_reducible refine ev_tup ?_
  | with_reducible refine ev_if ?_ | with_reducible refine ev_and ?_ | with_reducible refine ev_or ?_ | with_reducible refine ev_not ?_ | with_reducible refine ev_bl ?_ | with_reducible refine ev_non ?_ | with_reducible refine ev_isi ?_
  | with_reducible refine ev_un ?_ | with_reducible refine ev_chain ?_ | with_reducible refine ev_lst ?_ | with_reducible refine ev_cbf ?_ | with_reducible refine ev_sl ?_ | with_reducible refine ev_m1 ?_ | with_reducible refine ev_kget ?_ | with_reducible refine ev_fmt ?_ | with_reducible refine ev_join ?_ | with_reducible refine ev_ty ?_ | with_reducible refine ev_cV ?_)
local macro_rules | `(tactic| walk_at "dT") => `(tactic| first
  | with_reducible refine evt_t ?_ | with_reducible refine evt_b ?_ | with_reducible refine evt_and ?_ | with_reducible refine evt_or ?_ | with_reducible refine evt_not ?_ | with_reducible refine evt_yes ?_)
local macro_rules | `(tactic| walk_at "dX") => `(tactic| first
  | ((with_reducible refine' evx_name ?ev ?kk); (case ev => first | exact rfl | assumption)) | with_reducible refine evx_tup ?_ | with_reducible refine evx_lst ?_ | with_reducible refine evxs_cons ?_ | with_reducible refine evxs_nil ?_
  | ((with_reducible refine' evg_name ?ev ?mm ?kk); (case ev => first | exact rfl | assumption); (case mm => decide)) | with_reducible refine evg_tup ?_ | with_reducible refine evg_lst ?_ | with_reducible refine evgs_cons ?_ | with_reducible refine evgs_nil ?_
  | with_reducible refine evi_list ?_ | with_reducible refine evi_tup ?_ | with_reducible refine evi_rng1 ?_ | with_reducible refine evi_rng2 ?_ | with_reducible refine evi_enum ?_ | with_reducible refine evi_zip ?_
  | with_reducible refine evo_none ?_ | with_reducible refine evo_some ?_ | with_reducible refine evj_cons ?_ | with_reducible refine evj_nil ?_)
local macro_rules | `(tactic| walk_at "d1") => `(tactic| first
  | ((with_reducible change Ev _ _ _ _ _); walk_at "dE")
  | ((with_reducible change Run _ _ _ _ _); walk_at "dR")
  | with_reducible refine eva_cons ?_ | with_reducible refine eva_nil ?_
  | ((with_reducible change EvT _ _ _ _ _); walk_at "dT")
  | with_reducible refine eva_star ?_
  | with_reducible refine iteT ?_ | with_reducible refine iteF ?_
  | ((with_reducible change if (_ : Bool) = true then _ else _); first | refine iteT ?_ | refine iteF ?_)
  | ((with_reducible refine And.intro ?cc ?_); (case cc => walk_at "side"))
  | ((with_reducible refine' Exists.intro _ (And.intro ?cc ?kk)); (case cc => first | exact rfl | exact at_zero))
  | ((with_reducible refine' Exists.intro _ (Exists.intro _ (And.intro ?cc ?kk))); (case cc => exact rfl))
  | ((with_reducible refine' Exists.intro _ (Exists.intro _ (Exists.intro _ (And.intro ?cc (And.intro ?cd ?kk))))); (case cc => exact rfl); (case cd => exact rfl))
  | ((with_reducible refine' Exists.intro _ (Exists.intro _ (Exists.intro _ (And.intro ?cc ?kk)))); (case cc => exact rfl))
  | ((with_reducible refine' Exists.intro _ (Exists.intro _ (Exists.intro _ (Exists.intro _ (And.intro ?cc ?kk))))); (case cc => exact rfl))
  | walk_at "dX")
local macro_rules | `(tactic| walk_at "d2") => `(tactic| walk_at "d1")
local macro_rules | `(tactic| walk_at "dgo") => `(tactic| repeat walk_at "d1")
local macro_rules | `(tactic| walk_at "wk") => `(tactic| repeat first | exact True.intro | refine And.intro (Or.inl rfl) ?_ | refine And.intro (Or.inr (And.intro rfl rfl)) ?_)
local macro_rules | `(tactic| walk_at "isi") => `(tactic| (refine' Exists.intro _ (Exists.intro _ (Exists.intro _ (Exists.intro _ (Exists.intro _ (And.intro rfl (And.intro (ClsV.ty _) (And.intro ?tt (And.intro (kit_ty ?ee) ?kk)))))))); (case tt => assumption); (case ee => first | exact kb_int_list | exact kb_int_tuple | exact kb_int_dict | exact kb_int_bool | exact kb_int_int | exact kb_int_str | exact kb_str_list | exact kb_str_tuple | exact kb_str_dict | exact kb_str_bool | exact kb_str_int | exact kb_str_str | exact kb_bool_list | exact kb_bool_tuple | exact kb_bool_dict | exact kb_bool_bool | exact kb_bool_int | exact kb_bool_str | exact kb_NoneType_list | exact kb_NoneType_tuple | exact kb_NoneType_dict | exact kb_NoneType_bool | exact kb_NoneType_int | exact kb_NoneType_str | exact kb_list_list | exact kb_list_tuple | exact kb_list_dict | exact kb_list_bool | exact kb_list_int | exact kb_list_str | exact kb_tuple_list | exact kb_tuple_tuple | exact kb_tuple_dict | exact kb_tuple_bool | exact kb_tuple_int | exact kb_tuple_str)))
-- one step
local macro_rules | `(tactic| walk_at "same") => `(tactic| repeat first | walk_at "rdt" | walk_at "isi")
/-! ### steps by data -/
local macro_rules | `(tactic| walk_at "side") => `(tactic| first
  | exact rfl | with_reducible assumption | exact Nat.le_of_ble_eq_true rfl | decide | exact True.intro | exact le_line (Nat.le_of_ble_eq_true rfl) | exact lt_line (Nat.le_of_ble_eq_true rfl) | omega | (show (_ : Int) ≠ 0; omega) | exact cut1_ok | (unfold CPow; decide) | exact mul_ok (small_abs (by omega)) (small_abs (by omega)) | exact div_small (by omega) (by omega) | assumption)
local macro_rules | `(tactic| walk_at "dR") => `(tactic| first
  | with_reducible refine run_ownNil ?_ | with_reducible refine run_ownL ?_ | ((with_reducible refine' run_extend ?ev ?kk); (case ev => exact rfl))
  | ((with_reducible refine' run_fld ?c ?n ?e ?kk); (case c => assumption); (case n => assumption); (case e => exact rfl))
  | ((with_reducible refine' run_retO ?ev ?kk); (case ev => exact rfl)) | ((with_reducible refine' run_setix ?ev ?kk); (case ev => exact rfl)) | ((with_reducible refine' run_popAt ?ev ?kk); (case ev => exact rfl)) | ((with_reducible refine' run_insert ?ev ?kk); (case ev => exact rfl)) | with_reducible refine run_parL ?_ | with_reducible refine run_ownRep ?_
  | with_reducible refine run_seq ?_ | with_reducible refine run_if ?_ | with_reducible refine run_set ?_ | with_reducible refine run_ret ?_ | with_reducible refine run_next ?_
  | with_reducible refine run_asg ?_ | with_reducible refine run_for ?_ | ((with_reducible refine' run_append ?ev ?kk); (case ev => exact rfl)) | ((with_reducible refine' run_aug ?ev ?kk); (case ev => exact rfl))
  | with_reducible refine run_par ?_ | with_reducible refine run_drop ?_ | with_reducible refine run_retN ?_ | with_reducible refine run_break ?_ | with_reducible refine run_cont ?_)
local macro_rules | `(tactic| walk_at "dE") => `(tactic| first
  | ((with_reducible refine' ev_var ?ev ?kk); (case ev => exact rfl))
  | with_reducible refine ev_lenOwn ?_
  | ((with_reducible refine' ev_fldO ?ev ?dd ?kk); (case ev => exact rfl); (case dd => exact rfl)) | with_reducible refine ev_fld ?_ | with_reducible refine ev_methX (by assumption) ?_ | with_reducible refine ev_meth ?_ | with_reducible refine ev_prop ?_ | with_reducible refine ev_makeX (by assumption) ?_ | with_reducible refine ev_make ?_ | with_reducible refine ev_ownX (by assumption) ?_ | with_reducible refine ev_own ?_ | ((with_reducible refine' ev_isiOwn ?o ?kk); (case o => assumption))
  | ((with_reducible refine' ev_ixO ?ev ?kk); (case ev => exact rfl)) | with_reducible refine ev_rev ?_ | with_reducible refine ev_op ?_ | with_reducible refine ev_int ?_ | with_reducible refine ev_str ?_ | with_reducible refine ev_callKX (by assumption) ?_ | with_reducible refine ev_callK ?_ | with_reducible refine ev_callC (by assumption) ?_ | with_reducible refine ev_callX (by assumption) ?_ | with_reducible refine ev_call ?_ | with_reducible refine ev_cb ?_ | with_reducible refine ev_tup ?_
  | with_reducible refine ev_if ?_ | with_reducible refine ev_and ?_ | with_reducible refine ev_or ?_ | with_reducible refine ev_not ?_ | with_reducible refine ev_bl ?_ | with_reducible refine ev_non ?_ | with_reducible refine ev_isi ?_
  | with_reducible refine ev_un ?_ | with_reducible refine ev_chain ?_ | with_reducible refine ev_lst ?_ | with_reducible refine ev_cbf ?_ | with_reducible refine ev_sl ?_ | with_reducible refine ev_m1 ?_ | with_reducible refine ev_kget ?_ | with_reducible refine ev_fmt ?_ | with_reducible refine ev_join ?_ | with_reducible refine ev_ty ?_ | with_reducible refine ev_cV ?_)
local macro_rules | `(tactic| walk_at "dT") => `(tactic| first
  | with_reducible refine evt_t ?_ | with_reducible refine evt_b ?_ | with_reducible refine evt_and ?_ | with_reducible refine evt_or ?_ | with_reducible refine evt_not ?_ | with_reducible refine evt_yes ?_)
local macro_rules | `(tactic| walk_at "dX") => `(tactic| first
  | ((with_reducible refine' evx_name ?ev ?kk); (case ev => first | exact rfl | assumption)) | with_reducible refine evx_tup ?_ | with_reducible refine evx_lst ?_ | with_reducible refine evxs_cons ?_ | with_reducible refine evxs_nil ?_
  | ((with_reducible refine' evg_name ?ev ?mm ?kk); (case ev => first | exact rfl | assumption); (case mm => decide)) | with_reducible refine evg_tup ?_ | with_reducible refine evg_lst ?_ | with_reducible refine evgs_cons ?_ | with_reducible refine evgs_nil ?_
  | with_reducible refine evi_list ?_ | with_reducible refine evi_tup ?_ | with_reducible refine evi_rng1 ?_ | with_reducible refine evi_rng2 ?_ | with_reducible refine evi_enum ?_ | with_reducible refine evi_zip ?_
  | with_reducible refine eva_items ?_ | with_reducible refine evi_revA ?_ | with_reducible refine evi_enumT ?_ | with_reducible refine evf_cb ?_ | with_reducible refine evo_none ?_ | with_reducible refine evo_some ?_ | with_reducible refine evj_cons ?_ | with_reducible refine evj_nil ?_)
local macro_rules | `(tactic| walk_at "d1") => `(tactic| first
  | ((with_reducible change Ev _ _ _ _ _); walk_at "dE")
  | ((with_reducible change Run _ _ _ _ _); walk_at "dR")
  | with_reducible refine eva_cons ?_ | with_reducible refine eva_nil ?_
  | ((with_reducible change EvT _ _ _ _ _); walk_at "dT")
  | with_reducible refine eva_star ?_
  | with_reducible refine iteT ?_ | with_reducible refine iteF ?_
  | ((with_reducible change if (_ : Bool) = true then _ else _); first | refine iteT ?_ | refine iteF ?_)
  | ((with_reducible refine And.intro ?cc ?_); (case cc => walk_at "side"))
  | ((with_reducible refine' Exists.intro _ (And.intro ?cc ?kk)); (case cc => first | exact rfl | exact at_zero))
  | ((with_reducible refine' Exists.intro _ (Exists.intro _ (And.intro ?cc ?kk))); (case cc => exact rfl))
  | ((with_reducible refine' Exists.intro _ (Exists.intro _ (Exists.intro _ (And.intro ?cc (And.intro ?cd ?kk))))); (case cc => exact rfl); (case cd => exact rfl))
  | ((with_reducible refine' Exists.intro _ (Exists.intro _ (Exists.intro _ (And.intro ?cc ?kk)))); (case cc => exact rfl))
  | ((with_reducible refine' Exists.intro _ (Exists.intro _ (Exists.intro _ (Exists.intro _ (And.intro ?cc ?kk))))); (case cc => exact rfl))
  | walk_at "dX")
local macro_rules | `(tactic| walk_at "d2") => `(tactic| walk_at "d1")
local macro_rules | `(tactic| walk_at "dgo") => `(tactic| repeat walk_at "d1")
local macro_rules | `(tactic| walk_at "wk") => `(tactic| repeat first | exact True.intro | refine And.intro (Or.inl rfl) ?_ | refine And.intro (Or.inr (And.intro rfl rfl)) ?_)
local macro_rules | `(tactic| walk_at "d3") => `(tactic| first
  | ((with_reducible refine' ev_lenO ?ev ?kk); (case ev => exact rfl))
  | ((with_reducible refine' run_dputT ?ev ?kk); (case ev => exact rfl)) | ((with_reducible refine' run_dputK ?ev ?kk); (case ev => exact rfl)) | with_reducible refine run_dnewK ?_ | with_reducible refine run_dnewT ?_
  | ((with_reducible refine' ev_dgetK ?ev ?kk); (case ev => exact rfl)) | ((with_reducible refine' ev_dinK ?ev ?kk); (case ev => exact rfl)) | ((with_reducible refine' ev_dinT ?ev ?kk); (case ev => exact rfl)) | ((with_reducible refine' ev_dnotinK ?ev ?kk); (case ev => exact rfl))
  | ((with_reducible refine' run_append ?ev ?kk); (case ev => exact rfl)) | with_reducible refine run_appC ?_ | with_reducible refine run_par3 ?_ | ((with_reducible refine' eva_self ?ev ?kk); (case ev => exact rfl)) | with_reducible refine evf_methN ?_ | with_reducible refine ev_methN ?_ | with_reducible refine ev_listRg1 ?_
  | with_reducible refine evi_zipM ?_)
local macro_rules | `(tactic| walk_at "dgo") => `(tactic| repeat first | walk_at "d3" | walk_at "d1")
local macro_rules | `(tactic| walk_at "d3") => `(tactic| first
  | with_reducible refine evi_seq ?_ | with_reducible refine evi_orL ?_ | with_reducible refine ev_cref ?_ | ((with_reducible refine' ev_makeVX ?he ?ev ?kk); (case he => assumption); (case ev => exact rfl)))
/-! ### words, by data -/
def sumReach (ms : List Mv) : Int := (ms.map Mv.reach).sum
@[reducible] def wordD (T_Word : Addr) (ms : List Mv) : D := .ins T_Word [("steps", .tup (ms.map mvD)), ("needed", .int (sumReach ms))]
/-- the first that is no move -/
def firstBad : List D → Option Nat
  | [] => none
  | d :: l => if isMoveD d = true then (firstBad l).map (· + 1) else some 0
theorem bad_facts : ∀ {ds : List D} {i : Nat}, firstBad ds = some i → i < ds.length ∧ (∀ k d, k < i → ds[k]? = some d → isMoveD d = true) ∧ ∀ d, ds[i]? = some d → isMoveD d = false
  | [], _, h => nomatch h
  | d :: l, i, h => by
    unfold firstBad at h
    cases e : isMoveD d with
    | true =>
      rw [e, if_pos rfl] at h
      cases e2 : firstBad l with
      | none => rw [e2] at h; cases h
      | some j =>
        rw [e2] at h
        cases h
        obtain ⟨h1, h2, h3⟩ := bad_facts e2
        refine ⟨Nat.succ_lt_succ h1, fun k d' hk hd => ?_, fun d' hd => h3 d' hd⟩
        cases k with
        | zero => cases hd; exact e
        | succ k => exact h2 k d' (Nat.lt_of_succ_lt_succ hk) hd
    | false =>
      rw [e, if_neg (by decide)] at h
      cases h
      exact ⟨Nat.succ_pos _, fun k _ hk => absurd hk (Nat.not_lt_zero _), fun d' hd => by cases hd; exact e⟩
section
variable {P : Program} {w : World} {K : PySem.W.Frag} {mg : Str → Option Value} {base : Heap}
/-- the moves of a word, or what is raised -/
def wordR (T : Txt K mg w) (ds : List D) (Pq : Rs → Prop) : Prop :=
  (∃ ms : List Mv, ds = ms.map mvD ∧ (∀ m ∈ ms, m.ok) ∧ ms.length ≤ 100000 ∧ Pq (if 40 < ms.length then .er ⟨T.a_TooLong, "limit", "TooLong", .int 40⟩ else if 60 < sumReach ms then .er ⟨T.a_TooLong, "limit", "TooLong", .int 60⟩ else .ok (wordD T.a_Word ms))) ∨
  (∃ i : Nat, (∀ d ∈ ds, fine d) ∧ ds.length ≤ 100000 ∧ firstBad ds = some i ∧ Pq (.er ⟨T.a_BadMove, "at", "BadMove", .int i⟩))
theorem wordR_mono {T : Txt K mg w} {ds : List D} {Pq Pq' : Rs → Prop} (h : wordR T ds Pq) (k : ∀ r, Pq r → Pq' r) : wordR T ds Pq' := by
  rcases h with ⟨ms, h1, h2, h3, h4⟩ | ⟨i, h1, h2, h3, h4⟩
  · exact .inl ⟨ms, h1, h2, h3, k _ h4⟩
  · exact .inr ⟨i, h1, h2, h3, k _ h4⟩
/-- a word of moves within the bounds -/
theorem wordR_ok {T : Txt K mg w} {ms : List Mv} {Pq : Rs → Prop} (hk : ∀ m ∈ ms, m.ok) (h1 : ms.length ≤ 40) (h2 : sumReach ms ≤ 60) (q : Pq (.ok (wordD T.a_Word ms))) : wordR T (ms.map mvD) Pq :=
  .inl ⟨ms, rfl, hk, by omega, by rw [if_neg (by omega), if_neg (by omega)]; exact q⟩
abbrev S_word (T : Txt K mg w) : Sd := fun _ ds Pq => wordR T ds Pq
theorem ok_Word___init__ (T : Txt K mg w) : FnR P w K mg base (L2.CX P w) 6 T.a_Word___init__ (spM K T.a_Word (S_word T)) := by
  have G_is_move := ok_is_move (P := P) (w := w) (base := base) T
  have G_cards_needed := ok_cards_needed (P := P) (w := w) (base := base) T
  have G_BadMove := ok_BadMove (P := P) (w := w) (base := base) T
  have G_TooLong := ok_TooLong (P := P) (w := w) (base := base) T
  have c1 := T.cls_Word
  have n1 := T.no_Word_steps
  have n2 := T.no_Word_needed
  refine okMS (ps := ["self"]) (pv := "moves") T.F_Word___init__ sc_Word___init__ rfl (fun bs ds Pq h => ?_) (fun kV doc pm an cdv ct => StX.bind_star1 (B := fun args => bindArgs (PySem.W.fnOf "__init__" "Word.__init__" (defArgs s_Word___init__) (defBody s_Word___init__) (defScope s_Word___init__) .none kV doc pm an cdv ct) ⟨args, []⟩) (fun _ => rfl) (fun _ _ _ => rfl)) (fun cdv A outer s H E hr => ⟨_, (pss_cons (ps_for PassesOwn.leaving rfl (k_enumT (K := K) (pa_cons (pv 1) pa_nil) T.m_enumerate) (k_gT (K := K) (n := 2) (pgs_cons (pg_name (i := 2) sc_Word___init__.nd rfl (Or.inl rfl)) (pgs_cons (pg_name (i := 3) sc_Word___init__.nd rfl (Or.inl rfl)) pgs_nil)))
  (pss_one (ps_if (pt_not (pt_val (pe_call G_is_move (hr.mono (by decide)) (by rfl) T.g_is_move T.F_is_move.kp T.b_is_move .nil pass0 (pa_cons (pv 3) pa_nil))))
  (pss_one (ps_raise rfl (takes_of rfl rfl rfl rfl) (pmk_oex T.x_BadMove.o T.i_BadMove T.ti_BadMove G_BadMove (hr.mono (by decide)) T.b_BadMove .nil pass0 (by rfl) T.g_BadMove (pa_cons (pv 2) pa_nil)))) pss_nil)))
  (pss_cons (ps_if (pt_cmpR op_gt (pe_callB (k_len (K := K)) (by rfl) T.m_len boot_len (pa_cons (pv 1) pa_nil)) (k_cval (K := K) rfl T.g_Word T.r_Word T.v_Word_MOST_MOVES) (nomark _))
  (pss_one (ps_raise rfl (takes_of rfl rfl rfl rfl) (pmk_oex T.x_TooLong.o T.i_TooLong T.ti_TooLong G_TooLong (hr.mono (by decide)) T.b_TooLong .nil pass0 (by rfl) T.g_TooLong (pa_cons (k_cval (K := K) rfl T.g_Word T.r_Word T.v_Word_MOST_MOVES) pa_nil)))) pss_nil)
  (pss_cons (ps_set (i := 4) sc_Word___init__.nd rfl (Or.inl rfl) (pe_callB (k_sum (K := K)) (by rfl) T.m_sum boot_sum (pa_cons (pe_lc (own := [("move", 3)]) rfl sc_Word___init__.nd (k_piT (K := K) (pv 1)) (blkOk_by (N := N_Word___init__) (sc := defScope s_Word___init__) (by decide +kernel)) (fun _ _ _ _ _ => (pg_name (i := 3) sc_Word___init__.nd rfl (Or.inl rfl))) (fun _ _ _ _ _ => pts_nil) (fun _ _ _ _ _ => (pe_call G_cards_needed (hr.mono (by decide)) (by rfl) T.g_cards_needed T.F_cards_needed.kp T.b_cards_needed .nil pass0 (pa_cons (pv 3) pa_nil)))) pa_nil)))
  (pss_cons (ps_if (pt_cmpR op_gt (pv 4) (k_cval (K := K) rfl T.g_Word T.r_Word T.v_Word_MOST_REACH) (nomark _))
  (pss_one (ps_raise rfl (takes_of rfl rfl rfl rfl) (pmk_oex T.x_TooLong.o T.i_TooLong T.ti_TooLong G_TooLong (hr.mono (by decide)) T.b_TooLong .nil pass0 (by rfl) T.g_TooLong (pa_cons (k_cval (K := K) rfl T.g_Word T.r_Word T.v_Word_MOST_REACH) pa_nil)))) pss_nil)
  (pss_cons (k_sfld (K := K) (pv 0) (pv 1))
  (pss_one (k_sfld (K := K) (pv 0) (pv 4)))))))), ?_⟩)
  · rcases h with ⟨ms, rfl, _, h, _⟩ | ⟨i, _, h, _⟩
    · rw [List.length_map]; exact Nat.le_trans h (by decide)
    · exact Nat.le_trans h (by decide)
  · rintro C ds Pq x dx hE hX h
    have hE' := hE.symm
    rcases h with ⟨ms, rfl, hk, hl, q⟩ | ⟨i, hf, hl, hb, q⟩
    · walk_at "dgo"
      refine forW [.cell x (.ins T.a_Word dx []), .val (.tup (ms.map mvD)), .no, .no, .no] ?_ (fun hv hd i d hi => ?_) (seq_wk ?_)
      · walk_at "wk"
      · obtain ⟨d, hx, rfl⟩ := enum_get hi
        obtain ⟨m, gm, rfl⟩ := map_inv hx
        have hkm := hk m (List.mem_of_getElem? gm)
        walk_at "dgo"
        refine And.intro (fine_mv m) ?_
        walk_at "dgo"
        rw [isMoveD_mv hkm]
        walk_at "dgo"
        walk_at "wk"
      have hlm : (ms.map mvD).length = ms.length := List.length_map _
      walk_at "dgo"
      refine iteD (fun a => ?_) (fun a => ?_)
      · rw [if_pos (by omega)] at q
        walk_at "dgo"
        refine run_raise hE ?_
        walk_at "dgo"
        exact hX _ q
      rw [if_neg (by omega)] at q
      walk_at "dgo"
      refine ev_lcx (fun _ => (ms.map Mv.reach).map D.int) (by rfl) ?_
      walk_at "dgo"
      refine ⟨⟨by omega, by simp⟩, fun C' e1 e2 e3 k d hi => ?_, ?_⟩
      · obtain ⟨m, gm, rfl⟩ := map_inv hi
        walk_at "dgo"
        show ((ms.map Mv.reach).map D.int)[k]? = some (.int m.reach)
        rw [List.getElem?_map, List.getElem?_map, gm]
        rfl
      walk_at "dgo"
      refine as_ints ?_
      walk_at "dgo"
      refine iteD (fun a => ?_) (fun a => ?_)
      · rw [if_pos (show 60 < sumReach ms from a)] at q
        walk_at "dgo"
        refine run_raise hE ?_
        walk_at "dgo"
        exact hX _ q
      rw [if_neg (show ¬ 60 < sumReach ms from a)] at q
      walk_at "dgo"
      exact q
    · obtain ⟨b1, b2, b3⟩ := bad_facts hb
      walk_at "dgo"
      refine forX (fun k (_ : Unit) => k ≤ i) (fun _ => [.cell x (.ins T.a_Word dx []), .val (.tup ds), .no, .no, .no]) () (Nat.zero_le _) ?_ (fun hv hd k d _ hi hk => ?_) (fun _ hk => ?_)
      · walk_at "wk"
      · obtain ⟨d, hx, rfl⟩ := enum_get hi
        have hfd := hf d (List.mem_of_getElem? hx)
        walk_at "dgo"
        by_cases e : k = i
        · subst e
          rw [b3 d hx]
          walk_at "dgo"
          refine run_raise hE ?_
          walk_at "dgo"
          exact hX _ q
        · rw [b2 k d (by omega) hx]
          walk_at "dgo"
          refine ⟨(), by omega, ?_⟩
          walk_at "wk"
      · rw [enumD_len] at hk
        exact absurd hk (by omega)
end
/-! ### the methods of words -/
def eqW (ms ms' : List Mv) : Bool := PyData.eqv (D.tup (ms.map mvD)).py (D.tup (ms'.map mvD)).py
theorem fineN_mvs (ms : List Mv) : fineN 3 (.tup (ms.map mvD)) := fineN_tup fun d hd => by
  obtain ⟨m, _, rfl⟩ := List.mem_map.mp hd
  exact fineN_mv m
theorem eqW_refl (ms : List Mv) : eqW ms ms = true := SeqAt.eqv_refl _ (fineN_mvs ms).2.1
section
variable {P : Program} {w : World} {K : PySem.W.Frag} {mg : Str → Option Value} {base : Heap}
abbrev S_wadd (T : Txt K mg w) : Sd := fun _ ds Pq => ∃ ms ms' : List Mv, ds = [wordD T.a_Word ms, wordD T.a_Word ms'] ∧ (∀ m ∈ ms, m.ok) ∧ (∀ m ∈ ms', m.ok) ∧ ms.length + ms'.length ≤ 100000 ∧ wordR T ((ms ++ ms').map mvD) Pq
theorem ok_Word___add__ (T : Txt K mg w) : FnOk P w K mg base (L2.CX P w) 8 T.a_Word___add__ T.d_Word___add__ P_Word___add__ (spD K (S_wadd T)) := by
  have G_Word___init__ := ok_Word___init__ (P := P) (w := w) (base := base) T
  refine okDX T.F_Word___add__ sc_Word___add__ (fun bs ds Pq h => ?_) (fun cdv A outer s H E hr => ⟨_, (pss_cons (ps_set (i := 2) sc_Word___add__.nd rfl (Or.inl rfl) (pe_lst (k_star (K := K) (k_fld (K := K) T.cls_Word T.no_Word_steps (pv 0)) (k_star (K := K) (k_fld (K := K) T.cls_Word T.no_Word_steps (pv 1)) pa_nil))))
  (pss_one (ps_ret (k_makeS (K := K) T.mk_Word G_Word___init__ (hr.mono (by decide)) (by rfl) T.g_Word (passes_call (takes_of rfl rfl rfl rfl) fun _ _ _ _ h => h) (pv 2))))), ?_⟩)
  · obtain ⟨ms, n, rfl, _⟩ := h
    rfl
  · rintro C ds Pq hE hX ⟨ms, ms', rfl, hk, hk', hl, q⟩
    have hE' := hE.symm
    unfold wordD
    walk_at "dgo"
    rw [List.append_nil, ← List.map_append]
    refine And.intro (Nat.le_trans (by rw [List.length_map, List.length_append]; exact hl) (by decide)) ?_
    walk_at "dgo"
    refine wordR_mono q fun r p => ?_
    cases r with
    | ok d => exact p
    | er x => exact hX _ p
end
/-! ### errors made while an error is handled -/
section
variable {P : Program} {w : World} {K : PySem.W.Frag} {mg : Str → Option Value} {base : Heap}
theorem okH_PileError (T : Txt K mg w) : L2H.FnH P w K mg base CX0 1 T.f_PileError T.d_PileError P_PileError (sp_pe K) := by
  refine okHD T.F_PileError sc_PileError (fun vs H Q E h => ?_) (fun cdv A outer s H vs Q E p hot hr h => ?_)
  · obtain ⟨a, C, z, rfl, _⟩ := h
    rfl
  · obtain ⟨a, C, z, rfl, hO, hn, ha, q⟩ := h
    refine ⟨_, pss_one (ps_ost (pv 0) (pv 1)), ?_⟩
    exact ⟨_, rfl, _, rfl, a, C, rfl, hO, hn, .inl ⟨ha, fun dx n ne => q dx n ne⟩⟩
theorem okH_BadText (T : Txt K mg w) : L2H.FnH P w K mg base CX0 2 T.f_BadText T.d_BadText P_BadText (sp_x1 K T.a_BadText "at" "BadText") := by
  have G_PE := okH_PileError (P := P) (w := w) (base := base) T
  refine okH T.F_BadText sc_BadText (fun vs H Q E h => ?_) (fun cdv A outer s H vs Q E p hot hr h => ?_)
  · obtain ⟨a, v, rfl, _⟩ := h
    rfl
  · obtain ⟨a, v, rfl, ha, q⟩ := h
    refine ⟨_, pss_cons (ps_expr (pe_clsfnH (by rfl) T.g_PileError T.r_PileError T.v_PileError G_PE (hr.mono (by decide)) ⟨p, hot, List.mem_cons_self ..⟩ T.F_PileError.kp T.b_PileError pass0 (pa_cons (pv 0) (pa_cons pe_str pa_nil)))) (pss_one (ps_ost (pv 0) (pv 1))), ?_⟩
    refine ⟨_, rfl, a, T.a_BadText, _, rfl, T.x_BadText.o, T.x_BadText.no _ (List.mem_cons_self ..), ha, fun dx n ne => ?_⟩
    refine ⟨_, rfl, _, rfl, a, T.a_BadText, rfl, T.x_BadText.o, T.x_BadText.no _ (List.mem_cons_of_mem _ (List.mem_cons_self ..)), .inr ⟨dx, _, upd_same, by rw [upd_ne ne, upd_same], by decide, ?_⟩⟩
    exact q dx _ n ne (by rw [upd_ne (Ne.symm ne), upd_same]) upd_same fun b h1 h2 => by rw [upd_ne h2, upd_ne h1, upd_ne h2]
end
end Z
namespace Z
open PySem PySem.Spec PyProof.Rows L2
-- what stands at an address
local macro_rules | `(tactic| walk_at "hp") => `(tactic| first | assumption | exact upd_same | exact BagAt.at_ (by assumption) | exact BagAt.cells (by assumption) | fail "hp")
local macro_rules | `(tactic| walk_at "sq") => `(tactic| first | assumption | (refine Or.inl (Or.inl ?_); walk_at "hp") | (apply Same.seq <;> assumption))
-- bounds
local macro_rules | `(tactic| walk_at "num") => `(tactic| first
  | exact rfl | decide | exact le_line (Nat.le_of_ble_eq_true rfl) | exact lt_line (Nat.le_of_ble_eq_true rfl)
  | (exact mul_ok (small_abs (by omega)) (small_abs (by omega)))
  | (exact div_small (by omega) (by omega))
  | (exact div_ok (by omega) (by assumption))
  | (refine ⟨?_, ?_⟩ <;> omega) | omega
  | (show (_ : Int) ≠ 0; omega) | (show CPow _ _; unfold CPow; decide))
-- one step
local macro_rules | `(tactic| walk_at "rd") => `(tactic| first
  | (refine Exists.intro _ (And.intro rfl ?_))
  | (refine Exists.intro _ (Exists.intro _ (And.intro rfl (And.intro rfl ?_))))
  | (refine Or.inl (Exists.intro _ (And.intro rfl ?_)))
  | (refine Or.inr (Exists.intro _ (And.intro rfl ?_)))
  | (with_reducible refine iteF ?_) | (with_reducible refine iteT ?_)
  | (refine And.intro ?cc ?_; (case cc => walk_at "num"))
  | (refine' Exists.intro _ (Exists.intro _ (Exists.intro _ (Exists.intro _ (And.intro rfl (And.intro rfl (And.intro ?sq (And.intro ?ha ?k))))))); (case sq => walk_at "sq"); (case ha => first | exact rfl | assumption | exact at_zero))
  | (refine' Exists.intro _ (Exists.intro _ (And.intro rfl (And.intro (Or.inl ?sq) ?k))); (case sq => walk_at "sq")))
local macro_rules | `(tactic| walk_at "sqt") => `(tactic| first | assumption | (refine Or.inl (Or.inl ?_); walk_at "hp") | (apply Same.tup <;> assumption))
local macro_rules | `(tactic| walk_at "rdt") => `(tactic| first
  | walk_at "rd"
  | (refine' Exists.intro _ (Exists.intro _ (And.intro rfl (And.intro (Or.inr ?sq) ?k))); (case sq => walk_at "sqt"))
  | (refine' Exists.intro _ (Exists.intro _ (Exists.intro _ (Exists.intro _ (And.intro rfl (And.intro rfl (And.intro ?sq (And.intro ?ha ?k))))))); (case sq => walk_at "sqt"); (case ha => first | exact rfl | assumption | exact at_zero))
  | (refine iteF ?_) | (refine iteT ?_))
local macro_rules | `(tactic| walk_at "rds") => `(tactic| repeat walk_at "rdt")
local macro_rules | `(tactic| walk_at "pull") => `(tactic| (refine' Exists.intro _ (Exists.intro _ (Exists.intro _ (And.intro rfl (And.intro ?bag (And.intro ?pos (And.intro ?fit ?kk)))))); (case bag => assumption); (case pos => first | decide | omega); (case fit => exact Fit.of (by first | decide | omega) (by first | decide | omega))))
local macro_rules | `(tactic| walk_at "two") => `(tactic| refine Exists.intro _ (Exists.intro _ (And.intro rfl ?_)))
/-! ### steps by data -/
local macro_rules | `(tactic| walk_at "side") => `(tactic| first
  | exact rfl | assumption | exact Nat.le_of_ble_eq_true rfl | decide | exact True.intro | exact le_line (Nat.le_of_ble_eq_true rfl) | exact lt_line (Nat.le_of_ble_eq_true rfl) | omega | (show (_ : Int) ≠ 0; omega) | exact cut1_ok | (unfold CPow; decide) | exact mul_ok (small_abs (by omega)) (small_abs (by omega)) | exact div_small (by omega) (by omega))
local macro_rules | `(tactic| walk_at "dR") => `(tactic| first
  | with_reducible refine run_seq ?_ | with_reducible refine run_if ?_ | with_reducible refine run_set ?_ | with_reducible refine run_ret ?_ | with_reducible refine run_next ?_
  | with_reducible refine run_asg ?_ | with_reducible refine run_for ?_ | ((with_reducible refine' run_append ?ev ?kk); (case ev => exact rfl)) | ((with_reducible refine' run_aug ?ev ?kk); (case ev => exact rfl))
  | with_reducible refine run_par ?_ | with_reducible refine run_drop ?_ | with_reducible refine run_retN ?_ | with_reducible refine run_break ?_ | with_reducible refine run_cont ?_)
local macro_rules | `(tactic| walk_at "dE") => `(tactic| first
  | ((with_reducible refine' ev_var ?ev ?kk); (case ev => exact rfl))
  | with_reducible refine ev_op ?_ | with_reducible refine ev_int ?_ | with_reducible refine ev_str ?_ | with_reducible refine ev_callC (by assumption) ?_ | with_reducible refine ev_callX (by assumption) ?_ | with_reducible refine ev_call ?_ | with_reducible refine ev_cb ?_ | with_reducible refine ev_tup ?_
  | with_reducible refine ev_if ?_ | with_reducible refine ev_and ?_ | with_reducible refine ev_or ?_ | with_reducible refine ev_not ?_ | with_reducible refine ev_bl ?_ | with_reducible refine ev_non ?_ | with_reducible refine ev_isi ?_
  | with_reducible refine ev_un ?_ | with_reducible refine ev_chain ?_ | with_reducible refine ev_lst ?_ | with_reducible refine ev_cbf ?_ | with_reducible refine ev_sl ?_ | with_reducible refine ev_m1 ?_ | with_reducible refine ev_kget ?_ | with_reducible refine ev_fmt ?_ | with_reducible refine ev_join ?_ | with_reducible refine ev_ty ?_ | with_reducible refine ev_cV ?_)
local macro_rules | `(tactic| walk_at "dT") => `(tactic| first
  | with_reducible refine evt_t ?_ | with_reducible refine evt_b ?_ | with_reducible refine evt_and ?_ | with_reducible refine evt_or ?_ | with_reducible refine evt_not ?_ | with_reducible refine evt_yes ?_)
local macro_rules | `(tactic| walk_at "dX") => `(tactic| first
  | ((with_reducible refine' evx_name ?ev ?kk); (case ev => first | exact rfl | assumption)) | with_reducible refine evx_tup ?_ | with_reducible refine evx_lst ?_ | with_reducible refine evxs_cons ?_ | with_reducible refine evxs_nil ?_
  | ((with_reducible refine' evg_name ?ev ?mm ?kk); (case ev => first | exact rfl | assumption); (case mm => decide)) | with_reducible refine evg_tup ?_ | with_reducible refine evg_lst ?_ | with_reducible refine evgs_cons ?_ | with_reducible refine evgs_nil ?_
  | with_reducible refine evi_list ?_ | with_reducible refine evi_tup ?_ | with_reducible refine evi_rng1 ?_ | with_reducible refine evi_rng2 ?_ | with_reducible refine evi_enum ?_ | with_reducible refine evi_zip ?_
  | with_reducible refine evo_none ?_ | with_reducible refine evo_some ?_ | with_reducible refine evj_cons ?_ | with_reducible refine evj_nil ?_)
local macro_rules | `(tactic| walk_at "d1") => `(tactic| first
  | ((with_reducible change Ev _ _ _ _ _); walk_at "dE")
  | ((with_reducible change Run _ _ _ _ _); walk_at "dR")
  | with_reducible refine eva_cons ?_ | with_reducible refine eva_nil ?_
  | ((with_reducible change EvT _ _ _ _ _); walk_at "dT")
  | with_reducible refine eva_star ?_
  | with_reducible refine iteT ?_ | with_reducible refine iteF ?_
  | ((with_reducible change if (_ : Bool) = true then _ else _); first | refine iteT ?_ | refine iteF ?_)
  | ((with_reducible refine And.intro ?cc ?_); (case cc => walk_at "side"))
  | ((with_reducible refine' Exists.intro _ (And.intro ?cc ?kk)); (case cc => first | exact rfl | exact at_zero))
  | ((with_reducible refine' Exists.intro _ (Exists.intro _ (And.intro ?cc ?kk))); (case cc => exact rfl))
  | ((with_reducible refine' Exists.intro _ (Exists.intro _ (Exists.intro _ (And.intro ?cc (And.intro ?cd ?kk))))); (case cc => exact rfl); (case cd => exact rfl))
  | ((with_reducible refine' Exists.intro _ (Exists.intro _ (Exists.intro _ (And.intro ?cc ?kk)))); (case cc => exact rfl))
  | ((with_reducible refine' Exists.intro _ (Exists.intro _ (Exists.intro _ (Exists.intro _ (And.intro ?cc ?kk))))); (case cc => exact rfl))
  | walk_at "dX")
local macro_rules | `(tactic| walk_at "d2") => `(tactic| walk_at "d1")
local macro_rules | `(tactic| walk_at "dgo") => `(tactic| repeat walk_at "d1")
local macro_rules | `(tactic| walk_at "wk") => `(tactic| repeat first | exact True.intro | refine And.intro (Or.inl rfl) ?_ | refine And.intro (Or.inr (And.intro rfl rfl)) ?_)
local macro_rules | `(tactic| walk_at "isi") => `(tactic| (refine' Exists.intro _ (Exists.intro _ (Exists.intro _ (Exists.intro _ (Exists.intro _ (And.intro rfl (And.intro (ClsV.ty _) (And.intro ?tt (And.intro (kit_ty ?ee) ?kk)))))))); (case tt => assumption); (case ee => first | exact kb_int_list | exact kb_int_tuple | exact kb_int_dict | exact kb_int_bool | exact kb_int_int | exact kb_int_str | exact kb_str_list | exact kb_str_tuple | exact kb_str_dict | exact kb_str_bool | exact kb_str_int | exact kb_str_str | exact kb_bool_list | exact kb_bool_tuple | exact kb_bool_dict | exact kb_bool_bool | exact kb_bool_int | exact kb_bool_str | exact kb_NoneType_list | exact kb_NoneType_tuple | exact kb_NoneType_dict | exact kb_NoneType_bool | exact kb_NoneType_int | exact kb_NoneType_str | exact kb_list_list | exact kb_list_tuple | exact kb_list_dict | exact kb_list_bool | exact kb_list_int | exact kb_list_str | exact kb_tuple_list | exact kb_tuple_tuple | exact kb_tuple_dict | exact kb_tuple_bool | exact kb_tuple_int | exact kb_tuple_str)))
-- one step
local macro_rules | `(tactic| walk_at "same") => `(tactic| repeat first | walk_at "rdt" | walk_at "isi")
/-! ### steps by data -/
local macro_rules | `(tactic| walk_at "side") => `(tactic| first
  | exact rfl | with_reducible assumption | exact Nat.le_of_ble_eq_true rfl | decide | exact True.intro | exact le_line (Nat.le_of_ble_eq_true rfl) | exact lt_line (Nat.le_of_ble_eq_true rfl) | omega | (show (_ : Int) ≠ 0; omega) | exact cut1_ok | (unfold CPow; decide) | exact mul_ok (small_abs (by omega)) (small_abs (by omega)) | exact div_small (by omega) (by omega) | assumption)
local macro_rules | `(tactic| walk_at "dR") => `(tactic| first
  | with_reducible refine run_ownNil ?_ | with_reducible refine run_ownL ?_ | ((with_reducible refine' run_extend ?ev ?kk); (case ev => exact rfl))
  | ((with_reducible refine' run_fld ?c ?n ?e ?kk); (case c => assumption); (case n => assumption); (case e => exact rfl))
  | ((with_reducible refine' run_retO ?ev ?kk); (case ev => exact rfl)) | ((with_reducible refine' run_setix ?ev ?kk); (case ev => exact rfl)) | ((with_reducible refine' run_popAt ?ev ?kk); (case ev => exact rfl)) | ((with_reducible refine' run_insert ?ev ?kk); (case ev => exact rfl)) | with_reducible refine run_parL ?_ | with_reducible refine run_ownRep ?_
  | with_reducible refine run_seq ?_ | with_reducible refine run_if ?_ | with_reducible refine run_set ?_ | with_reducible refine run_ret ?_ | with_reducible refine run_next ?_
  | with_reducible refine run_asg ?_ | with_reducible refine run_for ?_ | ((with_reducible refine' run_append ?ev ?kk); (case ev => exact rfl)) | ((with_reducible refine' run_aug ?ev ?kk); (case ev => exact rfl))
  | with_reducible refine run_par ?_ | with_reducible refine run_drop ?_ | with_reducible refine run_retN ?_ | with_reducible refine run_break ?_ | with_reducible refine run_cont ?_)
local macro_rules | `(tactic| walk_at "dE") => `(tactic| first
  | ((with_reducible refine' ev_var ?ev ?kk); (case ev => exact rfl))
  | with_reducible refine ev_lenOwn ?_
  | ((with_reducible refine' ev_fldO ?ev ?dd ?kk); (case ev => exact rfl); (case dd => exact rfl)) | with_reducible refine ev_fld ?_ | with_reducible refine ev_methX (by assumption) ?_ | with_reducible refine ev_meth ?_ | with_reducible refine ev_prop ?_ | with_reducible refine ev_makeX (by assumption) ?_ | with_reducible refine ev_make ?_ | with_reducible refine ev_ownX (by assumption) ?_ | with_reducible refine ev_own ?_ | ((with_reducible refine' ev_isiOwn ?o ?kk); (case o => assumption))
  | ((with_reducible refine' ev_ixO ?ev ?kk); (case ev => exact rfl)) | with_reducible refine ev_rev ?_ | with_reducible refine ev_op ?_ | with_reducible refine ev_int ?_ | with_reducible refine ev_str ?_ | with_reducible refine ev_callKX (by assumption) ?_ | with_reducible refine ev_callK ?_ | with_reducible refine ev_callC (by assumption) ?_ | with_reducible refine ev_callX (by assumption) ?_ | with_reducible refine ev_call ?_ | with_reducible refine ev_cb ?_ | with_reducible refine ev_tup ?_
  | with_reducible refine ev_if ?_ | with_reducible refine ev_and ?_ | with_reducible refine ev_or ?_ | with_reducible refine ev_not ?_ | with_reducible refine ev_bl ?_ | with_reducible refine ev_non ?_ | with_reducible refine ev_isi ?_
  | with_reducible refine ev_un ?_ | with_reducible refine ev_chain ?_ | with_reducible refine ev_lst ?_ | with_reducible refine ev_cbf ?_ | with_reducible refine ev_sl ?_ | with_reducible refine ev_m1 ?_ | with_reducible refine ev_kget ?_ | with_reducible refine ev_fmt ?_ | with_reducible refine ev_join ?_ | with_reducible refine ev_ty ?_ | with_reducible refine ev_cV ?_)
local macro_rules | `(tactic| walk_at "dT") => `(tactic| first
  | with_reducible refine evt_t ?_ | with_reducible refine evt_b ?_ | with_reducible refine evt_and ?_ | with_reducible refine evt_or ?_ | with_reducible refine evt_not ?_ | with_reducible refine evt_yes ?_)
local macro_rules | `(tactic| walk_at "dX") => `(tactic| first
  | ((with_reducible refine' evx_name ?ev ?kk); (case ev => first | exact rfl | assumption)) | with_reducible refine evx_tup ?_ | with_reducible refine evx_lst ?_ | with_reducible refine evxs_cons ?_ | with_reducible refine evxs_nil ?_
  | ((with_reducible refine' evg_name ?ev ?mm ?kk); (case ev => first | exact rfl | assumption); (case mm => decide)) | with_reducible refine evg_tup ?_ | with_reducible refine evg_lst ?_ | with_reducible refine evgs_cons ?_ | with_reducible refine evgs_nil ?_
  | with_reducible refine evi_list ?_ | with_reducible refine evi_tup ?_ | with_reducible refine evi_rng1 ?_ | with_reducible refine evi_rng2 ?_ | with_reducible refine evi_enum ?_ | with_reducible refine evi_zip ?_
  | with_reducible refine eva_items ?_ | with_reducible refine evi_revA ?_ | with_reducible refine evi_enumT ?_ | with_reducible refine evf_cb ?_ | with_reducible refine evo_none ?_ | with_reducible refine evo_some ?_ | with_reducible refine evj_cons ?_ | with_reducible refine evj_nil ?_)
local macro_rules | `(tactic| walk_at "d1") => `(tactic| first
  | ((with_reducible change Ev _ _ _ _ _); walk_at "dE")
  | ((with_reducible change Run _ _ _ _ _); walk_at "dR")
  | with_reducible refine eva_cons ?_ | with_reducible refine eva_nil ?_
  | ((with_reducible change EvT _ _ _ _ _); walk_at "dT")
  | with_reducible refine eva_star ?_
  | with_reducible refine iteT ?_ | with_reducible refine iteF ?_
  | ((with_reducible change if (_ : Bool) = true then _ else _); first | refine iteT ?_ | refine iteF ?_)
  | ((with_reducible refine And.intro ?cc ?_); (case cc => walk_at "side"))
  | ((with_reducible refine' Exists.intro _ (And.intro ?cc ?kk)); (case cc => first | exact rfl | exact at_zero))
  | ((with_reducible refine' Exists.intro _ (Exists.intro _ (And.intro ?cc ?kk))); (case cc => exact rfl))
  | ((with_reducible refine' Exists.intro _ (Exists.intro _ (Exists.intro _ (And.intro ?cc (And.intro ?cd ?kk))))); (case cc => exact rfl); (case cd => exact rfl))
  | ((with_reducible refine' Exists.intro _ (Exists.intro _ (Exists.intro _ (And.intro ?cc ?kk)))); (case cc => exact rfl))
  | ((with_reducible refine' Exists.intro _ (Exists.intro _ (Exists.intro _ (Exists.intro _ (And.intro ?cc ?kk))))); (case cc => exact rfl))
  | walk_at "dX")
local macro_rules | `(tactic| walk_at "d2") => `(tactic| walk_at "d1")
local macro_rules | `(tactic| walk_at "dgo") => `(tactic| repeat walk_at "d1")
local macro_rules | `(tactic| walk_at "wk") => `(tactic| repeat first | exact True.intro | refine And.intro (Or.inl rfl) ?_ | refine And.intro (Or.inr (And.intro rfl rfl)) ?_)
local macro_rules | `(tactic| walk_at "d3") => `(tactic| first
  | ((with_reducible refine' ev_lenO ?ev ?kk); (case ev => exact rfl))
  | ((with_reducible refine' run_dputT ?ev ?kk); (case ev => exact rfl)) | ((with_reducible refine' run_dputK ?ev ?kk); (case ev => exact rfl)) | with_reducible refine run_dnewK ?_ | with_reducible refine run_dnewT ?_
  | ((with_reducible refine' ev_dgetK ?ev ?kk); (case ev => exact rfl)) | ((with_reducible refine' ev_dinK ?ev ?kk); (case ev => exact rfl)) | ((with_reducible refine' ev_dinT ?ev ?kk); (case ev => exact rfl)) | ((with_reducible refine' ev_dnotinK ?ev ?kk); (case ev => exact rfl))
  | ((with_reducible refine' run_append ?ev ?kk); (case ev => exact rfl)) | with_reducible refine run_appC ?_ | with_reducible refine run_par3 ?_ | ((with_reducible refine' eva_self ?ev ?kk); (case ev => exact rfl)) | with_reducible refine evf_methN ?_ | with_reducible refine ev_methN ?_ | with_reducible refine ev_listRg1 ?_
  | with_reducible refine evi_zipM ?_)
local macro_rules | `(tactic| walk_at "dgo") => `(tactic| repeat first | walk_at "d3" | walk_at "d1")
local macro_rules | `(tactic| walk_at "d3") => `(tactic| first
  | with_reducible refine ev_strOwn ?_ | with_reducible refine ev_ownNe ?_ | with_reducible refine ev_inOwn ?_)
local macro_rules | `(tactic| walk_at "d3") => `(tactic| first
  | with_reducible refine evi_seq ?_ | with_reducible refine evi_orL ?_ | with_reducible refine ev_cref ?_ | ((with_reducible refine' ev_makeVX ?he ?ev ?kk); (case he => assumption); (case ev => exact rfl)))
local macro_rules | `(tactic| walk_at "d3") => `(tactic| first | with_reducible refine run_try0 (fun W => ?_) | with_reducible refine ev_callSD ?_)
/-! ### Word.read, with what it refuses -/
section
variable {P : Program} {w : World} {K : PySem.W.Frag} {mg : Str → Option Value} {base : Heap}
def partsOf (z : Str) : List Str := if z = "" then [] else Txt.split z "; "
/-- what reading a text's parts comes to -/
def readR (T : Txt K mg w) (z : Str) (Pq : Rs → Prop) : Prop :=
  (∃ ms : List Mv, (partsOf z).map (fun p => pmR (Txt.split p " ")) = ms.map (fun m => some (mvD m)) ∧ (∀ m ∈ ms, m.ok) ∧ wordR T (ms.map mvD) Pq) ∨
  (∃ i : Nat, (∀ k p, k < i → (partsOf z)[k]? = some p → ∃ d, pmR (Txt.split p " ") = some d) ∧ (∃ p, (partsOf z)[i]? = some p ∧ pmR (Txt.split p " ") = none) ∧ Pq (.er ⟨T.a_BadText, "at", "BadText", .int i⟩))
abbrev S_wreadx (T : Txt K mg w) : Sd := fun _ ds Pq => ∃ z : Str, ds = [.oth (.ref T.a_Word), .str z] ∧ z.length ≤ 100000 ∧ (∀ p ∈ partsOf z, p.length ≤ 1000) ∧ (partsOf z).length ≤ 1000 ∧ readR T z Pq
theorem ite_to9 {C : Cz} {ρ : List Sl} {c : Bool} {R : D → Prop} {t1 t2 : TE} (d0 : D) (h1 : c = true → Ev K C t1 ρ (fun d => d = d0)) (h2 : c = false → Ev K C t2 ρ fun d => d = d0) (hR : R d0) : if c = true then Ev K C t1 ρ R else Ev K C t2 ρ R := by
  cases c
  · exact fun σ H Q s k => h2 rfl σ H Q s fun d v H' e => k d v H' (e ▸ hR)
  · exact fun σ H Q s k => h1 rfl σ H Q s fun d v H' e => k d v H' (e ▸ hR)
theorem ok_Word_read (T : Txt K mg w) : FnOk P w K mg base (L2.CX P w) 10 T.a_Word_read T.d_Word_read P_Word_read (spD K (S_wreadx T)) := by
  have G_parse_move := ok_parse_move (P := P) (w := w) (base := base) T
  have GH_BadText := okH_BadText (P := P) (w := w) (base := base) T
  have G_Word___init__ := ok_Word___init__ (P := P) (w := w) (base := base) T
  have c1 := T.cls_Word
  refine okDX T.F_Word_read sc_Word_read (fun bs ds Pq h => ?_) (fun cdv A outer s H E hr => ⟨_, (pss_cons (ps_set (i := 2) sc_Word_read.nd rfl (Or.inl rfl) (pe_ifExp (pt_cmpR op_ne (pv 1) pe_str (nomark _)) (pe_m1 PySem.F.slot_str_split PySem.F.type_str_split k_split (pv 1) pe_str) (pe_lst pa_nil)))
  (pss_cons (ps_set (i := 3) sc_Word_read.nd rfl (Or.inl rfl) (pe_lst pa_nil))
  (pss_cons (ps_for PassesOwn.leaving rfl (k_enum (K := K) (pa_cons (pv 2) pa_nil) T.m_enumerate) (k_gT (K := K) (n := 2) (pgs_cons (pg_name (i := 4) sc_Word_read.nd rfl (Or.inl rfl)) (pgs_cons (pg_name (i := 5) sc_Word_read.nd rfl (Or.inl rfl)) pgs_nil)))
  (pss_one (ps_tryX rfl rfl ⟨by rfl, by decide, Or.inl T.g_BadText⟩ (L2H.passesAt_of rfl) (takes_of rfl rfl rfl rfl) (fun W pn xe tk _ _ =>
  (pss_one (ps_expr (k_bm (K := K) PySem.F.plainAttrs_list PySem.F.slot_list_append PySem.F.type_list_append mt_append (pv 3) (pa_cons (pe_callSD G_parse_move (hr.mono (by decide)) (by rfl) T.g_parse_move T.F_parse_move.kp T.b_parse_move .nil (fun σ => L2N.passAt tk σ) (pa_cons (pv 5) pa_nil)) pa_nil))))) (fun a oe cls d pn hz hd tks hot =>
  (pss_one (L2H.ps_raiseHN hot tks (L2H.pmk5_oexH (k := 2) T.x_BadText.o T.i_BadText T.ti_BadText GH_BadText (L2H.roomH_mark (hr.mono (by decide)) _) hot T.b_BadText pass0 (by rfl) T.g_BadText (pa_cons (pv 4) pa_nil))))))))
  (pss_one (ps_ret (k_makeV (K := K) (i := 0) T.mk_Word G_Word___init__ (hr.mono (by decide)) (passes_call (takes_of rfl rfl rfl rfl) fun _ _ _ _ h => h) rfl (by first | exact Or.inl rfl | exact Or.inr (Or.inl rfl)) (pv 3))))))), ?_⟩)
  · obtain ⟨z, rfl, _⟩ := h
    rfl
  · rintro C ds Pq hE hX ⟨z, rfl, hz, hw, hn, q⟩
    have hE' := hE.symm
    have hsl : z.length + 2 ≤ sizeLine := Nat.le_trans (Nat.add_le_add_right hz 2) (Nat.le_of_ble_eq_true rfl)
    walk_at "dgo"
    refine ite_to9 (.lst ((partsOf z).map D.str)) (fun h => ?_) (fun h => ?_) ?_
    · have hz0 : z ≠ "" := fun e => by rw [e] at h; exact absurd h (by decide)
      walk_at "dgo"
      unfold partsOf
      rw [if_neg hz0]
    · have hz0 : z = "" := by
        by_cases e : z = ""
        · exact e
        · rw [decide_eq_false (fun z => e (V.str.inj z))] at h
          exact absurd h (by decide)
      walk_at "dgo"
      unfold partsOf
      rw [if_pos hz0]
      rfl
    unfold readR at q
    generalize partsOf z = W at hw hn q
    walk_at "dgo"
    intro p
    walk_at "dgo"
    rcases q with ⟨ms, hp, hk, q⟩ | ⟨i, hbf, ⟨pi, gi, hi0⟩, q⟩
    · have hlen : W.length = ms.length := by have := congrArg List.length hp; rwa [List.length_map, List.length_map] at this
      refine forX (fun k (ys : List D) => ys = (ms.take k).map mvD) (fun ys => [.val (.oth (.ref T.a_Word)), .no, .val (.lst (W.map D.str)), .own p ys, .no, .no]) [] rfl (by walk_at "wk") (fun hv hd k d ys hi hy => ?_) (fun ys hy => seq_wk ?_)
      · obtain ⟨d, hx, rfl⟩ := enum_get hi
        obtain ⟨part, gp, rfl⟩ := map_inv hx
        have h1 : (W.map fun p => pmR (Txt.split p " "))[k]? = (ms.map fun m => some (mvD m))[k]? := congrArg (fun l => l[k]?) hp
        rw [List.getElem?_map, List.getElem?_map, gp] at h1
        obtain ⟨m, gm, hm⟩ : ∃ m, ms[k]? = some m ∧ pmR (Txt.split part " ") = some (mvD m) := by
          cases e : ms[k]? with
          | none => rw [e] at h1; cases h1
          | some m => rw [e] at h1; exact ⟨m, rfl, Option.some.inj h1⟩
        have hpl := hw part (List.mem_of_getElem? gp)
        have hkl : k < W.length := (List.getElem?_eq_some_iff.mp gp).1
        have hyl : ys.length < sizeLine := by rw [hy, List.length_map, List.length_take]; exact Nat.lt_of_lt_of_le (by omega : min k ms.length < 1000) (le_line (Nat.le_refl _))
        have hn : ys ++ [mvD m] = (ms.take (k + 1)).map mvD := by rw [List.take_add_one, gm, hy, List.map_append]; rfl
        walk_at "dgo"
        refine run_tryX (fun W0 _ => ?_)
        walk_at "dgo"
        rw [hm]
        exact ⟨hyl, ys ++ [mvD m], hn, by walk_at "wk"⟩
      rw [enumD_len, List.length_map, hlen, List.take_length] at hy
      subst hy
      refine run_freeze 3 rfl ?_
      walk_at "dgo"
      show wordR T (ms.map mvD) _
      refine wordR_mono q fun r hr => ?_
      cases r with
      | ok d => exact hr
      | er x => exact hX _ hr
    · refine forX (fun k (ys : List D) => ys.length = k ∧ k ≤ i) (fun ys => [.val (.oth (.ref T.a_Word)), .no, .val (.lst (W.map D.str)), .own p ys, .no, .no]) [] ⟨rfl, Nat.zero_le _⟩ (by walk_at "wk") (fun hv hd k d ys hi hy => ?_) (fun ys hy => seq_wk ?_)
      · obtain ⟨d, hx, rfl⟩ := enum_get hi
        obtain ⟨part, gp, rfl⟩ := map_inv hx
        have hpl := hw part (List.mem_of_getElem? gp)
        have hkl : k < W.length := (List.getElem?_eq_some_iff.mp gp).1
        have hyl : ys.length < sizeLine := by rw [hy.1]; exact Nat.lt_of_lt_of_le (by omega : k < 1000) (le_line (Nat.le_refl _))
        walk_at "dgo"
        refine run_tryX (fun W0 hW => ?_)
        by_cases e : k = i
        · subst e
          obtain rfl : part = pi := Option.some.inj (gp.symm.trans gi)
          have hW := hW fun a cls d => by
            refine run_raise hE ?_
            walk_at "dgo"
            exact hX _ q
          refine run_append rfl ?_
          refine ev_callSX hW T.e_BadText ?_
          walk_at "dgo"
          rw [hi0]
        · obtain ⟨d, hd⟩ := hbf k part (by omega) gp
          walk_at "dgo"
          rw [hd]
          refine ⟨hyl, ys ++ [d], ⟨by rw [List.length_append, hy.1]; rfl, by omega⟩, by walk_at "wk"⟩
      · have := (List.getElem?_eq_some_iff.mp gi).1
        rw [enumD_len, List.length_map] at hy
        omega
end
end Z
namespace Z
open PySem PySem.Spec PyProof.Rows L2
-- what stands at an address
local macro_rules | `(tactic| walk_at "hp") => `(tactic| first | assumption | exact upd_same | exact BagAt.at_ (by assumption) | exact BagAt.cells (by assumption) | fail "hp")
local macro_rules | `(tactic| walk_at "sq") => `(tactic| first | assumption | (refine Or.inl (Or.inl ?_); walk_at "hp") | (apply Same.seq <;> assumption))
-- bounds
local macro_rules | `(tactic| walk_at "num") => `(tactic| first
  | exact rfl | decide | exact le_line (Nat.le_of_ble_eq_true rfl) | exact lt_line (Nat.le_of_ble_eq_true rfl)
  | (exact mul_ok (small_abs (by omega)) (small_abs (by omega)))
  | (exact div_small (by omega) (by omega))
  | (exact div_ok (by omega) (by assumption))
  | (refine ⟨?_, ?_⟩ <;> omega) | omega
  | (show (_ : Int) ≠ 0; omega) | (show CPow _ _; unfold CPow; decide))
-- one step
local macro_rules | `(tactic| walk_at "rd") => `(tactic| first
  | (refine Exists.intro _ (And.intro rfl ?_))
  | (refine Exists.intro _ (Exists.intro _ (And.intro rfl (And.intro rfl ?_))))
  | (refine Or.inl (Exists.intro _ (And.intro rfl ?_)))
  | (refine Or.inr (Exists.intro _ (And.intro rfl ?_)))
  | (with_reducible refine iteF ?_) | (with_reducible refine iteT ?_)
  | (refine And.intro ?cc ?_; (case cc => walk_at "num"))
  | (refine' Exists.intro _ (Exists.intro _ (Exists.intro _ (Exists.intro _ (And.intro rfl (And.intro rfl (And.intro ?sq (And.intro ?ha ?k))))))); (case sq => walk_at "sq"); (case ha => first | exact rfl | assumption | exact at_zero))
  | (refine' Exists.intro _ (Exists.intro _ (And.intro rfl (And.intro (Or.inl ?sq) ?k))); (case sq => walk_at "sq")))
local macro_rules | `(tactic| walk_at "sqt") => `(tactic| first | assumption | (refine Or.inl (Or.inl ?_); walk_at "hp") | (apply Same.tup <;> assumption))
local macro_rules | `(tactic| walk_at "rdt") => `(tactic| first
  | walk_at "rd"
  | (refine' Exists.intro _ (Exists.intro _ (And.intro rfl (And.intro (Or.inr ?sq) ?k))); (case sq => walk_at "sqt"))
  | (refine' Exists.intro _ (Exists.intro _ (Exists.intro _ (Exists.intro _ (And.intro rfl (And.intro rfl (And.intro ?sq (And.intro ?ha ?k))))))); (case sq => walk_at "sqt"); (case ha => first | exact rfl | assumption | exact at_zero))
  | (refine iteF ?_) | (refine iteT ?_))
local macro_rules | `(tactic| walk_at "rds") => `(tactic| repeat walk_at "rdt")
local macro_rules | `(tactic| walk_at "pull") => `(tactic| (refine' Exists.intro _ (Exists.intro _ (Exists.intro _ (And.intro rfl (And.intro ?bag (And.intro ?pos (And.intro ?fit ?kk)))))); (case bag => assumption); (case pos => first | decide | omega); (case fit => exact Fit.of (by first | decide | omega) (by first | decide | omega))))
local macro_rules | `(tactic| walk_at "two") => `(tactic| refine Exists.intro _ (Exists.intro _ (And.intro rfl ?_)))
/-! ### steps by data -/
local macro_rules | `(tactic| walk_at "side") => `(tactic| first
  | exact rfl | assumption | exact Nat.le_of_ble_eq_true rfl | decide | exact True.intro | exact le_line (Nat.le_of_ble_eq_true rfl) | exact lt_line (Nat.le_of_ble_eq_true rfl) | omega | (show (_ : Int) ≠ 0; omega) | exact cut1_ok | (unfold CPow; decide) | exact mul_ok (small_abs (by omega)) (small_abs (by omega)) | exact div_small (by omega) (by omega))
local macro_rules | `(tactic| walk_at "dR") => `(tactic| first
  | with_reducible refine run_seq ?_ | with_reducible refine run_if ?_ | with_reducible refine run_set ?_ | with_reducible refine run_ret ?_ | with_reducible refine run_next ?_
  | with_reducible refine run_asg ?_ | with_reducible refine run_for ?_ | ((with_reducible refine' run_append ?ev ?kk); (case ev => exact rfl)) | ((with_reducible refine' run_aug ?ev ?kk); (case ev => exact rfl))
  | with_reducible refine run_par ?_ | with_reducible refine run_drop ?_ | with_reducible refine run_retN ?_ | with_reducible refine run_break ?_ | with_reducible refine run_cont ?_)
local macro_rules | `(tactic| walk_at "dE") => `(tactic| first
  | ((with_reducible refine' ev_var ?ev ?kk); (case ev => exact rfl))
  | with_reducible refine ev_op ?_ | with_reducible refine ev_int ?_ | with_reducible refine ev_str ?_ | with_reducible refine ev_callC (by assumption) ?_ | with_reducible refine ev_callX (by assumption) ?_ | with_reducible refine ev_call ?_ | with_reducible refine ev_cb ?_ | with_reducible refine ev_tup ?_
  | with_reducible refine ev_if ?_ | with_reducible refine ev_and ?_ | with_reducible refine ev_or ?_ | with_reducible refine ev_not ?_ | with_reducible refine ev_bl ?_ | with_reducible refine ev_non ?_ | with_reducible refine ev_isi ?_
  | with_reducible refine ev_un ?_ | with_reducible refine ev_chain ?_ | with_reducible refine ev_lst ?_ | with_reducible refine ev_cbf ?_ | with_reducible refine ev_sl ?_ | with_reducible refine ev_m1 ?_ | with_reducible refine ev_kget ?_ | with_reducible refine ev_fmt ?_ | with_reducible refine ev_join ?_ | with_reducible refine ev_ty ?_ | with_reducible refine ev_cV ?_)
local macro_rules | `(tactic| walk_at "dT") => `(tactic| first
  | with_reducible refine evt_t ?_ | with_reducible refine evt_b ?_ | with_reducible refine evt_and ?_ | with_reducible refine evt_or ?_ | with_reducible refine evt_not ?_ | with_reducible refine evt_yes ?_)
local macro_rules | `(tactic| walk_at "dX") => `(tactic| first
  | ((with_reducible refine' evx_name ?ev ?kk); (case ev => first | exact rfl | assumption)) | with_reducible refine evx_tup ?_ | with_reducible refine evx_lst ?_ | with_reducible refine evxs_cons ?_ | with_reducible refine evxs_nil ?_
  | ((with_reducible refine' evg_name ?ev ?mm ?kk); (case ev => first | exact rfl | assumption); (case mm => decide)) | with_reducible refine evg_tup ?_ | with_reducible refine evg_lst ?_ | with_reducible refine evgs_cons ?_ | with_reducible refine evgs_nil ?_
  | with_reducible refine evi_list ?_ | with_reducible refine evi_tup ?_ | with_reducible refine evi_rng1 ?_ | with_reducible refine evi_rng2 ?_ | with_reducible refine evi_enum ?_ | with_reducible refine evi_zip ?_
  | with_reducible refine evo_none ?_ | with_reducible refine evo_some ?_ | with_reducible refine evj_cons ?_ | with_reducible refine evj_nil ?_)
local macro_rules | `(tactic| walk_at "d1") => `(tactic| first
  | ((with_reducible change Ev _ _ _ _ _); walk_at "dE")
  | ((with_reducible change Run _ _ _ _ _); walk_at "dR")
  | with_reducible refine eva_cons ?_ | with_reducible refine eva_nil ?_
  | ((with_reducible change EvT _ _ _ _ _); walk_at "dT")
  | with_reducible refine eva_star ?_
  | with_reducible refine iteT ?_ | with_reducible refine iteF ?_
  | ((with_reducible change if (_ : Bool) = true then _ else _); first | refine iteT ?_ | refine iteF ?_)
  | ((with_reducible refine And.intro ?cc ?_); (case cc => walk_at "side"))
  | ((with_reducible refine' Exists.intro _ (And.intro ?cc ?kk)); (case cc => first | exact rfl | exact at_zero))
  | ((with_reducible refine' Exists.intro _ (Exists.intro _ (And.intro ?cc ?kk))); (case cc => exact rfl))
  | ((with_reducible refine' Exists.intro _ (Exists.intro _ (Exists.intro _ (And.intro ?cc (And.intro ?cd ?kk))))); (case cc => exact rfl); (case cd => exact rfl))
  | ((with_reducible refine' Exists.intro _ (Exists.intro _ (Exists.intro _ (And.intro ?cc ?kk)))); (case cc => exact rfl))
  | ((with_reducible refine' Exists.intro _ (Exists.intro _ (Exists.intro _ (Exists.intro _ (And.intro ?cc ?kk))))); (case cc => exact rfl))
  | walk_at "dX")
local macro_rules | `(tactic| walk_at "d2") => `(tactic| walk_at "d1")
local macro_rules | `(tactic| walk_at "dgo") => `(tactic| repeat walk_at "d1")
local macro_rules | `(tactic| walk_at "wk") => `(tactic| repeat first | exact True.intro | refine And.intro (Or.inl rfl) ?_ | refine And.intro (Or.inr (And.intro rfl rfl)) ?_)
/-! ### the law's own draws -/
section
variable {P : Program} {w : World} {K : PySem.W.Frag} {mg : Str → Option Value} {base : Heap}
theorem tail_take {xs : List V} (h : xs.length ≤ 63) : cutV xs none (some 63) = xs := by
  unfold cutV
  have e1 : HT.sIx xs.length 0 none = 0 := HT.sIx_none _ _
  have e2 : HT.sIx xs.length xs.length (some 63) = xs.length := by
    have := HT.sIx_nat xs.length xs.length 63
    rw [show ((63 : Nat) : Int) = 63 from rfl] at this
    rw [this]
    omega
  rw [e1, e2, List.drop_zero, Nat.sub_zero]
  exact List.take_length
theorem ne_zero {i : Int} (h : 0 < i) : i ≠ 0 := by omega
theorem ok__law_bag (T : Txt K mg w) : FnOk P w K mg base CX0 1 T.a__law_bag T.d__law_bag P__law_bag (sp_bag K) := by
  refine T.F__law_bag.ok sc__law_bag (fun vs H Q E h => ?_) (fun cdv A outer s H vs Q E hr h => ?_)
  · obtain ⟨a, ns, rfl, _⟩ := h
    rfl
  · obtain ⟨a, ns, rfl, hS, hlen, q⟩ := h
    refine ⟨_, (pss_cons (ps_set (i := 1) sc__law_bag.nd rfl (Or.inl rfl) pe_int)
  (pss_cons (ps_for PassesOwn.never rfl (k_piL (K := K) (pe_slice (k_slL (K := K)) (pv 0) po_none (po_some pe_int))) (pg_name (i := 2) sc__law_bag.nd rfl (Or.inl rfl))
  (pss_one (ps_set (i := 1) sc__law_bag.nd rfl (Or.inl rfl) (pe_op op_modN (pe_callTy call_int1 (by rfl) T.m_int boot_int (pa_cons (pe_op op_add (pe_op op_add (pe_op op_mulW (pv 1) pe_int) (pe_op op_modN (pe_callTy call_int1 (by rfl) T.m_int boot_int (pa_cons (pv 2) pa_nil)) pe_int)) pe_int) pa_nil)) pe_int))))
  (pss_one (ps_ret (pe_lst (pa_cons (pe_callTy (k_list (K := K)) (by rfl) T.m_list boot_list (pa_cons (pe_slice (k_slL (K := K)) (pv 0) po_none (po_some pe_int)) pa_nil)) (pa_cons pe_int (pa_cons pe_int (pa_cons (pv 1) pa_nil))))))))), ?_⟩
    refine ⟨.ref a, rfl, 63, rfl, a, ns.map V.int, rfl, hS, fun c nc => ?_⟩
    rw [tail_take (by rw [List.length_map]; exact hlen)]
    have s1 : Same H (upd H c (.lst (ns.map V.int))) := same_new nc
    have hC : SqL K (upd H c (.lst (ns.map V.int))) c (ns.map V.int) := .inl (.inl upd_same)
    refine ⟨c, rfl, ⟨_, hC⟩, for_list (xs := ns.map V.int) (fun i σ H' => H' = upd H c (.lst (ns.map V.int)) ∧ ∃ salt y, σ = [some (.ref a), some (.int salt), y] ∧ 0 ≤ salt ∧ salt < 2147483647)
      ⟨rfl, 3817, none, rfl, by omega, by omega⟩ (fun i σ H' _ hp => by rw [hp.1]; exact hC) (fun i x σ H' hx hp => ?_) (fun σ H' hp => ?_)⟩
    · obtain ⟨rfl, salt, y, rfl, b1, b2⟩ := hp
      obtain ⟨n, -, rfl⟩ : ∃ n, n ∈ ns ∧ V.int n = x := by simpa using List.mem_of_getElem? hx
      have c1 := fmod_lo n (m := 2147483579) (by decide)
      have c2 := fmod_hi n (m := 2147483579) (by decide)
      refine ⟨_, rfl, _, _, rfl, rfl, mul_ok (small_abs (by omega)) (small_abs (by omega)), ?_⟩
      refine ⟨_, rfl, .inl ⟨_, rfl, ?_⟩⟩
      refine ⟨_, _, rfl, rfl, ne_zero (by decide), _, _, rfl, rfl, _, _, rfl, rfl, .inl ⟨_, rfl, ?_⟩⟩
      refine ⟨_, _, rfl, rfl, ne_zero (by decide), rfl, _, _, rfl, ?_, ?_⟩
      · exact fmod_lo _ (by decide)
      · exact fmod_hi _ (by decide)
    · obtain ⟨rfl, salt, y, rfl, b1, b2⟩ := hp
      refine ⟨.ref a, rfl, 63, rfl, a, ns.map V.int, rfl, s1.seq hS, fun c2 nc2 => ?_⟩
      rw [tail_take (by rw [List.length_map]; exact hlen)]
      refine ⟨c2, _, rfl, .inl (.inl (.inl upd_same)), fun l nl => ?_⟩
      refine ⟨_, rfl, by show 4 ≤ sizeLine; decide, fun b nb => ?_⟩
      have s2 := (s1.trans (same_new nc2)).trans (same_new (o := .lst (ns.map V.int)) nl)
      have s3 := s2.trans (same_new (o := .lst [.ref l, .int 0, .int 0, .int salt]) nb)
      have nlb : l ≠ b := fun e => by
        rw [← e, upd_same] at nb
        cases nb
      refine q b l _ (s2.free nb) ((s1.trans (same_new nc2)).free nl) s3 ⟨ns, 0, 0, salt, ⟨upd_same, ?_, nlb, hlen, by omega, by omega, b1, b2⟩⟩
      rw [upd_ne nlb]
      exact upd_same
theorem ok__law_pull (T : Txt K mg w) : FnOk P w K mg base CX0 1 T.a__law_pull T.d__law_pull P__law_pull sp_pull := by
  refine T.F__law_pull.ok sc__law_pull (fun vs H Q E h => ?_) (fun cdv A outer s H vs Q E hr h => ?_)
  · obtain ⟨a, l, n, rfl, _⟩ := h
    rfl
  · obtain ⟨b, l, n, rfl, ⟨cs, i, hd, s, hB⟩, n0, n1, q⟩ := h
    refine ⟨_, (Evl.pss_cut (ps_if (PW.pt (pw_and (pt_cmpR op_eq (pe_ix (k_ixL (K := K)) (pv 0) pe_int (fun _ _ => rfl)) pe_int (nomark _)) (pw_and1 (pt_cmpR op_lt (pe_ix (k_ixL (K := K)) (pv 0) pe_int (fun _ _ => rfl)) (pe_callB (k_len (K := K)) (by rfl) T.m_len boot_len (pa_cons (pe_ix (k_ixL (K := K)) (pv 0) pe_int (fun _ _ => rfl)) pa_nil)) (nomark _)))))
  (pss_cons (ps_set (i := 2) sc__law_pull.nd rfl (Or.inl rfl) (pe_ix (k_ixL (K := K)) (pe_ix (k_ixL (K := K)) (pv 0) pe_int (fun _ _ => rfl)) (pe_ix (k_ixL (K := K)) (pv 0) pe_int (fun _ _ => rfl)) (fun _ _ => rfl)))
  (pss_cons (ps_asg (pe_op op_add (pe_ix (k_ixL (K := K)) (pv 0) pe_int (fun _ _ => rfl)) pe_int) (pg_sub (pv 0) pe_int set_list))
  (pss_one (ps_if (pt_cmpR op_ge (pv 2) (pe_op op_pow pe_int pe_int) (nomark _))
  (pss_one (ps_asg (pv 2) (pg_sub (pv 0) pe_int set_list))) (pss_one (ps_asg (pe_op op_modN (pe_callTy call_int1 (by rfl) T.m_int boot_int (pa_cons (pe_op op_add (pe_op op_add (pe_op op_mulW (pe_ix (k_ixL (K := K)) (pv 0) pe_int (fun _ _ => rfl)) pe_int) (pe_op op_mulW (pe_op op_modN (pe_callTy call_int1 (by rfl) T.m_int boot_int (pa_cons (pv 2) pa_nil)) pe_int) pe_int)) pe_int) pa_nil)) pe_int) (pg_sub (pv 0) pe_int set_list))))))) pss_nil)
  (pss_cons (ps_if (pt_cmpR op_gt (pe_ix (k_ixL (K := K)) (pv 0) pe_int (fun _ _ => rfl)) pe_int (nomark _))
  (pss_cons (ps_set (i := 3) sc__law_pull.nd rfl (Or.inl rfl) (pe_op op_modN (pe_callTy call_int1 (by rfl) T.m_int boot_int (pa_cons (pe_ix (k_ixL (K := K)) (pv 0) pe_int (fun _ _ => rfl)) pa_nil)) (pv 1)))
  (pss_cons (ps_asg (pe_op op_fdivW (pe_ix (k_ixL (K := K)) (pv 0) pe_int (fun _ _ => rfl)) (pv 1)) (pg_sub (pv 0) pe_int set_list))
  (pss_one (ps_ret (pv 3))))) pss_nil)
  (pss_cons (ps_set (i := 4) sc__law_pull.nd rfl (Or.inl rfl) (pe_ix (k_ixL (K := K)) (pv 0) pe_int (fun _ _ => rfl)))
  (pss_cons (ps_asg (pe_op op_modN (pe_callTy call_int1 (by rfl) T.m_int boot_int (pa_cons (pe_op op_add (pe_op op_add (pe_op op_mulW (pv 4) (pv 4)) (pe_op op_mulW (pv 4) pe_int)) pe_int) pa_nil)) pe_int) (pg_sub (pv 0) pe_int set_list))
  (pss_one (ps_ret (pe_op op_modN (pe_callTy call_int1 (by rfl) T.m_int boot_int (pa_cons (pe_op op_add (pe_op op_fdivW (pe_ix (k_ixL (K := K)) (pv 0) pe_int (fun _ _ => rfl)) pe_int) (pe_op op_mulW (pe_op op_modN (pe_callTy call_int1 (by rfl) T.m_int boot_int (pa_cons (pe_ix (k_ixL (K := K)) (pv 0) pe_int (fun _ _ => rfl)) pa_nil)) pe_int) pe_int)) pa_nil)) (pv 1)))))))), ?_⟩
    have i0 := hB.i0
    have hd0 := hB.h0
    have s0 := hB.s0
    have s1 := hB.s1
    refine ⟨fun σ' H' => ∃ i' hd' s' y2, BagAt H' b l cs i' hd' s' ∧ But b H H' ∧ σ' = [some (.ref b), some (.int n), y2, none, none], ?_, fun σ' H' hM => ?_⟩
    · walk_at "rds"
      refine iteE (fun h0 => ?_) (fun h0 => ?_)
      · walk_at "rds"
        refine iteD (fun h1 => ?_) (fun h1 => ?_)
        · have hl : i.toNat < cs.length := by
            rw [List.length_map] at h1
            omega
          have hat : atI (cs.map V.int) i = some (.int cs[i.toNat]) := by
            exact at_of (j := i.toNat) (by omega) (by rw [List.getElem?_map, List.getElem?_eq_getElem hl]; rfl)
          walk_at "rds"
          refine bag_set hB rfl rfl (by omega) hd0 s0 s1 (fun H2 hB2 b2 => ?_)
          walk_at "rds"
          refine iteD (fun h2 => ?_) (fun h2 => ?_)
          · have h3 : (0 : Int) ≤ cs[i.toNat] := Int.le_trans (by decide) h2
            walk_at "rds"
            exact bag_set hB2 rfl rfl (by omega) h3 s0 s1 fun H3 hB3 b3 => ⟨_, _, _, _, hB3, b2.trans b3, rfl⟩
          · have c1 := fmod_lo cs[i.toNat] (m := 2147483579) (by decide)
            have c2 := fmod_hi cs[i.toNat] (m := 2147483579) (by decide)
            walk_at "rds"
            exact bag_set hB2 rfl rfl (by omega) hd0 (fmod_lo _ (by decide)) (fmod_hi _ (by decide)) fun H3 hB3 b3 => ⟨_, _, _, _, hB3, b2.trans b3, rfl⟩
        · exact ⟨_, _, _, _, hB, But.refl _ _, rfl⟩
      · walk_at "rds"
        exact ⟨_, _, _, _, hB, But.refl _ _, rfl⟩
    · obtain ⟨i', hd', s', y2, hB', hb', rfl⟩ := hM
      have i0 := hB'.i0
      have hd0 := hB'.h0
      have s0 := hB'.s0
      have s1 := hB'.s1
      walk_at "rds"
      refine iteD (fun h0 => ?_) (fun h0 => ?_)
      · have nn : n ≠ 0 := by omega
        walk_at "rds"
        refine bag_set hB' rfl rfl i0 (Int.ediv_nonneg hd0 (by omega)) s0 s1 (fun H2 hB2 b2 => ?_)
        walk_at "rds"
        exact q _ _ (fmod_lo _ n0) (fmod_hi _ n0) ⟨_, _, _, _, hB2⟩ (hb'.trans b2)
      · have nn : n ≠ 0 := by omega
        walk_at "rds"
        refine bag_set hB' rfl rfl i0 hd0 (fmod_lo _ (by decide)) (fmod_hi _ (by decide)) (fun H2 hB2 b2 => ?_)
        have c1 := hB2.s0
        have c2 := hB2.s1
        generalize (s' * s' + s' * 48271 + 1013904223).fmod 2147483647 = z at hB2 c1 c2
        have c3 := fmod_lo z (m := 8191) (by decide)
        have c4 := fmod_hi z (m := 8191) (by decide)
        walk_at "rds"
        exact q _ _ (fmod_lo _ n0) (fmod_hi _ n0) ⟨_, _, _, _, hB2⟩ (hb'.trans b2)
end
local macro_rules | `(tactic| walk_at "isi") => `(tactic| (refine' Exists.intro _ (Exists.intro _ (Exists.intro _ (Exists.intro _ (Exists.intro _ (And.intro rfl (And.intro (ClsV.ty _) (And.intro ?tt (And.intro (kit_ty ?ee) ?kk)))))))); (case tt => assumption); (case ee => first | exact kb_int_list | exact kb_int_tuple | exact kb_int_dict | exact kb_int_bool | exact kb_int_int | exact kb_int_str | exact kb_str_list | exact kb_str_tuple | exact kb_str_dict | exact kb_str_bool | exact kb_str_int | exact kb_str_str | exact kb_bool_list | exact kb_bool_tuple | exact kb_bool_dict | exact kb_bool_bool | exact kb_bool_int | exact kb_bool_str | exact kb_NoneType_list | exact kb_NoneType_tuple | exact kb_NoneType_dict | exact kb_NoneType_bool | exact kb_NoneType_int | exact kb_NoneType_str | exact kb_list_list | exact kb_list_tuple | exact kb_list_dict | exact kb_list_bool | exact kb_list_int | exact kb_list_str | exact kb_tuple_list | exact kb_tuple_tuple | exact kb_tuple_dict | exact kb_tuple_bool | exact kb_tuple_int | exact kb_tuple_str)))
-- one step
local macro_rules | `(tactic| walk_at "same") => `(tactic| repeat first | walk_at "rdt" | walk_at "isi")
/-- what is drawn from a list -/
theorem pickD {ds : List D} {p : D → Prop} (h : ∀ d, d ∈ ds → p d) (i : Nat) (d : D) (e : ds[i]? = some d) : p d := h d (List.mem_of_getElem? e)
theorem all2 {a b : D} {p : D → Prop} (h1 : p a) (h2 : p b) : ∀ d, d ∈ [a, b] → p d := fun d m => by
  rcases List.mem_cons.mp m with rfl | m
  · exact h1
  · exact List.mem_singleton.mp m ▸ h2
theorem all3 {a b c : D} {p : D → Prop} (h1 : p a) (h2 : p b) (h3 : p c) : ∀ d, d ∈ [a, b, c] → p d := fun d m => by
  rcases List.mem_cons.mp m with rfl | m
  · exact h1
  · exact all2 h2 h3 d m
section
variable {P : Program} {w : World} {K : PySem.W.Frag} {mg : Str → Option Value} {base : Heap}
abbrev S_pull : Sd := fun bs ds Pq => ∃ (b l : Addr) (n : Int), bs = [(b, l)] ∧ ds = [.oth (.ref b), .int n] ∧ 0 < n ∧ n < 1000000000000000000000000000000000000000000 ∧ ∀ r : Int, 0 ≤ r → r < n → Pq (.ok (.int r))
theorem okd_pull (T : Txt K mg w) : FnOk P w K mg base CX0 1 T.a__law_pull T.d__law_pull P__law_pull (spD K S_pull) :=
  FnOk.weak (ok__law_pull T) fun vs H Q E h => by
    obtain ⟨O, ts, bs, ds, Pq, a, lv, bg, ht, ⟨b, l, n, rfl, rfl, h0, hf, q⟩, q1, q2⟩ := h
    cases a with
    | cons a1 a2 =>
      cases a1
      cases a2 with
      | cons a2 a3 =>
        cases a2
        cases a3
        refine ⟨b, l, n, rfl, (bg _ (List.mem_cons_self ..)).1, h0, Fit.of (by omega) hf, fun r H' r0 r1 hB e => ?_⟩
        refine q1 (.int r) _ H' (q r r0 r1) (fun x o n h _ => e x o (fun z => n (z ▸ List.mem_cons_self ..)) h) (fun p m => ?_) (fun q m => ?_) (fun p m => ?_) (.int r)
        · by_cases z : p = b
          · obtain ⟨cs, i, hh, sd, y⟩ := hB
            rw [z, y.at_]
            exact fun z => nomatch z
          · intro y
            cases e' : H p with
            | none => exact lv p m e'
            | some o => rw [e p o z e'] at y; cases y
        · obtain rfl := List.mem_singleton.mp m
          exact hB
        · obtain ⟨cs, i, hh, sd, y⟩ := (bg _ (List.mem_cons_self ..)).1
          exact (ht p m).but e ⟨_, y.at_⟩
abbrev S_of : Sd := fun bs ds Pq => ∃ (b l : Addr) (xs : List D), bs = [(b, l)] ∧ ds = [.oth (.ref b), .lst xs] ∧ 0 < xs.length ∧ xs.length ≤ 1000 ∧ ∀ (i : Nat) (d : D), xs[i]? = some d → Pq (.ok d)
theorem ok__law_of (T : Txt K mg w) : FnOk P w K mg base CX0 2 T.a__law_of T.d__law_of P__law_of (spD K S_of) := by
  have G__law_pull := okd_pull (P := P) (w := w) (base := base) T
  refine okD T.F__law_of sc__law_of (fun bs ds Pq h => ?_) (fun cdv A outer s H E hr => ⟨_, (pss_one (ps_ret (pe_ix (k_ixL (K := K)) (pv 1) (pe_call G__law_pull (hr.mono (by decide)) (by rfl) T.g__law_pull T.F__law_pull.kp T.b__law_pull .nil pass0 (pa_cons (pv 0) (pa_cons (pe_callB (k_len (K := K)) (by rfl) T.m_len boot_len (pa_cons (pv 1) pa_nil)) pa_nil))) (fun _ _ => rfl)))), ?_⟩)
  · obtain ⟨b, l, xs, _, rfl, _⟩ := h
    rfl
  · rintro C ds Pq hE hX ⟨b, l, xs, hb, rfl, h0, h1, q⟩
    walk_at "dgo"
    intro r r0 r1
    have hi : r.toNat < xs.length := by omega
    have hr : r = (r.toNat : Int) := by omega
    have hx : atI xs r = some xs[r.toNat] := by
      have h := atI_nat (List.getElem?_eq_getElem hi)
      rwa [← hr] at h
    exact ⟨_, hx, q r.toNat _ (List.getElem?_eq_getElem hi)⟩
end
/-! ### the law's comparison -/
/-- equal data, at most d deep -/
inductive Sm (K : PySem.W.Frag) (H : Hp) : Nat → V → V → Prop where
  | int (d : Nat) (i : Int) : Sm K H d (.int i) (.int i)
  | str (d : Nat) (z : Str) : Sm K H d (.str z) (.str z)
  | bl (d : Nat) (b : Bool) : Sm K H d (.bl b) (.bl b)
  | non (d : Nat) : Sm K H d .non .non
  | lst {d : Nat} {a b : Addr} {xs ys : List V} (hx : SqL K H a xs) (hy : SqL K H b ys) (hl : xs.length = ys.length) (hz : xs.length < 1000) (h : ∀ (i : Nat) (x y : V), xs[i]? = some x → ys[i]? = some y → Sm K H d x y) : Sm K H (d + 1) (.ref a) (.ref b)
  | tup {d : Nat} {a b : Addr} {xs ys : List V} (hx : SqT K H a xs) (hy : SqT K H b ys) (hl : xs.length = ys.length) (hz : xs.length < 1000) (h : ∀ (i : Nat) (x y : V), xs[i]? = some x → ys[i]? = some y → Sm K H d x y) : Sm K H (d + 1) (.ref a) (.ref b)
theorem Sm.same {K : PySem.W.Frag} {H H' : Hp} {d : Nat} {x y : V} (h : Sm K H d x y) (e : Same H H') : Sm K H' d x y := by
  induction h with
  | int d i => exact .int d i
  | str d z => exact .str d z
  | bl d b => exact .bl d b
  | non d => exact .non d
  | lst hx hy hl hz _ ih => exact .lst (e.seq hx) (e.seq hy) hl hz ih
  | tup hx hy hl hz _ ih => exact .tup (Same.tup e hx) (Same.tup e hy) hl hz ih
def sp_same (K : PySem.W.Frag) (d : Nat) : Sp := fun vs H Q _ => ∃ x y : V, vs = [x, y] ∧ Sm K H d x y ∧ ∀ H', Same H H' → Q (.bl true) H'
theorem all_true (n : Nat) : (List.replicate n true).all id = true := by
  rw [List.all_eq_true]
  intro b hb
  exact (List.mem_replicate.mp hb).2
section
variable {P : Program} {w : World} {K : PySem.W.Frag} {mg : Str → Option Value} {base : Heap}
theorem ok_same_step (T : Txt K mg w) {k : Nat} {spr : Sp} (G__law_same : FnOk P w K mg base CX0 k T.a__law_same T.d__law_same P__law_same spr) (d : Nat) (hspr : ∀ e, d = e + 1 → ∀ x y H (Q : VK) E, Sm K H e x y → (∀ H', Same H H' → Q (.bl true) H') → spr [x, y] H Q E) :
    FnOk P w K mg base CX0 (k + 1) T.a__law_same T.d__law_same P__law_same (sp_same K d) := by
  refine T.F__law_same.ok sc__law_same (fun vs H Q E h => ?_) (fun cdv A outer s H vs Q E hr h => ?_)
  · obtain ⟨x, y, rfl, _⟩ := h
    rfl
  · obtain ⟨x, y, rfl, hS, q⟩ := h
    refine ⟨_, (pss_cons (ps_if (PW.pt (pw_or (pt_val (pe_callB (k_isi (K := K)) (by rfl) T.m_isinstance boot_isinstance (pa_cons (pv 1) (pa_cons (pe_bltn (v := .ty "list") (by rfl) T.m_list boot_list rfl) pa_nil)))) (pw_or1 (pt_val (pe_callB (k_isi (K := K)) (by rfl) T.m_isinstance boot_isinstance (pa_cons (pv 1) (pa_cons (pe_bltn (v := .ty "tuple") (by rfl) T.m_tuple boot_tuple rfl) pa_nil)))))))
  (pss_cons (ps_if (PW.pt (pw_or (pt_cmpR op_ne (pe_callB (k_isi (K := K)) (by rfl) T.m_isinstance boot_isinstance (pa_cons (pv 0) (pa_cons (pe_bltn (v := .ty "list") (by rfl) T.m_list boot_list rfl) pa_nil))) (pe_callB (k_isi (K := K)) (by rfl) T.m_isinstance boot_isinstance (pa_cons (pv 1) (pa_cons (pe_bltn (v := .ty "list") (by rfl) T.m_list boot_list rfl) pa_nil))) (nomark _)) (pw_or1 (pt_cmpR op_ne (pe_callB (k_isi (K := K)) (by rfl) T.m_isinstance boot_isinstance (pa_cons (pv 0) (pa_cons (pe_bltn (v := .ty "tuple") (by rfl) T.m_tuple boot_tuple rfl) pa_nil))) (pe_callB (k_isi (K := K)) (by rfl) T.m_isinstance boot_isinstance (pa_cons (pv 1) (pa_cons (pe_bltn (v := .ty "tuple") (by rfl) T.m_tuple boot_tuple rfl) pa_nil))) (nomark _)))))
  (pss_one (ps_ret pe_bl)) pss_nil)
  (pss_one (ps_ret (pe_and (pe_cmpR op_eq (pe_callB (k_len (K := K)) (by rfl) T.m_len boot_len (pa_cons (pv 0) pa_nil)) (pe_callB (k_len (K := K)) (by rfl) T.m_len boot_len (pa_cons (pv 1) pa_nil)) (nomark _)) (pe_one (pe_callB (k_all (K := K)) (by rfl) T.m_all boot_all (pa_cons (pe_lc (own := [("_law_one", 2), ("_law_other", 3)]) rfl sc__law_same.nd (k_zip (K := K) (pa_cons (pv 0) (pa_cons (pv 1) pa_nil)) T.m_zip) (blkOk_by (N := N__law_same) (sc := defScope s__law_same) (by decide +kernel)) (fun _ _ _ _ _ => (k_gT (K := K) (n := 2) (pgs_cons (pg_name (i := 2) sc__law_same.nd rfl (Or.inl rfl)) (pgs_cons (pg_name (i := 3) sc__law_same.nd rfl (Or.inl rfl)) pgs_nil)))) (fun _ _ _ _ _ => pts_nil) (fun _ _ _ _ _ => (pe_call G__law_same hr (by rfl) T.g__law_same T.F__law_same.kp T.b__law_same .nil pass0 (pa_cons (pv 2) (pa_cons (pv 3) pa_nil))))) pa_nil))))))) pss_nil)
  (pss_cons (ps_if (pt_val (pe_callB (k_isi (K := K)) (by rfl) T.m_isinstance boot_isinstance (pa_cons (pv 1) (pa_cons (pe_bltn (v := .ty "dict") (by rfl) T.m_dict boot_dict rfl) pa_nil))))
  (pss_one ps_never) pss_nil)
  (pss_cons (ps_if (PW.pt (pw_or (pt_cmpR op_isN (pv 1) pe_non (nomark _)) (pw_or1 (pt_cmpR op_isN (pv 0) pe_non (nomark _)))))
  (pss_one (ps_ret (pe_and (pe_cmpR op_isN (pv 1) pe_non (nomark _)) (pe_one (pe_cmpR op_isN (pv 0) pe_non (nomark _)))))) pss_nil)
  (pss_cons (ps_if (PW.pt (pw_or (pt_cmpR op_ne (pe_callB (k_isi (K := K)) (by rfl) T.m_isinstance boot_isinstance (pa_cons (pv 0) (pa_cons (pe_bltn (v := .ty "bool") (by rfl) T.m_bool boot_bool rfl) pa_nil))) (pe_callB (k_isi (K := K)) (by rfl) T.m_isinstance boot_isinstance (pa_cons (pv 1) (pa_cons (pe_bltn (v := .ty "bool") (by rfl) T.m_bool boot_bool rfl) pa_nil))) (nomark _)) (pw_or1 (pt_cmpR op_ne (pe_callB (k_isi (K := K)) (by rfl) T.m_isinstance boot_isinstance (pa_cons (pv 0) (pa_cons (pe_bltn (v := .ty "int") (by rfl) T.m_int boot_int rfl) pa_nil))) (pe_callB (k_isi (K := K)) (by rfl) T.m_isinstance boot_isinstance (pa_cons (pv 1) (pa_cons (pe_bltn (v := .ty "int") (by rfl) T.m_int boot_int rfl) pa_nil))) (nomark _)))))
  (pss_one (ps_ret pe_bl)) pss_nil)
  (pss_one (ps_ret (pe_and (pe_cmpR op_eq (pe_callB (k_isi (K := K)) (by rfl) T.m_isinstance boot_isinstance (pa_cons (pv 0) (pa_cons (pe_bltn (v := .ty "str") (by rfl) T.m_str boot_str rfl) pa_nil))) (pe_callB (k_isi (K := K)) (by rfl) T.m_isinstance boot_isinstance (pa_cons (pv 1) (pa_cons (pe_bltn (v := .ty "str") (by rfl) T.m_str boot_str rfl) pa_nil))) (nomark _)) (pe_one (pe_cmpR op_eq (pv 0) (pv 1) (nomark _)))))))))), ?_⟩
    cases hS with
    | int _ i =>
      have tx : TyX K H (.int i) (.type "int") := .base (.int i)
      walk_at "same"
      show Q (V.bl (decide (V.int i = V.int i))) H
      rw [decide_eq_true rfl]
      exact q H (Same.refl H)
    | str _ z =>
      have tx : TyX K H (.str z) (.type "str") := .base (.str z)
      walk_at "same"
      show Q (V.bl (decide (V.str z = V.str z))) H
      rw [decide_eq_true rfl]
      exact q H (Same.refl H)
    | bl _ b =>
      have tx : TyX K H (.bl b) (.type "bool") := .base (.bl b)
      walk_at "same"
      show Q (V.bl (decide (V.bl b = V.bl b))) H
      rw [decide_eq_true rfl]
      exact q H (Same.refl H)
    | non =>
      have tx : TyX K H .non (.type "NoneType") := .base .non
      walk_at "same"
      exact q H (Same.refl H)
    | @lst _ a b xs ys hx hy hl hz hh =>
      have tx := tyL hx
      have ty := tyL hy
      walk_at "same"
      refine iteE (fun _ => ?_) (fun e => absurd (by rw [hl]) e)
      refine ⟨.ref a, rfl, .ref b, rfl, a, b, xs, ys, rfl, .inl ⟨hx, hy, fun D hD => ?_⟩⟩
      have s0 : Same H (upd H D (.lst [])) := same_new hD
      refine lc_by (n := xs.length) (fun i H' => Same H H' ∧ H' D = some (.lst ((List.replicate i true).map V.bl))) ⟨s0, upd_same⟩
        (fun i H' hi hp => ⟨xs, ys, xs[i], ys[i]'(hl ▸ hi), hp.1.seq hx, hp.1.seq hy, List.getElem?_eq_getElem hi, List.getElem?_eq_getElem (hl ▸ hi)⟩)
        (fun H' hp => ⟨xs, ys, hp.1.seq hx, hp.1.seq hy, .inl (Nat.le_refl _)⟩) (fun i H' v H2 hi hp hv => ?_) (fun H' hp => ?_)
      · obtain ⟨t, x, y, rfl, nt, rfl, f1, f2⟩ := hv
        obtain ⟨hp1, hp2⟩ := hp
        have gx := f1 xs (hp1.seq hx)
        have gy := f2 ys (hp1.seq hy)
        have s2 : Same H (upd H' t (.tup [x, y])) := Same.new hp1 nt
        refine ⟨t, [x, y], rfl, .inl (.inl upd_same), rfl, x, [y], rfl, y, [], rfl, rfl, rfl, x, rfl, y, rfl, ?_⟩
        refine hspr _ rfl x y _ _ _ ((hh i x y gx gy).same s2) fun H3 s3 => ⟨_, s3 _ _ (same_new nt _ _ hp2), ?_, Same.mut (s2.trans s3) hD, ?_⟩
        · rw [List.length_map, List.length_replicate]
          exact lt_line (by omega)
        · rw [upd_same, List.replicate_succ']
          simp
      · refine ⟨D, _, rfl, .inl (.inl hp.2), ?_⟩
        rw [all_true]
        exact q H' hp.1
    | @tup _ a b xs ys hx hy hl hz hh =>
      have tx := tyT hx
      have ty := tyT hy
      walk_at "same"
      refine iteE (fun _ => ?_) (fun e => absurd (by rw [hl]) e)
      refine ⟨.ref a, rfl, .ref b, rfl, a, b, xs, ys, rfl, .inr ⟨hx, hy, fun D hD => ?_⟩⟩
      have s0 : Same H (upd H D (.lst [])) := same_new hD
      refine lc_by (n := xs.length) (fun i H' => Same H H' ∧ H' D = some (.lst ((List.replicate i true).map V.bl))) ⟨s0, upd_same⟩
        (fun i H' hi hp => ⟨xs, ys, xs[i], ys[i]'(hl ▸ hi), Same.tup hp.1 hx, Same.tup hp.1 hy, List.getElem?_eq_getElem hi, List.getElem?_eq_getElem (hl ▸ hi)⟩)
        (fun H' hp => ⟨xs, ys, Same.tup hp.1 hx, Same.tup hp.1 hy, .inl (Nat.le_refl _)⟩) (fun i H' v H2 hi hp hv => ?_) (fun H' hp => ?_)
      · obtain ⟨t, x, y, rfl, nt, rfl, f1, f2⟩ := hv
        obtain ⟨hp1, hp2⟩ := hp
        have gx := f1 xs (Same.tup hp1 hx)
        have gy := f2 ys (Same.tup hp1 hy)
        have s2 : Same H (upd H' t (.tup [x, y])) := Same.new hp1 nt
        refine ⟨t, [x, y], rfl, .inl (.inl upd_same), rfl, x, [y], rfl, y, [], rfl, rfl, rfl, x, rfl, y, rfl, ?_⟩
        refine hspr _ rfl x y _ _ _ ((hh i x y gx gy).same s2) fun H3 s3 => ⟨_, s3 _ _ (same_new nt _ _ hp2), ?_, Same.mut (s2.trans s3) hD, ?_⟩
        · rw [List.length_map, List.length_replicate]
          exact lt_line (by omega)
        · rw [upd_same, List.replicate_succ']
          simp
      · refine ⟨D, _, rfl, .inl (.inl hp.2), ?_⟩
        rw [all_true]
        exact q H' hp.1
theorem ok_same (T : Txt K mg w) (d : Nat) : FnOk P w K mg base CX0 (d + 1) T.a__law_same T.d__law_same P__law_same (sp_same K d) := by
  induction d with
  | zero =>
    have z : FnOk P w K mg base CX0 0 T.a__law_same T.d__law_same P__law_same (fun _ _ _ _ => False) := ⟨fun _ _ _ _ h => h.elim, fun _ _ _ _ _ _ _ _ _ _ _ _ _ h => h.elim⟩
    exact ok_same_step T z 0 fun e h => nomatch h
  | succ d ih => exact ok_same_step T ih (d + 1) fun e he x y H Q E h q => ⟨x, y, rfl, (Nat.succ.inj he) ▸ h, q⟩
end
/-! ### the law's sameness, by data -/
/-- equal data, at most n deep -/
def smD : Nat → D → Prop
  | _, .int _ => True
  | _, .str _ => True
  | _, .bl _ => True
  | _, .non => True
  | n + 1, .tup l => l.length < 1000 ∧ ∀ d, d ∈ l → smD n d
  | n + 1, .lst l => l.length < 1000 ∧ ∀ d, d ∈ l → smD n d
  | _, _ => False
theorem sm_of {K : PySem.W.Frag} {O : Ads} {H : Hp} : ∀ {n : Nat} {d : D} {x y : V}, smD n d → At K O H x d → At K O H y d → Sm K H n x y := by
  intro n
  induction n with
  | zero =>
    intro d x y h a b
    cases a with
    | int i => cases b; exact .int _ _
    | str i => cases b; exact .str _ _
    | bl i => cases b; exact .bl _ _
    | non => cases b; exact .non _
    | _ => exact h.elim
  | succ n ih =>
    intro d x y h a b
    have both : ∀ {xs ys : List V} {ds : List D}, (∀ d, d ∈ ds → smD n d) → AtAll K O H xs ds → AtAll K O H ys ds → ∀ (i : Nat) (x y : V), xs[i]? = some x → ys[i]? = some y → Sm K H n x y := fun h a b i x y e1 e2 => by
      obtain ⟨d, g1, g2⟩ := a.get e1
      obtain ⟨d', g3, g4⟩ := b.get e2
      obtain rfl := Option.some.inj (g1.symm.trans g3)
      exact ih (h _ (List.mem_of_getElem? g1)) g2 g4
    cases a with
    | int i => cases b; exact .int _ _
    | str i => cases b; exact .str _ _
    | bl i => cases b; exact .bl _ _
    | non => cases b; exact .non _
    | tup h1 _ h3 =>
      cases b with
      | tup g1 _ g3 => exact .tup h1 g1 (h3.length.trans g3.length.symm) (h3.length ▸ h.1) (both h.2 h3 g3)
    | lst h1 _ h3 =>
      cases b with
      | lst g1 _ g3 => exact .lst (SqL.of h1) (SqL.of g1) (h3.length.trans g3.length.symm) (h3.length ▸ h.1) (both h.2 h3 g3)
    | ins _ _ _ => exact h.elim
    | oth _ => exact h.elim
    | fn _ => exact h.elim
    | any _ => exact h.elim
section
variable {P : Program} {w : World} {K : PySem.W.Frag} {mg : Str → Option Value} {base : Heap}
abbrev S_same (n : Nat) : Sd := fun _ ds Pq => as2 ds fun d e => d = e ∧ smD n d ∧ Pq (.ok (.bl true))
theorem okd_same {k : Nat} {n : Nat} {f : Addr} {fd : FuncData} {ps : List Str} (F : FnOk P w K mg base CX0 k f fd ps (sp_same K n)) : FnOk P w K mg base CX0 k f fd ps (spD K (S_same n)) :=
  FnOk.weak F fun vs H Q E h => by
    obtain ⟨O, ts, bs, ds, Pq, a, lv, bg, ht, h, q1, q2⟩ := h
    obtain ⟨v, v', d, e, rfl, a1, a2, rfl, hs, q⟩ := all_2 a h
    refine ⟨v, v', rfl, sm_of hs a1 a2, fun H' s => ?_⟩
    exact q1 (.bl true) _ H' q (Fr.of s) (fun p m y => by
      cases e' : H p with
      | none => exact lv p m e'
      | some o => rw [s p o e'] at y; cases y) (fun q m => (bg q m).1.same s) (fun p m => (ht p m).ext s) (.bl _)
end
/-! ### the law's question of an error -/
def fieldOf (z : Str) : Option Str :=
  if inV (.str z) [.str "BadPlace", .str "NoPlace"] = true then some "place"
  else if inV (.str z) [.str "BadMove", .str "BadText", .str "BadRemainder", .str "BadDeed"] = true then some "at"
  else if inV (.str z) [.str "TooLong", .str "TooWide", .str "TooGreat", .str "TooSmall", .str "Full"] = true then some "limit"
  else if inV (.str z) [.str "BadName", .str "Taken", .str "NoWord", .str "NoPile", .str "NoMark"] = true then some "name"
  else if inV (.str z) [.str "InUse", .str "NoWatch"] = true then some "number"
  else if decide (V.str z = .str "BadSize") = true then some "size"
  else if decide (V.str z = .str "BadRounds") = true then some "rounds"
  else if decide (V.str z = .str "BadCapacity") = true then some "value"
  else if decide (V.str z = .str "BadPage") = true then some "row" else none
/-- an error: its class, its code, what it is asked for -/
def ErrAt (K : PySem.W.Frag) (H : Hp) (cls : Value) (d : Option Addr) (z : Str) (v : V) : Prop := ∃ (C dd : Addr) (fs : List (Str × V)), cls = .ref C ∧ d = some dd ∧ XRd K C "code" ∧ H dd = some (.xd fs) ∧ fs.lookup ("code" : Str) = some (.str z) ∧
  (∀ f, fieldOf z = some f → XRd K C f ∧ fs.lookup f = some v) ∧ (fieldOf z = none → v = .non)
def sp_field (K : PySem.W.Frag) : Addr → Value → Option Addr → Sp := fun a cls d vs H Q _ => vs = [.ref a] ∧ ∃ (z : Str) (v : V), ErrAt K H cls d z v ∧ ∀ H', Same H H' → Q v H'
theorem iteC {c : Bool} {A B : Prop} (h1 : c = true → A) (h2 : c = false → B) : if c = true then A else B := by
  cases c
  · exact iteF (h2 rfl)
  · exact iteT (h1 rfl)
section
variable {P : Program} {w : World} {K : PySem.W.Frag} {mg : Str → Option Value} {base : Heap}
theorem ok_field (T : Txt K mg w) : FnP P w K mg base 2 T.a__law_field T.d__law_field P__law_field (sp_field K) := by
  obtain ⟨oc, od, kV, doc, pm, an, cdv, ct, osl, e, lk, hcd⟩ := T.F__law_field.ex
  rw [e] at lk ⊢
  refine fn_ofP lk hcd sc__law_field (fun a cls d vs H Q E h => ?_) (fun A outer s H vs Q p cls d hz hf hr h => ?_)
  · rw [h.1]
    rfl
  · obtain ⟨rfl, z, v, hE, q⟩ := h
    refine ⟨_, (pss_cons (ps_if (pt_cmpR (k_in (K := K)) (k_xg (K := K) List.mem_cons_self hz hf (pv 0)) (pe_lst (pa_cons pe_str (pa_cons pe_str pa_nil))) (by rfl))
  (pss_one (ps_ret (k_xg (K := K) List.mem_cons_self hz hf (pv 0)))) pss_nil)
  (pss_cons (ps_if (pt_cmpR (k_in (K := K)) (k_xg (K := K) List.mem_cons_self hz hf (pv 0)) (pe_lst (pa_cons pe_str (pa_cons pe_str (pa_cons pe_str (pa_cons pe_str pa_nil))))) (by rfl))
  (pss_one (ps_ret (k_xg (K := K) List.mem_cons_self hz hf (pv 0)))) pss_nil)
  (pss_cons (ps_if (pt_cmpR (k_in (K := K)) (k_xg (K := K) List.mem_cons_self hz hf (pv 0)) (pe_lst (pa_cons pe_str (pa_cons pe_str (pa_cons pe_str (pa_cons pe_str (pa_cons pe_str pa_nil)))))) (by rfl))
  (pss_one (ps_ret (k_xg (K := K) List.mem_cons_self hz hf (pv 0)))) pss_nil)
  (pss_cons (ps_if (pt_cmpR (k_in (K := K)) (k_xg (K := K) List.mem_cons_self hz hf (pv 0)) (pe_lst (pa_cons pe_str (pa_cons pe_str (pa_cons pe_str (pa_cons pe_str (pa_cons pe_str pa_nil)))))) (by rfl))
  (pss_one (ps_ret (k_xg (K := K) List.mem_cons_self hz hf (pv 0)))) pss_nil)
  (pss_cons (ps_if (pt_cmpR (k_in (K := K)) (k_xg (K := K) List.mem_cons_self hz hf (pv 0)) (pe_lst (pa_cons pe_str (pa_cons pe_str pa_nil))) (by rfl))
  (pss_one (ps_ret (k_xg (K := K) List.mem_cons_self hz hf (pv 0)))) pss_nil)
  (pss_cons (ps_if (pt_cmpR op_eq (k_xg (K := K) List.mem_cons_self hz hf (pv 0)) pe_str (nomark _))
  (pss_one (ps_ret (k_xg (K := K) List.mem_cons_self hz hf (pv 0)))) pss_nil)
  (pss_cons (ps_if (pt_cmpR op_eq (k_xg (K := K) List.mem_cons_self hz hf (pv 0)) pe_str (nomark _))
  (pss_one (ps_ret (k_xg (K := K) List.mem_cons_self hz hf (pv 0)))) pss_nil)
  (pss_cons (ps_if (pt_cmpR op_eq (k_xg (K := K) List.mem_cons_self hz hf (pv 0)) pe_str (nomark _))
  (pss_one (ps_ret (k_xg (K := K) List.mem_cons_self hz hf (pv 0)))) pss_nil)
  (pss_one (ps_ret (pe_ifExp (pt_cmpR op_eq (k_xg (K := K) List.mem_cons_self hz hf (pv 0)) pe_str (nomark _)) (k_xg (K := K) List.mem_cons_self hz hf (pv 0)) pe_non))))))))))), ?_⟩
    obtain ⟨C, dd, fs, rfl, rfl, hC, hH, hl, hf1, hf0⟩ := hE
    have s0 : Same H H := Same.refl H
    refine ⟨_, rfl, rfl, C, dd, fs, .str z, rfl, rfl, hC, s0 _ _ hH, hl, ?_⟩
    walk_at "rds"
    intro D1 nD1
    have s1 := Same.new s0 (o := .lst [.str "BadPlace", .str "NoPlace"]) nD1
    refine ⟨D1, _, rfl, .inl (.inl (.inl upd_same)), rfl, rfl, _, rfl, iteC (fun e => ?_) (fun e1 => ?_)⟩
    · change inV _ _ = true at e
      obtain ⟨h1, h2⟩ := hf1 "place" (by unfold fieldOf; rw [if_pos e])
      exact ⟨_, rfl, rfl, C, dd, fs, v, rfl, rfl, h1, s1 _ _ hH, h2, q _ s1⟩
    change inV _ _ = false at e1
    refine ⟨_, rfl, rfl, C, dd, fs, .str z, rfl, rfl, hC, s1 _ _ hH, hl, ?_⟩
    walk_at "rds"
    intro D2 nD2
    have s2 := Same.new s1 (o := .lst [.str "BadMove", .str "BadText", .str "BadRemainder", .str "BadDeed"]) nD2
    refine ⟨D2, _, rfl, .inl (.inl (.inl upd_same)), rfl, rfl, _, rfl, iteC (fun e => ?_) (fun e2 => ?_)⟩
    · change inV _ _ = true at e
      obtain ⟨h1, h2⟩ := hf1 "at" (by unfold fieldOf; rw [if_neg (by rw [e1]; decide)]; rw [if_pos e])
      exact ⟨_, rfl, rfl, C, dd, fs, v, rfl, rfl, h1, s2 _ _ hH, h2, q _ s2⟩
    change inV _ _ = false at e2
    refine ⟨_, rfl, rfl, C, dd, fs, .str z, rfl, rfl, hC, s2 _ _ hH, hl, ?_⟩
    walk_at "rds"
    intro D3 nD3
    have s3 := Same.new s2 (o := .lst [.str "TooLong", .str "TooWide", .str "TooGreat", .str "TooSmall", .str "Full"]) nD3
    refine ⟨D3, _, rfl, .inl (.inl (.inl upd_same)), rfl, rfl, _, rfl, iteC (fun e => ?_) (fun e3 => ?_)⟩
    · change inV _ _ = true at e
      obtain ⟨h1, h2⟩ := hf1 "limit" (by unfold fieldOf; rw [if_neg (by rw [e1]; decide)]; rw [if_neg (by rw [e2]; decide)]; rw [if_pos e])
      exact ⟨_, rfl, rfl, C, dd, fs, v, rfl, rfl, h1, s3 _ _ hH, h2, q _ s3⟩
    change inV _ _ = false at e3
    refine ⟨_, rfl, rfl, C, dd, fs, .str z, rfl, rfl, hC, s3 _ _ hH, hl, ?_⟩
    walk_at "rds"
    intro D4 nD4
    have s4 := Same.new s3 (o := .lst [.str "BadName", .str "Taken", .str "NoWord", .str "NoPile", .str "NoMark"]) nD4
    refine ⟨D4, _, rfl, .inl (.inl (.inl upd_same)), rfl, rfl, _, rfl, iteC (fun e => ?_) (fun e4 => ?_)⟩
    · change inV _ _ = true at e
      obtain ⟨h1, h2⟩ := hf1 "name" (by unfold fieldOf; rw [if_neg (by rw [e1]; decide)]; rw [if_neg (by rw [e2]; decide)]; rw [if_neg (by rw [e3]; decide)]; rw [if_pos e])
      exact ⟨_, rfl, rfl, C, dd, fs, v, rfl, rfl, h1, s4 _ _ hH, h2, q _ s4⟩
    change inV _ _ = false at e4
    refine ⟨_, rfl, rfl, C, dd, fs, .str z, rfl, rfl, hC, s4 _ _ hH, hl, ?_⟩
    walk_at "rds"
    intro D5 nD5
    have s5 := Same.new s4 (o := .lst [.str "InUse", .str "NoWatch"]) nD5
    refine ⟨D5, _, rfl, .inl (.inl (.inl upd_same)), rfl, rfl, _, rfl, iteC (fun e => ?_) (fun e5 => ?_)⟩
    · change inV _ _ = true at e
      obtain ⟨h1, h2⟩ := hf1 "number" (by unfold fieldOf; rw [if_neg (by rw [e1]; decide)]; rw [if_neg (by rw [e2]; decide)]; rw [if_neg (by rw [e3]; decide)]; rw [if_neg (by rw [e4]; decide)]; rw [if_pos e])
      exact ⟨_, rfl, rfl, C, dd, fs, v, rfl, rfl, h1, s5 _ _ hH, h2, q _ s5⟩
    change inV _ _ = false at e5
    refine ⟨_, rfl, rfl, C, dd, fs, .str z, rfl, rfl, hC, s5 _ _ hH, hl, ?_⟩
    walk_at "rds"
    refine iteC (fun e => ?_) (fun e6 => ?_)
    · obtain ⟨h1, h2⟩ := hf1 "size" (by unfold fieldOf; rw [if_neg (by rw [e1]; decide)]; rw [if_neg (by rw [e2]; decide)]; rw [if_neg (by rw [e3]; decide)]; rw [if_neg (by rw [e4]; decide)]; rw [if_neg (by rw [e5]; decide)]; rw [if_pos e])
      exact ⟨_, rfl, rfl, C, dd, fs, v, rfl, rfl, h1, s5 _ _ hH, h2, q _ s5⟩
    refine ⟨_, rfl, rfl, C, dd, fs, .str z, rfl, rfl, hC, s5 _ _ hH, hl, ?_⟩
    walk_at "rds"
    refine iteC (fun e => ?_) (fun e7 => ?_)
    · obtain ⟨h1, h2⟩ := hf1 "rounds" (by unfold fieldOf; rw [if_neg (by rw [e1]; decide)]; rw [if_neg (by rw [e2]; decide)]; rw [if_neg (by rw [e3]; decide)]; rw [if_neg (by rw [e4]; decide)]; rw [if_neg (by rw [e5]; decide)]; rw [if_neg (by rw [e6]; decide)]; rw [if_pos e])
      exact ⟨_, rfl, rfl, C, dd, fs, v, rfl, rfl, h1, s5 _ _ hH, h2, q _ s5⟩
    refine ⟨_, rfl, rfl, C, dd, fs, .str z, rfl, rfl, hC, s5 _ _ hH, hl, ?_⟩
    walk_at "rds"
    refine iteC (fun e => ?_) (fun e8 => ?_)
    · obtain ⟨h1, h2⟩ := hf1 "value" (by unfold fieldOf; rw [if_neg (by rw [e1]; decide)]; rw [if_neg (by rw [e2]; decide)]; rw [if_neg (by rw [e3]; decide)]; rw [if_neg (by rw [e4]; decide)]; rw [if_neg (by rw [e5]; decide)]; rw [if_neg (by rw [e6]; decide)]; rw [if_neg (by rw [e7]; decide)]; rw [if_pos e])
      exact ⟨_, rfl, rfl, C, dd, fs, v, rfl, rfl, h1, s5 _ _ hH, h2, q _ s5⟩
    refine ⟨_, rfl, rfl, C, dd, fs, .str z, rfl, rfl, hC, s5 _ _ hH, hl, ?_⟩
    walk_at "rds"
    refine iteC (fun e => ?_) (fun e9 => ?_)
    · obtain ⟨h1, h2⟩ := hf1 "row" (by unfold fieldOf; rw [if_neg (by rw [e1]; decide)]; rw [if_neg (by rw [e2]; decide)]; rw [if_neg (by rw [e3]; decide)]; rw [if_neg (by rw [e4]; decide)]; rw [if_neg (by rw [e5]; decide)]; rw [if_neg (by rw [e6]; decide)]; rw [if_neg (by rw [e7]; decide)]; rw [if_neg (by rw [e8]; decide)]; rw [if_pos e])
      exact ⟨_, rfl, rfl, C, dd, fs, v, rfl, rfl, h1, s5 _ _ hH, h2, q _ s5⟩
    have hv := hf0 (by unfold fieldOf; rw [if_neg (by rw [e1]; decide)]; rw [if_neg (by rw [e2]; decide)]; rw [if_neg (by rw [e3]; decide)]; rw [if_neg (by rw [e4]; decide)]; rw [if_neg (by rw [e5]; decide)]; rw [if_neg (by rw [e6]; decide)]; rw [if_neg (by rw [e7]; decide)]; rw [if_neg (by rw [e8]; decide)]; rw [if_neg (by rw [e9]; decide)])
    rw [hv] at q
    exact q _ s5
end
/-! ### the law asks: a value, or what the error tells -/
/-- tl: the reading of what is asked; PE_: the class PileError -/
def TTry (K : PySem.W.Frag) (PE_ : Addr) : (XK → Hp → VK → Prop) → Hp → VK → Prop := fun tl H Q =>
  tl (fun cls d H' => PySem.W.exmOne K cls (.ref PE_) = some true ∧ ∃ (z : Str) (v : V), ErrAt K H' cls d z v ∧ ∀ (t : Addr) H2, H' t = none → Same H' H2 → H2 t = some (.tup [.str z, v]) → Q (.ref t) H2)
    H (fun v H' => [V.str "value", v].length ≤ sizeLine ∧ ∀ p : Addr, H' p = none → Q (.ref p) (upd H' p (.tup [.str "value", v])))
abbrev qLam : Str := "law.<locals>.<lambda>"
theorem ErrAt.code {K : PySem.W.Frag} {H : Hp} {cls : Value} {d : Option Addr} {z : Str} {v : V} (h : ErrAt K H cls d z v) : ∃ (C dd : Addr) (fs : List (Str × V)), cls = .ref C ∧ d = some dd ∧ XRd K C "code" ∧ H dd = some (.xd fs) ∧ fs.lookup ("code" : Str) = some (.str z) := by
  obtain ⟨C, dd, fs, h1, h2, h3, h4, h5, _⟩ := h
  exact ⟨C, dd, fs, h1, h2, h3, h4, h5⟩
theorem raised_of {K : PySem.W.Frag} {C PE : Addr} {fs : List Str} {fld code : Str} {v : V} {H : Hp} {Q : VK} (X : ExcT K C PE fs) (hc : ("code" : Str) ∈ fs) (hf : fld ∈ fs) (hn : (("code" : Str) == fld) = false) (ho : fieldOf code = some fld)
    (h : ∀ (t : Addr) H2, H t = none → Same H H2 → H2 t = some (.tup [.str code, v]) → Q (.ref t) H2) :
    Raised C fld code v H (fun cls d H' => PySem.W.exmOne K cls (.ref PE) = some true ∧ ∃ (z : Str) (v : V), ErrAt K H' cls d z v ∧ ∀ (t : Addr) H2, H' t = none → Same H' H2 → H2 t = some (.tup [.str z, v]) → Q (.ref t) H2) := by
  intro dd nd
  refine ⟨X.e, code, v, ⟨C, dd, _, rfl, rfl, X.rd hc, upd_same, ?_, fun f e => ?_, fun e => ?_⟩, fun t H2 nt s e => h t H2 ?_ ((same_new nd).trans s) e⟩
  · simp [List.lookup, hn]
  · rw [ho] at e
    cases e
    refine ⟨X.rd hf, ?_⟩
    simp [List.lookup]
  · rw [ho] at e
    cases e
  · by_cases e : t = dd
    · rw [e, upd_same] at nt
      cases nt
    · rwa [upd_ne e] at nt
theorem roomP {A : Around} {o : Option Value} (h : L2H.RoomH 3 A) : L2H.RoomH 2 (A.mark o) := ⟨(h.mono (j := 2) (by decide)).dp, (h.mono (j := 2) (by decide)).un⟩
section
variable {K : PySem.W.Frag} {mg : Str → Option Value} {w : World}
theorem gives_try (T : Txt K mg w) {X : Cx} {sg : Scope} {bg : List Stmt} {cdg : Value} {q : Str} (hK : X.K = K) (hmg : X.mg = mg) (hw : X.w = w) (hs : sg = defScope s__law_try) (hb : bg = defBody s__law_try) (hr : Room 6 X.A) :
    LamX.GivesTo X N__law_try "_law_try" sg T.a__law_try cdg bg "_law_ask" q (TTry K T.a_PileError) := by
  subst hs hb hK hmg hw
  have F := ok_field (P := X.prog) (base := X.base) T
  intro f c' s H Q tl act hc h
  have hr2 : L2H.RoomH 3 (X.A.deeper (envOfC "_law_try" (defScope s__law_try) s.heap.objs.size T.a__law_try cdg)) := L2H.roomH_of ((hr.mono (by decide)).deeper _)
  refine ⟨_, pss_one (ps_try_manyA (X := (cxOf C8.CX0 X.prog X.w X.K X.mg X.base N__law_try "_law_try" (defScope s__law_try) T.a__law_try cdg X.A X.stack s H C8.E0).nox)
    (l := [(.ref T.a_PileError, 1, fun a cls d => tRet (tTup (tCons (tXg X.K a cls d "code" (tVar 1)) (tCons (tCallP (sp_field X.K) a cls d (tCons (tVar 1) tNil)) tNil)))), (.ref T.a_Missing, 1, fun a cls d => tRet (tTup (tCons (tXg X.K a cls d "code" (tVar 1)) (tCons (tCallP (sp_field X.K) a cls d (tCons (tVar 1) tNil)) tNil))))])
    (tb := fun W D σ H => ∃ Ech : XK, (∀ cls d σ' H', Ech cls d H' → W cls d σ' H') ∧ σ[0]? = some (some (.ref f)) ∧ H c' = some (LamX.CodeO c' q) ∧ tl Ech H (fun v H' => [V.str "value", v].length ≤ sizeLine ∧ ∀ p : Addr, H' p = none → D.rt (.ref p) (upd H' p (.tup [.str "value", v]))))
    rfl rfl sc__law_try.nd takes0 (fun W pn xe tk _ => ?_)
    (.cons ⟨rfl, rfl, .inl T.g_PileError⟩ rfl rfl (fun a oe cls d pn hz hf => ?_) (.cons ⟨rfl, rfl, .inl T.g_Missing⟩ rfl rfl (fun a oe cls d pn hz hf => ?_) .nil))), ?_⟩
  · refine ⟨fun pins s' σ H' D I h' => ?_⟩
    obtain ⟨Ech, hW, h1, h2, h3⟩ := h'
    exact (pss_one (ps_ret (pe_tup (pa_cons pe_str (pa_cons (act W pn xe Ech _ _ tk hW) pa_nil))))).run pins s' σ H' D I ⟨h1, h2, h3⟩
  · exact pss_one (ps_ret (pe_tup (pa_cons (k_xg (p := (a, oe)) (K := X.K) List.mem_cons_self hz hf (pv 1)) (pa_cons (pe_callP (p := (a, oe)) List.mem_cons_self hz hf F (roomP hr2) (by rfl) T.g__law_field T.F__law_field.kp T.b__law_field (pa_cons (pv 1) pa_nil)) pa_nil))))
  · exact pss_one (ps_ret (pe_tup (pa_cons (k_xg (p := (a, oe)) (K := X.K) List.mem_cons_self hz hf (pv 1)) (pa_cons (pe_callP (p := (a, oe)) List.mem_cons_self hz hf F (roomP hr2) (by rfl) T.g__law_field T.F__law_field.kp T.b__law_field (pa_cons (pv 1) pa_nil)) pa_nil))))
  · refine ⟨fun cls d H' => PySem.W.exmOne X.K cls (.ref T.a_PileError) = some true ∧ ∃ (z : Str) (v : V), ErrAt X.K H' cls d z v ∧ ∀ (t : Addr) H2, H' t = none → Same H' H2 → H2 t = some (.tup [.str z, v]) → Q (.ref t) H2, fun cls d σ' H' hE => ?_, rfl, hc, h⟩
    obtain ⟨he, z, v, hA, hq⟩ := hE
    refine ⟨true, he, fun _ a na hl => ?_, fun e => nomatch e⟩
    obtain ⟨C, dd, fs, rfl, rfl, h3, h4, h5⟩ := hA.code
    have e1 : (σ'.set 1 (some (.ref a)))[1]? = some (some (.ref a)) := by
      rw [List.getElem?_set, if_pos rfl, if_pos (by rw [hl]; exact Nat.lt_succ_self 1)]
    refine ⟨_, e1, rfl, C, dd, fs, .str z, rfl, rfl, h3, h4, h5, _, e1, rfl, z, v, hA, fun H2 s2 => ⟨le_line (Nat.le_of_ble_eq_true rfl), fun p hp => hq p _ (s2.free hp) (Same.new s2 hp) upd_same⟩⟩
end
/-! ### the law asks, by data -/
def noOwn : List Sl → List Sl
  | [] => []
  | .cell _ _ :: r => .no :: noOwn r
  | s :: r => s :: noOwn r
theorem owns_noOwn : ∀ ρ : List Sl, owns (noOwn ρ) = []
  | [] => rfl
  | .cell _ _ :: r => owns_noOwn r
  | .no :: r => owns_noOwn r
  | .val _ :: r => owns_noOwn r
theorem sls_noOwn {K : PySem.W.Frag} {O : Ads} {H : Hp} {σ : L2.St} {ρ : List Sl} (h : Sls K O H σ ρ) : Sls K O H σ (noOwn ρ) := by
  induction h with
  | nil => exact .nil
  | cons a t ih =>
    cases a with
    | no x => exact .cons (.no _) ih
    | val a => exact .cons (.val a) ih
    | cell h a => exact .cons (.no _) ih
theorem St.frB {K : PySem.W.Frag} {C : Cz} {ρ : List Sl} {σ : L2.St} {H H' : Hp} (s : St K C ρ σ H) (f : Fr (Bs C) H H') : Fr C.N C.H0 H' := fun b o n h0 nt => by
  have h1 := s.fr b o n h0 nt
  refine f b o (fun z => ?_) h1 nt
  obtain ⟨q, hq, rfl⟩ := List.mem_map.mp z
  rcases s.nO.2 q hq with z2 | z2
  · exact absurd z2 n
  · rw [z2] at h0; cases h0
/-- an error that the law's question tells -/
def tells (K : PySem.W.Frag) (PE : Addr) (x : Ex) : Prop := ∃ fs, ExcT K x.C PE fs ∧ ("code" : Str) ∈ fs ∧ x.fld ∈ fs ∧ (("code" : Str) == x.fld) = false ∧ fieldOf x.code = some x.fld
def tryX (K : PySem.W.Frag) (PE : Addr) (P : D → Prop) (x : Ex) : Prop := tells K PE x ∧ P (.tup [.str x.code, x.val])
theorem ev_try {K : PySem.W.Frag} {C : Cz} {ρ : List Sl} {P : D → Prop} {PE p b l : Addr} {t : XK → TE} (hts : C.tabs = [p]) (hO : C.O0 = [b]) (hbs : C.bags = [(b, l)])
    (h : ∀ C' : Cz, C'.bags = C.bags → C'.tabs = C.tabs → C'.X = tryX K PE P → Ev K C' (t C'.E) (noOwn ρ) fun d => P (.tup [.str "value", d])) : Ev K C (LamX.tLam [(p, qLam)] (TTry K PE) t) ρ P := fun σ H Q s k => by
  have hp : p ∈ C.tabs := by rw [hts]; exact List.mem_singleton.mpr rfl
  refine ⟨fun q hq => ?_, fun H1 eN T1 => ?_⟩
  · obtain rfl := List.mem_singleton.mp hq
    exact s.tb p hp
  have t1 : ∀ q, q ∈ C.tabs → Tab H1 q := fun q hq => by
    rw [hts] at hq
    obtain rfl := List.mem_singleton.mp hq
    exact T1 _ (List.mem_singleton.mpr rfl)
  have fE : ∀ N, Fr N H H1 := fun N a o _ e nt => eN a o e nt
  have bgE : ∀ q, q ∈ C.bags → Bag H1 q.1 q.2 := fun q m => by
    obtain ⟨cs, i, hh, sd, y⟩ := (s.bg q m).1
    exact ⟨cs, i, hh, sd, eN _ _ y.at_ (fun _ z => nomatch z), eN _ _ y.cells (fun _ z => nomatch z), y.ne, y.len, y.i0, y.h0, y.s0, y.s1⟩
  have lvE : ∀ q, q ∈ Os C ρ → H1 q ≠ none := fun q m => by
    rcases List.mem_append.mp m with m | m
    · rw [hO] at m
      obtain rfl := List.mem_singleton.mp m
      obtain ⟨cs, i, hh, sd, y⟩ := bgE (q, l) (by rw [hbs]; exact List.mem_singleton.mpr rfl)
      rw [y.at_]
      exact fun z => nomatch z
    · obtain ⟨c, m⟩ := mem_owns.mp m
      obtain ⟨i, e⟩ := List.getElem?_of_mem m
      obtain ⟨x, _, a⟩ := s.sl.get e
      cases a with
      | cell h2 a => rw [eN _ _ h2 a.nt]; exact fun z => nomatch z
  have s1 : St K C ρ σ H1 := s.bfr (fE _) (s.frB (fE _)) lvE bgE t1
  have en := owns_noOwn ρ
  let Ech : XK := fun cls d H' => PySem.W.exmOne K cls (.ref PE) = some true ∧ ∃ (z : Str) (v : V), ErrAt K H' cls d z v ∧ ∀ (t : Addr) H2, H' t = none → Same H' H2 → H2 t = some (.tup [.str z, v]) → Q (.ref t) H2
  have eO : ∀ x, x ∈ Os C ρ ++ owns (noOwn ρ) → x ∈ Os C ρ := fun x m => by rwa [en, List.append_nil] at m
  have back : ∀ {H2 : Hp}, Fr (Bs C) H1 H2 → (∀ p, p ∈ Os C ρ → H2 p ≠ none) → (∀ q, q ∈ C.bags → Bag H2 q.1 q.2) → (∀ p, p ∈ C.tabs → Tab H2 p) → St K C ρ σ H2 := fun f lv bg tb => s1.bfr f (s1.frB f) lv bg tb
  have s' : St K ⟨Os C ρ, H1, C.bags.map (·.1), C.bags, [], [], Ech, tryX K PE P, C.tabs⟩ (noOwn ρ) σ H1 := by
    refine ⟨?_, by rw [en]; exact List.nodup_nil, Fr.refl _ _, fun x m => lvE x (eO x m), ⟨fun x m => ?_, fun q m => .inl (List.mem_map.mpr ⟨q, m, rfl⟩)⟩, fun x m => ?_, fun q m => ⟨bgE q m, List.mem_append_left _ (s1.bg q m).2.1, fun z => (s1.bg q m).2.2 (eO _ z)⟩, .nil, fun x hx v H' f lv bg tb a => ?_, t1⟩
    · show Sls K (Os C ρ ++ owns (noOwn ρ)) H1 σ (noOwn ρ)
      rw [en, List.append_nil]
      exact sls_noOwn s1.sl
    · obtain ⟨q, hq, rfl⟩ := List.mem_map.mp m
      exact List.mem_append_left _ (s1.bg q hq).2.1
    · rw [en] at m; exact nomatch m
    · obtain ⟨⟨fs, X, hc, hf, hn, ho⟩, hP⟩ := hx
      refine raised_of X hc hf hn ho fun t H2 nt sm e => ?_
      have s2 := back (f.trans (Fr.of sm)) (fun p m z => lv p m (sm.free z)) (fun q m => (bg q m).same sm) fun p m => (tb p m).ext sm
      exact k _ _ _ hP s2 ((fE _).trans (f.trans (Fr.of sm))) (.tup (.inl (.inl e)) (.inl fun m => lv t m nt) (.cons (.str _) (.one (a.fr (.of sm)))))
  refine h ⟨Os C ρ, H1, C.bags.map (·.1), C.bags, [], [], Ech, tryX K PE P, C.tabs⟩ rfl rfl rfl σ H1 _ s' fun d v H' p s2 f2 a2 => ⟨show (2 : Nat) ≤ sizeLine from le_line (Nat.le_of_ble_eq_true rfl), fun q nq => ?_⟩
  have e2 : Same H' (upd H' q (.tup [.str "value", v])) := same_upd nq
  have s3 := (back f2 (fun p m => s2.lv p (List.mem_append_left _ m)) (fun q m => (s2.bg q m).1) s2.tb).same e2
  have a3 : At K (Os C ρ) H' v d := by
    have a2 : At K (Os C ρ ++ owns (noOwn ρ)) H' v d := a2
    rwa [en, List.append_nil] at a2
  exact k _ _ _ p s3 (((fE _).trans f2).trans (Fr.of e2)) (At.mkTup nq (fun m => s2.lv q (List.mem_append_left _ m) nq) (.cons (.str _) (.one a3)))
/-- a law's body, after its bag is made: with a table of lambdas -/
theorem law_runT {K : PySem.W.Frag} {t : TS} {Q : VK} {E : XK} {a b l p : Addr} {H : Hp} {n : Nat} (hB : Bag H b l) (hT : Tab H p) (k : ∀ H', Q (.bl true) H')
    (h : ∀ C : Cz, C.E = E → C.bags = [(b, l)] → C.tabs = [p] → C.O0 = [b] → Run K C t (.val (.oth (.ref a)) :: .val (.oth (.ref b)) :: List.replicate n .no) fun o => o = .rt (.bl true)) :
    t { nx := fun _ H' => Q .non H', rt := Q } (some (.ref a) :: some (.ref b) :: List.replicate n none) H := by
  have eo : owns (.val (.oth (.ref a)) :: .val (.oth (.ref b)) :: List.replicate n Sl.no) = [] := owns_vals [.oth (.ref a), .oth (.ref b)] n
  have nl : l ∉ [b] := by
    obtain ⟨cs, i, hh, sd, y⟩ := hB
    exact fun m => y.ne (List.mem_singleton.mp m)
  have lb : H b ≠ none := by
    obtain ⟨cs, i, hh, sd, y⟩ := hB
    rw [y.at_]
    exact fun z => nomatch z
  refine h ⟨[b], H, [b], [(b, l)], [], [], E, fun _ => False, [p]⟩ rfl rfl rfl rfl _ _ H ?_ ?_
  · refine ⟨?_, by rw [eo]; exact List.nodup_nil, Fr.refl _ _, ?_, ⟨fun p m => m, fun q m => .inl ?_⟩, ?_, ?_, .nil, fun x h => h.elim, fun q m => by rw [List.mem_singleton.mp m]; exact hT⟩
    · exact .cons (.val (.oth _)) (.cons (.val (.oth _)) (by
        clear eo h
        induction n with
        | zero => exact .nil
        | succ n ih => exact .cons (.no _) ih))
    · show ∀ p, p ∈ [b] ++ owns _ → _
      rw [eo, List.append_nil]
      exact fun p m => List.mem_singleton.mp m ▸ lb
    · obtain rfl := List.mem_singleton.mp m
      exact List.mem_singleton.mpr rfl
    · rw [eo]; exact fun p m => nomatch m
    · intro q m
      obtain rfl := List.mem_singleton.mp m
      refine ⟨hB, List.mem_singleton.mpr rfl, ?_⟩
      show l ∉ [b] ++ owns _
      rw [eo, List.append_nil]
      exact nl
  · exact ⟨fun _ _ _ p => (nomatch p), fun d v ρ σ H' p s a => by cases p; cases a; exact k _, fun _ _ _ p => (nomatch p), fun _ _ _ p => (nomatch p)⟩
/-- the errors of the program -/
theorem tells_of {K : PySem.W.Frag} {C PE : Addr} {fld code : Str} {v : D} (X : ExcT K C PE ["code", fld]) (h1 : (("code" : Str) == fld) = false) (h2 : fieldOf code = some fld) : tells K PE ⟨C, fld, code, v⟩ :=
  ⟨_, X, List.mem_cons_self .., List.mem_cons_of_mem _ (List.mem_cons_self ..), h1, h2⟩
/-! ### lambdas in a list, by data -/
theorem ev_mk {K : PySem.W.Frag} {C : Cz} {ρ : List Sl} {Pr : D → Prop} {p b l : Addr} {cells : List (Str × Addr)} {ps : Arguments} {bd : Expr} {sc : Scope} {n : Nat} (hts : C.tabs = [p]) (hO : C.O0 = [b]) (hbs : C.bags = [(b, l)])
    (h : ∀ (f c' : Addr) (ds : List Addr), ds.length = n → Pr (.fn (lmL qLam ps bd sc cells f c' ds))) : Ev K C (tMk qLam p cells ps bd sc n) ρ Pr := fun σ H Q s k => by
  have hp : p ∈ C.tabs := by rw [hts]; exact List.mem_singleton.mpr rfl
  refine ⟨s.tb p hp, fun f c' ds H1 hd eN T1 lv hl => ?_⟩
  have t1 : ∀ q, q ∈ C.tabs → Tab H1 q := fun q hq => by
    rw [hts] at hq
    obtain rfl := List.mem_singleton.mp hq
    exact T1
  have f1 : ∀ N, Fr N H H1 := fun N a o _ e nt => eN a o e nt
  have s1 : St K C ρ σ H1 := s.kept (f1 []) (fun a m => lv a (s.lv a m)) t1
  refine k _ _ _ (h f c' ds hd) s1 (f1 _) (.fn fun q hq => ?_)
  obtain ⟨h1, h2, h3⟩ := hl q hq
  refine ⟨h1, fun m => ?_, h3⟩
  rcases h2 with z | z
  · exact s.lv _ m z
  · have no : ∀ ys, q.2 ≠ .lst ys := fun ys e => by
      rcases List.mem_cons.mp hq with rfl | hq
      · exact nomatch e
      rcases List.mem_cons.mp hq with rfl | hq
      · exact nomatch (show HO.ext _ = HO.lst ys from e)
      obtain ⟨d, _, rfl⟩ := List.mem_map.mp hq
      exact nomatch e
    have no3 : ∀ kvs, q.2 ≠ .dK kvs := fun kvs e => by
      rcases List.mem_cons.mp hq with rfl | hq
      · exact nomatch e
      rcases List.mem_cons.mp hq with rfl | hq
      · exact nomatch (show HO.ext _ = HO.dK kvs from e)
      obtain ⟨d, _, rfl⟩ := List.mem_map.mp hq
      exact nomatch e
    have no4 : ∀ kvs, q.2 ≠ .dT kvs := fun kvs e => by
      rcases List.mem_cons.mp hq with rfl | hq
      · exact nomatch e
      rcases List.mem_cons.mp hq with rfl | hq
      · exact nomatch (show HO.ext _ = HO.dT kvs from e)
      obtain ⟨d, _, rfl⟩ := List.mem_map.mp hq
      exact nomatch e
    have no2 : ∀ C dx fs, q.2 ≠ .ins C dx fs := fun C dx fs e => by
      rcases List.mem_cons.mp hq with rfl | hq
      · exact nomatch e
      rcases List.mem_cons.mp hq with rfl | hq
      · exact nomatch (show HO.ext _ = HO.ins C dx fs from e)
      obtain ⟨d, _, rfl⟩ := List.mem_map.mp hq
      exact nomatch e
    rcases List.mem_append.mp m with m | m
    · rw [hO] at m
      have e := List.mem_singleton.mp m
      obtain ⟨cs, i, hh, sd, y⟩ := (s.bg (b, l) (by rw [hbs]; exact List.mem_singleton.mpr rfl)).1
      rw [e, y.at_] at z
      exact no _ (Option.some.inj z).symm
    · obtain ⟨c, m⟩ := mem_owns.mp m
      obtain ⟨i, e⟩ := List.getElem?_of_mem m
      obtain ⟨x, _, a⟩ := s.sl.get e
      cases a with
      | cell h2 a =>
        rw [z] at h2
        cases a with
        | lst _ => exact no _ (Option.some.inj h2)
        | ins _ => exact no2 _ _ _ (Option.some.inj h2)
        | dK _ _ => exact no3 _ (Option.some.inj h2)
        | dT _ _ => exact no4 _ (Option.some.inj h2)
theorem at_fn {K : PySem.W.Frag} {O : Ads} {H : Hp} {v : V} {f : Addr} {o : HO} {r : List (Addr × HO)} (a : At K O H v (.fn ((f, o) :: r))) : v = .ref f ∧ ∀ p ∈ (f, o) :: r, H p.1 = some p.2 := by
  cases a with
  | fn h => exact ⟨rfl, fun p m => (h p m).1⟩
theorem ev_ask {K : PySem.W.Frag} {C : Cz} {ρ : List Sl} {P : D → Prop} {PE f c' : Addr} {i : Nat} {vs : List Nat} {ls : List Lm} {cells : List (Str × Addr)} {ds : List Addr} (m : Lm) (hm : m ∈ ls) (hi : ρ[i]? = some (.val (.fn (lmL qLam m.ps m.b m.sc cells f c' ds)))) (hds : ds.length = m.n) (hv : nowns ρ vs = true)
    (h : ∀ C' : Cz, C'.bags = C.bags → C'.tabs = C.tabs → C'.X = tryX K PE P → Ev K C' (m.t C'.E) (noOwn (wipeR ρ vs)) fun d => P (.tup [.str "value", d])) : Ev K C (tAsk (TTry K PE) qLam cells i vs ls) ρ P := fun σ H Q s k => by
  obtain ⟨x, ex, a⟩ := s.sl.get hi
  obtain ⟨v, rfl, a2⟩ : ∃ v, x = some v ∧ At K (Os C ρ) H v (.fn (lmL qLam m.ps m.b m.sc cells f c' ds)) := by
    cases a with
    | val a => exact ⟨_, rfl, a⟩
  obtain ⟨rfl, facts⟩ := at_fn (show At K (Os C ρ) H v (.fn ((f, _) :: _)) from a2)
  have facts : ∀ p ∈ lmL qLam m.ps m.b m.sc cells f c' ds, H p.1 = some p.2 := facts
  refine ⟨m, hm, f, c', ds, hds, ex, facts (c', _) (List.mem_cons_of_mem _ (List.mem_cons_self ..)), facts, ?_⟩
  have en := owns_noOwn (wipeR ρ vs)
  have ew := owns_wipe hv
  let Ech : XK := fun cls d H' => PySem.W.exmOne K cls (.ref PE) = some true ∧ ∃ (z : Str) (v : V), ErrAt K H' cls d z v ∧ ∀ (t : Addr) H2, H' t = none → Same H' H2 → H2 t = some (.tup [.str z, v]) → Q (.ref t) H2
  have eO : ∀ x, x ∈ Os C ρ ++ owns (noOwn (wipeR ρ vs)) → x ∈ Os C ρ := fun x m => by rwa [en, List.append_nil] at m
  have back : ∀ {H2 : Hp}, Fr (Bs C) H H2 → (∀ p, p ∈ Os C ρ → H2 p ≠ none) → (∀ q, q ∈ C.bags → Bag H2 q.1 q.2) → (∀ p, p ∈ C.tabs → Tab H2 p) → St K C ρ σ H2 := fun f lv bg tb => s.bfr f (s.frB f) lv bg tb
  have s' : St K ⟨Os C ρ, H, C.bags.map (·.1), C.bags, [], [], Ech, tryX K PE P, C.tabs⟩ (noOwn (wipeR ρ vs)) (L2.wipe σ vs) H := by
    refine ⟨?_, by rw [en]; exact List.nodup_nil, Fr.refl _ _, fun x m => s.lv x (eO x m), ⟨fun x m => ?_, fun q m => .inl (List.mem_map.mpr ⟨q, m, rfl⟩)⟩, fun x m => ?_, fun q m => ⟨(s.bg q m).1, List.mem_append_left _ (s.bg q m).2.1, fun z => (s.bg q m).2.2 (eO _ z)⟩, .nil, fun x hx v H' f lv bg tb a => ?_, s.tb⟩
    · show Sls K (Os C ρ ++ owns (noOwn (wipeR ρ vs))) H (L2.wipe σ vs) (noOwn (wipeR ρ vs))
      rw [en, List.append_nil, show Os C ρ = Os C (wipeR ρ vs) by show C.O0 ++ _ = C.O0 ++ _; rw [ew]]
      exact sls_noOwn (s.wipe vs).sl
    · obtain ⟨q, hq, rfl⟩ := List.mem_map.mp m
      exact List.mem_append_left _ (s.bg q hq).2.1
    · rw [en] at m; exact nomatch m
    · obtain ⟨⟨fs, X, hc, hf, hn, ho⟩, hP⟩ := hx
      refine raised_of X hc hf hn ho fun t H2 nt sm e => ?_
      have s2 := back (f.trans (Fr.of sm)) (fun p m z => lv p m (sm.free z)) (fun q m => (bg q m).same sm) fun p m => (tb p m).ext sm
      exact k _ _ _ hP s2 (f.trans (Fr.of sm)) (.tup (.inl (.inl e)) (.inl fun m => lv t m nt) (.cons (.str _) (.one (a.fr (.of sm)))))
  refine h ⟨Os C ρ, H, C.bags.map (·.1), C.bags, [], [], Ech, tryX K PE P, C.tabs⟩ rfl rfl rfl (L2.wipe σ vs) H _ s' fun d v H' p s2 f2 a2 => ⟨show (2 : Nat) ≤ sizeLine from le_line (Nat.le_of_ble_eq_true rfl), fun q nq => ?_⟩
  have e2 : Same H' (upd H' q (.tup [.str "value", v])) := same_upd nq
  have s3 := (back f2 (fun p m => s2.lv p (List.mem_append_left _ m)) (fun q m => (s2.bg q m).1) s2.tb).same e2
  have a3 : At K (Os C ρ) H' v d := by
    have a2 : At K (Os C ρ ++ owns (noOwn (wipeR ρ vs))) H' v d := a2
    rwa [en, List.append_nil] at a2
  exact k _ _ _ p s3 (f2.trans (Fr.of e2)) (At.mkTup nq (fun m => s2.lv q (List.mem_append_left _ m) nq) (.cons (.str _) (.one a3)))
theorem smD_str (n : Nat) (z : Str) : smD n (.str z) := by cases n <;> exact True.intro
theorem smD_int (n : Nat) (z : Int) : smD n (.int z) := by cases n <;> exact True.intro
theorem sm_tup {n : Nat} {l : List D} (h1 : l.length < 1000) (h : ∀ d, d ∈ l → smD n d) : smD (n + 1) (.tup l) := ⟨h1, h⟩
theorem sm_lst {n : Nat} {l : List D} (h1 : l.length < 1000) (h : ∀ d, d ∈ l → smD n d) : smD (n + 1) (.lst l) := ⟨h1, h⟩
end Z
namespace Z
open PySem PySem.Spec PyProof.Rows L2
-- what stands at an address
local macro_rules | `(tactic| walk_at "hp") => `(tactic| first | assumption | exact upd_same | exact BagAt.at_ (by assumption) | exact BagAt.cells (by assumption) | fail "hp")
local macro_rules | `(tactic| walk_at "sq") => `(tactic| first | assumption | (refine Or.inl (Or.inl ?_); walk_at "hp") | (apply Same.seq <;> assumption))
-- bounds
local macro_rules | `(tactic| walk_at "num") => `(tactic| first
  | exact rfl | decide | exact le_line (Nat.le_of_ble_eq_true rfl) | exact lt_line (Nat.le_of_ble_eq_true rfl)
  | (exact mul_ok (small_abs (by omega)) (small_abs (by omega)))
  | (exact div_small (by omega) (by omega))
  | (exact div_ok (by omega) (by assumption))
  | (refine ⟨?_, ?_⟩ <;> omega) | omega
  | (show (_ : Int) ≠ 0; omega) | (show CPow _ _; unfold CPow; decide))
-- one step
local macro_rules | `(tactic| walk_at "rd") => `(tactic| first
  | (refine Exists.intro _ (And.intro rfl ?_))
  | (refine Exists.intro _ (Exists.intro _ (And.intro rfl (And.intro rfl ?_))))
  | (refine Or.inl (Exists.intro _ (And.intro rfl ?_)))
  | (refine Or.inr (Exists.intro _ (And.intro rfl ?_)))
  | (with_reducible refine iteF ?_) | (with_reducible refine iteT ?_)
  | (refine And.intro ?cc ?_; (case cc => walk_at "num"))
  | (refine' Exists.intro _ (Exists.intro _ (Exists.intro _ (Exists.intro _ (And.intro rfl (And.intro rfl (And.intro ?sq (And.intro ?ha ?k))))))); (case sq => walk_at "sq"); (case ha => first | exact rfl | assumption | exact at_zero))
  | (refine' Exists.intro _ (Exists.intro _ (And.intro rfl (And.intro (Or.inl ?sq) ?k))); (case sq => walk_at "sq")))
local macro_rules | `(tactic| walk_at "sqt") => `(tactic| first | assumption | (refine Or.inl (Or.inl ?_); walk_at "hp") | (apply Same.tup <;> assumption))
local macro_rules | `(tactic| walk_at "rdt") => `(tactic| first
  | walk_at "rd"
  | (refine' Exists.intro _ (Exists.intro _ (And.intro rfl (And.intro (Or.inr ?sq) ?k))); (case sq => walk_at "sqt"))
  | (refine' Exists.intro _ (Exists.intro _ (Exists.intro _ (Exists.intro _ (And.intro rfl (And.intro rfl (And.intro ?sq (And.intro ?ha ?k))))))); (case sq => walk_at "sqt"); (case ha => first | exact rfl | assumption | exact at_zero))
  | (refine iteF ?_) | (refine iteT ?_))
local macro_rules | `(tactic| walk_at "rds") => `(tactic| repeat walk_at "rdt")
local macro_rules | `(tactic| walk_at "pull") => `(tactic| (refine' Exists.intro _ (Exists.intro _ (Exists.intro _ (And.intro rfl (And.intro ?bag (And.intro ?pos (And.intro ?fit ?kk)))))); (case bag => assumption); (case pos => first | decide | omega); (case fit => exact Fit.of (by first | decide | omega) (by first | decide | omega))))
local macro_rules | `(tactic| walk_at "two") => `(tactic| refine Exists.intro _ (Exists.intro _ (And.intro rfl ?_)))
/-! ### steps by data -/
local macro_rules | `(tactic| walk_at "side") => `(tactic| first
  | exact rfl | assumption | exact Nat.le_of_ble_eq_true rfl | decide | exact True.intro | exact le_line (Nat.le_of_ble_eq_true rfl) | exact lt_line (Nat.le_of_ble_eq_true rfl) | omega | (show (_ : Int) ≠ 0; omega) | exact cut1_ok | (unfold CPow; decide) | exact mul_ok (small_abs (by omega)) (small_abs (by omega)) | exact div_small (by omega) (by omega))
local macro_rules | `(tactic| walk_at "dR") => `(tactic| first
  | with_reducible refine run_seq ?_ | with_reducible refine run_if ?_ | with_reducible refine run_set ?_ | with_reducible refine run_ret ?_ | with_reducible refine run_next ?_
  | with_reducible refine run_asg ?_ | with_reducible refine run_for ?_ | ((with_reducible refine' run_append ?ev ?kk); (case ev => exact rfl)) | ((with_reducible refine' run_aug ?ev ?kk); (case ev => exact rfl))
  | with_reducible refine run_par ?_ | with_reducible refine run_drop ?_ | with_reducible refine run_retN ?_ | with_reducible refine run_break ?_ | with_reducible refine run_cont ?_)
local macro_rules | `(tactic| walk_at "dE") => `(tactic| first
  | ((with_reducible refine' ev_var ?ev ?kk); (case ev => exact rfl))
  | with_reducible refine ev_op ?_ | with_reducible refine ev_int ?_ | with_reducible refine ev_str ?_ | with_reducible refine ev_callC (by assumption) ?_ | with_reducible refine ev_callX (by assumption) ?_ | with_reducible refine ev_call ?_ | with_reducible refine ev_cb ?_ | with_reducible refine ev_tup ?_
  | with_reducible refine ev_if ?_ | with_reducible refine ev_and ?_ | with_reducible refine ev_or ?_ | with_reducible refine ev_not ?_ | with_reducible refine ev_bl ?_ | with_reducible refine ev_non ?_ | with_reducible refine ev_isi ?_
  | with_reducible refine ev_un ?_ | with_reducible refine ev_chain ?_ | with_reducible refine ev_lst ?_ | with_reducible refine ev_cbf ?_ | with_reducible refine ev_sl ?_ | with_reducible refine ev_m1 ?_ | with_reducible refine ev_kget ?_ | with_reducible refine ev_fmt ?_ | with_reducible refine ev_join ?_ | with_reducible refine ev_ty ?_ | with_reducible refine ev_cV ?_)
local macro_rules | `(tactic| walk_at "dT") => `(tactic| first
  | with_reducible refine evt_t ?_ | with_reducible refine evt_b ?_ | with_reducible refine evt_and ?_ | with_reducible refine evt_or ?_ | with_reducible refine evt_not ?_ | with_reducible refine evt_yes ?_)
local macro_rules | `(tactic| walk_at "dX") => `(tactic| first
  | ((with_reducible refine' evx_name ?ev ?kk); (case ev => first | exact rfl | assumption)) | with_reducible refine evx_tup ?_ | with_reducible refine evx_lst ?_ | with_reducible refine evxs_cons ?_ | with_reducible refine evxs_nil ?_
  | ((with_reducible refine' evg_name ?ev ?mm ?kk); (case ev => first | exact rfl | assumption); (case mm => decide)) | with_reducible refine evg_tup ?_ | with_reducible refine evg_lst ?_ | with_reducible refine evgs_cons ?_ | with_reducible refine evgs_nil ?_
  | with_reducible refine evi_list ?_ | with_reducible refine evi_tup ?_ | with_reducible refine evi_rng1 ?_ | with_reducible refine evi_rng2 ?_ | with_reducible refine evi_enum ?_ | with_reducible refine evi_zip ?_
  | with_reducible refine evo_none ?_ | with_reducible refine evo_some ?_ | with_reducible refine evj_cons ?_ | with_reducible refine evj_nil ?_)
local macro_rules | `(tactic| walk_at "d1") => `(tactic| first
  | ((with_reducible change Ev _ _ _ _ _); walk_at "dE")
  | ((with_reducible change Run _ _ _ _ _); walk_at "dR")
  | with_reducible refine eva_cons ?_ | with_reducible refine eva_nil ?_
  | ((with_reducible change EvT _ _ _ _ _); walk_at "dT")
  | with_reducible refine eva_star ?_
  | with_reducible refine iteT ?_ | with_reducible refine iteF ?_
  | ((with_reducible change if (_ : Bool) = true then _ else _); first | refine iteT ?_ | refine iteF ?_)
  | ((with_reducible refine And.intro ?cc ?_); (case cc => walk_at "side"))
  | ((with_reducible refine' Exists.intro _ (And.intro ?cc ?kk)); (case cc => first | exact rfl | exact at_zero))
  | ((with_reducible refine' Exists.intro _ (Exists.intro _ (And.intro ?cc ?kk))); (case cc => exact rfl))
  | ((with_reducible refine' Exists.intro _ (Exists.intro _ (Exists.intro _ (And.intro ?cc (And.intro ?cd ?kk))))); (case cc => exact rfl); (case cd => exact rfl))
  | ((with_reducible refine' Exists.intro _ (Exists.intro _ (Exists.intro _ (And.intro ?cc ?kk)))); (case cc => exact rfl))
  | ((with_reducible refine' Exists.intro _ (Exists.intro _ (Exists.intro _ (Exists.intro _ (And.intro ?cc ?kk))))); (case cc => exact rfl))
  | walk_at "dX")
local macro_rules | `(tactic| walk_at "d2") => `(tactic| walk_at "d1")
local macro_rules | `(tactic| walk_at "dgo") => `(tactic| repeat walk_at "d1")
local macro_rules | `(tactic| walk_at "wk") => `(tactic| repeat first | exact True.intro | refine And.intro (Or.inl rfl) ?_ | refine And.intro (Or.inr (And.intro rfl rfl)) ?_)
local macro_rules | `(tactic| walk_at "isi") => `(tactic| (refine' Exists.intro _ (Exists.intro _ (Exists.intro _ (Exists.intro _ (Exists.intro _ (And.intro rfl (And.intro (ClsV.ty _) (And.intro ?tt (And.intro (kit_ty ?ee) ?kk)))))))); (case tt => assumption); (case ee => first | exact kb_int_list | exact kb_int_tuple | exact kb_int_dict | exact kb_int_bool | exact kb_int_int | exact kb_int_str | exact kb_str_list | exact kb_str_tuple | exact kb_str_dict | exact kb_str_bool | exact kb_str_int | exact kb_str_str | exact kb_bool_list | exact kb_bool_tuple | exact kb_bool_dict | exact kb_bool_bool | exact kb_bool_int | exact kb_bool_str | exact kb_NoneType_list | exact kb_NoneType_tuple | exact kb_NoneType_dict | exact kb_NoneType_bool | exact kb_NoneType_int | exact kb_NoneType_str | exact kb_list_list | exact kb_list_tuple | exact kb_list_dict | exact kb_list_bool | exact kb_list_int | exact kb_list_str | exact kb_tuple_list | exact kb_tuple_tuple | exact kb_tuple_dict | exact kb_tuple_bool | exact kb_tuple_int | exact kb_tuple_str)))
-- one step
local macro_rules | `(tactic| walk_at "same") => `(tactic| repeat first | walk_at "rdt" | walk_at "isi")
/-! ### steps by data -/
local macro_rules | `(tactic| walk_at "side") => `(tactic| first
  | exact rfl | with_reducible assumption | exact Nat.le_of_ble_eq_true rfl | decide | exact True.intro | exact le_line (Nat.le_of_ble_eq_true rfl) | exact lt_line (Nat.le_of_ble_eq_true rfl) | omega | (show (_ : Int) ≠ 0; omega) | exact cut1_ok | (unfold CPow; decide) | exact mul_ok (small_abs (by omega)) (small_abs (by omega)) | exact div_small (by omega) (by omega) | assumption)
local macro_rules | `(tactic| walk_at "dR") => `(tactic| first
  | with_reducible refine run_ownNil ?_ | with_reducible refine run_ownL ?_ | ((with_reducible refine' run_extend ?ev ?kk); (case ev => exact rfl))
  | ((with_reducible refine' run_fld ?c ?n ?e ?kk); (case c => assumption); (case n => assumption); (case e => exact rfl))
  | ((with_reducible refine' run_retO ?ev ?kk); (case ev => exact rfl)) | ((with_reducible refine' run_setix ?ev ?kk); (case ev => exact rfl)) | ((with_reducible refine' run_popAt ?ev ?kk); (case ev => exact rfl)) | ((with_reducible refine' run_insert ?ev ?kk); (case ev => exact rfl)) | with_reducible refine run_parL ?_ | with_reducible refine run_ownRep ?_
  | with_reducible refine run_seq ?_ | with_reducible refine run_if ?_ | with_reducible refine run_set ?_ | with_reducible refine run_ret ?_ | with_reducible refine run_next ?_
  | with_reducible refine run_asg ?_ | with_reducible refine run_for ?_ | ((with_reducible refine' run_append ?ev ?kk); (case ev => exact rfl)) | ((with_reducible refine' run_aug ?ev ?kk); (case ev => exact rfl))
  | with_reducible refine run_par ?_ | with_reducible refine run_drop ?_ | with_reducible refine run_retN ?_ | with_reducible refine run_break ?_ | with_reducible refine run_cont ?_)
local macro_rules | `(tactic| walk_at "dE") => `(tactic| first
  | ((with_reducible refine' ev_var ?ev ?kk); (case ev => exact rfl))
  | with_reducible refine ev_lenOwn ?_
  | ((with_reducible refine' ev_fldO ?ev ?dd ?kk); (case ev => exact rfl); (case dd => exact rfl)) | with_reducible refine ev_fld ?_ | with_reducible refine ev_methX (by assumption) ?_ | with_reducible refine ev_meth ?_ | with_reducible refine ev_prop ?_ | with_reducible refine ev_makeX (by assumption) ?_ | with_reducible refine ev_make ?_ | with_reducible refine ev_ownX (by assumption) ?_ | with_reducible refine ev_own ?_ | ((with_reducible refine' ev_isiOwn ?o ?kk); (case o => assumption))
  | ((with_reducible refine' ev_ixO ?ev ?kk); (case ev => exact rfl)) | with_reducible refine ev_rev ?_ | with_reducible refine ev_op ?_ | with_reducible refine ev_int ?_ | with_reducible refine ev_str ?_ | with_reducible refine ev_callKX (by assumption) ?_ | with_reducible refine ev_callK ?_ | with_reducible refine ev_callC (by assumption) ?_ | with_reducible refine ev_callX (by assumption) ?_ | with_reducible refine ev_call ?_ | with_reducible refine ev_cb ?_ | with_reducible refine ev_tup ?_
  | with_reducible refine ev_if ?_ | with_reducible refine ev_and ?_ | with_reducible refine ev_or ?_ | with_reducible refine ev_not ?_ | with_reducible refine ev_bl ?_ | with_reducible refine ev_non ?_ | with_reducible refine ev_isi ?_
  | with_reducible refine ev_un ?_ | with_reducible refine ev_chain ?_ | with_reducible refine ev_lst ?_ | with_reducible refine ev_cbf ?_ | with_reducible refine ev_sl ?_ | with_reducible refine ev_m1 ?_ | with_reducible refine ev_kget ?_ | with_reducible refine ev_fmt ?_ | with_reducible refine ev_join ?_ | with_reducible refine ev_ty ?_ | with_reducible refine ev_cV ?_)
local macro_rules | `(tactic| walk_at "dT") => `(tactic| first
  | with_reducible refine evt_t ?_ | with_reducible refine evt_b ?_ | with_reducible refine evt_and ?_ | with_reducible refine evt_or ?_ | with_reducible refine evt_not ?_ | with_reducible refine evt_yes ?_)
local macro_rules | `(tactic| walk_at "dX") => `(tactic| first
  | ((with_reducible refine' evx_name ?ev ?kk); (case ev => first | exact rfl | assumption)) | with_reducible refine evx_tup ?_ | with_reducible refine evx_lst ?_ | with_reducible refine evxs_cons ?_ | with_reducible refine evxs_nil ?_
  | ((with_reducible refine' evg_name ?ev ?mm ?kk); (case ev => first | exact rfl | assumption); (case mm => decide)) | with_reducible refine evg_tup ?_ | with_reducible refine evg_lst ?_ | with_reducible refine evgs_cons ?_ | with_reducible refine evgs_nil ?_
  | with_reducible refine evi_list ?_ | with_reducible refine evi_tup ?_ | with_reducible refine evi_rng1 ?_ | with_reducible refine evi_rng2 ?_ | with_reducible refine evi_enum ?_ | with_reducible refine evi_zip ?_
  | with_reducible refine eva_items ?_ | with_reducible refine evi_revA ?_ | with_reducible refine evi_enumT ?_ | with_reducible refine evf_cb ?_ | with_reducible refine evo_none ?_ | with_reducible refine evo_some ?_ | with_reducible refine evj_cons ?_ | with_reducible refine evj_nil ?_)
local macro_rules | `(tactic| walk_at "d1") => `(tactic| first
  | ((with_reducible change Ev _ _ _ _ _); walk_at "dE")
  | ((with_reducible change Run _ _ _ _ _); walk_at "dR")
  | with_reducible refine eva_cons ?_ | with_reducible refine eva_nil ?_
  | ((with_reducible change EvT _ _ _ _ _); walk_at "dT")
  | with_reducible refine eva_star ?_
  | with_reducible refine iteT ?_ | with_reducible refine iteF ?_
  | ((with_reducible change if (_ : Bool) = true then _ else _); first | refine iteT ?_ | refine iteF ?_)
  | ((with_reducible refine And.intro ?cc ?_); (case cc => walk_at "side"))
  | ((with_reducible refine' Exists.intro _ (And.intro ?cc ?kk)); (case cc => first | exact rfl | exact at_zero))
  | ((with_reducible refine' Exists.intro _ (Exists.intro _ (And.intro ?cc ?kk))); (case cc => exact rfl))
  | ((with_reducible refine' Exists.intro _ (Exists.intro _ (Exists.intro _ (And.intro ?cc (And.intro ?cd ?kk))))); (case cc => exact rfl); (case cd => exact rfl))
  | ((with_reducible refine' Exists.intro _ (Exists.intro _ (Exists.intro _ (And.intro ?cc ?kk)))); (case cc => exact rfl))
  | ((with_reducible refine' Exists.intro _ (Exists.intro _ (Exists.intro _ (Exists.intro _ (And.intro ?cc ?kk))))); (case cc => exact rfl))
  | walk_at "dX")
local macro_rules | `(tactic| walk_at "d2") => `(tactic| walk_at "d1")
local macro_rules | `(tactic| walk_at "dgo") => `(tactic| repeat walk_at "d1")
local macro_rules | `(tactic| walk_at "wk") => `(tactic| repeat first | exact True.intro | refine And.intro (Or.inl rfl) ?_ | refine And.intro (Or.inr (And.intro rfl rfl)) ?_)
local macro_rules | `(tactic| walk_at "dgo") => `(tactic| repeat first | walk_at "d1" | with_reducible refine evi_zipM ?_)
local macro_rules | `(tactic| walk_at "d3") => `(tactic| first
  | ((with_reducible refine' ev_lenO ?ev ?kk); (case ev => exact rfl))
  | ((with_reducible refine' run_dputT ?ev ?kk); (case ev => exact rfl)) | ((with_reducible refine' run_dputK ?ev ?kk); (case ev => exact rfl)) | with_reducible refine run_dnewK ?_ | with_reducible refine run_dnewT ?_
  | ((with_reducible refine' ev_dgetK ?ev ?kk); (case ev => exact rfl)) | ((with_reducible refine' ev_dinK ?ev ?kk); (case ev => exact rfl)) | ((with_reducible refine' ev_dinT ?ev ?kk); (case ev => exact rfl)) | ((with_reducible refine' ev_dnotinK ?ev ?kk); (case ev => exact rfl))
  | ((with_reducible refine' run_append ?ev ?kk); (case ev => exact rfl)) | with_reducible refine run_appC ?_ | with_reducible refine run_par3 ?_ | ((with_reducible refine' eva_self ?ev ?kk); (case ev => exact rfl)) | with_reducible refine evf_methN ?_ | with_reducible refine ev_methN ?_ | with_reducible refine ev_listRg1 ?_
  | with_reducible refine evi_zipM ?_)
local macro_rules | `(tactic| walk_at "dgo") => `(tactic| repeat first | walk_at "d3" | walk_at "d1")
local macro_rules | `(tactic| walk_at "d3") => `(tactic| first
  | with_reducible refine ev_strOwn ?_ | with_reducible refine ev_ownNe ?_ | with_reducible refine ev_inOwn ?_)
local macro_rules | `(tactic| walk_at "d3") => `(tactic| first
  | with_reducible refine evi_seq ?_ | with_reducible refine evi_orL ?_ | with_reducible refine ev_cref ?_ | ((with_reducible refine' ev_makeVX ?he ?ev ?kk); (case he => assumption); (case ev => exact rfl)))
/-! ### texts with "; " between -/
def ok2 : List Nat → Bool
  | [] => true
  | [_] => true
  | a :: b :: r => !(a == 59 && b == 32) && ok2 (b :: r)
theorem pre_two (a b : Nat) (r : List Nat) : TL.pre [59, 32] (a :: b :: r) = (a == 59 && b == 32) := by
  show ((a :: b :: List.take 0 r) == [59, 32]) = _
  rw [List.take_zero]
  show (a == 59 && (b == 32 && true)) = _
  rw [Bool.and_true]
theorem ok2_part : ∀ {p : List Nat} (rest : List Nat), ok2 p = true → ∀ i, i < p.length → TL.pre [59, 32] ((p ++ ([59, 32] ++ rest)).drop i) = false
  | [a], rest, _, 0, _ => by
    show TL.pre [59, 32] (a :: 59 :: 32 :: rest) = false
    rw [pre_two]
    exact Bool.and_false _
  | [a], rest, _, i + 1, h => absurd h (by simp)
  | a :: b :: r, rest, hk, 0, _ => by
    show TL.pre [59, 32] (a :: b :: (r ++ ([59, 32] ++ rest))) = false
    rw [pre_two]
    have := (Bool.and_eq_true_iff.mp hk).1
    cases h : (a == 59 && b == 32) with
    | false => rfl
    | true => rw [h] at this; cases this
  | a :: b :: r, rest, hk, i + 1, h => ok2_part (p := b :: r) rest (Bool.and_eq_true_iff.mp hk).2 i (Nat.lt_of_succ_lt_succ h)
theorem ok2_last : ∀ {p : List Nat}, ok2 p = true → ∀ i, i < p.length → TL.pre [59, 32] (p.drop i) = false
  | [a], _, 0, _ => by
    show (List.take 2 [a] == [59, 32]) = false
    show (a == 59 && (([] : List Nat) == [32])) = false
    exact Bool.and_false _
  | [a], _, i + 1, h => absurd h (by simp)
  | a :: b :: r, hk, 0, _ => by
    show TL.pre [59, 32] (a :: b :: r) = false
    rw [pre_two]
    have := (Bool.and_eq_true_iff.mp hk).1
    cases h : (a == 59 && b == 32) with
    | false => rfl
    | true => rw [h] at this; cases this
  | a :: b :: r, hk, i + 1, h => ok2_last (p := b :: r) (Bool.and_eq_true_iff.mp hk).2 i (Nat.lt_of_succ_lt_succ h)
theorem spl2_join : ∀ {parts : List (List Nat)}, parts ≠ [] → (∀ p ∈ parts, ok2 p = true) → TL.spl [59, 32] 0 [] (TL.joinL [59, 32] parts) = parts
  | [], h, _ => absurd rfl h
  | [p], _, h => by
    rw [TL.joinL.eq_2, TL.spl_last (ok2_last (h p (List.mem_singleton.mpr rfl)))]
    rfl
  | p :: q :: r, _, h => by
    rw [TL.joinL.eq_3, TL.spl_part (by decide) (ok2_part _ (h p (List.mem_cons_self ..))), spl2_join (parts := q :: r) (fun z => nomatch z) fun x hx => h x (List.mem_cons_of_mem _ hx)]
    rfl
theorem map_tl_inj : ∀ {xs ys : List Str}, xs.map TL.tl = ys.map TL.tl → xs = ys
  | [], [], _ => rfl
  | [], _ :: _, h => nomatch h
  | _ :: _, [], h => nomatch h
  | x :: xs, y :: ys, h => by
    rw [List.map_cons, List.map_cons] at h
    injection h with h1 h2
    rw [TL.ext_tl h1, map_tl_inj h2]
theorem split2_join {parts : List Str} (h : parts ≠ []) (hk : ∀ p ∈ parts, ok2 (TL.tl p) = true) : Txt.split (Txt.join "; " parts) "; " = parts := by
  refine map_tl_inj ?_
  rw [TL.split_spl _ _ (by decide +kernel) (TL.kind_ok (by decide +kernel)), TL.join_eq, TL.tl_join]
  exact spl2_join (by cases parts with
    | nil => exact absurd rfl h
    | cons a r => exact fun z => nomatch z) fun p hp => by
    obtain ⟨x, hx, rfl⟩ := List.mem_map.mp hp
    exact hk x hx
theorem ok2_free : ∀ {p : List Nat}, 59 ∉ p → ok2 p = true
  | [], _ => rfl
  | [_], _ => rfl
  | a :: b :: r, h => by
    show (!(a == 59 && b == 32) && ok2 (b :: r)) = true
    rw [show (a == 59) = false from beq_eq_false_iff_ne.mpr fun e => h (by rw [e]; exact List.mem_cons_self ..), Bool.false_and]
    exact ok2_free (p := b :: r) fun m => h (List.mem_cons_of_mem _ m)
theorem mem_joinL {S : List Nat} {c : Nat} : ∀ {ps : List (List Nat)}, c ∈ TL.joinL S ps → c ∈ S ∨ ∃ p ∈ ps, c ∈ p
  | [], h => by rw [TL.joinL.eq_1] at h; exact nomatch h
  | [p], h => by rw [TL.joinL.eq_2] at h; exact .inr ⟨p, List.mem_singleton.mpr rfl, h⟩
  | p :: q :: r, h => by
    rw [TL.joinL.eq_3] at h
    rcases List.mem_append.mp h with h | h
    · exact .inr ⟨p, List.mem_cons_self .., h⟩
    rcases List.mem_append.mp h with h | h
    · exact .inl h
    · rcases mem_joinL (ps := q :: r) h with h | ⟨x, hx, h⟩
      · exact .inl h
      · exact .inr ⟨x, List.mem_cons_of_mem _ hx, h⟩
theorem numS_free {i : Int} : 59 ∉ (numS i).cps.toList := by
  by_cases h : 0 ≤ i
  · have e : i = ((i.natAbs : Nat) : Int) := by omega
    rw [e, pos_text]
    exact TL.numL_free (by omega)
  · have e : i = -((i.natAbs : Nat) : Int) := by omega
    have hn : i.natAbs ≠ 0 := by omega
    rw [e, neg_text hn]
    intro hm
    rcases List.mem_cons.mp hm with hm | hm
    · cases hm
    · exact TL.numL_free (by omega) hm
theorem ptS_free {a : Bool} {i : Int} : 59 ∉ (ptS a i).cps.toList := by
  unfold ptS
  rw [tl_app, ltr_list (endS_or a)]
  intro hm
  rcases List.mem_append.mp hm with hm | hm
  · cases a <;> exact absurd hm (by decide +kernel)
  · exact numS_free hm
theorem mparts_free {m : Mv} : ∀ p ∈ mparts m, 59 ∉ p.cps.toList := by
  have c : ∀ p ∈ [("swap" : Str), "carry", "cut", "turn", "over", "face"], 59 ∉ p.cps.toList := by decide +kernel
  have l : ∀ a, 59 ∉ (ltrS (endS a)).cps.toList := by decide +kernel
  intro p hp
  cases m with
  | swap a i b j =>
    simp only [mparts, List.mem_cons, List.not_mem_nil, or_false] at hp
    rcases hp with rfl | rfl | rfl
    · exact c _ (by decide)
    · exact ptS_free
    · exact ptS_free
  | carry a i b j =>
    simp only [mparts, List.mem_cons, List.not_mem_nil, or_false] at hp
    rcases hp with rfl | rfl | rfl
    · exact c _ (by decide)
    · exact ptS_free
    · exact ptS_free
  | cut k =>
    simp only [mparts, List.mem_cons, List.not_mem_nil, or_false] at hp
    rcases hp with rfl | rfl
    · exact c _ (by decide)
    · exact numS_free
  | turn a k =>
    simp only [mparts, List.mem_cons, List.not_mem_nil, or_false] at hp
    rcases hp with rfl | rfl | rfl
    · exact c _ (by decide)
    · exact l a
    · exact numS_free
  | over =>
    simp only [mparts, List.mem_cons, List.not_mem_nil, or_false] at hp
    rcases hp with rfl
    exact c _ (by decide)
  | face a i =>
    simp only [mparts, List.mem_cons, List.not_mem_nil, or_false] at hp
    rcases hp with rfl | rfl
    · exact c _ (by decide)
    · exact ptS_free
theorem mtxt_free (m : Mv) : ok2 (TL.tl (mtxt m)) = true := by
  refine ok2_free fun h => ?_
  unfold mtxt at h
  rw [TL.join_eq, TL.tl_join] at h
  rcases mem_joinL h with h | ⟨p, hp, h⟩
  · exact absurd h (by decide +kernel)
  · obtain ⟨x, hx, rfl⟩ := List.mem_map.mp hp
    exact mparts_free x hx h
theorem mtxt_ne {m : Mv} (h : m.ok) : mtxt m ≠ "" := fun e => by
  have h1 := mtxt_split h
  rw [e] at h1
  have h2 : Txt.split ("" : Str) " " = ([""] : List Str) := by decide +kernel
  rw [h2] at h1
  cases m <;> exact absurd h1 (by intro z; simp only [mparts] at z; first | cases z | exact absurd (List.cons.inj z).1 (by decide))
/-- what the parts of a joined text are -/
theorem partsOf_join {parts : List Str} (hk : ∀ p ∈ parts, ok2 (TL.tl p) = true) (hn : parts ≠ ([""] : List Str)) : partsOf (Txt.join "; " parts) = parts := by
  cases parts with
  | nil => rfl
  | cons a r =>
    unfold partsOf
    have hz : Txt.join "; " (a :: r) ≠ "" := fun e => by
      rw [TL.join_eq] at e
      match r, hn, e with
      | [], hn, e => exact hn (by rw [show a = "" from e])
      | b :: r, hn, e =>
        have h1 : (a ++ "; " ++ Str.join "; " (b :: r)).length = 0 := congrArg Str.length (show a ++ "; " ++ Str.join "; " (b :: r) = "" from e)
        rw [len_app, len_app, show ("; " : Str).length = 2 from by decide +kernel] at h1
        omega
    rw [if_neg hz]
    exact split2_join (by simp) hk
theorem join2_len {parts : List Str} {n : Nat} (h : ∀ p ∈ parts, p.length ≤ n) : (Txt.join "; " parts).length ≤ (n + 2) * parts.length ∧ (parts.map (·.length)).sum + parts.length * ("; " : Str).length ≤ (n + 2) * parts.length := by
  have h2 : ("; " : Str).length = 2 := by decide +kernel
  have key : ∀ {l : List Str}, (∀ p ∈ l, p.length ≤ n) → (l.map (·.length)).sum ≤ n * l.length := fun {l} h => by
    induction l with
    | nil => exact Nat.le_refl _
    | cons p l ih =>
      have h1 := h p (List.mem_cons_self ..)
      have h2 := ih fun q hq => h q (List.mem_cons_of_mem _ hq)
      rw [List.map_cons, List.sum_cons, List.length_cons, Nat.mul_succ]
      omega
  have h3 := key h
  have e : (parts.map (·.length)).sum + parts.length * ("; " : Str).length ≤ (n + 2) * parts.length := by
    rw [h2, Nat.add_mul, Nat.mul_comm parts.length 2]
    omega
  refine ⟨?_, e⟩
  rw [TL.join_eq]
  exact Nat.le_trans (StrLaws.join_length_le _ _) e
theorem pm_mtxt {m : Mv} (h : m.ok) : pmR (Txt.split (mtxt m) " ") = some (mvD m) := by rw [mtxt_split h]; exact pm_parts h
/-! ### sums of reaches -/
theorem reach_nn {m : Mv} (h : m.ok) : 0 ≤ m.reach := by
  cases m with
  | swap a i b j => obtain ⟨h1, h2, h3, h4⟩ := h; show 0 ≤ max i j + 1; omega
  | carry a i b j => obtain ⟨h1, h2, h3, h4⟩ := h; show 0 ≤ max i j + 1; omega
  | cut k => show 0 ≤ (if k < 0 then -k else k); split <;> omega
  | turn a k => exact h.1
  | over => exact Int.le_refl _
  | face a i => obtain ⟨h1, h2⟩ := h; show 0 ≤ i + 1; omega
theorem sumReach_append (xs ys : List Mv) : sumReach (xs ++ ys) = sumReach xs + sumReach ys := by
  unfold sumReach
  rw [List.map_append, List.sum_append]
theorem sumReach_cons (m : Mv) (ys : List Mv) : sumReach (m :: ys) = m.reach + sumReach ys := sumReach_append [m] ys |>.trans (by
  show (m.reach + 0) + sumReach ys = _
  omega)
theorem sumReach_nn : ∀ {ms : List Mv}, (∀ m ∈ ms, m.ok) → 0 ≤ sumReach ms
  | [], _ => Int.le_refl _
  | m :: ms, h => by
    rw [sumReach_cons]
    have h1 := reach_nn (h m (List.mem_cons_self ..))
    have h2 := sumReach_nn (ms := ms) fun x hx => h x (List.mem_cons_of_mem _ hx)
    omega
theorem sumReach_take {ms : List Mv} (h : ∀ m ∈ ms, m.ok) (k : Nat) : sumReach (ms.take k) ≤ sumReach ms := by
  have e : sumReach ms = sumReach (ms.take k) + sumReach (ms.drop k) := by rw [← sumReach_append, List.take_append_drop]
  have := sumReach_nn (ms := ms.drop k) fun m hm => h m (List.mem_of_mem_drop hm)
  omega
/-! ### texts of words -/
section
variable {P : Program} {w : World} {K : PySem.W.Frag} {mg : Str → Option Value} {base : Heap}
def wtxt (ms : List Mv) : Str := Txt.join "; " (ms.map mtxt)
theorem mtxts_len {ms : List Mv} (hk : ∀ m ∈ ms, m.ok) : ∀ p ∈ ms.map mtxt, p.length ≤ 200 := fun p hp => by
  obtain ⟨m, hm, rfl⟩ := List.mem_map.mp hp
  exact (mtxt_len (hk m hm)).1
abbrev S_wstrM (T : Txt K mg w) : Sd := fun _ ds Pq => ∃ ms : List Mv, ds = [wordD T.a_Word ms] ∧ (∀ m ∈ ms, m.ok) ∧ ms.length ≤ 100 ∧ Pq (.ok (.str (wtxt ms)))
theorem ok_Word___str__ (T : Txt K mg w) : FnOk P w K mg base (L2.CX P w) 10 T.a_Word___str__ T.d_Word___str__ P_Word___str__ (spD K (S_wstrM T)) := by
  have G_move_text := ok_move_text (P := P) (w := w) (base := base) T
  have c1 := T.cls_Word
  have n1 := T.no_Word_steps
  refine okDX T.F_Word___str__ sc_Word___str__ (fun bs ds Pq h => ?_) (fun cdv A outer s H E hr => ⟨_, (pss_one (ps_ret (pe_m1 PySem.F.slot_str_join PySem.F.type_str_join (k_join (K := K)) pe_str (pe_lc (own := [("move", 1)]) rfl sc_Word___str__.nd (k_piT (K := K) (k_fld (K := K) T.cls_Word T.no_Word_steps (pv 0))) (blkOk_by (N := N_Word___str__) (sc := defScope s_Word___str__) (by decide +kernel)) (fun _ _ _ _ _ => (pg_name (i := 1) sc_Word___str__.nd rfl (Or.inl rfl))) (fun _ _ _ _ _ => pts_nil) (fun _ _ _ _ _ => (pe_call G_move_text (hr.mono (by decide)) (by rfl) T.g_move_text T.F_move_text.kp T.b_move_text .nil passL (pa_cons (pv 1) pa_nil))))))), ?_⟩)
  · obtain ⟨ms, rfl, _⟩ := h
    rfl
  · rintro C ds Pq hE hX ⟨ms, rfl, hk, hl, q⟩
    have hE' := hE.symm
    unfold wordD
    have hts := join2_len (mtxts_len hk)
    walk_at "dgo"
    refine ev_lcx (fun _ => (ms.map mtxt).map D.str) (by rfl) ?_
    walk_at "dgo"
    refine ⟨⟨by rw [List.length_map]; omega, by simp⟩, fun C' e1 e2 e3 k d hi => ?_, ?_⟩
    · obtain ⟨m, gm, rfl⟩ := map_inv hi
      have hkm := hk m (List.mem_of_getElem? gm)
      walk_at "dgo"
      show ((ms.map mtxt).map D.str)[k]? = some (.str (mtxt m))
      rw [List.getElem?_map, List.getElem?_map, gm]
      rfl
    walk_at "dgo"
    refine as_strs ⟨?_, q⟩
    refine Nat.le_trans hts.2 ?_
    rw [List.length_map]
    omega
abbrev S_ltext : Sd := fun _ ds Pq => ∃ ms : List Mv, ds = [.lst (ms.map mvD)] ∧ (∀ m ∈ ms, m.ok) ∧ ms.length ≤ 100 ∧ Pq (.ok (.str (wtxt ms)))
theorem ok__law_text (T : Txt K mg w) : FnOk P w K mg base CX0 4 T.a__law_text T.d__law_text P__law_text (spD K S_ltext) := by
  have G__law_move_text := ok__law_move_text (P := P) (w := w) (base := base) T
  refine okD T.F__law_text sc__law_text (fun bs ds Pq h => ?_) (fun cdv A outer s H E hr => ⟨_, (pss_one (ps_ret (pe_m1 PySem.F.slot_str_join PySem.F.type_str_join (k_join (K := K)) pe_str (pe_lc (own := [("_law_move", 1)]) rfl sc__law_text.nd (k_piL (K := K) (pv 0)) (blkOk_by (N := N__law_text) (sc := defScope s__law_text) (by decide +kernel)) (fun _ _ _ _ _ => (pg_name (i := 1) sc__law_text.nd rfl (Or.inl rfl))) (fun _ _ _ _ _ => pts_nil) (fun _ _ _ _ _ => (pe_call G__law_move_text (hr.mono (by decide)) (by rfl) T.g__law_move_text T.F__law_move_text.kp T.b__law_move_text .nil pass0 (pa_cons (pv 1) pa_nil))))))), ?_⟩)
  · obtain ⟨ms, rfl, _⟩ := h
    rfl
  · rintro C ds Pq hE hX ⟨ms, rfl, hk, hl, q⟩
    have hts := join2_len (mtxts_len hk)
    walk_at "dgo"
    refine ev_lcx (fun _ => (ms.map mtxt).map D.str) (by rfl) ?_
    walk_at "dgo"
    refine ⟨⟨by rw [List.length_map]; omega, by simp⟩, fun C' e1 e2 e3 k d hi => ?_, ?_⟩
    · obtain ⟨m, gm, rfl⟩ := map_inv hi
      have hkm := hk m (List.mem_of_getElem? gm)
      walk_at "dgo"
      show ((ms.map mtxt).map D.str)[k]? = some (.str (mtxt m))
      rw [List.getElem?_map, List.getElem?_map, gm]
      rfl
    walk_at "dgo"
    refine as_strs ⟨?_, q⟩
    refine Nat.le_trans hts.2 ?_
    rw [List.length_map]
    omega
end
/-! ### words that the law makes, also too long ones -/
section
variable {P : Program} {w : World} {K : PySem.W.Frag} {mg : Str → Option Value} {base : Heap}
abbrev S_madex (T : Txt K mg w) : Sd := fun _ ds Pq => ∃ ms : List Mv, ds = [.lst (ms.map mvD)] ∧ (∀ m ∈ ms, m.ok) ∧ ms.length ≤ 40 ∧ Pq (if 60 < sumReach ms then .er ⟨T.a_TooLong, "limit", "TooLong", .int 60⟩ else .ok (wordD T.a_Word ms))
theorem ok__law_made (T : Txt K mg w) : FnOk P w K mg base (L2.CX P w) 9 T.a__law_made T.d__law_made P__law_made (spD K (S_madex T)) := by
  have G_Word___init__ := ok_Word___init__ (P := P) (w := w) (base := base) T
  have G_Word___add__ := ok_Word___add__ (P := P) (w := w) (base := base) T
  refine okDX T.F__law_made sc__law_made (fun bs ds Pq h => ?_) (fun cdv A outer s H E hr => ⟨_, (pss_cons (ps_set (i := 1) sc__law_made.nd rfl (Or.inl rfl) (pe_makeR0 T.mk_Word G_Word___init__ (hr.mono (by decide)) (by rfl) T.g_Word (passes_call (takes_of rfl rfl rfl rfl) fun _ _ _ _ h => h)))
  (pss_cons (ps_for PassesOwn.leaving rfl (k_piL (K := K) (pv 0)) (pg_name (i := 2) sc__law_made.nd rfl (Or.inl rfl))
  (pss_one (ps_set (i := 1) sc__law_made.nd rfl (Or.inl rfl) (pe_op (op_own T.O_Word___add__ G_Word___add__ T.b_Word___add__ (hr.mono (by decide)) (passes_call (takes_of rfl rfl rfl rfl) fun _ _ _ _ h => h)) (pv 1) (StX.pe_makeR T.mk_Word G_Word___init__ (hr.mono (by decide)) (by rfl) T.g_Word (passes_call (takes_of rfl rfl rfl rfl) fun _ _ _ _ h => h) (pa_cons (pv 2) pa_nil))))))
  (pss_one (ps_ret (pv 1))))), ?_⟩)
  · obtain ⟨ms, rfl, _⟩ := h
    rfl
  · rintro C ds Pq hE hX ⟨ms, rfl, hk, hl, q⟩
    have hE' := hE.symm
    walk_at "dgo"
    refine wordR_ok (ms := []) (fun _ h => nomatch h) (by decide) (by decide) ?_
    walk_at "dgo"
    refine forX (fun k (x : List Mv) => x = ms.take k ∧ sumReach x ≤ 60) (fun x => [.val (.lst (ms.map mvD)), .val (wordD T.a_Word x), .no]) [] ⟨rfl, by decide⟩ ?_ (fun hv hd k d x hi hx => ?_) (fun x hx => seq_wk ?_)
    · walk_at "wk"
    · obtain ⟨m, gm, rfl⟩ := map_inv hi
      obtain ⟨hx, hxs⟩ := hx
      have hkm := hk m (List.mem_of_getElem? gm)
      have hkx : ∀ z ∈ x, z.ok := fun z hz => hk z (List.mem_of_mem_take (hx ▸ hz))
      have e1 : ms.take (k + 1) = x ++ [m] := by rw [List.take_add_one, gm, hx]; rfl
      have hs1 := sumReach_take hk (k + 1)
      rw [e1, sumReach_append] at hs1
      have hs2 := sumReach_nn hkx
      have hs3 : sumReach [m] = m.reach := by rw [sumReach_cons]; show m.reach + 0 = m.reach; omega
      have hl1 : x.length ≤ k := by rw [hx, List.length_take]; omega
      have hlt := (List.getElem?_eq_some_iff.mp gm).1
      have hm1 : ∀ z ∈ [m], z.ok := fun z hz => by rw [List.mem_singleton.mp hz]; exact hkm
      have hl2 : x.length + [m].length ≤ 100000 := by rw [List.length_singleton]; omega
      walk_at "dgo"
      refine .inl ⟨[m], rfl, hm1, Nat.le_of_ble_eq_true rfl, ?_⟩
      rw [if_neg (show ¬ 40 < [m].length by rw [List.length_singleton]; omega)]
      by_cases hb : 60 < sumReach [m]
      · rw [if_pos hb]
        rw [if_pos (by omega)] at q
        exact hX _ q
      rw [if_neg hb]
      walk_at "dgo"
      refine .inl ⟨x ++ [m], rfl, fun z hz => ?_, by rw [List.length_append]; exact hl2, ?_⟩
      · rcases List.mem_append.mp hz with h | h
        · exact hkx z h
        · rw [List.mem_singleton.mp h]; exact hkm
      rw [if_neg (by rw [List.length_append, List.length_singleton]; omega)]
      have hsa : sumReach (x ++ [m]) = sumReach x + sumReach [m] := sumReach_append x [m]
      by_cases hb2 : 60 < sumReach (x ++ [m])
      · rw [if_pos hb2]
        rw [if_pos (by omega)] at q
        exact hX _ q
      rw [if_neg hb2]
      walk_at "dgo"
      refine ⟨x ++ [m], ⟨e1.symm, by omega⟩, ?_⟩
      walk_at "wk"
    · obtain ⟨hx, hxs⟩ := hx
      rw [List.length_map, List.take_length] at hx
      subst hx
      rw [if_neg (by omega)] at q
      walk_at "dgo"
      exact q
end
end Z
namespace Z
open PySem PySem.Spec PyProof.Rows L2
-- what stands at an address
local macro_rules | `(tactic| walk_at "hp") => `(tactic| first | assumption | exact upd_same | exact BagAt.at_ (by assumption) | exact BagAt.cells (by assumption) | fail "hp")
local macro_rules | `(tactic| walk_at "sq") => `(tactic| first | assumption | (refine Or.inl (Or.inl ?_); walk_at "hp") | (apply Same.seq <;> assumption))
-- bounds
local macro_rules | `(tactic| walk_at "num") => `(tactic| first
  | exact rfl | decide | exact le_line (Nat.le_of_ble_eq_true rfl) | exact lt_line (Nat.le_of_ble_eq_true rfl)
  | (exact mul_ok (small_abs (by omega)) (small_abs (by omega)))
  | (exact div_small (by omega) (by omega))
  | (exact div_ok (by omega) (by assumption))
  | (refine ⟨?_, ?_⟩ <;> omega) | omega
  | (show (_ : Int) ≠ 0; omega) | (show CPow _ _; unfold CPow; decide))
-- one step
local macro_rules | `(tactic| walk_at "rd") => `(tactic| first
  | (refine Exists.intro _ (And.intro rfl ?_))
  | (refine Exists.intro _ (Exists.intro _ (And.intro rfl (And.intro rfl ?_))))
  | (refine Or.inl (Exists.intro _ (And.intro rfl ?_)))
  | (refine Or.inr (Exists.intro _ (And.intro rfl ?_)))
  | (with_reducible refine iteF ?_) | (with_reducible refine iteT ?_)
  | (refine And.intro ?cc ?_; (case cc => walk_at "num"))
  | (refine' Exists.intro _ (Exists.intro _ (Exists.intro _ (Exists.intro _ (And.intro rfl (And.intro rfl (And.intro ?sq (And.intro ?ha ?k))))))); (case sq => walk_at "sq"); (case ha => first | exact rfl | assumption | exact at_zero))
  | (refine' Exists.intro _ (Exists.intro _ (And.intro rfl (And.intro (Or.inl ?sq) ?k))); (case sq => walk_at "sq")))
local macro_rules | `(tactic| walk_at "sqt") => `(tactic| first | assumption | (refine Or.inl (Or.inl ?_); walk_at "hp") | (apply Same.tup <;> assumption))
local macro_rules | `(tactic| walk_at "rdt") => `(tactic| first
  | walk_at "rd"
  | (refine' Exists.intro _ (Exists.intro _ (And.intro rfl (And.intro (Or.inr ?sq) ?k))); (case sq => walk_at "sqt"))
  | (refine' Exists.intro _ (Exists.intro _ (Exists.intro _ (Exists.intro _ (And.intro rfl (And.intro rfl (And.intro ?sq (And.intro ?ha ?k))))))); (case sq => walk_at "sqt"); (case ha => first | exact rfl | assumption | exact at_zero))
  | (refine iteF ?_) | (refine iteT ?_))
local macro_rules | `(tactic| walk_at "rds") => `(tactic| repeat walk_at "rdt")
local macro_rules | `(tactic| walk_at "pull") => `(tactic| (refine' Exists.intro _ (Exists.intro _ (Exists.intro _ (And.intro rfl (And.intro ?bag (And.intro ?pos (And.intro ?fit ?kk)))))); (case bag => assumption); (case pos => first | decide | omega); (case fit => exact Fit.of (by first | decide | omega) (by first | decide | omega))))
local macro_rules | `(tactic| walk_at "two") => `(tactic| refine Exists.intro _ (Exists.intro _ (And.intro rfl ?_)))
/-! ### steps by data -/
local macro_rules | `(tactic| walk_at "side") => `(tactic| first
  | exact rfl | assumption | exact Nat.le_of_ble_eq_true rfl | decide | exact True.intro | exact le_line (Nat.le_of_ble_eq_true rfl) | exact lt_line (Nat.le_of_ble_eq_true rfl) | omega | (show (_ : Int) ≠ 0; omega) | exact cut1_ok | (unfold CPow; decide) | exact mul_ok (small_abs (by omega)) (small_abs (by omega)) | exact div_small (by omega) (by omega))
local macro_rules | `(tactic| walk_at "dR") => `(tactic| first
  | with_reducible refine run_seq ?_ | with_reducible refine run_if ?_ | with_reducible refine run_set ?_ | with_reducible refine run_ret ?_ | with_reducible refine run_next ?_
  | with_reducible refine run_asg ?_ | with_reducible refine run_for ?_ | ((with_reducible refine' run_append ?ev ?kk); (case ev => exact rfl)) | ((with_reducible refine' run_aug ?ev ?kk); (case ev => exact rfl))
  | with_reducible refine run_par ?_ | with_reducible refine run_drop ?_ | with_reducible refine run_retN ?_ | with_reducible refine run_break ?_ | with_reducible refine run_cont ?_)
local macro_rules | `(tactic| walk_at "dE") => `(tactic| first
  | ((with_reducible refine' ev_var ?ev ?kk); (case ev => exact rfl))
  | with_reducible refine ev_op ?_ | with_reducible refine ev_int ?_ | with_reducible refine ev_str ?_ | with_reducible refine ev_callC (by assumption) ?_ | with_reducible refine ev_callX (by assumption) ?_ | with_reducible refine ev_call ?_ | with_reducible refine ev_cb ?_ | with_reducible refine ev_tup ?_
  | with_reducible refine ev_if ?_ | with_reducible refine ev_and ?_ | with_reducible refine ev_or ?_ | with_reducible refine ev_not ?_ | with_reducible refine ev_bl ?_ | with_reducible refine ev_non ?_ | with_reducible refine ev_isi ?_
  | with_reducible refine ev_un ?_ | with_reducible refine ev_chain ?_ | with_reducible refine ev_lst ?_ | with_reducible refine ev_cbf ?_ | with_reducible refine ev_sl ?_ | with_reducible refine ev_m1 ?_ | with_reducible refine ev_kget ?_ | with_reducible refine ev_fmt ?_ | with_reducible refine ev_join ?_ | with_reducible refine ev_ty ?_ | with_reducible refine ev_cV ?_)
local macro_rules | `(tactic| walk_at "dT") => `(tactic| first
  | with_reducible refine evt_t ?_ | with_reducible refine evt_b ?_ | with_reducible refine evt_and ?_ | with_reducible refine evt_or ?_ | with_reducible refine evt_not ?_ | with_reducible refine evt_yes ?_)
local macro_rules | `(tactic| walk_at "dX") => `(tactic| first
  | ((with_reducible refine' evx_name ?ev ?kk); (case ev => first | exact rfl | assumption)) | with_reducible refine evx_tup ?_ | with_reducible refine evx_lst ?_ | with_reducible refine evxs_cons ?_ | with_reducible refine evxs_nil ?_
  | ((with_reducible refine' evg_name ?ev ?mm ?kk); (case ev => first | exact rfl | assumption); (case mm => decide)) | with_reducible refine evg_tup ?_ | with_reducible refine evg_lst ?_ | with_reducible refine evgs_cons ?_ | with_reducible refine evgs_nil ?_
  | with_reducible refine evi_list ?_ | with_reducible refine evi_tup ?_ | with_reducible refine evi_rng1 ?_ | with_reducible refine evi_rng2 ?_ | with_reducible refine evi_enum ?_ | with_reducible refine evi_zip ?_
  | with_reducible refine evo_none ?_ | with_reducible refine evo_some ?_ | with_reducible refine evj_cons ?_ | with_reducible refine evj_nil ?_)
local macro_rules | `(tactic| walk_at "d1") => `(tactic| first
  | ((with_reducible change Ev _ _ _ _ _); walk_at "dE")
  | ((with_reducible change Run _ _ _ _ _); walk_at "dR")
  | with_reducible refine eva_cons ?_ | with_reducible refine eva_nil ?_
  | ((with_reducible change EvT _ _ _ _ _); walk_at "dT")
  | with_reducible refine eva_star ?_
  | with_reducible refine iteT ?_ | with_reducible refine iteF ?_
  | ((with_reducible change if (_ : Bool) = true then _ else _); first | refine iteT ?_ | refine iteF ?_)
  | ((with_reducible refine And.intro ?cc ?_); (case cc => walk_at "side"))
  | ((with_reducible refine' Exists.intro _ (And.intro ?cc ?kk)); (case cc => first | exact rfl | exact at_zero))
  | ((with_reducible refine' Exists.intro _ (Exists.intro _ (And.intro ?cc ?kk))); (case cc => exact rfl))
  | ((with_reducible refine' Exists.intro _ (Exists.intro _ (Exists.intro _ (And.intro ?cc (And.intro ?cd ?kk))))); (case cc => exact rfl); (case cd => exact rfl))
  | ((with_reducible refine' Exists.intro _ (Exists.intro _ (Exists.intro _ (And.intro ?cc ?kk)))); (case cc => exact rfl))
  | ((with_reducible refine' Exists.intro _ (Exists.intro _ (Exists.intro _ (Exists.intro _ (And.intro ?cc ?kk))))); (case cc => exact rfl))
  | walk_at "dX")
local macro_rules | `(tactic| walk_at "d2") => `(tactic| walk_at "d1")
local macro_rules | `(tactic| walk_at "dgo") => `(tactic| repeat walk_at "d1")
local macro_rules | `(tactic| walk_at "wk") => `(tactic| repeat first | exact True.intro | refine And.intro (Or.inl rfl) ?_ | refine And.intro (Or.inr (And.intro rfl rfl)) ?_)
local macro_rules | `(tactic| walk_at "isi") => `(tactic| (refine' Exists.intro _ (Exists.intro _ (Exists.intro _ (Exists.intro _ (Exists.intro _ (And.intro rfl (And.intro (ClsV.ty _) (And.intro ?tt (And.intro (kit_ty ?ee) ?kk)))))))); (case tt => assumption); (case ee => first | exact kb_int_list | exact kb_int_tuple | exact kb_int_dict | exact kb_int_bool | exact kb_int_int | exact kb_int_str | exact kb_str_list | exact kb_str_tuple | exact kb_str_dict | exact kb_str_bool | exact kb_str_int | exact kb_str_str | exact kb_bool_list | exact kb_bool_tuple | exact kb_bool_dict | exact kb_bool_bool | exact kb_bool_int | exact kb_bool_str | exact kb_NoneType_list | exact kb_NoneType_tuple | exact kb_NoneType_dict | exact kb_NoneType_bool | exact kb_NoneType_int | exact kb_NoneType_str | exact kb_list_list | exact kb_list_tuple | exact kb_list_dict | exact kb_list_bool | exact kb_list_int | exact kb_list_str | exact kb_tuple_list | exact kb_tuple_tuple | exact kb_tuple_dict | exact kb_tuple_bool | exact kb_tuple_int | exact kb_tuple_str)))
-- one step
local macro_rules | `(tactic| walk_at "same") => `(tactic| repeat first | walk_at "rdt" | walk_at "isi")
/-! ### steps by data -/
local macro_rules | `(tactic| walk_at "side") => `(tactic| first
  | exact rfl | with_reducible assumption | exact Nat.le_of_ble_eq_true rfl | decide | exact True.intro | exact le_line (Nat.le_of_ble_eq_true rfl) | exact lt_line (Nat.le_of_ble_eq_true rfl) | omega | (show (_ : Int) ≠ 0; omega) | exact cut1_ok | (unfold CPow; decide) | exact mul_ok (small_abs (by omega)) (small_abs (by omega)) | exact div_small (by omega) (by omega) | assumption)
local macro_rules | `(tactic| walk_at "dR") => `(tactic| first
  | with_reducible refine run_ownNil ?_ | with_reducible refine run_ownL ?_ | ((with_reducible refine' run_extend ?ev ?kk); (case ev => exact rfl))
  | ((with_reducible refine' run_fld ?c ?n ?e ?kk); (case c => assumption); (case n => assumption); (case e => exact rfl))
  | ((with_reducible refine' run_retO ?ev ?kk); (case ev => exact rfl)) | ((with_reducible refine' run_setix ?ev ?kk); (case ev => exact rfl)) | ((with_reducible refine' run_popAt ?ev ?kk); (case ev => exact rfl)) | ((with_reducible refine' run_insert ?ev ?kk); (case ev => exact rfl)) | with_reducible refine run_parL ?_ | with_reducible refine run_ownRep ?_
  | with_reducible refine run_seq ?_ | with_reducible refine run_if ?_ | with_reducible refine run_set ?_ | with_reducible refine run_ret ?_ | with_reducible refine run_next ?_
  | with_reducible refine run_asg ?_ | with_reducible refine run_for ?_ | ((with_reducible refine' run_append ?ev ?kk); (case ev => exact rfl)) | ((with_reducible refine' run_aug ?ev ?kk); (case ev => exact rfl))
  | with_reducible refine run_par ?_ | with_reducible refine run_drop ?_ | with_reducible refine run_retN ?_ | with_reducible refine run_break ?_ | with_reducible refine run_cont ?_)
local macro_rules | `(tactic| walk_at "dE") => `(tactic| first
  | ((with_reducible refine' ev_var ?ev ?kk); (case ev => exact rfl))
  | with_reducible refine ev_lenOwn ?_
  | ((with_reducible refine' ev_fldO ?ev ?dd ?kk); (case ev => exact rfl); (case dd => exact rfl)) | with_reducible refine ev_fld ?_ | with_reducible refine ev_methX (by assumption) ?_ | with_reducible refine ev_meth ?_ | with_reducible refine ev_prop ?_ | with_reducible refine ev_makeX (by assumption) ?_ | with_reducible refine ev_make ?_ | with_reducible refine ev_ownX (by assumption) ?_ | with_reducible refine ev_own ?_ | ((with_reducible refine' ev_isiOwn ?o ?kk); (case o => assumption))
  | ((with_reducible refine' ev_ixO ?ev ?kk); (case ev => exact rfl)) | with_reducible refine ev_rev ?_ | with_reducible refine ev_op ?_ | with_reducible refine ev_int ?_ | with_reducible refine ev_str ?_ | with_reducible refine ev_callKX (by assumption) ?_ | with_reducible refine ev_callK ?_ | with_reducible refine ev_callC (by assumption) ?_ | with_reducible refine ev_callX (by assumption) ?_ | with_reducible refine ev_call ?_ | with_reducible refine ev_cb ?_ | with_reducible refine ev_tup ?_
  | with_reducible refine ev_if ?_ | with_reducible refine ev_and ?_ | with_reducible refine ev_or ?_ | with_reducible refine ev_not ?_ | with_reducible refine ev_bl ?_ | with_reducible refine ev_non ?_ | with_reducible refine ev_isi ?_
  | with_reducible refine ev_un ?_ | with_reducible refine ev_chain ?_ | with_reducible refine ev_lst ?_ | with_reducible refine ev_cbf ?_ | with_reducible refine ev_sl ?_ | with_reducible refine ev_m1 ?_ | with_reducible refine ev_kget ?_ | with_reducible refine ev_fmt ?_ | with_reducible refine ev_join ?_ | with_reducible refine ev_ty ?_ | with_reducible refine ev_cV ?_)
local macro_rules | `(tactic| walk_at "dT") => `(tactic| first
  | with_reducible refine evt_t ?_ | with_reducible refine evt_b ?_ | with_reducible refine evt_and ?_ | with_reducible refine evt_or ?_ | with_reducible refine evt_not ?_ | with_reducible refine evt_yes ?_)
local macro_rules | `(tactic| walk_at "dX") => `(tactic| first
  | ((with_reducible refine' evx_name ?ev ?kk); (case ev => first | exact rfl | assumption)) | with_reducible refine evx_tup ?_ | with_reducible refine evx_lst ?_ | with_reducible refine evxs_cons ?_ | with_reducible refine evxs_nil ?_
  | ((with_reducible refine' evg_name ?ev ?mm ?kk); (case ev => first | exact rfl | assumption); (case mm => decide)) | with_reducible refine evg_tup ?_ | with_reducible refine evg_lst ?_ | with_reducible refine evgs_cons ?_ | with_reducible refine evgs_nil ?_
  | with_reducible refine evi_list ?_ | with_reducible refine evi_tup ?_ | with_reducible refine evi_rng1 ?_ | with_reducible refine evi_rng2 ?_ | with_reducible refine evi_enum ?_ | with_reducible refine evi_zip ?_
  | with_reducible refine eva_items ?_ | with_reducible refine evi_revA ?_ | with_reducible refine evi_enumT ?_ | with_reducible refine evf_cb ?_ | with_reducible refine evo_none ?_ | with_reducible refine evo_some ?_ | with_reducible refine evj_cons ?_ | with_reducible refine evj_nil ?_)
local macro_rules | `(tactic| walk_at "d1") => `(tactic| first
  | ((with_reducible change Ev _ _ _ _ _); walk_at "dE")
  | ((with_reducible change Run _ _ _ _ _); walk_at "dR")
  | with_reducible refine eva_cons ?_ | with_reducible refine eva_nil ?_
  | ((with_reducible change EvT _ _ _ _ _); walk_at "dT")
  | with_reducible refine eva_star ?_
  | with_reducible refine iteT ?_ | with_reducible refine iteF ?_
  | ((with_reducible change if (_ : Bool) = true then _ else _); first | refine iteT ?_ | refine iteF ?_)
  | ((with_reducible refine And.intro ?cc ?_); (case cc => walk_at "side"))
  | ((with_reducible refine' Exists.intro _ (And.intro ?cc ?kk)); (case cc => first | exact rfl | exact at_zero))
  | ((with_reducible refine' Exists.intro _ (Exists.intro _ (And.intro ?cc ?kk))); (case cc => exact rfl))
  | ((with_reducible refine' Exists.intro _ (Exists.intro _ (Exists.intro _ (And.intro ?cc (And.intro ?cd ?kk))))); (case cc => exact rfl); (case cd => exact rfl))
  | ((with_reducible refine' Exists.intro _ (Exists.intro _ (Exists.intro _ (And.intro ?cc ?kk)))); (case cc => exact rfl))
  | ((with_reducible refine' Exists.intro _ (Exists.intro _ (Exists.intro _ (Exists.intro _ (And.intro ?cc ?kk))))); (case cc => exact rfl))
  | walk_at "dX")
local macro_rules | `(tactic| walk_at "d2") => `(tactic| walk_at "d1")
local macro_rules | `(tactic| walk_at "dgo") => `(tactic| repeat walk_at "d1")
local macro_rules | `(tactic| walk_at "wk") => `(tactic| repeat first | exact True.intro | refine And.intro (Or.inl rfl) ?_ | refine And.intro (Or.inr (And.intro rfl rfl)) ?_)
local macro_rules | `(tactic| walk_at "d3") => `(tactic| first
  | ((with_reducible refine' ev_lenO ?ev ?kk); (case ev => exact rfl))
  | ((with_reducible refine' run_dputT ?ev ?kk); (case ev => exact rfl)) | ((with_reducible refine' run_dputK ?ev ?kk); (case ev => exact rfl)) | with_reducible refine run_dnewK ?_ | with_reducible refine run_dnewT ?_
  | ((with_reducible refine' ev_dgetK ?ev ?kk); (case ev => exact rfl)) | ((with_reducible refine' ev_dinK ?ev ?kk); (case ev => exact rfl)) | ((with_reducible refine' ev_dinT ?ev ?kk); (case ev => exact rfl)) | ((with_reducible refine' ev_dnotinK ?ev ?kk); (case ev => exact rfl))
  | ((with_reducible refine' run_append ?ev ?kk); (case ev => exact rfl)) | with_reducible refine run_appC ?_ | with_reducible refine run_par3 ?_ | ((with_reducible refine' eva_self ?ev ?kk); (case ev => exact rfl)) | with_reducible refine evf_methN ?_ | with_reducible refine ev_methN ?_ | with_reducible refine ev_listRg1 ?_
  | with_reducible refine evi_zipM ?_)
local macro_rules | `(tactic| walk_at "dgo") => `(tactic| repeat first | walk_at "d3" | walk_at "d1")
local macro_rules | `(tactic| walk_at "d3") => `(tactic| first
  | with_reducible refine ev_strOwn ?_ | with_reducible refine ev_ownNe ?_ | with_reducible refine ev_inOwn ?_)
local macro_rules | `(tactic| walk_at "d3") => `(tactic| first
  | with_reducible refine evi_seq ?_ | with_reducible refine evi_orL ?_ | with_reducible refine ev_cref ?_ | ((with_reducible refine' ev_makeVX ?he ?ev ?kk); (case he => assumption); (case ev => exact rfl)))
theorem sm_ep (n : Nat) (a : Bool) (i : Int) : smD (n + 1) (epD a i) := sm_tup (Nat.le_of_ble_eq_true rfl) (all2 (smD_str _ _) (smD_int _ _))
theorem sm_mv (n : Nat) (m : Mv) : smD (n + 2) (mvD m) := by
  cases m with
  | over => exact sm_tup (Nat.le_of_ble_eq_true rfl) fun d h => List.mem_singleton.mp h ▸ smD_str _ _
  | cut k => exact sm_tup (Nat.le_of_ble_eq_true rfl) (all2 (smD_str _ _) (smD_int _ _))
  | turn a k => exact sm_tup (Nat.le_of_ble_eq_true rfl) (all3 (smD_str _ _) (smD_str _ _) (smD_int _ _))
  | face a i => exact sm_tup (Nat.le_of_ble_eq_true rfl) (all2 (smD_str _ _) (sm_ep _ _ _))
  | swap a i b j => exact sm_tup (Nat.le_of_ble_eq_true rfl) (all3 (smD_str _ _) (sm_ep _ _ _) (sm_ep _ _ _))
  | carry a i b j => exact sm_tup (Nat.le_of_ble_eq_true rfl) (all3 (smD_str _ _) (sm_ep _ _ _) (sm_ep _ _ _))
theorem sm_mvs (n : Nat) {ms : List Mv} (h : ms.length < 1000) : smD (n + 3) (.lst (ms.map mvD)) := sm_lst (by rw [List.length_map]; exact h) fun d hd => by
  obtain ⟨m, _, rfl⟩ := List.mem_map.mp hd
  exact sm_mv n m
/-! ### the law -/
def spLawT (K : PySem.W.Frag) (P : Addr) : Sp := fun vs H Q _ => ∃ (a : Addr) (ns : List Int), vs = [.ref a] ∧ SqL K H a (ns.map V.int) ∧ ns.length ≤ 63 ∧ LamX.Tabs [(P, qLam)] H ∧ ∀ H', Q (.bl true) H'
theorem cutD_take {xs : List D} {k : Int} {n : Nat} (hk : k = n) (h : n ≤ xs.length) : cutD xs none (some k) = xs.take n := by
  subst hk
  unfold cutD
  rw [HT.sIx_none, HT.sIx_nat, List.drop_zero, Nat.sub_zero, Nat.min_eq_left h]
theorem cutD_drop {xs : List D} {k : Int} {n : Nat} (hk : k = n) (h : n ≤ xs.length) : cutD xs (some k) none = xs.drop n := by
  subst hk
  unfold cutD
  rw [HT.sIx_none, HT.sIx_nat, Nat.min_eq_left h, List.take_of_length_le (by rw [List.length_drop]; omega)]
theorem firstBad_of : ∀ {ds : List D} {i : Nat}, (∀ k d, k < i → ds[k]? = some d → isMoveD d = true) → (∃ d, ds[i]? = some d ∧ isMoveD d = false) → firstBad ds = some i
  | [], i, _, ⟨d, h, _⟩ => nomatch h
  | d :: l, 0, _, ⟨e, h, hb⟩ => by
    obtain rfl : d = e := Option.some.inj h
    unfold firstBad
    rw [if_neg (by rw [hb]; decide)]
  | d :: l, i + 1, h1, ⟨e, h, hb⟩ => by
    unfold firstBad
    rw [if_pos (h1 0 d (Nat.succ_pos _) rfl), firstBad_of (fun k d hk hd => h1 (k + 1) d (Nat.succ_lt_succ hk) hd) ⟨e, h, hb⟩]
    rfl
theorem join_snoc (y x : Str) : ∀ {l : List Str}, l ≠ [] → Str.join y (l ++ [x]) = Str.join y l ++ y ++ x
  | [], h => absurd rfl h
  | [a], _ => rfl
  | a :: b :: r, _ => by
    show a ++ y ++ Str.join y ((b :: r) ++ [x]) = a ++ y ++ Str.join y (b :: r) ++ y ++ x
    rw [join_snoc y x (l := b :: r) (fun z => nomatch z)]
    refine str_ext ?_
    simp only [tl_app, List.append_assoc]
theorem wtxt_x {ms : List Mv} (h : ms ≠ []) : wtxt ms ++ "; x" = Txt.join "; " (ms.map mtxt ++ (["x"] : List Str)) := by
  unfold wtxt
  rw [TL.join_eq, TL.join_eq, join_snoc _ _ (by cases ms with
    | nil => exact absurd rfl h
    | cons m r => exact fun z => nomatch z)]
  refine str_ext ?_
  simp only [tl_app, List.append_assoc]
  exact congrArg (_ ++ ·) (by decide +kernel)
theorem reach_overs : ∀ n : Nat, sumReach (List.replicate n Mv.over) = 0
  | 0 => rfl
  | n + 1 => by rw [List.replicate_succ, sumReach_cons, reach_overs n]; rfl
section
variable {w : World} {K : PySem.W.Frag} {mg : Str → Option Value}
theorem partsOf_w {ms : List Mv} (hk : ∀ m ∈ ms, m.ok) : partsOf (wtxt ms) = ms.map mtxt := by
  refine partsOf_join (fun p hp => ?_) fun e => ?_
  · obtain ⟨m, hm, rfl⟩ := List.mem_map.mp hp
    exact mtxt_free m
  · cases ms with
    | nil => cases e
    | cons m r => exact mtxt_ne (hk m (List.mem_cons_self ..)) (List.cons.inj e).1
theorem readR_ok {T : Txt K mg w} {ms : List Mv} {Pq : Rs → Prop} (hk : ∀ m ∈ ms, m.ok) (hw : wordR T (ms.map mvD) Pq) : readR T (wtxt ms) Pq := by
  refine .inl ⟨ms, ?_, hk, hw⟩
  rw [partsOf_w hk, List.map_map]
  exact List.map_congr_left fun m hm => pm_mtxt (hk m hm)
theorem readR_bad {T : Txt K mg w} {parts : List Str} {i : Nat} {x : Str} {Pq : Rs → Prop} (hp : ∀ p ∈ parts, ok2 (TL.tl p) = true) (hne : parts ≠ ([""] : List Str)) (h1 : ∀ k p, k < i → parts[k]? = some p → ∃ m : Mv, m.ok ∧ p = mtxt m) (h2 : parts[i]? = some x) (h3 : (pmR (Txt.split x " ")).isNone = true) (q : Pq (.er ⟨T.a_BadText, "at", "BadText", .int i⟩)) : readR T (Txt.join "; " parts) Pq := by
  refine .inr ⟨i, ?_, ?_, q⟩
  · rw [partsOf_join hp hne]
    intro k p hk e
    obtain ⟨m, hm, rfl⟩ := h1 k p hk e
    exact ⟨_, pm_mtxt hm⟩
  · rw [partsOf_join hp hne]
    exact ⟨x, h2, Option.isNone_iff_eq_none.mp h3⟩
end
local macro_rules | `(tactic| walk_at "d3") => `(tactic| with_reducible refine hold_if ?_)
theorem some_facts {left s : Int} {x : Mv} {many : Nat} (hm : 5 ≤ many) (h0 : 0 ≤ left) (h1 : left ≤ 400) (hx : x.ok) (hr : x.reach = s - left) :
    let ms := [Mv.cut left, x] ++ List.replicate (many - 2) Mv.over
    ms.length = many ∧ (∀ m ∈ ms, m.ok) ∧ sumReach ms = s ∧ sumReach (ms.drop (many - 3)) = 0 ∧ sumReach (ms.take (many - 3)) = s := by
  intro ms
  have e1 : ms.length = many := by
    show ([Mv.cut left, x] ++ List.replicate (many - 2) Mv.over).length = many
    rw [List.length_append, List.length_replicate]
    show 2 + (many - 2) = many
    omega
  have e2 : sumReach ms = s := by
    show sumReach ([Mv.cut left, x] ++ List.replicate (many - 2) Mv.over) = s
    rw [sumReach_append, reach_overs, sumReach_cons, sumReach_cons]
    show (if left < 0 then -left else left) + (x.reach + 0) + 0 = s
    rw [if_neg (by omega)]
    omega
  have e3 : sumReach (ms.drop (many - 3)) = 0 := by
    show sumReach (([Mv.cut left, x] ++ List.replicate (many - 2) Mv.over).drop (many - 3)) = 0
    rw [List.drop_append, List.drop_of_length_le (by show 2 ≤ many - 3; omega), List.nil_append, List.drop_replicate]
    exact reach_overs _
  refine ⟨e1, fun m hm => ?_, e2, e3, ?_⟩
  · rcases List.mem_append.mp hm with h | h
    · rcases List.mem_cons.mp h with rfl | h
      · exact ⟨by omega, h1⟩
      · rw [List.mem_singleton.mp h]; exact hx
    · rw [(List.mem_replicate.mp h).2]; exact True.intro
  · have := sumReach_append (ms.take (many - 3)) (ms.drop (many - 3))
    rw [List.take_append_drop, e2, e3] at this
    omega
def dueL (deep many : Int) (ms : List Mv) : D := if 40 < many then .tup [.str "TooLong", .int 40] else if 60 < deep then .tup [.str "TooLong", .int 60] else .tup [.str "value", .str (wtxt ms)]
theorem sm_due (deep many : Int) (ms : List Mv) : smD 4 (dueL deep many ms) := by
  unfold dueL
  split
  · exact sm_tup (Nat.le_of_ble_eq_true rfl) (all2 (smD_str _ _) (smD_int _ _))
  · split
    · exact sm_tup (Nat.le_of_ble_eq_true rfl) (all2 (smD_str _ _) (smD_int _ _))
    · exact sm_tup (Nat.le_of_ble_eq_true rfl) (all2 (smD_str _ _) (smD_str _ _))
theorem erPair {z : Str} (hz : PyData.strOk z = true) (i : Int) : fineN 1 (.tup [.str z, .int i]) := fineN_tup (n := 0) (all2 (fineN_str 0 hz) (fineN_int 0 _))
section
variable {P : Program} {w : World} {K : PySem.W.Frag} {mg : Str → Option Value} {base : Heap}
theorem ok_law (T : Txt K mg w) (TB : LamX.TabB base mg T.c_law T.p_law) : FnOk P w K mg base CX0 18 T.a_law T.d_law P_law (spLawT K T.p_law) := by
  have G__law_bag := ok__law_bag (P := P) (w := w) (base := base) T
  have G__law_pull := okd_pull (P := P) (w := w) (base := base) T
  have G__law_of := ok__law_of (P := P) (w := w) (base := base) T
  have G__law_same := okd_same (ok_same (P := P) (w := w) (base := base) T 4)
  have G__law_text := ok__law_text (P := P) (w := w) (base := base) T
  have G__law_made := ok__law_made (P := P) (w := w) (base := base) T
  have G_Word___str__ := ok_Word___str__ (P := P) (w := w) (base := base) T
  have G_Word___add__ := ok_Word___add__ (P := P) (w := w) (base := base) T
  have G_Word___init__ := ok_Word___init__ (P := P) (w := w) (base := base) T
  have G_Word_read := fnR_ofB (ok_Word_read (P := P) (w := w) (base := base) T) T.b_Word_read
  obtain ⟨ocT, odT, kVT, docT, pmT, anT, cdT, ctT, oslT, eT, lkTry, hcTry⟩ := T.F__law_try.ex
  have bTry := T.b__law_try
  rw [eT] at lkTry bTry
  refine T.C_law.ok sc_law (fun vs H Q E h => ?_) (fun A outer s H vs Q E hr h => ?_)
  · obtain ⟨a, ns, rfl, _⟩ := h
    rfl
  · obtain ⟨a, ns, rfl, hS, hlen, hT0, q⟩ := h
    refine ⟨_, (pss_cons (ps_set (i := 1) sc_law.nd rfl (Or.inl rfl) (pe_call G__law_bag (hr.mono (by decide)) (by rfl) T.g__law_bag T.F__law_bag.kp T.b__law_bag .nil pass0 (pa_cons (pv 0) pa_nil)))
  (pss_cons (ps_for PassesOwn.never rfl (pi_range1 rfl T.m_range (pa_cons pe_int pa_nil)) (pg_name (i := 2) sc_law.nd rfl (Or.inl rfl))
  (pss_cons (ps_par (by rfl) sc_law.nd (i := 3) (j := 4) rfl rfl (by decide) rfl rfl (pa_cons (pe_op op_add pe_int (pe_call G__law_pull (hr.mono (by decide)) (by rfl) T.g__law_pull T.F__law_pull.kp T.b__law_pull .nil pass0 (pa_cons (pv 1) (pa_cons pe_int pa_nil)))) (pa_cons (pe_op op_add pe_int (pe_call G__law_pull (hr.mono (by decide)) (by rfl) T.g__law_pull T.F__law_pull.kp T.b__law_pull .nil pass0 (pa_cons (pv 1) (pa_cons pe_int pa_nil)))) pa_nil)) (by rfl))
  (pss_cons (ps_set (i := 5) sc_law.nd rfl (Or.inl rfl) (pe_call G__law_pull (hr.mono (by decide)) (by rfl) T.g__law_pull T.F__law_pull.kp T.b__law_pull .nil pass0 (pa_cons (pv 1) (pa_cons (pe_op op_add (pv 4) pe_int) pa_nil))))
  (pss_cons (ps_set (i := 6) sc_law.nd rfl (Or.inr rfl) (pe_op op_cat (pe_lst (pa_cons (pe_tup (pa_cons pe_str (pa_cons (pv 5) pa_nil))) (pa_cons (pe_call G__law_of (hr.mono (by decide)) (by rfl) T.g__law_of T.F__law_of.kp T.b__law_of .nil pass0 (pa_cons (pv 1) (pa_cons (pe_lst (pa_cons (pe_tup (pa_cons pe_str (pa_cons (pe_op op_sub (pv 4) (pv 5)) pa_nil))) (pa_cons (pe_tup (pa_cons pe_str (pa_cons pe_str (pa_cons (pe_op op_sub (pv 4) (pv 5)) pa_nil)))) pa_nil))) pa_nil))) pa_nil))) (pe_op op_rep (pe_lst (pa_cons (pe_tup (pa_cons pe_str pa_nil)) pa_nil)) (pe_op op_sub (pv 3) pe_int))))
  (pss_cons (ps_set (i := 7) sc_law.nd rfl (Or.inl rfl) (pe_tup (pa_cons pe_str (pa_cons (pe_call G__law_text (hr.mono (by decide)) (by rfl) T.g__law_text T.F__law_text.kp T.b__law_text .nil pass0 (pa_cons (pv 6) pa_nil)) pa_nil))))
  (pss_cons (ps_if (pt_cmpR op_gt (pv 4) pe_int (nomark _))
  (pss_one (ps_set (i := 7) sc_law.nd rfl (Or.inl rfl) (pe_tup (pa_cons pe_str (pa_cons pe_int pa_nil))))) pss_nil)
  (pss_cons (ps_if (pt_cmpR op_gt (pv 3) pe_int (nomark _))
  (pss_one (ps_set (i := 7) sc_law.nd rfl (Or.inl rfl) (pe_tup (pa_cons pe_str (pa_cons pe_int pa_nil))))) pss_nil)
  (pss_cons (ps_if (pt_not (pt_val (pe_call G__law_same (hr.mono (by decide)) (by rfl) T.g__law_same T.F__law_same.kp T.b__law_same .nil pass0 (pa_cons (LamX.pe_lamcall (k := 12) (T := [(T.p_law, qLam)]) (a := "_law_ask") rfl T.g__law_try T.F__law_try.kp lkTry hcTry bTry sc__law_try rfl (by first | exact Or.inl rfl | exact Or.inr (Or.inl rfl)) (gives_try T rfl rfl rfl rfl rfl (hr.mono (by decide))) TB rfl (List.mem_cons_self ..) (fun p hp _ => by rw [List.mem_singleton.mp hp] <;> rfl) (hr.mono (by decide)) (LamX.lamS_by (by show LamX.lamSB (defScope s_law) _ = true; decide +kernel)) rfl (fun _ _ _ _ _ => rfl) (fun A2 outer2 s2 H2 E2 f2 c2 hr => (pe_callTy (call_strOwn T.O_Word___str__ G_Word___str__ T.b_Word___str__ (hr.mono (by decide)) (passes_call (takes_of rfl rfl rfl rfl) fun _ _ _ _ h => h)) (by rfl) T.m_str boot_str (pa_cons (pe_cm (by rfl) T.g_Word T.r_Word T.K_Word_read G_Word_read (hr.mono (by decide)) (passes_call (takes_of rfl rfl rfl rfl) fun _ _ _ _ h => h) (pa_cons (pe_call G__law_text (hr.mono (by decide)) (by rfl) T.g__law_text T.F__law_text.kp T.b__law_text .nil pass0 (pa_cons (pv 6) pa_nil)) pa_nil)) pa_nil)))) (pa_cons (pv 7) pa_nil)))))
  (pss_one (ps_ret pe_bl)) pss_nil)
  (pss_cons (ps_asg (pe_tup (pa_cons (pe_slice (k_slL (K := K)) (pv 6) po_none (po_some (pe_op op_sub (pv 3) pe_int))) (pa_cons (pe_slice (k_slL (K := K)) (pv 6) (po_some (pe_op op_sub (pv 3) pe_int)) po_none) pa_nil))) (k_gT (K := K) (n := 2) (pgs_cons (pg_name (i := 8) sc_law.nd rfl (Or.inr rfl)) (pgs_cons (pg_name (i := 9) sc_law.nd rfl (Or.inl rfl)) pgs_nil))))
  (pss_cons (ps_asg (pe_tup (pa_cons (pe_lamcall1 (TT := TTry K T.a_PileError) (q := qLam) (P := T.p_law) (k := 12) (a := "_law_ask") (z := "_law_a") rfl T.g__law_try T.F__law_try.kp lkTry hcTry bTry sc__law_try rfl (by first | exact Or.inl rfl | exact Or.inr (Or.inl rfl)) (gives_try T rfl rfl rfl rfl rfl (hr.mono (by decide))) (fun _ _ _ _ h hc => ⟨hc, h⟩) TB rfl rfl (hr.mono (by decide)) (lamN_by (by show lamNB N_law (defScope s_law) _ = true; decide +kernel)) rfl (fun _ _ _ _ _ _ => ⟨_, rfl, rfl⟩) (fun A2 outer2 s2 H2 E2 f2 c2 hr => (pe_call G__law_made (hr.mono (by decide)) (by rfl) T.g__law_made T.F__law_made.kp T.b__law_made .nil (passes_call (takes_of rfl rfl rfl rfl) fun _ _ _ _ h => h) (pa_cons (pv 8) pa_nil)))) (pa_cons (pe_call G__law_made (hr.mono (by decide)) (by rfl) T.g__law_made T.F__law_made.kp T.b__law_made .nil passL (pa_cons (pv 9) pa_nil)) pa_nil))) (k_gT (K := K) (n := 2) (pgs_cons (pg_name (i := 10) sc_law.nd rfl (Or.inr rfl)) (pgs_cons (pg_name (i := 11) sc_law.nd rfl (Or.inr rfl)) pgs_nil))))
  (pss_cons (ps_if (PW.pt (pw_and (pt_cmpR op_lt (pv 4) pe_int (nomark _)) (pw_and1 (PW.pt (pw_or (pt_cmpR op_ne (pe_ix (k_ixT (K := K)) (pv 10) pe_int (fun _ _ => rfl)) pe_str (nomark _)) (pw_or1 (pt_not (pt_val (pe_call G__law_same (hr.mono (by decide)) (by rfl) T.g__law_same T.F__law_same.kp T.b__law_same .nil pass0 (pa_cons (pe_lamcall1 (TT := TTry K T.a_PileError) (q := qLam) (P := T.p_law) (k := 12) (a := "_law_ask") (z := "_law_b") rfl T.g__law_try T.F__law_try.kp lkTry hcTry bTry sc__law_try rfl (by first | exact Or.inl rfl | exact Or.inr (Or.inl rfl)) (gives_try T rfl rfl rfl rfl rfl (hr.mono (by decide))) (fun _ _ _ _ h hc => ⟨hc, h⟩) TB rfl rfl (hr.mono (by decide)) (lamN_by (by show lamNB N_law (defScope s_law) _ = true; decide +kernel)) rfl (fun _ _ _ _ _ _ => ⟨_, rfl, rfl⟩) (fun A2 outer2 s2 H2 E2 f2 c2 hr => (pe_callTy (call_strOwn T.O_Word___str__ G_Word___str__ T.b_Word___str__ (hr.mono (by decide)) (passes_call (takes_of rfl rfl rfl rfl) fun _ _ _ _ h => h)) (by rfl) T.m_str boot_str (pa_cons (pe_op (op_own T.O_Word___add__ G_Word___add__ T.b_Word___add__ (hr.mono (by decide)) (passes_call (takes_of rfl rfl rfl rfl) fun _ _ _ _ h => h)) (pe_ix (k_ixT (K := K)) (pv 10) pe_int (fun _ _ => rfl)) (pv 11)) pa_nil)))) (pa_cons (pv 7) pa_nil)))))))))))
  (pss_one (ps_ret pe_bl)) pss_nil)
  (pss_cons (ps_if (PW.pt (pw_and (pt_cmpR op_gt (pv 4) pe_int (nomark _)) (pw_and1 (pt_cmpR (k_neD (K := K) hr.units) (pv 10) (pe_tup (pa_cons pe_str (pa_cons pe_int pa_nil))) (nomark _)))))
  (pss_one (ps_ret pe_bl)) pss_nil)
  (pss_one (ps_if (pt_cmpR (k_neD (K := K) hr.units) (pe_lamcall1 (TT := TTry K T.a_PileError) (q := qLam) (P := T.p_law) (k := 12) (a := "_law_ask") (z := "_law_c") rfl T.g__law_try T.F__law_try.kp lkTry hcTry bTry sc__law_try rfl (by first | exact Or.inl rfl | exact Or.inr (Or.inl rfl)) (gives_try T rfl rfl rfl rfl rfl (hr.mono (by decide))) (fun _ _ _ _ h hc => ⟨hc, h⟩) TB rfl rfl (hr.mono (by decide)) (lamN_by (by show lamNB N_law (defScope s_law) _ = true; decide +kernel)) rfl (fun _ _ _ _ _ _ => ⟨_, rfl, rfl⟩) (fun A2 outer2 s2 H2 E2 f2 c2 hr => (pe_cm (by rfl) T.g_Word T.r_Word T.K_Word_read G_Word_read (hr.mono (by decide)) (passes_call (takes_of rfl rfl rfl rfl) fun _ _ _ _ h => h) (pa_cons (pe_op k_addS (pe_call G__law_text (hr.mono (by decide)) (by rfl) T.g__law_text T.F__law_text.kp T.b__law_text .nil pass0 (pa_cons (pv 6) pa_nil)) pe_str) pa_nil)))) (pe_tup (pa_cons pe_str (pa_cons (pv 3) pa_nil))) (nomark _))
  (pss_one (ps_ret pe_bl)) pss_nil))))))))))))))
  (pss_one (ps_ret (pe_and (pe_cmpR (k_eqD (K := K) hr.units) (LamX.pe_lamcall (k := 12) (T := [(T.p_law, qLam)]) (a := "_law_ask") rfl T.g__law_try T.F__law_try.kp lkTry hcTry bTry sc__law_try rfl (by first | exact Or.inl rfl | exact Or.inr (Or.inl rfl)) (gives_try T rfl rfl rfl rfl rfl (hr.mono (by decide))) TB rfl (List.mem_cons_self ..) (fun p hp _ => by rw [List.mem_singleton.mp hp] <;> rfl) (hr.mono (by decide)) (LamX.lamS_by (by show LamX.lamSB (defScope s_law) _ = true; decide +kernel)) rfl (fun _ _ _ _ _ => rfl) (fun A2 outer2 s2 H2 E2 f2 c2 hr => (StX.pe_makeR T.mk_Word G_Word___init__ (hr.mono (by decide)) (by rfl) T.g_Word (passes_call (takes_of rfl rfl rfl rfl) fun _ _ _ _ h => h) (pa_cons (pe_tup (pa_cons pe_str (pa_cons pe_int pa_nil))) pa_nil)))) (pe_tup (pa_cons pe_str (pa_cons pe_int pa_nil))) (nomark _)) (pe_one (pe_cmpR (k_eqD (K := K) hr.units) (pe_lamcall1 (TT := TTry K T.a_PileError) (q := qLam) (P := T.p_law) (k := 12) (a := "_law_ask") (z := "_law_a") rfl T.g__law_try T.F__law_try.kp lkTry hcTry bTry sc__law_try rfl (by first | exact Or.inl rfl | exact Or.inr (Or.inl rfl)) (gives_try T rfl rfl rfl rfl rfl (hr.mono (by decide))) (fun _ _ _ _ h hc => ⟨hc, h⟩) TB rfl rfl (hr.mono (by decide)) (lamN_by (by show lamNB N_law (defScope s_law) _ = true; decide +kernel)) rfl (fun _ _ _ _ _ _ => ⟨_, rfl, rfl⟩) (fun A2 outer2 s2 H2 E2 f2 c2 hr => (StX.pe_makeR T.mk_Word G_Word___init__ (hr.mono (by decide)) (by rfl) T.g_Word (passes_call (takes_of rfl rfl rfl rfl) fun _ _ _ _ h => h) (pa_cons (pe_tup (pa_cons pe_str (pa_cons pe_int pa_nil))) (pa_cons (pe_tup (pa_cons pe_str (pa_cons pe_int pa_nil))) pa_nil))))) (pe_tup (pa_cons pe_str (pa_cons pe_int pa_nil))) (nomark _)))))))), ?_⟩
    refine ⟨.ref a, rfl, a, ns, rfl, hS, hlen, fun b l H1 nb nl s1 hB1 => ?_⟩
    dsimp only [gName]
    have hT1 : Tab H1 T.p_law := (hT0.ext s1) _ (List.mem_cons_self ..)
    refine law_runT (K := K) (E := E) (n := 10) hB1 hT1 q fun C hE hC hts hO => ?_
    walk_at "dgo"
    refine forW [.val (.oth (.ref a)), .val (.oth (.ref b)), .no, .no, .no, .no, .no, .no, .no, .no, .no, .no] (by walk_at "wk") (fun hv hd i d hi => ?_) (seq_wk ?_)
    · walk_at "dgo"
      intro m0 m00 m01
      walk_at "dgo"
      intro d0 d00 d01
      obtain ⟨many, hm⟩ : ∃ many : Nat, 39 + m0 = (many : Int) := ⟨(39 + m0).toNat, by omega⟩
      walk_at "dgo"
      intro left l0 l1
      walk_at "dgo"
      intro z xd hx
      obtain ⟨x, hxk, hxr, rfl⟩ : ∃ x : Mv, x.ok ∧ x.reach = 58 + d0 - left ∧ xd = mvD x := by
        rcases z with _ | _ | z
        · cases hx
          exact ⟨.cut (58 + d0 - left), ⟨by omega, by omega⟩, if_neg (by omega), rfl⟩
        · cases hx
          exact ⟨.turn true (58 + d0 - left), ⟨by omega, by omega⟩, rfl, rfl⟩
        · exact nomatch (show none = some xd from hx)
      clear hx
      walk_at "dgo"
      refine ev_f (evf_rep ?_)
      walk_at "dgo"
      have emv : [D.tup [D.str "cut", D.int left], mvD x] ++ (List.replicate (39 + m0 - 2).toNat [D.tup [D.str "over"]]).flatten = ([Mv.cut left, x] ++ List.replicate (many - 2) Mv.over).map mvD := by
        rw [flat_repD, show (39 + m0 - 2).toNat = many - 2 by omega, List.map_append, List.map_replicate]
        rfl
      have hm5 : 39 ≤ many ∧ many ≤ 42 := by omega
      obtain ⟨hl, hk, hsum, hdr, htk⟩ := some_facts (s := 58 + d0) (many := many) (by omega) l0 (by omega) hxk hxr
      have line100 : 100 ≤ sizeLine := Nat.le_of_ble_eq_true rfl
      refine And.intro (Nat.le_trans (by show 1 * _ ≤ 100; omega) line100) ?_
      dsimp only [asL]
      refine And.intro (Nat.le_trans (by rw [flat_repD, List.length_replicate]; show 2 + _ ≤ 100; omega) line100) ?_
      rw [emv]
      generalize [Mv.cut left, x] ++ List.replicate (many - 2) Mv.over = ms at hl hk hsum hdr htk
      clear emv hxr hxk
      have lm100 : ms.length ≤ 100 := by omega
      have ztl : (wtxt ms).length ≤ 100000 := Nat.le_trans (join2_len (mtxts_len hk)).1 (by rw [List.length_map]; omega)
      have zp1 : ∀ p ∈ partsOf (wtxt ms), p.length ≤ 1000 := fun p hp => by
        rw [partsOf_w hk] at hp
        exact Nat.le_trans (mtxts_len hk p hp) (by decide)
      have zp2 : (partsOf (wtxt ms)).length ≤ 1000 := by rw [partsOf_w hk, List.length_map]; omega
      walk_at "dgo"
      refine run_ifTo 7 (if 60 < 58 + d0 then .tup [.str "TooLong", .int 60] else .tup [.str "value", .str (wtxt ms)]) ?_ ?_
      · walk_at "dgo"
        refine ⟨fun h => ?_, fun h => ?_⟩
        · rw [if_pos (of_decide_eq_true h)]
          walk_at "dgo"
          exact rfl
        · rw [if_neg (of_decide_eq_false h)]
          rfl
      walk_at "dgo"
      refine run_ifTo 7 (dueL (58 + d0) (39 + m0) ms) ?_ ?_
      · walk_at "dgo"
        unfold dueL
        refine ⟨fun h => ?_, fun h => ?_⟩
        · rw [if_pos (of_decide_eq_true h)]
          walk_at "dgo"
          exact rfl
        · rw [if_neg (of_decide_eq_false h)]
          rfl
      walk_at "dgo"
      refine ev_to (d := dueL (58 + d0) (39 + m0) ms) ?_ ?_
      · refine ev_try hts hO hC (fun C' e1 e2 e3 => ?_)
        have hEE : C'.E = C'.E := rfl
        clear e1
        walk_at "dgo"
        refine readR_ok hk (.inl ⟨ms, rfl, hk, by omega, ?_⟩)
        unfold dueL at e3
        by_cases h1 : 40 < 39 + m0
        · rw [if_pos (by omega)]
          rw [if_pos h1] at e3
          show C'.X _
          rw [e3]
          exact ⟨tells_of T.x_TooLong (by decide +kernel) (by decide +kernel), rfl⟩
        rw [if_neg (by omega)]
        rw [if_neg h1] at e3
        by_cases h2 : 60 < 58 + d0
        · rw [if_pos (by omega)]
          rw [if_pos h2] at e3
          show C'.X _
          rw [e3]
          exact ⟨tells_of T.x_TooLong (by decide +kernel) (by decide +kernel), rfl⟩
        rw [if_neg (by omega)]
        walk_at "dgo"
        unfold dueL
        rw [if_neg h1, if_neg h2]
      walk_at "dgo"
      refine And.intro (sm_due _ _ _) ?_
      walk_at "dgo"
      rw [cutD_take (n := many - 3) (by omega) (by rw [List.length_map]; omega), cutD_drop (n := many - 3) (by omega) (by rw [List.length_map]; omega), ← List.map_take, ← List.map_drop]
      have hkt : ∀ m ∈ ms.take (many - 3), m.ok := fun m h => hk m (List.mem_of_mem_take h)
      have hkd : ∀ m ∈ ms.drop (many - 3), m.ok := fun m h => hk m (List.mem_of_mem_drop h)
      have ltk : (ms.take (many - 3)).length ≤ 40 := by rw [List.length_take]; omega
      have ldr : (ms.drop (many - 3)).length ≤ 40 := by rw [List.length_drop]; omega
      have lsum : (ms.take (many - 3)).length + (ms.drop (many - 3)).length ≤ 100000 := by omega
      refine ev_to (d := if 60 < 58 + d0 then .tup [.str "TooLong", .int 60] else .tup [.str "value", wordD T.a_Word (ms.take (many - 3))]) ?_ ?_
      · refine ev_try hts hO hC (fun C' e1 e2 e3 => ?_)
        have hEE : C'.E = C'.E := rfl
        clear e1
        walk_at "dgo"
        rw [htk]
        by_cases h2 : 60 < 58 + d0
        · simp only [if_pos h2] at e3 ⊢
          show C'.X _
          rw [e3]
          exact ⟨tells_of T.x_TooLong (by decide +kernel) (by decide +kernel), rfl⟩
        simp only [if_neg h2]
        walk_at "dgo"
      walk_at "dgo"
      rw [hdr, if_neg (show ¬ (60 : Int) < 0 by decide)]
      walk_at "dgo"
      have htd : ms.take (many - 3) ++ ms.drop (many - 3) = ms := List.take_append_drop _ _
      have hne : ms ≠ [] := fun e => by rw [e] at hl; rw [← hl] at hm5; exact absurd hm5.1 (by decide)
      have hxx := wtxt_x hne
      have hxl : ∀ p ∈ ms.map mtxt ++ (["x"] : List Str), p.length ≤ 200 := fun p hp => (List.mem_append.mp hp).elim (mtxts_len hk p) fun h => by rw [List.mem_singleton.mp h]; decide
      have hxp : ∀ p ∈ ms.map mtxt ++ (["x"] : List Str), ok2 (TL.tl p) = true := fun p hp => (List.mem_append.mp hp).elim (fun h => by
        obtain ⟨m, _, rfl⟩ := List.mem_map.mp h
        exact mtxt_free m) fun h => by rw [List.mem_singleton.mp h]; decide +kernel
      have hxc : (ms.map mtxt ++ (["x"] : List Str)).length = many + 1 := by rw [List.length_append, List.length_map, hl]; rfl
      have hxn : ms.map mtxt ++ (["x"] : List Str) ≠ ([""] : List Str) := fun e => by rw [e] at hxc; have : 1 = many + 1 := hxc; omega
      have hxi : (ms.map mtxt ++ (["x"] : List Str))[ms.length]? = some "x" := by rw [List.getElem?_append_right (by rw [List.length_map]; exact Nat.le_refl _), List.length_map, Nat.sub_self]; rfl
      have hxj := join2_len hxl
      have zx0 : (wtxt ms ++ "; x").length ≤ 100000 := by rw [hxx]; exact Nat.le_trans hxj.1 (by omega)
      have zx1 : (wtxt ms).length + (Str.ofString "; x").length ≤ sizeLine := by
        rw [← len_app]
        exact Nat.le_trans zx0 (Nat.le_of_ble_eq_true rfl)
      have hxo := partsOf_join hxp hxn
      have zx2 : ∀ p ∈ partsOf (wtxt ms ++ "; x"), p.length ≤ 1000 := fun p hp => by
        rw [hxx, hxo] at hp
        exact Nat.le_trans (hxl p hp) (by decide)
      have zx3 : (partsOf (wtxt ms ++ "; x")).length ≤ 1000 := by rw [hxx, hxo]; omega
      by_cases h2 : 60 < 58 + d0
      · simp only [if_pos h2]
        refine as_F (decide_eq_false (by omega)) ?_
        walk_at "dgo"
        dsimp only [asI, asB, vD]
        refine as_T (decide_eq_true h2) ?_
        walk_at "dgo"
        refine And.intro (erPair (z := "TooLong") (by decide +kernel) _).fine.2 (And.intro (erPair (z := "TooLong") (by decide +kernel) _).fine.2 ?_)
        refine as_F (by show (!PyData.eqv _ _) = false; exact congrArg (!·) (SeqAt.eqv_refl _ (erPair (z := "TooLong") (by decide +kernel) _).2.1)) ?_
        walk_at "dgo"
        refine ev_try hts hO hC (fun C' e1 e2 e3 => ?_)
        have hEE : C'.E = C'.E := rfl
        clear e1
        walk_at "dgo"
        rw [hxx]
        refine readR_bad hxp hxn (fun k p hk' e => ?_) hxi (by decide +kernel) ?_
        · rw [List.getElem?_append_left (by rw [List.length_map]; exact hk')] at e
          rw [List.getElem?_map] at e
          obtain ⟨m, gm, rfl⟩ := Option.map_eq_some_iff.mp e
          exact ⟨m, hk m (List.mem_of_getElem? gm), rfl⟩
        show C'.X _
        rw [e3]
        refine ⟨tells_of T.x_BadText (by decide +kernel) (by decide +kernel), ?_⟩
        walk_at "dgo"
        rw [hl, ← hm]
        refine And.intro (erPair (z := "BadText") (by decide +kernel) _).fine.2 (And.intro (erPair (z := "BadText") (by decide +kernel) _).fine.2 ?_)
        refine as_F (by show (!PyData.eqv _ _) = false; exact congrArg (!·) (SeqAt.eqv_refl _ (erPair (z := "BadText") (by decide +kernel) _).2.1)) ?_
        walk_at "dgo"
        walk_at "wk"
      · simp only [if_neg h2]
        refine as_T (decide_eq_true (by omega)) ?_
        walk_at "dgo"
        refine ev_to (d := dueL (58 + d0) (39 + m0) ms) ?_ ?_
        · refine ev_try hts hO hC (fun C' e1 e2 e3 => ?_)
          have hEE : C'.E = C'.E := rfl
          clear e1
          walk_at "dgo"
          rw [htd]
          refine .inl ⟨ms, rfl, hk, by omega, ?_⟩
          unfold dueL at e3 ⊢
          simp only [if_neg h2] at e3 ⊢
          rw [if_neg (show ¬ 60 < sumReach ms by omega)]
          by_cases h1 : 40 < 39 + m0
          · rw [if_pos (show 40 < ms.length by omega)]
            simp only [if_pos h1] at e3
            show C'.X _
            rw [e3]
            exact ⟨tells_of T.x_TooLong (by decide +kernel) (by decide +kernel), rfl⟩
          rw [if_neg (show ¬ 40 < ms.length by omega)]
          simp only [if_neg h1] at e3 ⊢
          walk_at "dgo"
          exact rfl
        walk_at "dgo"
        refine And.intro (sm_due _ _ _) ?_
        walk_at "dgo"
        dsimp only [asI, asB, vD]
        refine as_F (decide_eq_false h2) ?_
        walk_at "dgo"
        refine ev_try hts hO hC (fun C' e1 e2 e3 => ?_)
        have hEE : C'.E = C'.E := rfl
        clear e1
        walk_at "dgo"
        rw [hxx]
        refine readR_bad hxp hxn (fun k p hk' e => ?_) hxi (by decide +kernel) ?_
        · rw [List.getElem?_append_left (by rw [List.length_map]; exact hk')] at e
          rw [List.getElem?_map] at e
          obtain ⟨m, gm, rfl⟩ := Option.map_eq_some_iff.mp e
          exact ⟨m, hk m (List.mem_of_getElem? gm), rfl⟩
        show C'.X _
        rw [e3]
        refine ⟨tells_of T.x_BadText (by decide +kernel) (by decide +kernel), ?_⟩
        walk_at "dgo"
        rw [hl, ← hm]
        refine And.intro (erPair (z := "BadText") (by decide +kernel) _).fine.2 (And.intro (erPair (z := "BadText") (by decide +kernel) _).fine.2 ?_)
        refine as_F (by show (!PyData.eqv _ _) = false; exact congrArg (!·) (SeqAt.eqv_refl _ (erPair (z := "BadText") (by decide +kernel) _).2.1)) ?_
        walk_at "dgo"
        walk_at "wk"
    · walk_at "dgo"
      refine ev_try hts hO hC (fun C' e1 e2 e3 => ?_)
      have hEE : C'.E = C'.E := rfl
      clear e1
      walk_at "dgo"
      refine .inl ⟨[.cut 61], rfl, fun x hx => by rw [List.mem_singleton.mp hx]; exact ⟨by decide, by decide⟩, Nat.le_of_ble_eq_true rfl, ?_⟩
      rw [if_neg (show ¬ 40 < [Mv.cut 61].length by decide), if_pos (show (60 : Int) < sumReach [Mv.cut 61] by decide)]
      show C'.X _
      rw [e3]
      refine ⟨tells_of T.x_TooLong (by decide +kernel) (by decide +kernel), ?_⟩
      walk_at "dgo"
      refine And.intro (erPair (z := "TooLong") (by decide +kernel) _).fine.2 (And.intro (erPair (z := "TooLong") (by decide +kernel) _).fine.2 ?_)
      walk_at "dgo"
      refine ev_try hts hO hC (fun C' e1 e2 e3 => ?_)
      have hEE : C'.E = C'.E := rfl
      clear e1
      walk_at "dgo"
      refine .inr ⟨1, all2 (fineN_mv (.cut 61)).fine (fineN_mv (.cut 401)).fine, Nat.le_of_ble_eq_true rfl, by decide +kernel, ?_⟩
      show C'.X _
      rw [e3]
      refine ⟨tells_of T.x_BadMove (by decide +kernel) (by decide +kernel), ?_⟩
      walk_at "dgo"
      refine And.intro (erPair (z := "BadMove") (by decide +kernel) _).fine.2 (And.intro (erPair (z := "BadMove") (by decide +kernel) _).fine.2 ?_)
      exact rfl
end
theorem all_mk {w : World} {K : PySem.W.Frag} {h : Heap} {mg : Str → Option Value} {fa : Addr} (X : K.In h) (G : h.Ns mainGlobals mg) (hfa : mg "law" = some (.ref fa))
    {f0 f1 f2 f3 f4 f5 f6 f7 f8 f9 f10 f11 f12 f13 f14 f15 f16 f17 f18 f19 f20 f21 f22 f23 f24 f25 f26 f27 f28 f29 f30 f31 f32 : Addr} {od0 an0 od1 an1 od2 an2 od3 an3 od4 an4 od5 an5 od6 an6 od7 an7 od8 an8 od9 an9 od10 an10 od11 an11 od12 an12 od13 an13 od14 an14 od15 an15 od16 an16 od17 an17 od18 an18 od19 an19 od20 an20 od21 an21 od22 an22 od23 an23 od24 an24 od25 an25 od26 an26 od27 an27 od28 an28 od29 an29 od30 an30 od31 an31 od32 an32 : Option Addr} {sl0 sl1 sl2 sl3 sl4 sl5 sl6 sl7 sl8 sl9 sl10 sl11 sl12 sl13 sl14 sl15 sl16 sl17 sl18 sl19 sl20 sl21 sl22 sl23 sl24 sl25 sl26 sl27 sl28 sl29 sl30 sl31 sl32 : Array (Option Value)} {oc0 kV0 dc0 pm0 cd0 ct0 oc1 kV1 dc1 pm1 cd1 ct1 oc2 kV2 dc2 pm2 cd2 ct2 oc3 kV3 dc3 pm3 cd3 ct3 oc4 kV4 dc4 pm4 cd4 ct4 oc5 kV5 dc5 pm5 cd5 ct5 oc6 kV6 dc6 pm6 cd6 ct6 oc7 kV7 dc7 pm7 cd7 ct7 oc8 kV8 dc8 pm8 cd8 ct8 oc9 kV9 dc9 pm9 cd9 ct9 oc10 kV10 dc10 pm10 cd10 ct10 oc11 kV11 dc11 pm11 cd11 ct11 oc12 kV12 dc12 pm12 cd12 ct12 oc13 kV13 dc13 pm13 cd13 ct13 oc14 kV14 dc14 pm14 cd14 ct14 oc15 kV15 dc15 pm15 cd15 ct15 oc16 kV16 dc16 pm16 cd16 ct16 oc17 kV17 dc17 pm17 cd17 ct17 oc18 kV18 dc18 pm18 cd18 ct18 oc19 kV19 dc19 pm19 cd19 ct19 oc20 kV20 dc20 pm20 cd20 ct20 oc21 kV21 dc21 pm21 cd21 ct21 oc22 kV22 dc22 pm22 cd22 ct22 oc23 kV23 dc23 pm23 cd23 ct23 oc24 kV24 dc24 pm24 cd24 ct24 oc25 kV25 dc25 pm25 cd25 ct25 oc26 kV26 dc26 pm26 cd26 ct26 oc27 kV27 dc27 pm27 cd27 ct27 oc28 kV28 dc28 pm28 cd28 ct28 oc29 kV29 dc29 pm29 cd29 ct29 oc30 kV30 dc30 pm30 cd30 ct30 oc31 kV31 dc31 pm31 cd31 ct31 oc32 kV32 dc32 pm32 cd32 ct32 : Value} {TD2 : Addr} {ddD2 : Option Addr} {mD2 : Nat} {smD2 : Array (Option Value)} {uD2_0 : Tok} {t_MOST_DIGITS : Tok} {t_MOST_DEPTH : Tok} {t_MOST_BLOCK : Tok} {a_ENDS : Addr} {es_ENDS : Array DictEntry} {n_ENDS : Nat} {u_ENDS_t : Tok} {u_ENDS_b : Tok} {a_SHAPES : Addr} {es_SHAPES : Array DictEntry} {n_SHAPES : Nat} {a_SHAPES_swap : Addr} {dd_SHAPES_swap : Option Addr} {m_SHAPES_swap : Nat} {sl_SHAPES_swap : Array (Option Value)} {u_SHAPES_swap_0 u_SHAPES_swap_1 : Tok} {a_SHAPES_carry : Addr} {dd_SHAPES_carry : Option Addr} {m_SHAPES_carry : Nat} {sl_SHAPES_carry : Array (Option Value)} {u_SHAPES_carry_0 u_SHAPES_carry_1 : Tok} {a_SHAPES_cut : Addr} {dd_SHAPES_cut : Option Addr} {m_SHAPES_cut : Nat} {sl_SHAPES_cut : Array (Option Value)} {u_SHAPES_cut_0 : Tok} {a_SHAPES_turn : Addr} {dd_SHAPES_turn : Option Addr} {m_SHAPES_turn : Nat} {sl_SHAPES_turn : Array (Option Value)} {u_SHAPES_turn_0 u_SHAPES_turn_1 : Tok} {a_SHAPES_over : Addr} {dd_SHAPES_over : Option Addr} {m_SHAPES_over : Nat} {sl_SHAPES_over : Array (Option Value)} {a_SHAPES_face : Addr} {dd_SHAPES_face : Option Addr} {m_SHAPES_face : Nat} {sl_SHAPES_face : Array (Option Value)} {u_SHAPES_face_0 : Tok} {aX_PileError : Addr} {fX_PileError : Addr} {odX_PileError anX_PileError ddX_PileError : Option Addr} {slX_PileError : Array (Option Value)} {ocX_PileError kVX_PileError dcX_PileError pmX_PileError cdX_PileError ctX_PileError : Value} {TX_PileError : Addr} {smX_PileError : Array (Option Value)} {uX_PileError : Tok} {mX_PileError : Nat} {aX_BadPlace : Addr} {fX_BadPlace : Addr} {odX_BadPlace anX_BadPlace ddX_BadPlace : Option Addr} {slX_BadPlace : Array (Option Value)} {ocX_BadPlace kVX_BadPlace dcX_BadPlace pmX_BadPlace cdX_BadPlace ctX_BadPlace : Value} {nmX_BadPlace qX_BadPlace : Str} {NX_BadPlace : Addr} {bsX_BadPlace bmX_BadPlace subX_BadPlace : List Value} {snX_BadPlace : List Str} {abX_BadPlace : Bool} {colX_BadPlace : Option Bool} {k0X_BadPlace k1X_BadPlace k2X_BadPlace k3X_BadPlace k5X_BadPlace : Option Value} {aX_BadMove : Addr} {fX_BadMove : Addr} {odX_BadMove anX_BadMove ddX_BadMove : Option Addr} {slX_BadMove : Array (Option Value)} {ocX_BadMove kVX_BadMove dcX_BadMove pmX_BadMove cdX_BadMove ctX_BadMove : Value} {nmX_BadMove qX_BadMove : Str} {NX_BadMove : Addr} {bsX_BadMove bmX_BadMove subX_BadMove : List Value} {snX_BadMove : List Str} {abX_BadMove : Bool} {colX_BadMove : Option Bool} {k0X_BadMove k1X_BadMove k2X_BadMove k3X_BadMove k5X_BadMove : Option Value} {aX_BadText : Addr} {fX_BadText : Addr} {odX_BadText anX_BadText ddX_BadText : Option Addr} {slX_BadText : Array (Option Value)} {ocX_BadText kVX_BadText dcX_BadText pmX_BadText cdX_BadText ctX_BadText : Value} {nmX_BadText qX_BadText : Str} {NX_BadText : Addr} {bsX_BadText bmX_BadText subX_BadText : List Value} {snX_BadText : List Str} {abX_BadText : Bool} {colX_BadText : Option Bool} {k0X_BadText k1X_BadText k2X_BadText k3X_BadText k5X_BadText : Option Value} {aX_TooLong : Addr} {fX_TooLong : Addr} {odX_TooLong anX_TooLong ddX_TooLong : Option Addr} {slX_TooLong : Array (Option Value)} {ocX_TooLong kVX_TooLong dcX_TooLong pmX_TooLong cdX_TooLong ctX_TooLong : Value} {nmX_TooLong qX_TooLong : Str} {NX_TooLong : Addr} {bsX_TooLong bmX_TooLong subX_TooLong : List Value} {snX_TooLong : List Str} {abX_TooLong : Bool} {colX_TooLong : Option Bool} {k0X_TooLong k1X_TooLong k2X_TooLong k3X_TooLong k5X_TooLong : Option Value} {aX_Missing : Addr} {aY_Word : Addr} {pY_Word_read : Addr} {rY_Word_read : List Value} {tY_Word_MOST_MOVES : Tok} {tY_Word_MOST_REACH : Tok} {cLaw pLaw : Addr} {oCo : Option Addr} {vsCo : Array Value} {slCo : Array (Option Value)}
    (a0 : PySem.W.nsIn K mainGlobals "_wall" = some (some (.ref f0))) (l0 : K.lookup f0 = some ⟨oc0, od0, .func (PySem.W.fnOf "_wall" "_wall" (defArgs s__wall) (defBody s__wall) (defScope s__wall) .none kV0 dc0 pm0 an0 cd0 ct0), sl0⟩) (c0 : PySem.W.codeIn K cd0 "_wall" = true) (k0 : PySem.W.keepIn K (.ref f0) = true)
    (a1 : PySem.W.nsIn K mainGlobals "is_number" = some (some (.ref f1))) (l1 : K.lookup f1 = some ⟨oc1, od1, .func (PySem.W.fnOf "is_number" "is_number" (defArgs s_is_number) (defBody s_is_number) (defScope s_is_number) .none kV1 dc1 pm1 an1 cd1 ct1), sl1⟩) (c1 : PySem.W.codeIn K cd1 "is_number" = true) (k1 : PySem.W.keepIn K (.ref f1) = true)
    (a2 : PySem.W.nsIn K mainGlobals "read_number" = some (some (.ref f2))) (l2 : K.lookup f2 = some ⟨oc2, od2, .func (PySem.W.fnOf "read_number" "read_number" (defArgs s_read_number) (defBody s_read_number) (defScope s_read_number) (.ref TD2) kV2 dc2 pm2 an2 cd2 ct2), sl2⟩) (c2 : PySem.W.codeIn K cd2 "read_number" = true) (k2 : PySem.W.keepIn K (.ref f2) = true)
    (a3 : PySem.W.nsIn K mainGlobals "is_end" = some (some (.ref f3))) (l3 : K.lookup f3 = some ⟨oc3, od3, .func (PySem.W.fnOf "is_end" "is_end" (defArgs s_is_end) (defBody s_is_end) (defScope s_is_end) .none kV3 dc3 pm3 an3 cd3 ct3), sl3⟩) (c3 : PySem.W.codeIn K cd3 "is_end" = true) (k3 : PySem.W.keepIn K (.ref f3) = true)
    (a4 : PySem.W.nsIn K mainGlobals "is_end_place" = some (some (.ref f4))) (l4 : K.lookup f4 = some ⟨oc4, od4, .func (PySem.W.fnOf "is_end_place" "is_end_place" (defArgs s_is_end_place) (defBody s_is_end_place) (defScope s_is_end_place) .none kV4 dc4 pm4 an4 cd4 ct4), sl4⟩) (c4 : PySem.W.codeIn K cd4 "is_end_place" = true) (k4 : PySem.W.keepIn K (.ref f4) = true)
    (a5 : PySem.W.nsIn K mainGlobals "check_end_place" = some (some (.ref f5))) (l5 : K.lookup f5 = some ⟨oc5, od5, .func (PySem.W.fnOf "check_end_place" "check_end_place" (defArgs s_check_end_place) (defBody s_check_end_place) (defScope s_check_end_place) .none kV5 dc5 pm5 an5 cd5 ct5), sl5⟩) (c5 : PySem.W.codeIn K cd5 "check_end_place" = true) (k5 : PySem.W.keepIn K (.ref f5) = true)
    (a6 : PySem.W.nsIn K mainGlobals "end_text" = some (some (.ref f6))) (l6 : K.lookup f6 = some ⟨oc6, od6, .func (PySem.W.fnOf "end_text" "end_text" (defArgs s_end_text) (defBody s_end_text) (defScope s_end_text) .none kV6 dc6 pm6 an6 cd6 ct6), sl6⟩) (c6 : PySem.W.codeIn K cd6 "end_text" = true) (k6 : PySem.W.keepIn K (.ref f6) = true)
    (a7 : PySem.W.nsIn K mainGlobals "read_end" = some (some (.ref f7))) (l7 : K.lookup f7 = some ⟨oc7, od7, .func (PySem.W.fnOf "read_end" "read_end" (defArgs s_read_end) (defBody s_read_end) (defScope s_read_end) .none kV7 dc7 pm7 an7 cd7 ct7), sl7⟩) (c7 : PySem.W.codeIn K cd7 "read_end" = true) (k7 : PySem.W.keepIn K (.ref f7) = true)
    (a8 : PySem.W.nsIn K mainGlobals "place_text" = some (some (.ref f8))) (l8 : K.lookup f8 = some ⟨oc8, od8, .func (PySem.W.fnOf "place_text" "place_text" (defArgs s_place_text) (defBody s_place_text) (defScope s_place_text) .none kV8 dc8 pm8 an8 cd8 ct8), sl8⟩) (c8 : PySem.W.codeIn K cd8 "place_text" = true) (k8 : PySem.W.keepIn K (.ref f8) = true)
    (a9 : PySem.W.nsIn K mainGlobals "parse_place" = some (some (.ref f9))) (l9 : K.lookup f9 = some ⟨oc9, od9, .func (PySem.W.fnOf "parse_place" "parse_place" (defArgs s_parse_place) (defBody s_parse_place) (defScope s_parse_place) .none kV9 dc9 pm9 an9 cd9 ct9), sl9⟩) (c9 : PySem.W.codeIn K cd9 "parse_place" = true) (k9 : PySem.W.keepIn K (.ref f9) = true)
    (a10 : PySem.W.nsIn K mainGlobals "is_move" = some (some (.ref f10))) (l10 : K.lookup f10 = some ⟨oc10, od10, .func (PySem.W.fnOf "is_move" "is_move" (defArgs s_is_move) (defBody s_is_move) (defScope s_is_move) .none kV10 dc10 pm10 an10 cd10 ct10), sl10⟩) (c10 : PySem.W.codeIn K cd10 "is_move" = true) (k10 : PySem.W.keepIn K (.ref f10) = true)
    (a11 : PySem.W.nsIn K mainGlobals "fits" = some (some (.ref f11))) (l11 : K.lookup f11 = some ⟨oc11, od11, .func (PySem.W.fnOf "fits" "fits" (defArgs s_fits) (defBody s_fits) (defScope s_fits) .none kV11 dc11 pm11 an11 cd11 ct11), sl11⟩) (c11 : PySem.W.codeIn K cd11 "fits" = true) (k11 : PySem.W.keepIn K (.ref f11) = true)
    (a12 : PySem.W.nsIn K mainGlobals "check_move" = some (some (.ref f12))) (l12 : K.lookup f12 = some ⟨oc12, od12, .func (PySem.W.fnOf "check_move" "check_move" (defArgs s_check_move) (defBody s_check_move) (defScope s_check_move) .none kV12 dc12 pm12 an12 cd12 ct12), sl12⟩) (c12 : PySem.W.codeIn K cd12 "check_move" = true) (k12 : PySem.W.keepIn K (.ref f12) = true)
    (a13 : PySem.W.nsIn K mainGlobals "cards_needed" = some (some (.ref f13))) (l13 : K.lookup f13 = some ⟨oc13, od13, .func (PySem.W.fnOf "cards_needed" "cards_needed" (defArgs s_cards_needed) (defBody s_cards_needed) (defScope s_cards_needed) .none kV13 dc13 pm13 an13 cd13 ct13), sl13⟩) (c13 : PySem.W.codeIn K cd13 "cards_needed" = true) (k13 : PySem.W.keepIn K (.ref f13) = true)
    (a14 : PySem.W.nsIn K mainGlobals "move_text" = some (some (.ref f14))) (l14 : K.lookup f14 = some ⟨oc14, od14, .func (PySem.W.fnOf "move_text" "move_text" (defArgs s_move_text) (defBody s_move_text) (defScope s_move_text) .none kV14 dc14 pm14 an14 cd14 ct14), sl14⟩) (c14 : PySem.W.codeIn K cd14 "move_text" = true) (k14 : PySem.W.keepIn K (.ref f14) = true)
    (a15 : PySem.W.nsIn K mainGlobals "item_text" = some (some (.ref f15))) (l15 : K.lookup f15 = some ⟨oc15, od15, .func (PySem.W.fnOf "item_text" "item_text" (defArgs s_item_text) (defBody s_item_text) (defScope s_item_text) .none kV15 dc15 pm15 an15 cd15 ct15), sl15⟩) (c15 : PySem.W.codeIn K cd15 "item_text" = true) (k15 : PySem.W.keepIn K (.ref f15) = true)
    (a16 : PySem.W.nsIn K mainGlobals "parse_move" = some (some (.ref f16))) (l16 : K.lookup f16 = some ⟨oc16, od16, .func (PySem.W.fnOf "parse_move" "parse_move" (defArgs s_parse_move) (defBody s_parse_move) (defScope s_parse_move) .none kV16 dc16 pm16 an16 cd16 ct16), sl16⟩) (c16 : PySem.W.codeIn K cd16 "parse_move" = true) (k16 : PySem.W.keepIn K (.ref f16) = true)
    (a17 : PySem.W.nsIn K mainGlobals "read_item" = some (some (.ref f17))) (l17 : K.lookup f17 = some ⟨oc17, od17, .func (PySem.W.fnOf "read_item" "read_item" (defArgs s_read_item) (defBody s_read_item) (defScope s_read_item) .none kV17 dc17 pm17 an17 cd17 ct17), sl17⟩) (c17 : PySem.W.codeIn K cd17 "read_item" = true) (k17 : PySem.W.keepIn K (.ref f17) = true)
    (a18 : PySem.W.nsIn K mainGlobals "_law_bag" = some (some (.ref f18))) (l18 : K.lookup f18 = some ⟨oc18, od18, .func (PySem.W.fnOf "_law_bag" "_law_bag" (defArgs s__law_bag) (defBody s__law_bag) (defScope s__law_bag) .none kV18 dc18 pm18 an18 cd18 ct18), sl18⟩) (c18 : PySem.W.codeIn K cd18 "_law_bag" = true) (k18 : PySem.W.keepIn K (.ref f18) = true)
    (a19 : PySem.W.nsIn K mainGlobals "_law_pull" = some (some (.ref f19))) (l19 : K.lookup f19 = some ⟨oc19, od19, .func (PySem.W.fnOf "_law_pull" "_law_pull" (defArgs s__law_pull) (defBody s__law_pull) (defScope s__law_pull) .none kV19 dc19 pm19 an19 cd19 ct19), sl19⟩) (c19 : PySem.W.codeIn K cd19 "_law_pull" = true) (k19 : PySem.W.keepIn K (.ref f19) = true)
    (a20 : PySem.W.nsIn K mainGlobals "_law_of" = some (some (.ref f20))) (l20 : K.lookup f20 = some ⟨oc20, od20, .func (PySem.W.fnOf "_law_of" "_law_of" (defArgs s__law_of) (defBody s__law_of) (defScope s__law_of) .none kV20 dc20 pm20 an20 cd20 ct20), sl20⟩) (c20 : PySem.W.codeIn K cd20 "_law_of" = true) (k20 : PySem.W.keepIn K (.ref f20) = true)
    (a21 : PySem.W.nsIn K mainGlobals "_law_same" = some (some (.ref f21))) (l21 : K.lookup f21 = some ⟨oc21, od21, .func (PySem.W.fnOf "_law_same" "_law_same" (defArgs s__law_same) (defBody s__law_same) (defScope s__law_same) .none kV21 dc21 pm21 an21 cd21 ct21), sl21⟩) (c21 : PySem.W.codeIn K cd21 "_law_same" = true) (k21 : PySem.W.keepIn K (.ref f21) = true)
    (a22 : PySem.W.nsIn K mainGlobals "_law_field" = some (some (.ref f22))) (l22 : K.lookup f22 = some ⟨oc22, od22, .func (PySem.W.fnOf "_law_field" "_law_field" (defArgs s__law_field) (defBody s__law_field) (defScope s__law_field) .none kV22 dc22 pm22 an22 cd22 ct22), sl22⟩) (c22 : PySem.W.codeIn K cd22 "_law_field" = true) (k22 : PySem.W.keepIn K (.ref f22) = true)
    (a23 : PySem.W.nsIn K mainGlobals "_law_try" = some (some (.ref f23))) (l23 : K.lookup f23 = some ⟨oc23, od23, .func (PySem.W.fnOf "_law_try" "_law_try" (defArgs s__law_try) (defBody s__law_try) (defScope s__law_try) .none kV23 dc23 pm23 an23 cd23 ct23), sl23⟩) (c23 : PySem.W.codeIn K cd23 "_law_try" = true) (k23 : PySem.W.keepIn K (.ref f23) = true)
    (a24 : PySem.W.nsIn K mainGlobals "_law_made" = some (some (.ref f24))) (l24 : K.lookup f24 = some ⟨oc24, od24, .func (PySem.W.fnOf "_law_made" "_law_made" (defArgs s__law_made) (defBody s__law_made) (defScope s__law_made) .none kV24 dc24 pm24 an24 cd24 ct24), sl24⟩) (c24 : PySem.W.codeIn K cd24 "_law_made" = true) (k24 : PySem.W.keepIn K (.ref f24) = true)
    (a25 : PySem.W.nsIn K mainGlobals "_law_end_text" = some (some (.ref f25))) (l25 : K.lookup f25 = some ⟨oc25, od25, .func (PySem.W.fnOf "_law_end_text" "_law_end_text" (defArgs s__law_end_text) (defBody s__law_end_text) (defScope s__law_end_text) .none kV25 dc25 pm25 an25 cd25 ct25), sl25⟩) (c25 : PySem.W.codeIn K cd25 "_law_end_text" = true) (k25 : PySem.W.keepIn K (.ref f25) = true)
    (a26 : PySem.W.nsIn K mainGlobals "_law_move_text" = some (some (.ref f26))) (l26 : K.lookup f26 = some ⟨oc26, od26, .func (PySem.W.fnOf "_law_move_text" "_law_move_text" (defArgs s__law_move_text) (defBody s__law_move_text) (defScope s__law_move_text) .none kV26 dc26 pm26 an26 cd26 ct26), sl26⟩) (c26 : PySem.W.codeIn K cd26 "_law_move_text" = true) (k26 : PySem.W.keepIn K (.ref f26) = true)
    (a27 : PySem.W.nsIn K mainGlobals "_law_text" = some (some (.ref f27))) (l27 : K.lookup f27 = some ⟨oc27, od27, .func (PySem.W.fnOf "_law_text" "_law_text" (defArgs s__law_text) (defBody s__law_text) (defScope s__law_text) .none kV27 dc27 pm27 an27 cd27 ct27), sl27⟩) (c27 : PySem.W.codeIn K cd27 "_law_text" = true) (k27 : PySem.W.keepIn K (.ref f27) = true)
    (a28 : PySem.W.nsIn K mainGlobals "law" = some (some (.ref f28))) (l28 : K.lookup f28 = some ⟨oc28, od28, .func (PySem.W.fnOf "law" "law" (defArgs s_law) (defBody s_law) (defScope s_law) .none kV28 dc28 pm28 an28 cd28 ct28), sl28⟩) (c28 : PySem.W.codeIn K cd28 "law" = true) (k28 : PySem.W.keepIn K (.ref f28) = true)
    (z_abs : PySem.W.nsIn K mainGlobals "abs" = some none)
    (z_all : PySem.W.nsIn K mainGlobals "all" = some none)
    (z_bool : PySem.W.nsIn K mainGlobals "bool" = some none)
    (z_dict : PySem.W.nsIn K mainGlobals "dict" = some none)
    (z_enumerate : PySem.W.nsIn K mainGlobals "enumerate" = some none)
    (z_int : PySem.W.nsIn K mainGlobals "int" = some none)
    (z_isinstance : PySem.W.nsIn K mainGlobals "isinstance" = some none)
    (z_len : PySem.W.nsIn K mainGlobals "len" = some none)
    (z_list : PySem.W.nsIn K mainGlobals "list" = some none)
    (z_max : PySem.W.nsIn K mainGlobals "max" = some none)
    (z_range : PySem.W.nsIn K mainGlobals "range" = some none)
    (z_str : PySem.W.nsIn K mainGlobals "str" = some none)
    (z_sum : PySem.W.nsIn K mainGlobals "sum" = some none)
    (z_tuple : PySem.W.nsIn K mainGlobals "tuple" = some none)
    (z_zip : PySem.W.nsIn K mainGlobals "zip" = some none)
    (tD2 : K.lookup TD2 = some ⟨.type "tuple", ddD2, .seq #[.int 31 uD2_0] mD2, smD2⟩)
    (y_MOST_DIGITS : PySem.W.nsIn K mainGlobals "MOST_DIGITS" = some (some (.int 31 t_MOST_DIGITS)))
    (y_MOST_DEPTH : PySem.W.nsIn K mainGlobals "MOST_DEPTH" = some (some (.int 399 t_MOST_DEPTH)))
    (y_MOST_BLOCK : PySem.W.nsIn K mainGlobals "MOST_BLOCK" = some (some (.int 400 t_MOST_BLOCK)))
    (y_ENDS : PySem.W.nsIn K mainGlobals "ENDS" = some (some (.ref a_ENDS))) (l_ENDS : K.lookup a_ENDS = some ⟨.type "dict", none, .dict es_ENDS n_ENDS, #[]⟩) (k_ENDS : PySem.W.KeysLit w.params es_ENDS.toList) (s_ENDS : (a_ENDS == sysModules) = false)
    (km_ENDS : keysIn ["t", "b"] es_ENDS.toList = true)
    (e_ENDS_t : PySem.W.nsIn K a_ENDS "t" = some (some (.str "top" u_ENDS_t)))
    (e_ENDS_b : PySem.W.nsIn K a_ENDS "b" = some (some (.str "bottom" u_ENDS_b)))
    (y_SHAPES : PySem.W.nsIn K mainGlobals "SHAPES" = some (some (.ref a_SHAPES))) (l_SHAPES : K.lookup a_SHAPES = some ⟨.type "dict", none, .dict es_SHAPES n_SHAPES, #[]⟩) (k_SHAPES : PySem.W.KeysLit w.params es_SHAPES.toList) (s_SHAPES : (a_SHAPES == sysModules) = false)
    (km_SHAPES : keysIn ["swap", "carry", "cut", "turn", "over", "face"] es_SHAPES.toList = true)
    (e_SHAPES_swap : PySem.W.nsIn K a_SHAPES "swap" = some (some (.ref a_SHAPES_swap))) (l_SHAPES_swap : K.lookup a_SHAPES_swap = some ⟨.type "tuple", dd_SHAPES_swap, .seq #[.str "place" u_SHAPES_swap_0, .str "place" u_SHAPES_swap_1] m_SHAPES_swap, sl_SHAPES_swap⟩)
    (e_SHAPES_carry : PySem.W.nsIn K a_SHAPES "carry" = some (some (.ref a_SHAPES_carry))) (l_SHAPES_carry : K.lookup a_SHAPES_carry = some ⟨.type "tuple", dd_SHAPES_carry, .seq #[.str "place" u_SHAPES_carry_0, .str "place" u_SHAPES_carry_1] m_SHAPES_carry, sl_SHAPES_carry⟩)
    (e_SHAPES_cut : PySem.W.nsIn K a_SHAPES "cut" = some (some (.ref a_SHAPES_cut))) (l_SHAPES_cut : K.lookup a_SHAPES_cut = some ⟨.type "tuple", dd_SHAPES_cut, .seq #[.str "signed" u_SHAPES_cut_0] m_SHAPES_cut, sl_SHAPES_cut⟩)
    (e_SHAPES_turn : PySem.W.nsIn K a_SHAPES "turn" = some (some (.ref a_SHAPES_turn))) (l_SHAPES_turn : K.lookup a_SHAPES_turn = some ⟨.type "tuple", dd_SHAPES_turn, .seq #[.str "end" u_SHAPES_turn_0, .str "block" u_SHAPES_turn_1] m_SHAPES_turn, sl_SHAPES_turn⟩)
    (e_SHAPES_over : PySem.W.nsIn K a_SHAPES "over" = some (some (.ref a_SHAPES_over))) (l_SHAPES_over : K.lookup a_SHAPES_over = some ⟨.type "tuple", dd_SHAPES_over, .seq #[] m_SHAPES_over, sl_SHAPES_over⟩)
    (e_SHAPES_face : PySem.W.nsIn K a_SHAPES "face" = some (some (.ref a_SHAPES_face))) (l_SHAPES_face : K.lookup a_SHAPES_face = some ⟨.type "tuple", dd_SHAPES_face, .seq #[.str "place" u_SHAPES_face_0] m_SHAPES_face, sl_SHAPES_face⟩)
    (gX_PileError : PySem.W.nsIn K mainGlobals "PileError" = some (some (.ref aX_PileError)))
    (iX_PileError : PySem.W.findCls K (.ref aX_PileError) (.type "type") "__init__" = some (.val (.ref fX_PileError)))
    (rX_PileError : PySem.W.readsIn K aX_PileError (.type "type") = true)
    (sX_PileError : PySem.W.specialIn K (.ref aX_PileError) "__getattribute__" = some (some (.builtin "type.__getattribute__")))
    (lX_PileError : K.lookup fX_PileError = some ⟨ocX_PileError, odX_PileError, .func (PySem.W.fnOf "__init__" "PileError.__init__" (defArgs s_PileError) (defBody s_PileError) (defScope s_PileError) (.ref TX_PileError) kVX_PileError dcX_PileError pmX_PileError anX_PileError cdX_PileError ctX_PileError), slX_PileError⟩)
    (tX_PileError : K.lookup TX_PileError = some ⟨.type "tuple", ddX_PileError, .seq #[.str "PileError" uX_PileError] mX_PileError, smX_PileError⟩)
    (cX_PileError : PySem.W.codeIn K cdX_PileError "PileError.__init__" = true)
    (wX_PileError : PySem.W.keepIn K (.ref fX_PileError) = true)
    (gX_BadPlace : PySem.W.nsIn K mainGlobals "BadPlace" = some (some (.ref aX_BadPlace)))
    (oX_BadPlace : K.lookup aX_BadPlace = some (excClassObj nmX_BadPlace qX_BadPlace aX_BadPlace NX_BadPlace bsX_BadPlace bmX_BadPlace true snX_BadPlace subX_BadPlace abX_BadPlace colX_BadPlace ddX_BadPlace k0X_BadPlace k1X_BadPlace k2X_BadPlace k3X_BadPlace k5X_BadPlace "ValueError.__new__"))
    (vX_BadPlace : PySem.HandSPX.refsVE bmX_BadPlace = true)
    (sX_BadPlace : PySem.W.findIn K (.ref aX_BadPlace) "__setattr__" = some (some (.builtin "object.__setattr__")))
    (xX_BadPlace : PySem.W.subIn K (.ref aX_BadPlace) (.type "BaseException") = some true)
    (yX_BadPlace : PySem.W.typeIn K (.ref aX_BadPlace) = some (.type "type"))
    (kX_BadPlace : PySem.W.keepIn K (.ref aX_BadPlace) = true)
    (bX_BadPlace : xfB K aX_BadPlace = true)
    (nX_code_BadPlace : PySem.W.findIn K (.ref aX_BadPlace) "code" = some none)
    (nX_place_BadPlace : PySem.W.findIn K (.ref aX_BadPlace) "place" = some none)
    (iX_BadPlace : PySem.W.findIn K (.ref aX_BadPlace) "__init__" = some (some (.ref fX_BadPlace)))
    (tX_BadPlace : PySem.W.typeIn K (.ref fX_BadPlace) = some (.type "function"))
    (lX_BadPlace : K.lookup fX_BadPlace = some ⟨ocX_BadPlace, odX_BadPlace, .func (PySem.W.fnOf "__init__" "BadPlace.__init__" (defArgs s_BadPlace) (defBody s_BadPlace) (defScope s_BadPlace) .none kVX_BadPlace dcX_BadPlace pmX_BadPlace anX_BadPlace cdX_BadPlace ctX_BadPlace), slX_BadPlace⟩)
    (eX_BadPlace : PySem.W.exmOne K (.ref aX_BadPlace) (.ref aX_PileError) = some true)
    (cX_BadPlace : PySem.W.codeIn K cdX_BadPlace "BadPlace.__init__" = true)
    (wX_BadPlace : PySem.W.keepIn K (.ref fX_BadPlace) = true)
    (gX_BadMove : PySem.W.nsIn K mainGlobals "BadMove" = some (some (.ref aX_BadMove)))
    (oX_BadMove : K.lookup aX_BadMove = some (excClassObj nmX_BadMove qX_BadMove aX_BadMove NX_BadMove bsX_BadMove bmX_BadMove true snX_BadMove subX_BadMove abX_BadMove colX_BadMove ddX_BadMove k0X_BadMove k1X_BadMove k2X_BadMove k3X_BadMove k5X_BadMove "ValueError.__new__"))
    (vX_BadMove : PySem.HandSPX.refsVE bmX_BadMove = true)
    (sX_BadMove : PySem.W.findIn K (.ref aX_BadMove) "__setattr__" = some (some (.builtin "object.__setattr__")))
    (xX_BadMove : PySem.W.subIn K (.ref aX_BadMove) (.type "BaseException") = some true)
    (yX_BadMove : PySem.W.typeIn K (.ref aX_BadMove) = some (.type "type"))
    (kX_BadMove : PySem.W.keepIn K (.ref aX_BadMove) = true)
    (bX_BadMove : xfB K aX_BadMove = true)
    (nX_code_BadMove : PySem.W.findIn K (.ref aX_BadMove) "code" = some none)
    (nX_at_BadMove : PySem.W.findIn K (.ref aX_BadMove) "at" = some none)
    (iX_BadMove : PySem.W.findIn K (.ref aX_BadMove) "__init__" = some (some (.ref fX_BadMove)))
    (tX_BadMove : PySem.W.typeIn K (.ref fX_BadMove) = some (.type "function"))
    (lX_BadMove : K.lookup fX_BadMove = some ⟨ocX_BadMove, odX_BadMove, .func (PySem.W.fnOf "__init__" "BadMove.__init__" (defArgs s_BadMove) (defBody s_BadMove) (defScope s_BadMove) .none kVX_BadMove dcX_BadMove pmX_BadMove anX_BadMove cdX_BadMove ctX_BadMove), slX_BadMove⟩)
    (eX_BadMove : PySem.W.exmOne K (.ref aX_BadMove) (.ref aX_PileError) = some true)
    (cX_BadMove : PySem.W.codeIn K cdX_BadMove "BadMove.__init__" = true)
    (wX_BadMove : PySem.W.keepIn K (.ref fX_BadMove) = true)
    (gX_BadText : PySem.W.nsIn K mainGlobals "BadText" = some (some (.ref aX_BadText)))
    (oX_BadText : K.lookup aX_BadText = some (excClassObj nmX_BadText qX_BadText aX_BadText NX_BadText bsX_BadText bmX_BadText true snX_BadText subX_BadText abX_BadText colX_BadText ddX_BadText k0X_BadText k1X_BadText k2X_BadText k3X_BadText k5X_BadText "ValueError.__new__"))
    (vX_BadText : PySem.HandSPX.refsVE bmX_BadText = true)
    (sX_BadText : PySem.W.findIn K (.ref aX_BadText) "__setattr__" = some (some (.builtin "object.__setattr__")))
    (xX_BadText : PySem.W.subIn K (.ref aX_BadText) (.type "BaseException") = some true)
    (yX_BadText : PySem.W.typeIn K (.ref aX_BadText) = some (.type "type"))
    (kX_BadText : PySem.W.keepIn K (.ref aX_BadText) = true)
    (bX_BadText : xfB K aX_BadText = true)
    (nX_code_BadText : PySem.W.findIn K (.ref aX_BadText) "code" = some none)
    (nX_at_BadText : PySem.W.findIn K (.ref aX_BadText) "at" = some none)
    (iX_BadText : PySem.W.findIn K (.ref aX_BadText) "__init__" = some (some (.ref fX_BadText)))
    (tX_BadText : PySem.W.typeIn K (.ref fX_BadText) = some (.type "function"))
    (lX_BadText : K.lookup fX_BadText = some ⟨ocX_BadText, odX_BadText, .func (PySem.W.fnOf "__init__" "BadText.__init__" (defArgs s_BadText) (defBody s_BadText) (defScope s_BadText) .none kVX_BadText dcX_BadText pmX_BadText anX_BadText cdX_BadText ctX_BadText), slX_BadText⟩)
    (eX_BadText : PySem.W.exmOne K (.ref aX_BadText) (.ref aX_PileError) = some true)
    (eS_BadText : PySem.W.exmOne K (.ref aX_BadText) (.ref aX_BadText) = some true)
    (cX_BadText : PySem.W.codeIn K cdX_BadText "BadText.__init__" = true)
    (wX_BadText : PySem.W.keepIn K (.ref fX_BadText) = true)
    (gX_TooLong : PySem.W.nsIn K mainGlobals "TooLong" = some (some (.ref aX_TooLong)))
    (oX_TooLong : K.lookup aX_TooLong = some (excClassObj nmX_TooLong qX_TooLong aX_TooLong NX_TooLong bsX_TooLong bmX_TooLong true snX_TooLong subX_TooLong abX_TooLong colX_TooLong ddX_TooLong k0X_TooLong k1X_TooLong k2X_TooLong k3X_TooLong k5X_TooLong "ValueError.__new__"))
    (vX_TooLong : PySem.HandSPX.refsVE bmX_TooLong = true)
    (sX_TooLong : PySem.W.findIn K (.ref aX_TooLong) "__setattr__" = some (some (.builtin "object.__setattr__")))
    (xX_TooLong : PySem.W.subIn K (.ref aX_TooLong) (.type "BaseException") = some true)
    (yX_TooLong : PySem.W.typeIn K (.ref aX_TooLong) = some (.type "type"))
    (kX_TooLong : PySem.W.keepIn K (.ref aX_TooLong) = true)
    (bX_TooLong : xfB K aX_TooLong = true)
    (nX_code_TooLong : PySem.W.findIn K (.ref aX_TooLong) "code" = some none)
    (nX_limit_TooLong : PySem.W.findIn K (.ref aX_TooLong) "limit" = some none)
    (iX_TooLong : PySem.W.findIn K (.ref aX_TooLong) "__init__" = some (some (.ref fX_TooLong)))
    (tX_TooLong : PySem.W.typeIn K (.ref fX_TooLong) = some (.type "function"))
    (lX_TooLong : K.lookup fX_TooLong = some ⟨ocX_TooLong, odX_TooLong, .func (PySem.W.fnOf "__init__" "TooLong.__init__" (defArgs s_TooLong) (defBody s_TooLong) (defScope s_TooLong) .none kVX_TooLong dcX_TooLong pmX_TooLong anX_TooLong cdX_TooLong ctX_TooLong), slX_TooLong⟩)
    (eX_TooLong : PySem.W.exmOne K (.ref aX_TooLong) (.ref aX_PileError) = some true)
    (cX_TooLong : PySem.W.codeIn K cdX_TooLong "TooLong.__init__" = true)
    (wX_TooLong : PySem.W.keepIn K (.ref fX_TooLong) = true)
    (gX_Missing : PySem.W.nsIn K mainGlobals "Missing" = some (some (.ref aX_Missing)))
    (gX_Word : PySem.W.nsIn K mainGlobals "Word" = some (some (.ref aY_Word)))
    (at___init__X_Word : PySem.W.findIn K (.ref aY_Word) "__init__" = some (some (.ref f29)))
    (at___add__X_Word : PySem.W.findIn K (.ref aY_Word) "__add__" = some (some (.ref f31)))
    (at___str__X_Word : PySem.W.findIn K (.ref aY_Word) "__str__" = some (some (.ref f32)))
    (at_readX_Word : PySem.W.findCls K (.ref aY_Word) (.type "type") "read" = some (.get (.builtin "classmethod.__get__") (.ref pY_Word_read) .none (.ref aY_Word)))
    (rc_readX_Word : PySem.W.recIn K pY_Word_read "classmethod" = some (.ref f30 :: rY_Word_read))
    (fi_readX_Word : PySem.W.fnIn K f30 = true)
    (pgX_Word : PySem.W.plainGet K aY_Word Str.empty = true)
    (hdX_Word : PySem.W.hasDictIn K aY_Word = true)
    (poX_Word : PySem.W.plainOver K aY_Word = true)
    (saX_Word : PySem.W.findIn K (.ref aY_Word) "__setattr__" = some (some (.builtin "object.__setattr__")))
    (hcX_Word : PySem.W.findIn K (.ref aY_Word) "__class__" = some (some (.builtin "object.__class__")))
    (hgX_Word : PySem.W.specialIn K (.builtin "object.__class__") "__get__" = some (some (.builtin "getset_descriptor.__get__")))
    (tkX_Word : PySem.W.takesIn K (.builtin "object.__class__") = some true)
    (moX_Word : PySem.W.mroIn K aY_Word (.type "object") = some true)
    (kiX_Word : PySem.W.kitOne K (.ref aY_Word) (.ref aY_Word) = some true)
    (miX_Word : PySem.W.makesIn K aY_Word = true)
    (kpX_Word : PySem.W.keepIn K (.ref aY_Word) = true)
    (sfX_Word : PySem.W.selfFirst K aY_Word = true)
    (no_stepsX_Word : PySem.W.findIn K (.ref aY_Word) "steps" = some none)
    (no_neededX_Word : PySem.W.findIn K (.ref aY_Word) "needed" = some none)
    (rdX_Word : PySem.W.readsIn K aY_Word (.type "type") = true)
    (gaX_Word : PySem.W.specialIn K (.ref aY_Word) "__getattribute__" = some (some (.builtin "type.__getattribute__")))
    (cv_MOST_MOVESX_Word : PySem.W.findCls K (.ref aY_Word) (.type "type") "MOST_MOVES" = some (.val (.int 40 tY_Word_MOST_MOVES)))
    (cv_MOST_REACHX_Word : PySem.W.findCls K (.ref aY_Word) (.type "type") "MOST_REACH" = some (.val (.int 60 tY_Word_MOST_REACH)))
    (fn___init__X_Word : PySem.W.isFn K (.ref f29) = true)
    (fn___add__X_Word : PySem.W.isFn K (.ref f31) = true)
    (fn___str__X_Word : PySem.W.isFn K (.ref f32) = true)
    (l29 : K.lookup f29 = some ⟨oc29, od29, .func (PySem.W.fnOf "__init__" "Word.__init__" (defArgs s_Word___init__) (defBody s_Word___init__) (defScope s_Word___init__) .none kV29 dc29 pm29 an29 cd29 ct29), sl29⟩) (c29 : PySem.W.codeIn K cd29 "Word.__init__" = true) (k29 : PySem.W.keepIn K (.ref f29) = true)
    (l30 : K.lookup f30 = some ⟨oc30, od30, .func (PySem.W.fnOf "read" "Word.read" (defArgs s_Word_read) (defBody s_Word_read) (defScope s_Word_read) .none kV30 dc30 pm30 an30 cd30 ct30), sl30⟩) (c30 : PySem.W.codeIn K cd30 "Word.read" = true) (k30 : PySem.W.keepIn K (.ref f30) = true)
    (l31 : K.lookup f31 = some ⟨oc31, od31, .func (PySem.W.fnOf "__add__" "Word.__add__" (defArgs s_Word___add__) (defBody s_Word___add__) (defScope s_Word___add__) .none kV31 dc31 pm31 an31 cd31 ct31), sl31⟩) (c31 : PySem.W.codeIn K cd31 "Word.__add__" = true) (k31 : PySem.W.keepIn K (.ref f31) = true)
    (l32 : K.lookup f32 = some ⟨oc32, od32, .func (PySem.W.fnOf "__str__" "Word.__str__" (defArgs s_Word___str__) (defBody s_Word___str__) (defScope s_Word___str__) .none kV32 dc32 pm32 an32 cd32 ct32), sl32⟩) (c32 : PySem.W.codeIn K cd32 "Word.__str__" = true) (k32 : PySem.W.keepIn K (.ref f32) = true)
    (zc0 : cd28 = .ref cLaw)
    (zc1 : K.lookup cLaw = some ⟨.type "code", oCo, .fields vsCo, slCo⟩)
    (zc2 : vsCo[11]? = some (.ref pLaw))
    (zc3 : PySem.W.codeHdIn K cLaw pLaw = true)
    (zc4 : K.lookup pLaw = none)
    (zc5 : h.get? pLaw = some { cls := .none, data := .fields #[] })
    : LamX.LawAtS PySem.Challenge.rw_pileports_k09_words_that_are_too_long w K CX0 18 63 "_law_script" mg fa h := by
  subst zc0
  have e := hfa.symm.trans (PySem.W.mg_of X G a28)
  cases e
  have F0 := fun_mk (st := s__wall) l0 c0 k0
  have F1 := fun_mk (st := s_is_number) l1 c1 k1
  have F2 : FunD K "read_number" "read_number" (defArgs s_read_number) (defBody s_read_number) (defScope s_read_number) [.int 31] [] f2 _ := ⟨⟨_, _, _, _, _, _, _, _, _, _, rfl, l2, c2, .inr ⟨List.cons_ne_nil _ _, _, _, _, _, rfl, tD2, rfl, (.cons ⟨_, rfl⟩ .nil)⟩, .inl rfl⟩, k2⟩
  have F3 := fun_mk (st := s_is_end) l3 c3 k3
  have F4 := fun_mk (st := s_is_end_place) l4 c4 k4
  have F5 := fun_mk (st := s_check_end_place) l5 c5 k5
  have F6 := fun_mk (st := s_end_text) l6 c6 k6
  have F7 := fun_mk (st := s_read_end) l7 c7 k7
  have F8 := fun_mk (st := s_place_text) l8 c8 k8
  have F9 := fun_mk (st := s_parse_place) l9 c9 k9
  have F10 := fun_mk (st := s_is_move) l10 c10 k10
  have F11 := fun_mk (st := s_fits) l11 c11 k11
  have F12 := fun_mk (st := s_check_move) l12 c12 k12
  have F13 := fun_mk (st := s_cards_needed) l13 c13 k13
  have F14 := fun_mk (st := s_move_text) l14 c14 k14
  have F15 := fun_mk (st := s_item_text) l15 c15 k15
  have F16 := fun_mk (st := s_parse_move) l16 c16 k16
  have F17 := fun_mk (st := s_read_item) l17 c17 k17
  have F18 := fun_mk (st := s__law_bag) l18 c18 k18
  have F19 := fun_mk (st := s__law_pull) l19 c19 k19
  have F20 := fun_mk (st := s__law_of) l20 c20 k20
  have F21 := fun_mk (st := s__law_same) l21 c21 k21
  have F22 := fun_mk (st := s__law_field) l22 c22 k22
  have F23 := fun_mk (st := s__law_try) l23 c23 k23
  have F24 := fun_mk (st := s__law_made) l24 c24 k24
  have F25 := fun_mk (st := s__law_end_text) l25 c25 k25
  have F26 := fun_mk (st := s__law_move_text) l26 c26 k26
  have F27 := fun_mk (st := s__law_text) l27 c27 k27
  have F28 := fun_mk (st := s_law) l28 c28 k28
  have F29 := fun_mk (st := s_Word___init__) l29 c29 k29
  have F30 := fun_mk (st := s_Word_read) l30 c30 k30
  have F31 := fun_mk (st := s_Word___add__) l31 c31 k31
  have F32 := fun_mk (st := s_Word___str__) l32 c32 k32
  have FX_PileError : FunD K "__init__" "PileError.__init__" (defArgs s_PileError) (defBody s_PileError) (defScope s_PileError) [.str "PileError"] [] fX_PileError _ := ⟨⟨_, _, _, _, _, _, _, _, _, _, rfl, lX_PileError, cX_PileError, .inr ⟨List.cons_ne_nil _ _, _, _, _, _, rfl, tX_PileError, rfl, .cons ⟨_, rfl⟩ .nil⟩, .inl rfl⟩, wX_PileError⟩
  have FX_BadPlace := fun_mk (st := s_BadPlace) lX_BadPlace cX_BadPlace wX_BadPlace
  have FX_BadMove := fun_mk (st := s_BadMove) lX_BadMove cX_BadMove wX_BadMove
  have FX_BadText := fun_mk (st := s_BadText) lX_BadText cX_BadText wX_BadText
  have FX_TooLong := fun_mk (st := s_TooLong) lX_TooLong cX_TooLong wX_TooLong
  let T : Txt K mg w := {
    a__wall := _,
    d__wall := _,
    F__wall := F0,
    g__wall := PySem.W.mg_of X G a0,
    b__wall := F0.binds (ps := P__wall) fun _ _ _ _ _ _ us hl => match us, hl with | [_], _ => rfl,
    a_is_number := _,
    d_is_number := _,
    F_is_number := F1,
    g_is_number := PySem.W.mg_of X G a1,
    b_is_number := F1.binds (ps := P_is_number) fun _ _ _ _ _ _ us hl => match us, hl with | [_], _ => rfl,
    b_read_number := F2.binds1 (ps := P_read_number) 1 0 (List.cons_ne_nil _ _) rfl (fun T kV doc pm an cdv ct us its hu hi => match us, hu, its, hi with | [_], _, [_], _ => ⟨_, rfl, rfl⟩),
    a_read_number := _,
    d_read_number := _,
    F_read_number := F2,
    g_read_number := PySem.W.mg_of X G a2,
    a_is_end := _,
    d_is_end := _,
    F_is_end := F3,
    g_is_end := PySem.W.mg_of X G a3,
    b_is_end := F3.binds (ps := P_is_end) fun _ _ _ _ _ _ us hl => match us, hl with | [_], _ => rfl,
    a_is_end_place := _,
    d_is_end_place := _,
    F_is_end_place := F4,
    g_is_end_place := PySem.W.mg_of X G a4,
    b_is_end_place := F4.binds (ps := P_is_end_place) fun _ _ _ _ _ _ us hl => match us, hl with | [_], _ => rfl,
    a_check_end_place := _,
    d_check_end_place := _,
    F_check_end_place := F5,
    g_check_end_place := PySem.W.mg_of X G a5,
    b_check_end_place := F5.binds (ps := P_check_end_place) fun _ _ _ _ _ _ us hl => match us, hl with | [_], _ => rfl,
    a_end_text := _,
    d_end_text := _,
    F_end_text := F6,
    g_end_text := PySem.W.mg_of X G a6,
    b_end_text := F6.binds (ps := P_end_text) fun _ _ _ _ _ _ us hl => match us, hl with | [_], _ => rfl,
    a_read_end := _,
    d_read_end := _,
    F_read_end := F7,
    g_read_end := PySem.W.mg_of X G a7,
    b_read_end := F7.binds (ps := P_read_end) fun _ _ _ _ _ _ us hl => match us, hl with | [_], _ => rfl,
    a_place_text := _,
    d_place_text := _,
    F_place_text := F8,
    g_place_text := PySem.W.mg_of X G a8,
    b_place_text := F8.binds (ps := P_place_text) fun _ _ _ _ _ _ us hl => match us, hl with | [_], _ => rfl,
    a_parse_place := _,
    d_parse_place := _,
    F_parse_place := F9,
    g_parse_place := PySem.W.mg_of X G a9,
    b_parse_place := F9.binds (ps := P_parse_place) fun _ _ _ _ _ _ us hl => match us, hl with | [_], _ => rfl,
    a_is_move := _,
    d_is_move := _,
    F_is_move := F10,
    g_is_move := PySem.W.mg_of X G a10,
    b_is_move := F10.binds (ps := P_is_move) fun _ _ _ _ _ _ us hl => match us, hl with | [_], _ => rfl,
    a_fits := _,
    d_fits := _,
    F_fits := F11,
    g_fits := PySem.W.mg_of X G a11,
    b_fits := F11.binds (ps := P_fits) fun _ _ _ _ _ _ us hl => match us, hl with | [_, _], _ => rfl,
    a_check_move := _,
    d_check_move := _,
    F_check_move := F12,
    g_check_move := PySem.W.mg_of X G a12,
    b_check_move := F12.binds (ps := P_check_move) fun _ _ _ _ _ _ us hl => match us, hl with | [_], _ => rfl,
    a_cards_needed := _,
    d_cards_needed := _,
    F_cards_needed := F13,
    g_cards_needed := PySem.W.mg_of X G a13,
    b_cards_needed := F13.binds (ps := P_cards_needed) fun _ _ _ _ _ _ us hl => match us, hl with | [_], _ => rfl,
    a_move_text := _,
    d_move_text := _,
    F_move_text := F14,
    g_move_text := PySem.W.mg_of X G a14,
    b_move_text := F14.binds (ps := P_move_text) fun _ _ _ _ _ _ us hl => match us, hl with | [_], _ => rfl,
    a_item_text := _,
    d_item_text := _,
    F_item_text := F15,
    g_item_text := PySem.W.mg_of X G a15,
    b_item_text := F15.binds (ps := P_item_text) fun _ _ _ _ _ _ us hl => match us, hl with | [_, _], _ => rfl,
    a_parse_move := _,
    d_parse_move := _,
    F_parse_move := F16,
    g_parse_move := PySem.W.mg_of X G a16,
    b_parse_move := F16.binds (ps := P_parse_move) fun _ _ _ _ _ _ us hl => match us, hl with | [_], _ => rfl,
    a_read_item := _,
    d_read_item := _,
    F_read_item := F17,
    g_read_item := PySem.W.mg_of X G a17,
    b_read_item := F17.binds (ps := P_read_item) fun _ _ _ _ _ _ us hl => match us, hl with | [_, _], _ => rfl,
    a__law_bag := _,
    d__law_bag := _,
    F__law_bag := F18,
    g__law_bag := PySem.W.mg_of X G a18,
    b__law_bag := F18.binds (ps := P__law_bag) fun _ _ _ _ _ _ us hl => match us, hl with | [_], _ => rfl,
    a__law_pull := _,
    d__law_pull := _,
    F__law_pull := F19,
    g__law_pull := PySem.W.mg_of X G a19,
    b__law_pull := F19.binds (ps := P__law_pull) fun _ _ _ _ _ _ us hl => match us, hl with | [_, _], _ => rfl,
    a__law_of := _,
    d__law_of := _,
    F__law_of := F20,
    g__law_of := PySem.W.mg_of X G a20,
    b__law_of := F20.binds (ps := P__law_of) fun _ _ _ _ _ _ us hl => match us, hl with | [_, _], _ => rfl,
    a__law_same := _,
    d__law_same := _,
    F__law_same := F21,
    g__law_same := PySem.W.mg_of X G a21,
    b__law_same := F21.binds (ps := P__law_same) fun _ _ _ _ _ _ us hl => match us, hl with | [_, _], _ => rfl,
    a__law_field := _,
    d__law_field := _,
    F__law_field := F22,
    g__law_field := PySem.W.mg_of X G a22,
    b__law_field := F22.binds (ps := P__law_field) fun _ _ _ _ _ _ us hl => match us, hl with | [_], _ => rfl,
    a__law_try := _,
    d__law_try := _,
    F__law_try := F23,
    g__law_try := PySem.W.mg_of X G a23,
    b__law_try := F23.binds (ps := P__law_try) fun _ _ _ _ _ _ us hl => match us, hl with | [_], _ => rfl,
    a__law_made := _,
    d__law_made := _,
    F__law_made := F24,
    g__law_made := PySem.W.mg_of X G a24,
    b__law_made := F24.binds (ps := P__law_made) fun _ _ _ _ _ _ us hl => match us, hl with | [_], _ => rfl,
    a__law_end_text := _,
    d__law_end_text := _,
    F__law_end_text := F25,
    g__law_end_text := PySem.W.mg_of X G a25,
    b__law_end_text := F25.binds (ps := P__law_end_text) fun _ _ _ _ _ _ us hl => match us, hl with | [_], _ => rfl,
    a__law_move_text := _,
    d__law_move_text := _,
    F__law_move_text := F26,
    g__law_move_text := PySem.W.mg_of X G a26,
    b__law_move_text := F26.binds (ps := P__law_move_text) fun _ _ _ _ _ _ us hl => match us, hl with | [_], _ => rfl,
    a__law_text := _,
    d__law_text := _,
    F__law_text := F27,
    g__law_text := PySem.W.mg_of X G a27,
    b__law_text := F27.binds (ps := P__law_text) fun _ _ _ _ _ _ us hl => match us, hl with | [_], _ => rfl,
    a_law := _,
    d_law := _,
    F_law := F28,
    g_law := PySem.W.mg_of X G a28,
    a_Word___init__ := _,
    d_Word___init__ := _,
    F_Word___init__ := F29,
    a_Word_read := _,
    d_Word_read := _,
    F_Word_read := F30,
    b_Word_read := F30.binds (ps := P_Word_read) fun _ _ _ _ _ _ us hl => match us, hl with | [_, _], _ => rfl,
    a_Word___add__ := _,
    d_Word___add__ := _,
    F_Word___add__ := F31,
    b_Word___add__ := F31.binds (ps := P_Word___add__) fun _ _ _ _ _ _ us hl => match us, hl with | [_, _], _ => rfl,
    a_Word___str__ := _,
    d_Word___str__ := _,
    F_Word___str__ := F32,
    b_Word___str__ := F32.binds (ps := P_Word___str__) fun _ _ _ _ _ _ us hl => match us, hl with | [_], _ => rfl,
    a_PileError := _,
    g_PileError := PySem.W.mg_of X G gX_PileError,
    f_PileError := _,
    d_PileError := _,
    F_PileError := FX_PileError,
    b_PileError := binds_pe FX_PileError,
    r_PileError := ⟨rX_PileError, sX_PileError⟩,
    v_PileError := ⟨iX_PileError, rfl⟩,
    a_BadPlace := _,
    g_BadPlace := PySem.W.mg_of X G gX_BadPlace,
    x_BadPlace := ⟨⟨⟨_, _, _, _, _, _, _, _, _, _, _, _, _, _, _, oX_BadPlace, vX_BadPlace⟩, sX_BadPlace, xX_BadPlace, yX_BadPlace, kX_BadPlace⟩, xfB_ok bX_BadPlace, (List.forall_mem_cons.mpr ⟨nX_code_BadPlace, (List.forall_mem_cons.mpr ⟨nX_place_BadPlace, (fun _ h => nomatch h)⟩)⟩), eX_BadPlace⟩,
    f_BadPlace := _,
    d_BadPlace := _,
    F_BadPlace := FX_BadPlace,
    b_BadPlace := FX_BadPlace.binds (ps := P_BadPlace) fun _ _ _ _ _ _ us hl => match us, hl with | [_, _], _ => rfl,
    i_BadPlace := iX_BadPlace,
    ti_BadPlace := tX_BadPlace,
    a_BadMove := _,
    g_BadMove := PySem.W.mg_of X G gX_BadMove,
    x_BadMove := ⟨⟨⟨_, _, _, _, _, _, _, _, _, _, _, _, _, _, _, oX_BadMove, vX_BadMove⟩, sX_BadMove, xX_BadMove, yX_BadMove, kX_BadMove⟩, xfB_ok bX_BadMove, (List.forall_mem_cons.mpr ⟨nX_code_BadMove, (List.forall_mem_cons.mpr ⟨nX_at_BadMove, (fun _ h => nomatch h)⟩)⟩), eX_BadMove⟩,
    f_BadMove := _,
    d_BadMove := _,
    F_BadMove := FX_BadMove,
    b_BadMove := FX_BadMove.binds (ps := P_BadMove) fun _ _ _ _ _ _ us hl => match us, hl with | [_, _], _ => rfl,
    i_BadMove := iX_BadMove,
    ti_BadMove := tX_BadMove,
    a_BadText := _,
    g_BadText := PySem.W.mg_of X G gX_BadText,
    e_BadText := eS_BadText,
    x_BadText := ⟨⟨⟨_, _, _, _, _, _, _, _, _, _, _, _, _, _, _, oX_BadText, vX_BadText⟩, sX_BadText, xX_BadText, yX_BadText, kX_BadText⟩, xfB_ok bX_BadText, (List.forall_mem_cons.mpr ⟨nX_code_BadText, (List.forall_mem_cons.mpr ⟨nX_at_BadText, (fun _ h => nomatch h)⟩)⟩), eX_BadText⟩,
    f_BadText := _,
    d_BadText := _,
    F_BadText := FX_BadText,
    b_BadText := FX_BadText.binds (ps := P_BadText) fun _ _ _ _ _ _ us hl => match us, hl with | [_, _], _ => rfl,
    i_BadText := iX_BadText,
    ti_BadText := tX_BadText,
    a_TooLong := _,
    g_TooLong := PySem.W.mg_of X G gX_TooLong,
    x_TooLong := ⟨⟨⟨_, _, _, _, _, _, _, _, _, _, _, _, _, _, _, oX_TooLong, vX_TooLong⟩, sX_TooLong, xX_TooLong, yX_TooLong, kX_TooLong⟩, xfB_ok bX_TooLong, (List.forall_mem_cons.mpr ⟨nX_code_TooLong, (List.forall_mem_cons.mpr ⟨nX_limit_TooLong, (fun _ h => nomatch h)⟩)⟩), eX_TooLong⟩,
    f_TooLong := _,
    d_TooLong := _,
    F_TooLong := FX_TooLong,
    b_TooLong := FX_TooLong.binds (ps := P_TooLong) fun _ _ _ _ _ _ us hl => match us, hl with | [_, _], _ => rfl,
    i_TooLong := iX_TooLong,
    ti_TooLong := tX_TooLong,
    a_Missing := _,
    g_Missing := PySem.W.mg_of X G gX_Missing,
    a_Word := _,
    g_Word := PySem.W.mg_of X G gX_Word,
    cls_Word := ⟨pgX_Word, hdX_Word, poX_Word, saX_Word⟩,
    is_Word := ⟨⟨pgX_Word, hdX_Word, poX_Word, saX_Word⟩, hcX_Word, hgX_Word, tkX_Word, moX_Word, kiX_Word⟩,
    mk_Word := ⟨miX_Word, at___init__X_Word, fn___init__X_Word, kpX_Word⟩,
    no_Word_steps := no_stepsX_Word,
    no_Word_needed := no_neededX_Word,
    r_Word := ⟨rdX_Word, gaX_Word⟩,
    t_Word_MOST_MOVES := _,
    v_Word_MOST_MOVES := ⟨cv_MOST_MOVESX_Word, ⟨_, rfl⟩⟩,
    t_Word_MOST_REACH := _,
    v_Word_MOST_REACH := ⟨cv_MOST_REACHX_Word, ⟨_, rfl⟩⟩,
    O_Word___add__ := ⟨sfX_Word, at___add__X_Word, fn___add__X_Word⟩,
    O_Word___str__ := ⟨sfX_Word, at___str__X_Word, fn___str__X_Word⟩,
    p_Word_read := _,
    K_Word_read := ⟨at_readX_Word, ⟨_, rc_readX_Word⟩, fi_readX_Word⟩,
    c_law := cLaw,
    p_law := pLaw,
    C_law := ⟨⟨_, _, _, _, _, _, _, _, rfl, l28, c28⟩, k28⟩,
    m_abs := PySem.W.mg_none_of X G z_abs,
    m_all := PySem.W.mg_none_of X G z_all,
    m_bool := PySem.W.mg_none_of X G z_bool,
    m_dict := PySem.W.mg_none_of X G z_dict,
    m_enumerate := PySem.W.mg_none_of X G z_enumerate,
    m_int := PySem.W.mg_none_of X G z_int,
    m_isinstance := PySem.W.mg_none_of X G z_isinstance,
    m_len := PySem.W.mg_none_of X G z_len,
    m_list := PySem.W.mg_none_of X G z_list,
    m_max := PySem.W.mg_none_of X G z_max,
    m_range := PySem.W.mg_none_of X G z_range,
    m_str := PySem.W.mg_none_of X G z_str,
    m_sum := PySem.W.mg_none_of X G z_sum,
    m_tuple := PySem.W.mg_none_of X G z_tuple,
    m_zip := PySem.W.mg_none_of X G z_zip,
    t_MOST_DIGITS := _,
    c_MOST_DIGITS := PySem.W.mg_of X G y_MOST_DIGITS,
    t_MOST_DEPTH := _,
    c_MOST_DEPTH := PySem.W.mg_of X G y_MOST_DEPTH,
    t_MOST_BLOCK := _,
    c_MOST_BLOCK := PySem.W.mg_of X G y_MOST_BLOCK,
    a_ENDS := _,
    c_ENDS := PySem.W.mg_of X G y_ENDS,
    d_ENDS := ⟨_, _, l_ENDS, k_ENDS, s_ENDS⟩,
    x_ENDS := fun z hz => miss_of l_ENDS k_ENDS s_ENDS km_ENDS z hz,
    e_ENDS_t := ⟨_, _, _, l_ENDS, k_ENDS, e_ENDS_t, ⟨_, rfl⟩⟩,
    e_ENDS_b := ⟨_, _, _, l_ENDS, k_ENDS, e_ENDS_b, ⟨_, rfl⟩⟩,
    a_SHAPES := _,
    c_SHAPES := PySem.W.mg_of X G y_SHAPES,
    d_SHAPES := ⟨_, _, l_SHAPES, k_SHAPES, s_SHAPES⟩,
    x_SHAPES := fun z hz => miss_of l_SHAPES k_SHAPES s_SHAPES km_SHAPES z hz,
    a_SHAPES_swap := _,
    e_SHAPES_swap := ⟨_, _, _, l_SHAPES, k_SHAPES, e_SHAPES_swap, rfl⟩,
    q_SHAPES_swap := fun _ => .inr ⟨_, _, _, l_SHAPES_swap, rfl, rfl, le_line (Nat.le_of_ble_eq_true rfl), (.cons ⟨_, rfl⟩ (.cons ⟨_, rfl⟩ .nil))⟩,
    a_SHAPES_carry := _,
    e_SHAPES_carry := ⟨_, _, _, l_SHAPES, k_SHAPES, e_SHAPES_carry, rfl⟩,
    q_SHAPES_carry := fun _ => .inr ⟨_, _, _, l_SHAPES_carry, rfl, rfl, le_line (Nat.le_of_ble_eq_true rfl), (.cons ⟨_, rfl⟩ (.cons ⟨_, rfl⟩ .nil))⟩,
    a_SHAPES_cut := _,
    e_SHAPES_cut := ⟨_, _, _, l_SHAPES, k_SHAPES, e_SHAPES_cut, rfl⟩,
    q_SHAPES_cut := fun _ => .inr ⟨_, _, _, l_SHAPES_cut, rfl, rfl, le_line (Nat.le_of_ble_eq_true rfl), (.cons ⟨_, rfl⟩ .nil)⟩,
    a_SHAPES_turn := _,
    e_SHAPES_turn := ⟨_, _, _, l_SHAPES, k_SHAPES, e_SHAPES_turn, rfl⟩,
    q_SHAPES_turn := fun _ => .inr ⟨_, _, _, l_SHAPES_turn, rfl, rfl, le_line (Nat.le_of_ble_eq_true rfl), (.cons ⟨_, rfl⟩ (.cons ⟨_, rfl⟩ .nil))⟩,
    a_SHAPES_over := _,
    e_SHAPES_over := ⟨_, _, _, l_SHAPES, k_SHAPES, e_SHAPES_over, rfl⟩,
    q_SHAPES_over := fun _ => .inr ⟨_, _, _, l_SHAPES_over, rfl, rfl, le_line (Nat.le_of_ble_eq_true rfl), .nil⟩,
    a_SHAPES_face := _,
    e_SHAPES_face := ⟨_, _, _, l_SHAPES, k_SHAPES, e_SHAPES_face, rfl⟩,
    q_SHAPES_face := fun _ => .inr ⟨_, _, _, l_SHAPES_face, rfl, rfl, le_line (Nat.le_of_ble_eq_true rfl), (.cons ⟨_, rfl⟩ .nil)⟩ }
  exact ⟨_, [(cLaw, pLaw)], spLawT K pLaw, fun p hp => by rw [List.mem_singleton.mp hp]; exact zc5, fun p hp => by rw [List.mem_singleton.mp hp]; exact zc4, fun p hp => by rw [List.mem_singleton.mp hp]; exact PySem.W.codeHd_of_K X zc3, fun s v => .of_eq rfl, fun H a ns h1 _ h3 h4 => ⟨a, ns, rfl, h4, h1, tabs_nil (h3 _ List.mem_cons_self), fun _ => rfl⟩, fun base _ _ TB => ok_law T (TB _ List.mem_cons_self)⟩
end Z
open PySem PySem.W PySem.Calls PyProof.Rows
set_option maxHeartbeats 0 in
theorem PySem.Challenge.cw_pileports_k09_words_that_are_too_long_holds : PySem.Challenge.rw_pileports_k09_words_that_are_too_long.Holds := by
  w_on; o_law
  refine HandSHeadRun.head_any (r := OpenLaw.row PySem.Challenge.rw_pileports_k09_words_that_are_too_long) (q := HT9.qv) (H := kmHook HT9.K HT9.asK HT9.asK_ok HT9.tsK) (ob := fun s => (HT9.asK.map (HandSHeadRun.getT s), HT9.tsK.map (HandSHeadRun.getT s))) (M := 7254) (loose := HT9.names) (kwd := []) HT9.ob_eq (by kernel_rfl) (fun s => by kernel_rfl) HT9.run (by rfl) (by rfl) (by rfl) (by rfl) (by first | assumption | decide +kernel) (by decide +kernel) ⟨rfl, rfl, rfl, rfl, rfl, by decide +kernel⟩ ?hw ?hc
  case hw => w_witness2
  case hc =>
    k_fill
    refine LamX.walk_ofTs (l := PySem.Challenge.rw_pileports_k09_words_that_are_too_long) (n := 63) (k := 18) (x := "_law_script") (CX := fun _ => L2.CX0) rfl (by decide) rfl ⟨rfl, by decide, by decide⟩ (fun w h Y => PySem.W.km_in_of Y) ?F (fun _ _ _ _ _ h => h)
    case F =>
      intro w mg fa h Y KX G hmg
      refine' Z.all_mk KX G hmg ?a0 ?l0 ?c0 ?k0 ?a1 ?l1 ?c1 ?k1 ?a2 ?l2 ?c2 ?k2 ?a3 ?l3 ?c3 ?k3 ?a4 ?l4 ?c4 ?k4 ?a5 ?l5 ?c5 ?k5 ?a6 ?l6 ?c6 ?k6 ?a7 ?l7 ?c7 ?k7 ?a8 ?l8 ?c8 ?k8 ?a9 ?l9 ?c9 ?k9 ?a10 ?l10 ?c10 ?k10 ?a11 ?l11 ?c11 ?k11 ?a12 ?l12 ?c12 ?k12 ?a13 ?l13 ?c13 ?k13 ?a14 ?l14 ?c14 ?k14 ?a15 ?l15 ?c15 ?k15 ?a16 ?l16 ?c16 ?k16 ?a17 ?l17 ?c17 ?k17 ?a18 ?l18 ?c18 ?k18 ?a19 ?l19 ?c19 ?k19 ?a20 ?l20 ?c20 ?k20 ?a21 ?l21 ?c21 ?k21 ?a22 ?l22 ?c22 ?k22 ?a23 ?l23 ?c23 ?k23 ?a24 ?l24 ?c24 ?k24 ?a25 ?l25 ?c25 ?k25 ?a26 ?l26 ?c26 ?k26 ?a27 ?l27 ?c27 ?k27 ?a28 ?l28 ?c28 ?k28 ?z_abs ?z_all ?z_bool ?z_dict ?z_enumerate ?z_int ?z_isinstance ?z_len ?z_list ?z_max ?z_range ?z_str ?z_sum ?z_tuple ?z_zip ?tD2 ?y_MOST_DIGITS ?y_MOST_DEPTH ?y_MOST_BLOCK ?y_ENDS ?l_ENDS ?k_ENDS ?s_ENDS ?km_ENDS ?e_ENDS_t ?e_ENDS_b ?y_SHAPES ?l_SHAPES ?k_SHAPES ?s_SHAPES ?km_SHAPES ?e_SHAPES_swap ?l_SHAPES_swap ?e_SHAPES_carry ?l_SHAPES_carry ?e_SHAPES_cut ?l_SHAPES_cut ?e_SHAPES_turn ?l_SHAPES_turn ?e_SHAPES_over ?l_SHAPES_over ?e_SHAPES_face ?l_SHAPES_face ?gX_PileError ?iX_PileError ?rX_PileError ?sX_PileError ?lX_PileError ?tX_PileError ?cX_PileError ?wX_PileError ?gX_BadPlace ?oX_BadPlace ?vX_BadPlace ?sX_BadPlace ?xX_BadPlace ?yX_BadPlace ?kX_BadPlace ?bX_BadPlace ?nX_code_BadPlace ?nX_place_BadPlace ?iX_BadPlace ?tX_BadPlace ?lX_BadPlace ?eX_BadPlace ?cX_BadPlace ?wX_BadPlace ?gX_BadMove ?oX_BadMove ?vX_BadMove ?sX_BadMove ?xX_BadMove ?yX_BadMove ?kX_BadMove ?bX_BadMove ?nX_code_BadMove ?nX_at_BadMove ?iX_BadMove ?tX_BadMove ?lX_BadMove ?eX_BadMove ?cX_BadMove ?wX_BadMove ?gX_BadText ?oX_BadText ?vX_BadText ?sX_BadText ?xX_BadText ?yX_BadText ?kX_BadText ?bX_BadText ?nX_code_BadText ?nX_at_BadText ?iX_BadText ?tX_BadText ?lX_BadText ?eX_BadText ?eS_BadText ?cX_BadText ?wX_BadText ?gX_TooLong ?oX_TooLong ?vX_TooLong ?sX_TooLong ?xX_TooLong ?yX_TooLong ?kX_TooLong ?bX_TooLong ?nX_code_TooLong ?nX_limit_TooLong ?iX_TooLong ?tX_TooLong ?lX_TooLong ?eX_TooLong ?cX_TooLong ?wX_TooLong ?gX_Missing ?gX_Word ?at___init__X_Word ?at___add__X_Word ?at___str__X_Word ?at_readX_Word ?rc_readX_Word ?fi_readX_Word ?pgX_Word ?hdX_Word ?poX_Word ?saX_Word ?hcX_Word ?hgX_Word ?tkX_Word ?moX_Word ?kiX_Word ?miX_Word ?kpX_Word ?sfX_Word ?no_stepsX_Word ?no_neededX_Word ?rdX_Word ?gaX_Word ?cv_MOST_MOVESX_Word ?cv_MOST_REACHX_Word ?fn___init__X_Word ?fn___add__X_Word ?fn___str__X_Word ?l29 ?c29 ?k29 ?l30 ?c30 ?k30 ?l31 ?c31 ?k31 ?l32 ?c32 ?k32 ?zc0 ?zc1 ?zc2 ?zc3 ?zc4 ?zc5
      (case a0 => k_is); (case l0 => k_is); (case c0 => k_is); (case k0 => k_is); (case a1 => k_is); (case l1 => k_is); (case c1 => k_is); (case k1 => k_is); (case a2 => k_is); (case l2 => k_is); (case c2 => k_is); (case k2 => k_is); (case a3 => k_is); (case l3 => k_is); (case c3 => k_is); (case k3 => k_is); (case a4 => k_is); (case l4 => k_is); (case c4 => k_is); (case k4 => k_is); (case a5 => k_is); (case l5 => k_is); (case c5 => k_is); (case k5 => k_is); (case a6 => k_is); (case l6 => k_is); (case c6 => k_is); (case k6 => k_is); (case a7 => k_is); (case l7 => k_is); (case c7 => k_is); (case k7 => k_is); (case a8 => k_is); (case l8 => k_is); (case c8 => k_is); (case k8 => k_is); (case a9 => k_is); (case l9 => k_is); (case c9 => k_is); (case k9 => k_is); (case a10 => k_is); (case l10 => k_is); (case c10 => k_is); (case k10 => k_is); (case a11 => k_is); (case l11 => k_is); (case c11 => k_is); (case k11 => k_is); (case a12 => k_is); (case l12 => k_is); (case c12 => k_is); (case k12 => k_is); (case a13 => k_is); (case l13 => k_is); (case c13 => k_is); (case k13 => k_is); (case a14 => k_is); (case l14 => k_is); (case c14 => k_is); (case k14 => k_is); (case a15 => k_is); (case l15 => k_is); (case c15 => k_is); (case k15 => k_is); (case a16 => k_is); (case l16 => k_is); (case c16 => k_is); (case k16 => k_is); (case a17 => k_is); (case l17 => k_is); (case c17 => k_is); (case k17 => k_is); (case a18 => k_is); (case l18 => k_is); (case c18 => k_is); (case k18 => k_is); (case a19 => k_is); (case l19 => k_is); (case c19 => k_is); (case k19 => k_is); (case a20 => k_is); (case l20 => k_is); (case c20 => k_is); (case k20 => k_is); (case a21 => k_is); (case l21 => k_is); (case c21 => k_is); (case k21 => k_is); (case a22 => k_is); (case l22 => k_is); (case c22 => k_is); (case k22 => k_is); (case a23 => k_is); (case l23 => k_is); (case c23 => k_is); (case k23 => k_is); (case a24 => k_is); (case l24 => k_is); (case c24 => k_is); (case k24 => k_is); (case a25 => k_is); (case l25 => k_is); (case c25 => k_is); (case k25 => k_is); (case a26 => k_is); (case l26 => k_is); (case c26 => k_is); (case k26 => k_is); (case a27 => k_is); (case l27 => k_is); (case c27 => k_is); (case k27 => k_is); (case a28 => k_is); (case l28 => k_is); (case c28 => k_is); (case k28 => k_is); (case z_abs => k_is); (case z_all => k_is); (case z_bool => k_is); (case z_dict => k_is); (case z_enumerate => k_is); (case z_int => k_is); (case z_isinstance => k_is); (case z_len => k_is); (case z_list => k_is); (case z_max => k_is); (case z_range => k_is); (case z_str => k_is); (case z_sum => k_is); (case z_tuple => k_is); (case z_zip => k_is); (case tD2 => k_is); (case y_MOST_DIGITS => k_is); (case y_MOST_DEPTH => k_is); (case y_MOST_BLOCK => k_is); (case y_ENDS => k_is); (case l_ENDS => k_is); (case k_ENDS => k_keys); (case s_ENDS => (first | rfl | decide)); (case km_ENDS => (first | rfl | decide +kernel | k_is)); (case e_ENDS_t => k_is); (case e_ENDS_b => k_is); (case y_SHAPES => k_is); (case l_SHAPES => k_is); (case k_SHAPES => k_keys); (case s_SHAPES => (first | rfl | decide)); (case km_SHAPES => (first | rfl | decide +kernel | k_is)); (case e_SHAPES_swap => k_is); (case l_SHAPES_swap => k_is); (case e_SHAPES_carry => k_is); (case l_SHAPES_carry => k_is); (case e_SHAPES_cut => k_is); (case l_SHAPES_cut => k_is); (case e_SHAPES_turn => k_is); (case l_SHAPES_turn => k_is); (case e_SHAPES_over => k_is); (case l_SHAPES_over => k_is); (case e_SHAPES_face => k_is); (case l_SHAPES_face => k_is); (case gX_PileError => (first | k_is | decide +kernel | rfl)); (case iX_PileError => (first | k_is | decide +kernel | rfl)); (case rX_PileError => (first | k_is | decide +kernel | rfl)); (case sX_PileError => (first | k_is | decide +kernel | rfl)); (case lX_PileError => (first | k_is | decide +kernel | rfl)); (case tX_PileError => (first | k_is | decide +kernel | rfl)); (case cX_PileError => (first | k_is | decide +kernel | rfl)); (case wX_PileError => (first | k_is | decide +kernel | rfl)); (case gX_BadPlace => (first | k_is | decide +kernel | rfl)); (case oX_BadPlace => (first | k_is | decide +kernel | rfl)); (case vX_BadPlace => (first | k_is | decide +kernel | rfl)); (case sX_BadPlace => (first | k_is | decide +kernel | rfl)); (case xX_BadPlace => (first | k_is | decide +kernel | rfl)); (case yX_BadPlace => (first | k_is | decide +kernel | rfl)); (case kX_BadPlace => (first | k_is | decide +kernel | rfl)); (case bX_BadPlace => (first | k_is | decide +kernel | rfl)); (case nX_code_BadPlace => (first | k_is | decide +kernel | rfl)); (case nX_place_BadPlace => (first | k_is | decide +kernel | rfl)); (case iX_BadPlace => (first | k_is | decide +kernel | rfl)); (case tX_BadPlace => (first | k_is | decide +kernel | rfl)); (case lX_BadPlace => (first | k_is | decide +kernel | rfl)); (case eX_BadPlace => (first | k_is | decide +kernel | rfl)); (case cX_BadPlace => (first | k_is | decide +kernel | rfl)); (case wX_BadPlace => (first | k_is | decide +kernel | rfl)); (case gX_BadMove => (first | k_is | decide +kernel | rfl)); (case oX_BadMove => (first | k_is | decide +kernel | rfl)); (case vX_BadMove => (first | k_is | decide +kernel | rfl)); (case sX_BadMove => (first | k_is | decide +kernel | rfl)); (case xX_BadMove => (first | k_is | decide +kernel | rfl)); (case yX_BadMove => (first | k_is | decide +kernel | rfl)); (case kX_BadMove => (first | k_is | decide +kernel | rfl)); (case bX_BadMove => (first | k_is | decide +kernel | rfl)); (case nX_code_BadMove => (first | k_is | decide +kernel | rfl)); (case nX_at_BadMove => (first | k_is | decide +kernel | rfl)); (case iX_BadMove => (first | k_is | decide +kernel | rfl)); (case tX_BadMove => (first | k_is | decide +kernel | rfl)); (case lX_BadMove => (first | k_is | decide +kernel | rfl)); (case eX_BadMove => (first | k_is | decide +kernel | rfl)); (case cX_BadMove => (first | k_is | decide +kernel | rfl)); (case wX_BadMove => (first | k_is | decide +kernel | rfl)); (case gX_BadText => (first | k_is | decide +kernel | rfl)); (case oX_BadText => (first | k_is | decide +kernel | rfl)); (case vX_BadText => (first | k_is | decide +kernel | rfl)); (case sX_BadText => (first | k_is | decide +kernel | rfl)); (case xX_BadText => (first | k_is | decide +kernel | rfl)); (case yX_BadText => (first | k_is | decide +kernel | rfl)); (case kX_BadText => (first | k_is | decide +kernel | rfl)); (case bX_BadText => (first | k_is | decide +kernel | rfl)); (case nX_code_BadText => (first | k_is | decide +kernel | rfl)); (case nX_at_BadText => (first | k_is | decide +kernel | rfl)); (case iX_BadText => (first | k_is | decide +kernel | rfl)); (case tX_BadText => (first | k_is | decide +kernel | rfl)); (case lX_BadText => (first | k_is | decide +kernel | rfl)); (case eX_BadText => (first | k_is | decide +kernel | rfl)); (case eS_BadText => (first | kernel_rfl | rfl | k_is | decide +kernel)); (case cX_BadText => (first | k_is | decide +kernel | rfl)); (case wX_BadText => (first | k_is | decide +kernel | rfl)); (case gX_TooLong => (first | k_is | decide +kernel | rfl)); (case oX_TooLong => (first | k_is | decide +kernel | rfl)); (case vX_TooLong => (first | k_is | decide +kernel | rfl)); (case sX_TooLong => (first | k_is | decide +kernel | rfl)); (case xX_TooLong => (first | k_is | decide +kernel | rfl)); (case yX_TooLong => (first | k_is | decide +kernel | rfl)); (case kX_TooLong => (first | k_is | decide +kernel | rfl)); (case bX_TooLong => (first | k_is | decide +kernel | rfl)); (case nX_code_TooLong => (first | k_is | decide +kernel | rfl)); (case nX_limit_TooLong => (first | k_is | decide +kernel | rfl)); (case iX_TooLong => (first | k_is | decide +kernel | rfl)); (case tX_TooLong => (first | k_is | decide +kernel | rfl)); (case lX_TooLong => (first | k_is | decide +kernel | rfl)); (case eX_TooLong => (first | k_is | decide +kernel | rfl)); (case cX_TooLong => (first | k_is | decide +kernel | rfl)); (case wX_TooLong => (first | k_is | decide +kernel | rfl)); (case gX_Missing => (first | k_is | decide +kernel | rfl)); (case gX_Word => (first | k_is | decide +kernel | rfl)); (case at___init__X_Word => (first | k_is | decide +kernel | rfl)); (case at___add__X_Word => (first | k_is | decide +kernel | rfl)); (case at___str__X_Word => (first | k_is | decide +kernel | rfl)); (case at_readX_Word => (first | k_is | decide +kernel | rfl)); (case rc_readX_Word => (first | k_is | decide +kernel | rfl)); (case fi_readX_Word => (first | k_is | decide +kernel | rfl)); (case pgX_Word => (first | k_is | decide +kernel | rfl)); (case hdX_Word => (first | k_is | decide +kernel | rfl)); (case poX_Word => (first | k_is | decide +kernel | rfl)); (case saX_Word => (first | k_is | decide +kernel | rfl)); (case hcX_Word => (first | k_is | decide +kernel | rfl)); (case hgX_Word => (first | k_is | decide +kernel | rfl)); (case tkX_Word => (first | k_is | decide +kernel | rfl)); (case moX_Word => (first | k_is | decide +kernel | rfl)); (case kiX_Word => (first | k_is | decide +kernel | rfl)); (case miX_Word => (first | k_is | decide +kernel | rfl)); (case kpX_Word => (first | k_is | decide +kernel | rfl)); (case sfX_Word => (first | k_is | decide +kernel | rfl)); (case no_stepsX_Word => (first | k_is | decide +kernel | rfl)); (case no_neededX_Word => (first | k_is | decide +kernel | rfl)); (case rdX_Word => (first | k_is | decide +kernel | rfl)); (case gaX_Word => (first | k_is | decide +kernel | rfl)); (case cv_MOST_MOVESX_Word => (first | k_is | decide +kernel | rfl)); (case cv_MOST_REACHX_Word => (first | k_is | decide +kernel | rfl)); (case fn___init__X_Word => (first | k_is | decide +kernel | rfl)); (case fn___add__X_Word => (first | k_is | decide +kernel | rfl)); (case fn___str__X_Word => (first | k_is | decide +kernel | rfl)); (case l29 => k_is); (case c29 => k_is); (case k29 => k_is); (case l30 => k_is); (case c30 => k_is); (case k30 => k_is); (case l31 => k_is); (case c31 => k_is); (case k31 => k_is); (case l32 => k_is); (case c32 => k_is); (case k32 => k_is); (case zc0 => (first | rfl | k_is)); (case zc1 => k_is); (case zc2 => (first | rfl | k_is)); (case zc3 => (first | kernel_rfl | decide +kernel | rfl)); (case zc4 => (first | kernel_rfl | decide +kernel | rfl)); (case zc5 => exact PySem.W.km_tabs_of Y _ (by first | decide | simp))
