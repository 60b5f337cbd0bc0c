import PyProof.Rows.All
import Wide.All
import OpenK.AllK
import Wide.FinOn
import PyProof.EqAt
import PyProof.EqKinds
import PyProof.TupleCall
import HandS.ForMost
import HandS.ForExc
import HandS.IsInst
import HandS.Lambda
import HandS.EndTab
import HandS.Wide
import HandS.TupSets
import HandS.SortInts
import HandS.ExcIs
import HandS.ExcValue
import HandS.Zip
import HandS.Style
import HandS.Conv
import HandS.Evl
import PySem.Challenge.RW_gapstairs_k60_fine_cells_and_names
import HandS.SortOrd
import HandS.NamedTupSort
import HandS.Deep
import HandS.Set
import HandS.SetFor
import HandS.Strs
import HandS.Codes
import HandS.Words
import PyProof.Draws
import PyProof.EnumMake
import HandS.Rev
import PyProof.ListNew
import KE.KSortKey
import HandS.SortKw
import HandS.TupAny
import KE.DataMinMax
set_option Elab.async false
set_option linter.all false
set_option maxRecDepth 100000
set_option maxHeartbeats 4000000
namespace G21
open PySem PySem.Spec PyProof.Rows L2
/-! ### the text -/
def topS (i : Nat) : Stmt := PySem.Challenge.pw_gapstairs_k60_fine_cells_and_names.main.body.getD i (.Pass ⟨0, 0, 0, 0⟩)
abbrev S_q_is_number : Stmt := topS 9
abbrev N_q_is_number : List Str := ["thing"]
theorem c_q_is_number : FnScope N_q_is_number ["thing"] (defScope S_q_is_number) := ⟨rfl, rfl, rfl, by decide +kernel, rfl, by decide +kernel, by decide +kernel⟩
abbrev S_q_is_list : Stmt := topS 10
abbrev N_q_is_list : List Str := ["thing"]
theorem c_q_is_list : FnScope N_q_is_list ["thing"] (defScope S_q_is_list) := ⟨rfl, rfl, rfl, by decide +kernel, rfl, by decide +kernel, by decide +kernel⟩
abbrev S_q_is_number_pair : Stmt := topS 11
abbrev N_q_is_number_pair : List Str := ["thing"]
theorem c_q_is_number_pair : FnScope N_q_is_number_pair ["thing"] (defScope S_q_is_number_pair) := ⟨rfl, rfl, rfl, by decide +kernel, rfl, by decide +kernel, by decide +kernel⟩
abbrev S_q_is_spot_list : Stmt := topS 12
abbrev N_q_is_spot_list : List Str := ["thing", "spot"]
theorem c_q_is_spot_list : FnScope N_q_is_spot_list ["thing"] (defScope S_q_is_spot_list) := ⟨rfl, rfl, rfl, by decide +kernel, rfl, by decide +kernel, by decide +kernel⟩
abbrev S_q_is_index : Stmt := topS 13
abbrev N_q_is_index : List Str := ["thing", "many"]
theorem c_q_is_index : FnScope N_q_is_index ["thing", "many"] (defScope S_q_is_index) := ⟨rfl, rfl, rfl, by decide +kernel, rfl, by decide +kernel, by decide +kernel⟩
abbrev S_q_check_spot : Stmt := topS 14
abbrev N_q_check_spot : List Str := ["spot"]
theorem c_q_check_spot : FnScope N_q_check_spot ["spot"] (defScope S_q_check_spot) := ⟨rfl, rfl, rfl, by decide +kernel, rfl, by decide +kernel, by decide +kernel⟩
abbrev S_q_check_spots : Stmt := topS 15
abbrev N_q_check_spots : List Str := ["spots"]
theorem c_q_check_spots : FnScope N_q_check_spots ["spots"] (defScope S_q_check_spots) := ⟨rfl, rfl, rfl, by decide +kernel, rfl, by decide +kernel, by decide +kernel⟩
abbrev S_q_is_size : Stmt := topS 17
abbrev N_q_is_size : List Str := ["thing"]
theorem c_q_is_size : FnScope N_q_is_size ["thing"] (defScope S_q_is_size) := ⟨rfl, rfl, rfl, by decide +kernel, rfl, by decide +kernel, by decide +kernel⟩
abbrev S_q_is_body : Stmt := topS 18
abbrev N_q_is_body : List Str := ["thing"]
theorem c_q_is_body : FnScope N_q_is_body ["thing"] (defScope S_q_is_body) := ⟨rfl, rfl, rfl, by decide +kernel, rfl, by decide +kernel, by decide +kernel⟩
abbrev S_q_check_body : Stmt := topS 19
abbrev N_q_check_body : List Str := ["body"]
theorem c_q_check_body : FnScope N_q_check_body ["body"] (defScope S_q_check_body) := ⟨rfl, rfl, rfl, by decide +kernel, rfl, by decide +kernel, by decide +kernel⟩
abbrev S_q_is_block : Stmt := topS 22
abbrev N_q_is_block : List Str := ["thing", "item"]
theorem c_q_is_block : FnScope N_q_is_block ["thing"] (defScope S_q_is_block) := ⟨rfl, rfl, rfl, by decide +kernel, rfl, by decide +kernel, by decide +kernel⟩
abbrev S_q_are_blocks : Stmt := topS 23
abbrev N_q_are_blocks : List Str := ["thing", "block"]
theorem c_q_are_blocks : FnScope N_q_are_blocks ["thing"] (defScope S_q_are_blocks) := ⟨rfl, rfl, rfl, by decide +kernel, rfl, by decide +kernel, by decide +kernel⟩
abbrev S_q_Drawing_init : Stmt := inClass (topS 24) 0
abbrev N_q_Drawing_init : List Str := ["self", "blocks"]
theorem c_q_Drawing_init : FnScope N_q_Drawing_init ["self", "blocks"] (defScope S_q_Drawing_init) := ⟨rfl, rfl, rfl, by decide +kernel, rfl, by decide +kernel, by decide +kernel⟩
abbrev S_q_Drawing_eq : Stmt := inClass (topS 24) 1
abbrev N_q_Drawing_eq : List Str := ["self", "other"]
theorem c_q_Drawing_eq : FnScope N_q_Drawing_eq ["self", "other"] (defScope S_q_Drawing_eq) := ⟨rfl, rfl, rfl, by decide +kernel, rfl, by decide +kernel, by decide +kernel⟩
abbrev S_q_Drawing_len : Stmt := inClass (topS 24) 2
abbrev N_q_Drawing_len : List Str := ["self"]
theorem c_q_Drawing_len : FnScope N_q_Drawing_len ["self"] (defScope S_q_Drawing_len) := ⟨rfl, rfl, rfl, by decide +kernel, rfl, by decide +kernel, by decide +kernel⟩
abbrev S_q_Drawing_contains : Stmt := inClass (topS 24) 3
abbrev N_q_Drawing_contains : List Str := ["self", "x"]
theorem c_q_Drawing_contains : FnScope N_q_Drawing_contains ["self", "x"] (defScope S_q_Drawing_contains) := ⟨rfl, rfl, rfl, by decide +kernel, rfl, by decide +kernel, by decide +kernel⟩
abbrev S_q_check_drawing : Stmt := topS 25
abbrev N_q_check_drawing : List Str := ["drawing"]
theorem c_q_check_drawing : FnScope N_q_check_drawing ["drawing"] (defScope S_q_check_drawing) := ⟨rfl, rfl, rfl, by decide +kernel, rfl, by decide +kernel, by decide +kernel⟩
abbrev S_q_sizes_among : Stmt := topS 27
abbrev N_q_sizes_among : List Str := ["ends", "starts", "end", "start"]
theorem c_q_sizes_among : FnScope N_q_sizes_among ["ends", "starts"] (defScope S_q_sizes_among) := ⟨rfl, rfl, rfl, by decide +kernel, rfl, by decide +kernel, by decide +kernel⟩
abbrev S_q_grid_of : Stmt := topS 28
abbrev N_q_grid_of : List Str := ["drawing", "spots", "blocks", "block", "spot"]
theorem c_q_grid_of : FnScope N_q_grid_of ["drawing", "spots"] (defScope S_q_grid_of) := ⟨rfl, rfl, rfl, by decide +kernel, rfl, by decide +kernel, by decide +kernel⟩
abbrev S_q_check_grid : Stmt := topS 29
abbrev N_q_check_grid : List Str := ["drawing", "spots"]
theorem c_q_check_grid : FnScope N_q_check_grid ["drawing", "spots"] (defScope S_q_check_grid) := ⟨rfl, rfl, rfl, by decide +kernel, rfl, by decide +kernel, by decide +kernel⟩
abbrev S_q_ranges_of : Stmt := topS 33
abbrev N_q_ranges_of : List Str := ["numbers", "found", "least", "number"]
theorem c_q_ranges_of : FnScope N_q_ranges_of ["numbers"] (defScope S_q_ranges_of) := ⟨rfl, rfl, rfl, by decide +kernel, rfl, by decide +kernel, by decide +kernel⟩
abbrev S_q_has_size : Stmt := topS 34
abbrev N_q_has_size : List Str := ["span", "size"]
theorem c_q_has_size : FnScope N_q_has_size ["span", "size"] (defScope S_q_has_size) := ⟨rfl, rfl, rfl, by decide +kernel, rfl, by decide +kernel, by decide +kernel⟩
abbrev S_q_fine_cells_of : Stmt := topS 35
abbrev N_q_fine_cells_of : List Str := ["drawing", "spots", "grid", "wide", "high"]
theorem c_q_fine_cells_of : FnScope N_q_fine_cells_of ["drawing", "spots"] (defScope S_q_fine_cells_of) := ⟨rfl, rfl, rfl, by decide +kernel, rfl, by decide +kernel, by decide +kernel⟩
abbrev S_q_is_name : Stmt := topS 36
abbrev N_q_is_name : List Str := ["drawing", "spots", "kinds", "thing"]
theorem c_q_is_name : FnScope N_q_is_name ["drawing", "spots", "kinds", "thing"] (defScope S_q_is_name) := ⟨rfl, rfl, rfl, by decide +kernel, rfl, by decide +kernel, by decide +kernel⟩
abbrev S_q_names_for : Stmt := topS 37
abbrev N_q_names_for : List Str := ["drawing", "spots", "body", "axis", "far", "near", "blocks", "found", "k", "spot", "i", "block"]
theorem c_q_names_for : FnScope N_q_names_for ["drawing", "spots", "body", "axis"] (defScope S_q_names_for) := ⟨rfl, rfl, rfl, by decide +kernel, rfl, by decide +kernel, by decide +kernel⟩
abbrev S_q_first_name : Stmt := topS 38
abbrev N_q_first_name : List Str := ["drawing", "spots", "body", "spot", "axis", "names", "name", "number"]
theorem c_q_first_name : FnScope N_q_first_name ["drawing", "spots", "body", "spot", "axis"] (defScope S_q_first_name) := ⟨rfl, rfl, rfl, by decide +kernel, rfl, by decide +kernel, by decide +kernel⟩
abbrev S_q_first_names : Stmt := topS 39
abbrev N_q_first_names : List Str := ["drawing", "spots", "body", "spot", "found"]
theorem c_q_first_names : FnScope N_q_first_names ["drawing", "spots", "body", "spot"] (defScope S_q_first_names) := ⟨rfl, rfl, rfl, by decide +kernel, rfl, by decide +kernel, by decide +kernel⟩
abbrev S_q_number_of : Stmt := topS 40
abbrev N_q_number_of : List Str := ["drawing", "spots", "body", "name", "axis", "known", "number"]
theorem c_q_number_of : FnScope N_q_number_of ["drawing", "spots", "body", "name", "axis"] (defScope S_q_number_of) := ⟨rfl, rfl, rfl, by decide +kernel, rfl, by decide +kernel, by decide +kernel⟩
abbrev S_q_check_names : Stmt := topS 41
abbrev N_q_check_names : List Str := ["drawing", "spots", "names"]
theorem c_q_check_names : FnScope N_q_check_names ["drawing", "spots", "names"] (defScope S_q_check_names) := ⟨rfl, rfl, rfl, by decide +kernel, rfl, by decide +kernel, by decide +kernel⟩
abbrev S_q_check_cells : Stmt := topS 42
abbrev N_q_check_cells : List Str := ["drawing", "spots", "body"]
theorem c_q_check_cells : FnScope N_q_check_cells ["drawing", "spots", "body"] (defScope S_q_check_cells) := ⟨rfl, rfl, rfl, by decide +kernel, rfl, by decide +kernel, by decide +kernel⟩
abbrev S_q_fine_cells : Stmt := topS 43
abbrev N_q_fine_cells : List Str := ["drawing", "spots"]
theorem c_q_fine_cells : FnScope N_q_fine_cells ["drawing", "spots"] (defScope S_q_fine_cells) := ⟨rfl, rfl, rfl, by decide +kernel, rfl, by decide +kernel, by decide +kernel⟩
abbrev S_q_fine_cell : Stmt := topS 44
abbrev N_q_fine_cell : List Str := ["drawing", "spots", "body", "grid", "wide", "high", "span"]
theorem c_q_fine_cell : FnScope N_q_fine_cell ["drawing", "spots", "body"] (defScope S_q_fine_cell) := ⟨rfl, rfl, rfl, by decide +kernel, rfl, by decide +kernel, by decide +kernel⟩
abbrev S_q_place : Stmt := topS 45
abbrev N_q_place : List Str := ["drawing", "spots", "body", "names"]
theorem c_q_place : FnScope N_q_place ["drawing", "spots", "body", "names"] (defScope S_q_place) := ⟨rfl, rfl, rfl, by decide +kernel, rfl, by decide +kernel, by decide +kernel⟩
abbrev S_q_named : Stmt := topS 46
abbrev N_q_named : List Str := ["drawing", "spots", "body", "spot"]
theorem c_q_named : FnScope N_q_named ["drawing", "spots", "body", "spot"] (defScope S_q_named) := ⟨rfl, rfl, rfl, by decide +kernel, rfl, by decide +kernel, by decide +kernel⟩
abbrev S_l_begun : Stmt := topS 48
abbrev N_l_begun : List Str := ["script", "great", "cell"]
theorem c_l_begun : FnScope N_l_begun ["script"] (defScope S_l_begun) := ⟨rfl, rfl, rfl, by decide +kernel, rfl, by decide +kernel, by decide +kernel⟩
abbrev S_l_mixed : Stmt := topS 49
abbrev N_l_mixed : List Str := ["draw", "turn", "found", "prime", "blend", "cell"]
theorem c_l_mixed : FnScope N_l_mixed ["draw"] (defScope S_l_mixed) := ⟨rfl, rfl, rfl, by decide +kernel, rfl, by decide +kernel, by decide +kernel⟩
abbrev S_l_take : Stmt := topS 50
abbrev N_l_take : List Str := ["draw", "many", "found"]
theorem c_l_take : FnScope N_l_take ["draw", "many"] (defScope S_l_take) := ⟨rfl, rfl, rfl, by decide +kernel, rfl, by decide +kernel, by decide +kernel⟩
abbrev S_l_pick : Stmt := topS 51
abbrev N_l_pick : List Str := ["draw", "some"]
theorem c_l_pick : FnScope N_l_pick ["draw", "some"] (defScope S_l_pick) := ⟨rfl, rfl, rfl, by decide +kernel, rfl, by decide +kernel, by decide +kernel⟩
abbrev S_l_caught : Stmt := topS 52
abbrev N_l_caught : List Str := ["task", "caught", "error"]
theorem c_l_caught : FnScope N_l_caught ["task"] (defScope S_l_caught) := ⟨rfl, rfl, rfl, by decide +kernel, rfl, by decide +kernel, by decide +kernel⟩
abbrev S_l_shuffled : Stmt := topS 53
abbrev N_l_shuffled : List Str := ["draw", "some", "left", "found", "turn"]
theorem c_l_shuffled : FnScope N_l_shuffled ["draw", "some"] (defScope S_l_shuffled) := ⟨rfl, rfl, rfl, by decide +kernel, rfl, by decide +kernel, by decide +kernel⟩
abbrev S_l_block : Stmt := topS 54
abbrev N_l_block : List Str := ["draw", "wide", "left", "low"]
theorem c_l_block : FnScope N_l_block ["draw", "wide"] (defScope S_l_block) := ⟨rfl, rfl, rfl, by decide +kernel, rfl, by decide +kernel, by decide +kernel⟩
abbrev S_l_pen : Stmt := topS 55
abbrev N_l_pen : List Str := ["draw", "left", "low", "wide", "tall", "cut", "right", "high", "one", "two", "three", "four", "turn"]
theorem c_l_pen : FnScope N_l_pen ["draw", "left", "low", "wide", "tall"] (defScope S_l_pen) := ⟨rfl, rfl, rfl, by decide +kernel, rfl, by decide +kernel, by decide +kernel⟩
abbrev S_l_stretched : Stmt := topS 56
abbrev N_l_stretched : List Str := ["blocks", "across", "up", "left", "low", "right", "high"]
theorem c_l_stretched : FnScope N_l_stretched ["blocks", "across", "up"] (defScope S_l_stretched) := ⟨rfl, rfl, rfl, by decide +kernel, rfl, by decide +kernel, by decide +kernel⟩
abbrev S_l_table : Stmt := topS 57
abbrev N_l_table : List Str := ["draw", "some", "line", "way", "table", "here", "factor", "k", "old"]
theorem c_l_table : FnScope N_l_table ["draw", "some"] (defScope S_l_table) := ⟨rfl, rfl, rfl, by decide +kernel, rfl, by decide +kernel, by decide +kernel⟩
abbrev S_l_blocks : Stmt := topS 58
abbrev N_l_blocks : List Str := ["draw", "most", "way", "found", "many", "k", "turn", "block", "across", "up"]
theorem c_l_blocks : FnScope N_l_blocks ["draw", "most"] (defScope S_l_blocks) := ⟨rfl, rfl, rfl, by decide +kernel, rfl, by decide +kernel, by decide +kernel⟩
abbrev S_l_spot : Stmt := topS 59
abbrev N_l_spot : List Str := ["draw", "blocks", "across", "up", "x", "y", "block"]
theorem c_l_spot : FnScope N_l_spot ["draw", "blocks"] (defScope S_l_spot) := ⟨rfl, rfl, rfl, by decide +kernel, rfl, by decide +kernel, by decide +kernel⟩
abbrev S_l_body : Stmt := topS 60
abbrev N_l_body : List Str := ["draw", "blocks", "spots", "found", "flat", "some", "way", "at"]
theorem c_l_body : FnScope N_l_body ["draw", "blocks", "spots"] (defScope S_l_body) := ⟨rfl, rfl, rfl, by decide +kernel, rfl, by decide +kernel, by decide +kernel⟩
abbrev S_l_grid : Stmt := topS 61
abbrev N_l_grid : List Str := ["blocks", "spots", "flat", "found", "block", "other", "spot", "item"]
theorem c_l_grid : FnScope N_l_grid ["blocks", "spots", "flat"] (defScope S_l_grid) := ⟨rfl, rfl, rfl, by decide +kernel, rfl, by decide +kernel, by decide +kernel⟩
abbrev S_l_ranges : Stmt := topS 62
abbrev N_l_ranges : List Str := ["numbers", "ends", "found", "k", "number"]
theorem c_l_ranges : FnScope N_l_ranges ["numbers"] (defScope S_l_ranges) := ⟨rfl, rfl, rfl, by decide +kernel, rfl, by decide +kernel, by decide +kernel⟩
abbrev S_l_all_cells : Stmt := topS 63
abbrev N_l_all_cells : List Str := ["blocks", "spots", "found", "wide", "tall"]
theorem c_l_all_cells : FnScope N_l_all_cells ["blocks", "spots"] (defScope S_l_all_cells) := ⟨rfl, rfl, rfl, by decide +kernel, rfl, by decide +kernel, by decide +kernel⟩
abbrev S_l_in_range : Stmt := topS 64
abbrev N_l_in_range : List Str := ["one", "size"]
theorem c_l_in_range : FnScope N_l_in_range ["one", "size"] (defScope S_l_in_range) := ⟨rfl, rfl, rfl, by decide +kernel, rfl, by decide +kernel, by decide +kernel⟩
abbrev S_l_cell : Stmt := topS 65
abbrev N_l_cell : List Str := ["blocks", "spots", "body", "wide", "tall", "one"]
theorem c_l_cell : FnScope N_l_cell ["blocks", "spots", "body"] (defScope S_l_cell) := ⟨rfl, rfl, rfl, by decide +kernel, rfl, by decide +kernel, by decide +kernel⟩
abbrev S_l_names : Stmt := topS 66
abbrev N_l_names : List Str := ["blocks", "spots", "body", "spot", "found", "flat", "words", "some", "k"]
theorem c_l_names : FnScope N_l_names ["blocks", "spots", "body", "spot"] (defScope S_l_names) := ⟨rfl, rfl, rfl, by decide +kernel, rfl, by decide +kernel, by decide +kernel⟩
abbrev S_l_place : Stmt := topS 67
abbrev N_l_place : List Str := ["blocks", "spots", "body", "names", "found", "flat", "word", "k"]
theorem c_l_place : FnScope N_l_place ["blocks", "spots", "body", "names"] (defScope S_l_place) := ⟨rfl, rfl, rfl, by decide +kernel, rfl, by decide +kernel, by decide +kernel⟩
abbrev S_l_refused : Stmt := topS 68
abbrev N_l_refused : List Str := ["drawing", "spots", "body", "many", "wrong", "good"]
theorem c_l_refused : FnScope N_l_refused ["drawing", "spots", "body", "many"] (defScope S_l_refused) := ⟨rfl, rfl, rfl, by decide +kernel, rfl, by decide +kernel, by decide +kernel⟩
abbrev S_l_all_names : Stmt := topS 69
abbrev N_l_all_names : List Str := ["spots", "many", "flat", "words", "found", "k"]
theorem c_l_all_names : FnScope N_l_all_names ["spots", "many", "flat"] (defScope S_l_all_names) := ⟨rfl, rfl, rfl, by decide +kernel, rfl, by decide +kernel, by decide +kernel⟩
abbrev S_q_law : Stmt := topS 70
abbrev N_q_law : List Str := ["script", "draw", "turn", "blocks", "spots", "body", "drawing", "due", "told", "cell", "names", "both", "spot", "near", "here", "first", "k", "flat"]
theorem c_q_law : FnScope N_q_law ["script"] (defScope S_q_law) := ⟨rfl, rfl, rfl, by decide +kernel, rfl, by decide +kernel, by decide +kernel⟩
/-! ### what the top has written -/
/-- a def of the top -/
structure Df (K : PySem.W.Frag) (mg : Str → Option Value) (x : Str) (st : Stmt) (ps : List Str) where
  a : Addr
  d : FuncData
  F : Fun K x x st a d
  g : mg x = some (.ref a)
  b : Binds K d ps []
theorem Df.k {K : PySem.W.Frag} {mg : Str → Option Value} {x : Str} {st : Stmt} {ps : List Str} (D : Df K mg x st ps) : PySem.W.keepIn K (.ref D.a) = true := D.F.kp
/-- an own exception class -/
structure Xc (K : PySem.W.Frag) (mg : Str → Option Value) (x : Str) where
  C : Addr
  g : mg x = some (.ref C)
  q : PySem.W.excIn K C [.type "ValueError", .type "Exception", .type "BaseException", .type "object"] "ValueError.__new__" = true
  k : PySem.W.keepIn K (.ref C) = true
  b : PySem.W.subIn K (.ref C) (.type "BaseException") = some true
  t : PySem.W.typeIn K (.ref C) = some (.type "type")
  e : ExcC K C
end G21
set_option Elab.async false
set_option linter.all false
set_option maxRecDepth 100000
set_option maxHeartbeats 4000000
namespace G21
open PySem PySem.Spec PyProof.Rows L2
structure Txt (K : PySem.W.Frag) (mg : Str → Option Value) where
  z_abs : mg "abs" = none
  z_all : mg "all" = none
  z_bool : mg "bool" = none
  z_enumerate : mg "enumerate" = none
  z_int : mg "int" = none
  z_isinstance : mg "isinstance" = none
  z_len : mg "len" = none
  z_list : mg "list" = none
  z_min : mg "min" = none
  z_range : mg "range" = none
  z_set : mg "set" = none
  z_sorted : mg "sorted" = none
  z_tuple : mg "tuple" = none
  mostT : Tok
  most : mg "MOST_BLOCKS" = some (.int 12 mostT)
  c_X_NAMES : Addr
  g_X_NAMES : mg "X_NAMES" = some (.ref c_X_NAMES)
  s_X_NAMES : ∀ H : Hp, SqT K H c_X_NAMES [V.str "spot", V.str "right", V.str "left"]
  c_Y_NAMES : Addr
  g_Y_NAMES : mg "Y_NAMES" = some (.ref c_Y_NAMES)
  s_Y_NAMES : ∀ H : Hp, SqT K H c_Y_NAMES [V.str "spot", V.str "high", V.str "low"]
  x_GapError : Xc K mg "GapError"
  x_BadBlocks : Xc K mg "BadBlocks"
  x_BadBody : Xc K mg "BadBody"
  x_BadDrawing : Xc K mg "BadDrawing"
  x_BadNames : Xc K mg "BadNames"
  x_BadSpot : Xc K mg "BadSpot"
  x_BadSpots : Xc K mg "BadSpots"
  u_BadBlocks : PySem.W.exmOne K (.ref x_BadBlocks.C) (.ref x_GapError.C) = some true
  u_BadBody : PySem.W.exmOne K (.ref x_BadBody.C) (.ref x_GapError.C) = some true
  u_BadDrawing : PySem.W.exmOne K (.ref x_BadDrawing.C) (.ref x_GapError.C) = some true
  u_BadNames : PySem.W.exmOne K (.ref x_BadNames.C) (.ref x_GapError.C) = some true
  u_BadSpot : PySem.W.exmOne K (.ref x_BadSpot.C) (.ref x_GapError.C) = some true
  u_BadSpots : PySem.W.exmOne K (.ref x_BadSpots.C) (.ref x_GapError.C) = some true
  C : Addr
  fI : Addr
  dI : FuncData
  cls : Cls K C
  gC : mg "Drawing" = some (.ref C)
  nB : NoAttr K C "blocks"
  M : Mk K C fI
  FI : Fun K "__init__" "Drawing.__init__" S_q_Drawing_init fI dI
  bI : Binds K dI ["self", "blocks"] []
  iA : PySem.W.findIn K (.ref C) "__class__" = some (some (.builtin "object.__class__"))
  iN : PySem.W.specialIn K (.builtin "object.__class__") "__get__" = some (some (.builtin "getset_descriptor.__get__"))
  iT : PySem.W.takesIn K (.builtin "object.__class__") = some true
  iM : PySem.W.mroIn K C (.type "object") = some true
  kD : PySem.W.kitOne K (.ref C) (.ref C) = some true
  kL : PySem.W.kitOne K (.type "list") (.ref C) = some false
  kNoneType : PySem.W.kitOne K (.type "NoneType") (.ref C) = some false
  ktuple : PySem.W.kitOne K (.type "tuple") (.ref C) = some false
  kstr : PySem.W.kitOne K (.type "str") (.ref C) = some false
  kint : PySem.W.kitOne K (.type "int") (.ref C) = some false
  kbool : PySem.W.kitOne K (.type "bool") (.ref C) = some false
  e_BadBlocks : PySem.W.kitOne K (.ref x_BadBlocks.C) (.ref x_BadBlocks.C) = some true
  e_BadBody : PySem.W.kitOne K (.ref x_BadBody.C) (.ref x_BadBody.C) = some true
  e_BadDrawing : PySem.W.kitOne K (.ref x_BadDrawing.C) (.ref x_BadDrawing.C) = some true
  e_BadNames : PySem.W.kitOne K (.ref x_BadNames.C) (.ref x_BadNames.C) = some true
  e_BadSpot : PySem.W.kitOne K (.ref x_BadSpot.C) (.ref x_BadSpot.C) = some true
  e_BadSpots : PySem.W.kitOne K (.ref x_BadSpots.C) (.ref x_BadSpots.C) = some true
  n_BadBlocks : PySem.W.kitOne K (.type "NoneType") (.ref x_BadBlocks.C) = some false
  n_BadBody : PySem.W.kitOne K (.type "NoneType") (.ref x_BadBody.C) = some false
  n_BadDrawing : PySem.W.kitOne K (.type "NoneType") (.ref x_BadDrawing.C) = some false
  n_BadNames : PySem.W.kitOne K (.type "NoneType") (.ref x_BadNames.C) = some false
  n_BadSpot : PySem.W.kitOne K (.type "NoneType") (.ref x_BadSpot.C) = some false
  n_BadSpots : PySem.W.kitOne K (.type "NoneType") (.ref x_BadSpots.C) = some false
  q_is_number : Df K mg "is_number" S_q_is_number ["thing"]
  q_is_list : Df K mg "is_list" S_q_is_list ["thing"]
  q_is_number_pair : Df K mg "is_number_pair" S_q_is_number_pair ["thing"]
  q_is_spot_list : Df K mg "is_spot_list" S_q_is_spot_list ["thing"]
  q_is_index : Df K mg "is_index" S_q_is_index ["thing", "many"]
  q_check_spot : Df K mg "check_spot" S_q_check_spot ["spot"]
  q_check_spots : Df K mg "check_spots" S_q_check_spots ["spots"]
  q_is_size : Df K mg "is_size" S_q_is_size ["thing"]
  q_is_body : Df K mg "is_body" S_q_is_body ["thing"]
  q_check_body : Df K mg "check_body" S_q_check_body ["body"]
  q_is_block : Df K mg "is_block" S_q_is_block ["thing"]
  q_are_blocks : Df K mg "are_blocks" S_q_are_blocks ["thing"]
  q_check_drawing : Df K mg "check_drawing" S_q_check_drawing ["drawing"]
  q_sizes_among : Df K mg "sizes_among" S_q_sizes_among ["ends", "starts"]
  q_grid_of : Df K mg "grid_of" S_q_grid_of ["drawing", "spots"]
  q_check_grid : Df K mg "check_grid" S_q_check_grid ["drawing", "spots"]
  q_ranges_of : Df K mg "ranges_of" S_q_ranges_of ["numbers"]
  q_has_size : Df K mg "has_size" S_q_has_size ["span", "size"]
  q_fine_cells_of : Df K mg "fine_cells_of" S_q_fine_cells_of ["drawing", "spots"]
  q_is_name : Df K mg "is_name" S_q_is_name ["drawing", "spots", "kinds", "thing"]
  q_names_for : Df K mg "names_for" S_q_names_for ["drawing", "spots", "body", "axis"]
  q_first_name : Df K mg "first_name" S_q_first_name ["drawing", "spots", "body", "spot", "axis"]
  q_first_names : Df K mg "first_names" S_q_first_names ["drawing", "spots", "body", "spot"]
  q_number_of : Df K mg "number_of" S_q_number_of ["drawing", "spots", "body", "name", "axis"]
  q_check_names : Df K mg "check_names" S_q_check_names ["drawing", "spots", "names"]
  q_check_cells : Df K mg "check_cells" S_q_check_cells ["drawing", "spots", "body"]
  q_fine_cells : Df K mg "fine_cells" S_q_fine_cells ["drawing", "spots"]
  q_fine_cell : Df K mg "fine_cell" S_q_fine_cell ["drawing", "spots", "body"]
  q_place : Df K mg "place" S_q_place ["drawing", "spots", "body", "names"]
  q_named : Df K mg "named" S_q_named ["drawing", "spots", "body", "spot"]
  l_begun : Df K mg "_law_begun" S_l_begun ["script"]
  l_mixed : Df K mg "_law_mixed" S_l_mixed ["draw"]
  l_take : Df K mg "_law_take" S_l_take ["draw", "many"]
  l_pick : Df K mg "_law_pick" S_l_pick ["draw", "some"]
  l_caught : Df K mg "_law_caught" S_l_caught ["task"]
  l_shuffled : Df K mg "_law_shuffled" S_l_shuffled ["draw", "some"]
  l_block : Df K mg "_law_block" S_l_block ["draw", "wide"]
  l_pen : Df K mg "_law_pen" S_l_pen ["draw", "left", "low", "wide", "tall"]
  l_stretched : Df K mg "_law_stretched" S_l_stretched ["blocks", "across", "up"]
  l_table : Df K mg "_law_table" S_l_table ["draw", "some"]
  l_blocks : Df K mg "_law_blocks" S_l_blocks ["draw", "most"]
  l_spot : Df K mg "_law_spot" S_l_spot ["draw", "blocks"]
  l_body : Df K mg "_law_body" S_l_body ["draw", "blocks", "spots"]
  l_grid : Df K mg "_law_grid" S_l_grid ["blocks", "spots", "flat"]
  l_ranges : Df K mg "_law_ranges" S_l_ranges ["numbers"]
  l_all_cells : Df K mg "_law_all_cells" S_l_all_cells ["blocks", "spots"]
  l_in_range : Df K mg "_law_in_range" S_l_in_range ["one", "size"]
  l_cell : Df K mg "_law_cell" S_l_cell ["blocks", "spots", "body"]
  l_names : Df K mg "_law_names" S_l_names ["blocks", "spots", "body", "spot"]
  l_place : Df K mg "_law_place" S_l_place ["blocks", "spots", "body", "names"]
  l_refused : Df K mg "_law_refused" S_l_refused ["drawing", "spots", "body", "many"]
  l_all_names : Df K mg "_law_all_names" S_l_all_names ["spots", "many", "flat"]
  q_law : Df K mg "law" S_q_law ["script"]
end G21
set_option Elab.async false
set_option linter.all false
set_option maxRecDepth 100000
set_option maxHeartbeats 4000000
/-! sorted of a list of tuples of d ints each, whatever the ints are -/
namespace GS
open PySem PySem.Spec PyProof.Rows L2
section
variable {prog : Program} {w : World} {A : Around} {E : Value → Shared → Prop} {s : Shared} {Q : Bool → Shared → Prop}
theorem lexAt {b : Bool} : ∀ {xs ys : List Value} {ns ms : List Int} (i : Nat), IntsAre xs ns → IntsAre ys ms → ns.length = ms.length → Q (HT.lexLt ns ms) s → PySem.W.KatLex prog w A b false Q (xs.zip ys) i s
  | [], [], _, _, _, .nil, .nil, _, h => PySem.W.kat_nil (by rw [HT.lexLt_nil_nil] at h; exact h)
  | _ :: _, [], _, _, _, .cons _ _ _, .nil, hl, _ => by simp at hl
  | [], _ :: _, _, _, _, .nil, .cons _ _ _, hl, _ => by simp at hl
  | _ :: xs, _ :: ys, _, _, i, .cons (ns := ns) p t hx, .cons (ns := ms) q u hy, hl, h => by
    have hl2 : ns.length = ms.length := Nat.succ.inj hl
    rw [HT.lexLt_cons] at h
    rw [List.zip_cons_cons]
    refine PySem.W.kat_cons (wpAny_eqBool_int ?_)
    by_cases e : p = q
    · rw [if_pos e] at h
      rw [beq_iff_eq.mpr e]
      exact PySem.W.kat_yes (lexAt (i + 1) hx hy hl2 h)
    · rw [if_neg e] at h
      rw [beq_eq_false_iff_ne.mpr e]
      exact PySem.W.kat_no (TS.oneLt_ints _ h)
/-- the values are tuples of d ints -/
def Tups (h : Heap) (d : Nat) (vs : List Value) : Prop := ∀ v ∈ vs, ∃ ns, TS.TupInts h v ns ∧ ns.length = d
theorem Tups.stay {h h' : Heap} {d : Nat} {vs : List Value} (x : Tups h d vs) (k : ∀ b o, h.get? b = some o → o.cls = .type "tuple" → h'.get? b = some o) : Tups h' d vs := fun v hv => by
  obtain ⟨ns, t, e⟩ := x v hv
  exact ⟨ns, t.keeps k, e⟩
theorem heads {h : Heap} {d : Nat} (hd : 1 ≤ d) : ∀ vs : List Value, Tups h d vs → ∃ fs, PySem.W.KatTups h vs fs ∧ fs.length = vs.length ∧ ∀ f ∈ fs, ∃ n t, f = Value.int n t
  | [], _ => ⟨[], PySem.W.KatTups.nil, rfl, fun f hf => absurd hf (by simp)⟩
  | v :: vs, x => by
    obtain ⟨fs, k, hl, hi⟩ := heads hd vs fun u hu => x u (List.mem_cons_of_mem _ hu)
    obtain ⟨ns, ⟨a, xs, rfl, ⟨o, ho, hc, n, hdt⟩, i⟩, hn⟩ := x v (List.mem_cons_self ..)
    have hz : xs.toList.length = d := by rw [i.length, hn]
    cases q : xs.toList with
    | nil =>
      rw [q] at hz
      simp at hz
      omega
    | cons y ys =>
      have my : y ∈ xs.toList := by
        rw [q]
        exact List.mem_cons_self ..
      obtain ⟨m, t, hy⟩ := i.all y my
      refine ⟨y :: fs, PySem.W.KatTups.cons ho hc hdt ?_ k, by rw [List.length_cons, List.length_cons, hl], fun f hf => ?_⟩
      · have z : xs.toList[0]? = some y := by rw [q] <;> rfl
        simpa using z
      · rcases List.mem_cons.mp hf with e | hf
        · exact ⟨m, t, e.trans hy⟩
        · exact hi f hf
/-- by their ints -/
def keyL (h : Heap) (v : Value) : List Int := TS.intsOf h v
theorem cmpL {d : Nat} {vs : List Value} (k : Value → List Int) (x : ∀ v ∈ vs, TS.TupInts s.heap v (k v) ∧ (k v).length = d) : SrtO.Cmp prog w A s (tuples' true) (fun p => p.1 ∈ vs) (SrtO.lt2 fun v u => HT.lexLt (k v) (k u)) := by
  intro p q hp hq
  obtain ⟨tp, lp⟩ := x _ hp
  obtain ⟨tq, lq⟩ := x _ hq
  show wpAny (model prog w) A (keyLt' (tuples' true) p.1 q.1) (fun r s' => s' = s ∧ r = HT.lexLt (k p.1) (k q.1)) _ s
  generalize k p.1 = ns at tp lp ⊢
  generalize k q.1 = ms at tq lq ⊢
  obtain ⟨a, xs, e1, ⟨o, ho, hc, n, hdt⟩, i⟩ := tp
  obtain ⟨a', ys, e2, ⟨o', ho', hc', n', hdt'⟩, i'⟩ := tq
  rw [e1, e2]
  refine PySem.W.kat_lt ho hdt ho' hdt' ?_
  have z1 : xs.size = d := by rw [← lp, ← i.length, Array.length_toList]
  have z2 : ys.size = d := by rw [← lq, ← i'.length, Array.length_toList]
  have sz : decide (xs.size < ys.size) = false := decide_eq_false (by omega)
  rw [sz]
  exact lexAt 0 i i' (by omega) ⟨rfl, rfl⟩
theorem sortableL {a : Addr} {d : Nat} {vs : List Value} (hd : 1 ≤ d) (h0 : 0 < vs.length) (k : Value → List Int) (x : ∀ v ∈ vs, TS.TupInts s.heap v (k v) ∧ (k v).length = d) (ha : ∀ o, s.heap.get? a = some o → o.cls ≠ .type "tuple") :
    SrtO.SortableO prog w A s a vs fun v u => HT.lexLt (k v) (k u) := by
  intro h' keep
  have x' : ∀ v ∈ vs, TS.TupInts h' v (k v) ∧ (k v).length = d := fun v hv => ⟨(x v hv).1.keeps fun b o e c => keep b o (fun z => ha o (by rw [← z]; exact e) c) e, (x v hv).2⟩
  obtain ⟨fs, h1, h2, h3⟩ := heads (h := h') hd vs fun v hv => ⟨_, x' v hv⟩
  refine ⟨tuples' true, fun Q E hq => ?_, cmpL (s := { s with heap := h' }) k x'⟩
  refine PySem.W.kat_kind (T := .type "int") h1 (by omega) (fun f hm => ?_) (by rfl) hq
  obtain ⟨n, t, rfl⟩ := h3 f hm
  exact PySem.W.Looks.of_pure rfl
end
/-! ### over the abstract heap -/
def rSortL (K : PySem.W.Frag) (d : Nat) : List V → Hp → VK → Prop := fun vs H Q => ∃ (a : Addr) (xs : List V), vs = [V.ref a] ∧ SqL K H a xs ∧ (∀ x ∈ xs, ∃ ns, TupI K H x ns ∧ ns.length = d) ∧
  ∀ (ys : List V) (p : Addr), ys.Perm xs → ys.Pairwise (fun x y => ∀ n m, TupI K H x n → TupI K H y m → HT.lexLt m n = false) → H p = none → Q (.ref p) (upd H p (.lst ys))
theorem cr_sortL {X : Cx} {d : Nat} (hd : 1 ≤ d) : CallR X (.builtin "sorted") (rSortL X.K d) := by
  intro pins s σ H vs us Q I r h
  obtain ⟨a, xs, rfl, hs, hx, q⟩ := h
  obtain ⟨its, rv, hl, hz⟩ := I.list hs
  rw [Vals.ref1 r]
  obtain ⟨e1, e2⟩ := bkV_refs rv fun x m => by
    obtain ⟨ns, ⟨t, e, _⟩, _⟩ := hx x m
    exact ⟨t, e⟩
  have ti : ∀ v ∈ its, TS.TupInts s.heap v (TS.intsOf s.heap v) ∧ (TS.intsOf s.heap v).length = d := fun v hv => by
    obtain ⟨t, rfl⟩ := e2 v hv
    have hm : V.ref t ∈ xs := by
      rw [e1]
      exact List.mem_map.mpr ⟨_, hv, rfl⟩
    obtain ⟨ns, ⟨t', e, ht⟩, hn⟩ := hx _ hm
    cases e
    have z := tupI_raw I ht
    rw [z.ints]
    exact ⟨z, hn⟩
  refine SrtO.sorted_ord (NtL.swo_lexL (TS.intsOf s.heap)) hl.isList (by rw [← rv.length]; exact hz) (fun h2 h₁ b hb kk => ?_) fun out h1 h2 => ?_
  · refine sortableL (s := { s with heap := h₁ }) hd (by omega) _ (fun v hv => ⟨(ti v hv).1.keeps fun b' o e _ => (kk b' o e).2, (ti v hv).2⟩) fun o e c => ?_
    cases hb.symm.trans e
    exact absurd (Value.type.inj c) (by decide)
  · obtain ⟨ep, he'⟩ := PyProof.Rows.sortedAll_at s.heap its out.toArray
    have pm : out.Perm its := h2.perm
    have h3 : ∀ u ∈ out, ∃ a, u = Value.ref a := fun u hu => e2 u (pm.mem_iff.mp hu)
    have hp : (out.map bkV).Perm xs := by
      rw [e1]
      exact pm.map bkV
    have hlen : (out.map bkV).length ≤ sizeLine := by
      rw [hp.length_eq]
      exact hz
    refine ⟨.ref _, upd H (s.heap.objs.size + 1) (.lst (out.map bkV)), I.laid (t' := s.toks) (fun _ _ => PyProof.Rows.sortedAll_old) (Nat.le_succ _) ⟨hlen, out, ep, bkV_vals h3, he'⟩, rfl, q _ _ hp ?_ (I.hok.fresh (Nat.le_succ _))⟩
    rw [List.pairwise_map]
    refine List.Pairwise.imp (fun {u v} huv n m hn hm => ?_) h1
    obtain ⟨t, et, ht⟩ := hn
    obtain ⟨t', et', ht'⟩ := hm
    have i1 : TS.intsOf s.heap u = n := by
      rw [bkV_ref et]
      exact (tupI_raw I ht).ints
    have i2 : TS.intsOf s.heap v = m := by
      rw [bkV_ref et']
      exact (tupI_raw I ht').ints
    rw [← i1, ← i2]
    exact huv
end GS
set_option Elab.async false
set_option linter.all false
set_option maxRecDepth 100000
set_option maxHeartbeats 4000000
/-! len of a set of tuples of ints -/
namespace GS
open PySem PySem.Spec PyProof.Rows L2
def rLenT (K : PySem.W.Frag) (P : Program) (w : World) : List V → Hp → VK → Prop := fun xs H Q => ∃ (a : Addr) (L : List (Addr × List Int)), xs = [.ref a] ∧ H a = some (SetTO P w a L) ∧ (∀ p ∈ L, SqT K H p.1 (p.2.map V.int)) ∧ ((L.map (·.2)).Nodup → Q (.int L.length) H)
theorem call_lenT {X : Cx} : CallR X (.builtin "len") (rLenT X.K X.prog X.w) := by
  intro pins s σ H xs us Q I r h
  obtain ⟨a, L, rfl, ha, hk, q⟩ := h
  have R0 : SetT0 X.prog X.w s.heap a L := (I.hok a _ ha).1
  obtain ⟨es, ep, t, R⟩ := R0.full fun p hp => I.isT (hk p hp)
  rw [Vals.ref1 r]
  obtain ⟨o, ho, hex, hd⟩ := R.ob
  have hz : es.size = L.length := by
    rw [← Array.length_toList, R.rows]
    unfold rowsOf
    rw [List.length_map]
  have few := R.few
  refine call_len_set ho hex hd R.fits (by omega) ⟨.int L.length, H, I.tok _, ⟨_, by rw [hz]⟩, q R.nd⟩
/-- no repeats, each in the other: not longer -/
theorem nodup_le {α : Type} [DecidableEq α] : ∀ {l m : List α}, l.Nodup → (∀ x ∈ l, x ∈ m) → l.length ≤ m.length
  | [], _, _, _ => Nat.zero_le _
  | x :: l, m, hl, h => by
    obtain ⟨h1, h2⟩ := List.nodup_cons.mp hl
    have hm : x ∈ m := h x (List.mem_cons_self ..)
    have q := nodup_le (m := m.erase x) h2 fun y hy => (List.mem_erase_of_ne (fun z => h1 (by rw [← z]; exact hy))).mpr (h y (List.mem_cons_of_mem _ hy))
    rw [List.length_erase_of_mem hm] at q
    have p := List.length_pos_of_mem hm
    rw [List.length_cons]
    omega
theorem nodup_len {α : Type} [DecidableEq α] {l m : List α} (hl : l.Nodup) (hm : m.Nodup) (h1 : ∀ x ∈ l, x ∈ m) (h2 : ∀ x ∈ m, x ∈ l) : l.length = m.length :=
  Nat.le_antisymm (nodup_le hl h1) (nodup_le hm h2)
end GS
set_option Elab.async false
set_option linter.all false
set_option maxRecDepth 100000
set_option maxHeartbeats 4000000
/-! lists and tuples of ints, lists of tuples of ints, as data that == compares -/
namespace GS
open PySem PySem.Spec PyProof.Rows L2
def dIs (ns : List Int) : List PyData := ns.map PyData.int
def dT (ns : List Int) : PyData := .tuple (dIs ns)
theorem lay_is : ∀ ns : List Int, PyData.canLayAll0 (dIs ns) = true
  | [] => by simp [dIs, PyData.canLayAll0]
  | n :: ns => by
    have h := lay_is ns
    unfold dIs at h ⊢
    rw [List.map_cons]
    simp only [PyData.canLayAll0, PyData.canLay0, Bool.true_and]
    exact h
theorem deep_is : ∀ ns : List Int, PyData.depthAll (dIs ns) = 0
  | [] => by simp [dIs, PyData.depthAll]
  | n :: ns => by
    have h := deep_is ns
    unfold dIs at h ⊢
    rw [List.map_cons]
    simp only [PyData.depthAll, PyData.depth]
    omega
theorem eqv_is : ∀ ns ms : List Int, PyData.eqvAll (dIs ns) (dIs ms) = decide (ns = ms)
  | [], [] => by simp [dIs, PyData.eqvAll]
  | [], m :: ms => by simp [dIs, PyData.eqvAll]
  | n :: ns, [] => by simp [dIs, PyData.eqvAll]
  | n :: ns, m :: ms => by
    have h := eqv_is ns ms
    unfold dIs at h ⊢
    rw [List.map_cons, List.map_cons]
    simp only [PyData.eqvAll, PyData.eqv]
    rw [h]
    by_cases e : n = m
    · subst e
      simp
    · rw [beq_eq_false_iff_ne.mpr e, Bool.false_and]
      exact (decide_eq_false fun z => e (List.cons.inj z).1).symm
theorem shaped_is (ns : List Int) : SeqAt.shaped (.list (dIs ns)) = true := by
  show (PyData.canLay0 (.list (dIs ns)) && decide (PyData.depth (.list (dIs ns)) ≤ 64)) = true
  simp only [PyData.canLay0, PyData.depth, deep_is, lay_is, Bool.true_and, decide_eq_true_eq]
  omega
theorem shaped_t (ns : List Int) : SeqAt.shaped (dT ns) = true := by
  show (PyData.canLay0 (.tuple (dIs ns)) && decide (PyData.depth (.tuple (dIs ns)) ≤ 64)) = true
  simp only [PyData.canLay0, PyData.depth, deep_is, lay_is, Bool.true_and, decide_eq_true_eq]
  omega
theorem lay_ts : ∀ L : List (List Int), PyData.canLayAll0 (L.map dT) = true
  | [] => by simp [PyData.canLayAll0]
  | n :: ns => by
    have h := lay_ts ns
    rw [List.map_cons]
    simp only [dT, PyData.canLayAll0, PyData.canLay0, lay_is, Bool.true_and]
    exact h
theorem deep_ts : ∀ L : List (List Int), PyData.depthAll (L.map dT) ≤ 1
  | [] => by simp [PyData.depthAll]
  | n :: ns => by
    have h := deep_ts ns
    rw [List.map_cons]
    have e : PyData.depth (dT n) = 1 := by
      simp only [dT, PyData.depth, deep_is]
    simp only [PyData.depthAll, e]
    omega
theorem shaped_ts (L : List (List Int)) : SeqAt.shaped (.list (L.map dT)) = true := by
  have h := deep_ts L
  have h3 : PyData.depth (.list (L.map dT)) ≤ 64 := by
    simp only [PyData.depth]
    omega
  have h4 : PyData.canLay0 (.list (L.map dT)) = true := by
    simp only [PyData.canLay0]
    exact lay_ts L
  unfold SeqAt.shaped
  rw [h4, decide_eq_true h3]
  rfl
theorem eqv_t (ns ms : List Int) : PyData.eqv (dT ns) (dT ms) = decide (ns = ms) := by
  simp only [dT, PyData.eqv, eqv_is]
theorem eqv_ts : ∀ L M : List (List Int), PyData.eqvAll (L.map dT) (M.map dT) = decide (L = M)
  | [], [] => by simp [PyData.eqvAll]
  | [], m :: ms => by simp [PyData.eqvAll]
  | n :: ns, [] => by simp [PyData.eqvAll]
  | n :: ns, m :: ms => by
    have h := eqv_ts ns ms
    rw [List.map_cons, List.map_cons]
    simp only [PyData.eqvAll, eqv_t]
    rw [h]
    by_cases e : n = m
    · subst e
      simp
    · rw [decide_eq_false e, Bool.false_and]
      exact (decide_eq_false fun z => e (List.cons.inj z).1).symm
theorem eqv_lis (ns ms : List Int) : PyData.eqv (.list (dIs ns)) (.list (dIs ms)) = decide (ns = ms) := by
  simp only [PyData.eqv, eqv_is]
theorem eqv_lts (L M : List (List Int)) : PyData.eqv (.list (L.map dT)) (.list (M.map dT)) = decide (L = M) := by
  simp only [PyData.eqv, eqv_ts]
section
variable {K : PySem.W.Frag} {H : Hp}
theorem dp_ints : ∀ ns : List Int, DpAll K H (ns.map V.int) (dIs ns)
  | [] => .nil
  | n :: ns => .cons (.int n) (dp_ints ns)
theorem dp_l {a : Addr} {ns : List Int} (h : SqL K H a (ns.map V.int)) : Dp K H (.ref a) (.list (dIs ns)) := .lst h (dp_ints ns)
theorem dp_t {a : Addr} {ns : List Int} (h : SqT K H a (ns.map V.int)) : Dp K H (.ref a) (dT ns) := .tup h (dp_ints ns)
/-- the addresses are those of tuples of ints -/
theorem dp_refs {α : Type} {f : α → List Int} {F : Addr → α → Prop} (hF : ∀ a x, F a x → H a = some (.tup ((f x).map V.int))) : ∀ {rs : List Addr} {xs : List α}, Paired F rs xs → DpAll K H (rs.map V.ref) (xs.map fun x => dT (f x))
  | _, _, .nil => .nil
  | _, _, .cons r t => .cons (dp_t (SqT.of (hF _ _ r))) (dp_refs hF t)
theorem dp_lrefs {α : Type} {f : α → List Int} {F : Addr → α → Prop} (hF : ∀ a x, F a x → H a = some (.tup ((f x).map V.int))) {a : Addr} {rs : List Addr} {xs : List α} (h : SqL K H a (rs.map V.ref)) (p : Paired F rs xs) : Dp K H (.ref a) (.list ((xs.map f).map dT)) := by
  rw [List.map_map]
  exact .lst h (dp_refs hF p)
end
end GS
set_option Elab.async false
set_option linter.all false
set_option maxRecDepth 100000
set_option maxHeartbeats 4000000
/-! set(xs) of a list of ints, as a set that may be sorted -/
namespace GS
open PySem PySem.Spec PySem.W PySem.Calls PyProof.Rows L2
/-- a set as set.__new__ leaves it -/
abbrev eS (w : World) : Obj := { cls := .type "set", dict := none, data := .set #[] 0 (.fresh 0 0 (!w.params.followText "set-order")) }
section
variable {P : Program} {w : World} {A : Around} {E : Value → Shared → Prop} {s : Shared}
theorem call_set_listI {l : Addr} {xs : Array Value} (ns : List Int) {Q : Value → Shared → Prop} (calm : A.handled = none) (isL : s.heap.IsList l xs) (hI : IntsAre xs.toList ns) (few : ns.length + 1 < scanBound)
    (then_ : ∀ (h' : Heap) (tk c : Nat), SetR w h' s.heap.objs.size (fun j => decide (j ∈ ns)) c → c ≤ ns.length → (∀ b o, s.heap.get? b = some o → h'.get? b = some o) → Q (.ref s.heap.objs.size) { s with heap := h', toks := tk }) :
    wpAny (model P w) A (call (.type "set") [.ref l]) Q E s := by
  have size_ : xs.size = ns.length := by
    rw [← Array.length_toList]
    exact IntsAre.length hI
  have ⟨c, tl, mro_⟩ := F.called_set.mro
  have made_ := F.called_set.made
  have sub_ := F.called_set.sub
  refine wpAny_call (codeAny_of_tree (?_ : wpAny _ _ (callAny (.type "set") _) _ _ _))
  refine wpAny_pure ⟨Code.quiet_builtin _ (by decide +kernel), codeAny_builtin F.entry_type_call ?_⟩
  rw [Around.under_plain (weight_type_call_type "set" [.ref l] []) rfl]
  have k1 := F.called_set.notType
  have k2 := F.called_set.canCreate
  have k3 := F.typeCall_set_1 (.ref l)
  repeat any_goals (first | assumption | wp_step)
  refine codeAny_mono (code_set_led1 (.ref l) (E := E) (Q₁ := fun x s₁ => x = .ref s.heap.objs.size ∧ s₁ = { s with heap := s.heap.push (eS w) }) ⟨rfl, rfl⟩) fun r s₁ hr => ?_
  cases r with
  | error e => exact hr
  | ok fl =>
    cases fl with
    | next => exact hr.elim
    | brk => exact hr.elim
    | cont => exact hr.elim
    | ret x =>
      obtain ⟨rfl, rfl⟩ := hr
      have new_ : (s.heap.push (eS w)).get? s.heap.objs.size = some (eS w) := Heap.get?_push_size _ rfl
      have ty_ : Shared.TypeIs { s with heap := s.heap.push (eS w) } (.ref s.heap.objs.size) "set" := ⟨_, new_, rfl⟩
      have i1 := F.called_set.init.lookup
      have i2 := F.called_set.init.bind (.ref s.heap.objs.size)
      repeat any_goals (first | assumption | wp_step)
      refine codeAny_mono (codeAny_call_builtin (R := wants (fun r s₂ => r = .none ∧ ∃ h' tk c, s₂ = { s with heap := h', toks := tk } ∧ SetR w h' s.heap.objs.size (fun j => decide (j ∈ ns)) c ∧ c ≤ ns.length ∧ ∀ b o, s.heap.get? b = some o → h'.get? b = some o) E)
        F.called_set.init.plain F.entry_set_init (check_set_init_1 ty_ ?_)) fun r₂ s₂ hr₂ => ?_
      · obtain ⟨⟨oc, od, odt, osl⟩, hol, hcl, nl, hdl⟩ := isL
        dsimp only at hcl hdl
        subst hcl hdl
        have hol2 : (s.heap.push (eS w)).get? l = some { cls := .type "list", dict := od, data := .seq xs nl, slots := osl } := Heap.get?_push_of_some _ hol
        have j1 := F.sub_list_set
        have j2 := F.sub_list_frozenset
        have j3 : (Value.type "list" == Value.type "dict") = false := by decide
        have isL1 : (s.heap.push (eS w)).IsList l xs := ⟨_, hol2, rfl, nl, rfl⟩
        unfold Builtin.«set.__init__» noKeywords Builtin.Frozenset.updateFrom
        generalize hP : pyIter = PI
        wp_walk
        subst hP
        refine wpAny_pyIter_list isL1 (wpAny_bind (wpAny_runValue ?_))
        have lt_ : l < s.heap.objs.size := Heap.lt_size hol
        have calm3 : A.in1.in1.in1.handled = none := calm
        have sz_ : (s.heap.push (eS w)).objs.size = s.heap.objs.size + 1 := Heap.size_push ..
        have ne_ : l ≠ (s.heap.push (eS w)).objs.size := fun z => by
          rw [z, sz_] at lt_
          exact absurd lt_ (Nat.not_lt.mpr (Nat.le_succ _))
        have out_ : s.heap.objs.size ∉ [(s.heap.push (eS w)).objs.size, l] := fun z => by
          rcases List.mem_cons.mp z with z | z
          · rw [sz_] at z
            exact absurd z (Nat.ne_of_lt (Nat.lt_succ_self _))
          · exact absurd (List.mem_singleton.mp z) (Nat.ne_of_gt lt_)
        have val_ : ∀ (i : Nat) (v : Value), xs[i]? = some v → ∃ k t, ns[i]? = some k ∧ v = .int k t := fun i v hv => by
          have hi : i < ns.length := by
            rw [← size_]
            exact (Array.getElem?_eq_some_iff.mp hv).1
          obtain ⟨t, e⟩ := PyProof.Rows.IntsAre.int_at hI i v (by rw [Array.getElem?_toList, hv])
          refine ⟨ns[i], t, List.getElem?_eq_getElem hi, e.trans ?_⟩
          rw [List.getD_eq_getElem?_getD, List.getElem?_eq_getElem hi]
          rfl
        refine set_update_ints ((Walks.list calm3 _ l ne_ xs).toS) s.heap.objs.size out_ ns size_ few val_ (xs.size - 0) 0 _ (by omega) (Nat.zero_le _) ⟨⟨_, Heap.get?_push_size _ rfl, rfl, rfl⟩, (isL1.push _)⟩ ?first ?last
        case first => exact ⟨0, Nat.le_refl 0, setR_new_at (Heap.get?_push_of_some _ new_)⟩
        case last =>
          intro s' c' mv hc' hS'
          obtain ⟨h', g2, d', tk', os'⟩ := s'
          obtain rfl : g2 = s.gens := mv.gens
          obtain rfl : d' = s.drawn := mv.drawn
          obtain rfl : os' = s.os := mv.os
          rw [size_] at hc'
          refine wpAny_pure (wpAny_pure ⟨rfl, h', tk', c', rfl, hS', hc', fun b o e => ?_⟩)
          have hb0 : b < s.heap.objs.size := Heap.lt_size e
          refine mv.heap b o (fun z => ?_) (Heap.get?_push_of_some _ (Heap.get?_push_of_some _ e))
          rcases List.mem_cons.mp z with z | z
          · exact absurd z (Nat.ne_of_lt hb0)
          · have z2 : b = (s.heap.push (eS w)).objs.size := List.mem_singleton.mp z
            rw [z2, sz_] at hb0
            exact absurd hb0 (Nat.not_lt.mpr (Nat.le_succ _))
      · cases r₂ with
        | error e => exact hr₂
        | ok fl₂ =>
          cases fl₂ with
          | next => exact hr₂.elim
          | brk => exact hr₂.elim
          | cont => exact hr₂.elim
          | ret r =>
            obtain ⟨rfl, h', tk, c', rfl, hS', hc', hk'⟩ := hr₂
            repeat any_goals (first | assumption | wp_step)
            exact then_ _ _ _ hS' hc' hk'
end
/-- over the abstract heap -/
def rSetL (K : Frag) (w : World) : List V → Hp → VK → Prop := fun xs H Q => ∃ (l : Addr) (ns : List Int), xs = [V.ref l] ∧ SqL K H l (ns.map V.int) ∧ ns.length < 1000 ∧ ∀ p n, H p = none → n ≤ ns.length → Q (.ref p) (upd H p (SetO w p (fun j => decide (j ∈ ns)) n))
theorem cr_setL {X : Cx} (hc : X.calm = true) : CallR X (.type "set") (rSetL X.K X.w) := by
  intro pins s σ H xs us Q I r h
  obtain ⟨l, ns, rfl, hl, hf, q⟩ := h
  obtain ⟨its, rv, pl, hz⟩ := I.list hl
  rw [Vals.ref1 r]
  have hn : H s.heap.objs.size = none := I.hok.fresh (Nat.le_refl _)
  refine call_set_listI (P := X.prog) ns (I.ok.hd hc) pl.isList (by simpa using rv.ints) (by unfold scanBound; omega) fun h' tk c R hcn k => ?_
  exact ⟨.ref s.heap.objs.size, upd H s.heap.objs.size (SetO X.w s.heap.objs.size _ c), I.laid (t' := tk) k (Nat.le_refl _) (setO_new R), rfl, q _ c hn hcn⟩
end GS
set_option Elab.async false
set_option linter.all false
set_option maxRecDepth 100000
set_option maxHeartbeats 4000000
/-! an exception that a clause has caught, kept under another name -/
namespace GS
open PySem PySem.Spec PyProof.Rows L2
/-- an exception object of the class cls, without a dict, at a: raised, caught and kept -/
def ExT (cls : Value) (a : Addr) : HO := .ext fun h => ∃ (ob : Obj) (us : Array Value), h.get? a = some ob ∧ Zc cls none ob ∧ ob.data = .fields us
theorem exT_ok {P : Program} {w : World} {H : Hp} {h : Heap} {a : Addr} {cls : Value} {ob : Obj} {us : Array Value} (e : h.get? a = some ob) (z : Zc cls none ob) (d : ob.data = .fields us) : ObjOk P w H h a (ExT cls a) :=
  ⟨⟨ob, us, e, z, d⟩, ⟨ob, e⟩, fun _ _ ⟨o, v, q, r⟩ k => ⟨o, v, k o q, r⟩⟩
section
variable {X : Cx} {pins : List (Addr × Obj)} {σ : L2.St} {H : Hp} {s : Shared}
/-- what stands, and was made behind the entry, comes to be tracked -/
theorem track {a : Addr} {o : HO} (I : Inv X pins σ H s) (hn : H a = none) (h0 : X.s_0.heap.get? a = none) (new : ObjOk X.prog X.w (upd H a o) s.heap a o) (nL : a ≠ X.env.locals) (nC : ∀ x c, X.env.cells.lookup x = some c → c ≠ a)
    (nP : ∀ p ∈ X.pn ++ pins, p.1 ≠ a) : Inv X pins σ (upd H a o) s := by
  have old : ∀ b u, X.s_0.heap.get? b = some u → b ≠ a := fun b u e z => by
    rw [z, h0] at e
    cases e
  have keepH : ∀ b u, H b = some u → upd H a o b = some u := fun b u e => by
    rw [upd_ne (ne_of_none e hn)]
    exact e
  refine ⟨I.ok, I.os, I.bare, ⟨I.base.keep, I.base.slot, fun b u e n hx => ?_, I.base.there, fun b xs e => keepH b _ (I.base.tups b xs e), fun b u v e => keepH b _ (I.base.frzs b u v e), fun b ps e => ?_⟩, I.loc, I.cell, ?_, fun x c e => ?_, fun p hp => ?_, fun b u e => ?_, I.len⟩
  · rw [upd_ne (old b u e)]
    exact I.base.free b u e n hx
  · obtain ⟨m, q⟩ := I.base.tbls b ps e
    exact ⟨m, keepH b _ q⟩
  · rw [upd_ne nL.symm]
    exact I.free
  · rw [upd_ne (nC x c e)]
    exact I.freeC x c e
  · obtain ⟨q1, q2, q3⟩ := I.pin p hp
    exact ⟨q1, by rw [upd_ne (nP p hp)]; exact q2, q3⟩
  · by_cases hb : b = a
    · subst hb
      rw [upd_same] at e
      cases e
      exact new
    · rw [upd_ne hb] at e
      exact (I.hok b u e).stay (fun _ _ _ q => q) (fun c q => keepH c _ q) fun c xs q => keepH c _ q
end
/-- what 'except x as n: y = n' wishes of an exception of the body -/
def wKeep (K : PySem.W.Frag) (c : Value) (i j : Nat) (D : Ends) : WX := fun cls d σ H =>
  d = none ∧ PySem.W.exmOne K cls c = some true ∧ ∀ a, H a = none → D.nx (((σ.set i (some (.ref a))).set j (some (.ref a))).set i none) (upd H a (ExT cls a))
section
variable {X : Cx} {x n y : Str} {c : Value} {i j : Nat} {body : List Stmt} {np pos pos' p1 p2 p3 : Pos} {tb : WX → TS}
theorem ps_try_keep (hst : X.stack = X.env :: X.outer) (hfr : X.env.frame = some X.env.locals) (hex : X.ex = []) (hN : X.N.Nodup) (hi : X.N[i]? = some n) (hj : X.N[j]? = some y) (kn : X.env.kindOf n = some .local) (ky : X.env.kindOf y = some .local)
    (hdn : (n == ("__debug__" : Str)) = false) (hcn : (n == ("__classdict__" : Str)) = false) (hc : Names X x c)
    (hsw : swapsWith (.Name n p2) (some (.Name y p1)) p3.line X.env = pure false)
    (hb : ∀ (W : WX) (pn : List (Addr × Obj)) (xe : Value → Shared → Prop), Takes (X.tr pn xe) W → PassesOwn (model X.prog X.w) X.A X.env xe → PSs (X.tr pn xe) body (tb W)) :
    PS X (.Try body [.ExceptHandler (some (.Name x np)) (some n) [.Assign [.Name y p1] (.Name n p2) p3] pos'] [] [] pos) (fun D σ H => tb (wKeep X.K c i j D) D σ H) := by
  refine ⟨fun pins s σ H D I h => ?_⟩
  have okX := I.ok
  have frames : X.A.frames = some (X.env :: X.outer) := okX.frames.trans (by rw [hst])
  refine wpAny_Try_except (wpAny_mono ((hb (wKeep X.K c i j D) (X.pn ++ pins) (fun e s₁ => wpAny (model X.prog X.w) X.A (noteFrame e X.env) (fun _ s₂ => wpAny (model X.prog X.w) X.A (setFlight e none) (fun _ s₃ =>
    wpAny (model X.prog X.w) X.A (handleBy e X.env [.ExceptHandler (some (.Name x np)) (some n) [.Assign [.Name y p1] (.Name n p2) p3] pos']) (SP X pins D) X.xe s₃) X.xe s₂) X.xe s₁) (fun u s' fly => ?_) PassesOwn.looking).run [] s σ H D (I.toTry _) h) (fun f s1 hsp => ?_) fun _ _ z => z)
  · obtain ⟨a, B, sI, pn1, σ1, H1, cls, d, rfl, J0, nb, up, sky, na, os, ag, rfl, yes, go⟩ := fly
    have J : Inv X pins σ1 H1 sI := J0.ofTry okX
    rw [hst] at sky
    show wpAny _ X.A (noteFrame (.ref a) X.env) _ _ _
    refine Sky.land Zc.steady frames hfr sky fun h3 fl up3 => ?_
    have J3 : Inv X pins σ1 H1 { s' with heap := h3 } := J.landed nb fl.1 (up.trans up3) os ag
    have noB : B.get? a = none := fl.2.1
    obtain ⟨ob, us, eob, zob, dob⟩ := fl.there
    have out : a ∉ frs (X.env :: X.outer) := fun hm => by
      obtain ⟨_, o2, e2, nf⟩ := fl.2.2.1.mem hm
      cases e2.symm.trans eob
      exact nf _ dob
    have nL : a ≠ X.env.locals := fun z => out (List.mem_filterMap.mpr ⟨X.env, List.mem_cons_self, by rw [hfr, z]⟩)
    have nF : a ∉ X.fs := fun hm => by
      obtain ⟨e, he, q⟩ := List.mem_filterMap.mp hm
      exact out (List.mem_filterMap.mpr ⟨e, List.mem_cons_of_mem _ he, q⟩)
    have fresh : X.s_0.heap.get? a = none := by
      cases e : X.s_0.heap.get? a with
      | none => rfl
      | some o =>
        obtain ⟨o', e'⟩ := J.base.there a o e (by rw [hex]; exact fun z => nomatch z)
        have z := nb a o' e' (by rw [hst]; exact out)
        rw [noB] at z
        cases z
    have S3 := J3.suite eob dob na nL nF
    refine wpAny_handleBy_cons (codeAny_handlers_test ?_) (by intro q; cases q)
    have looks : PySem.W.Looks (model X.prog X.w) h3 (typeOf (.ref a)) cls := fun A Q E s k q => wpAny_typeOf_ref (k _ _ eob) (by rw [zob.1]; exact q)
    have match_ := PySem.W.exm_one (M := model X.prog X.w) (J3.kIn) looks yes
    have clause : ∀ {Q : Value → Shared → Prop} {E : Value → Shared → Prop}, Q c { s' with heap := h3 } → wpAny (model X.prog X.w) (X.A.mark (some (.ref a))) (eval (.Name x np) X.env) Q E { s' with heap := h3 } := fun {Q E} q => by
      rcases hc with ⟨hg, hd, hm | ⟨hm, hv, hnn⟩⟩
      · exact ld_glob (X := X.suite a ((a, ob) :: (X.pn ++ pins))) S3 hg hm q hd
      · exact ld_blt (X := X.suite a ((a, ob) :: (X.pn ++ pins))) S3 hg hm hv q hnn hd
    refine clause (match_.here (codeAny_handlers_suite_as (HandSPX.lands_againZ fl fun h4 fl4 up4 => ?_)))
    have J4 : Inv X pins σ1 H1 { s' with heap := h4 } := J.landed nb fl4.1 ((up.trans up3).trans up4) os ag
    obtain ⟨ob4, us4, e4, z4, d4⟩ := fl4.there
    have S4 := J4.suite e4 d4 na nL nF
    refine store_ok (X := X.suite a ((a, ob4) :: (X.pn ++ pins))) (v := .ref a) S4 hN hi (.inl kn) rfl (fun s5 S5 => ?_) (.inr kn)
    have one : PSs (X.suite a ((a, ob4) :: (X.pn ++ pins))) [.Assign [.Name y p1] (.Name n p2) p3] (tAsg (tVar i) (gName j)) :=
      pss_one (ps_set (X := X.suite a ((a, ob4) :: (X.pn ++ pins))) hN hj (.inl ky) (pe_var hi (.inl kn) hdn hcn) hsw (.inr ky))
    have li : i < σ1.length := by
      have q := J.len
      have q2 := (List.getElem?_eq_some_iff.mp hi).1
      omega
    have ahead : tAsg (tVar i) (gName j) { nx := fun σ6 H6 => σ6 = (σ1.set i (some (.ref a))).set j (some (.ref a)) ∧ H6 = H1, rt := fun _ _ => False } (σ1.set i (some (.ref a))) H1 := ⟨.ref a, by rw [List.getElem?_set_self li], rfl, rfl⟩
    refine wpAny_mono (one.run [] s5 _ H1 _ S5 ahead) (fun f s6 hsp => ?_) fun _ _ z => z.elim
    cases f with
    | next =>
      obtain ⟨σ6, H6, S6, rfl, rfl⟩ := hsp
      refine gone_ok (X := X.suite a ((a, ob4) :: (X.pn ++ pins))) S6 hN hi kn fun s7 S7 => ?_
      obtain ⟨g1, g2, g3, g4, g5⟩ := S7.pin (a, ob4) (List.mem_append.mpr (.inl List.mem_cons_self))
      have J7 : Inv X pins _ H6 s7 := S7.unsuite okX
      refine ⟨_, _, track J7 na fresh (exT_ok g1 z4 d4) g3 (fun x' c' e z => ?_) (fun p hp z => ?_), go a na⟩
      · obtain ⟨v, o, ho, hd⟩ := J7.cell x' c' e
        rw [z] at ho
        cases ho.symm.trans g1
        exact g5 v hd
      · obtain ⟨q1, _⟩ := J.pin p hp
        have q2 := (J7.pin p hp).1
        rw [z] at q1
        have fr2 : p.1 ∉ frs X.stack := fun hm => by
          rw [hst, z] at hm
          exact out hm
        have q3 := nb a _ q1 (by rw [← z]; exact fr2)
        rw [noB] at q3
        cases q3
    | brk => exact (hsp.choose_spec.choose_spec.2).elim
    | cont => exact (hsp.choose_spec.choose_spec.2).elim
    | ret u =>
      obtain ⟨_, _, _, _, _, z⟩ := hsp
      exact z.elim
  · cases f with
    | next =>
      obtain ⟨σ', H', J', q⟩ := hsp
      exact wpAny_execs_nil ⟨σ', H', J'.ofTry okX, q⟩
    | brk =>
      obtain ⟨σ', H', J', q⟩ := hsp
      exact ⟨σ', H', J'.ofTry okX, q⟩
    | cont =>
      obtain ⟨σ', H', J', q⟩ := hsp
      exact ⟨σ', H', J'.ofTry okX, q⟩
    | ret u =>
      obtain ⟨v, σ', H', J', r, q⟩ := hsp
      exact ⟨v, σ', H', J'.ofTry okX, r, q⟩
end
end GS
set_option Elab.async false
set_option linter.all false
set_option maxRecDepth 100000
set_option maxHeartbeats 4000000
/-! a call that names all its arguments, or all but the first -/
namespace GS
open PySem PySem.Spec PyProof.Rows L2
/-- n values, then the m named ones -/
def gA {α : Type} (n m : Nat) (xs ys : List α) : List α := if xs.length = n ∧ ys.length = m then xs ++ ys else []
theorem vals_app : ∀ {vs : List V} {us : List Value} {zs : List V} {ws : List Value}, Vals vs us → Vals zs ws → Vals (vs ++ zs) (us ++ ws)
  | _, _, _, _, .nil, h => h
  | _, _, _, _, .cons r t, h => .cons r (vals_app t h)
theorem gA_rel {n m : Nat} {vs : List V} {us : List Value} {zs : List V} {ws : List Value} (h1 : Vals vs us) (h2 : Vals zs ws) : Vals (gA n m vs zs) (gA n m us ws) := by
  unfold gA
  rw [h1.length, h2.length]
  split
  · exact vals_app h1 h2
  · exact .nil
theorem gA_len {n m : Nat} {us ws : List Value} (hn : 0 < n + m) (h : (gA n m us ws).length = n + m) : us.length = n ∧ ws.length = m := by
  unfold gA at h
  split at h
  · assumption
  · simp at h
    omega
section
variable {X : Cx} {CX : CXT} {k : Nat} {f : Addr} {fd : FuncData} {ps ks : List Str} {sp : Sp} {E : XK} {x : Str} {p pos : Pos} {kws : List Keyword} {tk : TA} {g : List Value → List Value → List Value} {gV : List V → List V → List V}
theorem pe_callK0 (F : FnOk X.prog X.w X.K X.mg X.base CX k f fd ps sp) (hr : Room k X.A) (hg : Gl X x) (hm : X.mg x = some (.ref f)) (hk : PySem.W.keepIn X.K (.ref f) = true) (hb : KBinds X.K fd ps ks g gV) (hx : Passes CX X E) (hkw : PK X kws tk)
    (hall : (backToKw pos (keywordEach kws X.env)).all (·.1.isSome) = true := by rfl) (hks : (backToKw pos (keywordEach kws X.env)).filterMap (·.1) = ks := by rfl) (hdb : (x == ("__debug__" : Str)) = false := by decide)
    (hpl : ((backTo pos (starEach [] X.env)).any (·.1) || (backToKw pos (keywordEach kws X.env)).any (·.1.isNone)) = false := by rfl) :
    PE X (.Call (.Name x p) [] kws pos) (tCallK sp gV E tNil tk) := by
  refine ⟨fun pins s σ H Q I h => ?_⟩
  refine wpAny_Call_Name_kw (ld_glob I hg hm ?_ hdb)
  refine PySem.W.callWith_KW0 (h₀ := X.base) I.ok.mod.kin hk hall ?_ hpl
  refine thn (hkw.run pos pins s σ H _ I h) fun ws s2 ⟨zs, H2, I2, rz, q2⟩ => ⟨I2.kIn, ?_⟩
  rw [hks]
  exact run_fnk (us := []) (vs := []) F hr hb hx I2 .nil rz q2
end
end GS
set_option Elab.async false
set_option linter.all false
set_option maxRecDepth 100000
set_option maxHeartbeats 4000000
namespace G21
open PySem PySem.Spec PyProof.Rows L2
/-! ### kinds of values -/
inductive Kn (H : Hp) : V → String → Prop where
  | non : Kn H .non "NoneType"
  | bl (b : Bool) : Kn H (.bl b) "bool"
  | int (i : Int) : Kn H (.int i) "int"
  | str (s : Str) : Kn H (.str s) "str"
  | lst {a : Addr} {xs : List V} (e : H a = some (.lst xs)) : Kn H (.ref a) "list"
  | tup {a : Addr} {xs : List V} (e : H a = some (.tup xs)) : Kn H (.ref a) "tuple"
theorem Kn.ty {K : PySem.W.Frag} {H : Hp} {x : V} {n : String} (k : Kn H x n) : TyX K H x (.type n) := by
  cases k with
  | non => exact .base .non
  | bl b => exact .base (.bl b)
  | int i => exact .base (.int i)
  | str s => exact .base (.str s)
  | lst e => exact .base (.lst e)
  | tup e => exact .base (.tup e)
def isI : V → Bool
  | .int _ => true
  | _ => false
def isBl : V → Bool
  | .bl _ => true
  | _ => false
theorem kn_int {H : Hp} {x : V} {n : String} (k : Kn H x n) : kitB n "int" = some (isI x || isBl x) := by
  cases k with
  | non => exact (by decide +kernel : kitB "NoneType" "int" = some false)
  | bl b => exact (by decide +kernel : kitB "bool" "int" = some true)
  | int i => exact (by decide +kernel : kitB "int" "int" = some true)
  | str s => exact (by decide +kernel : kitB "str" "int" = some false)
  | lst e => exact (by decide +kernel : kitB "list" "int" = some false)
  | tup e => exact (by decide +kernel : kitB "tuple" "int" = some false)
theorem kn_bool {H : Hp} {x : V} {n : String} (k : Kn H x n) : kitB n "bool" = some (isBl x) := by
  cases k with
  | non => exact (by decide +kernel : kitB "NoneType" "bool" = some false)
  | bl b => exact (by decide +kernel : kitB "bool" "bool" = some true)
  | int i => exact (by decide +kernel : kitB "int" "bool" = some false)
  | str s => exact (by decide +kernel : kitB "str" "bool" = some false)
  | lst e => exact (by decide +kernel : kitB "list" "bool" = some false)
  | tup e => exact (by decide +kernel : kitB "tuple" "bool" = some false)
theorem kn_tup {H : Hp} {x : V} {n : String} (k : Kn H x n) : kitB n "tuple" = some (n == "tuple") := by
  cases k with
  | non => decide +kernel
  | bl b => decide +kernel
  | int i => decide +kernel
  | str s => decide +kernel
  | lst e => decide +kernel
  | tup e => decide +kernel
def isIx (m : Int) : V → Bool
  | .int i => decide (0 ≤ i) && decide (i < m)
  | _ => false
def isSz : V → Bool
  | .int i => decide (1 ≤ i)
  | _ => false
theorem isI_int {x : V} (h : isI x = true) : ∃ i, x = .int i := by
  cases x <;> first | exact ⟨_, rfl⟩ | cases h
theorem isIx_no {x : V} {m : Int} (h : ¬ isI x = true) : isIx m x = false := by
  cases x <;> first | rfl | exact absurd rfl h
theorem isSz_no {x : V} (h : ¬ isI x = true) : isSz x = false := by
  cases x <;> first | rfl | exact absurd rfl h
/-! ### numbers, indexes, sizes -/
def spNum : Sp := fun vs H Q _ => ∃ (x : V) (n : String), vs = [x] ∧ Kn H x n ∧ Q (.bl (isI x)) H
def spIx : Sp := fun vs H Q _ => ∃ (x : V) (n : String) (m : Int), vs = [x, .int m] ∧ Kn H x n ∧ Q (.bl (isIx m x)) H
def spSz : Sp := fun vs H Q _ => ∃ (x : V) (n : String), vs = [x] ∧ Kn H x n ∧ Q (.bl (isSz x)) H
/-! D -/
/-! ### blocks, bodies, drawings -/
structure Bk where
  l : Int
  d : Int
  r : Int
  u : Int
deriving DecidableEq
def Bk.n (b : Bk) : List Int := [b.l, b.d, b.r, b.u]
def Bk.v (b : Bk) : List V := [.int b.l, .int b.d, .int b.r, .int b.u]
theorem Bk.nv (b : Bk) : b.n.map V.int = b.v := rfl
theorem Bk.n_inj {a b : Bk} (h : a.n = b.n) : a = b := by
  obtain ⟨a1, a2, a3, a4⟩ := a
  obtain ⟨b1, b2, b3, b4⟩ := b
  have e : [a1, a2, a3, a4] = [b1, b2, b3, b4] := h
  simp only [List.cons.injEq, and_true] at e
  obtain ⟨rfl, rfl, rfl, rfl⟩ := e
  rfl
/-- the addresses rs are those of the blocks bs -/
abbrev Bks (H : Hp) (rs : List Addr) (bs : List Bk) : Prop := Paired (fun r b => H r = some (.tup (Bk.v b))) rs bs
theorem pd_len {α β : Type} {F : α → β → Prop} : ∀ {as : List α} {bs : List β}, Paired F as bs → as.length = bs.length
  | _, _, .nil => rfl
  | _, _, .cons _ t => congrArg (· + 1) (pd_len t)
theorem pd_get {α β : Type} {F : α → β → Prop} : ∀ {as : List α} {bs : List β} {i : Nat} {b : β}, Paired F as bs → bs[i]? = some b → ∃ a, as[i]? = some a ∧ F a b
  | _, _, _, _, .nil, h => by simp at h
  | _, _, 0, _, .cons r _, h => ⟨_, rfl, by cases h; exact r⟩
  | _, _, i + 1, _, .cons _ t, h => pd_get (i := i) t h
theorem pd_imp {α β : Type} {F G : α → β → Prop} : ∀ {as : List α} {bs : List β}, Paired F as bs → (∀ a b, F a b → G a b) → Paired G as bs
  | _, _, .nil, _ => .nil
  | _, _, .cons r t, f => .cons (f _ _ r) (pd_imp t f)
def Dw (C : Addr) (H : Hp) (m : Addr) (bs : List Bk) : Prop :=
  ∃ (dx t : Addr) (rs : List Addr), H m = some (.ins C dx [("blocks", .ref t)]) ∧ H t = some (.tup (rs.map V.ref)) ∧ Bks H rs bs ∧ bs.length ≤ 12
/-- a body -/
def Bo (H : Hp) (p : Addr) (a b : Int) : Prop := H p = some (.tup [.int a, .int b])
/-! ### the promises -/
def spBody : Sp := fun vs H Q _ => ∃ (t : Addr) (a b : Int), vs = [.ref t] ∧ Bo H t a b ∧ Q (.bl (decide (1 ≤ a) && decide (1 ≤ b))) H
def spChkBody (X : Addr) : Sp := fun vs H Q E => ∃ (t : Addr) (a b : Int), vs = [.ref t] ∧ Bo H t a b ∧ (1 ≤ a ∧ 1 ≤ b → Q .non H) ∧ (¬ (1 ≤ a ∧ 1 ≤ b) → E (.ref X) none H)
def spChkDw (C X : Addr) : Sp := fun vs H Q E => ∃ m : Addr, vs = [.ref m] ∧ (((∃ dx fs, H m = some (.ins C dx fs)) ∧ Q .non H) ∨ ((∃ xs, H m = some (.lst xs)) ∧ E (.ref X) none H))
def spChkIx (C X : Addr) : Sp := fun vs H Q E => ∃ (m : Addr) (x : V) (n : String) (bs : List Bk), vs = [.ref m, x] ∧ Dw C H m bs ∧ Kn H x n ∧ (isIx bs.length x = true → Q .non H) ∧ (isIx bs.length x = false → E (.ref X) none H)
def spChkPair (C X Y : Addr) : Sp := fun vs H Q E => ∃ (m : Addr) (x y : V) (n n' : String) (bs : List Bk), vs = [.ref m, x, y] ∧ Dw C H m bs ∧ Kn H x n ∧ Kn H y n' ∧
  (isIx bs.length x = false → E (.ref X) none H) ∧ (isIx bs.length x = true → isIx bs.length y = false → E (.ref X) none H) ∧
  (∀ i j : Int, x = .int i → y = .int j → isIx bs.length x = true → isIx bs.length y = true → (i ≠ j → Q .non H) ∧ (i = j → E (.ref Y) none H))
/-- drawing and body: what check_here asks -/
def spHere (C X Y : Addr) : Sp := fun vs H Q E => ∃ (m t : Addr) (a b : Int), vs = [.ref m, .ref t] ∧ Bo H t a b ∧
  (((∃ dx fs, H m = some (.ins C dx fs)) ∧ (1 ≤ a ∧ 1 ≤ b → Q .non H) ∧ (¬ (1 ≤ a ∧ 1 ≤ b) → E (.ref Y) none H)) ∨ ((∃ xs, H m = some (.lst xs)) ∧ E (.ref X) none H))
def gx (p q : Bk) : Int := max (q.l - p.r) (p.l - q.r)
def gy (p q : Bk) : Int := max (q.d - p.u) (p.d - q.u)
theorem max_if (i j : Int) : (if j > i then j else i) = max i j := by
  by_cases h : i < j
  · rw [if_pos h]
    omega
  · rw [if_neg h]
    omega
def spGapOf : Sp := fun vs H Q _ => ∃ (p q : Addr) (x y : Bk), vs = [.ref p, .ref q] ∧ H p = some (.tup x.v) ∧ H q = some (.tup y.v) ∧ ∀ z, H z = none → Q (.ref z) (upd H z (.tup [.int (gx x y), .int (gy x y)]))
theorem ix_ok {m i : Int} (h : isIx m (.int i) = true) : 0 ≤ i ∧ i < m := by
  have h2 : (decide (0 ≤ i) && decide (i < m)) = true := h
  simp only [Bool.and_eq_true, decide_eq_true_eq] at h2
  exact h2

/-! E -/
/-! ### heaps that only grow -/
theorem same_new {H : Hp} {p : Addr} {o : HO} (h : H p = none) : Same H (upd H p o) := fun b x e => by
  rw [upd_ne (ne_of_none e h)]
  exact e
theorem Dw.same {C : Addr} {H H' : Hp} {m : Addr} {bs : List Bk} (e : Same H H') (h : Dw C H m bs) : Dw C H' m bs := by
  obtain ⟨dx, t, rs, h1, h2, h3, h4⟩ := h
  exact ⟨dx, t, rs, e _ _ h1, e _ _ h2, pd_imp h3 fun _ _ => e _ _, h4⟩
def nr (p q : Bk) (a b : Int) : Bool := decide (gx p q < a) && decide (gy p q < b)
/-- an index of the drawing's tuple -/
theorem at_blk {rs : List Addr} {r : Addr} {i : Nat} (h : rs[i]? = some r) : atI (rs.map V.ref) (i : Int) = some (.ref r) := by
  refine atI_nat ?_
  rw [List.getElem?_map, h]
  rfl
/-! ### pairs in a list -/
abbrev Prs (H : Hp) (as : List Addr) (ps : List (Int × Int)) : Prop := Paired (fun a p => H a = some (.tup [.int p.1, .int p.2])) as ps
def PrL (H : Hp) (z : Addr) (ps : List (Int × Int)) : Prop := ∃ as : List Addr, H z = some (.lst (as.map V.ref)) ∧ Prs H as ps
theorem pd_app {α β : Type} {F : α → β → Prop} : ∀ {as as' : List α} {bs bs' : List β}, Paired F as bs → Paired F as' bs' → Paired F (as ++ as') (bs ++ bs')
  | _, _, _, _, .nil, h => h
  | _, _, _, _, .cons r t, h => .cons r (pd_app t h)
def rowTo (f : Nat → Nat → Bool) (i k : Nat) : List (Int × Int) := ((List.range k).filter fun t => f i (i + 1 + t)).map fun t => ((i : Int), ((i + 1 + t : Nat) : Int))
def prsTo (f : Nat → Nat → Bool) (n i : Nat) : List (Int × Int) := (List.range i).flatMap fun i => rowTo f i (n - (i + 1))
theorem rowTo_succ (f : Nat → Nat → Bool) (i k : Nat) : rowTo f i (k + 1) = rowTo f i k ++ (if f i (i + 1 + k) = true then [((i : Int), ((i + 1 + k : Nat) : Int))] else []) := by
  unfold rowTo
  rw [List.range_succ, List.filter_append, List.map_append]
  congr 1
  by_cases h : f i (i + 1 + k) = true
  · rw [if_pos h]
    simp [List.filter, h]
  · rw [if_neg h]
    simp [List.filter, h]
theorem prsTo_succ (f : Nat → Nat → Bool) (n i : Nat) : prsTo f n (i + 1) = prsTo f n i ++ rowTo f i (n - (i + 1)) := by
  unfold prsTo
  rw [List.range_succ, List.flatMap_append, List.flatMap_cons, List.flatMap_nil, List.append_nil]
theorem rowTo_len (f : Nat → Nat → Bool) (i : Nat) : ∀ k, (rowTo f i k).length ≤ k
  | 0 => Nat.le_refl _
  | k + 1 => by
    rw [rowTo_succ, List.length_append]
    have h := rowTo_len f i k
    split
    · simp only [List.length_cons, List.length_nil]
      omega
    · simp only [List.length_nil]
      omega
theorem prsTo_len (f : Nat → Nat → Bool) (n : Nat) : ∀ i, (prsTo f n i).length ≤ i * n
  | 0 => by simp [prsTo]
  | i + 1 => by
    rw [prsTo_succ, List.length_append, Nat.succ_mul]
    have h := prsTo_len f n i
    have h2 := rowTo_len f i (n - (i + 1))
    omega
theorem sz_few {n : Nat} (h : n < 10000) : n < sizeLine := Nat.lt_of_lt_of_le h (by decide)
def nrF (bs : List Bk) (a b : Int) : Nat → Nat → Bool := fun i j => match bs[i]?, bs[j]? with
  | some p, some q => nr p q a b
  | _, _ => false
theorem nrF_at {bs : List Bk} {a b : Int} {i j : Nat} {p q : Bk} (hi : bs[i]? = some p) (hj : bs[j]? = some q) : nrF bs a b i j = nr p q a b := by
  unfold nrF
  rw [hi, hj]
theorem yes2 {σ : L2.St} {H : Hp} {A B : Hp → Prop} (h : A H) : tYes σ H fun b H3 => if b = true then A H3 else B H3 := by
  show (if (true : Bool) = true then A H else B H)
  rw [if_pos rfl]
  exact h
/-- a loop over a range: what its turn asks is left open (B) -/
theorem it_range {lo : Int} {n : Nat} {H1 : Hp} {Q : Hp → Prop} {B : V → Hp → (Hp → Prop) → Prop} (Pv : Nat → Hp → Prop) (h0 : Pv 0 H1) (hs : ∀ i H, i < n → Pv i H → B (.int (lo + i)) H (Pv (i + 1))) (hd : ∀ H, Pv n H → Q H) :
    ∃ W : Nat → Nat → Hp → Prop, (∃ m, W 0 m H1) ∧ ∀ i m H, W i m H →
      ((Itr lo n).stop i H ∧ Q H) ∨ ((Itr lo n).go i H ∧ ∃ Nx : Hp → Prop, (∀ H', Nx H' → ∃ m', m' < m ∧ W (i + 1) m' H') ∧ ∀ x H', (Itr lo n).yld i H x H' → B x H' Nx) := by
  refine ⟨fun i m H => m = n - i ∧ i ≤ n ∧ Pv i H, ⟨n, by simp, Nat.zero_le _, h0⟩, fun i m H hW => ?_⟩
  obtain ⟨rfl, hi, p⟩ := hW
  by_cases hlt : i < n
  · refine .inr ⟨hlt, Pv (i + 1), fun H' p' => ⟨n - (i + 1), by omega, rfl, hlt, p'⟩, fun x H' y => ?_⟩
    obtain ⟨e, z⟩ := y
    rw [e, z]
    exact hs i H hlt p
  · have e : i = n := by omega
    rw [e] at p
    exact .inl ⟨Nat.le_of_not_lt hlt, hd H p⟩
/-- a loop over a list that stays -/
theorem it_list {K : PySem.W.Frag} {a : Addr} {xs : List V} {H1 : Hp} {Q : Hp → Prop} {B : V → Hp → (Hp → Prop) → Prop} (Pv : Nat → Hp → Prop) (h0 : Pv 0 H1) (hl : ∀ i H, Pv i H → SqL K H a xs)
    (hs : ∀ i x H, xs[i]? = some x → Pv i H → B x H (Pv (i + 1))) (hd : ∀ H, Pv xs.length H → Q H) :
    ∃ W : Nat → Nat → Hp → Prop, (∃ m, W 0 m H1) ∧ ∀ i m H, W i m H →
      ((Itl K a).stop i H ∧ Q H) ∨ ((Itl K a).go i H ∧ ∃ Nx : Hp → Prop, (∀ H', Nx H' → ∃ m', m' < m ∧ W (i + 1) m' H') ∧ ∀ x H', (Itl K a).yld i H x H' → B x H' Nx) := by
  refine ⟨fun i m H => m = xs.length - i ∧ i ≤ xs.length ∧ Pv i H, ⟨xs.length, by simp, Nat.zero_le _, h0⟩, fun i m H hW => ?_⟩
  obtain ⟨rfl, hi, p⟩ := hW
  have q := hl i H p
  by_cases hlt : i < xs.length
  · refine .inr ⟨⟨xs, xs[i], q, by simp [hlt]⟩, Pv (i + 1), fun H' p' => ⟨xs.length - (i + 1), by omega, rfl, hlt, p'⟩, fun x H' y => ?_⟩
    obtain ⟨e, z⟩ := y
    rw [e]
    exact hs i x H (z xs q) p
  · have e : i = xs.length := by omega
    refine .inl ⟨⟨xs, q, Nat.le_of_not_lt hlt⟩, hd H ?_⟩
    rw [e] at p
    exact p
/-! ### promises -/
def spAreNear (C : Addr) : Sp := fun vs H Q _ => ∃ (m t : Addr) (i j : Nat) (a b : Int) (bs : List Bk) (p q : Bk), vs = [.ref m, .ref t, .int i, .int j] ∧ Dw C H m bs ∧ Bo H t a b ∧ bs[i]? = some p ∧ bs[j]? = some q ∧ ∀ H', Same H H' → Q (.bl (nr p q a b)) H'
def spAllNear (C : Addr) : Sp := fun vs H Q _ => ∃ (m t : Addr) (a b : Int) (bs : List Bk), vs = [.ref m, .ref t] ∧ Dw C H m bs ∧ Bo H t a b ∧ ∀ H' z, Same H H' → H z = none → PrL H' z (prsTo (nrF bs a b) bs.length bs.length) → Q (.ref z) H'
def lnr (p q : Bk) : List V := [.int (max 1 (gx p q + 1)), .int (max 1 (gy p q + 1))]
def spLeast (C : Addr) : Sp := fun vs H Q _ => ∃ (m : Addr) (i j : Nat) (bs : List Bk) (p q : Bk), vs = [.ref m, .int i, .int j] ∧ Dw C H m bs ∧ bs[i]? = some p ∧ bs[j]? = some q ∧ ∀ H' z, Same H H' → H z = none → H' z = some (.tup (lnr p q)) → Q (.ref z) H'

/-! F -/
/-- what becomes of two indexes: refused, one block twice, or two blocks -/
def PC (n : Nat) (x y : V) (EI EP : Prop) (G : Nat → Nat → Prop) : Prop :=
  (isIx n x = false → EI) ∧ (isIx n x = true → isIx n y = false → EI) ∧ ∀ i j : Nat, x = .int i → y = .int j → i < n → j < n → (i ≠ j → G i j) ∧ (i = j → EP)
/-- in the words of check_pair -/
theorem PC.three {n : Nat} {x y : V} {EI EP GG : Prop} {G : Nat → Nat → Prop} (h : PC n x y EI EP G) (f : ∀ i j : Nat, x = .int i → y = .int j → i < n → j < n → i ≠ j → G i j → GG) :
    (isIx n x = false → EI) ∧ (isIx n x = true → isIx n y = false → EI) ∧ (∀ i j : Int, x = .int i → y = .int j → isIx n x = true → isIx n y = true → (i ≠ j → GG) ∧ (i = j → EP)) := by
  refine ⟨h.1, h.2.1, fun i j hx hy e1 e2 => ?_⟩
  subst hx hy
  obtain ⟨a1, a2⟩ := ix_ok e1
  obtain ⟨b1, b2⟩ := ix_ok e2
  obtain ⟨i', rfl⟩ := Int.eq_ofNat_of_zero_le a1
  obtain ⟨j', rfl⟩ := Int.eq_ofNat_of_zero_le b1
  obtain ⟨c1, c2⟩ := h.2.2 i' j' rfl rfl (by omega) (by omega)
  exact ⟨fun z => f i' j' rfl rfl (by omega) (by omega) (fun w => z (by rw [w])) (c1 fun w => z (by rw [w])), fun z => c2 (by omega)⟩
def spGap (C XD XI XP : Addr) : Sp := fun vs H Q E => ∃ (m : Addr) (x y : V) (n n' : String) (bs : List Bk), vs = [.ref m, x, y] ∧ Dw C H m bs ∧ Kn H x n ∧ Kn H y n' ∧
  PC bs.length x y (E (.ref XI) none H) (E (.ref XP) none H) fun i j => ∃ p q, bs[i]? = some p ∧ bs[j]? = some q ∧ ∀ z, H z = none → Q (.ref z) (upd H z (.tup [.int (gx p q), .int (gy p q)]))
def spFrom (C XD XI XP : Addr) : Sp := fun vs H Q E => ∃ (m : Addr) (x y : V) (n n' : String) (bs : List Bk), vs = [.ref m, x, y] ∧ Dw C H m bs ∧ Kn H x n ∧ Kn H y n' ∧
  PC bs.length x y (E (.ref XI) none H) (E (.ref XP) none H) fun i j => ∃ p q, bs[i]? = some p ∧ bs[j]? = some q ∧ ∀ H' z, Same H H' → H z = none → H' z = some (.tup (lnr p q)) → Q (.ref z) H'
def spNear (C XB XI XP : Addr) : Sp := fun vs H Q E => ∃ (m t : Addr) (a b : Int) (x y : V) (n n' : String) (bs : List Bk), vs = [.ref m, .ref t, x, y] ∧ Dw C H m bs ∧ Bo H t a b ∧ Kn H x n ∧ Kn H y n' ∧
  (¬ (1 ≤ a ∧ 1 ≤ b) → E (.ref XB) none H) ∧ (1 ≤ a ∧ 1 ≤ b → PC bs.length x y (E (.ref XI) none H) (E (.ref XP) none H) fun i j => ∃ p q, bs[i]? = some p ∧ bs[j]? = some q ∧ ∀ H', Same H H' → Q (.bl (nr p q a b)) H')
def spPairs (C XD : Addr) : Sp := fun vs H Q E => ∃ (m t : Addr) (a b : Int), vs = [.ref m, .ref t] ∧ Bo H t a b ∧
  ((∃ bs, Dw C H m bs ∧ 1 ≤ a ∧ 1 ≤ b ∧ ∀ H' z, Same H H' → H z = none → PrL H' z (prsTo (nrF bs a b) bs.length bs.length) → Q (.ref z) H') ∨ ((∃ xs, H m = some (.lst xs)) ∧ E (.ref XD) none H))
theorem Dw.ins {C : Addr} {H : Hp} {m : Addr} {bs : List Bk} (h : Dw C H m bs) : ∃ dx fs, H m = some (.ins C dx fs) := by
  obtain ⟨dx, t, rs, h1, _⟩ := h
  exact ⟨dx, _, h1⟩

/-! G -/
/-- a loop over a tuple that stays -/
theorem it_tup {K : PySem.W.Frag} {a : Addr} {xs : List V} {H1 : Hp} {Q : Hp → Prop} {B : V → Hp → (Hp → Prop) → Prop} (Pv : Nat → Hp → Prop) (h0 : Pv 0 H1) (hl : ∀ i H, Pv i H → SqT K H a xs)
    (hs : ∀ i x H, xs[i]? = some x → Pv i H → B x H (Pv (i + 1))) (hd : ∀ H, Pv xs.length H → Q H) :
    ∃ W : Nat → Nat → Hp → Prop, (∃ m, W 0 m H1) ∧ ∀ i m H, W i m H →
      ((Itt K a).stop i H ∧ Q H) ∨ ((Itt K a).go i H ∧ ∃ Nx : Hp → Prop, (∀ H', Nx H' → ∃ m', m' < m ∧ W (i + 1) m' H') ∧ ∀ x H', (Itt K a).yld i H x H' → B x H' Nx) := by
  refine ⟨fun i m H => m = xs.length - i ∧ i ≤ xs.length ∧ Pv i H, ⟨xs.length, by simp, Nat.zero_le _, h0⟩, fun i m H hW => ?_⟩
  obtain ⟨rfl, hi, p⟩ := hW
  have q := hl i H p
  by_cases hlt : i < xs.length
  · refine .inr ⟨⟨xs, xs[i], q, by simp [hlt]⟩, Pv (i + 1), fun H' p' => ⟨xs.length - (i + 1), by omega, rfl, hlt, p'⟩, fun x H' y => ?_⟩
    obtain ⟨e, z⟩ := y
    rw [e]
    exact hs i x H (z xs q) p
  · have e : i = xs.length := by omega
    refine .inl ⟨⟨xs, q, Nat.le_of_not_lt hlt⟩, hd H ?_⟩
    rw [e] at p
    exact p
theorem rep_snoc (n : Nat) (b : Bool) : (List.replicate n b).map V.bl ++ [V.bl b] = (List.replicate (n + 1) b).map V.bl := by
  rw [List.replicate_succ', List.map_append]
  rfl
/-- one truth more in a list that is ours alone -/
theorem more_true {H H3 H4 : Hp} {D : Addr} {i : Nat} {b : Bool} (hD0 : H D = none) (S3 : Same H H3) (e3 : H3 D = some (.lst ((List.replicate i b).map V.bl))) (S4 : Same H3 H4) :
    H4 D = some (.lst ((List.replicate i b).map V.bl)) ∧ Same H (upd H4 D (.lst ((List.replicate i b).map V.bl ++ [.bl b]))) ∧ upd H4 D (.lst ((List.replicate i b).map V.bl ++ [.bl b])) D = some (.lst ((List.replicate (i + 1) b).map V.bl)) := by
  refine ⟨S4 _ _ e3, fun c o e => ?_, ?_⟩
  · have nb : c ≠ D := fun q => by
      rw [q, hD0] at e
      cases e
    rw [upd_ne nb]
    exact S4 _ _ (S3 _ _ e)
  · rw [upd_same, rep_snoc]
theorem all_rep (n : Nat) : (List.replicate n true).all id = true := by
  induction n with
  | zero => rfl
  | succ n ih => rw [List.replicate_succ, List.all_cons, ih] <;> rfl
def Bk.ok (b : Bk) : Prop := b.l < b.r ∧ b.d < b.u
theorem pd_perm {α β : Type} {F : α → β → Prop} : ∀ {as' as : List α}, as'.Perm as → ∀ {bs : List β}, Paired F as bs → ∃ bs', Paired F as' bs' ∧ bs'.Perm bs := by
  intro as' as p
  induction p with
  | nil => exact fun h => ⟨_, h, .refl _⟩
  | cons x p ih =>
    intro bs h
    cases h with
    | cons r t =>
      obtain ⟨bs', h1, h2⟩ := ih t
      exact ⟨_ :: bs', .cons r h1, .cons _ h2⟩
  | swap x y l =>
    intro bs h
    cases h with
    | cons r t =>
      cases t with
      | cons r2 t2 => exact ⟨_, .cons r2 (.cons r t2), .swap ..⟩
  | trans p1 p2 ih1 ih2 =>
    intro bs h
    obtain ⟨b1, h1, q1⟩ := ih2 h
    obtain ⟨b2, h2, q2⟩ := ih1 h1
    exact ⟨b2, h2, q2.trans q1⟩
/-- what is told of each two of the one is told of the other -/
theorem pd_pairwise {α β : Type} {F : α → β → Prop} {R : α → α → Prop} {S : β → β → Prop} (hRS : ∀ a a' b b', F a b → F a' b' → R a a' → S b b') : ∀ {as : List α} {bs : List β}, Paired F as bs → as.Pairwise R → bs.Pairwise S
  | _, _, .nil, _ => .nil
  | a :: as, b :: bs, .cons r t, h => by
    obtain ⟨h1, h2⟩ := List.pairwise_cons.mp h
    refine List.pairwise_cons.mpr ⟨fun b' hb => ?_, pd_pairwise hRS t h2⟩
    obtain ⟨i, hi⟩ := List.mem_iff_getElem?.mp hb
    obtain ⟨a', g, f⟩ := pd_get t hi
    exact hRS _ _ _ _ r f (h1 a' (List.mem_of_getElem? g))
theorem unref {ys : List V} {rs : List Addr} (h : ys.Perm (rs.map V.ref)) : ∃ rs' : List Addr, ys = rs'.map V.ref ∧ rs'.Perm rs := by
  have m : ∀ zs : List V, (∀ y ∈ zs, ∃ a, y = V.ref a) → ∃ rs' : List Addr, zs = rs'.map V.ref := by
    intro zs
    induction zs with
    | nil => exact fun _ => ⟨[], rfl⟩
    | cons y zs ih =>
      intro hy
      obtain ⟨a, rfl⟩ := hy y (List.mem_cons_self ..)
      obtain ⟨l, rfl⟩ := ih fun z hz => hy z (List.mem_cons_of_mem _ hz)
      exact ⟨a :: l, rfl⟩
  obtain ⟨rs', rfl⟩ := m ys fun y hy => by
    obtain ⟨a, _, e⟩ := List.mem_map.mp (h.mem_iff.mp hy)
    exact ⟨a, e.symm⟩
  refine ⟨rs', rfl, ?_⟩
  have h2 := h.map fun y : V => match y with
    | .ref a => a
    | _ => 0
  rw [List.map_map, List.map_map] at h2
  have e : ∀ l : List Addr, l.map ((fun y : V => match y with
    | .ref a => a
    | _ => 0) ∘ V.ref) = l := fun l => by
    induction l with
    | nil => rfl
    | cons x l ih => rw [List.map_cons, ih] <;> rfl
  rw [e, e] at h2
  exact h2
/-- ascending blocks -/
def Asc (bs : List Bk) : Prop := bs.Pairwise fun a b => HT.lexLt b.n a.n = false
theorem v_int_inj : ∀ {ns ms : List Int}, ns.map V.int = ms.map V.int → ns = ms
  | [], [], _ => rfl
  | [], _ :: _, h => by cases h
  | _ :: _, [], h => by cases h
  | n :: ns, m :: ms, h => by
    rw [List.map_cons, List.map_cons] at h
    injection h with h1 h2
    injection h1 with h3
    rw [h3, v_int_inj h2]
/-- what a tracked tuple may be read as -/
theorem sqT_tup {K : PySem.W.Frag} {H : Hp} {t : Addr} {xs ys : List V} (hk : K.lookup t = none) (h : H t = some (.tup xs)) (q : SqT K H t ys) : ys = xs := by
  rcases q with (q | ⟨o, q⟩) | q
  · rw [h] at q
    cases q
    rfl
  · rw [h] at q
    cases q
  · obtain ⟨o, its, n, e, _⟩ := q
    rw [hk] at e
    cases e

/-! H -/
def spIsList : Sp := fun vs H Q _ => ∃ (l : Addr) (xs : List V), vs = [.ref l] ∧ H l = some (.lst xs) ∧ ∀ H', Same H H' → Q (.bl true) H'
def spIsBlock : Sp := fun vs H Q _ => ∃ (r : Addr) (b : Bk), vs = [.ref r] ∧ H r = some (.tup b.v) ∧ b.ok ∧ ∀ H', Same H H' → Q (.bl true) H'
def spAreBlocks : Sp := fun vs H Q _ => ∃ (l : Addr) (rs : List Addr) (bs : List Bk), vs = [.ref l] ∧ H l = some (.lst (rs.map V.ref)) ∧ Bks H rs bs ∧ (∀ b ∈ bs, b.ok) ∧ bs.Nodup ∧ bs.length ≤ 12 ∧ ∀ H', Same H H' → Q (.bl true) H'
def spInit (C : Addr) : Sp := fun vs H Q _ => ∃ (m l dx : Addr) (rs : List Addr) (bs : List Bk), vs = [.ref m, .ref l] ∧ H m = some (.ins C dx []) ∧ H l = some (.lst (rs.map V.ref)) ∧ Bks H rs bs ∧ (∀ b ∈ bs, b.ok) ∧ bs.Nodup ∧ bs.length ≤ 12 ∧
  ∀ H' bs', (∀ b o, b ≠ m → H b = some o → H' b = some o) → Dw C H' m bs' → bs'.Perm bs → Asc bs' → Q .non H'
theorem pd_all {α β : Type} {F : α → β → Prop} {G : α → Prop} : ∀ {as : List α} {bs : List β}, Paired F as bs → (∀ a b, F a b → b ∈ bs → G a) → ∀ a ∈ as, G a
  | _, _, .nil, _, a, h => absurd h (by simp)
  | _, _, .cons r t, f, a, h => by
    rcases List.mem_cons.mp h with e | h
    · rw [e]
      exact f _ _ r (List.mem_cons_self ..)
    · exact pd_all t (fun x y g m => f x y g (List.mem_cons_of_mem _ m)) a h
theorem pd_at {α β : Type} {F : α → β → Prop} : ∀ {as : List α} {bs : List β} {i : Nat} {a : α}, Paired F as bs → as[i]? = some a → ∃ b, bs[i]? = some b ∧ F a b
  | _, _, _, _, .nil, h => by simp at h
  | _, _, 0, _, .cons r _, h => ⟨_, rfl, by cases h; exact r⟩
  | _, _, i + 1, _, .cons _ t, h => pd_at (i := i) t h
theorem at_map {α : Type} {f : α → V} {l : List α} {i : Nat} {x : V} (h : (l.map f)[i]? = some x) : ∃ y, l[i]? = some y ∧ x = f y := by
  rw [List.getElem?_map] at h
  cases e : l[i]? with
  | none =>
    rw [e] at h
    cases h
  | some y =>
    rw [e] at h
    exact ⟨y, rfl, (Option.some.inj h).symm⟩
/-- the two lists as one of pairs -/
theorem pd_zip {F : Addr → Bk → Prop} : ∀ {rs : List Addr} {bs : List Bk}, Paired F rs bs → ((rs.zip (bs.map Bk.n)).map (fun p => V.ref p.1) = rs.map V.ref ∧ (rs.zip (bs.map Bk.n)).map (·.2) = bs.map Bk.n)
  | _, _, .nil => ⟨rfl, rfl⟩
  | _, _, .cons r t => by
    obtain ⟨h1, h2⟩ := pd_zip t
    exact ⟨by rw [List.map_cons, List.zip_cons_cons, List.map_cons, List.map_cons, h1], by rw [List.map_cons, List.zip_cons_cons, List.map_cons, h2]⟩
theorem pd_zip_mem {F : Addr → Bk → Prop} : ∀ {rs : List Addr} {bs : List Bk}, Paired F rs bs → ∀ p ∈ rs.zip (bs.map Bk.n), ∃ b, b ∈ bs ∧ p.2 = b.n ∧ F p.1 b
  | _, _, .nil, p, h => absurd h (by simp)
  | _, _, .cons (a := _) (b := _) r t, p, h => by
    rw [List.map_cons, List.zip_cons_cons] at h
    rcases List.mem_cons.mp h with e | h
    · exact ⟨_, List.mem_cons_self .., by rw [e], by rw [e]; exact r⟩
    · obtain ⟨b, m, e, f⟩ := pd_zip_mem t p h
      exact ⟨b, List.mem_cons_of_mem _ m, e, f⟩
theorem nodup_n : ∀ {bs : List Bk}, bs.Nodup → (bs.map Bk.n).Nodup
  | [], _ => .nil
  | b :: bs, h => by
    obtain ⟨h1, h2⟩ := List.nodup_cons.mp h
    rw [List.map_cons]
    refine List.nodup_cons.mpr ⟨fun z => ?_, nodup_n h2⟩
    obtain ⟨c, hc, e⟩ := List.mem_map.mp z
    exact h1 (by rw [← Bk.n_inj e]; exact hc)

/-! J -/
/-! ### the draws -/
abbrev drK (g c : Addr) (n t : Int) : List (Key × V) := [(.inr "great", .ref g), (.inr "cells", .ref c), (.inr "left", .int n), (.inr "turn", .int t)]
/-- a dict of draws stands at d -/
def Dr (H : Hp) (d g c : Addr) (t : Int) : Prop := ∃ (gs cs : List Int) (n : Int), H d = some (.dK (drK g c n t)) ∧ H g = some (.lst (gs.map V.int)) ∧ H c = some (.lst (cs.map V.int)) ∧ g ≠ c ∧
  (∀ x ∈ gs, 0 ≤ x) ∧ (∀ x ∈ cs, 0 ≤ x ∧ x < 2147483629) ∧ 0 ≤ n ∧ 0 ≤ t
/-- what a draw leaves as it was -/
def Fr (d g : Addr) (H H' : Hp) : Prop := ∀ b o, b ≠ d → b ≠ g → H b = some o → H' b = some o
theorem Fr.refl (d g : Addr) (H : Hp) : Fr d g H H := fun _ _ _ _ h => h
theorem Fr.trans {d g : Addr} {H H1 H2 : Hp} (a : Fr d g H H1) (b : Fr d g H1 H2) : Fr d g H H2 := fun c o h1 h2 h => b c o h1 h2 (a c o h1 h2 h)
theorem Fr.of {d g : Addr} {H H' : Hp} (e : Same H H') : Fr d g H H' := fun b o _ _ h => e b o h
theorem val_great (g c : Addr) (n t : Int) : valV (drK g c n t) (.inr "great") = some (.ref g) := by rfl
theorem val_cells (g c : Addr) (n t : Int) : valV (drK g c n t) (.inr "cells") = some (.ref c) := by rfl
theorem val_left (g c : Addr) (n t : Int) : valV (drK g c n t) (.inr "left") = some (.int n) := by rfl
theorem val_turn (g c : Addr) (n t : Int) : valV (drK g c n t) (.inr "turn") = some (.int t) := by rfl
theorem put_left (g c : Addr) (n t m : Int) : putK (drK g c n t) (.inr "left") (.int m) = drK g c m t := by rfl
theorem put_turn (g c : Addr) (n t m : Int) : putK (drK g c n t) (.inr "turn") (.int m) = drK g c n m := by rfl
def spBegun (K : PySem.W.Frag) : Sp := fun vs H Q _ => ∃ (a : Addr) (ns : List Int), vs = [.ref a] ∧ SqL K H a (ns.map V.int) ∧ ns.length ≤ 63 ∧
  ∀ H' d g c, Same H H' → H d = none → H g = none → H c = none → Dr H' d g c 0 → Q (.ref d) H'
theorem pow18 : (10 : Int) ^ (18 : Int).toNat = 1000000000000000000 := by decide
/-- a list of our own, written -/
theorem own_w {H H3 H4 : Hp} {D : Addr} {o : HO} (hD0 : H D = none) (S3 : Same H H3) (S4 : Same H3 H4) : Same H (upd H4 D o) := fun c x e => by
  have nb : c ≠ D := fun q => by
    rw [q, hD0] at e
    cases e
  rw [upd_ne nb]
  exact S4 _ _ (S3 _ _ e)
theorem snoc_int (gs : List Int) (x : Int) : gs.map V.int ++ [V.int x] = (gs ++ [x]).map V.int := by
  rw [List.map_append]
  rfl
theorem nn_abs (z : Int) : 0 ≤ (if z < 0 then -z else z) := by
  by_cases h : z < 0
  · rw [if_pos h]
    omega
  · rw [if_neg h]
    omega

/-! behind _law_begun -/
theorem dg_great {H : Hp} {d g c : Addr} {n t : Int} (h : H d = some (.dK (drK g c n t))) : DGet H d (.str "great") (some (.ref g)) := by
  have q := DGet.k (k := .inr "great") h
  rw [val_great] at q
  exact q
theorem dg_cells {H : Hp} {d g c : Addr} {n t : Int} (h : H d = some (.dK (drK g c n t))) : DGet H d (.str "cells") (some (.ref c)) := by
  have q := DGet.k (k := .inr "cells") h
  rw [val_cells] at q
  exact q
theorem dg_left {H : Hp} {d g c : Addr} {n t : Int} (h : H d = some (.dK (drK g c n t))) : DGet H d (.str "left") (some (.int n)) := by
  have q := DGet.k (k := .inr "left") h
  rw [val_left] at q
  exact q
theorem dg_turn {H : Hp} {d g c : Addr} {n t : Int} (h : H d = some (.dK (drK g c n t))) : DGet H d (.str "turn") (some (.int t)) := by
  have q := DGet.k (k := .inr "turn") h
  rw [val_turn] at q
  exact q
theorem dp_left {H : Hp} {d g c : Addr} {n t : Int} (m : Int) (h : H d = some (.dK (drK g c n t))) : DPut H d (.str "left") (.int m) (upd H d (.dK (drK g c m t))) := by
  have q := DPut.k (k := .inr "left") (v := .int m) h (by show 4 < sizeLine; decide)
  rw [put_left] at q
  exact q
theorem dp_turn {H : Hp} {d g c : Addr} {n t : Int} (m : Int) (h : H d = some (.dK (drK g c n t))) : DPut H d (.str "turn") (.int m) (upd H d (.dK (drK g c n m))) := by
  have q := DPut.k (k := .inr "turn") (v := .int m) h (by show 4 < sizeLine; decide)
  rw [put_turn] at q
  exact q
/-! ### one more long number -/
def spMixed : Sp := fun vs H Q _ => ∃ (d g c : Addr) (t : Int), vs = [.ref d] ∧ Dr H d g c t ∧ t ≤ 1000000000000 ∧ ∀ H' n, 0 ≤ n → Fr d g H H' → Dr H' d g c (t + 1) → Q (.int n) H'
/-! K -/
def spTake : Sp := fun vs H Q _ => ∃ (d g c : Addr) (t m : Int), vs = [.ref d, .int m] ∧ Dr H d g c t ∧ t ≤ 1000000000000 ∧ 0 < m ∧ m < 1000000000 ∧ ∀ H' r t', 0 ≤ r → r < m → t' ≤ t + 1 → Fr d g H H' → Dr H' d g c t' → Q (.int r) H'
/-- some(xs) of what was drawn -/
def spPick : Sp := fun vs H Q _ => ∃ (d g c l : Addr) (t : Int) (xs : List V), vs = [.ref d, .ref l] ∧ Dr H d g c t ∧ t ≤ 1000000000000 ∧ l ≠ g ∧ H l = some (.lst xs) ∧ xs ≠ [] ∧ xs.length < 1000000 ∧ ∀ H' x t', x ∈ xs → t' ≤ t + 1 → Fr d g H H' → Dr H' d g c t' → Q x H'
/-- another heap in which the draws stand as they stood -/
theorem Dr.grow {H H' : Hp} {d g c : Addr} {t : Int} (h : Dr H d g c t) (e : Same H H') : Dr H' d g c t := by
  obtain ⟨gs, cs, n, a1, a2, a3, r⟩ := h
  exact ⟨gs, cs, n, e _ _ a1, e _ _ a2, e _ _ a3, r⟩
theorem seq_at {j n : Nat} (h : j < n) : seqIndex? (j : Int) n = some j := by
  unfold seqIndex?
  simp
  omega

/-! L -/
/-! ### an error caught and told -/
theorem takes_len {X : Cx} {W : WX} (t : Takes X W) : Takes X (fun cls d σ H => σ.length = X.N.length → W cls d σ H) := fun u s' z => by
  obtain ⟨a, B, sI, pins, σ, H, cls, d, e, I, nb, up, sky, na, os, ag, w⟩ := z
  exact t u s' ⟨a, B, sI, pins, σ, H, cls, d, e, I, nb, up, sky, na, os, ag, w I.len⟩
def TTc (K : PySem.W.Frag) (CS : Addr) : (XK → Hp → VK → Prop) → Hp → VK → Prop := fun tl H Q =>
  tl (fun cls d H' => d = none ∧ PySem.W.exmOne K cls (.ref CS) = some true ∧ ∀ a, H' a = none → Q (.ref a) (upd H' a (GS.ExT cls a))) H (fun _ H' => ∃ v, (some (some V.non) : Option (Option V)) = some (some v) ∧ Q v H')
/-- isinstance(e, C), e a kept exception -/
def rIsT (K : PySem.W.Frag) : List V → Hp → VK → Prop := fun xs H Q => ∃ (a D C : Addr) (b : Bool), xs = [.ref a, .ref C] ∧ ExcC K D ∧ H a = some (GS.ExT (.ref D) a) ∧ PySem.W.kitOne K (.ref D) (.ref C) = some b ∧ Q (.bl b) H
theorem call_isT {X : Cx} : CallR X (.builtin "isinstance") (rIsT X.K) := by
  intro pins s σ H xs us Q I r h
  obtain ⟨a, D, C, b, rfl, Z, ha, e, q⟩ := h
  obtain ⟨u1, u2, rfl, r1, r2⟩ := vals2 r
  cases r1
  cases r2
  obtain ⟨⟨ob, us, eob, zob, dob⟩, _, _⟩ := I.hok a _ ha
  have J : PySem.W.InstAt s.heap a ob D none := by
    obtain ⟨oc, od, odt, osl⟩ := ob
    obtain ⟨h1, h2⟩ := zob
    dsimp only at h1 h2 dob
    subst h1 h2 dob
    exact ⟨eob, rfl, rfl, trivial⟩
  exact PySem.W.kia_one (PySem.W.handS_kitx_exc Z.hg Z.hk Z.hs Z.hd Z.ha Z.hn Z.ht Z.hm) I.kIn J e (fun z => nomatch z) fun tk => ⟨.bl b, H, I.tok tk, rfl, q⟩
theorem caught_gives {X : Cx} {q : Str} {g CS : Addr} {cdg : Value} (hme : X.mg "GapError" = some (.ref CS)) :
    LamX.GivesTo X N_l_caught "_law_caught" (defScope S_l_caught) g cdg (defBody S_l_caught) "task" q (TTc X.K CS) := by
  intro f c' s H Q tl act hc h
  refine ⟨_, pss_cons (ps_set (i := 1) c_l_caught.nd rfl (Or.inl rfl) pe_non) (pss_cons (GS.ps_try_keep (i := 2) (j := 1) (c := .ref CS)
      (tb := fun W D σ H => ∃ Ech : XK, (∀ cls d σ' H', Ech cls d H' → σ'.length = 3 → W cls d σ' H') ∧ σ[0]? = some (some (.ref f)) ∧ H c' = some (LamX.CodeO c' q) ∧ tl Ech H (fun _ H' => D.nx σ H'))
      rfl rfl rfl c_l_caught.nd rfl rfl rfl rfl (by decide) (by decide) ⟨by rfl, by decide, .inl hme⟩ (by rfl) (fun W pn xe tk _ => ?_)) (pss_one (ps_ret (pv 1)))), ?_⟩
  · refine ⟨fun pins s' σ H' D I h' => ?_⟩
    obtain ⟨Ech, hW, h1, h2, h3⟩ := h'
    exact (pss_one (ps_expr (act (fun cls d σ H => σ.length = 3 → W cls d σ H) pn xe Ech _ _ (takes_len tk) hW))).run pins s' σ H' D I ⟨h1, h2, h3⟩
  · refine ⟨fun cls d H' => d = none ∧ PySem.W.exmOne X.K cls (.ref CS) = some true ∧ ∀ a, H' a = none → Q (.ref a) (upd H' a (GS.ExT cls a)), fun cls d σ' H' hE hl => ⟨hE.1, hE.2.1, fun a ha => ?_⟩, rfl, hc, h⟩
    refine ⟨.ref a, ?_, hE.2.2 a ha⟩
    match σ', hl with
    | [_, _, _], _ => rfl

/-! M -/
def spSays : Sp := fun vs H Q _ => ∃ b c : Bool, vs = [.bl b, .bl c] ∧ Q (.bl (b == c)) H
def spNumbers : Sp := fun vs H Q _ => ∃ (z : Addr) (x y : Int), vs = [.ref z, .int 2] ∧ Bo H z x y ∧ ∀ H', Same H H' → Q (.bl true) H'
/-- the law's list of blocks -/
def Bl (H : Hp) (l : Addr) (bs : List Bk) : Prop := ∃ rs : List Addr, H l = some (.lst (rs.map V.ref)) ∧ Bks H rs bs
theorem Bl.same {H H' : Hp} {l : Addr} {bs : List Bk} (e : Same H H') (h : Bl H l bs) : Bl H' l bs := by
  obtain ⟨rs, h1, h2⟩ := h
  exact ⟨rs, e _ _ h1, pd_imp h2 fun _ _ => e _ _⟩
def spDue : Sp := fun vs H Q _ => ∃ (l : Addr) (i j : Nat) (bs : List Bk) (p q : Bk), vs = [.ref l, .int i, .int j] ∧ Bl H l bs ∧ bs[i]? = some p ∧ bs[j]? = some q ∧ ∀ H' z, Same H H' → H z = none → Bo H' z (gx p q) (gy p q) → Q (.ref z) H'
def spLNear : Sp := fun vs H Q _ => ∃ (l t : Addr) (i j : Nat) (a b : Int) (bs : List Bk) (p q : Bk), vs = [.ref l, .ref t, .int i, .int j] ∧ Bl H l bs ∧ bs[i]? = some p ∧ bs[j]? = some q ∧ p.ok ∧ q.ok ∧ Bo H t a b ∧ 1 ≤ a ∧ 1 ≤ b ∧ Q (.bl (nr p q a b)) H
theorem nr_iff {p q : Bk} {a b : Int} (hp : p.ok) (hq : q.ok) (ha : 1 ≤ a) (hb : 1 ≤ b) : nr p q a b = (!decide (min p.r q.r ≤ max p.l q.l - a) && !decide (min p.u q.u ≤ max p.d q.d - b)) := by
  obtain ⟨p1, p2⟩ := hp
  obtain ⟨q1, q2⟩ := hq
  unfold nr gx gy
  rw [← decide_not, ← decide_not]
  have e1 : (max (q.l - p.r) (p.l - q.r) < a) = ¬ (min p.r q.r ≤ max p.l q.l - a) := propext (by omega)
  have e2 : (max (q.d - p.u) (p.d - q.u) < b) = ¬ (min p.u q.u ≤ max p.d q.d - b) := propext (by omega)
  simp only [e1, e2]
theorem min_if (i j : Int) : (if j < i then j else i) = min i j := by
  by_cases h : j < i
  · rw [if_pos h]
    omega
  · rw [if_neg h]
    omega

/-! N -/
def spLPairs : Sp := fun vs H Q _ => ∃ (l t : Addr) (a b : Int) (bs : List Bk), vs = [.ref l, .ref t] ∧ Bl H l bs ∧ (∀ x ∈ bs, x.ok) ∧ bs.length ≤ 12 ∧ Bo H t a b ∧ 1 ≤ a ∧ 1 ≤ b ∧ ∀ H' z, Same H H' → H z = none → PrL H' z (prsTo (nrF bs a b) bs.length bs.length) → Q (.ref z) H'
def spLLeast : Sp := fun vs H Q _ => ∃ (l z : Addr) (i j : Nat) (bs : List Bk) (p q : Bk), vs = [.ref l, .int i, .int j, .ref z] ∧ Bl H l bs ∧ bs[i]? = some p ∧ bs[j]? = some q ∧ p.ok ∧ q.ok ∧ H z = some (.tup (lnr p q)) ∧ ∀ H', Same H H' → Q (.bl true) H'
theorem Bl.len {H : Hp} {l : Addr} {bs : List Bk} (h : Bl H l bs) : ∃ rs : List Addr, H l = some (.lst (rs.map V.ref)) ∧ (rs.map V.ref).length = bs.length := by
  obtain ⟨rs, h1, h2⟩ := h
  exact ⟨rs, h1, by rw [List.length_map, pd_len h2]⟩
theorem PrL.same {H H' : Hp} {z : Addr} {ps : List (Int × Int)} (e : Same H H') (h : PrL H z ps) : PrL H' z ps := by
  obtain ⟨as, h1, h2⟩ := h
  exact ⟨as, e _ _ h1, pd_imp h2 fun _ _ => e _ _⟩
/-- a pair more in a list D of our own -/
theorem pr_more {H H3 : Hp} {D z : Addr} {ps : List (Int × Int)} {x y : Int} (hD0 : H D = none) (S3 : Same H H3) (hP : PrL H3 D ps) (hz : H3 z = none) :
    ∃ acc : List V, upd H3 z (.tup [.int x, .int y]) D = some (.lst acc) ∧ acc.length = ps.length ∧ Same H (upd (upd H3 z (.tup [.int x, .int y])) D (.lst (acc ++ [.ref z]))) ∧ PrL (upd (upd H3 z (.tup [.int x, .int y])) D (.lst (acc ++ [.ref z]))) D (ps ++ [(x, y)]) := by
  obtain ⟨as, h1, h2⟩ := hP
  have nD : D ≠ z := ne_of_none h1 hz
  refine ⟨as.map V.ref, by rw [upd_ne nD]; exact h1, by rw [List.length_map, pd_len h2], own_w hD0 S3 (same_new hz), as ++ [z], ?_, ?_⟩
  · rw [upd_same, List.map_append]
    rfl
  · refine pd_app (pd_imp h2 fun r p e => ?_) (.cons ?_ .nil)
    · have nb : r ≠ D := ne_of e h1 (by intro q; cases q)
      rw [upd_ne nb, upd_ne (ne_of_none e hz)]
      exact e
    · rw [upd_ne nD.symm, upd_same]

/-! O -/
/-- all in a new list, in some order -/
def spShuf : Sp := fun vs H Q _ => ∃ (d g c l : Addr) (t : Int) (xs : List V), vs = [.ref d, .ref l] ∧ Dr H d g c t ∧ t ≤ 900000000000 ∧ l ≠ g ∧ H l = some (.lst xs) ∧ xs.length ≤ 100 ∧
  ∀ H' z ys t', ys.Perm xs → t' ≤ t + xs.length → H z = none → H' z = some (.lst ys) → Fr d g H H' → Dr H' d g c t' → Q (.ref z) H'
def spBlock : Sp := fun vs H Q _ => ∃ (d g c : Addr) (t m : Int), vs = [.ref d, .int m] ∧ Dr H d g c t ∧ t ≤ 900000000000 ∧ 0 < m ∧ m < 1000000000 ∧
  ∀ H' z b t', b.ok → t' ≤ t + 4 → H z = none → H' z = some (.tup (Bk.v b)) → Fr d g H H' → Dr H' d g c t' → Q (.ref z) H'
theorem Dr.dg {H : Hp} {d g c : Addr} {t : Int} (h : Dr H d g c t) : (∃ kvs, H d = some (.dK kvs)) ∧ (∃ xs, H g = some (.lst xs)) ∧ d ≠ g := by
  obtain ⟨gs, cs, n, h1, h2, _⟩ := h
  exact ⟨⟨_, h1⟩, ⟨_, h2⟩, ne_of h1 h2 (by intro q; cases q)⟩
/-- what is new is none of the draws' -/
theorem Dr.new {H : Hp} {d g c z : Addr} {t : Int} (h : Dr H d g c t) (hz : H z = none) : z ≠ d ∧ z ≠ g := by
  obtain ⟨⟨_, h1⟩, ⟨_, h2⟩, _⟩ := h.dg
  refine ⟨fun e => ?_, fun e => ?_⟩
  · rw [e, h1] at hz
    cases hz
  · rw [e, h2] at hz
    cases hz
theorem Fr.tup {d g c : Addr} {t : Int} {H H' : Hp} (h : Dr H d g c t) (f : Fr d g H H') {b : Addr} {xs : List V} (e : H b = some (.tup xs)) : H' b = some (.tup xs) := by
  obtain ⟨⟨_, h1⟩, ⟨_, h2⟩, _⟩ := h.dg
  exact f b _ (ne_of e h1 (by intro q; cases q)) (ne_of e h2 (by intro q; cases q)) e
/-- fresh behind, fresh ahead -/
theorem Fr.free {d g c z : Addr} {t : Int} {H H' : Hp} (h : Dr H d g c t) (h' : Dr H' d g c t') (f : Fr d g H H') (hz : H' z = none) : H z = none := by
  obtain ⟨n1, n2⟩ := h'.new hz
  cases e : H z with
  | none => rfl
  | some o =>
    rw [f z o n1 n2 e] at hz
    cases hz
/-- a list of our own written: the draws stand -/
theorem Dr.own {H H3 : Hp} {d g c z : Addr} {t t3 : Int} {o : HO} (h : Dr H d g c t) (h3 : Dr H3 d g c t3) (hz : H z = none) (hzc : H3 c ≠ none → z ≠ c) : Dr (upd H3 z o) d g c t3 := by
  obtain ⟨gs, cs, n, h1, h2, hc, r⟩ := h3
  obtain ⟨n1, n2⟩ := h.new hz
  have n3 : z ≠ c := hzc (by rw [hc]; exact fun q => nomatch q)
  exact ⟨gs, cs, n, by rw [upd_ne n1.symm]; exact h1, by rw [upd_ne n2.symm]; exact h2, by rw [upd_ne n3.symm]; exact hc, r⟩
theorem Dr.newc {H : Hp} {d g c z : Addr} {t : Int} (h : Dr H d g c t) (hz : H z = none) : z ≠ c := by
  obtain ⟨gs, cs, n, h1, h2, hc, r⟩ := h
  exact fun e => by
    rw [e, hc] at hz
    cases hz
theorem Fr.own {H H3 : Hp} {d g z : Addr} {o : HO} (hz : H z = none) (f : Fr d g H H3) : Fr d g H (upd H3 z o) := fun b x h1 h2 e => by
  have nb : b ≠ z := fun q => by
    rw [q, hz] at e
    cases e
  rw [upd_ne nb]
  exact f b x h1 h2 e
theorem perm_pop {xs ls fs : List V} {k : Nat} {y : V} (h : (ls ++ fs).Perm xs) (hk : ls[k]? = some y) : (ls.eraseIdx k ++ (fs ++ [y])).Perm xs := by
  obtain ⟨hk2, rfl⟩ := List.getElem?_eq_some_iff.mp hk
  refine List.Perm.trans ?_ h
  rw [← List.append_assoc]
  refine (List.perm_append_singleton _ _).trans ?_
  rw [← List.cons_append]
  refine List.Perm.append_right _ ?_
  rw [List.eraseIdx_eq_take_drop_succ]
  have e : ls = ls.take k ++ ls[k] :: ls.drop (k + 1) := by
    rw [← List.drop_eq_getElem_cons hk2, List.take_append_drop]
  refine (List.perm_middle.symm).trans (List.Perm.of_eq e.symm)

/-! P -/
def spPen : Sp := fun vs H Q _ => ∃ (d g c : Addr) (t L W wd tl : Int), vs = [.ref d, .int L, .int W, .int wd, .int tl] ∧ Dr H d g c t ∧ t ≤ 800000000000 ∧ 1 ≤ wd ∧ 1 ≤ tl ∧
  ∀ H' z bs t', Bl H' z bs → bs.length = 4 → (∀ b ∈ bs, b.ok) → bs.Nodup → t' ≤ t + 6 → H z = none → Fr d g H H' → Dr H' d g c t' → Q (.ref z) H'
/-- the blocks of a list of our own, in the heap behind draws -/
theorem Bl.fr {d g c l : Addr} {t : Int} {H H' : Hp} {bs : List Bk} (hD : Dr H d g c t) (f : Fr d g H H') (h : Bl H l bs) (hl : l ≠ g) : Bl H' l bs := by
  obtain ⟨rs, h1, h2⟩ := h
  obtain ⟨⟨_, e1⟩, _, _⟩ := hD.dg
  exact ⟨rs, f l _ (ne_of h1 e1 (by intro q; cases q)) hl h1, pd_imp h2 fun _ _ e => f.tup hD e⟩
theorem Fr.bo {d g c p : Addr} {t a b : Int} {H H' : Hp} (hD : Dr H d g c t) (f : Fr d g H H') (h : Bo H p a b) : Bo H' p a b := f.tup hD h

/-! Q -/
/-- a dict that tells f of the ints ns -/
def Tab (H : Hp) (A : Addr) (f : Int → Int) (ns : List Int) : Prop := ∃ kvs : List (Key × V), H A = some (.dK kvs) ∧ ∀ n ∈ ns, valV kvs (.inl n) = some (.int (f n))
theorem Tab.get {H : Hp} {A : Addr} {f : Int → Int} {ns : List Int} {n : Int} (h : Tab H A f ns) (hn : n ∈ ns) : DGet H A (.int n) (some (.int (f n))) := by
  obtain ⟨kvs, h1, h2⟩ := h
  have q := DGet.k (k := .inl n) h1
  rw [h2 n hn] at q
  exact q
theorem Tab.same {H H' : Hp} {A : Addr} {f : Int → Int} {ns : List Int} (e : Same H H') (h : Tab H A f ns) : Tab H' A f ns := by
  obtain ⟨kvs, h1, h2⟩ := h
  exact ⟨kvs, e _ _ h1, h2⟩
def stB (fa fu : Int → Int) (b : Bk) : Bk := ⟨fa b.l, fu b.d, fa b.r, fu b.u⟩
def spStr : Sp := fun vs H Q _ => ∃ (l A U : Addr) (bs : List Bk) (fa fu : Int → Int) (xs ys : List Int), vs = [.ref l, .ref A, .ref U] ∧ Bl H l bs ∧ Tab H A fa xs ∧ Tab H U fu ys ∧ (∀ b ∈ bs, b.l ∈ xs ∧ b.r ∈ xs ∧ b.d ∈ ys ∧ b.u ∈ ys) ∧ bs.length ≤ 100 ∧
  ∀ H' z, Same H H' → H z = none → Bl H' z (bs.map (stB fa fu)) → Q (.ref z) H'
/-- a block more in a list D of our own -/
theorem bl_more {H H3 : Hp} {D z : Addr} {bs : List Bk} {b : Bk} (hD0 : H D = none) (S3 : Same H H3) (hP : Bl H3 D bs) (hz : H3 z = none) :
    ∃ acc : List V, upd H3 z (.tup b.v) D = some (.lst acc) ∧ acc.length = bs.length ∧ Same H (upd (upd H3 z (.tup b.v)) D (.lst (acc ++ [.ref z]))) ∧ Bl (upd (upd H3 z (.tup b.v)) D (.lst (acc ++ [.ref z]))) D (bs ++ [b]) := by
  obtain ⟨as, h1, h2⟩ := hP
  have nD : D ≠ z := ne_of_none h1 hz
  refine ⟨as.map V.ref, by rw [upd_ne nD]; exact h1, by rw [List.length_map, pd_len h2], own_w hD0 S3 (same_new hz), as ++ [z], ?_, ?_⟩
  · rw [upd_same, List.map_append]
    rfl
  · refine pd_app (pd_imp h2 fun r p e => ?_) (.cons ?_ .nil)
    · have nb : r ≠ D := ne_of e h1 (by intro q; cases q)
      rw [upd_ne nb, upd_ne (ne_of_none e hz)]
      exact e
    · rw [upd_ne nD.symm, upd_same]
/-- a table of what was given, strictly rising -/
def spTable (K : PySem.W.Frag) : Sp := fun vs H Q _ => ∃ (d g c l : Addr) (t : Int) (ns : List Int), vs = [.ref d, .ref l] ∧ Dr H d g c t ∧ t ≤ 700000000000 ∧ SqL K H l (ns.map V.int) ∧ l ≠ g ∧ ns.length < 60 ∧
  ∀ H' z t' f, t' ≤ t + 70 → H z = none → Tab H' z f ns → (∀ n ∈ ns, ∀ m ∈ ns, n < m → f n < f m) → Fr d g H H' → Dr H' d g c t' → Q (.ref z) H'
/-- for k, x in enumerate(xs) -/
theorem for_enumL {K : PySem.W.Frag} {a : Addr} {xs : List V} {g : TG} {tb : TS} {D : Ends} {σ : L2.St} {H : Hp} (Pv : Nat → L2.St → Hp → Prop) (h0 : Pv 0 σ H) (hl : ∀ i σ H, Pv i σ H → SqL K H a xs)
    (hs : ∀ i x T σ H, xs[i]? = some x → Pv i σ H → H T = none → g (.ref T) σ (upd H T (.tup [.int (i : Nat), x])) fun σ2 H2 => tb { D with nx := Pv (i + 1), ct := Pv (i + 1), bk := D.nx } σ2 H2) (hd : ∀ σ H, Pv xs.length σ H → D.nx σ H) :
    ∃ W : Nat → Nat → L2.St → Hp → Prop, (∃ m, W 0 m σ H) ∧ ∀ i m σ H, W i m σ H →
      ((Ite K a).stop i H ∧ D.nx σ H) ∨ ((Ite K a).go i H ∧ ∃ N : L2.St → Hp → Prop, (∀ σ' H', N σ' H' → ∃ m', m' < m ∧ W (i + 1) m' σ' H') ∧ ∀ x H', (Ite K a).yld i H x H' → g x σ H' fun σ2 H2 => tb { D with nx := N, ct := N, bk := D.nx } σ2 H2) := by
  refine ⟨fun i m σ H => m = xs.length - i ∧ i ≤ xs.length ∧ Pv i σ H, ⟨xs.length, by simp, Nat.zero_le _, h0⟩, fun i m σ H hW => ?_⟩
  obtain ⟨rfl, hi, p⟩ := hW
  have q := hl i σ H p
  by_cases hlt : i < xs.length
  · refine .inr ⟨⟨xs, xs[i], q, by simp [hlt]⟩, Pv (i + 1), fun σ' H' p' => ⟨xs.length - (i + 1), by omega, rfl, hlt, p'⟩, fun x H' y => ?_⟩
    obtain ⟨T, x', e1, e2, e3, e4⟩ := y
    rw [e1, e3]
    exact hs i x' T σ H (e4 xs q) p e2
  · have e : i = xs.length := by omega
    refine .inl ⟨⟨xs, q, Nat.le_of_not_lt hlt⟩, hd σ H ?_⟩
    rw [e] at p
    exact p
theorem take_lt {line : List Int} {i : Nat} {old : Int} (up : line.Pairwise (· < ·)) (hi : line[i]? = some old) : ∀ n ∈ line.take i, n < old := fun n hn => by
  obtain ⟨hi2, e⟩ := List.getElem?_eq_some_iff.mp hi
  obtain ⟨j, hj, ej⟩ := List.mem_take_iff_getElem.mp hn
  have z := List.pairwise_iff_getElem.mp up j i (by omega) hi2 (by omega)
  rw [e, ej] at z
  exact z
theorem tab_step {line : List Int} {i : Nat} {old v : Int} {kvs : List (Key × V)} {f : Int → Int} (up : line.Pairwise (· < ·)) (hi : line[i]? = some old) (h1 : ∀ n ∈ line.take i, valV kvs (.inl n) = some (.int (f n)))
    (h2 : ∀ n ∈ line.take i, ∀ m ∈ line.take i, n < m → f n < f m) (h3 : ∀ n ∈ line.take i, f n < v) :
    ∃ f' : Int → Int, (∀ n ∈ line.take (i + 1), valV (putK kvs (.inl old) (.int v)) (.inl n) = some (.int (f' n))) ∧ (∀ n ∈ line.take (i + 1), ∀ m ∈ line.take (i + 1), n < m → f' n < f' m) ∧ (∀ n ∈ line.take i, f' n = f n) ∧ f' old = v := by
  have lt := take_lt up hi
  have split_ : ∀ n ∈ line.take (i + 1), n ∈ line.take i ∨ n = old := fun n hn => by
    rw [List.take_add_one, hi] at hn
    rcases List.mem_append.mp hn with m | m
    · exact .inl m
    · exact .inr (List.mem_singleton.mp m)
  have e1 : ∀ n ∈ line.take i, (if n = old then v else f n) = f n := fun n hn => if_neg (by have := lt n hn; omega)
  refine ⟨fun n => if n = old then v else f n, fun n hn => ?_, fun n hn m hm hnm => ?_, e1, if_pos rfl⟩
  · show valV (putK kvs (.inl old) (.int v)) (.inl n) = some (.int (if n = old then v else f n))
    rw [valV_put]
    rcases split_ n hn with m | m
    · have ne : ¬ n = old := by have := lt n m; omega
      rw [if_neg (fun z : (Sum.inl n : Key) = Sum.inl old => ne (Sum.inl.inj z)), if_neg ne]
      exact h1 n m
    · subst m
      rw [if_pos rfl, if_pos rfl]
  · rcases split_ n hn with a | a <;> rcases split_ m hm with b | b
    · show (if n = old then v else f n) < (if m = old then v else f m)
      rw [e1 n a, e1 m b]
      exact h2 n a m b hnm
    · subst b
      show (if n = m then v else f n) < (if m = m then v else f m)
      rw [e1 n a, if_pos rfl]
      exact h3 n a
    · subst a
      have := lt m b
      omega
    · omega
theorem putK_le (kvs : List (Key × V)) (k : Key) (v : V) : (putK kvs k v).length ≤ kvs.length + 1 := by
  unfold putK
  split
  · rw [List.length_map]
    omega
  · rw [List.length_append]
    exact Nat.le_refl _
/-- what stands ahead of turn i of the table's loop -/
def TI (d g c l q A : Addr) (way fac t : Int) (line : List Int) (H : Hp) (i : Nat) (σ : L2.St) (H9 : Hp) : Prop := ∃ (here : Int) (x7 x8 : Option V) (kvs : List (Key × V)) (f : Int → Int) (t9 : Int), σ = [some (.ref d), some (.ref l), some (.ref q), some (.int way), some (.ref A), some (.int here), some (.int fac), x7, x8] ∧
        H9 A = some (.dK kvs) ∧ kvs.length ≤ i ∧ (∀ n ∈ line.take i, valV kvs (.inl n) = some (.int (f n))) ∧ (∀ n ∈ line.take i, ∀ m ∈ line.take i, n < m → f n < f m) ∧ (way < 2 → ∀ n ∈ line.take i, f n = n + here) ∧ (way = 2 → ∀ n ∈ line.take i, f n = n * fac + here) ∧
        (2 < way → ∀ n ∈ line.take i, f n ≤ here) ∧ Fr d g H H9 ∧ Dr H9 d g c t9 ∧ t9 ≤ t + 3 + i ∧ H9 q = some (.lst (line.map V.int))
theorem TI.next {d g c l q A : Addr} {way fac t here here' v t11 : Int} {line : List Int} {H H11 : Hp} {i : Nat} {old : Int} {kvs : List (Key × V)} {f : Int → Int} {x7 x8 : Option V} {ct : Int} (hD : Dr H d g c ct) (hA0 : H A = none) (up : line.Pairwise (· < ·)) (ho : line[i]? = some old)
    (hk : kvs.length ≤ i) (h1 : ∀ n ∈ line.take i, valV kvs (.inl n) = some (.int (f n))) (h2 : ∀ n ∈ line.take i, ∀ m ∈ line.take i, n < m → f n < f m) (ca : way < 2 → ∀ n ∈ line.take i, f n = n + here) (cb : way = 2 → ∀ n ∈ line.take i, f n = n * fac + here) (cc : 2 < way → ∀ n ∈ line.take i, f n ≤ here)
    (h3 : ∀ n ∈ line.take i, f n < v) (ka : way < 2 → v = old + here' ∧ here' = here) (kb : way = 2 → v = old * fac + here' ∧ here' = here) (kc : 2 < way → v = here' ∧ here ≤ here') (F11 : Fr d g H H11) (d11 : Dr H11 d g c t11) (ht : t11 ≤ t + 3 + (i + 1 : Nat)) (hq : H11 q = some (.lst (line.map V.int))) (nqA : q ≠ A) :
    TI d g c l q A way fac t line H (i + 1) [some (.ref d), some (.ref l), some (.ref q), some (.int way), some (.ref A), some (.int here'), some (.int fac), x7, x8] (upd H11 A (.dK (putK kvs (.inl old) (.int v)))) := by
  obtain ⟨f', g1, g2, g3, g4⟩ := tab_step up ho h1 h2 h3
  have split_ : ∀ n ∈ line.take (i + 1), n ∈ line.take i ∨ n = old := fun n hn => by
    rw [List.take_add_one, ho] at hn
    rcases List.mem_append.mp hn with m | m
    · exact .inl m
    · exact .inr (List.mem_singleton.mp m)
  refine ⟨here', x7, x8, putK kvs (.inl old) (.int v), f', t11, rfl, upd_same, ?_, g1, g2, fun z n hn => ?_, fun z n hn => ?_, fun z n hn => ?_, Fr.own hA0 F11, Dr.own hD d11 hA0 (fun _ => hD.newc hA0), ht, ?_⟩
  · have := putK_le kvs (.inl old) (.int v)
    omega
  · obtain ⟨a1, a2⟩ := ka z
    rcases split_ n hn with m | m
    · rw [g3 n m, ca z n m, a2]
    · rw [m, g4, a1]
  · obtain ⟨a1, a2⟩ := kb z
    rcases split_ n hn with m | m
    · rw [g3 n m, cb z n m, a2]
    · rw [m, g4, a1]
  · obtain ⟨a1, a2⟩ := kc z
    rcases split_ n hn with m | m
    · rw [g3 n m]
      exact Int.le_trans (cc z n m) a2
    · rw [m, g4, a1]
      exact Int.le_refl _
  · rw [upd_ne nqA]
    exact hq

/-! R -/
theorem un65 {A : Around} {k : Nat} (hr : Room k A) : A.units + 65 < cLine := by
  have := hr.un
  omega
/-- law's blocks: at most m, in order, of draws -/
def spBlocks : Sp := fun vs H Q _ => ∃ (d g c : Addr) (t m : Int), vs = [.ref d, .int m] ∧ Dr H d g c t ∧ t ≤ 600000000000 ∧ 1 ≤ m ∧ m ≤ 12 ∧
  ∀ H' z bs t', Bl H' z bs → (∀ b ∈ bs, b.ok) → bs.Nodup → (bs.length : Int) ≤ m → Asc bs → H z = none → t' ≤ t + 300 → Fr d g H H' → Dr H' d g c t' → Q (.ref z) H'
/-- a block more in a list of our own, whatever else stands there -/
theorem bl_add {H3 : Hp} {D z : Addr} {bs : List Bk} {b : Bk} (hP : Bl H3 D bs) (hz : H3 z = none) :
    ∃ acc : List V, upd H3 z (.tup b.v) D = some (.lst acc) ∧ acc.length = bs.length ∧ Bl (upd (upd H3 z (.tup b.v)) D (.lst (acc ++ [.ref z]))) D (bs ++ [b]) := by
  obtain ⟨acc, q1, q2, _, q4⟩ := bl_more (H := fun _ => none) rfl (fun a o e => by cases e) hP hz
  exact ⟨acc, q1, q2, q4⟩
/-- the same of a block that stands there -/
theorem bl_put {H3 : Hp} {D z : Addr} {bs : List Bk} {b : Bk} (hP : Bl H3 D bs) (hz : H3 z = some (.tup b.v)) :
    ∃ acc : List V, H3 D = some (.lst acc) ∧ acc.length = bs.length ∧ Bl (upd H3 D (.lst (acc ++ [.ref z]))) D (bs ++ [b]) := by
  obtain ⟨as, h1, h2⟩ := hP
  have nD : D ≠ z := ne_of h1 hz (by intro q; cases q)
  refine ⟨as.map V.ref, h1, by rw [List.length_map, pd_len h2], as ++ [z], ?_, ?_⟩
  · rw [upd_same, List.map_append]
    rfl
  · refine pd_app (pd_imp h2 fun r p e => ?_) (.cons ?_ .nil)
    · have nb : r ≠ D := ne_of e h1 (by intro q; cases q)
      rw [upd_ne nb]
      exact e
    · rw [upd_ne nD.symm]
      exact hz
theorem any_blk (b : Bk) : ∀ bs : List Bk, (((bs.map Bk.n).map GS.dT).any fun z => PyData.eqv z (GS.dT b.n)) = decide (b ∈ bs)
  | [] => by simp
  | a :: bs => by
    rw [List.map_cons, List.map_cons, List.any_cons, any_blk b bs, GS.eqv_t]
    by_cases e : a = b
    · subst e
      simp
    · have e1 : ¬ a.n = b.n := fun z => e (Bk.n_inj z)
      rw [decide_eq_false e1, Bool.false_or]
      have e2 : b ∈ a :: bs ↔ b ∈ bs := ⟨fun z => by
        rcases List.mem_cons.mp z with z | z
        · exact absurd z.symm e
        · exact z, fun z => List.mem_cons_of_mem _ z⟩
      exact decide_eq_decide.mpr e2.symm
/-- one number of each block -/
theorem col_step {H H3 : Hp} {D : Addr} {f : Bk → Int} {bs : List Bk} {i : Nat} {b : Bk} (hD : H D = none) (S3 : Same H H3) (gb : bs[i]? = some b) :
    Same H (upd H3 D (.lst (((bs.take i).map fun b => V.int (f b)) ++ [.int (f b)]))) ∧ upd H3 D (.lst (((bs.take i).map fun b => V.int (f b)) ++ [.int (f b)])) D = some (.lst ((bs.take (i + 1)).map fun b => V.int (f b))) := by
  refine ⟨own_w hD S3 (Same.refl _), ?_⟩
  rw [upd_same, List.take_add_one, gb, List.map_append]
  rfl
theorem st_nodup {fa fu : Int → Int} {xs ys : List Int} {bs : List Bk} (ha : ∀ n ∈ xs, ∀ m ∈ xs, n < m → fa n < fa m) (hu : ∀ n ∈ ys, ∀ m ∈ ys, n < m → fu n < fu m) (hm : ∀ b ∈ bs, b.l ∈ xs ∧ b.r ∈ xs ∧ b.d ∈ ys ∧ b.u ∈ ys) (hn : bs.Nodup) : (bs.map (stB fa fu)).Nodup := by
  have inj : ∀ (f : Int → Int) (zs : List Int), (∀ n ∈ zs, ∀ m ∈ zs, n < m → f n < f m) → ∀ n ∈ zs, ∀ m ∈ zs, f n = f m → n = m := fun f zs h n hn m hm e => by
    rcases Int.lt_trichotomy n m with q | q | q
    · have := h n hn m hm q
      omega
    · exact q
    · have := h m hm n hn q
      omega
  refine List.pairwise_map.mpr (List.Pairwise.imp_of_mem (fun {a b} ma mb ne e => ne ?_) hn)
  obtain ⟨a1, a2, a3, a4⟩ := hm a ma
  obtain ⟨b1, b2, b3, b4⟩ := hm b mb
  unfold stB at e
  injection e with e1 e2 e3 e4
  have q1 := inj fa xs ha _ a1 _ b1 e1
  have q2 := inj fu ys hu _ a3 _ b3 e2
  have q3 := inj fa xs ha _ a2 _ b2 e3
  have q4 := inj fu ys hu _ a4 _ b4 e4
  obtain ⟨l, dd, r, u⟩ := a
  obtain ⟨l2, d2, r2, u2⟩ := b
  dsimp only at q1 q2 q3 q4
  rw [q1, q2, q3, q4]
theorem st_ok {fa fu : Int → Int} {xs ys : List Int} {bs : List Bk} (ha : ∀ n ∈ xs, ∀ m ∈ xs, n < m → fa n < fa m) (hu : ∀ n ∈ ys, ∀ m ∈ ys, n < m → fu n < fu m) (hm : ∀ b ∈ bs, b.l ∈ xs ∧ b.r ∈ xs ∧ b.d ∈ ys ∧ b.u ∈ ys) (hk : ∀ b ∈ bs, b.ok) : ∀ b ∈ bs.map (stB fa fu), b.ok := fun b hb => by
  obtain ⟨a, ma, rfl⟩ := List.mem_map.mp hb
  obtain ⟨a1, a2, a3, a4⟩ := hm a ma
  obtain ⟨k1, k2⟩ := hk a ma
  exact ⟨ha _ a1 _ a2 k1, hu _ a3 _ a4 k2⟩
/-- what stands behind each part of law's blocks -/
def BI (d g c : Addr) (m t u : Int) (H : Hp) (σ : L2.St) (H1 : Hp) : Prop := ∃ (F : Addr) (bs : List Bk) (way many : Int) (x5 x6 x7 : Option V) (t1 : Int),
  σ = [some (.ref d), some (.int m), some (.int way), some (.ref F), some (.int many), x5, x6, x7, none, none] ∧ H F = none ∧ Bl H1 F bs ∧ (∀ b ∈ bs, b.ok) ∧ bs.Nodup ∧ (bs.length : Int) ≤ m ∧ 0 ≤ many ∧ many ≤ 12 ∧ Fr d g H H1 ∧ Dr H1 d g c t1 ∧ t1 ≤ t + u ∧ (u ≤ 12 → way = 5 → bs = [])
/-- ahead of turn i of the loop that lays blocks in a row -/
def B5 (d g c F : Addr) (m way many t : Int) (x6 x7 : Option V) (H : Hp) (i : Nat) (σ : L2.St) (H3 : Hp) : Prop := ∃ (bs : List Bk) (x5 : Option V) (t3 : Int),
      σ = [some (.ref d), some (.int m), some (.int way), some (.ref F), some (.int many), x5, x6, x7, none, none] ∧ Bl H3 F bs ∧ (∀ b ∈ bs, b.ok) ∧ bs.Nodup ∧ bs.length = i ∧ (∀ b ∈ bs, b.l < 3 * (i : Int)) ∧ Fr d g H H3 ∧ Dr H3 d g c t3 ∧ t3 ≤ t + 12 + 2 * i
/-- ahead of turn i of the loop that draws blocks -/
def BJ (d g c F : Addr) (m way many t : Int) (H : Hp) (i : Nat) (σ : L2.St) (H3 : Hp) : Prop := ∃ (bs : List Bk) (x5 x6 x7 : Option V) (t3 : Int),
      σ = [some (.ref d), some (.int m), some (.int way), some (.ref F), some (.int many), x5, x6, x7, none, none] ∧ Bl H3 F bs ∧ (∀ b ∈ bs, b.ok) ∧ bs.Nodup ∧ (bs.length : Int) ≤ m ∧ Fr d g H H3 ∧ Dr H3 d g c t3 ∧ t3 ≤ t + 41 + 4 * i

/-! S -/
/-- some ascending numbers from 1 on -/
def spGrid : Sp := fun vs H Q _ => ∃ (l s : Addr) (f : Int) (bs : List Bk), vs = [.ref l, .ref s, .int f] ∧ Bl H l bs ∧ H s = some (.lst []) ∧ (f = 0 ∨ f = 1) ∧ bs.length ≤ 7 ∧
  ∀ H' z (ns : List Int), Same H H' → H z = none → H' z = some (.lst (ns.map V.int)) → (∀ n ∈ ns, 1 ≤ n) → ns.length ≤ 60 → Q (.ref z) H'
def spLBody : Sp := fun vs H Q _ => ∃ (d g c l s : Addr) (t : Int) (bs : List Bk), vs = [.ref d, .ref l, .ref s] ∧ Dr H d g c t ∧ t ≤ 900000000000 ∧ Bl H l bs ∧ l ≠ g ∧ H s = some (.lst []) ∧ s ≠ g ∧ bs.length ≤ 7 ∧
  ∀ H' z a b t', 1 ≤ a → 1 ≤ b → Bo H' z a b → H z = none → t' ≤ t + 8 → Fr d g H H' → Dr H' d g c t' → Q (.ref z) H'
/-- ahead of turn i of the grid's loop -/
def GI (l s : Addr) (f : Int) (H : Hp) (i : Nat) (σ : L2.St) (H3 : Hp) : Prop := ∃ (F : Addr) (x4 x5 x6 x7 : Option V) (ns : List Int), σ = [some (.ref l), some (.ref s), some (.int f), some (.ref F), x4, x5, x6, x7] ∧ H F = none ∧ H3 F = some (.lst (ns.map V.int)) ∧ ns.length ≤ 7 * i ∧ Same H H3
/-- ahead of turn i of the body's loop -/
def BD (d g c l s F : Addr) (t : Int) (H : Hp) (i : Nat) (σ : L2.St) (H3 : Hp) : Prop := ∃ (x4 x5 x6 x7 : Option V) (ns : List Int) (t3 : Int), σ = [some (.ref d), some (.ref l), some (.ref s), some (.ref F), x4, x5, x6, x7] ∧ H3 F = some (.lst (ns.map V.int)) ∧ ns.length = i ∧ (∀ n ∈ ns, 1 ≤ n) ∧ Fr d g H H3 ∧ Dr H3 d g c t3 ∧ t3 ≤ t + 4 * i
/-- one number more in a list of our own -/
theorem int_more {H3 : Hp} {D : Addr} {ns : List Int} (x : Int) : upd H3 D (.lst (ns.map V.int ++ [.int x])) D = some (.lst ((ns ++ [x]).map V.int)) := by
  rw [upd_same, snoc_int]
theorem at_bk (b : Bk) {f : Int} (hf : f = 0 ∨ f = 1) : ∃ x y : Int, atI b.v f = some (.int x) ∧ atI b.v (f + 2) = some (.int y) := by
  rcases hf with rfl | rfl
  · exact ⟨b.l, b.r, atI_nat (j := 0) rfl, atI_nat (j := 2) rfl⟩
  · exact ⟨b.d, b.u, atI_nat (j := 1) rfl, atI_nat (j := 3) rfl⟩

/-! T -/
theorem okC {P : Program} {w : World} {K : PySem.W.Frag} {mg : Str → Option Value} {base : Heap} {x qual : Str} {st : Stmt} {f c : Addr} {fd : FuncData} {N ps : List Str} {k : Nat} {sp : Sp} (F : Fun K x qual st f fd) (hc : fd.code = .ref c) (S : FnScope N ps (defScope st)) (len : ∀ vs H Q E, sp vs H Q E → vs.length = ps.length)
    (hbody : ∀ (A : Around) (outer : List Env) (s : Shared) (H : Hp) (vs : List V) (Q : VK) (E : XK), Room k (A.deeper (envOfC qual (defScope st) s.heap.objs.size f (.ref c))) → sp vs H Q E →
      ∃ t, PSs (cxOf CX0 P w K mg base N qual (defScope st) f (.ref c) A outer s H E).nox (defBody st) t ∧ t { nx := fun _ H' => Q .non H', rt := Q } (start N vs) H) : FnOk P w K mg base CX0 (k + 1) f fd ps sp := by
  obtain ⟨oc, od, kV, doc, pm, an, cdv, ct, osl, rfl, lk, hcd⟩ := F.ex
  have e : cdv = .ref c := hc
  subst e
  refine fn_of lk hcd S len fun A outer s H vs Q E hr hsp => ?_
  obtain ⟨t, h, q⟩ := hbody A outer s H vs Q E hr hsp
  exact ⟨t, h.nox, q⟩
theorem Kn.ext {H H' : Hp} {x : V} {n : String} (e : LamX.ExtN H H') (k : Kn H x n) : Kn H' x n := by
  cases k with
  | non => exact .non
  | bl b => exact .bl b
  | int i => exact .int i
  | str s => exact .str s
  | lst h => exact .lst (e _ _ h (by intro ps q; cases q))
  | tup h => exact .tup (e _ _ h (by intro ps q; cases q))
theorem Dr.ext {H H' : Hp} {d g c : Addr} {t : Int} (e : LamX.ExtN H H') (h : Dr H d g c t) : Dr H' d g c t := by
  obtain ⟨gs, cs, n, a1, a2, a3, r⟩ := h
  exact ⟨gs, cs, n, e _ _ a1 (by intro ps q; cases q), e _ _ a2 (by intro ps q; cases q), e _ _ a3 (by intro ps q; cases q), r⟩
theorem Dw.ext {C : Addr} {H H' : Hp} {m : Addr} {bs : List Bk} (e : LamX.ExtN H H') (h : Dw C H m bs) : Dw C H' m bs := by
  obtain ⟨dx, t, rs, h1, h2, h3, h4⟩ := h
  exact ⟨dx, t, rs, e _ _ h1 (by intro ps q; cases q), e _ _ h2 (by intro ps q; cases q), pd_imp h3 fun _ _ z => e _ _ z (by intro ps q; cases q), h4⟩
theorem tabs_fr {TL : List (Addr × Str)} {H H' : Hp} {d g c : Addr} {t : Int} (hD : Dr H d g c t) (f : Fr d g H H') (h : LamX.Tabs TL H) : LamX.Tabs TL H' := fun q hq => by
  obtain ⟨ps, h1, h2, h3⟩ := h q hq
  obtain ⟨⟨_, e1⟩, ⟨_, e2⟩, _⟩ := hD.dg
  refine ⟨ps, f _ _ (ne_of h1 e1 (by intro q; cases q)) (ne_of h1 e2 (by intro q; cases q)) h1, h2, fun pos cv hc => ?_⟩
  obtain ⟨c', e3, e4⟩ := h3 pos cv hc
  exact ⟨c', e3, f _ _ (ne_of e4 e1 (by intro q; unfold LamX.CodeO at q; cases q)) (ne_of e4 e2 (by intro q; unfold LamX.CodeO at q; cases q)) e4⟩
theorem Dw.fr {C : Addr} {H H' : Hp} {d g c m : Addr} {t : Int} {bs : List Bk} (hD : Dr H d g c t) (f : Fr d g H H') (h : Dw C H m bs) : Dw C H' m bs := by
  obtain ⟨dx, tt, rs, h1, h2, h3, h4⟩ := h
  obtain ⟨⟨_, e1⟩, ⟨_, e2⟩, _⟩ := hD.dg
  exact ⟨dx, tt, rs, f _ _ (ne_of h1 e1 (by intro q; cases q)) (ne_of h1 e2 (by intro q; cases q)) h1, f.tup hD h2, pd_imp h3 fun _ _ z => f.tup hD z, h4⟩
theorem Kn.same {H H' : Hp} {x : V} {n : String} (e : Same H H') (k : Kn H x n) : Kn H' x n := k.ext fun b o h _ => e b o h
theorem isIx_nat {n i : Nat} (h : i < n) : isIx n (.int i) = true := by
  show (decide ((0 : Int) ≤ i) && decide ((i : Int) < n)) = true
  rw [decide_eq_true (by omega), decide_eq_true (by omega)]
  rfl

end G21
set_option Elab.async false
set_option linter.all false
set_option maxRecDepth 100000
set_option maxHeartbeats 4000000
/-! lambdas that capture nothing, as values: made, kept, called later -/
namespace GS
open PySem PySem.Spec PyProof.Rows L2 LamX
/-- the function object at f of a lambda that captures nothing -/
def LamO (c' : Addr) (q : Str) (params : Arguments) (body : Expr) (scope : Scope) (f : Addr) : HO := .ext fun h => ∃ (pm ctv : Value), h.get? f = some (PySem.W.kla_obj "<lambda>" q params body scope [] pm c' ctv)
theorem lamO_ok {P : Program} {w : World} {H : Hp} {h : Heap} {f c' : Addr} {q : Str} {params : Arguments} {body : Expr} {scope : Scope} {pm ctv : Value} (e : h.get? f = some (PySem.W.kla_obj "<lambda>" q params body scope [] pm c' ctv)) :
    ObjOk P w H h f (LamO c' q params body scope f) := ⟨⟨pm, ctv, e⟩, ⟨_, e⟩, fun _ _ ⟨a, b, z⟩ k => ⟨a, b, k _ z⟩⟩
theorem clo_nil {cells : List (Str × Addr)} : ∀ {names : List (Str × NameKind)} {acc : List (Str × Addr)}, (∀ y ∈ names, y.2 ≠ .free) → cloFrom cells names acc = acc
  | [], _, _ => rfl
  | (n, k) :: r, acc, h => by
    have hk : (k == NameKind.free) = false := by
      have z := h (n, k) List.mem_cons_self
      simpa using z
    unfold cloFrom
    rw [hk]
    exact clo_nil fun y hy => h y (List.mem_cons_of_mem _ hy)
section
variable {X : Cx} {pins : List (Addr × Obj)} {σ : L2.St} {H : Hp} {s : Shared}
/-- what is new at the heap's end, or behind it, is nobody's -/
theorem track_new {f : Addr} {o : HO} {H1 : Hp} {s1 : Shared} (I : Inv X pins σ H s) (I1 : Inv X pins σ H1 s1) (hf : s.heap.objs.size ≤ f) (hn : H1 f = none) (new : ObjOk X.prog X.w (upd H1 f o) s1.heap f o) : Inv X pins σ (upd H1 f o) s1 := by
  have le : ∀ b u, s.heap.get? b = some u → b ≠ f := fun b u e z => by
    have h1 := Heap.lt_size e
    rw [z] at h1
    exact Nat.lt_irrefl _ (Nat.lt_of_lt_of_le h1 hf)
  have l0 : X.s_0.heap.get? f = none := by
    cases e : X.s_0.heap.get? f with
    | none => rfl
    | some u =>
      have h1 := Heap.lt_size e
      have h2 : X.s_0.heap.objs.size ≤ s.heap.objs.size := Nat.le_trans I.ok.above (Nat.le_of_lt I.lt)
      exact absurd (Nat.lt_of_lt_of_le h1 (Nat.le_trans h2 hf)) (Nat.lt_irrefl _)
  refine track I1 hn l0 new (fun z => ?_) (fun x c e => ?_) (fun p hp => ?_)
  · have h1 := I.lt
    rw [← z] at h1
    exact Nat.lt_irrefl _ (Nat.lt_of_lt_of_le h1 hf)
  · obtain ⟨v, o, ho, _⟩ := I.cell x c e
    exact le c _ ho
  · exact le _ _ (I.pin p hp).1
/-- lambda ..: e, without captured names -/
def tLamV (T : List (Addr × Str)) (q : Str) (params : Arguments) (body : Expr) (scope : Scope) : TE := fun _ H Q => Tabs T H ∧ ∀ H1 f c', ExtN H H1 → Tabs T H1 → H1 f = none → H1 c' = some (CodeO c' q) → Q (.ref f) (upd H1 f (LamO c' q params body scope f))
end
section
variable {X : Cx}
theorem pe_lamV {T : List (Addr × Str)} {c P : Addr} {params : Arguments} {body : Expr} {scope : Scope} {pos : Pos} (TB : TabB X.base X.mg c P) (hcode : X.env.code = .ref c)
    (hm : (P, X.env.qual ++ "<lambda>") ∈ T) (hu : ∀ p ∈ T, p.1 = P → p.2 = X.env.qual ++ "<lambda>") (hdef : defaultsOf params X.env = ([], [])) (hfree : ∀ y ∈ scope.names, y.2 ≠ .free) :
    PE X (.Lambda params body scope pos) (tLamV T (X.env.qual ++ "<lambda>") params body scope) := by
  refine ⟨fun pins s σ H Q I h => ?_⟩
  obtain ⟨hT, go⟩ := h
  obtain ⟨ps, hP, ht, ha⟩ := hT _ hm
  have hcl := closure_ok (scope := scope) (env := X.env) fun y hy e => absurd e (hfree y hy)
  rw [clo_nil hfree] at hcl
  have bP : s.heap.BuiltinsAt X.mg P := TB.bm.keeps I.bk
  have hP' : s.heap.get? P = some { cls := .none, data := .fields ps } := I.hok P _ hP
  refine PySem.W.kla_eval hdef ?_
  cases hc : codeAmong pos ps.toList with
  | some cv =>
    obtain ⟨c', e, hco⟩ := ha pos cv hc
    subst e
    refine PySem.W.kla_makeFunctionHit hcl I.ok.glob (I.mod.glob.keeps I.bk) hcode (TB.code.keeps I.bk) hP' ht hc bP fun ctv h' tk hx hsz => ?_
    have I1 : Inv X pins σ H { s with heap := h'.push (PySem.W.kla_obj "<lambda>" (X.env.qual ++ "<lambda>") params body scope [] ((X.mg "__name__").getD .none) c' ctv), toks := tk } := I.kept fun b o e => Heap.get?_push_of_some _ (hx b o e)
    have hn := I.hok.fresh hsz
    exact ⟨V.ref _, _, track_new I I1 hsz hn (lamO_ok (Heap.get?_push_size _ rfl)), rfl, go H _ c' (ExtN.refl H) hT hn hco⟩
  | none =>
    refine PySem.W.kla_makeFunction hcl I.ok.glob (I.mod.glob.keeps I.bk) hcode (TB.code.keeps I.bk) hP' ht hc TB.gP bP fun c' ctv h' tk hx hge hlt hrec htb => ?_
    obtain ⟨c2, oc, vs, t, e2, hoc, hd, hv⟩ := hrec
    cases e2
    have hsz : s.heap.objs.size ≤ h'.objs.size := Nat.le_trans hge (Nat.le_of_lt hlt)
    have nC : H c' = none := I.hok.fresh hge
    have nPc : P ≠ c' := ne_of_none hP nC
    have I1 := inv_table (t' := tk) (more := #[rawInt pos.line, rawInt pos.col, .ref c']) (h' := h'.push (PySem.W.kla_obj "<lambda>" (X.env.qual ++ "<lambda>") params body scope [] ((X.mg "__name__").getD .none) c' ctv)) I hP
      (fun b o hb e => Heap.get?_push_of_some _ (hx b o hb e)) (Heap.get?_push_of_some _ htb) hge ⟨oc, vs, t, Heap.get?_push_of_some _ hoc, hd, hv⟩
    have ext : ExtN H (upd (upd H P (.tbl (ps ++ #[rawInt pos.line, rawInt pos.col, .ref c']))) c' (CodeO c' (X.env.qual ++ "<lambda>"))) := fun b o e n => by
      have nb : b ≠ P := fun z => by
        rw [z, hP] at e
        exact n ps (Option.some.inj e).symm
      rw [upd_ne (ne_of_none e nC), upd_ne nb]
      exact e
    have nf : h'.objs.size ≠ c' := Nat.ne_of_gt hlt
    have nP : h'.objs.size ≠ P := Nat.ne_of_gt (Nat.lt_of_lt_of_le (Heap.lt_size hP') hsz)
    have hn : upd (upd H P (.tbl (ps ++ #[rawInt pos.line, rawInt pos.col, .ref c']))) c' (CodeO c' (X.env.qual ++ "<lambda>")) h'.objs.size = none := by
      rw [upd_ne nf, upd_ne nP]
      exact I.hok.fresh hsz
    have tabs : Tabs T (upd (upd H P (.tbl (ps ++ #[rawInt pos.line, rawInt pos.col, .ref c']))) c' (CodeO c' (X.env.qual ++ "<lambda>"))) := fun p hp => by
      by_cases hb : p.1 = P
      · refine ⟨ps ++ #[rawInt pos.line, rawInt pos.col, .ref c'], by rw [hb, upd_ne nPc, upd_same], ?_, fun p' cv hcv => ?_⟩
        · have eL : (ps ++ #[rawInt pos.line, rawInt pos.col, .ref c']).toList = ps.toList ++ [rawInt pos.line, rawInt pos.col, .ref c'] := by simp
          rw [eL]
          exact PySem.TriplesOk_snoc _ _ _ _ ht
        · have eL : (ps ++ #[rawInt pos.line, rawInt pos.col, .ref c']).toList = ps.toList ++ [rawInt pos.line, rawInt pos.col, .ref c'] := by simp
          rw [eL] at hcv
          rw [hu p hp hb]
          rcases among_app _ ht hcv with z | z
          · obtain ⟨c0, e1, e2⟩ := ha p' cv z
            exact ⟨c0, e1, ext _ _ e2 codeO_ne⟩
          · exact ⟨c', z, upd_same⟩
      · obtain ⟨ps', a1, a2, a3⟩ := hT p hp
        refine ⟨ps', by rw [upd_ne (ne_of_none a1 nC), upd_ne hb]; exact a1, a2, fun p' cv hcv => ?_⟩
        obtain ⟨c0, e1, e2⟩ := a3 p' cv hcv
        exact ⟨c0, e1, ext _ _ e2 codeO_ne⟩
    exact ⟨V.ref _, _, track_new I I1 hsz hn (lamO_ok (Heap.get?_push_size _ rfl)), rfl, go _ _ c' ext tabs hn upd_same⟩
/-- what a kept lambda does when it is called: k levels of room, sp as of a def -/
def LamRun (P : Program) (w : World) (K : PySem.W.Frag) (mg : Str → Option Value) (base : Heap) (CX : CXT) (k : Nat) (q : Str) (params : Arguments) (body : Expr) (scope : Scope) (n : Nat) (sp : Sp) : Prop :=
  ∀ (f c' : Addr) (A : Around) (outer : List Env) (s : Shared) (H : Hp) (us : List Value) (vs : List V) (Q : VK) (E : XK), Room k A → Env0 P w K mg base A outer s H → H f = some (LamO c' q params body scope f) → H c' = some (CodeO c' q) → Vals vs us → vs.length = n → sp vs H Q E →
    codeAny (model P w) A (.call (.ref f) ⟨us, []⟩) (CR CX outer P w H s Q E) s
theorem lam_run {P : Program} {w : World} {K : PySem.W.Frag} {mg : Str → Option Value} {base : Heap} {CX : CXT} {k : Nat} {q : Str} {params : Arguments} {body : Expr} {scope : Scope} {N ps : List Str} {sp : Sp} (S : FnScope N ps scope)
    (hbind : ∀ (pm cv ctv : Value) (us : List Value), us.length = ps.length → bindArgs (PySem.W.kla_fn "<lambda>" q params body scope [] pm cv ctv) ⟨us, []⟩ = pure (ps.zip us))
    (hbody : ∀ (f c' : Addr) (A : Around) (outer : List Env) (s : Shared) (H : Hp) (vs : List V) (Q : VK) (E : XK), Room k (A.deeper (envOfC q scope s.heap.objs.size f (.ref c'))) → sp vs H Q E →
      ∃ te, PE (cxOf CX P w K mg base N q scope f (.ref c') A outer s H E) body te ∧ te (L2.start N vs) H Q) : LamRun P w K mg base CX (k + 1) q params body scope ps.length sp := by
  intro f c' A outer s H us vs Q E hr e0 hf hc r hl hsp
  obtain ⟨⟨pm, ctv, of⟩, _, _⟩ := e0.hok f _ hf
  obtain ⟨⟨oc, xs, t, hoc, hdc, hvc⟩, _, _⟩ := e0.hok c' _ hc
  have lim : s.heap.NoLimit := e0.mod.nolimit.keeps fun b o e => (e0.bs b o e).1
  have hkind : ∀ y ∈ ps.zip us, scope.names.lookup y.1 = some .local ∨ (scope.names.lookup y.1 = some .cell ∧ ((cellsFrom (s.heap.objs.size + 1) scope.names []).lookup y.1).isSome = true) := fun ⟨n, v⟩ hy => by
    rcases S.par n (List.of_mem_zip hy).1 with z | z
    · exact .inl z
    · exact .inr ⟨z, PySem.W.cellsFrom_some _ _ _ (.inl z)⟩
  refine PySem.W.kla_callFunE hr.depth of rfl S.co S.gen rfl ⟨c', oc, xs, t, rfl, hoc, hdc, hvc⟩ ?_
  rw [hbind pm (.ref c') ctv us (by rw [← r.length]; exact hl)]
  refine wpAny_pure (wpAny_newFunctionEnv_cells S.kind hkind fun env he s1 x => ?_)
  subst he
  obtain ⟨te, hp, hq⟩ := hbody f c' A outer s H vs Q E (hr.deeper _) hsp
  refine ⟨lim.keeps x.toInCall.keep, PySem.W.kla_codeExpr ?_⟩
  have I : Inv (cxOf CX P w K mg base N q scope f (.ref c') A outer s H E) [] (L2.start N vs) H s1 := inv_start S hr.hd e0 hl r x
  refine wpAny_mono (hp.run [] s1 (L2.start N vs) H Q I hq) (fun v s' hs => ?_) fun e s' hs => hs
  obtain ⟨v', H', J, rv, q'⟩ := hs
  exact ⟨v', H', J.os, J.bare, J.base, J.hok, rv, q'⟩
/-- fe(e, ..): what fe tells is a kept lambda -/
def tCallV (X : Cx) (CX : CXT) (k : Nat) (E : XK) (tf : TE) (t : TA) : TE := fun σ H Q => tf σ H fun x H1 => ∃ (f c' : Addr) (q : Str) (params : Arguments) (body : Expr) (scope : Scope), x = .ref f ∧ H1 f = some (LamO c' q params body scope f) ∧
  t σ H1 fun vs H2 => H2 f = some (LamO c' q params body scope f) ∧ H2 c' = some (CodeO c' q) ∧ ∃ sp, LamRun X.prog X.w X.K X.mg X.base CX k q params body scope vs.length sp ∧ sp vs H2 Q E
theorem pe_callV {CX : CXT} {k : Nat} {E : XK} {fe e : Expr} {es : List Expr} {tf : TE} {t : TA} {pos : Pos} (hf : PE X fe tf) (ha : PA X (e :: es) t) (hr : Room k X.A) (hx : Passes CX X E)
    (harm : eval (.Call fe (e :: es) [] pos) X.env = (do callWith pos (← eval fe X.env) [] (backTo pos (starEach (e :: es) X.env)) (backToKw pos (keywordEach [] X.env))) := by rfl)
    (he : starEach (e :: es) X.env = (false, eval e X.env) :: starEach es X.env := by rfl) (hpl : (backTo pos (starEach es X.env)).any (·.1) = false := by rfl) :
    PE X (.Call fe (e :: es) [] pos) (tCallV X CX k E tf t) := by
  refine ⟨fun pins s σ H Q I h => ?_⟩
  rw [harm]
  refine wpAny_bind (thn (hf.run pins s σ H _ I h) fun v s1 ⟨x, H1, I1, r1, q1⟩ => ?_)
  obtain ⟨f, c', q, params, body, scope, ex, l1, q1⟩ := q1
  subst ex
  obtain rfl : v = Value.ref f := r1
  obtain ⟨⟨pm, ctv, of1⟩, _, _⟩ := I1.hok f _ l1
  refine PySem.W.callWith_F ⟨_, _, _, _, of1⟩ (thn (ha.run pos pins s1 σ H1 _ I1 q1) fun us s2 ⟨vs, H2, I2, r2, q2⟩ => ?_) he hpl
  obtain ⟨l2, hc2, sp, run, hsp⟩ := q2
  obtain ⟨⟨pm2, ctv2, of2⟩, _, _⟩ := I2.hok f _ l2
  refine ⟨⟨_, _, _, _, of2⟩, wpAny_call (codeAny_mono (run f c' X.A X.stack s2 H2 us vs Q E hr I2.env0 l2 hc2 r2 rfl hsp) fun r s' hq => ?_)⟩
  cases r with
  | error e => exact hx pins σ H2 s2 e s' I2 hq
  | ok fl =>
    cases fl with
    | ret u => exact I2.after hq
    | next => exact False.elim hq
    | brk => exact False.elim hq
    | cont => exact False.elim hq
end
end GS
set_option Elab.async false
set_option linter.all false
set_option maxRecDepth 100000
set_option maxHeartbeats 4000000
/-! for k, x in enumerate(ts) over a tuple -/
namespace GS
open PySem PySem.Spec PyProof.Rows L2
section
variable {prog : Program} {w : World} {A : Around} {E : Value → Shared → Prop} {s : Shared}
/-- a next over a tuple's iterator, down to where it has the item or none -/
theorem nxT {it t : Addr} {i : Nat} {its : Array Value} {o : Obj} {Q : Value → Shared → Prop} (ho : s.heap.get? it = some o) (hc : o.cls = .type "tuple_iterator") (hd : o.data = .fields #[.ref t, .int i 0]) (ht : s.heap.IsTuple t its)
    (h : ∀ x, its[i]? = some x → ∀ h', h'.IsTupleIter it t (i + 1) → Heap.SameBut it s.heap h' → Q x { s with heap := h' })
    (hE : its[i]? = none → A.handled = none ∧ ∀ h' e, Heap.ExtBut it s.heap h' → (∃ o, h'.get? e = some o ∧ o.cls = .type "StopIteration") → E (.ref e) { s with heap := h' }) :
    wpAny (model prog w) A (Builtin.SmallTypes.nextOf (.ref it)) Q E s := by
  have hit : s.heap.IsTupleIter it t i := ⟨o, ho, hc, hd⟩
  obtain ⟨ol, hol, _, nl, hdl⟩ := ht
  unfold Builtin.SmallTypes.nextOf
  refine wpAny_bind (wpAny_callSpecial?_slot (name := Str.ofString "__next__") hit.typeIs F.slot_tuple_iterator_next (wpAny_call_entry F.slot_tuple_iterator_next hit.typeIs F.entry_tuple_iterator_next ?_ (F.args_tuple_iterator_next_1 _)))
  refine wpAny_bind (m := field (.ref it) 0) (wpAny_field ho hd (x := .ref t) rfl ?_)
  rw [if_neg (show ¬ ((Value.ref t == Value.none) = true) from Bool.false_ne_true)]
  refine wpAny_bind (m := field (.ref it) 1) (wpAny_field ho hd (x := .int i 0) rfl ?_)
  refine wpAny_bind (m := seqItems? (.ref t)) (wpAny_seqItems hol hdl ?_)
  rcases hx : its[i]? with _ | x
  · obtain ⟨hh, hE⟩ := hE hx
    simp only [Int.toNat_natCast, hx]
    refine wpAny_bind (wpAny_rule (wpAny_bind (wpAny_setField ho hd (by simp) (wpAny_bind (m := newExc (.type "StopIteration") []) ?_))))
    simp only [newExc, newTuple, raiseNew]
    refine wpAny_bind (wpAny_newObj_type ?_ (by size_fits))
    refine wpAny_bind (m := firstArgMember _ _) (wpAny_of_eq (a := Value.none) (by first | rfl | (simp only [firstArgMember]; rfl)) (wpAny_newObj_type (wpAny_bind (wpAny_handled ?_)) (by size_fits)))
    first | rw [show A.in1.handled = none from hh] | rw [hh]
    exact wpAny_bind (wpAny_pure (wpAny_throw (hE _ _ (((Heap.SameBut.update ..).extBut.push _).push _) ⟨_, Heap.get?_push_size _ rfl, rfl⟩)))
  · simp only [Int.toNat_natCast, hx]
    refine wpAny_bind (wpAny_setField ho hd (by simp) (wpAny_pure ⟨x, rfl, wpAny_pure (h x hx _ ?_ (Heap.SameBut.update ..))⟩))
    exact ⟨_, Heap.get?_update_self _ ho (Obj.isFreed_of_fields (Obj.data_mapFields hd _)), (Obj.cls_mapFields ..).trans hc, by rw [Obj.data_mapFields hd]; simp [rawInt]⟩
end
theorem drawsT {prog : Program} {w : World} {A : Around} (hh : A.handled = none) (it t : Addr) (hne : t ≠ it) (its : Array Value) :
    Draws prog w A it [it, t] its.size (fun i v => its[i]? = some v) (fun i h => h.IsTupleIter it t i ∧ h.IsTuple t its) where
  live := fun _ _ st => let ⟨o, ho, _⟩ := st.1; ⟨o, ho⟩
  frame := fun _ _ _ st hk => ⟨st.1.at fun o e => hk it (by simp) o e, st.2.at fun o e => hk t (by simp) o e⟩
  item := fun i s Q E hi st hQ => by
    obtain ⟨⟨o, ho, hc, hd⟩, h2⟩ := st
    exact nxT ho hc hd h2 (fun x hx h' a b => hQ x h' s.toks hx ⟨a, h2.extBut b.extBut hne⟩ b) fun e => absurd e (by simp [hi])
  done := fun s Q E st hE => by
    obtain ⟨⟨o, ho, hc, hd⟩, h2⟩ := st
    exact nxT ho hc hd h2 (fun x hx => absurd hx (by simp)) fun _ => ⟨hh, hE⟩
set_option maxHeartbeats 8000000 in
theorem meets_enumT (l : Addr) (items : Array Value) (n : Nat) (dct : Option Addr) (sl : Array (Option Value)) :
    Meets (Builtin.«enumerate.__new__» ⟨[.type "enumerate", .ref l], []⟩) (fun _ R s => s.heap.get? l = some { cls := .type "tuple", dict := dct, data := .seq items n, slots := sl } ∧
      R (.ok (.ret (.ref (s.heap.push { cls := .type "tuple_iterator", data := .fields #[.ref l, .int 0 0] }).objs.size)))
        { s with heap := (s.heap.push { cls := .type "tuple_iterator", data := .fields #[.ref l, .int 0 0] }).push { cls := .type "enumerate", data := .fields #[.none, .bool false, .ref s.heap.objs.size, rawInt 0, .none, .none] } }) :=
  .of_wp fun prog w A R s h => by
    obtain ⟨hp, g, d, tk, os⟩ := s
    obtain ⟨hl, h⟩ := h
    have hsub := sub_enumerate
    have hT : Heap.IsTuple (Shared.heap ⟨hp, g, d, tk, os⟩) l items := ⟨_, hl, rfl, n, rfl⟩
    wp_walk using AutoSeq1.wpAny_loadPart' hl
    refine wpAny_stack_any fun st => wpAny_pure ?_
    split
    · rename_i c _ _ _ _ _
      cases (c == Value.type "enumerate") <;>
      · wp_walk using AutoSeq1.wpAny_loadPart' hl, wpAny_pyIter_tuple hT
        exact ⟨_, rfl, h⟩
    · wp_walk using AutoSeq1.wpAny_loadPart' hl, wpAny_pyIter_tuple hT
      exact ⟨_, rfl, h⟩
theorem call_enumT {prog : Program} {w : World} {A : Around} {E : Value → Shared → Prop} {s : Shared} {l : Addr} {its : Array Value} {Q : Value → Shared → Prop} (hL : s.heap.IsTuple l its)
    (h : ∀ h', IsEnum h' (s.heap.objs.size + 1) s.heap.objs.size 0 .none → h'.IsTupleIter s.heap.objs.size l 0 → h'.objs.size = s.heap.objs.size + 2 → (∀ b o, s.heap.get? b = some o → h'.get? b = some o) → Q (.ref (s.heap.objs.size + 1)) { s with heap := h' }) :
    wpAny (model prog w) A (call (.type "enumerate") [.ref l]) Q E s := by
  obtain ⟨⟨c, dct, dt, sl⟩, hl, hc, n, hd⟩ := hL
  obtain rfl : c = .type "tuple" := hc
  obtain rfl : dt = .seq its n := hd
  refine callType_new F.called_enumerate (by decide) (F.typeCall_enumerate_1 _) (F.newCall_enumerate_1 _) (fun obj => F.args_object_init_2 obj _) F.entry_enumerate_new (meets_enumT l its n dct sl) ⟨hl, ?_⟩
  have hz := Heap.size_push s.heap { cls := .type "tuple_iterator", data := .fields #[.ref l, .int 0 0] }
  have he : IsEnum ((s.heap.push { cls := .type "tuple_iterator", data := .fields #[.ref l, .int 0 0] }).push { cls := .type "enumerate", data := .fields #[.none, .bool false, .ref s.heap.objs.size, rawInt 0, .none, .none] }) (s.heap.objs.size + 1) s.heap.objs.size 0 .none := by
    have := Heap.get?_push_size (s.heap.push { cls := .type "tuple_iterator", data := .fields #[.ref l, .int 0 0] }) (o := { cls := .type "enumerate", data := .fields #[.none, .bool false, .ref s.heap.objs.size, rawInt 0, .none, .none] }) rfl
    rw [hz] at this
    exact this
  show _ ∧ _
  rw [hz]
  exact ⟨⟨_, he, rfl⟩, h _ he ⟨_, Heap.get?_push_of_some _ (Heap.get?_push_size _ rfl), rfl, rfl⟩ (by rw [Heap.size_push, hz]) fun b o x => Heap.get?_push_of_some _ (Heap.get?_push_of_some _ x)⟩
theorem enumT_end {prog : Program} {w : World} {A : Around} {E : Value → Shared → Prop} {s : Shared} {e it l : Addr} {i : Nat} {its : Array Value} {old : Value} {Q : Option Value → Shared → Prop} (hh : A.handled = none) (he : IsEnum s.heap e it i old) (hit : s.heap.IsTupleIter it l i) (hl : s.heap.IsTuple l its) (hx : its[i]? = none)
    (hQ : ∀ h', Heap.ExtBut it s.heap h' → Q none { s with heap := h' }) : wpAny (model prog w) A (pyNext (.ref e)) Q E s := by
  have D : Draws prog w A.in1 it [it, l] 0 (fun _ _ => True) (fun _ h => h.IsTupleIter it l i ∧ h.IsTuple l its) :=
    { live := fun _ _ st => let ⟨o, ho, _⟩ := st.1; ⟨o, ho⟩
      frame := fun _ _ _ st hk => ⟨st.1.at fun o e => hk it (by simp) o e, st.2.at fun o e => hk l (by simp) o e⟩
      item := fun k _ _ _ hk => absurd hk (by omega)
      done := fun s Q E st hE => by
        obtain ⟨⟨o, ho, hc, hd⟩, h2⟩ := st
        exact nxT ho hc hd h2 (fun x z => absurd z (by rw [hx]; exact nofun)) fun _ => ⟨hh, hE⟩ }
  exact wpAny_pyNext_enum_endD D he ⟨hit, hl⟩ hQ
/-- the tuple at a, each item in a new pair -/
def IeT (K : PySem.W.Frag) (a : Addr) : It :=
  ⟨fun i H => ∃ (xs : List V) (x : V), SqT K H a xs ∧ xs[i]? = some x, fun i H v H' => ∃ T x, v = .ref T ∧ H T = none ∧ H' = upd H T (.tup [.int (i : Nat), x]) ∧ ∀ xs, SqT K H a xs → xs[i]? = some x, fun i H => ∃ xs : List V, SqT K H a xs ∧ xs.length ≤ i⟩
theorem turn_enumT {P : Program} {w : World} {K : PySem.W.Frag} {elts : List Expr} {kk : Nat} {tpos : Pos} (a e it : Addr) :
    Turn P w K (.Tuple elts kk tpos) (IeT K a) [e, it] e (fun i h => (∃ old, IsEnum h e it ((i : Nat) : Int) old) ∧ h.IsTupleIter it a i ∧ e ≠ it) where
  mem := List.mem_cons_self
  obj := fun i h ⟨⟨old, he⟩, ⟨o, ho, _, hd⟩, _⟩ b hb => by
    rcases (show b = e ∨ b = it by simpa using hb) with rfl | rfl
    · exact ⟨_, he, fun v q => nomatch q⟩
    · exact ⟨o, ho, fun v q => by rw [hd] at q; cases q⟩
  keep := fun i h h' ⟨⟨old, he⟩, hi, hne⟩ k => ⟨⟨old, k e (by simp) _ he⟩, hi.at fun o q => k it (by simp) o q, hne⟩
  item := by
    intro X hP hw hK hc i pins s σ H E I hf ⟨⟨old, he⟩, hit, hne⟩ ⟨xs, x, hq, hx⟩
    subst hP hw hK
    obtain ⟨its, rv, p, hz⟩ := I.tuple hq
    obtain ⟨u, hu, ru⟩ := rv.get hx
    have hel := Heap.lt_size he
    have hil : it < s.heap.objs.size := let ⟨_, q, _⟩ := hit; Heap.lt_size q
    have ha : s.heap.IsTuple a its.toArray := p
    have hai : a ≠ it := fun q => by
      obtain ⟨o1, e1, c1, _⟩ := ha
      obtain ⟨o2, e2, c2, _⟩ := hit
      rw [q, e2] at e1
      cases e1
      rw [c2] at c1
      exact absurd (Value.type.inj c1) (by decide)
    have hae : e ∉ [it, a] := fun q => by
      rcases (show e = it ∨ e = a by simpa using q) with q | q
      · exact hne q
      · obtain ⟨o1, e1, c1, _⟩ := ha
        rw [← q, he] at e1
        cases e1
        exact absurd (Value.type.inj c1) (by decide)
    have hlt : i < its.toArray.size := by
      have := rv.length
      have := (List.getElem?_eq_some_iff.mp hx).1
      simp only [List.size_toArray]
      omega
    refine wpAny_pyNext_enum_itemD (drawsT (A := X.A.in1) (I.ok.hd hc) it a hai its.toArray) he (And.intro hit ha) hlt hne hae fun x1 h' tk hP ho st hT hsz hk => ?_
    obtain rfl : x1 = u := by
      rw [List.getElem?_toArray, hu] at hP
      exact (Option.some.inj hP).symm
    refine ⟨_, rfl, wpAny_letOwnedTupleGo_enum (s := { s with heap := h', toks := tk + 1 }) ho fun h'' he' sb => ?_⟩
    have hT2 := (sb.2 _ (Nat.ne_of_gt hel)).trans hT
    have new : ObjOk X.prog X.w (upd H s.heap.objs.size (.tup [.int (i : Nat), x])) h'' s.heap.objs.size (.tup [.int (i : Nat), x]) := ⟨by show 2 ≤ sizeLine; decide, [.int i tk, x1], .cons ⟨_, rfl⟩ (.cons ru .nil), ⟨_, hT2, rfl, _, rfl⟩⟩
    have I1 : Inv X pins σ (upd H s.heap.objs.size (.tup [.int (i : Nat), x])) { s with heap := h'', toks := tk + 1 } :=
      I.turnedNew (ch := [e, it]) (fun b ob hb q => (sb.2 b (fun z => hb (by simp [z]))).trans (hk b ob (fun z => hb (by simp [z])) (fun z => hb (by simp [z])) q)) hf (Nat.le_refl _) new
    refine ⟨.ref s.heap.objs.size, _, I1, rfl, ⟨_, x, rfl, I.hok.fresh (Nat.le_refl _), rfl, fun ys hy => by rw [I.tuple_inj hy hq]; exact hx⟩, ⟨⟨x1, ?_⟩, st.1.at fun o q => (sb.2 it (Ne.symm hne)).trans q, hne⟩, fun b hb => ?_⟩
    · rw [show ((i + 1 : Nat) : Int) = (i : Int) + 1 by omega]
      exact he'
    · rw [upd_ne (Nat.ne_of_lt (by rcases (show b = e ∨ b = it by simpa using hb) with rfl | rfl <;> assumption))]
      exact (hf b hb).1
  done := by
    intro X hP hw hK hc i pins s σ H E I hf ⟨⟨old, he⟩, hit, hne⟩ ⟨xs, hq, hx⟩
    subst hP hw hK
    obtain ⟨its, rv, p, hz⟩ := I.tuple hq
    obtain ⟨f0, f1, f2, f3, f4, f5⟩ := hf it (by simp)
    have ha : s.heap.IsTuple a its.toArray := p
    have hl := rv.length
    refine enumT_end (A := X.A) (I.ok.hd hc) he hit ha (by simp; omega) fun h' eb => ⟨rfl, I.turned (t' := s.toks) (fun b o hb q => eb b o hb q) f0 f1 f3 f4 f5⟩
  self := fun A i s Q E ⟨⟨_, he⟩, _⟩ h => wpAny_pyIter_enum he h
theorem pi_enumT {X : Cx} {e : Expr} {ta : TA} {p pos tpos : Pos} {elts : List Expr} {kk : Nat} (hg : Gl X "enumerate") (hm : X.mg "enumerate" = none) (ha : PA X [e] ta) (hs : starEach [e] X.env = [(false, eval e X.env)] := by rfl) :
    PI X (.Tuple elts kk tpos) (.Call (.Name "enumerate" p) [e] [] pos) fun σ H R => ta σ H fun vs H1 => ∃ a xs, vs = [.ref a] ∧ SqT X.K H1 a xs ∧ R (IeT X.K a) H1 := by
  refine ⟨fun pins s σ H R I h => Call_ (ld_blt I hg hm boot_enumerate (PyProof.Rows.callWith_type1 (thn (ha.run pos pins s σ H _ I h) fun us s1 ⟨vs, H1, I1, r1, a, xs, ex, hq, q⟩ => ?_) hs rfl))⟩
  subst ex
  cases r1 with
  | cons r rr =>
    cases rr
    cases r
    obtain ⟨its, rv, p', hz⟩ := I1.tuple hq
    refine call_enumT (show s1.heap.IsTuple a its.toArray from p') fun h' he hit hsz hk => wpAny_pyIter_enum he ?_
    refine ⟨s1.heap.objs.size + 1, [s1.heap.objs.size + 1, s1.heap.objs.size], _, _, H1, rfl, I1.kept (t' := s1.toks) hk, turn_enumT a (s1.heap.objs.size + 1) s1.heap.objs.size, ⟨⟨.none, he⟩, hit, Nat.succ_ne_self _⟩, fun b hb => ?_, q⟩
    have hle : s1.heap.objs.size ≤ b := by rcases (show b = s1.heap.objs.size + 1 ∨ b = s1.heap.objs.size by simpa using hb) with rfl | rfl <;> omega
    exact I1.fpOk hle (I1.hok.fresh hle)
end GS
set_option Elab.async false
set_option linter.all false
set_option maxRecDepth 100000
set_option maxHeartbeats 1000000
/-! list(reversed(a list)), list(reversed(a tuple)) -/
namespace RT
open PySem PySem.Spec PyProof.Rows
theorem nolen_rt : typeLookup (.type "reversed") "__len__" = pure none := by rw [typeLookup_type, builtinLookup_eq_fast]; kernel_rfl
theorem hint_rt : typeLookup (.type "reversed") "__length_hint__" = pure (some (.builtin "reversed.__length_hint__")) := by rw [typeLookup_type, builtinLookup_eq_fast]; kernel_rfl
theorem IsTup.at2 {h h' : Heap} {t : Addr} {items : Array Value} (x : IsTup h t items) (e : ∀ o, h.get? t = some o → h'.get? t = some o) : IsTup h' t items := let ⟨o, ho, r⟩ := x; ⟨o, e _ ho, r⟩
theorem walksRt {prog : Program} {w : World} {A : Around} (hh : A.handled = none) (I t : Addr) (hne : t ≠ I) (items : Array Value) (hsz : items.size ≤ sizeLine) :
    Walks prog w A I [I, t] [I] items.size (fun i v => items[items.size - 1 - i]? = some v) (fun i h => i ≤ items.size ∧ IsRt h I t ((items.size : Int) - 1 - (i : Int)) ∧ IsTup h t items) where
  sub := fun b hb => by simp at hb; simp [hb]
  frame := fun _ _ _ x hk => ⟨x.1, x.2.1.at fun o e => hk I (by simp) o e, IsTup.at2 x.2.2 fun o e => hk t (by simp) o e⟩
  item := fun i s Q E hi x hQ => by
    have e : (items.size : Int) - 1 - (i : Int) = ((items.size - 1 - i : Nat) : Int) := by omega
    have hit := x.2.1
    rw [e] at hit
    have hx : items[items.size - 1 - i]? = some (items[items.size - 1 - i]'(by omega)) := Array.getElem?_eq_getElem (by omega)
    refine next_rt_item hit x.2.2 hx hsz fun h' hit' hs' => ?_
    have e2 : ((items.size - 1 - i : Nat) : Int) - 1 = (items.size : Int) - 1 - ((i + 1 : Nat) : Int) := by omega
    rw [e2] at hit'
    exact hQ _ h' (s.toks + 1) hx ⟨hi, hit', IsTup.at2 x.2.2 fun o eo => (hs'.2 t hne).trans eo⟩ fun b o hb eo => hs'.extBut b o (fun h => hb (by simp [h])) eo
  done := fun s Q E x hQ => by
    have e : (items.size : Int) - 1 - (items.size : Int) = -1 := by omega
    have hit := x.2.1
    rw [e] at hit
    exact next_rt_end hh hit fun h' he' => hQ h' s.toks fun b o hb eo => he' b o (fun h => hb (by simp [h])) eo
  self := fun _ _ _ _ x hQ => iter_rt x.2.1 hQ
theorem slot_rt_hint : Slot "reversed" "__length_hint__" "reversed.__length_hint__" :=
  .of (owner := "reversed") (n := "__length_hint__") (by rw [typeLookup_type, builtinLookup_eq_fast]; kernel_rfl) (by decide +kernel) (by decide +kernel) (by decide +kernel)
    (by first | exact .inl (by decide +kernel) | exact .inr (by decide +kernel)) (by rw [isSubtype_type]; kernel_rfl)
theorem args_rt_hint (a : Value) : argsOk "reversed.__length_hint__" ⟨[a], []⟩ := by
  unfold argsOk; rw [signature?_of (id := "reversed.__length_hint__") (n := ['_', '_', 't', 'n', 'i', 'h', '_', 'h', 't', 'g', 'n', 'e', 'l', '_', '_']) (o := ['d', 'e', 's', 'r', 'e', 'v', 'e', 'r']) (by kernel_rfl) owner_rt]; kernel_rfl
theorem entry_rt_hint : entryFor table "reversed.__length_hint__" = some Builtin.«reversed.__length_hint__» := entryFor_of_tree (by kernel_rfl)
section
variable {prog : Program} {w : World} {A : Around} {E : Value → Shared → Prop} {s : Shared}
theorem hint_rt_run {it t : Addr} {items : Array Value} {Q : Value → Shared → Prop} (hit : IsRt s.heap it t ((items.size : Int) - 1)) (ht : IsTup s.heap t items) (hsz : items.size ≤ sizeLine)
    (hQ : ∀ tk tk', s.toks ≤ tk' → Q (.int items.size tk) { s with toks := tk' }) : wpAny (model prog w) A (call (.builtin "reversed.__length_hint__") [.ref it]) Q E s := by
  obtain ⟨o, ho, hc, hd⟩ := id hit
  rw [sizeLine_eq] at hsz
  refine wpAny_call_entry slot_rt_hint hit.typeIs entry_rt_hint ?_ (args_rt_hint _)
  unfold Builtin.«reversed.__length_hint__»
  refine wpAny_bind (wpAny_of_eq (a := Value.ref it) rfl ?_)
  try dsimp only
  refine wpAny_bind (wpAny_field ho hd (x := .ref t) rfl ?_)
  try dsimp only
  rw [if_neg (by intro z; cases z)]
  try dsimp only
  refine wpAny_bind (PyProof.Rows.len_tuple ht (by omega) ?_)
  refine wpAny_bind (wpAny_of_eq (a := some ((items.size : Nat) : Int)) rfl ?_)
  try dsimp only
  refine wpAny_bind (wpAny_field (s := { s with toks := s.toks + 1 + 1 }) ho hd (x := rawInt ((items.size : Int) - 1)) rfl ?_)
  try dsimp only
  show wpAny _ _ (if (items.size : Int) < ((items.size : Int) - 1) + 1 then _ else _) _ _ _
  rw [if_neg (by omega)]
  show wpAny _ _ (mkInt ((items.size : Int) - 1 + 1) >>= fun v => ret v) _ _ _
  refine wpAny_bind (wpAny_mkInt ?_)
  have e : (items.size : Int) - 1 + 1 = items.size := by omega
  rw [e]
  exact wpAny_pure ⟨_, rfl, hQ _ _ (by show s.toks ≤ s.toks + 1 + 1 + 1; omega)⟩
end
section
variable {prog : Program} {w : World} {A : Around} {s : Shared} {R : Result → Shared → Prop} {E : Value → Shared → Prop}
variable {I : Addr} {fp wr : List Addr} {G : Array GenState → Array GenState → Prop} {n : Nat} {P : Nat → Value → Prop} {St : Nat → Shared → Prop}
theorem extend_itT (W : WalksS prog w A.in1 I fp wr G n P St) {t : Addr} {items : Array Value} (hst0 : ∀ s, St 0 s → IsRt s.heap I t ((items.size : Int) - 1) ∧ IsTup s.heap t items) (hni : items.size = n) (hT : ∀ i s, St i s → s.TypeIs (.ref I) "reversed") (S : Addr) (res : Value) (c₀ : Nat) (hst : St 0 s) (hSf : S ∉ fp) (hI : I ∈ fp)
    (hS : s.heap.get? S = some { cls := .type "list", data := .seq #[] c₀ })
    (hR : ∀ s' acc' c', Moved (S :: wr) G s s' → s'.heap.get? S = some { cls := .type "list", dict := none, data := .seq acc' c', slots := #[] } → ItemsOf P acc' n → R (.ok (.ret res)) s') (hn : n ≤ sizeLine) :
    wpAny (model prog w) A.in1 (Builtin.List.listExtendWith (.ref S) (.ref I) res)
      (fun fin s' => match fin with | .done f => R (.ok f) s' | .again c' => c'.quiet = true ∧ codeAny (model prog w) A c' R s') (fun e s' => R (.error e) s') s := by
  have hSI : S ≠ I := fun e => hSf (e ▸ hI)
  unfold Builtin.List.listExtendWith
  refine wpAny_bind (wpAny_typeOf (hT 0 _ hst) ?_)
  have h1 : Builtin.List.listSameRef (.ref S) (.ref I) = false := by simp [Builtin.List.listSameRef, hSI]
  have n1 : (Value.type "reversed" == Value.type "list") = false := by decide
  have n2 : (Value.type "reversed" == Value.type "tuple") = false := by decide
  simp only [h1, n1, n2, Bool.or_false, Bool.false_eq_true, if_false]
  refine wpAny_bind (W.self 0 _ _ _ hst ?_)
  refine wpAny_bind (wpAny_holding ?_)
  unfold Builtin.List.listLengthHint
  refine wpAny_bind (wpAny_specialOf (hT 0 _ hst) nolen_rt ?_)
  show wpAny _ A.in1 (specialOf (Value.ref I) (Str.ofString "__length_hint__") >>= _) _ _ _
  refine wpAny_bind (wpAny_specialOf (hT 0 _ hst) hint_rt ?_)
  generalize hid : ("reversed.__length_hint__" : String) = id0
  wp_delta
  rw [show splitId id0 = some ("reversed", "__length_hint__") from by subst hid; decide +kernel]
  subst hid
  refine wpAny_bind (wpAny_isInstance (b := true) (hT 0 _ hst) (by rw [isSubtype_type]; kernel_rfl) ?_)
  simp only [Bool.not_true, Bool.false_eq_true, if_false]
  rw [if_neg (by decide +kernel)]
  refine wpAny_bind (wpAny_rule ?_)
  refine wpAny_bind (wpAny_of_eq (slot_rt_hint.bind (.ref I)) ?_)
  dsimp only
  refine wpAny_bind (wpAny_attempt (hint_rt_run (hst0 _ hst).1 (hst0 _ hst).2 (by rw [hni]; exact hn) fun tk tk' htk => ?_))
  dsimp only
  have ea : asInt? (Value.int ((items.size : Nat) : Int) tk) = pure (some ((items.size : Nat) : Int)) := rfl
  rw [ea]
  refine wpAny_bind ?_
  refine wpAny_pure ?_
  dsimp only
  have hz : items.size ≤ 16777216 := by rw [hni, ← sizeLine_eq]; exact hn
  have f1 : Builtin.List.listFitsIndex ((items.size : Nat) : Int) = true := by
    unfold Builtin.List.listFitsIndex
    simp
    omega
  have f2 : Builtin.List.listTooLong ((items.size : Nat) : Int).toNat = false := by
    unfold Builtin.List.listTooLong
    simp [sizeLine_eq]
    omega
  rw [f1, f2]
  simp only [Bool.not_true, Bool.false_eq_true, if_false]
  rw [if_neg (by omega)]
  refine wpAny_pure ?_
  have hst1 : St 0 { s with toks := tk' } := W.frame 0 s s.heap tk' hst htk fun b _ o e => e
  clear f1 f2 hz ea
  split
  · refine wpAny_bind (wpAny_rule ?_)
    refine wpAny_bind ?_
    show wpAny _ A.in1 (updateSeq S (·.push .none) >>= fun _ => updateSeq S (·.pop)) _ _ _
    refine wpAny_bind (wpAny_updateSeq hS rfl ?_)
    have hS₂ := Heap.get?_update_self (Obj.mapSeq (·.push Value.none)) hS rfl
    refine wpAny_updateSeq (hz := by seq_fits) hS₂ rfl ?_
    have hS₃ := Heap.get?_update_self (Obj.mapSeq (·.pop)) hS₂ rfl
    have oth : ∀ b o, b ≠ S → s.heap.get? b = some o → ((s.heap.update S (Obj.mapSeq (·.push Value.none))).update S (Obj.mapSeq (·.pop))).get? b = some o :=
      fun b o hb e => (Heap.get?_update_other _ _ (Ne.symm hb)).trans ((Heap.get?_update_other _ _ (Ne.symm hb)).trans e)
    refine wpAny_pure ⟨plainId_quiet F.plain_extend_loop _, codeAny_extend_loopS W hn _ hSf _ n 0 _ _ _ rfl (Nat.zero_le _)
      (W.frame 0 { s with toks := tk' } _ tk' hst1 (Nat.le_refl _) fun b hb o e => oth b o (fun h => hSf (h ▸ hb)) e) hS₃ (ItemsOf.nil P) fun s' acc' c' hm hS' hacc => ?_⟩
    exact hR s' acc' c' (Moved.trans W.gtrans ((Moved.refl W.grefl).then_heap htk fun b o hb e => oth b o (fun h => hb (h ▸ List.mem_cons_self)) e) hm) hS' hacc
  · refine wpAny_pure ⟨plainId_quiet F.plain_extend_loop _, codeAny_extend_loopS W hn _ hSf _ n 0 _ _ _ rfl (Nat.zero_le _) hst1 hS (ItemsOf.nil P) fun s' acc' c' hm hS' hacc => ?_⟩
    exact hR s' acc' c' (Moved.trans W.gtrans ((Moved.refl W.grefl).then_heap htk fun b o hb e => e) hm) hS' hacc
theorem extend_itL (W : WalksS prog w A.in1 I fp wr G n P St) (hT : ∀ i s, St i s → s.TypeIs (.ref I) "list_reverseiterator") (S : Addr) (res : Value) (c₀ : Nat) (hst : St 0 s) (hSf : S ∉ fp) (hI : I ∈ fp)
    (hS : s.heap.get? S = some { cls := .type "list", data := .seq #[] c₀ })
    (hR : ∀ s' acc' c', Moved (S :: wr) G s s' → s'.heap.get? S = some { cls := .type "list", dict := none, data := .seq acc' c', slots := #[] } → ItemsOf P acc' n → R (.ok (.ret res)) s') (hn : n ≤ sizeLine) :
    wpAny (model prog w) A.in1 (Builtin.List.listExtendWith (.ref S) (.ref I) res)
      (fun fin s' => match fin with | .done f => R (.ok f) s' | .again c' => c'.quiet = true ∧ codeAny (model prog w) A c' R s') (fun e s' => R (.error e) s') s := by
  have hSI : S ≠ I := fun e => hSf (e ▸ hI)
  unfold Builtin.List.listExtendWith
  refine wpAny_bind (wpAny_typeOf (hT 0 _ hst) ?_)
  have h1 : Builtin.List.listSameRef (.ref S) (.ref I) = false := by simp [Builtin.List.listSameRef, hSI]
  have n1 : (Value.type "list_reverseiterator" == Value.type "list") = false := by decide
  have n2 : (Value.type "list_reverseiterator" == Value.type "tuple") = false := by decide
  simp only [h1, n1, n2, Bool.or_false, Bool.false_eq_true, if_false]
  refine wpAny_bind (W.self 0 _ _ _ hst ?_)
  refine wpAny_bind (wpAny_holding ?_)
  unfold Builtin.List.listLengthHint
  refine wpAny_bind (wpAny_specialOf (hT 0 _ hst) nolen_lri ?_)
  show wpAny _ A.in1 (specialOf (Value.ref I) (Str.ofString "__length_hint__") >>= _) _ _ _
  refine wpAny_bind (wpAny_specialOf (hT 0 _ hst) hint_lri ?_)
  generalize hid : ("list_reverseiterator.__length_hint__" : String) = id0
  wp_delta
  rw [show splitId id0 = some ("list_reverseiterator", "__length_hint__") from by subst hid; decide +kernel]
  subst hid
  refine wpAny_bind (wpAny_isInstance (b := true) (hT 0 _ hst) (by rw [isSubtype_type]; kernel_rfl) ?_)
  refine wpAny_pure ?_
  rw [if_neg (by decide)]
  refine wpAny_pure ⟨plainId_quiet F.plain_extend_loop _, codeAny_extend_loopS W hn _ hSf _ n 0 _ _ _ rfl (Nat.zero_le _) hst hS (ItemsOf.nil P) fun s' acc' c' hm hS' hacc => hR s' acc' c' hm hS' hacc⟩
theorem init_itL (W : WalksS prog w A.in1 I fp wr G n P St) (hT : ∀ i s, St i s → s.TypeIs (.ref I) "list_reverseiterator") (S : Addr) (hst : St 0 s) (hSf : S ∉ fp) (hI : I ∈ fp)
    (hS : s.heap.get? S = some { cls := .type "list", data := .seq #[] })
    (hR : ∀ s' acc' c', Moved (S :: wr) G s s' → s'.heap.get? S = some { cls := .type "list", dict := none, data := .seq acc' c', slots := #[] } → ItemsOf P acc' n → R (.ok (.ret .none)) s') (hn : n ≤ sizeLine) :
    wpAny (model prog w) A.in1 (Builtin.«list.__init__» ⟨[.ref S, .ref I], []⟩)
      (fun fin s' => match fin with | .done f => R (.ok f) s' | .again c' => c'.quiet = true ∧ codeAny (model prog w) A c' R s') (fun e s' => R (.error e) s') s := by
  show wpAny _ A.in1 (do let old ← Builtin.List.listItems (.ref S); Builtin.List.listUpdate (.ref S) (fun _ => #[]); letGo old.toList.reverse; Builtin.List.listExtendWith (.ref S) (.ref I) .none) _ _ s
  refine wpAny_bind ?_
  unfold Builtin.List.listItems
  refine wpAny_bind (wpAny_seqItems hS rfl (wpAny_pure ?_))
  show wpAny _ A.in1 (updateSeq S (fun _ => #[]) >>= fun _ => letGo (#[] : Array Value).toList.reverse >>= fun _ => Builtin.List.listExtendWith (.ref S) (.ref I) .none) _ _ s
  refine wpAny_bind (wpAny_updateSeq hS rfl ?_)
  have hS₂ := Heap.get?_update_self (Obj.mapSeq (fun _ => (#[] : Array Value))) hS rfl
  have oth : ∀ b o, b ≠ S → s.heap.get? b = some o → (s.heap.update S (Obj.mapSeq (fun _ => (#[] : Array Value)))).get? b = some o :=
    fun b o hb e => (Heap.get?_update_other _ _ (Ne.symm hb)).trans e
  refine wpAny_bind (wpAny_letGo ?_)
  refine extend_itL W hT S .none _ (W.frame 0 s _ s.toks hst (Nat.le_refl _) fun b hb o e => oth b o (fun h => hSf (h ▸ hb)) e) hSf hI hS₂ (fun s' acc' c' hm hS' hacc => ?_) hn
  exact hR s' acc' c' (Moved.trans W.gtrans ((Moved.refl W.grefl).then_heap (Nat.le_refl _) fun b o hb e => oth b o (fun h => hb (h ▸ List.mem_cons_self)) e) hm) hS' hacc
theorem call_list_itL {Q : Value → Shared → Prop} (W : WalksS prog w A.in1.in1 I fp wr G n P St) (hT : ∀ i s, St i s → s.TypeIs (.ref I) "list_reverseiterator") (hst : St 0 s) (hfp : ∀ b ∈ fp, b < s.heap.objs.size) (hI : I ∈ fp)
    (hQ : ∀ s' acc' c', Moved (s.heap.objs.size :: wr) G { s with heap := s.heap.push { cls := .type "list", data := .seq #[] } } s' →
      s'.heap.get? s.heap.objs.size = some { cls := .type "list", dict := none, data := .seq acc' c', slots := #[] } → ItemsOf P acc' n → Q (.ref s.heap.objs.size) s') (hn : n ≤ sizeLine) :
    wpAny (model prog w) A (call (.type "list") [.ref I]) Q E s := by
  have hSf : s.heap.objs.size ∉ fp := fun hm => Nat.lt_irrefl _ (hfp _ hm)
  refine callType_codes (Q₁ := fun obj s₁ => obj = .ref s.heap.objs.size ∧ s₁ = { s with heap := s.heap.push { cls := .type "list", data := .seq #[] } }) F.called_list (F.typeCall_list_1 _) F.entry_list_init
    (code_list_new _ ⟨rfl, rfl⟩) fun obj s₁ h₁ => ?_
  obtain ⟨rfl, rfl⟩ := h₁
  have hS : (s.heap.push { cls := .type "list", data := .seq #[] }).get? s.heap.objs.size = some { cls := .type "list", data := .seq #[] } := Heap.get?_push_size _ rfl
  refine ⟨⟨_, hS, rfl⟩, F.args_list_init_2 _ _, init_itL W hT _ (W.frame 0 s _ s.toks hst (Nat.le_refl _) fun b _ o e => Heap.get?_push_of_some _ e) hSf hI hS (fun s' acc' c' hm hS' hacc => ?_) hn⟩
  exact ⟨rfl, hQ s' acc' c' hm hS' hacc⟩
theorem init_itT (W : WalksS prog w A.in1 I fp wr G n P St) {t : Addr} {items : Array Value} (hst0 : ∀ s, St 0 s → IsRt s.heap I t ((items.size : Int) - 1) ∧ IsTup s.heap t items) (hni : items.size = n) (hT : ∀ i s, St i s → s.TypeIs (.ref I) "reversed") (S : Addr) (hst : St 0 s) (hSf : S ∉ fp) (hI : I ∈ fp)
    (hS : s.heap.get? S = some { cls := .type "list", data := .seq #[] })
    (hR : ∀ s' acc' c', Moved (S :: wr) G s s' → s'.heap.get? S = some { cls := .type "list", dict := none, data := .seq acc' c', slots := #[] } → ItemsOf P acc' n → R (.ok (.ret .none)) s') (hn : n ≤ sizeLine) :
    wpAny (model prog w) A.in1 (Builtin.«list.__init__» ⟨[.ref S, .ref I], []⟩)
      (fun fin s' => match fin with | .done f => R (.ok f) s' | .again c' => c'.quiet = true ∧ codeAny (model prog w) A c' R s') (fun e s' => R (.error e) s') s := by
  show wpAny _ A.in1 (do let old ← Builtin.List.listItems (.ref S); Builtin.List.listUpdate (.ref S) (fun _ => #[]); letGo old.toList.reverse; Builtin.List.listExtendWith (.ref S) (.ref I) .none) _ _ s
  refine wpAny_bind ?_
  unfold Builtin.List.listItems
  refine wpAny_bind (wpAny_seqItems hS rfl (wpAny_pure ?_))
  show wpAny _ A.in1 (updateSeq S (fun _ => #[]) >>= fun _ => letGo (#[] : Array Value).toList.reverse >>= fun _ => Builtin.List.listExtendWith (.ref S) (.ref I) .none) _ _ s
  refine wpAny_bind (wpAny_updateSeq hS rfl ?_)
  have hS₂ := Heap.get?_update_self (Obj.mapSeq (fun _ => (#[] : Array Value))) hS rfl
  have oth : ∀ b o, b ≠ S → s.heap.get? b = some o → (s.heap.update S (Obj.mapSeq (fun _ => (#[] : Array Value)))).get? b = some o :=
    fun b o hb e => (Heap.get?_update_other _ _ (Ne.symm hb)).trans e
  refine wpAny_bind (wpAny_letGo ?_)
  refine extend_itT W hst0 hni hT S .none _ (W.frame 0 s _ s.toks hst (Nat.le_refl _) fun b hb o e => oth b o (fun h => hSf (h ▸ hb)) e) hSf hI hS₂ (fun s' acc' c' hm hS' hacc => ?_) hn
  exact hR s' acc' c' (Moved.trans W.gtrans ((Moved.refl W.grefl).then_heap (Nat.le_refl _) fun b o hb e => oth b o (fun h => hb (h ▸ List.mem_cons_self)) e) hm) hS' hacc
theorem call_list_itT {Q : Value → Shared → Prop} (W : WalksS prog w A.in1.in1 I fp wr G n P St) {t : Addr} {items : Array Value} (hst0 : ∀ s, St 0 s → IsRt s.heap I t ((items.size : Int) - 1) ∧ IsTup s.heap t items) (hni : items.size = n) (hT : ∀ i s, St i s → s.TypeIs (.ref I) "reversed") (hst : St 0 s) (hfp : ∀ b ∈ fp, b < s.heap.objs.size) (hI : I ∈ fp)
    (hQ : ∀ s' acc' c', Moved (s.heap.objs.size :: wr) G { s with heap := s.heap.push { cls := .type "list", data := .seq #[] } } s' →
      s'.heap.get? s.heap.objs.size = some { cls := .type "list", dict := none, data := .seq acc' c', slots := #[] } → ItemsOf P acc' n → Q (.ref s.heap.objs.size) s') (hn : n ≤ sizeLine) :
    wpAny (model prog w) A (call (.type "list") [.ref I]) Q E s := by
  have hSf : s.heap.objs.size ∉ fp := fun hm => Nat.lt_irrefl _ (hfp _ hm)
  refine callType_codes (Q₁ := fun obj s₁ => obj = .ref s.heap.objs.size ∧ s₁ = { s with heap := s.heap.push { cls := .type "list", data := .seq #[] } }) F.called_list (F.typeCall_list_1 _) F.entry_list_init
    (code_list_new _ ⟨rfl, rfl⟩) fun obj s₁ h₁ => ?_
  obtain ⟨rfl, rfl⟩ := h₁
  have hS : (s.heap.push { cls := .type "list", data := .seq #[] }).get? s.heap.objs.size = some { cls := .type "list", data := .seq #[] } := Heap.get?_push_size _ rfl
  refine ⟨⟨_, hS, rfl⟩, F.args_list_init_2 _ _, init_itT W hst0 hni hT _ (W.frame 0 s _ s.toks hst (Nat.le_refl _) fun b _ o e => Heap.get?_push_of_some _ e) hSf hI hS (fun s' acc' c' hm hS' hacc => ?_) hn⟩
  exact ⟨rfl, hQ s' acc' c' hm hS' hacc⟩
end
end RT

namespace V3
open PySem PySem.Spec PyProof.Rows L2 RT
/-- list(reversed(x)), x a list or a tuple: a new list -/
def tListRev (K : PySem.W.Frag) (te : TE) : TE := fun σ H Q => te σ H fun v H1 => ∃ (a : Addr) (xs : List V), v = .ref a ∧ (SqL K H1 a xs ∨ SqT K H1 a xs) ∧ ∀ q, H1 q = none → Q (.ref q) (upd H1 q (.lst xs.reverse))
section
variable {X : Cx}
theorem rev_inv {pins : List (Addr × Obj)} {σ : L2.St} {H1 : Hp} {Q : VK} {s1 s' : Shared} {xs : List V} {its : List Value} {o0 : Obj} {acc : Array Value} {c' : Nat} {G : Array GenState → Array GenState → Prop} (I1 : Inv X pins σ H1 s1) (rv : Vals xs its) (hz : xs.length ≤ sizeLine)
    (he : s' = { s1 with heap := s'.heap, toks := s'.toks }) (hm : ∀ b o, b ≠ (s1.heap.push o0).objs.size → b ≠ s1.heap.objs.size → s1.heap.get? b = some o → s'.heap.get? b = some o) (hS : s'.heap.get? (s1.heap.push o0).objs.size = some { cls := .type "list", dict := none, data := .seq acc c', slots := #[] })
    (hi : ItemsOf (fun i v => its.toArray[its.toArray.size - 1 - i]? = some v) acc its.toArray.size) (q : ∀ q, H1 q = none → Q (.ref q) (upd H1 q (.lst xs.reverse))) : EP X pins σ Q (.ref (s1.heap.push o0).objs.size) s' := by
  have pushz : (s1.heap.push o0).objs.size = s1.heap.objs.size + 1 := by simp [Heap.push]
  have k : ∀ b o, s1.heap.get? b = some o → s'.heap.get? b = some o := fun b o e => by
    have hb := Heap.lt_size e
    refine hm b o (fun z => ?_) (Nat.ne_of_lt hb) e
    rw [z, pushz] at hb
    exact absurd hb (Nat.not_lt.mpr (Nat.le_succ _))
  have hp : s1.heap.objs.size ≤ (s1.heap.push o0).objs.size := by
    rw [pushz]
    exact Nat.le_succ _
  have hn0 : H1 (s1.heap.push o0).objs.size = none := I1.hok.fresh hp
  rw [he]
  refine ⟨.ref _, upd H1 _ (.lst xs.reverse), ?_, rfl, q _ hn0⟩
  exact I1.call (ch := []) (Un.laid k hp hn0) (I1.hok.laid k hp ⟨by rw [List.length_reverse]; exact hz, acc.toList, c', vals_rev rv hi, by rw [Array.toArray_toList]; exact hS⟩) I1.bare (fun _ z => nomatch z)
theorem pe_listRev (K : PySem.W.Frag) {e : Expr} {te : TE} {p p2 pos pos2 : Pos} (hc : X.calm = true) (hg : Gl X "list") (hm : X.mg "list" = none) (hg2 : Gl X "reversed") (hm2 : X.mg "reversed" = none) (he : PE X e te)
    (hs : starEach [e] X.env = (false, eval e X.env) :: starEach [] X.env := by rfl)
    (hs2 : starEach [.Call (.Name "reversed" p2) [e] [] pos2] X.env = (false, eval (.Call (.Name "reversed" p2) [e] [] pos2) X.env) :: starEach [] X.env := by rfl) (hK : X.K = K := by rfl) :
    PE X (.Call (.Name "list" p) [.Call (.Name "reversed" p2) [e] [] pos2] [] pos) (tListRev K te) := by
  subst hK
  refine ⟨fun pins s σ H Q I h => ?_⟩
  refine Call_ (ld_blt I hg hm boot_list (PyProof.Rows.callWith_type1 (args_cons (Call_ (ld_blt I hg2 hm2 PyProof.Rows.boot_reversed (PyProof.Rows.callWith_type1 (args_cons (thn (he.run pins s σ H _ I h) fun u s1 ⟨v, H1, I1, r1, q1⟩ => args_nil ?_) hs) hs rfl))) hs2) hs2 rfl))
  obtain ⟨a, xs, ev, hq, q⟩ := q1
  subst ev
  obtain rfl : u = Value.ref a := r1
  have pushz : ∀ (h : Heap) (o : Obj), (h.push o).objs.size = h.objs.size + 1 := fun h o => by simp [Heap.push]
  rcases hq with hq | hq
  · obtain ⟨its, rv, p', hz⟩ := I1.list hq
    refine call_reversed_list p'.isList (args_nil ?_)
    have hl := p'.isList
    obtain ⟨ol, hol, _⟩ := id hl
    have hne : a ≠ s1.heap.objs.size := Nat.ne_of_lt (Heap.lt_size hol)
    have hn : its.toArray.size ≤ sizeLine := by rw [List.size_toArray, ← rv.length]; exact hz
    have W := (Walks.listRev (prog := X.prog) (w := X.w) (A := X.A.in1.in1) (I1.ok.hd hc) s1.heap.objs.size a hne its.toArray).toS
    have hit0 : (s1.heap.push (revObj a ((its.toArray.size : Int) - 1))).IsRevIter s1.heap.objs.size a ((its.toArray.size : Int) - 1) := ⟨_, Heap.get?_push_size _ rfl, rfl, rfl⟩
    have e0 : ((its.toArray.size : Nat) : Int) - 1 - ((0 : Nat) : Int) = (its.toArray.size : Int) - 1 := by omega
    refine call_list_itL (s := { s1 with heap := s1.heap.push (revObj a ((its.toArray.size : Int) - 1)) }) W (fun i s z => Heap.IsRevIter.typeIs z.2.1) ⟨Nat.zero_le _, by rw [e0]; exact hit0, hl.push _⟩ (fun b hb => ?_) (by simp) (fun s' acc c' hm hS hi => ?_) hn
    · show b < (s1.heap.push _).objs.size
      rw [pushz]
      rcases List.mem_cons.mp hb with z | z
      · rw [z]
        exact Nat.lt_succ_self _
      · rw [List.mem_singleton.mp z]
        exact Nat.lt_succ_of_lt (Heap.lt_size hol)
    · refine rev_inv (G := fun _ _ => True) I1 rv hz (by have ee := Moved.eq_with hm; exact ee) (fun b o h1 h2 e => hm.heap b o (fun z => ?_) (Heap.get?_push_of_some _ (Heap.get?_push_of_some _ e))) hS hi q
      rcases List.mem_cons.mp z with z | z
      · exact h1 z
      · exact h2 (List.mem_singleton.mp z)
  · obtain ⟨its, rv, p', hz⟩ := I1.tuple hq
    have hll := rv.length
    have h63 := line63
    refine call_reversed_tup p' (fun A E Q k => len_tuple p' (by simp only [List.size_toArray] <;> omega) k) (args_nil ?_)
    obtain ⟨ol, hol, _⟩ := id p'
    have hne : a ≠ s1.heap.objs.size := Nat.ne_of_lt (Heap.lt_size hol)
    have hn : its.toArray.size ≤ sizeLine := by rw [List.size_toArray, ← rv.length]; exact hz
    have W := (walksRt (prog := X.prog) (w := X.w) (A := X.A.in1.in1) (I1.ok.hd hc) s1.heap.objs.size a hne its.toArray hn).toS
    have hit0 : IsRt (s1.heap.push (rtObj a ((its.toArray.size : Int) - 1))) s1.heap.objs.size a ((its.toArray.size : Int) - 1) := ⟨_, Heap.get?_push_size _ rfl, rfl, rfl⟩
    have e0 : ((its.toArray.size : Nat) : Int) - 1 - ((0 : Nat) : Int) = (its.toArray.size : Int) - 1 := by omega
    have I2 : Inv X pins σ H1 { s1 with toks := s1.toks + 1 + 1 } := I1.tok _
    refine call_list_itT (s := { s1 with heap := s1.heap.push (rtObj a ((its.toArray.size : Int) - 1)), toks := s1.toks + 1 + 1 }) W (t := a) (items := its.toArray) (fun s z => ⟨by have := z.2.1; rw [e0] at this; exact this, z.2.2⟩) rfl (fun i s z => IsRt.typeIs z.2.1) ⟨Nat.zero_le _, by rw [e0]; exact hit0, IsTup.at2 p' fun o e => Heap.get?_push_of_some _ e⟩ (fun b hb => ?_) (by simp) (fun s' acc c' hm hS hi => ?_) hn
    · show b < (s1.heap.push _).objs.size
      rw [pushz]
      rcases List.mem_cons.mp hb with z | z
      · rw [z]
        exact Nat.lt_succ_self _
      · rw [List.mem_singleton.mp z]
        exact Nat.lt_succ_of_lt (Heap.lt_size hol)
    · refine rev_inv (s1 := { s1 with toks := s1.toks + 1 + 1 }) (G := fun _ _ => True) I2 rv hz (by have ee := Moved.eq_with hm; exact ee) (fun b o h1 h2 e => hm.heap b o (fun z => ?_) (Heap.get?_push_of_some _ (Heap.get?_push_of_some _ e))) hS hi q
      rcases List.mem_cons.mp z with z | z
      · exact h1 z
      · exact h2 (List.mem_singleton.mp z)
end
end V3
set_option Elab.async false
set_option linter.all false
set_option maxRecDepth 100000
set_option maxHeartbeats 4000000
/-! sorted(xs, key = lambda x: ..), the keys tuples of ints -/
namespace GS
open PySem PySem.Spec PyProof.Rows L2 LamX
section
variable {X : Cx} {pins : List (Addr × Obj)} {σ : L2.St} {H : Hp} {s : Shared}
/-- what was new at an earlier time, and is nobody's, is written -/
theorem inv_raw {H0 : Hp} {s0 : Shared} {b : Addr} {g : Obj → Obj} (I0 : Inv X pins σ H0 s0) (I : Inv X pins σ H s) (hb : s0.heap.objs.size ≤ b) (hn : H b = none) : Inv X pins σ H { s with heap := s.heap.update b g } := by
  have lt : ∀ c u, s0.heap.get? c = some u → c ≠ b := fun c u e z => by
    have h1 := Heap.lt_size e
    rw [z] at h1
    exact Nat.lt_irrefl _ (Nat.lt_of_lt_of_le h1 hb)
  refine I.step (g' := s.gens) (t' := s.toks) (d' := s.drawn) (ch := [b]) (fun c hc => ?_) (fun c o _ _ hc e _ => ?_) (fun c o _ _ hc e _ => ⟨o.slots, ?_⟩) (fun c o _ _ n => n) (fun c o hc e => ⟨o, ?_⟩) (fun _ _ e => e) (fun _ _ _ e => e) (fun c ps e => ⟨#[], by rw [e]; simp⟩)
    (fun m hm => ?_) (fun c u e => ?_) I.bare
  · rw [List.mem_singleton.mp hc]
    refine ⟨.inr (Nat.le_trans I0.sz hb), fun z => ?_, fun x c e z => ?_, fun p hp => lt _ _ (I0.pin p hp).1⟩
    · have h1 := I0.lt
      rw [← z] at h1
      exact Nat.lt_irrefl _ (Nat.lt_of_lt_of_le h1 hb)
    · obtain ⟨v, o, ho, _⟩ := I0.cell x c e
      exact lt c _ ho z
  · exact (Heap.get?_update_ne _ _ _ _ (fun z => hc (by rw [z]; exact List.mem_singleton.mpr rfl))).trans e
  · exact (Heap.get?_update_ne _ _ _ _ (fun z => hc (by rw [z]; exact List.mem_singleton.mpr rfl))).trans e
  · exact (Heap.get?_update_ne _ _ _ _ (fun z => hc (by rw [z]; exact List.mem_singleton.mpr rfl))).trans e
  · obtain ⟨ob, es, ep, ho, r⟩ := hm
    have nl : X.env.locals ≠ b := fun z => by
      have h1 := I0.lt
      rw [z] at h1
      exact Nat.lt_irrefl _ (Nat.lt_of_lt_of_le h1 hb)
    exact ⟨ob, es, ep, (Heap.get?_update_ne _ _ _ _ nl).trans ho, r⟩
  · refine (I.hok c u e).stay (fun d v hd q => ?_) (fun d q => q) (fun d xs q => q)
    have nd : d ≠ b := by
      rcases hd with z | z
      · rw [z]
        exact ne_of_none e hn
      · exact ne_of_none z hn
    exact (Heap.get?_update_ne _ _ _ _ nd).trans q
theorem room_in1 {k : Nat} {A : Around} (r : Room (k + 1) A) : Room k A.in1.in1 := ⟨r.hd, by have := r.dp; show A.depth + 3 * k + 5 < _; omega, by have := r.un; show A.units + 1 + 1 + 16 * k + 200 < _; omega⟩

/-- sorted(xs, key = f): f a kept lambda that makes of each item a new tuple of d ints -/
def rSortK (P : Program) (w : World) (K : PySem.W.Frag) (mg : Str → Option Value) (base : Heap) (k d : Nat) : List V → List V → Hp → VK → Prop := fun vs zs H Q => ∃ (a f c' : Addr) (q : Str) (params : Arguments) (body : Expr) (scope : Scope) (xs : List V) (kz : V → List Int) (sp : Sp),
  vs = [.ref a] ∧ zs = [.ref f] ∧ SqL K H a xs ∧ (∀ x ∈ xs, ∃ t, x = .ref t) ∧ H f = some (LamO c' q params body scope f) ∧ H c' = some (CodeO c' q) ∧ LamRun P w K mg base CX0 k q params body scope 1 sp ∧
  (∀ x ∈ xs, (kz x).length = d ∧ ∀ H1, Same H H1 → sp [x] H1 (fun y H2 => ∃ t, y = .ref t ∧ Same H1 H2 ∧ H2 t = some (.tup ((kz x).map V.int))) E0) ∧
  ∀ (ys : List V) (p : Addr) (H' : Hp), Same H H' → H' p = none → ys.Perm xs → ys.Pairwise (fun x y => HT.lexLt (kz y) (kz x) = false) → Q (.ref p) (upd H' p (.lst ys))
/-- ahead of turn j of the keys' loop: e1 the emptied list's mark, kS the keys' own list -/
structure KJ (X : Cx) (pins : List (Addr × Obj)) (σ : L2.St) (H : Hp) (xs : List V) (kz : V → List Int) (a kS : Addr) (e1 j : Nat) (s' : Shared) : Prop where
  ex : ∃ (H' : Hp) (e : Nat) (ts : List Addr), Inv X pins σ H' s' ∧ Same H H' ∧ s'.heap.get? a = some (seqObj "list" #[] e1) ∧ H' a = none ∧ s'.heap.get? kS = some (seqObj "list" (ts.map Value.ref).toArray e) ∧ H' kS = none ∧
    Paired (fun t x => H' t = some (.tup ((kz x).map V.int))) ts (xs.take j)
theorem pd_same {xs : List V} {kz : V → List Int} {H H' : Hp} {ts : List Addr} (e : Same H H') (h : Paired (fun t x => H t = some (.tup ((kz x).map V.int))) ts xs) : Paired (fun t x => H' t = some (.tup ((kz x).map V.int))) ts xs := by
  induction h with
  | nil => exact .nil
  | cons r t ih => exact .cons (e _ _ r) ih
theorem pd_snoc {α β : Type} {F : α → β → Prop} {as : List α} {bs : List β} {a : α} {b : β} (h : Paired F as bs) (r : F a b) : Paired F (as ++ [a]) (bs ++ [b]) := by
  induction h with
  | nil => exact .cons r .nil
  | cons r' t ih => exact .cons r' ih
theorem pd_len' {α β : Type} {F : α → β → Prop} {as : List α} {bs : List β} (h : Paired F as bs) : as.length = bs.length := by
  induction h with
  | nil => rfl
  | cons r t ih => rw [List.length_cons, List.length_cons, ih]
theorem pd_at' {α β : Type} {F : α → β → Prop} : ∀ {as : List α} {bs : List β} {i : Nat} {a : α}, Paired F as bs → as[i]? = some a → ∃ b, bs[i]? = some b ∧ F a b
  | _, _, i, a, .nil, h => by simp at h
  | _, _, 0, a, .cons r t, h => by
    simp only [List.getElem?_cons_zero, Option.some.injEq] at h
    exact ⟨_, rfl, by rw [← h]; exact r⟩
  | _, _, i + 1, a, .cons r t, h => by
    rw [List.getElem?_cons_succ] at h ⊢
    exact pd_at' t h
/-- the keys' loop -/
theorem keys_run {I0s : Shared} {Hs : Hp} {k d : Nat} {a kS f c' : Addr} {e1 : Nat} {q : Str} {params : Arguments} {body : Expr} {scope : Scope} {xs : List V} {its : List Value} {kz : V → List Int} {sp : Sp} {R : PySem.Fin → Shared → Prop} {s1 : Shared}
    (I0 : Inv X pins σ Hs I0s) (fa : I0s.heap.objs.size ≤ a) (fk : I0s.heap.objs.size ≤ kS) (nak : kS ≠ a) (hr : Room (k + 1) X.A) (rv : Vals xs its) (hz : its.length ≤ sizeLine)
    (hf : H f = some (LamO c' q params body scope f)) (hc : H c' = some (CodeO c' q)) (run : LamRun X.prog X.w X.K X.mg X.base CX0 k q params body scope 1 sp)
    (hsp : ∀ x ∈ xs, (kz x).length = d ∧ ∀ H1, Same H H1 → sp [x] H1 (fun y H2 => ∃ t, y = .ref t ∧ Same H1 H2 ∧ H2 t = some (.tup ((kz x).map V.int))) E0)
    (h0 : KJ X pins σ H xs kz a kS e1 0 s1)
    (h : ∀ s' keys, KJ X pins σ H xs kz a kS e1 xs.length s' → (∃ e, s'.heap.get? kS = some (seqObj "list" keys e)) → wpAny (model X.prog X.w) X.A.in1.in1 (ksk_end a false its.toArray e1 (.ref kS) keys) R X.xe s') :
    wpAny (model X.prog X.w) X.A.in1.in1 (ksk_rest a (.ref f) false its.toArray e1 (.ref kS)) R X.xe s1 := by
  have hlen := rv.length
  have notfr : ∀ b, I0s.heap.objs.size ≤ b → b ∉ frs X.stack := fun b hb z => by
    rcases List.mem_cons.mp (I0.stkSub _ z) with e | e
    · have h1 := I0.lt
      rw [← e] at h1
      exact Nat.lt_irrefl _ (Nat.lt_of_lt_of_le h1 hb)
    · exact I0.nofs hb e
  unfold ksk_rest
  refine wpAny_bind (wpAny_rule ?_)
  first
    | rw [List.forIn_toArray]
    | (rw [← Array.forIn_toList]; simp only [List.toList_toArray])
  refine wpAny_bind (ksk_fold (fun i s' => KJ X pins σ H xs kz a kS e1 i s') its 0 s1 h0 ?step ?done)
  case step =>
    intro j u s' hu hJ
    rw [Nat.zero_add] at hJ ⊢
    obtain ⟨H', e, ts, I', S', ga, na, gk, nk, pk⟩ := hJ.ex
    have jl : j < xs.length := by
      rw [hlen]
      exact (List.getElem?_eq_some_iff.mp hu).1
    obtain ⟨x, hx, rx⟩ : ∃ x, xs[j]? = some x ∧ RelV x u := by
      obtain ⟨u', hu', r'⟩ := Vals.get rv (List.getElem?_eq_getElem jl)
      rw [hu] at hu'
      cases hu'
      exact ⟨_, List.getElem?_eq_getElem jl, r'⟩
    obtain ⟨hd, go⟩ := hsp x (List.mem_of_getElem? hx)
    have cr := run f c' X.A.in1.in1 X.stack s' H' [u] [x] _ E0 (room_in1 hr) I'.env0.in1.in1 (S' _ _ hf) (S' _ _ hc) (.cons rx .nil) rfl (go H' S')
    refine wpAny_bind (wpAny_attempt (wpAny_call (codeAny_mono cr fun r s'' hq => ?_)))
    cases r with
    | error e => exact (show False from hq).elim
    | ok fl =>
      cases fl with
      | next => exact False.elim hq
      | brk => exact False.elim hq
      | cont => exact False.elim hq
      | ret v =>
        obtain ⟨y, H2, os, bare, un, hok, ry, t, ey, S2, ht⟩ := hq
        subst ey
        obtain rfl : v = Value.ref t := ry
        obtain ⟨w1, H3, I2, _, ew, eH⟩ := I'.after (Q := fun v1 H1 => v1 = V.ref t ∧ H1 = H2) ⟨.ref t, H2, os, bare, un, hok, rfl, rfl, rfl⟩
        rw [eH] at I2
        have gk2 := un.keep kS _ gk nk (notfr kS fk) (by simp)
        have ga2 := un.keep a _ ga na (notfr a fa) (by simp)
        have nk2 := un.free kS _ gk nk (by simp)
        have na2 := un.free a _ ga na (by simp)
        have tl : ts.length = j := by
          rw [pd_len' pk, List.length_take]
          omega
        try dsimp only
        refine wpAny_bind (listUpdate_at gk2 rfl ?_ (by rw [List.size_toArray, List.length_map]; omega) (by rw [Array.size_push, List.size_toArray, List.length_map]; omega))
        obtain ⟨c2, hc2⟩ : ∃ c2, (s''.heap.update kS (Obj.mapSeq (·.push (Value.ref t)))).get? kS = some (seqObj "list" ((ts.map Value.ref).toArray.push (Value.ref t)) c2) := ⟨_, get?_update_seq gk2 (·.push (Value.ref t))⟩
        refine wpAny_pure ⟨rfl, ⟨H2, c2, ts ++ [t], inv_raw I0 I2 fk nk2, S'.trans S2, (Heap.get?_update_ne _ _ _ _ nak.symm).trans ga2, na2, ?_, nk2, ?_⟩⟩
        · have e3 : ((ts ++ [t]).map Value.ref).toArray = (ts.map Value.ref).toArray.push (Value.ref t) := by simp
          rw [e3]
          exact hc2
        · have e4 : xs.take (j + 1) = xs.take j ++ [x] := by
            rw [List.take_add_one, hx]
            rfl
          rw [e4]
          exact pd_snoc (pd_same S2 pk) ht
  case done =>
    intro s' hJ
    rw [Nat.zero_add, ← hlen] at hJ
    obtain ⟨H', e, ts, I', S', ga, na, gk, nk, pk⟩ := hJ.ex
    try dsimp only
    refine wpAny_bind (listItems_at gk rfl ?_)
    exact h s' _ hJ ⟨e, gk⟩

/-- the pairs (key, item) by their keys' ints -/
theorem keys_end {I0s : Shared} {Hs : Hp} {d : Nat} {a kS : Addr} {e1 : Nat} {xs : List V} {its : List Value} {kz : V → List Int} {R : PySem.Fin → Shared → Prop} {s' : Shared} {keys : Array Value}
    (I0 : Inv X pins σ Hs I0s) (fa : I0s.heap.objs.size ≤ a) (fk : I0s.heap.objs.size ≤ kS) (nak : kS ≠ a) (hd : 1 ≤ d) (rv : Vals xs its) (hz : its.length ≤ sizeLine) (hx : ∀ x ∈ xs, (kz x).length = d) (href : ∀ x ∈ xs, ∃ t, x = V.ref t)
    (hJ : KJ X pins σ H xs kz a kS e1 xs.length s') (hk : ∃ e, s'.heap.get? kS = some (seqObj "list" keys e))
    (fin : ∀ (h' : Heap) (H' : Hp) (ys : List V), Inv X pins σ (upd H' a (.lst ys)) { s' with heap := h' } → Same H H' → H' a = none → ys.Perm xs → ys.Pairwise (fun x y => HT.lexLt (kz y) (kz x) = false) → R (.done (.ret .none)) { s' with heap := h' }) :
    wpAny (model X.prog X.w) X.A.in1.in1 (ksk_end a false its.toArray e1 (.ref kS) keys) R X.xe s' := by
  obtain ⟨H', e, ts, I', S', ga, na, gk, nk, pk⟩ := hJ.ex
  rw [List.take_of_length_le (Nat.le_refl _)] at pk
  obtain rfl : keys = (ts.map Value.ref).toArray := by
    obtain ⟨e', hk⟩ := hk
    have z := hk.symm.trans gk
    injection z with z
    injection z with _ _ z _
    injection z
  obtain ⟨e2, e3⟩ := bkV_refs rv href
  have hlen := rv.length
  have lts := pd_len' pk
  have tup : ∀ j t x, ts[j]? = some t → xs[j]? = some x → TS.TupInts s'.heap (.ref t) (kz x) := fun j t x h1 h2 => by
    have hh : H' t = some (.tup ((kz x).map V.int)) := by
      obtain ⟨x', h3, h4⟩ := pd_at' pk h1
      rw [h2] at h3
      cases h3
      exact h4
    exact tupI_raw I' (SqT.of hh)
  have ti : ∀ v ∈ ts.map Value.ref, TS.TupInts s'.heap v (TS.intsOf s'.heap v) ∧ (TS.intsOf s'.heap v).length = d := fun v hv => by
    obtain ⟨t, ht, rfl⟩ := List.mem_map.mp hv
    obtain ⟨j, hj⟩ := List.mem_iff_getElem?.mp ht
    obtain ⟨x, h3, _⟩ := pd_at' pk hj
    have z := tup j t x hj h3
    rw [z.ints]
    exact ⟨z, hx x (List.mem_of_getElem? h3)⟩
  have zl : ((ts.map Value.ref).toArray.zip its.toArray).toList = (ts.map Value.ref).zip its := by simp
  have rel : ∀ p ∈ (ts.map Value.ref).zip its, TS.intsOf s'.heap p.1 = kz (bkV p.2) ∧ p.1 ∈ ts.map Value.ref ∧ p.2 ∈ its := fun p hp => by
    obtain ⟨j, hj⟩ := List.mem_iff_getElem?.mp hp
    rw [List.getElem?_zip_eq_some] at hj
    obtain ⟨h1, h2⟩ := hj
    obtain ⟨t, ht, et⟩ : ∃ t, ts[j]? = some t ∧ p.1 = Value.ref t := by
      rw [List.getElem?_map] at h1
      cases q : ts[j]? with
      | none =>
        rw [q] at h1
        cases h1
      | some t =>
        rw [q] at h1
        exact ⟨t, rfl, (Option.some.inj h1).symm⟩
    have hxj : xs[j]? = some (bkV p.2) := by rw [e2, List.getElem?_map, h2]; rfl
    have z := (tup j t _ ht hxj).ints
    rw [et]
    exact ⟨z, List.mem_map.mpr ⟨t, List.mem_of_getElem? ht, rfl⟩, List.mem_of_getElem? h2⟩
  have tail : ∀ st : SortSt, SrtO.Srtd (SrtO.lt2 fun v u => HT.lexLt (TS.intsOf s'.heap v) (TS.intsOf s'.heap u)) (arrOf st).toList → (arrOf st).toList.Perm ((ts.map Value.ref).zip its) → failedOf st = none →
      wpAny (model X.prog X.w) X.A.in1.in1 (ksk_tail a false e1 (.ref kS) st) R X.xe s' := fun st hs hp hfl => by
    have hpn : ((arrOf st).toList.map Prod.snd).Perm its := by
      have q := hp.map Prod.snd
      rw [List.map_snd_zip (by rw [List.length_map, lts]; omega)] at q
      exact q
    have eo : ((arrOf st).map (·.2)).toList = (arrOf st).toList.map Prod.snd := by rw [Array.toList_map]
    have hsz : ((arrOf st).map (·.2)).size = its.length := by
      rw [← Array.length_toList, eo, hpn.length_eq]
    have ga1 : (s'.heap.update kS (Obj.mapSeq fun _ => (#[] : Array Value))).get? a = some (seqObj "list" #[] e1) := (Heap.get?_update_ne _ _ _ _ nak.symm).trans ga
    have J1 := inv_raw (g := Obj.mapSeq fun _ => (#[] : Array Value)) I0 I' fk nk
    have J2 := inv_raw (g := Obj.mapSeq fun _ => (arrOf st).map (·.2)) I0 J1 fa na
    obtain ⟨c2, hc2⟩ : ∃ c2, ((s'.heap.update kS (Obj.mapSeq fun _ => (#[] : Array Value))).update a (Obj.mapSeq fun _ => (arrOf st).map (·.2))).get? a = some (seqObj "list" ((arrOf st).map (·.2)) c2) :=
      ⟨_, get?_update_seq ga1 fun _ => (arrOf st).map (·.2)⟩
    have href2 : ∀ u ∈ (arrOf st).toList.map Prod.snd, ∃ b, u = Value.ref b := fun u hu => e3 u (hpn.mem_iff.mp hu)
    unfold ksk_tail
    try dsimp only
    refine wpAny_bind (listUpdate_at gk rfl ?_ (by rw [List.size_toArray, List.length_map]; omega) (Nat.zero_le _))
    refine wpAny_bind (wpAny_letGo ?_)
    refine wpAny_bind (seqEpoch_at ga1 rfl ?_)
    refine wpAny_bind (listUpdate_at ga1 rfl ?_ (Nat.zero_le _) (by simp only [Bool.false_eq_true, if_false]; omega))
    rw [hfl]
    simp only [bne_self_eq_false, Bool.false_eq_true, if_false]
    refine wpAny_pure (fin _ H' (((arrOf st).toList.map Prod.snd).map bkV) (track_new I0 J2 fa na ⟨?_, (arrOf st).toList.map Prod.snd, c2, bkV_vals href2, ?_⟩) S' na ?_ ?_)
    · rw [List.length_map, hpn.length_eq]
      exact hz
    · have ea : ((arrOf st).toList.map Prod.snd).toArray = (arrOf st).map (·.2) := by rw [← eo, Array.toArray_toList]
      rw [ea]
      exact hc2
    · rw [e2]
      exact hpn.map bkV
    · rw [List.pairwise_map, List.pairwise_map]
      refine List.Pairwise.imp_of_mem (fun {p q} mp mq hr => ?_) hs
      rw [← (rel p (hp.mem_iff.mp mp)).1, ← (rel q (hp.mem_iff.mp mq)).1]
      exact hr
  unfold ksk_end
  try dsimp only
  simp only [Bool.false_eq_true, if_false]
  by_cases h2 : its.toArray.size < 2
  · rw [if_pos h2, if_pos h2]
    refine wpAny_bind (wpAny_pure ?_)
    rw [StateT.run_pure]
    refine wpAny_bind (wpAny_pure ?_)
    try dsimp only
    refine tail (SortSt.mk' general' ((ts.map Value.ref).toArray.zip its.toArray) #[] 7 none) ?_ ?_ rfl
    · show SrtO.Srtd _ ((ts.map Value.ref).toArray.zip its.toArray).toList
      rw [zl]
      have hl : ((ts.map Value.ref).zip its).length < 2 := by
        rw [List.length_zip]
        rw [List.size_toArray] at h2
        omega
      match (ts.map Value.ref).zip its, hl with
      | [], _ => exact List.Pairwise.nil
      | [_], _ => exact List.pairwise_singleton _ _
      | _ :: _ :: l, h => exact absurd h (by rw [List.length_cons, List.length_cons]; omega)
    · show ((ts.map Value.ref).toArray.zip its.toArray).toList.Perm _
      rw [zl]
  · rw [if_neg h2, if_neg h2]
    have h2' : 2 ≤ ts.length := by
      rw [List.size_toArray] at h2
      omega
    obtain ⟨fs, k1, k2, k3⟩ := heads (h := s'.heap) hd (ts.map Value.ref) fun v hv => ⟨_, ti v hv⟩
    refine wpAny_bind (PySem.W.kat_kind (T := .type "int") k1 (by rw [k2, List.length_map]; omega) (fun f hm => ?_) (by rfl) ?_)
    · obtain ⟨n, t, rfl⟩ := k3 f hm
      exact PySem.W.Looks.of_pure rfl
    have e : (Value.type "int" != Value.type "tuple") = true := by first | decide +kernel | rfl | decide
    rw [e]
    have hall : SrtO.AllL (fun p : PyProof.Rows.Keyed => p.1 ∈ ts.map Value.ref) ((ts.map Value.ref).toArray.zip its.toArray).toList := fun p hm => by
      rw [zl] at hm
      exact (rel p hm).2.1
    refine wpAny_bind (wpAny_mono (SrtO.wpS_sortO (st0 := SortSt.mk' (tuples' true) ((ts.map Value.ref).toArray.zip its.toArray) #[] 7 none)
      (Q := fun _ st' => SrtO.Srtd (SrtO.lt2 fun v u => HT.lexLt (TS.intsOf s'.heap v) (TS.intsOf s'.heap u)) (arrOf st').toList ∧ (arrOf st').toList.Perm ((ts.map Value.ref).zip its) ∧ failedOf st' = none)
      (SrtO.swo2 (NtL.swo_lexL (TS.intsOf s'.heap))) (cmpL (TS.intsOf s'.heap) ti) rfl hall rfl rfl fun st' a1 a2 a3 => ⟨a1, by have q := a2.perm; rw [← zl]; exact q, a3⟩) ?_ fun _ _ e => e)
    rintro ⟨⟨⟩, st'⟩ s'' ⟨rfl, hp1, hp2, hf⟩
    try dsimp only
    exact tail st' hp1 hp2 hf
end
theorem cr_sortKey {X : Cx} {k d : Nat} (hd : 1 ≤ d) (hr : Room (k + 1) X.A) : CallRK X (.builtin "sorted") ["key"] (rSortK X.prog X.w X.K X.mg X.base k d) := by
  intro pins s σ H vs zs us ws Q I r1 r2 h
  obtain ⟨l, f, c', q, params, body, scope, xs, kz, sp, rfl, rfl, hs, href, hf, hc, run, hsp, fin⟩ := h
  obtain ⟨its, rv, hl, hz⟩ := I.list hs
  rw [Vals.ref1 r1, Vals.ref1 r2]
  have hzi : its.length ≤ sizeLine := by rw [← rv.length]; exact hz
  show wpAny _ _ (call (.builtin "sorted") [.ref l] [(Str.ofString "key", .ref f)]) _ _ _
  refine call_function_entry_kw kind_sorted plain_sorted entry_sorted (ksk_s1 _ _) ?_
  unfold Builtin.«sorted»
  refine wpAny_bind (m := checkCount "sorted" 1 1 _) (wpAny_pure ?_)
  refine wpAny_bind (collect_list hl.isList ?_ hzi)
  refine wpAny_bind (wpAny_newList ?_ hzi)
  have hsz : ((s.heap.push (seqObj "list" #[] 0)).update s.heap.objs.size (Obj.mapSeq (· ++ its.toArray))).objs.size = s.heap.objs.size + 1 := by
    rw [Heap.size_update, size_push']
  have hoL : (((s.heap.push (seqObj "list" #[] 0)).update s.heap.objs.size (Obj.mapSeq (· ++ its.toArray))).push (seqObj "list" its.toArray 0)).get? (s.heap.objs.size + 1) = some (seqObj "list" its.toArray 0) := by
    rw [← hsz]
    exact Heap.get?_push_size _ rfl
  have k1 : ∀ b o, s.heap.get? b = some o → b < s.heap.objs.size ∧ (((s.heap.push (seqObj "list" #[] 0)).update s.heap.objs.size (Obj.mapSeq (· ++ its.toArray))).push (seqObj "list" its.toArray 0)).get? b = some o := fun b o e => by
    have hb := Heap.lt_size e
    refine ⟨hb, Heap.get?_push_of_some _ ?_⟩
    rw [Heap.get?_update_ne _ _ _ _ (Nat.ne_of_lt hb)]
    exact Heap.get?_push_of_some _ e
  show wpAny _ _ _ _ _ { s with heap := ((s.heap.push (seqObj "list" #[] 0)).update s.heap.objs.size (Obj.mapSeq (· ++ its.toArray))).push (seqObj "list" its.toArray 0) }
  rw [hsz]
  generalize hh : ((s.heap.push (seqObj "list" #[] 0)).update s.heap.objs.size (Obj.mapSeq (· ++ its.toArray))).push (seqObj "list" its.toArray 0) = h1 at hoL k1 ⊢
  have s1 : h1.objs.size = s.heap.objs.size + 2 := by
    rw [← hh, size_push', hsz]
  refine wpAny_bind (wpAny_holding (wpAny_call_entry_kw slot_list_sort ⟨_, hoL, rfl⟩ entry_list_sort ?body (ksk_l1 _ _)))
  case body =>
    show wpAny _ _ (Builtin.«list.sort» ⟨[.ref (s.heap.objs.size + 1)], [(Str.ofString "key", .ref f)]⟩) _ _ _
    rw [ksk_t1]
    unfold ksk_tree
    refine wpAny_bind (listItems_at hoL rfl ?_)
    refine wpAny_bind (listUpdate_at hoL rfl ?_ (by rw [List.size_toArray]; exact hzi) (Nat.zero_le _))
    obtain ⟨e1, ho1⟩ : ∃ e1, (h1.update (s.heap.objs.size + 1) (Obj.mapSeq fun _ => (#[] : Array Value))).get? (s.heap.objs.size + 1) = some (seqObj "list" #[] e1) := ⟨_, get?_update_seq hoL fun _ => #[]⟩
    refine wpAny_bind (seqEpoch_at ho1 rfl ?_)
    refine wpAny_bind (wpAny_newTuple ?_ hzi)
    refine wpAny_bind (wpAny_newList ?_ (Nat.zero_le _))
    refine wpAny_holding ?_
    have s3 : ((h1.update (s.heap.objs.size + 1) (Obj.mapSeq fun _ => (#[] : Array Value))).push (seqObj "tuple" its.toArray 0)).objs.size = s.heap.objs.size + 3 := by
      rw [size_push', Heap.size_update, s1]
    have keep : ∀ b o, s.heap.get? b = some o → (((h1.update (s.heap.objs.size + 1) (Obj.mapSeq fun _ => (#[] : Array Value))).push (seqObj "tuple" its.toArray 0)).push (seqObj "list" #[] 0)).get? b = some o := fun b o e => by
      obtain ⟨hb, e2⟩ := k1 b o e
      exact Heap.get?_push_of_some _ (Heap.get?_push_of_some _ ((Heap.get?_update_ne _ _ _ _ (Nat.ne_of_lt (Nat.lt_succ_of_lt hb))).trans e2))
    have I1 : Inv X pins σ H { s with heap := ((h1.update (s.heap.objs.size + 1) (Obj.mapSeq fun _ => (#[] : Array Value))).push (seqObj "tuple" its.toArray 0)).push (seqObj "list" #[] 0) } := I.kept keep
    have fa : s.heap.objs.size ≤ s.heap.objs.size + 1 := Nat.le_succ _
    have fk : s.heap.objs.size ≤ ((h1.update (s.heap.objs.size + 1) (Obj.mapSeq fun _ => (#[] : Array Value))).push (seqObj "tuple" its.toArray 0)).objs.size := by rw [s3]; omega
    have nak : ((h1.update (s.heap.objs.size + 1) (Obj.mapSeq fun _ => (#[] : Array Value))).push (seqObj "tuple" its.toArray 0)).objs.size ≠ s.heap.objs.size + 1 := by rw [s3]; omega
    refine keys_run (s1 := { s with heap := ((h1.update (s.heap.objs.size + 1) (Obj.mapSeq fun _ => (#[] : Array Value))).push (seqObj "tuple" its.toArray 0)).push (seqObj "list" #[] 0) }) (d := d) I fa fk nak hr rv hzi hf hc run hsp
      ⟨H, 0, [], I1, Same.refl H, Heap.get?_push_of_some _ (Heap.get?_push_of_some _ ho1), I.hok.fresh fa, Heap.get?_push_size _ rfl, I.hok.fresh fk, .nil⟩ fun s' keys hJ hk => ?_
    refine keys_end I fa fk nak hd rv hzi (fun x hx => (hsp x hx).1) href hJ hk fun h' H' ys I2 S2 n2 p2 w2 => ⟨_, rfl, ?_⟩
    exact wpAny_pure ⟨_, rfl, V.ref _, _, I2, rfl, fin ys _ H' S2 n2 p2 w2⟩
end GS
set_option Elab.async false
set_option linter.all false
set_option maxRecDepth 100000
set_option maxHeartbeats 4000000
namespace G21
open PySem PySem.Spec PyProof.Rows L2
section
variable {P : Program} {w : World} {K : PySem.W.Frag} {mg : Str → Option Value} {base : Heap}
theorem ok0_l_begun (T : Txt K mg) : FnOk P w K mg base CX0 1 T.l_begun.a T.l_begun.d ["script"] (spBegun K) := by
  refine T.l_begun.F.ok c_l_begun (fun vs H Q E h => ?_) (fun cdv A outer s H vs Q E hr h => ?_)
  · obtain ⟨a, ns, rfl, _⟩ := h
    rfl
  · obtain ⟨a, ns, rfl, hS, h63, k⟩ := h
    refine ⟨_,
      (pss_cons (ps_setLc (i := 1) (own := [("cell", 2)]) (g := gName 2) (by rfl) c_l_begun.nd rfl rfl (sw_true rfl rfl rfl (by decide +kernel)) (pi_list (pv 0)) (blkOk_by (own := [("cell", 2)]) (N := N_l_begun) (sc := defScope S_l_begun) (by decide +kernel)) (fun _ _ _ _ _ => pg_name (i := 2) c_l_begun.nd rfl (Or.inl rfl)) (fun _ _ _ _ _ => (pts_one (pt_cmpR op_ge (pe_callB call_abs (by rfl) T.z_abs (by decide +kernel) (pa_cons (pv 2) pa_nil)) (pe_op op_pow pe_int pe_int) (nomark _)))) (fun _ _ _ _ _ => (pe_op op_sub (pe_callB call_abs (by rfl) T.z_abs (by decide +kernel) (pa_cons (pv 2) pa_nil)) (pe_op op_pow pe_int pe_int))))
      (pss_one (ps_ret (pe_disp (pps_cons pe_str (pv 1) (pps_cons pe_str (pe_lc (own := [("cell", 2)]) (g := gName 2) (by rfl) c_l_begun.nd (pi_list (pv 0)) (blkOk_by (own := [("cell", 2)]) (N := N_l_begun) (sc := defScope S_l_begun) (by decide +kernel)) (fun _ _ _ _ _ => pg_name (i := 2) c_l_begun.nd rfl (Or.inl rfl)) (fun _ _ _ _ _ => pts_nil) (fun _ _ _ _ _ => (pe_op op_mod (pe_callTy call_int1 (by rfl) T.z_int (by decide +kernel) (pa_cons (pe_callB call_abs (by rfl) T.z_abs (by decide +kernel) (pa_cons (pv 2) pa_nil)) pa_nil)) pe_int))) (pps_cons pe_str pe_int (pps_cons pe_str pe_int pps_nil)))) (by rfl) (by rfl) (fun z => by cases z) (by decide)))))
      , ?_⟩
    refine ⟨.ref a, rfl, a, rfl, ⟨_, hS⟩, fun D hD => it_list (Pv := fun i H3 => Same H H3 ∧ ∃ gs : List Int, H3 D = some (.lst (gs.map V.int)) ∧ (∀ x ∈ gs, 0 ≤ x) ∧ gs.length ≤ i) ⟨same_new hD, [], upd_same, (fun x h => absurd h (by simp)), Nat.le_refl _⟩ (fun i H3 hP => hP.1.seq hS) ?_ ?_⟩
    · intro i x H3 hx hP
      obtain ⟨z, hz, rfl⟩ := at_map hx
      obtain ⟨S3, gs, hg, hp, hlen⟩ := hP
      have hi : i < ns.length := (List.getElem?_eq_some_iff.mp hz).1
      refine ⟨rfl, ?_⟩
      refine ⟨.int z, rfl, z, rfl, 10, 18, rfl, rfl, ⟨by decide, by decide, by decide⟩, _, _, rfl, rfl, _, rfl, ite2 (fun e => ?_) (fun e => ?_)⟩
      · refine ⟨.int z, rfl, z, rfl, 10, 18, rfl, rfl, ⟨by decide, by decide, by decide⟩, _, _, rfl, rfl, _, hg, ?_, own_w hD S3 (Same.refl _), gs ++ [_], by rw [upd_same, snoc_int], fun x hx => ?_, ?_⟩
        · rw [List.length_map]
          exact sz_few (by omega)
        · rcases List.mem_append.mp hx with m | m
          · exact hp x m
          · have e1 := of_decide_eq_true e
            rw [List.mem_singleton.mp m]
            omega
        · rw [List.length_append, List.length_singleton]
          omega
      · exact ⟨S3, gs, hg, hp, by omega⟩
    · intro H3 hP
      obtain ⟨S3, gs, hg, hp, hlen⟩ := hP
      refine fun p hpn => ?_
      have nDp : D ≠ p := ne_of_none hg hpn
      have S4 : Same H (upd H3 p (.dK [])) := S3.trans (same_new hpn)
      have hg4 : upd H3 p (.dK []) D = some (.lst (gs.map V.int)) := by
        rw [upd_ne nDp]
        exact hg
      refine ⟨.ref D, rfl, ?_⟩
      refine ⟨.ref a, rfl, a, rfl, ⟨_, S4.seq hS⟩, fun C hC => it_list (Pv := fun i H5 => Same (upd H3 p (.dK [])) H5 ∧ ∃ cs : List Int, H5 C = some (.lst (cs.map V.int)) ∧ (∀ x ∈ cs, 0 ≤ x ∧ x < 2147483629) ∧ cs.length ≤ i) ⟨same_new hC, [], upd_same, (fun x h => absurd h (by simp)), Nat.le_refl _⟩ (fun i H5 hP => (S4.trans hP.1).seq hS) ?_ ?_⟩
      · intro i x H5 hx hP5
        obtain ⟨z, hz, rfl⟩ := at_map hx
        obtain ⟨S5, cs, hc, hcp, hcl⟩ := hP5
        have hi : i < ns.length := (List.getElem?_eq_some_iff.mp hz).1
        refine ⟨rfl, yes2 ⟨.int z, rfl, z, rfl, .inl ⟨_, rfl, _, 2147483629, rfl, rfl, (by show (0 : Int) < 2147483629; decide), _, hc, ?_, own_w hC S5 (Same.refl _), cs ++ [_], by rw [upd_same, snoc_int], fun x hx => ?_, ?_⟩⟩⟩
        · rw [List.length_map]
          exact sz_few (by omega)
        · rcases List.mem_append.mp hx with m | m
          · exact hcp x m
          · rw [List.mem_singleton.mp m]
            exact ⟨Int.emod_nonneg _ (by decide), Int.emod_lt_of_pos _ (by decide)⟩
        · rw [List.length_append, List.length_singleton]
          omega
      · intro H5 hP5
        obtain ⟨S5, cs, hc, hcp, hcl⟩ := hP5
        have nDC : D ≠ C := ne_of_none hg4 hC
        have nCp : C ≠ p := fun q => by
          rw [q, upd_same] at hC
          cases hC
        have hp5 : H5 p = some (.dK []) := S5 _ _ upd_same
        refine ⟨hp5, drK D C 0 0, rfl, (by show 4 ≤ 15; decide), ?_⟩
        have em : mergeK [] (drK D C 0 0) = drK D C 0 0 := by rfl
        rw [em]
        have hp0 : H p = none := S3.free hpn
        have hC0 : H C = none := S4.free hC
        refine k _ p D C (own_w hp0 (S4.trans S5) (Same.refl _)) hp0 hD hC0 ⟨gs, cs, 0, upd_same, ?_, ?_, nDC, hp, hcp, Int.le_refl _, Int.le_refl _⟩
        · rw [upd_ne nDp]
          exact S5 _ _ hg4
        · rw [upd_ne nCp]
          exact hc
theorem ok0_l_mixed (T : Txt K mg) : FnOk P w K mg base CX0 1 T.l_mixed.a T.l_mixed.d ["draw"] spMixed := by
  refine T.l_mixed.F.ok c_l_mixed (fun vs H Q E h => ?_) (fun cdv A outer s H vs Q E hr h => ?_)
  · obtain ⟨d, g, c, t, rfl, _⟩ := h
    rfl
  · obtain ⟨d, g, c, t, rfl, ⟨gs, cs, n, hd, hg, hc, ngc, hgp, hcp, hn, ht⟩, ht2, k⟩ := h
    refine ⟨_,
      (pss_cons (ps_par (i := 1) (j := 2) rfl c_l_mixed.nd rfl rfl (by decide) rfl rfl (pa_cons (pe_op op_add (pe_dget (hu_of hr) (pv 0) pe_str (fun _ _ => rfl)) pe_int) (pa_cons pe_int pa_nil)) (by with_unfolding_all rfl))
      (pss_cons (ps_dput (hu_of hr) (pv 0) pe_str (pv 1) rfl)
      (pss_cons (ps_for PassesOwn.never rfl (pi_list (pe_lst (pa_cons pe_int (pa_cons pe_int (pa_cons pe_int (pa_cons pe_int pa_nil)))))) (pg_name (i := 3) c_l_mixed.nd rfl (Or.inl rfl))
      (pss_cons (ps_set (i := 4) c_l_mixed.nd rfl (Or.inl rfl) (pe_op op_add (pe_op op_mul pe_int (pv 1)) (pe_op op_fdiv (pv 3) pe_int)))
      (pss_cons (ps_for PassesOwn.never rfl (pi_list (pe_dget (hu_of hr) (pv 0) pe_str (fun _ _ => rfl))) (pg_name (i := 5) c_l_mixed.nd rfl (Or.inl rfl))
      (pss_one (ps_set (i := 4) c_l_mixed.nd rfl (Or.inl rfl) (pe_op op_mod (pe_callTy call_int1 (by rfl) T.z_int (by decide +kernel) (pa_cons (pe_op op_add (pe_op op_add (pe_op op_mul (pv 4) pe_int) (pv 5)) (pv 1)) pa_nil)) (pv 3)))))
      (pss_one (ps_set (i := 2) c_l_mixed.nd rfl (Or.inl rfl) (pe_op op_add (pe_op op_mul (pv 2) pe_int) (pe_op op_mod (pe_callTy call_int1 (by rfl) T.z_int (by decide +kernel) (pa_cons (pe_op op_pow (pv 4) pe_int) pa_nil)) (pv 3))))))))
      (pss_one (ps_ret (pv 2))))))
      , ?_⟩
    have ndg : d ≠ g := ne_of hd hg (by intro q; cases q)
    have ndc : d ≠ c := ne_of hd hc (by intro q; cases q)
    refine ⟨.ref d, rfl, d, .int t, rfl, dg_turn hd, _, _, rfl, rfl, .int (t + 1), .int 0, rfl, ?_⟩
    refine ⟨.int (t + 1), rfl, .ref d, rfl, d, _, rfl, dp_turn (t + 1) hd, ?_⟩
    have hd2 : upd H d (.dK (drK g c n (t + 1))) d = some (.dK (drK g c n (t + 1))) := upd_same
    have F2 : Fr d g H (upd H d (.dK (drK g c n (t + 1)))) := fun b o h1 _ h => by
      rw [upd_ne h1]
      exact h
    have D2 : Dr (upd H d (.dK (drK g c n (t + 1)))) d g c (t + 1) := ⟨gs, cs, n, upd_same, by rw [upd_ne ndg.symm]; exact hg, by rw [upd_ne ndc.symm]; exact hc, ngc, hgp, hcp, hn, by omega⟩
    generalize upd H d (.dK (drK g c n (t + 1))) = H2 at hd2 F2 D2 ⊢
    refine ⟨by show 4 ≤ sizeLine; decide, fun l hl => ⟨l, rfl, ⟨_, SqL.of upd_same⟩, ?_⟩⟩
    have D3 : Dr (upd H2 l (.lst [.int 2147483647, .int 2147483629, .int 2147483587, .int 2147483579])) d g c (t + 1) := by
      obtain ⟨gs', cs', n', a1, a2, a3, a4, a5, a6, a7, a8⟩ := D2
      exact ⟨gs', cs', n', by rw [upd_ne (ne_of_none a1 hl)]; exact a1, by rw [upd_ne (ne_of_none a2 hl)]; exact a2, by rw [upd_ne (ne_of_none a3 hl)]; exact a3, a4, a5, a6, a7, a8⟩
    have F3 : Fr d g H (upd H2 l (.lst [.int 2147483647, .int 2147483629, .int 2147483587, .int 2147483579])) := F2.trans (Fr.of (same_new hl))
    have hl3 : SqL K (upd H2 l (.lst [.int 2147483647, .int 2147483629, .int 2147483587, .int 2147483579])) l [.int 2147483647, .int 2147483629, .int 2147483587, .int 2147483579] := SqL.of upd_same
    generalize upd H2 l (.lst [.int 2147483647, .int 2147483629, .int 2147483587, .int 2147483579]) = H3 at D3 F3 hl3 ⊢
    obtain ⟨gs', cs', n', a1, a2, a3, a4, a5, a6, a7, a8⟩ := id D3
    refine for_list (K := K) (a := l) (xs := [.int 2147483647, .int 2147483629, .int 2147483587, .int 2147483579]) (fun i σ H4 => H3 = H4 ∧ ∃ (f : Int) (x3 x4 x5 : Option V), σ = [some (.ref d), some (.int (t + 1)), some (.int f), x3, x4, x5] ∧ 0 ≤ f)
      ⟨rfl, 0, none, none, none, rfl, Int.le_refl _⟩ (fun i σ H4 _ hP => by rw [← hP.1]; exact hl3) ?_ ?_
    · intro i x σ H4 hx hP
      obtain ⟨rfl, f, x3, x4, x5, rfl, hf⟩ := hP
      obtain ⟨p, rfl, hp1, hp2⟩ : ∃ p : Int, x = .int p ∧ 0 < p ∧ p ≤ 2147483647 := by
        match i, hx with
        | 0, hx => exact ⟨2147483647, (Option.some.inj hx).symm, by decide, by decide⟩
        | 1, hx => exact ⟨2147483629, (Option.some.inj hx).symm, by decide, by decide⟩
        | 2, hx => exact ⟨2147483587, (Option.some.inj hx).symm, by decide, by decide⟩
        | 3, hx => exact ⟨2147483579, (Option.some.inj hx).symm, by decide, by decide⟩
        | i + 4, hx => simp at hx
      refine ⟨.int (t + 1), rfl, 48271, t + 1, rfl, rfl, .inl ⟨by decide, by decide⟩, .int p, rfl, p, 37, rfl, rfl, ⟨by show (0 : Int) < 37; decide, by show (37 : Int) < 1073741824; decide⟩, _, _, rfl, rfl, ?_⟩
      have b0 : 0 ≤ 48271 * (t + 1) + p / 37 := by omega
      have b1 : 48271 * (t + 1) + p / 37 < 9000000000000000000 := by omega
      refine ⟨.ref d, rfl, d, .ref c, rfl, dg_cells a1, c, rfl, ⟨_, SqL.of a3⟩, ?_⟩
      refine for_list (K := K) (a := c) (xs := cs'.map V.int) (fun j σ H4 => H3 = H4 ∧ ∃ (bl : Int) (x5 : Option V), σ = [some (.ref d), some (.int (t + 1)), some (.int f), some (.int p), some (.int bl), x5] ∧ 0 ≤ bl ∧ bl < 9000000000000000000)
        ⟨rfl, 48271 * (t + 1) + p / 37, x5, rfl, b0, b1⟩ (fun j σ H4 _ hP => by rw [← hP.1]; exact SqL.of a3) ?_ ?_
      · intro j y σ H4 hy hP
        obtain ⟨rfl, bl, y5, rfl, hb0, hb1⟩ := hP
        obtain ⟨z, hz, rfl⟩ := at_map hy
        refine ⟨.int bl, rfl, bl, 69621, rfl, rfl, .inl ⟨by omega, by omega⟩, .int z, rfl, _, _, rfl, rfl, .int (t + 1), rfl, _, _, rfl, rfl, .inl ⟨_, rfl, .int p, rfl, _, p, rfl, rfl, hp1, ?_⟩⟩
        have c1 := Int.emod_nonneg (bl * 69621 + z + (t + 1)) (show p ≠ 0 by omega)
        have c2 := Int.emod_lt_of_pos (bl * 69621 + z + (t + 1)) hp1
        exact ⟨rfl, _, some (.int z), rfl, c1, by omega⟩
      · intro σ H4 hP
        obtain ⟨rfl, bl, y5, rfl, hb0, hb1⟩ := hP
        refine ⟨.int f, rfl, f, 2147483647, rfl, rfl, .inr ⟨by decide, by decide⟩, .int bl, rfl, bl, 5, rfl, rfl, ⟨by decide, by decide, by omega⟩, .inl ⟨_, rfl, .int p, rfl, _, p, rfl, rfl, hp1, _, _, rfl, rfl, ?_⟩⟩
        have c1 := Int.emod_nonneg (bl ^ (5 : Int).toNat) (show p ≠ 0 by omega)
        exact ⟨rfl, _, _, _, _, rfl, by omega⟩
    · intro σ H4 hP
      obtain ⟨rfl, f, x3, x4, x5, rfl, hf⟩ := hP
      exact ⟨.int f, rfl, k _ f hf F3 D3⟩
theorem ok0_l_take (T : Txt K mg) : FnOk P w K mg base CX0 2 T.l_take.a T.l_take.d ["draw", "many"] spTake := by
  refine T.l_take.F.ok c_l_take (fun vs H Q E h => ?_) (fun cdv A outer s H vs Q E hr h => ?_)
  · obtain ⟨d, g, c, t, m, rfl, _⟩ := h
    rfl
  · obtain ⟨d, g, c, t, m, rfl, hD, ht2, hm0, hm1, k⟩ := h
    refine ⟨_,
      (C8.pss_cut (ps_if (pt_cmpR op_eq (pe_dget (hu_of hr) (pv 0) pe_str (fun _ _ => rfl)) pe_int (nomark _))
      (pss_one (ps_dput (hu_of hr) (pv 0) pe_str (pe_ifExp (pt_cmpR (op_neD hr.units) (pe_dget (hu_of hr) (pv 0) pe_str (fun _ _ => rfl)) (pe_lst pa_nil) (nomark _)) (pe_bm PySem.F.plainAttrs_list PySem.F.slot_list_pop PySem.F.type_list_pop mt_popAt (pe_dget (hu_of hr) (pv 0) pe_str (fun _ _ => rfl)) (pa_cons pe_int pa_nil)) (pe_call (ok0_l_mixed T) (hr.mono (by decide)) rfl T.l_mixed.g T.l_mixed.k T.l_mixed.b .nil pass0 (pa_cons (pv 0) pa_nil))) rfl))
      pss_nil)
      (pss_cons (ps_set (i := 2) c_l_take.nd rfl (Or.inl rfl) (pe_op op_mod (pe_callTy call_int1 (by rfl) T.z_int (by decide +kernel) (pa_cons (pe_dget (hu_of hr) (pv 0) pe_str (fun _ _ => rfl)) pa_nil)) (pv 1)))
      (pss_cons (ps_dput (hu_of hr) (pv 0) pe_str (pe_op op_fdiv (pe_dget (hu_of hr) (pv 0) pe_str (fun _ _ => rfl)) (pv 1)) rfl)
      (pss_one (ps_ret (pv 2))))))
      , ?_⟩
    obtain ⟨gs, cs, n, hd, hg, hc, ngc, hgp, hcp, hn, ht⟩ := id hD
    have ndg : d ≠ g := ne_of hd hg (by intro q; cases q)
    have ndc : d ≠ c := ne_of hd hc (by intro q; cases q)
    refine ⟨fun σ H1 => σ = [some (.ref d), some (.int m), none] ∧ ∃ t', t' ≤ t + 1 ∧ Fr d g H H1 ∧ Dr H1 d g c t', ?_, ?_⟩
    · refine ⟨.ref d, rfl, d, .int n, rfl, dg_left hd, rfl, _, rfl, ite2 (fun _ => ?_) (fun _ => ?_)⟩
      · refine ⟨.ref d, rfl, d, .ref g, rfl, dg_great hd, Nat.zero_le _, fun e he => ?_⟩
        have S1 : Same H (upd H e (.lst [])) := same_new he
        have hd1 := S1 _ _ hd
        have hg1 := S1 _ _ hg
        have hc1 := S1 _ _ hc
        have he1 : upd H e (.lst []) e = some (.lst []) := upd_same
        refine ⟨.list (GS.dIs gs), .list (GS.dIs []), GS.dp_l (SqL.of hg1), GS.dp_l (ns := []) (SqL.of he1), GS.shaped_is _, GS.shaped_is _, _, rfl, ?_⟩
        rw [GS.eqv_lis]
        cases gs with
        | nil =>
          refine iteF ?_
          refine ⟨.ref d, rfl, d, g, c, t, rfl, hD.grow S1, ht2, fun H2 n2 hn2 F2 D2 => ?_⟩
          obtain ⟨gs', cs', n', a1, a2, a3, a4, a5, a6, a7, a8⟩ := D2
          refine ⟨.ref d, rfl, d, _, rfl, dp_left n2 a1, rfl, t + 1, Int.le_refl _, ?_, gs', cs', n2, upd_same, ?_, ?_, a4, a5, a6, hn2, a8⟩
          · exact fun b o h1 h2 h => by
              rw [upd_ne h1]
              exact F2 b o h1 h2 (S1 _ _ h)
          · rw [upd_ne ndg.symm]
            exact a2
          · rw [upd_ne ndc.symm]
            exact a3
        | cons x gs =>
          refine iteT ?_
          refine ⟨.ref d, rfl, d, .ref g, rfl, dg_great hd1, .inl ⟨rfl, _, SqL.of hg1⟩, g, _, 0, 0, .int x, rfl, rfl, hg1, by decide, by decide, seq_at (j := 0) (Nat.succ_pos _), rfl, ?_⟩
          have hx : 0 ≤ x := hgp x (List.mem_cons_self ..)
          have F2 : Fr d g H (upd (upd H e (.lst [])) g (.lst (gs.map V.int))) := fun b o h1 h2 h => by
            rw [upd_ne h2]
            exact S1 _ _ h
          have hd2 : upd (upd H e (.lst [])) g (.lst (gs.map V.int)) d = some (.dK (drK g c n t)) := by
            rw [upd_ne ndg]
            exact hd1
          refine ⟨.ref d, rfl, d, _, rfl, dp_left x hd2, rfl, t, by omega, ?_, gs, cs, x, upd_same, ?_, ?_, ngc, (fun y hy => hgp y (List.mem_cons_of_mem _ hy)), hcp, hx, ht⟩
          · exact fun b o h1 h2 h => by
              rw [upd_ne h1]
              exact F2 b o h1 h2 h
          · rw [upd_ne ndg.symm, upd_same]
            rfl
          · rw [upd_ne ndc.symm, upd_ne ngc.symm]
            exact hc1
      · exact ⟨rfl, t, by omega, Fr.refl d g H, hD⟩
    · intro σ H1 hP
      obtain ⟨rfl, t', ht', F1, gs', cs', n', a1, a2, a3, a4, a5, a6, a7, a8⟩ := hP
      refine ⟨.ref d, rfl, d, .int n', rfl, dg_left a1, .inl ⟨n', rfl, .int m, rfl, n', m, rfl, rfl, hm0, ?_⟩⟩
      refine ⟨.ref d, rfl, d, .int n', rfl, dg_left a1, .int m, rfl, n', m, rfl, rfl, ⟨hm0, by omega⟩, .ref d, rfl, d, _, rfl, dp_left (n' / m) a1, _, rfl, ?_⟩
      refine k _ (n' % m) t' (Int.emod_nonneg _ (by omega)) (Int.emod_lt_of_pos _ hm0) ht' (fun b o h1 h2 h => ?_) ⟨gs', cs', n' / m, upd_same, ?_, ?_, a4, a5, a6, Int.ediv_nonneg a7 (by omega), a8⟩
      · rw [upd_ne h1]
        exact F1 b o h1 h2 h
      · rw [upd_ne ndg.symm]
        exact a2
      · rw [upd_ne ndc.symm]
        exact a3
end
end G21
set_option Elab.async false
set_option linter.all false
set_option maxRecDepth 100000
set_option maxHeartbeats 4000000
namespace G21
open PySem PySem.Spec PyProof.Rows L2
/-- what stands ahead of turn i of the table's loop -/
def TI2 (d g c l q A : Addr) (way fac t : Int) (line : List Int) (H : Hp) (i : Nat) (σ : L2.St) (H9 : Hp) : Prop := ∃ (here : Int) (x7 x8 : Option V) (kvs : List (Key × V)) (f : Int → Int) (t9 : Int), σ = [some (.ref d), some (.ref l), some (.ref q), some (.int way), some (.ref A), some (.int here), some (.int fac), x7, x8] ∧
        H9 A = some (.dK kvs) ∧ kvs.length ≤ i ∧ (∀ n ∈ line.take i, valV kvs (.inl n) = some (.int (f n))) ∧ (∀ n ∈ line.take i, ∀ m ∈ line.take i, n < m → f n < f m) ∧ (way < 2 → ∀ n ∈ line.take i, f n = n + here) ∧ (way = 2 → ∀ n ∈ line.take i, f n = n * fac + here) ∧
        (2 < way → ∀ n ∈ line.take i, f n ≤ here) ∧ Fr d g H H9 ∧ Dr H9 d g c t9 ∧ t9 ≤ t + 3 + i ∧ H9 q = some (.lst (line.map V.int)) ∧ (-99999 ≤ here ∧ here ≤ 40 + 998 * i) ∧ (2 < way → ∀ n ∈ line.take i, -99999 ≤ f n)
theorem TI2.next {d g c l q A : Addr} {way fac t here here' v t11 : Int} {line : List Int} {H H11 : Hp} {i : Nat} {old : Int} {kvs : List (Key × V)} {f : Int → Int} {x7 x8 : Option V} {ct : Int} (hD : Dr H d g c ct) (hA0 : H A = none) (up : line.Pairwise (· < ·)) (ho : line[i]? = some old)
    (hk : kvs.length ≤ i) (h1 : ∀ n ∈ line.take i, valV kvs (.inl n) = some (.int (f n))) (h2 : ∀ n ∈ line.take i, ∀ m ∈ line.take i, n < m → f n < f m) (ca : way < 2 → ∀ n ∈ line.take i, f n = n + here) (cb : way = 2 → ∀ n ∈ line.take i, f n = n * fac + here) (cc : 2 < way → ∀ n ∈ line.take i, f n ≤ here)
    (h3 : ∀ n ∈ line.take i, f n < v) (ka : way < 2 → v = old + here' ∧ here' = here) (kb : way = 2 → v = old * fac + here' ∧ here' = here) (kc : 2 < way → v = here' ∧ here ≤ here') (F11 : Fr d g H H11) (d11 : Dr H11 d g c t11) (ht : t11 ≤ t + 3 + (i + 1 : Nat)) (hq : H11 q = some (.lst (line.map V.int))) (nqA : q ≠ A) (hb : -99999 ≤ here' ∧ here' ≤ 40 + 998 * (i + 1 : Nat)) (cl : 2 < way → ∀ n ∈ line.take i, -99999 ≤ f n) :
    TI2 d g c l q A way fac t line H (i + 1) [some (.ref d), some (.ref l), some (.ref q), some (.int way), some (.ref A), some (.int here'), some (.int fac), x7, x8] (upd H11 A (.dK (putK kvs (.inl old) (.int v)))) := by
  obtain ⟨f', g1, g2, g3, g4⟩ := tab_step up ho h1 h2 h3
  have split_ : ∀ n ∈ line.take (i + 1), n ∈ line.take i ∨ n = old := fun n hn => by
    rw [List.take_add_one, ho] at hn
    rcases List.mem_append.mp hn with m | m
    · exact .inl m
    · exact .inr (List.mem_singleton.mp m)
  refine ⟨here', x7, x8, putK kvs (.inl old) (.int v), f', t11, rfl, upd_same, ?_, g1, g2, fun z n hn => ?_, fun z n hn => ?_, fun z n hn => ?_, Fr.own hA0 F11, Dr.own hD d11 hA0 (fun _ => hD.newc hA0), ht, ?_, hb, fun z n hn => ?_⟩
  · have := putK_le kvs (.inl old) (.int v)
    omega
  · obtain ⟨a1, a2⟩ := ka z
    rcases split_ n hn with m | m
    · rw [g3 n m, ca z n m, a2]
    · rw [m, g4, a1]
  · obtain ⟨a1, a2⟩ := kb z
    rcases split_ n hn with m | m
    · rw [g3 n m, cb z n m, a2]
    · rw [m, g4, a1]
  · obtain ⟨a1, a2⟩ := kc z
    rcases split_ n hn with m | m
    · rw [g3 n m]
      exact Int.le_trans (cc z n m) a2
    · rw [m, g4, a1]
      exact Int.le_refl _
  · rw [upd_ne nqA]
    exact hq
  · obtain ⟨a1, a2⟩ := kc z
    rcases split_ n hn with m | m
    · rw [g3 n m]
      exact cl z n m
    · rw [m, g4, a1]
      exact hb.1
/-- a table of what was given, strictly rising, with bounds -/
def spTable2 (K : PySem.W.Frag) : Sp := fun vs H Q _ => ∃ (d g c l : Addr) (t : Int) (ns : List Int), vs = [.ref d, .ref l] ∧ Dr H d g c t ∧ t ≤ 999999999900 ∧ SqL K H l (ns.map V.int) ∧ l ≠ g ∧ ns.length < 60 ∧ (∀ n ∈ ns, 0 ≤ n ∧ n ≤ 30) ∧
  ∀ H' z t' f, t' ≤ t + 70 → H z = none → Tab H' z f ns → (∀ n ∈ ns, ∀ m ∈ ns, n < m → f n < f m) → (∀ n ∈ ns, -1000000 ≤ f n ∧ f n ≤ 1000000) → Fr d g H H' → Dr H' d g c t' → Q (.ref z) H'
section
variable {P : Program} {w : World} {K : PySem.W.Frag} {mg : Str → Option Value} {base : Heap}
theorem ok0_l_pick (T : Txt K mg) : FnOk P w K mg base CX0 3 T.l_pick.a T.l_pick.d ["draw", "some"] spPick := by
  refine T.l_pick.F.ok c_l_pick (fun vs H Q E h => ?_) (fun cdv A outer s H vs Q E hr h => ?_)
  · obtain ⟨d, g, c, l, t, xs, rfl, _⟩ := h
    rfl
  · obtain ⟨d, g, c, l, t, xs, rfl, hD, ht, nlg, hl, hne, hlen, k⟩ := h
    refine ⟨_,
      (pss_one (ps_ret (pe_ix ix_list (pv 1) (pe_call (ok0_l_take T) (hr.mono (by decide)) rfl T.l_take.g T.l_take.k T.l_take.b .nil pass0 (pa_cons (pv 0) (pa_cons (pe_callB call_len_seq (by rfl) T.z_len (by decide +kernel) (pa_cons (pv 1) pa_nil)) pa_nil))) (fun _ _ => rfl))))
      , ?_⟩
    have nld : l ≠ d := by
      obtain ⟨gs, cs, n, hd, _⟩ := id hD
      exact ne_of hl hd (by intro q; cases q)
    have hpos : 0 < xs.length := List.length_pos_iff.mpr hne
    refine ⟨.ref l, rfl, .ref d, rfl, .ref l, rfl, l, xs, rfl, .inl (SqL.of hl), d, g, c, t, xs.length, rfl, hD, ht, by omega, by omega, fun H1 r t' h0 h1 ht' F1 D1 => ?_⟩
    obtain ⟨j, rfl⟩ := Int.eq_ofNat_of_zero_le h0
    have hj : j < xs.length := by omega
    exact ⟨l, xs, j, xs[j], rfl, rfl, SqL.of (F1 _ _ nld nlg hl), atI_nat (List.getElem?_eq_getElem hj), k H1 _ t' (List.getElem_mem hj) ht' F1 D1⟩
theorem ok0_l_table (T : Txt K mg) : FnOk P w K mg base CX0 4 T.l_table.a T.l_table.d ["draw", "some"] (spTable2 K) := by
  refine T.l_table.F.ok c_l_table (fun vs H Q E h => ?_) (fun cdv A outer s H vs Q E hr h => ?_)
  · obtain ⟨d, g, c, l, t, ns, rfl, _⟩ := h
    rfl
  · obtain ⟨d, g, c, l, t, ns, rfl, hD, ht, hl, nlg, h60, h30, k⟩ := h
    refine ⟨_,
      (pss_cons (ps_set (i := 2) c_l_table.nd rfl (Or.inl rfl) (pe_callB (cr_sortedSet rfl) (by rfl) T.z_sorted (by decide +kernel) (pa_cons (pe_callTy (GS.cr_setL rfl) (by rfl) T.z_set (by decide +kernel) (pa_cons (pv 1) pa_nil)) pa_nil)))
      (pss_cons (ps_par3 (i := 3) (j := 4) (l := 5) rfl c_l_table.nd rfl rfl rfl (by decide) (by decide) (by decide) rfl rfl rfl (pa_cons (pe_call (ok0_l_take T) (hr.mono (by decide)) rfl T.l_take.g T.l_take.k T.l_take.b .nil pass0 (pa_cons (pv 0) (pa_cons pe_int pa_nil))) (pa_cons pe_dnewK (pa_cons (pe_call (ok0_l_pick T) (hr.mono (by decide)) rfl T.l_pick.g T.l_pick.k T.l_pick.b .nil pass0 (pa_cons (pv 0) (pa_cons (pe_lst (pa_cons pe_int (pa_cons pe_int (pa_cons (pe_un un_neg pe_int) (pa_cons pe_int (pa_cons (pe_un un_neg pe_int) pa_nil)))))) pa_nil))) pa_nil))) (by with_unfolding_all rfl))
      (pss_cons (ps_set (i := 6) c_l_table.nd rfl (Or.inl rfl) (pe_call (ok0_l_pick T) (hr.mono (by decide)) rfl T.l_pick.g T.l_pick.k T.l_pick.b .nil pass0 (pa_cons (pv 0) (pa_cons (pe_lst (pa_cons pe_int (pa_cons pe_int (pa_cons pe_int (pa_cons pe_int (pa_cons pe_int pa_nil)))))) pa_nil))))
      (pss_cons (ps_for PassesOwn.never rfl (pi_enum (by rfl) T.z_enumerate (pa_cons (pv 2) pa_nil)) (pg_tup rfl (pgs_cons (pg_name (i := 7) c_l_table.nd rfl (Or.inl rfl) (hf := Or.inr rfl)) (pgs_cons (pg_name (i := 8) c_l_table.nd rfl (Or.inl rfl) (hf := Or.inr rfl)) pgs_nil)))
      (pss_one (ps_if (pt_cmpR op_lt (pv 3) pe_int (nomark _))
      (pss_one (ps_dput (hu_of hr) (pv 4) (pv 8) (pe_op op_add (pv 8) (pv 5)) rfl))
      (pss_one (ps_if (pt_cmpR op_eq (pv 3) pe_int (nomark _))
      (pss_one (ps_dput (hu_of hr) (pv 4) (pv 8) (pe_op op_add (pe_op op_mul (pv 8) (pv 6)) (pv 5)) rfl))
      (pss_cons (ps_set (i := 5) c_l_table.nd rfl (Or.inl rfl) (pe_op op_add (pv 5) (pe_ifExp (pt_cmpR op_eq (pv 7) pe_int (nomark _)) pe_int (pe_op op_add pe_int (pe_call (ok0_l_pick T) (hr.mono (by decide)) rfl T.l_pick.g T.l_pick.k T.l_pick.b .nil pass0 (pa_cons (pv 0) (pa_cons (pe_lst (pa_cons pe_int (pa_cons pe_int (pa_cons pe_int (pa_cons pe_int (pa_cons pe_int (pa_cons pe_int (pa_cons pe_int pa_nil)))))))) pa_nil)))))))
      (pss_one (ps_dput (hu_of hr) (pv 4) (pv 8) (pv 5) rfl))))))))
      (pss_one (ps_ret (pv 4)))))))
      , ?_⟩
    refine ⟨.ref l, rfl, l, ns, rfl, hl, by omega, fun p n0 hp hn0 => ?_⟩
    have S1 := same_new (o := SetO w p (fun j => decide (j ∈ ns)) n0) hp
    refine ⟨p, _, n0, rfl, upd_same, by omega, fun line q up mem hlen hq => ?_⟩
    have S2 := S1.trans (same_new (o := .lst (line.map V.int)) hq)
    have d2 := hD.grow S2
    refine ⟨.ref d, rfl, d, g, c, t, 4, rfl, d2, by omega, by decide, by decide, fun H3 way t3 hw0 hw1 ht3 f3 d3 => ?_⟩
    refine fun A hA => ?_
    have d4 := d3.grow (same_new (o := .dK []) hA)
    refine ⟨.ref d, rfl, 7, rfl, 99999, rfl, by show 5 ≤ sizeLine; decide, fun l2 hl2 => ?_⟩
    have S5 := same_new (o := .lst [V.int 0, .int 0, .int (-7), .int 40, .int (-99999)]) hl2
    have d5 := d4.grow S5
    refine ⟨d, g, c, l2, t3, _, rfl, d5, by omega, (d4.new hl2).2, upd_same, by simp, by show 5 < 1000000; decide, fun H6 x6 t6 hx6 ht6 f6 d6 => ?_⟩
    obtain ⟨here0, rfl, hh1, hh2⟩ : ∃ n : Int, x6 = .int n ∧ -99999 ≤ n ∧ n ≤ 40 := by
      simp only [List.mem_cons, List.not_mem_nil, or_false] at hx6
      rcases hx6 with rfl | rfl | rfl | rfl | rfl <;> exact ⟨_, rfl, by decide, by decide⟩
    refine ⟨_, _, _, rfl, ?_⟩
    refine ⟨.ref d, rfl, by show 5 ≤ sizeLine; decide, fun l7 hl7 => ?_⟩
    have S7 := same_new (o := .lst [V.int 1, .int 2, .int 3, .int 97, .int 4001]) hl7
    have d7 := d6.grow S7
    refine ⟨d, g, c, l7, t6, _, rfl, d7, by omega, (d6.new hl7).2, upd_same, by simp, by show 5 < 1000000; decide, fun H8 x8 t8 hx8 ht8 f8 d8 => ?_⟩
    obtain ⟨fac, rfl, hf1, hf2⟩ : ∃ n : Int, x8 = .int n ∧ 1 ≤ n ∧ n ≤ 4001 := by
      simp only [List.mem_cons, List.not_mem_nil, or_false] at hx8
      rcases hx8 with rfl | rfl | rfl | rfl | rfl <;> exact ⟨_, rfl, by decide, by decide⟩
    have hq0 : H q = none := S1.free hq
    have hA0 : H A = none := S2.free (Fr.free d2 d3 f3 hA)
    obtain ⟨nqd, nqg⟩ := hD.new hq0
    obtain ⟨nAd, nAg⟩ := hD.new hA0
    have eq3 := f3 q _ nqd nqg upd_same
    have nqA : q ≠ A := ne_of_none eq3 hA
    have eq5 := S5 _ _ (same_new (o := .dK []) hA _ _ eq3)
    have eq8 := f8 q _ nqd nqg (S7 _ _ (f6 q _ nqd nqg eq5))
    have eA8 := f8 A _ nAd nAg (S7 _ _ (f6 A _ nAd nAg (S5 _ _ (upd_same (H := H3) (a := A) (o := .dK [])))))
    have F8 : Fr d g H H8 := (Fr.of S2).trans (f3.trans ((Fr.of (same_new hA)).trans ((Fr.of S5).trans (f6.trans ((Fr.of S7).trans f8)))))
    refine ⟨.ref q, rfl, q, _, rfl, SqL.of eq8, ?_⟩
    refine for_enumL (K := K) (a := q) (xs := line.map V.int) (TI2 d g c l q A way fac t line H)
      ⟨here0, none, none, [], fun _ => 0, t8, rfl, eA8, Nat.le_refl _, (fun n h => absurd h (by simp)), (fun n h => absurd h (by simp)), (fun _ n h => absurd h (by simp)), (fun _ n h => absurd h (by simp)), (fun _ n h => absurd h (by simp)), F8, d8, by omega, eq8, ⟨hh1, by omega⟩, (fun _ n h => absurd h (by simp))⟩ ?_ ?_ ?_
    · intro i σ H9 hP
      obtain ⟨here, x7, x8, kvs, f, t9, _, _, _, _, _, _, _, _, _, _, _, e, _⟩ := hP
      exact SqL.of e
    · intro i x Tt σ H9 hx hP hT
      obtain ⟨here, x7, x8, kvs, f, t9, rfl, hA9, hk, h1, h2, ca, cb, cc, F9, d9, ht9, hq9, hb9, cl9⟩ := hP
      obtain ⟨old, ho, rfl⟩ := at_map hx
      have hi : i < line.length := (List.getElem?_eq_some_iff.mp ho).1
      have ST := same_new (o := .tup [V.int (i : Nat), .int old]) hT
      have d10 := d9.grow ST
      have F10 := F9.trans (Fr.of ST)
      have hA10 := ST _ _ hA9
      have hq10 := ST _ _ hq9
      have lt := take_lt up ho
      refine ⟨Tt, _, rfl, SqT.of upd_same, rfl, _, _, rfl, _, _, rfl, rfl, ?_⟩
      have sz : kvs.length < sizeLine := sz_few (by omega)
      refine ⟨.int way, rfl, way, 2, rfl, rfl, _, rfl, ite2 (fun e => ?_) (fun e => ?_)⟩
      · have hw := of_decide_eq_true e
        refine ⟨.int old, rfl, .int here, rfl, _, _, rfl, rfl, .ref A, rfl, .int old, rfl, A, _, rfl, DPut.k (k := .inl old) hA10 sz, ?_⟩
        refine TI2.next hD hA0 up ho hk h1 h2 ca cb cc (fun n hn => ?_) (fun _ => ⟨rfl, rfl⟩) (fun z => by omega) (fun z => by omega) F10 d10 (by omega) hq10 nqA ⟨by omega, by omega⟩ cl9
        have z1 := lt n hn
        rw [ca hw n hn]
        show n + here < old + here
        omega
      · have hw : ¬ way < 2 := fun z => e (decide_eq_true z)
        refine ⟨.int way, rfl, rfl, _, rfl, ite2 (fun e2 => ?_) (fun e2 => ?_)⟩
        · have hw2 : way = 2 := V.int.inj (of_decide_eq_true e2)
          refine ⟨.int old, rfl, .int fac, rfl, old, fac, rfl, rfl, .inr ⟨by omega, by omega⟩, .int here, rfl, _, _, rfl, rfl, .ref A, rfl, .int old, rfl, A, _, rfl, DPut.k (k := .inl old) hA10 sz, ?_⟩
          refine TI2.next hD hA0 up ho hk h1 h2 ca cb cc (fun n hn => ?_) (fun z => by omega) (fun _ => ⟨rfl, rfl⟩) (fun z => by omega) F10 d10 (by omega) hq10 nqA ⟨by omega, by omega⟩ cl9
          have z1 := lt n hn
          rw [cb hw2 n hn]
          show n * fac + here < old * fac + here
          have z2 := Int.mul_lt_mul_of_pos_right z1 (show 0 < fac by omega)
          omega
        · have hw2 : ¬ way = 2 := fun z => e2 (decide_eq_true (by rw [z]))
          refine ⟨.int here, rfl, .int i, rfl, rfl, _, rfl, ite2 (fun e3 => ?_) (fun e3 => ?_)⟩
          · have hi0 : (i : Int) = 0 := V.int.inj (of_decide_eq_true e3)
            refine ⟨_, _, rfl, rfl, .int (here + 0), rfl, .ref A, rfl, .int old, rfl, A, _, rfl, DPut.k (k := .inl old) hA10 sz, ?_⟩
            refine TI2.next hD hA0 up ho hk h1 h2 ca cb cc (fun n hn => ?_) (fun z => by omega) (fun z => by omega) (fun _ => ⟨rfl, by omega⟩) F10 d10 (by omega) hq10 nqA ⟨by omega, by omega⟩ cl9
            have i0 : i = 0 := by omega
            rw [i0] at hn
            exact absurd hn (by simp)
          · refine ⟨.ref d, rfl, by show 7 ≤ sizeLine; decide, fun lp hlp => ?_⟩
            have SP := same_new (o := .lst [V.int 0, .int 0, .int 1, .int 2, .int 5, .int 13, .int 997]) hlp
            refine ⟨d, g, c, lp, t9, _, rfl, d10.grow SP, by omega, (d10.new hlp).2, upd_same, by simp, by show 7 < 1000000; decide, fun H12 y t12 hy ht12 f12 d12 => ?_⟩
            obtain ⟨n2, rfl, hn2, hn3⟩ : ∃ n : Int, y = .int n ∧ 0 ≤ n ∧ n ≤ 997 := by
              simp only [List.mem_cons, List.not_mem_nil, or_false] at hy
              rcases hy with rfl | rfl | rfl | rfl | rfl | rfl | rfl <;> exact ⟨_, rfl, by decide, by decide⟩
            refine ⟨_, _, rfl, rfl, _, _, rfl, rfl, .int (here + (1 + n2)), rfl, .ref A, rfl, .int old, rfl, A, _, rfl, DPut.k (k := .inl old) (f12 A _ nAd nAg (SP _ _ hA10)) sz, ?_⟩
            refine TI2.next hD hA0 up ho hk h1 h2 ca cb cc (fun n hn => ?_) (fun z => by omega) (fun z => by omega) (fun _ => ⟨rfl, by omega⟩) (F10.trans ((Fr.of SP).trans f12)) d12 (by omega) (f12 q _ nqd nqg (SP _ _ hq10)) nqA ⟨by omega, by omega⟩ cl9
            have z1 := cc (by omega) n hn
            omega
    · intro σ H9 hP
      obtain ⟨here, x7, x8, kvs, f, t9, rfl, hA9, hk, h1, h2, ca, cb, cc, F9, d9, ht9, hq9, hb9, cl9⟩ := hP
      rw [List.length_map, List.take_length] at h1 h2
      rw [List.length_map] at ht9
      have inl : ∀ n ∈ ns, n ∈ line := fun n hn => (mem n).mpr (decide_eq_true hn)
      rw [List.length_map] at hb9
      rw [List.length_map, List.take_length] at ca cb cc cl9
      refine ⟨.ref A, rfl, k H9 A t9 f (by omega) hA0 ⟨kvs, hA9, fun n hn => h1 n (inl n hn)⟩ (fun n hn m hm => h2 n (inl n hn) m (inl m hm)) (fun n hn => ?_) F9 d9⟩
      obtain ⟨b1, b2⟩ := h30 n hn
      have hin := inl n hn
      by_cases w1 : way < 2
      · have := ca w1 n hin
        omega
      · by_cases w2 : way = 2
        · have e := cb w2 n hin
          have m1 : 0 ≤ n * fac := Int.mul_nonneg b1 (by omega)
          have m2 : n * fac ≤ 30 * 4001 := Int.mul_le_mul b2 hf2 (by omega) (by omega)
          omega
        · have := cc (by omega) n hin
          have := cl9 (by omega) n hin
          omega
end
end G21
set_option Elab.async false
set_option linter.all false
set_option maxRecDepth 100000
set_option maxHeartbeats 4000000
namespace V3
open PySem PySem.Spec PyProof.Rows L2
/-! ### the heap without hidden addresses -/
abbrev D := PyData
open Classical in
noncomputable def cut (O : Addr → Prop) (H : Hp) : Hp := fun a => if O a then none else H a
theorem cut_some {O : Addr → Prop} {H : Hp} {a : Addr} {o : HO} : cut O H a = some o ↔ ¬ O a ∧ H a = some o := by
  unfold cut
  by_cases h : O a
  · simp [h]
  · simp [h]
/-- all that stands in the one stands in the other -/
def Le (H H' : Hp) : Prop := ∀ a o, (∀ ps, o ≠ HO.tbl ps) → H a = some o → H' a = some o
theorem Le.refl (H : Hp) : Le H H := fun _ _ _ h => h
theorem Le.trans {H H1 H2 : Hp} (a : Le H H1) (b : Le H1 H2) : Le H H2 := fun c o t h => b c o t (a c o t h)
theorem Le.of {H H' : Hp} (e : Same H H') : Le H H' := fun a o _ h => e a o h
/-- a thing that stands there, and is no table -/
def There (H : Hp) (a : Addr) : Prop := ∃ o, H a = some o ∧ ∀ ps, o ≠ HO.tbl ps
def New (H : Hp) (a : Addr) : Prop := ¬ There H a
theorem New.of {H : Hp} {a : Addr} (h : H a = none) : New H a := fun ⟨o, e, _⟩ => by
  rw [h] at e
  cases e
theorem Le.there {H H' : Hp} (e : Le H H') {a : Addr} (h : There H a) : There H' a := by
  obtain ⟨o, h1, h2⟩ := h
  exact ⟨o, e _ _ h2 h1, h2⟩
theorem There.lst {H : Hp} {a : Addr} {xs : List V} (h : H a = some (.lst xs)) : There H a := ⟨_, h, fun ps z => by cases z⟩
theorem Le.cutAll {O : Addr → Prop} {H : Hp} : Le (cut O H) H := fun a o _ e => (cut_some.mp e).2
/-- fewer hidden, more there -/
theorem Le.cut {O O' : Addr → Prop} {H H' : Hp} (hO : ∀ a, O' a → O a ∨ New H a) (h : ∀ a o, ¬ O a → (∀ ps, o ≠ HO.tbl ps) → H a = some o → H' a = some o) : Le (cut O H) (V3.cut O' H') := fun a o t e => by
  obtain ⟨h1, h2⟩ := cut_some.mp e
  refine cut_some.mpr ⟨fun z => ?_, h a o h1 t h2⟩
  rcases hO a z with q | q
  · exact h1 q
  · exact q ⟨o, h2, t⟩
theorem Le.cutSub {O O' : Addr → Prop} {H : Hp} (h : ∀ a, O' a → O a) : Le (V3.cut O H) (V3.cut O' H) := Le.cut (fun a z => .inl (h a z)) fun _ _ _ _ e => e
theorem Rd.le {H H' : Hp} {a : Addr} {u : HO} (e : Le H H') (t : ∀ ps, u ≠ HO.tbl ps) (h : Rd H a u) : Rd H' a u := by
  rcases h with h | ⟨o, h⟩
  · exact .inl (e _ _ t h)
  · exact .inr ⟨o, e _ _ (fun ps => by intro z; cases z) h⟩
theorem SqT.le {K : PySem.W.Frag} {H H' : Hp} {a : Addr} {xs : List V} (e : Le H H') (h : SqT K H a xs) : SqT K H' a xs := by
  rcases h with h | h
  · exact .inl (Rd.le e (fun ps => by intro z; cases z) h)
  · exact .inr h
theorem SqL.le {K : PySem.W.Frag} {H H' : Hp} {a : Addr} {xs : List V} (e : Le H H') (h : SqL K H a xs) : SqL K H' a xs := by
  rcases h with h | h
  · exact .inl (Rd.le e (fun ps => by intro z; cases z) h)
  · exact .inr h
mutual
inductive Rp (K : PySem.W.Frag) (H : Hp) : V → D → Prop
  | non : Rp K H .non .none
  | bl (b : Bool) : Rp K H (.bl b) (.bool b)
  | int (i : Int) : Rp K H (.int i) (.int i)
  | str (x : Str) : Rp K H (.str x) (.str x)
  | lst {a : Addr} {xs : List V} {ds : List D} : H a = some (.lst xs) → RpAll K H xs ds → Rp K H (.ref a) (.list ds)
  | tup {a : Addr} {xs : List V} {ds : List D} : SqT K H a xs → RpAll K H xs ds → Rp K H (.ref a) (.tuple ds)
  | dnil {a : Addr} : H a = some (.dK []) → Rp K H (.ref a) (.dict [])
inductive RpAll (K : PySem.W.Frag) (H : Hp) : List V → List D → Prop
  | nil : RpAll K H [] []
  | cons {v : V} {vs : List V} {d : D} {ds : List D} : Rp K H v d → RpAll K H vs ds → RpAll K H (v :: vs) (d :: ds)
end
mutual
theorem Rp.dp {K : PySem.W.Frag} {H : Hp} : ∀ (d : D) (v : V), d.canLay0 = true → Rp K H v d → L2.Dp K H v d
  | .none, _, _, h => by cases h; exact .non
  | .bool b, _, _, h => by cases h; exact .bl b
  | .int i, _, _, h => by cases h; exact .int i
  | .str x, _, _, h => by cases h; exact .str x
  | .list ds, _, c, h => by
    cases h with
    | lst hs ha => exact .lst (SqL.of hs) (RpAll.dp ds _ c ha)
  | .tuple ds, _, c, h => by
    cases h with
    | tup hs ha => exact .tup hs (RpAll.dp ds _ c ha)
  | .dict _, _, c, h => by cases c
theorem RpAll.dp {K : PySem.W.Frag} {H : Hp} : ∀ (ds : List D) (vs : List V), PyData.canLayAll0 ds = true → RpAll K H vs ds → L2.DpAll K H vs ds
  | [], _, _, h => by cases h; exact .nil
  | d :: ds, _, c, h => by
    have c2 : (d.canLay0 && PyData.canLayAll0 ds) = true := c
    rw [Bool.and_eq_true] at c2
    cases h with
    | cons h1 h2 => exact .cons (Rp.dp d _ c2.1 h1) (RpAll.dp ds _ c2.2 h2)
end
mutual
theorem Rp.le {K : PySem.W.Frag} {H H' : Hp} (e : Le H H') : ∀ (d : D) (v : V), Rp K H v d → Rp K H' v d
  | .none, _, h => by cases h; exact .non
  | .bool b, _, h => by cases h; exact .bl b
  | .int i, _, h => by cases h; exact .int i
  | .str x, _, h => by cases h; exact .str x
  | .list ds, _, h => by
    cases h with
    | lst hs ha => exact .lst (e _ _ (fun ps z => by cases z) hs) (RpAll.le e ds _ ha)
  | .tuple ds, _, h => by
    cases h with
    | tup hs ha => exact .tup (SqT.le e hs) (RpAll.le e ds _ ha)
  | .dict _, _, h => by
    cases h with
    | dnil hs => exact .dnil (e _ _ (fun ps z => by cases z) hs)
theorem RpAll.le {K : PySem.W.Frag} {H H' : Hp} (e : Le H H') : ∀ (ds : List D) (vs : List V), RpAll K H vs ds → RpAll K H' vs ds
  | [], _, h => by cases h; exact .nil
  | d :: ds, _, h => by
    cases h with
    | cons h1 h2 => exact .cons (Rp.le e d _ h1) (RpAll.le e ds _ h2)
end
/-! ### flat data: no list, no dict -/
mutual
def flat : D → Bool
  | .list _ => false
  | .dict _ => false
  | .tuple xs => flatAll xs
  | _ => true
def flatAll : List D → Bool
  | [] => true
  | x :: xs => flat x && flatAll xs
end
theorem SqT.hide {K : PySem.W.Frag} {H : Hp} {O O' : Addr → Prop} {a : Addr} {xs : List V} (hO : ∀ p, O' p → O p ∨ ∃ ys, H p = some (.lst ys)) (h : SqT K (cut O H) a xs) : SqT K (cut O' H) a xs := by
  rcases h with h | h
  · refine .inl ?_
    rcases h with h | ⟨o, h⟩
    · obtain ⟨h1, h2⟩ := cut_some.mp h
      refine .inl (cut_some.mpr ⟨fun z => ?_, h2⟩)
      rcases hO _ z with z | ⟨ys, e⟩
      · exact h1 z
      · rw [h2] at e
        cases e
    · obtain ⟨h1, h2⟩ := cut_some.mp h
      refine .inr ⟨o, cut_some.mpr ⟨fun z => ?_, h2⟩⟩
      rcases hO _ z with z | ⟨ys, e⟩
      · exact h1 z
      · rw [h2] at e
        cases e
  · exact .inr h
mutual
theorem Rp.hide {K : PySem.W.Frag} {H : Hp} {O O' : Addr → Prop} (hO : ∀ p, O' p → O p ∨ ∃ ys, H p = some (.lst ys)) : ∀ (d : D) (v : V), flat d = true → Rp K (cut O H) v d → Rp K (cut O' H) v d
  | .none, _, _, h => by cases h; exact .non
  | .bool b, _, _, h => by cases h; exact .bl b
  | .int i, _, _, h => by cases h; exact .int i
  | .str x, _, _, h => by cases h; exact .str x
  | .list ds, _, f, h => by cases f
  | .tuple ds, _, f, h => by
    cases h with
    | tup hs ha => exact .tup (SqT.hide hO hs) (RpAll.hide hO ds _ f ha)
  | .dict _, _, f, h => by cases f
theorem RpAll.hide {K : PySem.W.Frag} {H : Hp} {O O' : Addr → Prop} (hO : ∀ p, O' p → O p ∨ ∃ ys, H p = some (.lst ys)) : ∀ (ds : List D) (vs : List V), flatAll ds = true → RpAll K (cut O H) vs ds → RpAll K (cut O' H) vs ds
  | [], _, _, h => by cases h; exact .nil
  | d :: ds, _, f, h => by
    have f2 : (flat d && flatAll ds) = true := f
    rw [Bool.and_eq_true] at f2
    cases h with
    | cons h1 h2 => exact .cons (Rp.hide hO d _ f2.1 h1) (RpAll.hide hO ds _ f2.2 h2)
end
theorem RpAll.len {K : PySem.W.Frag} {H : Hp} : ∀ {ds : List D} {vs : List V}, RpAll K H vs ds → vs.length = ds.length
  | [], _, h => by cases h; rfl
  | d :: ds, _, h => by
    cases h with
    | cons h1 h2 => rw [List.length_cons, List.length_cons, RpAll.len h2]
theorem RpAll.get {K : PySem.W.Frag} {H : Hp} : ∀ {ds : List D} {vs : List V} {i : Nat} {d : D}, RpAll K H vs ds → ds[i]? = some d → ∃ v, vs[i]? = some v ∧ Rp K H v d
  | [], _, _, _, h, e => by simp at e
  | d :: ds, _, 0, _, h, e => by
    cases h with
    | cons h1 h2 =>
      simp at e
      subst e
      exact ⟨_, rfl, h1⟩
  | d :: ds, _, i + 1, d', h, e => by
    cases h with
    | cons h1 h2 =>
      obtain ⟨v, q1, q2⟩ := RpAll.get (i := i) (d := d') h2 (by simpa using e)
      exact ⟨v, by simpa using q1, q2⟩
theorem RpAll.getV {K : PySem.W.Frag} {H : Hp} {ds : List D} {vs : List V} {i : Nat} {v : V} (h : RpAll K H vs ds) (e : vs[i]? = some v) : ∃ d, ds[i]? = some d ∧ Rp K H v d := by
  have hl := RpAll.len h
  have hi : i < vs.length := (List.getElem?_eq_some_iff.mp e).1
  have e2 : ds[i]? = some ds[i] := List.getElem?_eq_getElem (by omega)
  obtain ⟨v', q1, q2⟩ := RpAll.get h e2
  rw [e] at q1
  cases q1
  exact ⟨_, e2, q2⟩
theorem RpAll.app {K : PySem.W.Frag} {H : Hp} : ∀ {ds es : List D} {vs ws : List V}, RpAll K H vs ds → RpAll K H ws es → RpAll K H (vs ++ ws) (ds ++ es)
  | [], _, _, _, h, g => by cases h; exact g
  | d :: ds, _, _, _, h, g => by
    cases h with
    | cons h1 h2 => exact .cons h1 (RpAll.app h2 g)
theorem RpAll.take {K : PySem.W.Frag} {H : Hp} : ∀ {ds : List D} {vs : List V} (n : Nat), RpAll K H vs ds → RpAll K H (vs.take n) (ds.take n)
  | _, _, 0, _ => .nil
  | [], _, n + 1, h => by cases h; exact .nil
  | d :: ds, _, n + 1, h => by
    cases h with
    | cons h1 h2 => exact .cons h1 (RpAll.take n h2)
theorem RpAll.drop {K : PySem.W.Frag} {H : Hp} : ∀ {ds : List D} {vs : List V} (n : Nat), RpAll K H vs ds → RpAll K H (vs.drop n) (ds.drop n)
  | _, _, 0, h => h
  | [], _, n + 1, h => by cases h; exact .nil
  | d :: ds, _, n + 1, h => by
    cases h with
    | cons h1 h2 => exact RpAll.drop n h2
theorem RpAll.rev {K : PySem.W.Frag} {H : Hp} : ∀ {ds : List D} {vs : List V}, RpAll K H vs ds → RpAll K H vs.reverse ds.reverse
  | [], _, h => by cases h; exact .nil
  | d :: ds, _, h => by
    cases h with
    | cons h1 h2 =>
      rw [List.reverse_cons, List.reverse_cons]
      exact RpAll.app (RpAll.rev h2) (.cons h1 .nil)
theorem RpAll.one {K : PySem.W.Frag} {H : Hp} {v : V} {d : D} (h : Rp K H v d) : RpAll K H [v] [d] := .cons h .nil
theorem RpAll.erase {K : PySem.W.Frag} {H : Hp} : ∀ {ds : List D} {vs : List V} (n : Nat), RpAll K H vs ds → RpAll K H (vs.eraseIdx n) (ds.eraseIdx n)
  | [], _, n, h => by cases h; exact .nil
  | d :: ds, _, 0, h => by
    cases h with
    | cons h1 h2 => exact h2
  | d :: ds, _, n + 1, h => by
    cases h with
    | cons h1 h2 => exact .cons h1 (RpAll.erase n h2)
theorem RpAll.put {K : PySem.W.Frag} {H : Hp} {v : V} {x : D} (hv : Rp K H v x) : ∀ {ds : List D} {vs : List V} (n : Nat), RpAll K H vs ds → RpAll K H (vs.set n v) (ds.set n x)
  | [], _, n, h => by cases h; exact .nil
  | d :: ds, _, 0, h => by
    cases h with
    | cons h1 h2 => exact .cons hv h2
  | d :: ds, _, n + 1, h => by
    cases h with
    | cons h1 h2 => exact .cons h1 (RpAll.put hv n h2)
theorem rp_ints {K : PySem.W.Frag} {H : Hp} : ∀ {ns : List Int} {vs : List V}, RpAll K H vs (ns.map PyData.int) → vs = ns.map V.int
  | [], _, h => by cases h; rfl
  | n :: ns, _, h => by
    cases h with
    | cons h1 h2 =>
      cases h1
      rw [List.map_cons, rp_ints h2]
theorem rp_bools {K : PySem.W.Frag} {H : Hp} : ∀ {ns : List Bool} {vs : List V}, RpAll K H vs (ns.map PyData.bool) → vs = ns.map V.bl
  | [], _, h => by cases h; rfl
  | n :: ns, _, h => by
    cases h with
    | cons h1 h2 =>
      cases h1
      rw [List.map_cons, rp_bools h2]
end V3
set_option Elab.async false
set_option linter.all false
set_option maxRecDepth 100000
set_option maxHeartbeats 4000000
namespace V3
open PySem PySem.Spec PyProof.Rows L2
/-! ### the draws -/
abbrev drK (g c : Addr) (n t : Int) : List (Key × V) := [(.inr "great", .ref g), (.inr "cells", .ref c), (.inr "left", .int n), (.inr "turn", .int t)]
/-- a dict of draws stands at d -/
def Dr (H : Hp) (d g c : Addr) (t : Int) : Prop := ∃ (gs cs : List Int) (n : Int), H d = some (.dK (drK g c n t)) ∧ H g = some (.lst (gs.map V.int)) ∧ H c = some (.lst (cs.map V.int)) ∧ g ≠ c ∧
  (∀ x ∈ gs, 0 ≤ x) ∧ (∀ x ∈ cs, 0 ≤ x ∧ x < 2147483629) ∧ 0 ≤ n ∧ 0 ≤ t
/-! ### values as one sees them -/
inductive U where
  | d (x : D)
  | dw (bs : List D)
  | tb (f : Int → Int) (ns : List Int)
  | dr
structure RR where
  dr : Option (Addr × Addr × Addr)
  hid : Addr → Prop
/-- what a def leans on -/
structure Am where
  K : PySem.W.Frag
  C : Addr
  R : RR
  TL : List (Addr × Str)
  Hs : Hp
  O0 : Addr → Prop
  E : XK
  e : Addr → Prop
  cls : Cls K C
  nB : NoAttr K C "blocks"
  insT : ∀ (H : Hp) (a dx : Addr) (fs : List (Str × V)), H a = some (.ins C dx fs) → TyX K H (.ref a) (.ref C)
  kD : PySem.W.kitOne K (.ref C) (.ref C) = some true
/-- all but the draws stands -/
def FrR (R : RR) (H H' : Hp) : Prop := (∀ b o, (∀ d g c, R.dr = some (d, g, c) → b ≠ d ∧ b ≠ g) → (∀ ps, o ≠ HO.tbl ps) → H b = some o → H' b = some o) ∧ ∀ b, There H b → There H' b
/-- what stood at the start, but for what may be written, stands -/
def Gr (am : Am) (H : Hp) : Prop := (∀ b o, ¬ am.O0 b → (∀ ps, o ≠ HO.tbl ps) → am.Hs b = some o → H b = some o) ∧ ∀ b, There am.Hs b → There H b
theorem FrR.refl (R : RR) (H : Hp) : FrR R H H := ⟨fun _ _ _ _ h => h, fun _ h => h⟩
theorem FrR.trans {R : RR} {H H1 H2 : Hp} (a : FrR R H H1) (b : FrR R H1 H2) : FrR R H H2 := ⟨fun c o h1 h2 h => b.1 c o h1 h2 (a.1 c o h1 h2 h), fun c h => b.2 c (a.2 c h)⟩
theorem FrR.of {R : RR} {H H' : Hp} (e : Same H H') : FrR R H H' := ⟨fun b o _ _ h => e b o h, fun b h => (Le.of e).there h⟩
theorem FrR.le {R : RR} {H H' : Hp} (e : Le H H') : FrR R H H' := ⟨fun b o _ t h => e b o t h, fun b h => e.there h⟩
structure Wd (R : RR) (TL : List (Addr × Str)) (H : Hp) (n : Nat) : Prop where
  hid : ∀ a, R.hid a → There H a
  tabs : LamX.Tabs TL H
  dr : ∀ d g c, R.dr = some (d, g, c) → R.hid d ∧ R.hid g ∧ R.hid c ∧ ∃ t : Int, t ≤ n ∧ Dr H d g c t
theorem tabs_keep {TL : List (Addr × Str)} {H H' : Hp} (e : ∀ b o, (∀ xs, o ≠ HO.lst xs) → (∀ kvs, o ≠ HO.dK kvs) → H b = some o → H' b = some o) (h : LamX.Tabs TL H) : LamX.Tabs TL H' := fun q hq => by
  obtain ⟨ps, h1, h2, h3⟩ := h q hq
  refine ⟨ps, e _ _ (fun xs => by intro z; cases z) (fun xs => by intro z; cases z) h1, h2, fun pos cv hc => ?_⟩
  obtain ⟨c, e3, e4⟩ := h3 pos cv hc
  exact ⟨c, e3, e _ _ (fun xs => by intro z; unfold LamX.CodeO at z; cases z) (fun xs => by intro z; unfold LamX.CodeO at z; cases z) e4⟩
theorem Dr.same {H H' : Hp} {d g c : Addr} {t : Int} (e : ∀ b o, b = d ∨ b = g ∨ b = c → H b = some o → H' b = some o) (h : Dr H d g c t) : Dr H' d g c t := by
  obtain ⟨gs, cs, n, h1, h2, h3, r⟩ := h
  exact ⟨gs, cs, n, e _ _ (.inl rfl) h1, e _ _ (.inr (.inl rfl)) h2, e _ _ (.inr (.inr rfl)) h3, r⟩
theorem Wd.same {R : RR} {TL : List (Addr × Str)} {H H' : Hp} {n : Nat} (e : Same H H') (h : Wd R TL H n) : Wd R TL H' n where
  hid a ha := (Le.of e).there (h.hid a ha)
  tabs := tabs_keep (fun b o _ _ q => e b o q) h.tabs
  dr d g c k := by
    obtain ⟨h1, h2, h3, t, ht, hd⟩ := h.dr d g c k
    exact ⟨h1, h2, h3, t, ht, hd.same fun b o _ q => e b o q⟩
theorem Wd.le {R : RR} {TL : List (Addr × Str)} {H : Hp} {n m : Nat} (h : Wd R TL H n) (k : n ≤ m) : Wd R TL H m where
  hid := h.hid
  tabs := h.tabs
  dr d g c q := by
    obtain ⟨h1, h2, h3, t, ht, hd⟩ := h.dr d g c q
    exact ⟨h1, h2, h3, t, by omega, hd⟩
/-- a list that is not hidden is written -/
theorem Wd.own {R : RR} {TL : List (Addr × Str)} {H : Hp} {n : Nat} {p : Addr} {xs ys : List V} (h : Wd R TL H n) (hp : ¬ R.hid p) (e : H p = some (.lst xs)) : Wd R TL (upd H p (.lst ys)) n where
  hid a ha := by
    have ne : a ≠ p := fun q => hp (q ▸ ha)
    obtain ⟨o, q1, q2⟩ := h.hid a ha
    exact ⟨o, by rw [upd_ne ne]; exact q1, q2⟩
  tabs := tabs_keep (fun b o h1 _ q => by
    have ne : b ≠ p := fun z => by
      rw [z, e] at q
      cases q
      exact h1 _ rfl
    rw [upd_ne ne]
    exact q) h.tabs
  dr d g c k := by
    obtain ⟨h1, h2, h3, t, ht, hd⟩ := h.dr d g c k
    refine ⟨h1, h2, h3, t, ht, hd.same fun b o hb q => ?_⟩
    have ne : b ≠ p := fun z => by
      subst z
      rcases hb with rfl | rfl | rfl
      · exact hp h1
      · exact hp h2
      · exact hp h3
    rw [upd_ne ne]
    exact q
/-- v is u, in what of H is not hidden -/
def RepU (am : Am) (O : Addr → Prop) (H : Hp) (v : V) : U → Prop
  | .d x => Rp am.K (cut O H) v x
  | .dw bs => flatAll bs = true ∧ ∃ a dx t, v = .ref a ∧ cut O H a = some (.ins am.C dx [("blocks", .ref t)]) ∧ Rp am.K (cut O H) (.ref t) (.tuple bs)
  | .tb f ns => ∃ a kvs, v = .ref a ∧ cut O H a = some (.dK kvs) ∧ ∀ n ∈ ns, valV kvs (.inl n) = some (.int (f n))
  | .dr => ∃ d g c, am.R.dr = some (d, g, c) ∧ v = .ref d
theorem RepU.le {am : Am} {O O' : Addr → Prop} {H H' : Hp} {v : V} {u : U} (e : Le (cut O H) (cut O' H')) (h : RepU am O H v u) : RepU am O' H' v u := by
  cases u with
  | d x => exact Rp.le e _ _ h
  | dw bs =>
    obtain ⟨f, a, dx, t, h1, h2, h3⟩ := h
    exact ⟨f, a, dx, t, h1, e _ _ (fun ps => by intro z; cases z) h2, Rp.le e _ _ h3⟩
  | tb f ns =>
    obtain ⟨a, kvs, h1, h2, h3⟩ := h
    exact ⟨a, kvs, h1, e _ _ (fun ps => by intro z; cases z) h2, h3⟩
  | dr => exact h
@[simp] def flatU : U → Bool
  | .d x => flat x
  | .dw _ => true
  | .tb _ _ => true
  | .dr => true
theorem RepU.hide {am : Am} {O O' : Addr → Prop} {H : Hp} {v : V} {u : U} (hO : ∀ p, O' p → O p ∨ ∃ ys, H p = some (.lst ys)) (f : flatU u = true) (h : RepU am O H v u) : RepU am O' H v u := by
  cases u with
  | d x => exact Rp.hide hO _ _ f h
  | dw bs =>
    obtain ⟨f, a, dx, t, h1, h2, h3⟩ := h
    refine ⟨f, a, dx, t, h1, ?_, Rp.hide hO _ _ f h3⟩
    obtain ⟨q1, q2⟩ := cut_some.mp h2
    refine cut_some.mpr ⟨fun z => ?_, q2⟩
    rcases hO _ z with z | ⟨ys, e⟩
    · exact q1 z
    · rw [q2] at e
      cases e
  | tb f ns =>
    obtain ⟨a, kvs, h1, h2, h3⟩ := h
    refine ⟨a, kvs, h1, ?_, h3⟩
    obtain ⟨q1, q2⟩ := cut_some.mp h2
    refine cut_some.mpr ⟨fun z => ?_, q2⟩
    rcases hO _ z with z | ⟨ys, e⟩
    · exact q1 z
    · rw [q2] at e
      cases e
  | dr => exact h
/-! ### slots -/
inductive Sl where
  | no
  | fz (u : U)
  | ow (ds : List D)
@[simp] def Sl.fzd : Sl → Sl
  | .no => .no
  | .fz u => .fz u
  | .ow ds => .fz (.d (.list ds))
abbrev Ro := List Sl
@[simp] def demAt (S : List Nat) : Nat → Ro → Ro
  | _, [] => []
  | n, s :: ρ => (if n ∈ S then s.fzd else s) :: demAt S (n + 1) ρ
abbrev dem (S : List Nat) (ρ : Ro) : Ro := demAt S 0 ρ
theorem demAt_get (S : List Nat) : ∀ (ρ : Ro) (n i : Nat), (demAt S n ρ)[i]? = (ρ[i]?).map fun s => if n + i ∈ S then s.fzd else s
  | [], n, i => by simp
  | s :: ρ, n, 0 => by simp
  | s :: ρ, n, i + 1 => by
    show (demAt S (n + 1) ρ)[i]? = _
    rw [demAt_get S ρ (n + 1) i]
    have e : n + 1 + i = n + (i + 1) := by omega
    rw [e]
    rfl
theorem dem_get (S : List Nat) (ρ : Ro) (i : Nat) : (dem S ρ)[i]? = (ρ[i]?).map fun s => if i ∈ S then s.fzd else s := by
  have h := demAt_get S ρ 0 i
  rw [Nat.zero_add] at h
  exact h
theorem dem_len (S : List Nat) : ∀ (ρ : Ro) (n : Nat), (demAt S n ρ).length = ρ.length
  | [], _ => rfl
  | s :: ρ, n => by
    show (demAt S (n + 1) ρ).length + 1 = ρ.length + 1
    rw [dem_len S ρ (n + 1)]
theorem dem_nil : ∀ (ρ : Ro) (n : Nat), demAt [] n ρ = ρ
  | [], _ => rfl
  | s :: ρ, n => by
    show (if n ∈ [] then s.fzd else s) :: demAt [] (n + 1) ρ = _
    rw [dem_nil ρ (n + 1), if_neg (by simp)]
/-- the list at p is slot i's own -/
def OwnAt (ρ : Ro) (σ : L2.St) (i : Nat) (p : Addr) : Prop := (∃ ds, ρ[i]? = some (Sl.ow ds)) ∧ σ[i]? = some (some (V.ref p))
def Hid (am : Am) (ρ : Ro) (σ : L2.St) (a : Addr) : Prop := am.R.hid a ∨ ∃ i, OwnAt ρ σ i a
structure Rl (am : Am) (ρ : Ro) (n : Nat) (σ : L2.St) (H : Hp) : Prop where
  len : ρ.length = σ.length
  fz : ∀ (i : Nat) (u : U), ρ[i]? = some (Sl.fz u) → ∃ v, σ[i]? = some (some v) ∧ RepU am (Hid am ρ σ) H v u
  ow : ∀ (i : Nat) (ds : List D), ρ[i]? = some (Sl.ow ds) → ∃ p vs, σ[i]? = some (some (V.ref p)) ∧ ((New am.Hs p ∨ am.O0 p) ∧ ¬ am.R.hid p) ∧ H p = some (.lst vs) ∧ RpAll am.K (cut (Hid am ρ σ) H) vs ds
  nd : ∀ (i j : Nat) (p : Addr), OwnAt ρ σ i p → OwnAt ρ σ j p → i = j
  od : ∀ d g c, am.R.dr = some (d, g, c) → am.O0 d ∧ am.O0 g
  gr : Gr am H
  wd : Wd am.R am.TL H n
  ex : ∀ C H' n', Gr am H' → Wd am.R am.TL H' n' → am.e C → am.E (.ref C) none H'
section
variable {am : Am} {ρ : Ro} {n n' : Nat} {σ : L2.St} {H H' : Hp}
theorem Rl.ownL (h : Rl am ρ n σ H) {i : Nat} {p : Addr} (o : OwnAt ρ σ i p) : (New am.Hs p ∨ am.O0 p) ∧ (∃ vs, H p = some (.lst vs)) ∧ ¬ am.R.hid p := by
  obtain ⟨⟨ds, e⟩, e2⟩ := o
  obtain ⟨p', vs, q1, q2, q3, q4⟩ := h.ow i ds e
  rw [e2] at q1
  cases q1
  exact ⟨q2.1, ⟨vs, q3⟩, q2.2⟩
theorem Rl.hidThere (h : Rl am ρ n σ H) {a : Addr} (z : Hid am ρ σ a) : There H a := by
  rcases z with z | ⟨i, z⟩
  · exact h.wd.hid a z
  · obtain ⟨_, ⟨vs, e⟩, _⟩ := h.ownL z
    exact .lst e
theorem Rl.new (h : Rl am ρ n σ H) {p : Addr} (e : New H p) : ¬ Hid am ρ σ p := fun z => e (h.hidThere z)
/-- what is new now was not there at the start -/
theorem Rl.new0 (h : Rl am ρ n σ H) {p : Addr} (e : New H p) : (New am.Hs p ∨ am.O0 p) ∧ ¬ am.R.hid p := by
  refine ⟨?_, fun z => h.new e (.inl z)⟩
  by_cases o : am.O0 p
  · exact .inr o
  · exact .inl fun ⟨x, q1, q2⟩ => e ⟨x, h.gr.1 p x o q2 q1, q2⟩
/-- what is not hidden and no draw of ours stands behind a step -/
theorem Rl.cutLe (h : Rl am ρ n σ H) (f : FrR am.R H H') (S : List Nat) : Le (cut (Hid am (dem S ρ) σ) H) (cut (Hid am (dem S ρ) σ) H') := Le.cut (fun a z => .inl z) fun a o hn t e => f.1 a o (fun d g c q => by
  obtain ⟨h1, h2, _, _⟩ := h.wd.dr d g c q
  exact ⟨fun z => hn (.inl (z ▸ h1)), fun z => hn (.inl (z ▸ h2))⟩) t e
theorem Rl.cutLe0 (h : Rl am ρ n σ H) (f : FrR am.R H H') : Le (cut (Hid am ρ σ) H) (cut (Hid am ρ σ) H') := by
  have q := h.cutLe f []
  rw [show dem [] ρ = ρ from dem_nil ρ 0] at q
  exact q
theorem Rl.keepOw (h : Rl am ρ n σ H) (f : FrR am.R H H') {i : Nat} {p : Addr} {vs : List V} (o : OwnAt ρ σ i p) (e : H p = some (.lst vs)) : H' p = some (.lst vs) := f.1 p _ (fun d g c q => by
  obtain ⟨h1, h2, _, _⟩ := h.wd.dr d g c q
  obtain ⟨_, _, h3⟩ := h.ownL o
  exact ⟨fun z => h3 (z ▸ h1), fun z => h3 (z ▸ h2)⟩) (fun ps z => by cases z) e
theorem Rl.step (h : Rl am ρ n σ H) (f : FrR am.R H H') (w : Wd am.R am.TL H' n') : Rl am ρ n' σ H' where
  len := h.len
  fz i u e := by
    obtain ⟨v, q1, q2⟩ := h.fz i u e
    exact ⟨v, q1, q2.le (h.cutLe0 f)⟩
  ow i ds e := by
    obtain ⟨p, vs, q1, q2, q3, q4⟩ := h.ow i ds e
    exact ⟨p, vs, q1, q2, h.keepOw f ⟨⟨ds, e⟩, q1⟩ q3, RpAll.le (h.cutLe0 f) _ _ q4⟩
  nd := h.nd
  od := h.od
  gr := ⟨fun b o h1 h2 e => f.1 b o (fun d g c q => by
    obtain ⟨a1, a2⟩ := h.od d g c q
    exact ⟨fun z => h1 (z ▸ a1), fun z => h1 (z ▸ a2)⟩) h2 (h.gr.1 b o h1 h2 e), fun b z => f.2 b (h.gr.2 b z)⟩
  wd := w
  ex := h.ex
theorem ownDem {S : List Nat} {i : Nat} {p : Addr} (o : OwnAt (dem S ρ) σ i p) : OwnAt ρ σ i p ∧ i ∉ S := by
  obtain ⟨⟨ds, e⟩, e2⟩ := o
  rw [dem_get] at e
  cases q : ρ[i]? with
  | none =>
    rw [q] at e
    cases e
  | some s =>
    rw [q] at e
    have e3 : (if i ∈ S then s.fzd else s) = .ow ds := Option.some.inj e
    by_cases hi : i ∈ S
    · rw [if_pos hi] at e3
      cases s <;> cases e3
    · rw [if_neg hi] at e3
      subst e3
      exact ⟨⟨⟨ds, q⟩, e2⟩, hi⟩
theorem hidDem {S : List Nat} {a : Addr} (z : Hid am (dem S ρ) σ a) : Hid am ρ σ a := by
  rcases z with z | ⟨i, z⟩
  · exact .inl z
  · exact .inr ⟨i, (ownDem z).1⟩
theorem hidDem2 {S S' : List Nat} (hS : ∀ i ∈ S', i ∈ S) {a : Addr} (z : Hid am (dem S ρ) σ a) : Hid am (dem S' ρ) σ a := by
  rcases z with z | ⟨i, z⟩
  · exact .inl z
  · obtain ⟨⟨⟨ds, e⟩, e2⟩, hi⟩ := ownDem z
    refine .inr ⟨i, ⟨ds, ?_⟩, e2⟩
    rw [dem_get, e]
    show some (if i ∈ S' then _ else _) = _
    rw [if_neg fun z => hi (hS i z)]
/-- the slots S are read: their lists are no longer ours -/
theorem Rl.dem (h : Rl am ρ n σ H) (S : List Nat) : Rl am (dem S ρ) n σ H where
  len := by rw [show (V3.dem S ρ).length = ρ.length from dem_len S ρ 0, h.len]
  fz i u e := by
    rw [dem_get] at e
    cases q : ρ[i]? with
    | none =>
      rw [q] at e
      cases e
    | some s =>
      rw [q] at e
      have e3 : (if i ∈ S then s.fzd else s) = .fz u := Option.some.inj e
      by_cases hi : i ∈ S
      · rw [if_pos hi] at e3
        cases s with
        | no => cases e3
        | fz u' =>
          cases e3
          obtain ⟨v, q1, q2⟩ := h.fz i _ q
          exact ⟨v, q1, q2.le (Le.cutSub fun a => hidDem)⟩
        | ow ds =>
          cases e3
          obtain ⟨p, vs, q1, q2, q3, q4⟩ := h.ow i ds q
          refine ⟨.ref p, q1, .lst (cut_some.mpr ⟨fun z => ?_, q3⟩) (RpAll.le (Le.cutSub fun a => hidDem) _ _ q4)⟩
          rcases z with z | ⟨j, z⟩
          · exact q2.2 z
          · obtain ⟨z1, z2⟩ := ownDem z
            rw [h.nd j i p z1 ⟨⟨ds, q⟩, q1⟩] at z2
            exact z2 hi
      · rw [if_neg hi] at e3
        subst e3
        obtain ⟨v, q1, q2⟩ := h.fz i _ q
        exact ⟨v, q1, q2.le (Le.cutSub fun a => hidDem)⟩
  ow i ds e := by
    rw [dem_get] at e
    cases q : ρ[i]? with
    | none =>
      rw [q] at e
      cases e
    | some s =>
      rw [q] at e
      have e3 : (if i ∈ S then s.fzd else s) = .ow ds := Option.some.inj e
      by_cases hi : i ∈ S
      · rw [if_pos hi] at e3
        cases s <;> cases e3
      · rw [if_neg hi] at e3
        subst e3
        obtain ⟨p, vs, q1, q2, q3, q4⟩ := h.ow i ds q
        exact ⟨p, vs, q1, q2, q3, RpAll.le (Le.cutSub fun a => hidDem) _ _ q4⟩
  nd i j p a b := h.nd i j p (ownDem a).1 (ownDem b).1
  od := h.od
  gr := h.gr
  wd := h.wd
  ex := h.ex
theorem set_get {α : Type} {l : List α} {i j : Nat} {x y : α} (h : (l.set i x)[j]? = some y) : (j = i ∧ i < l.length ∧ y = x) ∨ (j ≠ i ∧ l[j]? = some y) := by
  by_cases e : i = j
  · subst e
    by_cases hl : i < l.length
    · rw [List.getElem?_set_self hl] at h
      cases h
      exact .inl ⟨rfl, hl, rfl⟩
    · rw [List.getElem?_eq_none (by simpa using hl)] at h
      cases h
  · rw [List.getElem?_set_ne e] at h
    exact .inr ⟨fun z => e z.symm, h⟩
theorem own_set {s : Sl} {v : Option V} (hs : ∀ ds, s ≠ .ow ds) {i j : Nat} {p : Addr} (o : OwnAt (ρ.set i s) (σ.set i v) j p) : OwnAt ρ σ j p := by
  obtain ⟨⟨ds, e⟩, e2⟩ := o
  rcases set_get e with ⟨_, _, z⟩ | ⟨ne, e⟩
  · exact absurd z.symm (hs ds)
  · rcases set_get e2 with ⟨z, _⟩ | ⟨_, e2⟩
    · exact absurd z ne
    · exact ⟨⟨ds, e⟩, e2⟩
theorem hid_set {s : Sl} {v : Option V} (hs : ∀ ds, s ≠ .ow ds) {i : Nat} {a : Addr} (z : Hid am (ρ.set i s) (σ.set i v) a) : Hid am ρ σ a := by
  rcases z with z | ⟨j, z⟩
  · exact .inl z
  · exact .inr ⟨j, own_set hs z⟩
theorem Rl.setNo (h : Rl am ρ n σ H) (i : Nat) (v : Option V) : Rl am (ρ.set i .no) n (σ.set i v) H where
  len := by rw [List.length_set, List.length_set, h.len]
  fz j u e := by
    rcases set_get e with ⟨_, _, z⟩ | ⟨ne, e⟩
    · cases z
    · obtain ⟨v, q1, q2⟩ := h.fz j u e
      exact ⟨v, by rw [List.getElem?_set_ne (Ne.symm ne)]; exact q1, q2.le (Le.cutSub fun a => hid_set fun ds z => by cases z)⟩
  ow j ds e := by
    rcases set_get e with ⟨_, _, z⟩ | ⟨ne, e⟩
    · cases z
    · obtain ⟨p, vs, q1, q2, q3, q4⟩ := h.ow j ds e
      exact ⟨p, vs, by rw [List.getElem?_set_ne (Ne.symm ne)]; exact q1, q2, q3, RpAll.le (Le.cutSub fun a => hid_set fun ds z => by cases z) _ _ q4⟩
  nd i j p a b := h.nd i j p (own_set (fun ds z => by cases z) a) (own_set (fun ds z => by cases z) b)
  od := h.od
  gr := h.gr
  wd := h.wd
  ex := h.ex
theorem Rl.setFz (h : Rl am ρ n σ H) {v : V} {u : U} (i : Nat) (r : RepU am (Hid am ρ σ) H v u) : Rl am (ρ.set i (.fz u)) n (σ.set i (some v)) H where
  len := by rw [List.length_set, List.length_set, h.len]
  fz j u' e := by
    rcases set_get e with ⟨z1, z2, z⟩ | ⟨ne, e⟩
    · cases z
      subst z1
      exact ⟨v, by rw [List.getElem?_set_self (by rw [← h.len]; exact z2)], r.le (Le.cutSub fun a => hid_set fun ds z => by cases z)⟩
    · obtain ⟨v, q1, q2⟩ := h.fz j u' e
      exact ⟨v, by rw [List.getElem?_set_ne (Ne.symm ne)]; exact q1, q2.le (Le.cutSub fun a => hid_set fun ds z => by cases z)⟩
  ow j ds e := by
    rcases set_get e with ⟨_, _, z⟩ | ⟨ne, e⟩
    · cases z
    · obtain ⟨p, vs, q1, q2, q3, q4⟩ := h.ow j ds e
      exact ⟨p, vs, by rw [List.getElem?_set_ne (Ne.symm ne)]; exact q1, q2, q3, RpAll.le (Le.cutSub fun a => hid_set fun ds z => by cases z) _ _ q4⟩
  nd i j p a b := h.nd i j p (own_set (fun ds z => by cases z) a) (own_set (fun ds z => by cases z) b)
  od := h.od
  gr := h.gr
  wd := h.wd
  ex := h.ex
theorem own_setO {ds : List D} {p : Addr} {i j : Nat} {a : Addr} (o : OwnAt (ρ.set i (.ow ds)) (σ.set i (some (.ref p))) j a) : (j = i ∧ a = p) ∨ (j ≠ i ∧ OwnAt ρ σ j a) := by
  obtain ⟨⟨ds', e⟩, e2⟩ := o
  rcases set_get e with ⟨z1, _, _⟩ | ⟨ne, e⟩
  · rcases set_get e2 with ⟨_, _, z⟩ | ⟨ne, _⟩
    · cases z
      exact .inl ⟨z1, rfl⟩
    · exact absurd z1 ne
  · rcases set_get e2 with ⟨z, _⟩ | ⟨_, e2⟩
    · exact absurd z ne
    · exact .inr ⟨ne, ⟨ds', e⟩, e2⟩
theorem hid_setO {ds : List D} {p : Addr} {i : Nat} {a : Addr} (z : Hid am (ρ.set i (.ow ds)) (σ.set i (some (.ref p))) a) : a = p ∨ Hid am ρ σ a := by
  rcases z with z | ⟨j, z⟩
  · exact .inr (.inl z)
  · rcases own_setO z with ⟨_, z⟩ | ⟨_, z⟩
    · exact .inl z
    · exact .inr (.inr ⟨j, z⟩)
/-- a new list comes into slot i -/
theorem Rl.setOw (h : Rl am ρ n σ H) (f : FrR am.R H H') (w : Wd am.R am.TL H' n') {p : Addr} {vs : List V} {ds : List D} (i : Nat) (hp : New H p) (e : H' p = some (.lst vs)) (r : RpAll am.K (cut (fun a => a = p ∨ Hid am ρ σ a) H') vs ds) :
    Rl am (ρ.set i (.ow ds)) n' (σ.set i (some (.ref p))) H' := by
  have h' := h.step f w
  have L : Le (cut (Hid am ρ σ) H) (cut (Hid am (ρ.set i (.ow ds)) (σ.set i (some (.ref p)))) H') := Le.cut (fun a z => by
    rcases hid_setO z with z | z
    · exact .inr (by rw [z]; exact hp)
    · exact .inl z) fun a o hn t e => f.1 a o (fun d g c q => by
      obtain ⟨h1, h2, _, _⟩ := h.wd.dr d g c q
      exact ⟨fun z => hn (.inl (z ▸ h1)), fun z => hn (.inl (z ▸ h2))⟩) t e
  have pn : ¬ Hid am ρ σ p := h.new hp
  exact {
    len := by rw [List.length_set, List.length_set, h.len]
    fz := fun j u e => by
      rcases set_get e with ⟨_, _, z⟩ | ⟨ne, e⟩
      · cases z
      · obtain ⟨v, q1, q2⟩ := h.fz j u e
        exact ⟨v, by rw [List.getElem?_set_ne (Ne.symm ne)]; exact q1, q2.le L⟩
    ow := fun j ds' e' => by
      rcases set_get e' with ⟨z1, z2, z⟩ | ⟨ne, e'⟩
      · cases z
        subst z1
        refine ⟨p, vs, by rw [List.getElem?_set_self (by rw [← h.len]; exact z2)], h.new0 hp, e, RpAll.le (Le.cutSub fun a => hid_setO) _ _ r⟩
      · obtain ⟨p', vs', q1, q2, q3, q4⟩ := h.ow j ds' e'
        exact ⟨p', vs', by rw [List.getElem?_set_ne (Ne.symm ne)]; exact q1, q2, h.keepOw f ⟨⟨ds', e'⟩, q1⟩ q3, RpAll.le L _ _ q4⟩
    nd := fun i' j a x y => by
      rcases own_setO x with ⟨x1, x2⟩ | ⟨x1, x2⟩
      · rcases own_setO y with ⟨y1, y2⟩ | ⟨y1, y2⟩
        · rw [x1, y1]
        · exact absurd (.inr ⟨j, x2 ▸ y2⟩) pn
      · rcases own_setO y with ⟨y1, y2⟩ | ⟨y1, y2⟩
        · exact absurd (.inr ⟨i', y2 ▸ x2⟩) pn
        · exact h.nd i' j a x2 y2
    od := h.od
    gr := h'.gr
    wd := w
    ex := h.ex }
theorem own_setS {ds ds' : List D} {i j : Nat} {a : Addr} (hi : ρ[i]? = some (Sl.ow ds)) (o : OwnAt (ρ.set i (.ow ds')) σ j a) : OwnAt ρ σ j a := by
  obtain ⟨⟨ds2, e⟩, e2⟩ := o
  rcases set_get e with ⟨z1, _, _⟩ | ⟨ne, e⟩
  · subst z1
    exact ⟨⟨ds, hi⟩, e2⟩
  · exact ⟨⟨ds2, e⟩, e2⟩
/-- the list of slot i is written -/
theorem Rl.write (h : Rl am ρ n σ H) {i : Nat} {ds ds' : List D} {p : Addr} {vs' : List V} (hi : ρ[i]? = some (Sl.ow ds)) (hp : σ[i]? = some (some (V.ref p))) (r : RpAll am.K (cut (Hid am ρ σ) H) vs' ds') :
    Rl am (ρ.set i (.ow ds')) n σ (upd H p (.lst vs')) := by
  have own : OwnAt ρ σ i p := ⟨⟨ds, hi⟩, hp⟩
  obtain ⟨n0, ⟨xs, e0⟩, nh⟩ := h.ownL own
  have L : Le (cut (Hid am ρ σ) H) (cut (Hid am (ρ.set i (.ow ds')) σ) (upd H p (.lst vs'))) := Le.cut (fun a z => .inl (by
    rcases z with z | ⟨j, z⟩
    · exact .inl z
    · exact .inr ⟨j, own_setS hi z⟩)) fun a o hn t e => by
      have ne : a ≠ p := fun z => hn (.inr ⟨i, by rw [z]; exact own⟩)
      rw [upd_ne ne]
      exact e
  exact {
    len := by rw [List.length_set, h.len]
    fz := fun j u e => by
      rcases set_get e with ⟨_, _, z⟩ | ⟨ne, e⟩
      · cases z
      · obtain ⟨v, q1, q2⟩ := h.fz j u e
        exact ⟨v, q1, q2.le L⟩
    ow := fun j ds2 e => by
      rcases set_get e with ⟨z1, z2, z⟩ | ⟨ne, e⟩
      · cases z
        subst z1
        exact ⟨p, vs', hp, ⟨n0, nh⟩, upd_same, RpAll.le L _ _ r⟩
      · obtain ⟨p', vs2, q1, q2, q3, q4⟩ := h.ow j ds2 e
        have np : p' ≠ p := fun z => ne (h.nd j i p' ⟨⟨ds2, e⟩, q1⟩ (z ▸ own))
        exact ⟨p', vs2, q1, q2, by rw [upd_ne np]; exact q3, RpAll.le L _ _ q4⟩
    nd := fun i' j a x y => h.nd i' j a (own_setS hi x) (own_setS hi y)
    od := h.od
    gr := ⟨fun b o h1 h2 e => by
      have ne : b ≠ p := fun z => by
        rcases n0 with n0 | n0
        · exact n0 ⟨o, z ▸ e, h2⟩
        · exact h1 (z ▸ n0)
      rw [upd_ne ne]
      exact h.gr.1 b o h1 h2 e, fun b z => by
      by_cases hb : b = p
      · rw [hb]
        exact .lst upd_same
      · obtain ⟨o, q1, q2⟩ := h.gr.2 b z
        exact ⟨o, by rw [upd_ne hb]; exact q1, q2⟩⟩
    wd := h.wd.own nh e0
    ex := h.ex }
end
end V3
set_option Elab.async false
set_option linter.all false
set_option maxRecDepth 100000
set_option maxHeartbeats 4000000
namespace V3
open PySem PySem.Spec PyProof.Rows L2
/-! ### judgements: a reading t of the hand layer, and m, what it asks of values alone -/
theorem same_new {H : Hp} {p : Addr} {o : HO} (h : H p = none) : Same H (upd H p o) := fun b x e => by
  rw [upd_ne (ne_of_none e h)]
  exact e
abbrev TE3 := Ro → Nat → (Bool → U → Nat → Prop) → (Addr → Prop) → Prop
abbrev TT3 := Ro → Nat → (Bool → Nat → Prop) → (Addr → Prop) → Prop
abbrev TA3 := Ro → Nat → (List U → Nat → Prop) → (Addr → Prop) → Prop
abbrev TO3 := Ro → Nat → (Option Int → Nat → Prop) → (Addr → Prop) → Prop
abbrev RepA (am : Am) (O : Addr → Prop) (H : Hp) (vs : List V) (us : List U) : Prop := Paired (RepU am O H) vs us
theorem RepA.le {am : Am} {O O' : Addr → Prop} {H H' : Hp} (e : Le (cut O H) (cut O' H')) : ∀ {vs : List V} {us : List U}, RepA am O H vs us → RepA am O' H' vs us
  | _, _, .nil => .nil
  | _, _, .cons h t => .cons (h.le e) (RepA.le e t)
/-- v is u; fr: a new list -/
def RepV (am : Am) (O : Addr → Prop) (H H' : Hp) (fr : Bool) (v : V) (u : U) : Prop :=
  RepU am O H' v u ∧ (fr = true → ∃ p vs ds, v = .ref p ∧ u = .d (.list ds) ∧ New H p ∧ H' p = some (.lst vs) ∧ RpAll am.K (cut (fun a => a = p ∨ O a) H') vs ds)
theorem RepV.old {am : Am} {O : Addr → Prop} {H H' : Hp} {v : V} {u : U} (h : RepU am O H' v u) : RepV am O H H' false v u := ⟨h, fun z => by cases z⟩
/-- an expression; S: the slots whose lists may be what it gives -/
class LE (K : PySem.W.Frag) (C : Addr) (TL : List (Addr × Str)) (E : XK) (t : TE) (S : outParam (List Nat)) (m : outParam TE3) : Prop where
  s : ∀ (am : Am) (ρ : Ro) (n : Nat) (σ : L2.St) (H : Hp), am.K = K ∧ am.TL = TL ∧ am.E = E ∧ am.C = C → Rl am ρ n σ H → ∀ (Q : VK) (q : Bool → U → Nat → Prop), m ρ n q am.e →
    (∀ fr u n' v H', q fr u n' → FrR am.R H H' → Wd am.R am.TL H' n' → RepV am (Hid am (dem S ρ) σ) H H' fr v u → Q v H') → t σ H Q
class LT (K : PySem.W.Frag) (C : Addr) (TL : List (Addr × Str)) (E : XK) (t : TT) (m : outParam TT3) : Prop where
  s : ∀ (am : Am) (ρ : Ro) (n : Nat) (σ : L2.St) (H : Hp), am.K = K ∧ am.TL = TL ∧ am.E = E ∧ am.C = C → Rl am ρ n σ H → ∀ (Q : Bool → Hp → Prop) (q : Bool → Nat → Prop), m ρ n q am.e →
    (∀ b n' H', q b n' → FrR am.R H H' → Wd am.R am.TL H' n' → Q b H') → t σ H Q
class LA (K : PySem.W.Frag) (C : Addr) (TL : List (Addr × Str)) (E : XK) (t : TA) (S : outParam (List Nat)) (m : outParam TA3) : Prop where
  s : ∀ (am : Am) (ρ : Ro) (n : Nat) (σ : L2.St) (H : Hp), am.K = K ∧ am.TL = TL ∧ am.E = E ∧ am.C = C → Rl am ρ n σ H → ∀ (Q : List V → Hp → Prop) (q : List U → Nat → Prop), m ρ n q am.e →
    (∀ us n' vs H', q us n' → FrR am.R H H' → Wd am.R am.TL H' n' → RepA am (Hid am (dem S ρ) σ) H' vs us → Q vs H') → t σ H Q
class LO (K : PySem.W.Frag) (C : Addr) (TL : List (Addr × Str)) (E : XK) (t : TO) (m : outParam TO3) : Prop where
  s : ∀ (am : Am) (ρ : Ro) (n : Nat) (σ : L2.St) (H : Hp), am.K = K ∧ am.TL = TL ∧ am.E = E ∧ am.C = C → Rl am ρ n σ H → ∀ (Q : Option Int → Hp → Prop) (q : Option Int → Nat → Prop), m ρ n q am.e →
    (∀ b n' H', q b n' → FrR am.R H H' → Wd am.R am.TL H' n' → Q b H') → t σ H Q
theorem le_fr {am : Am} {ρ : Ro} {n : Nat} {σ : L2.St} {H H' : Hp} (h : Rl am ρ n σ H) {O : Addr → Prop} (hO : ∀ a, Hid am (dem [] ρ) σ a → O a) (f : FrR am.R H H') : Le (cut O H) (cut O H') := Le.cut (fun a z => .inl z) fun a o hn t e => f.1 a o (fun d g c q => by
  obtain ⟨h1, h2, _, _⟩ := h.wd.dr d g c q
  exact ⟨fun z => hn (hO _ (.inl (z ▸ h1))), fun z => hn (hO _ (.inl (z ▸ h2)))⟩) t e
theorem rl_cutS {am : Am} {ρ : Ro} {n : Nat} {σ : L2.St} {H H' : Hp} (h : Rl am ρ n σ H) (f : FrR am.R H H') {S S' : List Nat} (hS : ∀ i ∈ S, i ∈ S') : Le (cut (Hid am (dem S ρ) σ) H) (cut (Hid am (dem S' ρ) σ) H') :=
  (h.cutLe f S).trans (Le.cutSub fun a => hidDem2 hS)
section
variable {K : PySem.W.Frag} {C : Addr} {TL : List (Addr × Str)} {E : XK}
/-! ### names, constants -/
@[simp] def Sl.rd : Sl → Option U
  | .no => none
  | .fz u => some u
  | .ow ds => some (.d (.list ds))
@[simp] def rdAt : Ro → Nat → Option U
  | [], _ => none
  | s :: _, 0 => s.rd
  | _ :: ρ, i + 1 => rdAt ρ i
theorem rdAt_eq : ∀ (ρ : Ro) (i : Nat), rdAt ρ i = (ρ[i]?).bind Sl.rd
  | [], i => by simp
  | s :: ρ, 0 => by simp
  | s :: ρ, i + 1 => by
    show rdAt ρ i = _
    rw [rdAt_eq ρ i]
    simp
def ask {α : Type} (o : Option α) (k : α → Prop) : Prop := match o with
  | some x => k x
  | none => False
@[simp] theorem ask_s {α : Type} (x : α) (k : α → Prop) : ask (some x) k = k x := rfl
@[simp] theorem ask_n {α : Type} (k : α → Prop) : ask none k = False := rfl
theorem ask_some {α : Type} {o : Option α} {k : α → Prop} (h : ask o k) : ∃ x, o = some x ∧ k x := by
  cases o with
  | none => exact h.elim
  | some x => exact ⟨x, rfl, h⟩
@[simp ↓] theorem ask_rd (ρ : Ro) (i : Nat) (k : U → Prop) : ask (rdAt ρ i) k = if (rdAt ρ i).isSome = true then k ((rdAt ρ i).getD .dr) else False := by
  cases rdAt ρ i <;> simp
@[simp ↓] def mVar (i : Nat) : TE3 := fun ρ n q _ => ask (rdAt ρ i) fun u => q false u n
theorem slot_rd {am : Am} {ρ : Ro} {n : Nat} {σ : L2.St} {H : Hp} (h : Rl am ρ n σ H) {i : Nat} {u : U} (e : rdAt ρ i = some u) : ∃ v, σ[i]? = some (some v) ∧ RepU am (Hid am (dem [i] ρ) σ) H v u := by
  rw [rdAt_eq] at e
  have hd := h.dem [i]
  cases q : ρ[i]? with
  | none =>
    rw [q] at e
    cases e
  | some s =>
    have e2 : s.rd = some u := by
      rw [q] at e
      exact e
    have e3 : (dem [i] ρ)[i]? = some (Sl.fz u) := by
      rw [dem_get, q]
      show some (if i ∈ [i] then s.fzd else s) = _
      rw [if_pos (List.mem_singleton.mpr rfl)]
      cases s with
      | no => cases e2
      | fz u' =>
        cases e2
        rfl
      | ow ds =>
        cases e2
        rfl
    exact hd.fz i u e3
instance (i : Nat) : LE K C TL E (tVar i) [i] (mVar i) where
  s am ρ n σ H _ h Q q hm k := by
    unfold mVar ask at hm
    cases e : rdAt ρ i with
    | none =>
      rw [e] at hm
      exact hm.elim
    | some u =>
      rw [e] at hm
      obtain ⟨v, h1, h2⟩ := slot_rd h e
      exact ⟨v, h1, k false u n v H hm (FrR.refl _ _) h.wd (.old h2)⟩
@[simp ↓] def mC (u : U) : TE3 := fun _ n q _ => q false u n
instance (i : Int) : LE K C TL E (tC (.int i)) [] (mC (.d (.int i))) where
  s am ρ n σ H _ h Q q hm k := k _ _ n _ H hm (FrR.refl _ _) h.wd (.old (Rp.int i))
instance (i : Bool) : LE K C TL E (tC (.bl i)) [] (mC (.d (.bool i))) where
  s am ρ n σ H _ h Q q hm k := k _ _ n _ H hm (FrR.refl _ _) h.wd (.old (Rp.bl i))
instance : LE K C TL E (tC .non) [] (mC (.d .none)) where
  s am ρ n σ H _ h Q q hm k := k _ _ n _ H hm (FrR.refl _ _) h.wd (.old Rp.non)
instance (x : Str) : LE K C TL E (tC (.str x)) [] (mC (.d (.str x))) where
  s am ρ n σ H _ h Q q hm k := k _ _ n _ H hm (FrR.refl _ _) h.wd (.old (Rp.str x))
/-! ### arguments -/
@[simp ↓] def mNil : TA3 := fun _ n q _ => q [] n
@[simp ↓] def mCons (me : TE3) (ma : TA3) : TA3 := fun ρ n q e => me ρ n (fun _ u n1 => ma ρ n1 (fun us n2 => q (u :: us) n2) e) e
instance : LA K C TL E tNil [] mNil where
  s am ρ n σ H _ h Q q hm k := k _ n _ H hm (FrR.refl _ _) h.wd .nil
instance {te : TE} {ta : TA} {S1 S2 : List Nat} {me : TE3} {ma : TA3} [he : LE K C TL E te S1 me] [ha : LA K C TL E ta S2 ma] : LA K C TL E (tCons te ta) (S1 ++ S2) (mCons me ma) where
  s am ρ n σ H hE h Q q hm k := by
    refine he.s am ρ n σ H hE h _ _ hm fun fr u n1 v H1 hq f1 w1 r1 => ?_
    have h1 := h.step f1 w1
    refine ha.s am ρ n1 σ H1 hE h1 _ _ hq fun us n2 vs H2 hq2 f2 w2 r2 => ?_
    refine k _ n2 _ H2 hq2 (f1.trans f2) w2 (.cons (r1.1.le (rl_cutS h1 f2 fun i hi => List.mem_append_left _ hi)) (r2.le (rl_cutS (h1.step f2 w2) (FrR.refl _ _) fun i hi => List.mem_append_right _ hi)))
/-- a list of data -/
@[simp] def toDs : List U → Option (List D)
  | [] => some []
  | .d x :: us => (toDs us).map (x :: ·)
  | _ :: _ => none
theorem toDs_rep {am : Am} {O : Addr → Prop} {H : Hp} : ∀ {vs : List V} {us : List U} {ds : List D}, RepA am O H vs us → toDs us = some ds → RpAll am.K (cut O H) vs ds
  | _, _, _, .nil, e => by
    cases e
    exact .nil
  | v :: vs, u :: us, ds, .cons r t, e => by
    cases u with
    | d x =>
      have e2 : (toDs us).map (x :: ·) = some ds := e
      cases q : toDs us with
      | none =>
        rw [q] at e2
        cases e2
      | some ds' =>
        rw [q] at e2
        cases e2
        exact .cons r (toDs_rep t q)
    | dw bs => cases e
    | tb f ns => cases e
    | dr => cases e
/-! ### a new object -/
theorem fresh_step {am : Am} {ρ : Ro} {n : Nat} {σ : L2.St} {H : Hp} (h : Rl am ρ n σ H) {p : Addr} (hp : H p = none) (o : HO) : FrR am.R H (upd H p o) ∧ Wd am.R am.TL (upd H p o) n :=
  ⟨.of (same_new hp), h.wd.same (same_new hp)⟩
theorem cut_new {am : Am} {ρ : Ro} {n : Nat} {σ : L2.St} {H : Hp} (h : Rl am ρ n σ H) (S : List Nat) {p : Addr} (hp : H p = none) (o : HO) : cut (Hid am (dem S ρ) σ) (upd H p o) p = some o :=
  cut_some.mpr ⟨fun z => (h.dem S).new (.of hp) z, upd_same⟩
theorem cut_grow {O : Addr → Prop} {H : Hp} {p : Addr} (hp : H p = none) (o : HO) : Le (cut O H) (cut O (upd H p o)) := Le.cut (fun a z => .inl z) fun a o' _ _ e => same_new hp a o' e
@[simp ↓] def mTup (ma : TA3) : TE3 := fun ρ n q e => ma ρ n (fun us n1 => ask (toDs us) fun ds => if ds.length ≤ 1000 then q false (.d (.tuple ds)) n1 else False) e
theorem le1000 {k : Nat} (h : k ≤ 1000) : k ≤ sizeLine := Nat.le_trans h (by decide)
instance {ta : TA} {S : List Nat} {ma : TA3} [ha : LA K C TL E ta S ma] : LE K C TL E (tTup ta) S (mTup ma) where
  s am ρ n σ H hE h Q q hm k := by
    refine ha.s am ρ n σ H hE h _ _ hm fun us n1 vs H1 hq f1 w1 r1 => ?_
    have h1 := h.step f1 w1
    unfold ask at hq
    cases e : toDs us with
    | none =>
      rw [e] at hq
      exact hq.elim
    | some ds =>
      rw [e] at hq
      have rd := toDs_rep r1 e
      have hl : ds.length ≤ 1000 := by
        by_cases z : ds.length ≤ 1000
        · exact z
        · have hq2 : (if ds.length ≤ 1000 then q false (.d (.tuple ds)) n1 else False) := hq
          rw [if_neg z] at hq2
          exact hq2.elim
      have hq2 : (if ds.length ≤ 1000 then q false (.d (.tuple ds)) n1 else False) := hq
      rw [if_pos hl] at hq2
      refine ⟨by rw [RpAll.len rd]; exact le1000 hl, fun p hp => ?_⟩
      obtain ⟨f2, w2⟩ := fresh_step h1 hp (.tup vs)
      exact k _ _ n1 _ _ hq2 (f1.trans f2) w2 (.old (Rp.tup (.inl (.inl (cut_new h1 S hp _))) (RpAll.le (cut_grow hp _) _ _ rd)))
@[simp ↓] def mLst (ma : TA3) : TE3 := fun ρ n q e => ma ρ n (fun us n1 => ask (toDs us) fun ds => if ds.length ≤ 1000 then q true (.d (.list ds)) n1 else False) e
theorem cut_own {am : Am} {ρ : Ro} {n : Nat} {σ : L2.St} {H : Hp} (h : Rl am ρ n σ H) (S : List Nat) {p : Addr} (hp : New H p) {vs : List V} {ds : List D} (r : RpAll am.K (cut (Hid am (dem S ρ) σ) H) vs ds) : RpAll am.K (cut (fun a => a = p ∨ Hid am (dem S ρ) σ a) H) vs ds :=
  RpAll.le (Le.cut (fun a z => by
    rcases z with z | z
    · exact .inr (z ▸ hp)
    · exact .inl z) fun a o _ _ e => e) _ _ r
instance {ta : TA} {S : List Nat} {ma : TA3} [ha : LA K C TL E ta S ma] : LE K C TL E (tLst ta) S (mLst ma) where
  s am ρ n σ H hE h Q q hm k := by
    refine ha.s am ρ n σ H hE h _ _ hm fun us n1 vs H1 hq f1 w1 r1 => ?_
    have h1 := h.step f1 w1
    unfold ask at hq
    cases e : toDs us with
    | none =>
      rw [e] at hq
      exact hq.elim
    | some ds =>
      rw [e] at hq
      have rd := toDs_rep r1 e
      have hl : ds.length ≤ 1000 := by
        by_cases z : ds.length ≤ 1000
        · exact z
        · have hq2 : (if ds.length ≤ 1000 then q true (.d (.list ds)) n1 else False) := hq
          rw [if_neg z] at hq2
          exact hq2.elim
      have hq2 : (if ds.length ≤ 1000 then q true (.d (.list ds)) n1 else False) := hq
      rw [if_pos hl] at hq2
      refine ⟨by rw [RpAll.len rd]; exact le1000 hl, fun p hp => ?_⟩
      obtain ⟨f2, w2⟩ := fresh_step h1 hp (.lst vs)
      have np : New H p := fun ⟨o, e1, e2⟩ => by
        by_cases hid : Hid am ρ σ p
        · exact absurd hid (h1.new (.of hp))
        · exact (New.of hp) ⟨o, f1.1 p o (fun d g c q' => by
            obtain ⟨a1, a2, _, _⟩ := h.wd.dr d g c q'
            exact ⟨fun z => hid (.inl (z ▸ a1)), fun z => hid (.inl (z ▸ a2))⟩) e2 e1, e2⟩
      exact k _ _ n1 _ _ hq2 (f1.trans f2) w2 ⟨Rp.lst (cut_new h1 S hp _) (RpAll.le (cut_grow hp _) _ _ rd), fun _ => ⟨p, vs, ds, rfl, rfl, np, upd_same, RpAll.le (cut_grow hp _) _ _ (cut_own h1 S (.of hp) rd)⟩⟩
end
end V3
set_option Elab.async false
set_option linter.all false
set_option maxRecDepth 100000
set_option maxHeartbeats 4000000
namespace V3
open PySem PySem.Spec PyProof.Rows L2
section
variable {K : PySem.W.Frag} {C : Addr} {TL : List (Addr × Str)} {E : XK}
theorem new_back {am : Am} {ρ : Ro} {n n1 : Nat} {σ : L2.St} {H H1 : Hp} (h : Rl am ρ n σ H) (f : FrR am.R H H1) (h1 : Rl am ρ n1 σ H1) {p : Addr} (np : New H1 p) : New H p := fun ⟨o, e1, e2⟩ => by
  have hid : ¬ Hid am ρ σ p := h1.new np
  exact np ⟨o, f.1 p o (fun d g c q' => by
    obtain ⟨a1, a2, _, _⟩ := h.wd.dr d g c q'
    exact ⟨fun z => hid (.inl (z ▸ a1)), fun z => hid (.inl (z ▸ a2))⟩) e2 e1, e2⟩
theorem RepV.back {am : Am} {ρ : Ro} {n n1 : Nat} {σ : L2.St} {H H1 H2 : Hp} (h : Rl am ρ n σ H) (f : FrR am.R H H1) (h1 : Rl am ρ n1 σ H1) {O : Addr → Prop} {fr : Bool} {v : V} {u : U} (r : RepV am O H1 H2 fr v u) : RepV am O H H2 fr v u :=
  ⟨r.1, fun z => by
    obtain ⟨p, vs, ds, a1, a2, a3, a4, a5⟩ := r.2 z
    exact ⟨p, vs, ds, a1, a2, new_back h f h1 a3, a4, a5⟩⟩
theorem RepV.sub {am : Am} {O O' : Addr → Prop} {H H' : Hp} {fr : Bool} {v : V} {u : U} (k : ∀ a, O' a → O a) (r : RepV am O H H' fr v u) : RepV am O' H H' fr v u :=
  ⟨r.1.le (Le.cutSub k), fun z => by
    obtain ⟨p, vs, ds, a1, a2, a3, a4, a5⟩ := r.2 z
    exact ⟨p, vs, ds, a1, a2, a3, a4, RpAll.le (Le.cutSub fun a q => q.imp id (k a)) _ _ a5⟩⟩
/-! ### operators by values -/
class LR (K : PySem.W.Frag) (r : R2) (m : outParam (U → U → (Bool → D → Prop) → Prop)) : Prop where
  s : ∀ (am : Am) (O : Addr → Prop) (H : Hp) (x y : V) (ux uy : U), am.K = K → (∀ a, O a → There H a) → RepU am O H x ux → RepU am O H y uy → ∀ (Q : VK) (q : Bool → D → Prop), m ux uy q →
    (∀ fr z v H', q fr z → Same H H' → RepV am O H H' fr v (.d z) → Q v H') → r x y H Q
class LU (K : PySem.W.Frag) (r : V → Hp → VK → Prop) (m : outParam (U → (Bool → D → Prop) → Prop)) : Prop where
  s : ∀ (am : Am) (O : Addr → Prop) (H : Hp) (x : V) (ux : U), am.K = K → (∀ a, O a → There H a) → RepU am O H x ux → ∀ (Q : VK) (q : Bool → D → Prop), m ux q →
    (∀ fr z v H', q fr z → Same H H' → RepV am O H H' fr v (.d z) → Q v H') → r x H Q
/-- a built-in called -/
class LC (K : PySem.W.Frag) (r : List V → Hp → VK → Prop) (m : outParam (List U → (Bool → D → Prop) → Prop)) : Prop where
  s : ∀ (am : Am) (O : Addr → Prop) (H : Hp) (xs : List V) (us : List U), am.K = K → (∀ a, O a → There H a) → RepA am O H xs us → ∀ (Q : VK) (q : Bool → D → Prop), m us q →
    (∀ fr z v H', q fr z → Same H H' → RepV am O H H' fr v (.d z) → Q v H') → r xs H Q
@[simp ↓] def mOp (mr : U → U → (Bool → D → Prop) → Prop) (ma mb : TE3) : TE3 := fun ρ n q e => ma ρ n (fun _ x n1 => mb ρ n1 (fun _ y n2 => mr x y fun fr z => q fr (.d z) n2) e) e
theorem hid_there {am : Am} {ρ : Ro} {n : Nat} {σ : L2.St} {H : Hp} (h : Rl am ρ n σ H) (S : List Nat) : ∀ a, Hid am (dem S ρ) σ a → There H a := fun a z => (h.dem S).hidThere z
theorem wd_same {R : RR} {TL : List (Addr × Str)} {H H' : Hp} {n : Nat} (h : Wd R TL H n) (e : Same H H') : Wd R TL H' n := h.same e
instance {r : R2} {ta tb : TE} {S1 S2 : List Nat} {ma mb : TE3} {mr : U → U → (Bool → D → Prop) → Prop} [ha : LE K C TL E ta S1 ma] [hb : LE K C TL E tb S2 mb] [hr : LR K r mr] : LE K C TL E (tOp r ta tb) (S1 ++ S2) (mOp mr ma mb) where
  s am ρ n σ H hE h Q q hm k := by
    refine ha.s am ρ n σ H hE h _ _ hm fun fr x n1 v H1 hq f1 w1 r1 => ?_
    have h1 := h.step f1 w1
    refine hb.s am ρ n1 σ H1 hE h1 _ _ hq fun fr2 y n2 v2 H2 hq2 f2 w2 r2 => ?_
    have h2 := h1.step f2 w2
    refine hr.s am (Hid am (dem (S1 ++ S2) ρ) σ) H2 v v2 x y hE.1 (hid_there h2 _) (r1.1.le (rl_cutS h1 f2 fun i hi => List.mem_append_left _ hi)) (r2.1.le (rl_cutS h2 (FrR.refl _ _) fun i hi => List.mem_append_right _ hi)) _ _ hq2 fun fr3 z v3 H3 hq3 sm r3 => ?_
    exact k _ _ n2 _ _ hq3 ((f1.trans f2).trans (.of sm)) (w2.same sm) (r3.back h (f1.trans f2) h2)
@[simp ↓] def mUn (mr : U → (Bool → D → Prop) → Prop) (ma : TE3) : TE3 := fun ρ n q e => ma ρ n (fun _ x n1 => mr x fun fr z => q fr (.d z) n1) e
instance {r : V → Hp → VK → Prop} {ta : TE} {S1 : List Nat} {ma : TE3} {mr : U → (Bool → D → Prop) → Prop} [ha : LE K C TL E ta S1 ma] [hr : LU K r mr] : LE K C TL E (tUn r ta) S1 (mUn mr ma) where
  s am ρ n σ H hE h Q q hm k := by
    refine ha.s am ρ n σ H hE h _ _ hm fun fr x n1 v H1 hq f1 w1 r1 => ?_
    have h1 := h.step f1 w1
    refine hr.s am (Hid am (dem S1 ρ) σ) H1 v x hE.1 (hid_there h1 _) r1.1 _ _ hq fun fr3 z v3 H3 hq3 sm r3 => ?_
    exact k _ _ n1 _ _ hq3 (f1.trans (.of sm)) (w1.same sm) (r3.back h f1 h1)
@[simp ↓] def mCB (mr : List U → (Bool → D → Prop) → Prop) (ma : TA3) : TE3 := fun ρ n q e => ma ρ n (fun us n1 => mr us fun fr z => q fr (.d z) n1) e
instance {r : List V → Hp → VK → Prop} {ta : TA} {S1 : List Nat} {ma : TA3} {mr : List U → (Bool → D → Prop) → Prop} [ha : LA K C TL E ta S1 ma] [hr : LC K r mr] : LE K C TL E (tCB r ta) S1 (mCB mr ma) where
  s am ρ n σ H hE h Q q hm k := by
    refine ha.s am ρ n σ H hE h _ _ hm fun us n1 vs H1 hq f1 w1 r1 => ?_
    have h1 := h.step f1 w1
    refine hr.s am (Hid am (dem S1 ρ) σ) H1 vs us hE.1 (hid_there h1 _) r1 _ _ hq fun fr3 z v3 H3 hq3 sm r3 => ?_
    exact k _ _ n1 _ _ hq3 (f1.trans (.of sm)) (w1.same sm) (r3.back h f1 h1)
def askI : U → (Int → Prop) → Prop
  | .d (.int i), k => k i
  | _, _ => False
def askB : U → (Bool → Prop) → Prop
  | .d (.bool i), k => k i
  | _, _ => False
def askL : U → (List D → Prop) → Prop
  | .d (.list i), k => k i
  | _, _ => False
def askT : U → (List D → Prop) → Prop
  | .d (.tuple i), k => k i
  | _, _ => False
@[simp] theorem askI_s (i : Int) (k : Int → Prop) : askI (.d (.int i)) k = k i := rfl
@[simp] theorem askB_s (i : Bool) (k : Bool → Prop) : askB (.d (.bool i)) k = k i := rfl
@[simp] theorem askL_s (i : List D) (k : List D → Prop) : askL (.d (.list i)) k = k i := rfl
@[simp] theorem askT_s (i : List D) (k : List D → Prop) : askT (.d (.tuple i)) k = k i := rfl
def isIU : U → Bool
  | .d (.int _) => true
  | _ => false
def intU : U → Int
  | .d (.int i) => i
  | _ => 0
def isBU : U → Bool
  | .d (.bool _) => true
  | _ => false
def boolU : U → Bool
  | .d (.bool i) => i
  | _ => false
def isLU : U → Bool
  | .d (.list _) => true
  | _ => false
def lstU : U → List D
  | .d (.list i) => i
  | _ => []
def isTU : U → Bool
  | .d (.tuple _) => true
  | _ => false
def tupU : U → List D
  | .d (.tuple i) => i
  | _ => []
@[simp] theorem isIU_s (i : Int) : isIU (.d (.int i)) = true := rfl
@[simp] theorem intU_s (i : Int) : intU (.d (.int i)) = i := rfl
@[simp ↓] theorem askI_if (u : U) (k : Int → Prop) : askI u k = ∃ i, u = .d (.int i) ∧ k i := by
  cases u with
  | d x => cases x <;> simp [askI]
  | _ => simp [askI]
@[simp] theorem isBU_s (i : Bool) : isBU (.d (.bool i)) = true := rfl
@[simp] theorem boolU_s (i : Bool) : boolU (.d (.bool i)) = i := rfl
@[simp ↓] theorem askB_if (u : U) (k : Bool → Prop) : askB u k = if isBU u = true then k (boolU u) else False := by
  cases u with
  | d x => cases x <;> simp [askB, isBU, boolU]
  | _ => simp [askB, isBU]
@[simp] theorem isLU_s (i : List D) : isLU (.d (.list i)) = true := rfl
@[simp] theorem lstU_s (i : List D) : lstU (.d (.list i)) = i := rfl
@[simp ↓] theorem askL_if (u : U) (k : List D → Prop) : askL u k = ∃ i, u = .d (.list i) ∧ k i := by
  cases u with
  | d x => cases x <;> simp [askL]
  | _ => simp [askL]
@[simp] theorem isTU_s (i : List D) : isTU (.d (.tuple i)) = true := rfl
@[simp] theorem tupU_s (i : List D) : tupU (.d (.tuple i)) = i := rfl
@[simp ↓] theorem askT_if (u : U) (k : List D → Prop) : askT u k = ∃ i, u = .d (.tuple i) ∧ k i := by
  cases u with
  | d x => cases x <;> simp [askT]
  | _ => simp [askT]
@[simp] theorem isIU_bool (i : Bool) : isIU (.d (.bool i)) = false := rfl
@[simp] theorem isIU_list (i : List D) : isIU (.d (.list i)) = false := rfl
@[simp] theorem isIU_tuple (i : List D) : isIU (.d (.tuple i)) = false := rfl
@[simp] theorem isIU_str (i : Str) : isIU (.d (.str i)) = false := rfl
@[simp] theorem isIU_none : isIU (.d .none) = false := rfl
@[simp] theorem isBU_int (i : Int) : isBU (.d (.int i)) = false := rfl
@[simp] theorem isBU_list (i : List D) : isBU (.d (.list i)) = false := rfl
@[simp] theorem isBU_tuple (i : List D) : isBU (.d (.tuple i)) = false := rfl
@[simp] theorem isBU_str (i : Str) : isBU (.d (.str i)) = false := rfl
@[simp] theorem isBU_none : isBU (.d .none) = false := rfl
@[simp] theorem isLU_int (i : Int) : isLU (.d (.int i)) = false := rfl
@[simp] theorem isLU_bool (i : Bool) : isLU (.d (.bool i)) = false := rfl
@[simp] theorem isLU_tuple (i : List D) : isLU (.d (.tuple i)) = false := rfl
@[simp] theorem isLU_str (i : Str) : isLU (.d (.str i)) = false := rfl
@[simp] theorem isLU_none : isLU (.d .none) = false := rfl
@[simp] theorem isTU_int (i : Int) : isTU (.d (.int i)) = false := rfl
@[simp] theorem isTU_bool (i : Bool) : isTU (.d (.bool i)) = false := rfl
@[simp] theorem isTU_list (i : List D) : isTU (.d (.list i)) = false := rfl
@[simp] theorem isTU_str (i : Str) : isTU (.d (.str i)) = false := rfl
@[simp] theorem isTU_none : isTU (.d .none) = false := rfl
theorem askI_rep {am : Am} {O : Addr → Prop} {H : Hp} {v : V} {u : U} {k : Int → Prop} (h : askI u k) (r : RepU am O H v u) : ∃ i, u = .d (.int i) ∧ v = .int i ∧ k i := by
  cases u with
  | d x =>
    cases x with
    | int i =>
      cases r
      exact ⟨i, rfl, rfl, h⟩
    | _ => exact h.elim
  | _ => exact h.elim
theorem askB_rep {am : Am} {O : Addr → Prop} {H : Hp} {v : V} {u : U} {k : Bool → Prop} (h : askB u k) (r : RepU am O H v u) : ∃ i, u = .d (.bool i) ∧ v = .bl i ∧ k i := by
  cases u with
  | d x =>
    cases x with
    | bool i =>
      cases r
      exact ⟨i, rfl, rfl, h⟩
    | _ => exact h.elim
  | _ => exact h.elim
theorem askL_rep {am : Am} {O : Addr → Prop} {H : Hp} {v : V} {u : U} {k : List D → Prop} (h : askL u k) (r : RepU am O H v u) : ∃ ds a vs, u = .d (.list ds) ∧ v = .ref a ∧ cut O H a = some (.lst vs) ∧ RpAll am.K (cut O H) vs ds ∧ k ds := by
  cases u with
  | d x =>
    cases x with
    | list i =>
      cases r with
      | lst h1 h2 => exact ⟨i, _, _, rfl, rfl, h1, h2, h⟩
    | _ => exact h.elim
  | _ => exact h.elim
theorem askT_rep {am : Am} {O : Addr → Prop} {H : Hp} {v : V} {u : U} {k : List D → Prop} (h : askT u k) (r : RepU am O H v u) : ∃ ds a vs, u = .d (.tuple ds) ∧ v = .ref a ∧ SqT am.K (cut O H) a vs ∧ RpAll am.K (cut O H) vs ds ∧ k ds := by
  cases u with
  | d x =>
    cases x with
    | tuple i =>
      cases r with
      | tup h1 h2 => exact ⟨i, _, _, rfl, rfl, h1, h2, h⟩
    | _ => exact h.elim
  | _ => exact h.elim
@[simp ↓] def mII (f : Int → Int → Int) : U → U → (Bool → D → Prop) → Prop := fun x y q => askI x fun i => askI y fun j => q false (.int (f i j))
@[simp ↓] def mIB (f : Int → Int → Bool) : U → U → (Bool → D → Prop) → Prop := fun x y q => askI x fun i => askI y fun j => q false (.bool (f i j))
@[simp ↓] def mIIc (C : Int → Int → Prop) (f : Int → Int → Int) : U → U → (Bool → D → Prop) → Prop := fun x y q => askI x fun i => askI y fun j => C i j ∧ q false (.int (f i j))
instance (f : Int → Int → Int) : LR K (rI0 fun i j => V.int (f i j)) (mII f) where
  s am O H x y ux uy hK hO rx ry Q q hm k := by
    obtain ⟨i, rfl, rfl, hm⟩ := askI_rep hm rx
    obtain ⟨j, rfl, rfl, hm⟩ := askI_rep hm ry
    exact ⟨i, j, rfl, rfl, k _ _ _ H hm (Same.refl _) (.old (Rp.int _))⟩
instance (f : Int → Int → Bool) : LR K (rI0 fun i j => V.bl (f i j)) (mIB f) where
  s am O H x y ux uy hK hO rx ry Q q hm k := by
    obtain ⟨i, rfl, rfl, hm⟩ := askI_rep hm rx
    obtain ⟨j, rfl, rfl, hm⟩ := askI_rep hm ry
    exact ⟨i, j, rfl, rfl, k _ _ _ H hm (Same.refl _) (.old (Rp.bl _))⟩
instance (C : Int → Int → Prop) (f : Int → Int → Int) : LR K (rI C fun i j => V.int (f i j)) (mIIc C f) where
  s am O H x y ux uy hK hO rx ry Q q hm k := by
    obtain ⟨i, rfl, rfl, hm⟩ := askI_rep hm rx
    obtain ⟨j, rfl, rfl, c, hm⟩ := askI_rep hm ry
    exact ⟨i, j, rfl, rfl, c, k _ _ _ H hm (Same.refl _) (.old (Rp.int _))⟩
@[simp ↓] def mNeg (f : Int → Int) : U → (Bool → D → Prop) → Prop := fun x q => askI x fun i => q false (.int (f i))
instance (f : Int → Int) : LU K (rU fun i => V.int (f i)) (mNeg f) where
  s am O H x ux hK hO rx Q q hm k := by
    obtain ⟨i, rfl, rfl, hm⟩ := askI_rep hm rx
    exact ⟨i, rfl, k _ _ _ H hm (Same.refl _) (.old (Rp.int _))⟩
/-! + of anything -/
def rAddU (K : PySem.W.Frag) : R2 := fun x y H Q => rI0 (fun i j => V.int (i + j)) x y H Q ∨ rCat x y H Q ∨ rCatA K x y H Q
theorem op_or {X : Cx} {f : Value → Value → Sem Value} {r r' : R2} (h : OpR X f r) (h' : OpR X f r') : OpR X f (fun x y H Q => r x y H Q ∨ r' x y H Q) := fun pins s σ H x y v u Q I rx ry q => by
  rcases q with q | q
  · exact h pins s σ H x y v u Q I rx ry q
  · exact h' pins s σ H x y v u Q I rx ry q
theorem op_addU {X : Cx} : OpR X (binaryOp .Add) (rAddU X.K) := op_or op_add (op_or op_cat op_catA)
def addU : U → U → (Bool → D → Prop) → Prop
  | .d (.int i), .d (.int j), q => q false (.int (i + j))
  | .d (.list xs), .d (.list ys), q => xs.length + ys.length ≤ sizeLine ∧ q true (.list (xs ++ ys))
  | .d (.tuple xs), .d (.tuple ys), q => xs.length + ys.length ≤ sizeLine ∧ q false (.tuple (xs ++ ys))
  | _, _, _ => False
@[simp] theorem addU_i (i j : Int) (q : Bool → D → Prop) : addU (.d (.int i)) (.d (.int j)) q = q false (.int (i + j)) := rfl
@[simp] theorem addU_l (xs ys : List D) (q : Bool → D → Prop) : addU (.d (.list xs)) (.d (.list ys)) q = (xs.length + ys.length ≤ sizeLine ∧ q true (.list (xs ++ ys))) := rfl
@[simp] theorem addU_t (xs ys : List D) (q : Bool → D → Prop) : addU (.d (.tuple xs)) (.d (.tuple ys)) q = (xs.length + ys.length ≤ sizeLine ∧ q false (.tuple (xs ++ ys))) := rfl
@[simp ↓] theorem addU_if (x y : U) (q : Bool → D → Prop) : addU x y q = if (isIU x && isIU y) = true then q false (.int (intU x + intU y)) else if (isLU x && isLU y) = true then (lstU x).length + (lstU y).length ≤ sizeLine ∧ q true (.list (lstU x ++ lstU y)) else
    if (isTU x && isTU y) = true then (tupU x).length + (tupU y).length ≤ sizeLine ∧ q false (.tuple (tupU x ++ tupU y)) else False := by
  cases x with
  | d x =>
    cases y with
    | d y => cases x <;> cases y <;> simp [addU, isIU, isLU, isTU, intU, lstU, tupU]
    | _ => cases x <;> simp [addU, isIU, isLU, isTU]
  | _ => simp [addU, isIU, isLU, isTU]
theorem new_list {am : Am} {O : Addr → Prop} {H : Hp} (hO : ∀ a, O a → There H a) {p : Addr} (hp : H p = none) {vs : List V} {ds : List D} (r : RpAll am.K (cut O H) vs ds) : RepV am O H (upd H p (.lst vs)) true (.ref p) (.d (.list ds)) := by
  have np : ¬ O p := fun z => (New.of hp) (hO p z)
  have r1 := RpAll.le (cut_grow hp (.lst vs)) _ _ r
  refine ⟨Rp.lst (cut_some.mpr ⟨np, upd_same⟩) r1, fun _ => ⟨p, vs, ds, rfl, rfl, .of hp, upd_same, RpAll.le (Le.cut (fun a z => ?_) fun a o _ _ e => same_new hp a o e) _ _ r⟩⟩
  rcases z with z | z
  · exact .inr (z ▸ .of hp)
  · exact .inl z
theorem new_tup {am : Am} {O : Addr → Prop} {H : Hp} (hO : ∀ a, O a → There H a) {p : Addr} (hp : H p = none) {vs : List V} {ds : List D} (r : RpAll am.K (cut O H) vs ds) : RepV am O H (upd H p (.tup vs)) false (.ref p) (.d (.tuple ds)) :=
  .old (Rp.tup (.inl (.inl (cut_some.mpr ⟨fun z => (New.of hp) (hO p z), upd_same⟩))) (RpAll.le (cut_grow hp (.tup vs)) _ _ r))
instance : LR K (rAddU K) addU where
  s am O H x y ux uy hK hO rx ry Q q hm k := by
    subst hK
    match ux, uy, hm with
    | .d (.int i), .d (.int j), hm =>
      cases rx
      cases ry
      exact .inl ⟨i, j, rfl, rfl, k _ _ _ H hm (Same.refl _) (.old (Rp.int _))⟩
    | .d (.list xs), .d (.list ys), hm =>
      cases rx with
      | lst a1 a2 =>
        cases ry with
        | lst b1 b2 =>
          refine .inr (.inl ⟨_, _, _, _, rfl, rfl, (cut_some.mp a1).2, (cut_some.mp b1).2, by rw [RpAll.len a2, RpAll.len b2]; exact hm.1, fun p hp => ?_⟩)
          exact k _ _ _ _ hm.2 (same_new hp) (new_list hO hp (RpAll.app a2 b2))
    | .d (.tuple xs), .d (.tuple ys), hm =>
      cases rx with
      | tup a1 a2 =>
        cases ry with
        | tup b1 b2 =>
          refine .inr (.inr ⟨_, _, _, _, rfl, rfl, SqT.le Le.cutAll a1, SqT.le Le.cutAll b1, by rw [RpAll.len a2, RpAll.len b2]; exact hm.1, fun e => ?_, fun e1 e2 => ?_, fun e1 e2 p hp => ?_⟩)
          · subst e
            have z : xs = [] := by
              have := RpAll.len a2
              exact List.length_eq_zero_iff.mp this.symm
            subst z
            exact k _ _ _ H hm.2 (Same.refl _) (.old (Rp.tup b1 b2))
          · subst e2
            have z : ys = [] := by
              have := RpAll.len b2
              exact List.length_eq_zero_iff.mp this.symm
            subst z
            exact k _ _ _ H hm.2 (Same.refl _) (.old (by rw [List.append_nil]; exact Rp.tup a1 a2))
          · exact k _ _ _ _ hm.2 (same_new hp) (new_tup hO hp (RpAll.app a2 b2))
/-! == and != of anything -/
theorem rep_dp {am : Am} {O : Addr → Prop} {H : Hp} {v : V} {x : D} (r : RepU am O H v (.d x)) (sh : SeqAt.shaped x = true) : L2.Dp am.K H v x := Rp.dp _ _ (Bool.and_eq_true_iff.mp sh).1 (Rp.le Le.cutAll _ _ r)
def eqU (f : Bool → Bool) : U → U → (Bool → D → Prop) → Prop
  | .d (.int i), .d (.int j), q => q false (.bool (f (decide (i = j))))
  | .d (.bool i), .d (.bool j), q => q false (.bool (f (decide (i = j))))
  | .d x, .d y, q => SeqAt.shaped x = true ∧ SeqAt.shaped y = true ∧ q false (.bool (f (PyData.eqv x y)))
  | _, _, _ => False
@[simp] theorem eqU_ii (f : Bool → Bool) (i j : Int) (q : Bool → D → Prop) : eqU f (.d (.int i)) (.d (.int j)) q = q false (.bool (f (decide (i = j)))) := rfl
@[simp] theorem eqU_bb (f : Bool → Bool) (i j : Bool) (q : Bool → D → Prop) : eqU f (.d (.bool i)) (.d (.bool j)) q = q false (.bool (f (decide (i = j)))) := rfl
@[simp] theorem eqU_ll (f : Bool → Bool) (i j : List D) (q : Bool → D → Prop) : eqU f (.d (.list i)) (.d (.list j)) q = (SeqAt.shaped (.list i) = true ∧ SeqAt.shaped (.list j) = true ∧ q false (.bool (f (PyData.eqv (.list i) (.list j))))) := rfl
@[simp] theorem eqU_tt (f : Bool → Bool) (i j : List D) (q : Bool → D → Prop) : eqU f (.d (.tuple i)) (.d (.tuple j)) q = (SeqAt.shaped (.tuple i) = true ∧ SeqAt.shaped (.tuple j) = true ∧ q false (.bool (f (PyData.eqv (.tuple i) (.tuple j))))) := rfl
theorem eqv_int (i j : Int) : PyData.eqv (.int i) (.int j) = decide (i = j) := by
  simp only [PyData.eqv]
  by_cases h : i = j
  · rw [decide_eq_true h, h]
    exact beq_self_eq_true j
  · rw [decide_eq_false h]
    exact beq_eq_false_iff_ne.mpr h
theorem shaped_int (i : Int) : SeqAt.shaped (.int i) = true := by
  show (PyData.canLay0 (.int i) && decide (PyData.depth (.int i) ≤ 64)) = true
  simp [PyData.canLay0, PyData.depth]
theorem shaped_bool (i : Bool) : SeqAt.shaped (.bool i) = true := by
  show (PyData.canLay0 (.bool i) && decide (PyData.depth (.bool i) ≤ 64)) = true
  simp [PyData.canLay0, PyData.depth]
theorem eqv_bool (i j : Bool) : PyData.eqv (.bool i) (.bool j) = decide (i = j) := by
  simp only [PyData.eqv]
  cases i <;> cases j <;> rfl
theorem eqU_of {f : Bool → Bool} {x y : U} {q : Bool → D → Prop} (h : eqU f x y q) : ∃ a b, x = .d a ∧ y = .d b ∧ SeqAt.shaped a = true ∧ SeqAt.shaped b = true ∧ q false (.bool (f (PyData.eqv a b))) := by
  unfold eqU at h
  split at h
  · exact ⟨_, _, rfl, rfl, shaped_int _, shaped_int _, by rw [eqv_int]; exact h⟩
  · exact ⟨_, _, rfl, rfl, shaped_bool _, shaped_bool _, by rw [eqv_bool]; exact h⟩
  · exact ⟨_, _, rfl, rfl, h.1, h.2.1, h.2.2⟩
  · exact h.elim
instance : LR K (rEqD K) (eqU id) where
  s am O H x y ux uy hK hO rx ry Q q hm k := by
    subst hK
    obtain ⟨a, b, rfl, rfl, h1, h2, h3⟩ := eqU_of hm
    exact ⟨a, b, rep_dp rx h1, rep_dp ry h2, h1, h2, k _ _ _ H h3 (Same.refl _) (.old (Rp.bl _))⟩
instance : LR K (rNeD K) (eqU not) where
  s am O H x y ux uy hK hO rx ry Q q hm k := by
    subst hK
    obtain ⟨a, b, rfl, rfl, h1, h2, h3⟩ := eqU_of hm
    exact ⟨a, b, rep_dp rx h1, rep_dp ry h2, h1, h2, k _ _ _ H h3 (Same.refl _) (.old (Rp.bl _))⟩
/-! is None, is True -/
def rIsN : R2 := fun x y H Q => y = .non ∧ Q (.bl (decide (x = .non))) H
def rNotN : R2 := fun x y H Q => y = .non ∧ Q (.bl (!decide (x = .non))) H
theorem op_isN3 {X : Cx} : OpR X (compareOp .Is) rIsN := op_isN
theorem op_notN3 {X : Cx} : OpR X (compareOp .IsNot) rNotN := op_notN
@[simp] def isNone : U → Bool
  | .d .none => true
  | _ => false
theorem isNone_rep {am : Am} {O : Addr → Prop} {H : Hp} {v : V} {u : U} (r : RepU am O H v u) : decide (v = .non) = isNone u := by
  cases u with
  | d x => cases r <;> simp
  | dw bs =>
    obtain ⟨_, a, dx, t, rfl, _⟩ := r
    simp
  | tb f ns =>
    obtain ⟨a, kvs, rfl, _⟩ := r
    simp
  | dr =>
    obtain ⟨d, g, c, _, rfl⟩ := r
    simp
@[simp ↓] def mIsN (f : Bool → Bool) : U → U → (Bool → D → Prop) → Prop := fun x y q => if isNone y then q false (.bool (f (isNone x))) else False
theorem none_rep {am : Am} {O : Addr → Prop} {H : Hp} {v : V} {u : U} (r : RepU am O H v u) (e : isNone u = true) : v = .non := by
  rw [← isNone_rep r] at e
  exact of_decide_eq_true e
instance : LR K rIsN (mIsN id) where
  s am O H x y ux uy hK hO rx ry Q q hm k := by
    by_cases e : isNone uy = true
    · have hm2 : (if isNone uy = true then q false (.bool (id (isNone ux))) else False) := hm
      rw [if_pos e] at hm2
      exact ⟨none_rep ry e, k _ _ _ H hm2 (Same.refl _) (.old (by rw [isNone_rep rx]; exact Rp.bl _))⟩
    · have hm2 : (if isNone uy = true then q false (.bool (id (isNone ux))) else False) := hm
      rw [if_neg e] at hm2
      exact hm2.elim
instance : LR K rNotN (mIsN not) where
  s am O H x y ux uy hK hO rx ry Q q hm k := by
    by_cases e : isNone uy = true
    · have hm2 : (if isNone uy = true then q false (.bool (not (isNone ux))) else False) := hm
      rw [if_pos e] at hm2
      exact ⟨none_rep ry e, k _ _ _ H hm2 (Same.refl _) (.old (by rw [isNone_rep rx]; exact Rp.bl _))⟩
    · have hm2 : (if isNone uy = true then q false (.bool (not (isNone ux))) else False) := hm
      rw [if_neg e] at hm2
      exact hm2.elim
@[simp ↓] def mIsB (f : Bool → Bool) : U → U → (Bool → D → Prop) → Prop := fun x y q => askB x fun i => askB y fun j => q false (.bool (f (decide (i = j))))
instance : LR K rIsB (mIsB id) where
  s am O H x y ux uy hK hO rx ry Q q hm k := by
    obtain ⟨i, rfl, rfl, hm⟩ := askB_rep hm rx
    obtain ⟨j, rfl, rfl, hm⟩ := askB_rep hm ry
    exact ⟨i, j, rfl, rfl, k _ _ _ H hm (Same.refl _) (.old (Rp.bl _))⟩
instance : LR K rNotB (mIsB not) where
  s am O H x y ux uy hK hO rx ry Q q hm k := by
    obtain ⟨i, rfl, rfl, hm⟩ := askB_rep hm rx
    obtain ⟨j, rfl, rfl, hm⟩ := askB_rep hm ry
    exact ⟨i, j, rfl, rfl, k _ _ _ H hm (Same.refl _) (.old (Rp.bl _))⟩
/-! x[i] -/
@[simp] theorem atI_0 {α : Type} (xs : List α) : atI xs 0 = xs[0]? := by
  cases xs with
  | nil => rfl
  | cons x xs => exact atI_nat (j := 0) rfl
@[simp] theorem atI_c {α : Type} (xs : List α) (i : Nat) : atI xs (i : Int) = xs[i]? := by
  cases e : xs[i]? with
  | some x => exact atI_nat e
  | none =>
    unfold atI ixN
    have h := List.getElem?_eq_none_iff.mp e
    rw [if_pos (by omega), if_neg (by omega)]
    rfl
@[simp] theorem atI_1 {α : Type} (xs : List α) : atI xs 1 = xs[1]? := atI_c xs 1
@[simp] theorem atI_2 {α : Type} (xs : List α) : atI xs 2 = xs[2]? := atI_c xs 2
@[simp] theorem atI_3 {α : Type} (xs : List α) : atI xs 3 = xs[3]? := atI_c xs 3
@[simp] theorem atI_m1 {α : Type} (xs : List α) : atI xs (-1) = xs.getLast? := by
  cases xs with
  | nil => rfl
  | cons x xs =>
    unfold atI ixN
    rw [if_neg (by omega), if_pos (by simp; omega)]
    rw [List.getLast?_eq_getElem?]
    show (x :: xs)[_]? = _
    congr 1
    simp
    omega
def mIx : U → U → (Bool → D → Prop) → Prop
  | .d (.list xs), .d (.int i), q => ask (atI xs i) fun z => q false z
  | .d (.tuple xs), .d (.int i), q => ask (atI xs i) fun z => q false z
  | _, _, _ => False
@[simp] theorem mIx_l (xs : List D) (i : Int) (q : Bool → D → Prop) : mIx (.d (.list xs)) (.d (.int i)) q = ask (atI xs i) fun z => q false z := rfl
@[simp] theorem mIx_t (xs : List D) (i : Int) (q : Bool → D → Prop) : mIx (.d (.tuple xs)) (.d (.int i)) q = ask (atI xs i) fun z => q false z := rfl
theorem at_rep {K : PySem.W.Frag} {H : Hp} {vs : List V} {ds : List D} {i : Int} {z : D} (r : RpAll K H vs ds) (e : atI ds i = some z) : ∃ v, atI vs i = some v ∧ Rp K H v z := by
  unfold atI at e ⊢
  rw [RpAll.len r]
  cases q : ixN ds.length i with
  | none =>
    rw [q] at e
    cases e
  | some j =>
    rw [q] at e
    obtain ⟨v, h1, h2⟩ := RpAll.get (i := j) r e
    exact ⟨v, h1, h2⟩
instance : LR K (rIx K) mIx where
  s am O H x y ux uy hK hO rx ry Q q hm k := by
    subst hK
    match ux, uy, hm with
    | .d (.list xs), .d (.int i), hm =>
      cases ry
      cases rx with
      | lst a1 a2 =>
        have hm2 : ask (atI xs i) (fun z => q false z) := hm
        obtain ⟨z, e, hm2⟩ := ask_some hm2
        obtain ⟨v, h1, h2⟩ := at_rep a2 e
        exact .inl ⟨_, _, i, v, rfl, rfl, SqL.of (cut_some.mp a1).2, h1, k _ z _ H hm2 (Same.refl _) (.old h2)⟩
    | .d (.tuple xs), .d (.int i), hm =>
      cases ry
      cases rx with
      | tup a1 a2 =>
        have hm2 : ask (atI xs i) (fun z => q false z) := hm
        obtain ⟨z, e, hm2⟩ := ask_some hm2
        obtain ⟨v, h1, h2⟩ := at_rep a2 e
        exact .inr (.inl ⟨_, _, i, v, rfl, rfl, SqT.le Le.cutAll a1, h1, k _ z _ H hm2 (Same.refl _) (.old h2)⟩)
/-! a table read -/
@[simp ↓] def mDg (ma mb : TE3) : TE3 := fun ρ n q e => ma ρ n (fun _ x n1 => mb ρ n1 (fun _ y n2 => match x with
  | .tb f ns => askI y fun i => i ∈ ns ∧ q false (.d (.int (f i))) n2
  | _ => False) e) e
instance {ta tb : TE} {S1 S2 : List Nat} {ma mb : TE3} [ha : LE K C TL E ta S1 ma] [hb : LE K C TL E tb S2 mb] : LE K C TL E (tDGet ta tb) [] (mDg ma mb) where
  s am ρ n σ H hE h Q q hm k := by
    refine ha.s am ρ n σ H hE h _ _ hm fun fr x n1 v H1 hq f1 w1 r1 => ?_
    have h1 := h.step f1 w1
    refine hb.s am ρ n1 σ H1 hE h1 _ _ hq fun fr2 y n2 v2 H2 hq2 f2 w2 r2 => ?_
    have h2 := h1.step f2 w2
    match x, hq2, r1.1 with
    | .tb f ns, hq2, r1 =>
      obtain ⟨i, rfl, rfl, hi, hq2⟩ := askI_rep hq2 r2.1
      have r3 := RepU.le (rl_cutS h1 f2 (S := S1) (S' := S1) fun i hi => hi) (u := .tb f ns) r1
      obtain ⟨a, kvs, rfl, e, hv⟩ := r3
      refine ⟨a, .int (f i), rfl, ?_, k _ _ n2 _ H2 hq2 (f1.trans f2) w2 (.old (Rp.int _))⟩
      have q := DGet.k (k := .inl i) (cut_some.mp e).2
      rw [hv i hi] at q
      exact q
/-! in, not in -/
def rInU (K : PySem.W.Frag) : R2 := fun x y H Q => rInD K x y H Q ∨ rIn K false x y H Q
def rNotInU (K : PySem.W.Frag) : R2 := fun x y H Q => rNotInD K x y H Q ∨ rIn K true x y H Q
theorem op_inU {X : Cx} (hu : X.A.units + 65 < cLine) : OpR X (compareOp .In) (rInU X.K) := op_or (op_inD hu) op_in_seq
theorem op_notInU {X : Cx} (hu : X.A.units + 65 < cLine) : OpR X (compareOp .NotIn) (rNotInU X.K) := op_or (op_notInD hu) op_notIn_seq
def scalD : D → Bool
  | .none => true
  | .bool _ => true
  | .int _ => true
  | .str _ => true
  | _ => false
theorem scal_rep {K : PySem.W.Frag} {H : Hp} {v : V} {x : D} (r : Rp K H v x) (e : scalD x = true) : flatV v = true := by
  cases r <;> first | rfl | cases e
theorem scal_eq {K : PySem.W.Frag} {H : Hp} {v w : V} {x y : D} (r : Rp K H v x) (s : Rp K H w y) (e : scalD x = true) (f : scalD y = true) : eqV w v = PyData.eqv y x := by
  cases r <;> cases s <;> first | cases e; done | cases f; done | (simp [eqV, PyData.eqv]; done)
theorem scal_all {K : PySem.W.Frag} {H : Hp} : ∀ {vs : List V} {ds : List D}, RpAll K H vs ds → ds.all scalD = true → vs.all flatV = true
  | _, [], h, _ => by
    cases h
    rfl
  | _, d :: ds, h, e => by
    cases h with
    | cons h1 h2 =>
      rw [List.all_cons, Bool.and_eq_true] at e ⊢
      exact ⟨scal_rep h1 e.1, scal_all h2 e.2⟩
theorem scal_any {K : PySem.W.Frag} {H : Hp} {v : V} {x : D} (r : Rp K H v x) (ex : scalD x = true) : ∀ {vs : List V} {ds : List D}, RpAll K H vs ds → ds.all scalD = true → inV v vs = ds.any fun z => PyData.eqv z x
  | _, [], h, _ => by
    cases h
    rfl
  | _, d :: ds, h, e => by
    cases h with
    | cons h1 h2 =>
      rw [List.all_cons, Bool.and_eq_true] at e
      show (eqV _ v || inV v _) = _
      rw [scal_any r ex h2 e.2, scal_eq r h1 ex e.1]
      rfl
def mIn (f : Bool → Bool) : U → U → (Bool → D → Prop) → Prop
  | .d x, .d (.list ys), q => SeqAt.shaped x = true ∧ SeqAt.shaped (.list ys) = true ∧ q false (.bool (f (ys.any fun z => PyData.eqv z x)))
  | .d x, .d (.tuple ys), q => scalD x = true ∧ ys.all scalD = true ∧ q false (.bool (f (ys.any fun z => PyData.eqv z x)))
  | _, _, _ => False
@[simp] theorem mIn_l (f : Bool → Bool) (x : D) (ys : List D) (q : Bool → D → Prop) : mIn f (.d x) (.d (.list ys)) q = (SeqAt.shaped x = true ∧ SeqAt.shaped (.list ys) = true ∧ q false (.bool (f (ys.any fun z => PyData.eqv z x)))) := rfl
@[simp] theorem mIn_t (f : Bool → Bool) (x : D) (ys : List D) (q : Bool → D → Prop) : mIn f (.d x) (.d (.tuple ys)) q = (scalD x = true ∧ ys.all scalD = true ∧ q false (.bool (f (ys.any fun z => PyData.eqv z x)))) := rfl
instance : LR K (rInU K) (mIn id) where
  s am O H x y ux uy hK hO rx ry Q q hm k := by
    subst hK
    match ux, uy, hm with
    | .d a, .d (.list ys), hm => exact .inl ⟨a, ys, rep_dp rx hm.1, rep_dp ry hm.2.1, hm.1, hm.2.1, k _ _ _ H hm.2.2 (Same.refl _) (.old (Rp.bl _))⟩
    | .d a, .d (.tuple ys), hm =>
      cases ry with
      | tup a1 a2 => exact .inr ⟨_, _, rfl, .inr (SqT.le Le.cutAll a1), scal_rep rx hm.1, scal_all a2 hm.2.1, k _ _ _ H hm.2.2 (Same.refl _) (.old (by
          show Rp _ _ (.bl (inV x _)) _
          rw [scal_any rx hm.1 a2 hm.2.1]
          exact Rp.bl _))⟩
instance : LR K (rNotInU K) (mIn not) where
  s am O H x y ux uy hK hO rx ry Q q hm k := by
    subst hK
    match ux, uy, hm with
    | .d a, .d (.list ys), hm => exact .inl ⟨a, ys, rep_dp rx hm.1, rep_dp ry hm.2.1, hm.1, hm.2.1, k _ _ _ H hm.2.2 (Same.refl _) (.old (Rp.bl _))⟩
    | .d a, .d (.tuple ys), hm =>
      cases ry with
      | tup a1 a2 => exact .inr ⟨_, _, rfl, .inr (SqT.le Le.cutAll a1), scal_rep rx hm.1, scal_all a2 hm.2.1, k _ _ _ H hm.2.2 (Same.refl _) (.old (by
          show Rp _ _ (.bl (!inV x _)) _
          rw [scal_any rx hm.1 a2 hm.2.1]
          exact Rp.bl _))⟩
end
end V3
set_option Elab.async false
set_option linter.all false
set_option maxRecDepth 100000
set_option maxHeartbeats 4000000
namespace V3
open PySem PySem.Spec PyProof.Rows L2
section
variable {K : PySem.W.Frag} {C : Addr} {TL : List (Addr × Str)} {E : XK}
/-! ### tests -/
@[simp ↓] def mTest (me : TE3) : TT3 := fun ρ n q e => me ρ n (fun _ u n1 => askB u fun b => q b n1) e
instance {t : TE} {S : List Nat} {m : TE3} [h : LE K C TL E t S m] : LT K C TL E (tTest t) (mTest m) where
  s am ρ n σ H hE hr Q q hm k := by
    refine h.s am ρ n σ H hE hr _ _ hm fun fr u n1 v H1 hq f1 w1 r1 => ?_
    obtain ⟨b, rfl, rfl, hq⟩ := askB_rep hq r1.1
    exact ⟨b, rfl, k b n1 H1 hq f1 w1⟩
instance {t : TE} {S : List Nat} {m : TE3} [h : LE K C TL E t S m] : LT K C TL E (tB t) (mTest m) where
  s am ρ n σ H hE hr Q q hm k := by
    refine h.s am ρ n σ H hE hr _ _ hm fun fr u n1 v H1 hq f1 w1 r1 => ?_
    obtain ⟨b, rfl, rfl, hq⟩ := askB_rep hq r1.1
    exact ⟨b, rfl, k b n1 H1 hq f1 w1⟩
@[simp ↓] def mYes : TT3 := fun _ n q _ => q true n
instance : LT K C TL E tYes mYes where
  s am ρ n σ H hE hr Q q hm k := k true n H hm (FrR.refl _ _) hr.wd
@[simp ↓] def mAnd (mt mu : TT3) : TT3 := fun ρ n q e => mt ρ n (fun c n1 => if c = true then mu ρ n1 q e else q false n1) e
@[simp ↓] def mOr (mt mu : TT3) : TT3 := fun ρ n q e => mt ρ n (fun c n1 => if c = true then q true n1 else mu ρ n1 q e) e
@[simp ↓] def mNot (mt : TT3) : TT3 := fun ρ n q e => mt ρ n (fun c n1 => q (!c) n1) e
instance {t u : TT} {mt mu : TT3} [ht : LT K C TL E t mt] [hu : LT K C TL E u mu] : LT K C TL E (tAnd t u) (mAnd mt mu) where
  s am ρ n σ H hE hr Q q hm k := by
    refine ht.s am ρ n σ H hE hr _ _ hm fun b n1 H1 hq f1 w1 => ?_
    cases b with
    | true => exact hu.s am ρ n1 σ H1 hE (hr.step f1 w1) _ _ hq fun b2 n2 H2 hq2 f2 w2 => k b2 n2 H2 hq2 (f1.trans f2) w2
    | false => exact k false n1 H1 hq f1 w1
instance {t u : TT} {mt mu : TT3} [ht : LT K C TL E t mt] [hu : LT K C TL E u mu] : LT K C TL E (tOr t u) (mOr mt mu) where
  s am ρ n σ H hE hr Q q hm k := by
    refine ht.s am ρ n σ H hE hr _ _ hm fun b n1 H1 hq f1 w1 => ?_
    cases b with
    | false => exact hu.s am ρ n1 σ H1 hE (hr.step f1 w1) _ _ hq fun b2 n2 H2 hq2 f2 w2 => k b2 n2 H2 hq2 (f1.trans f2) w2
    | true => exact k true n1 H1 hq f1 w1
instance {t : TT} {mt : TT3} [ht : LT K C TL E t mt] : LT K C TL E (tNot t) (mNot mt) where
  s am ρ n σ H hE hr Q q hm k := ht.s am ρ n σ H hE hr _ _ hm fun b n1 H1 hq f1 w1 => k (!b) n1 H1 hq f1 w1
@[simp ↓] def mAndV (ma mb : TE3) : TE3 := fun ρ n q e => ma ρ n (fun _ u n1 => askB u fun c => if c = true then mb ρ n1 q e else q false (.d (.bool false)) n1) e
@[simp ↓] def mOrV (ma mb : TE3) : TE3 := fun ρ n q e => ma ρ n (fun _ u n1 => askB u fun c => if c = true then q false (.d (.bool true)) n1 else mb ρ n1 q e) e
@[simp ↓] def mNotV (ma : TE3) : TE3 := fun ρ n q e => ma ρ n (fun _ u n1 => askB u fun c => q false (.d (.bool (!c))) n1) e
theorem then_back {am : Am} {ρ : Ro} {n n1 : Nat} {σ : L2.St} {H H1 H2 : Hp} (h : Rl am ρ n σ H) (f : FrR am.R H H1) (w : Wd am.R am.TL H1 n1) {S S' : List Nat} (hS : ∀ i ∈ S, i ∈ S') {fr : Bool} {v : V} {u : U} (r : RepV am (Hid am (dem S ρ) σ) H1 H2 fr v u) : RepV am (Hid am (dem S' ρ) σ) H H2 fr v u :=
  (r.back h f (h.step f w)).sub fun a => hidDem2 hS
instance {ta tb : TE} {S1 S2 : List Nat} {ma mb : TE3} [ha : LE K C TL E ta S1 ma] [hb : LE K C TL E tb S2 mb] : LE K C TL E (tAndV ta tb) S2 (mAndV ma mb) where
  s am ρ n σ H hE hr Q q hm k := by
    refine ha.s am ρ n σ H hE hr _ _ hm fun fr u n1 v H1 hq f1 w1 r1 => ?_
    obtain ⟨b, rfl, rfl, hq⟩ := askB_rep hq r1.1
    refine ⟨b, rfl, ?_⟩
    cases b with
    | true => exact hb.s am ρ n1 σ H1 hE (hr.step f1 w1) _ _ hq fun fr2 u2 n2 v2 H2 hq2 f2 w2 r2 => k fr2 u2 n2 v2 H2 hq2 (f1.trans f2) w2 (then_back hr f1 w1 (fun _ z => z) r2)
    | false => exact k _ _ n1 _ H1 hq f1 w1 (.old (Rp.bl _))
instance {ta tb : TE} {S1 S2 : List Nat} {ma mb : TE3} [ha : LE K C TL E ta S1 ma] [hb : LE K C TL E tb S2 mb] : LE K C TL E (tOrV ta tb) S2 (mOrV ma mb) where
  s am ρ n σ H hE hr Q q hm k := by
    refine ha.s am ρ n σ H hE hr _ _ hm fun fr u n1 v H1 hq f1 w1 r1 => ?_
    obtain ⟨b, rfl, rfl, hq⟩ := askB_rep hq r1.1
    refine ⟨b, rfl, ?_⟩
    cases b with
    | false => exact hb.s am ρ n1 σ H1 hE (hr.step f1 w1) _ _ hq fun fr2 u2 n2 v2 H2 hq2 f2 w2 r2 => k fr2 u2 n2 v2 H2 hq2 (f1.trans f2) w2 (then_back hr f1 w1 (fun _ z => z) r2)
    | true => exact k _ _ n1 _ H1 hq f1 w1 (.old (Rp.bl _))
instance {ta : TE} {S1 : List Nat} {ma : TE3} [ha : LE K C TL E ta S1 ma] : LE K C TL E (tNotV ta) [] (mNotV ma) where
  s am ρ n σ H hE hr Q q hm k := by
    refine ha.s am ρ n σ H hE hr _ _ hm fun fr u n1 v H1 hq f1 w1 r1 => ?_
    obtain ⟨b, rfl, rfl, hq⟩ := askB_rep hq r1.1
    exact ⟨b, rfl, k _ _ n1 _ H1 hq f1 w1 (.old (Rp.bl _))⟩
@[simp ↓] def mIf (mt : TT3) (ma mb : TE3) : TE3 := fun ρ n q e => mt ρ n (fun c n1 => if c = true then ma ρ n1 q e else mb ρ n1 q e) e
instance {t : TT} {ta tb : TE} {S1 S2 : List Nat} {mt : TT3} {ma mb : TE3} [ht : LT K C TL E t mt] [ha : LE K C TL E ta S1 ma] [hb : LE K C TL E tb S2 mb] : LE K C TL E (tIf t ta tb) (S1 ++ S2) (mIf mt ma mb) where
  s am ρ n σ H hE hr Q q hm k := by
    refine ht.s am ρ n σ H hE hr _ _ hm fun b n1 H1 hq f1 w1 => ?_
    cases b with
    | true => exact ha.s am ρ n1 σ H1 hE (hr.step f1 w1) _ _ hq fun fr2 u2 n2 v2 H2 hq2 f2 w2 r2 => k fr2 u2 n2 v2 H2 hq2 (f1.trans f2) w2 (then_back hr f1 w1 (fun _ z => List.mem_append_left _ z) r2)
    | false => exact hb.s am ρ n1 σ H1 hE (hr.step f1 w1) _ _ hq fun fr2 u2 n2 v2 H2 hq2 f2 w2 r2 => k fr2 u2 n2 v2 H2 hq2 (f1.trans f2) w2 (then_back hr f1 w1 (fun _ z => List.mem_append_right _ z) r2)
@[simp ↓] def mChain (mr mr' : U → U → (Bool → D → Prop) → Prop) (ma mb mc : TE3) : TE3 := fun ρ n q e => ma ρ n (fun _ x n1 => mb ρ n1 (fun _ y n2 => mr x y fun _ z => askB (.d z) fun c => if c = true then mc ρ n2 (fun _ w n3 => mr' y w fun fr z' => q fr (.d z') n3) e else q false (.d (.bool false)) n2) e) e
instance {r r' : R2} {ta tb tc : TE} {S1 S2 S3 : List Nat} {ma mb mc : TE3} {mr mr' : U → U → (Bool → D → Prop) → Prop} [ha : LE K C TL E ta S1 ma] [hb : LE K C TL E tb S2 mb] [hc : LE K C TL E tc S3 mc] [hr : LR K r mr] [hr' : LR K r' mr'] : LE K C TL E (tChain r r' ta tb tc) (S1 ++ (S2 ++ S3)) (mChain mr mr' ma mb mc) where
  s am ρ n σ H hE h Q q hm k := by
    refine ha.s am ρ n σ H hE h _ _ hm fun fr x n1 v H1 hq f1 w1 r1 => ?_
    have h1 := h.step f1 w1
    refine hb.s am ρ n1 σ H1 hE h1 _ _ hq fun fr2 y n2 v2 H2 hq2 f2 w2 r2 => ?_
    have h2 := h1.step f2 w2
    refine hr.s am (Hid am (dem (S1 ++ (S2 ++ S3)) ρ) σ) H2 v v2 x y hE.1 (hid_there h2 _) (r1.1.le (rl_cutS h1 f2 fun i hi => List.mem_append_left _ hi)) (r2.1.le (rl_cutS h2 (FrR.refl _ _) fun i hi => List.mem_append_right _ (List.mem_append_left _ hi))) _ _ hq2 fun fr3 z v3 H3 hq3 sm r3 => ?_
    have w3 := w2.same sm
    have h3 := h2.step (.of sm) w3
    obtain ⟨b, e1, rfl, hq3⟩ := askB_rep hq3 r3.1
    refine ⟨b, rfl, ?_⟩
    cases b with
    | true =>
      refine hc.s am ρ n2 σ H3 hE h3 _ _ hq3 fun fr4 w n3 v4 H4 hq4 f4 w4 r4 => ?_
      have h4 := h3.step f4 w4
      refine hr'.s am (Hid am (dem (S1 ++ (S2 ++ S3)) ρ) σ) H4 v2 v4 y w hE.1 (hid_there h4 _) (r2.1.le (rl_cutS h2 ((FrR.of sm).trans f4) fun i hi => List.mem_append_right _ (List.mem_append_left _ hi))) (r4.1.le (rl_cutS h4 (FrR.refl _ _) fun i hi => List.mem_append_right _ (List.mem_append_right _ hi))) _ _ hq4 fun fr5 z5 v5 H5 hq5 sm5 r5 => ?_
      exact k _ _ n3 _ _ hq5 ((((f1.trans f2).trans (.of sm)).trans f4).trans (.of sm5)) (w4.same sm5) (r5.back h (((f1.trans f2).trans (.of sm)).trans f4) h4)
    | false => exact k _ _ n2 _ _ hq3 ((f1.trans f2).trans (.of sm)) w3 (.old (Rp.bl _))
/-! ### slices -/
@[simp ↓] def mNoPart : TO3 := fun _ n q _ => q none n
@[simp ↓] def mPart (me : TE3) : TO3 := fun ρ n q e => me ρ n (fun _ u n1 => askI u fun i => q (some i) n1) e
instance : LO K C TL E tNoPart mNoPart where
  s am ρ n σ H hE hr Q q hm k := k none n H hm (FrR.refl _ _) hr.wd
instance {t : TE} {S : List Nat} {m : TE3} [h : LE K C TL E t S m] : LO K C TL E (tPart t) (mPart m) where
  s am ρ n σ H hE hr Q q hm k := by
    refine h.s am ρ n σ H hE hr _ _ hm fun fr u n1 v H1 hq f1 w1 r1 => ?_
    obtain ⟨i, rfl, rfl, hq⟩ := askI_rep hq r1.1
    exact ⟨i, rfl, k _ n1 H1 hq f1 w1⟩
def cutD (xs : List D) (lo hi : Option Int) : List D := (xs.drop (HT.sIx xs.length 0 lo)).take (HT.sIx xs.length xs.length hi - HT.sIx xs.length 0 lo)
theorem cutD_rep {K : PySem.W.Frag} {H : Hp} {vs : List V} {ds : List D} (lo hi : Option Int) (r : RpAll K H vs ds) : RpAll K H (cutV vs lo hi) (cutD ds lo hi) := by
  unfold cutV cutD
  rw [RpAll.len r]
  exact RpAll.take _ (RpAll.drop _ r)
def rSlU (K : PySem.W.Frag) : V → Option Int → Option Int → Hp → VK → Prop := fun x lo hi H Q => rSlL K x lo hi H Q ∨ rSlA K x lo hi H Q
theorem sl_U {X : Cx} : SlR X (rSlU X.K) := by
  intro pins s σ H x v vl vu lo hi sl Q I rx hs pl pu h
  rcases h with h | h
  · exact sl_list pins s σ H x v vl vu lo hi sl Q I rx hs pl pu h
  · exact sl_tupA pins s σ H x v vl vu lo hi sl Q I rx hs pl pu h
@[simp] def slU (lo hi : Option Int) : U → (Bool → D → Prop) → Prop
  | .d (.list xs), q => q true (.list (cutD xs lo hi))
  | .d (.tuple xs), q => q false (.tuple (cutD xs lo hi))
  | _, _ => False
@[simp ↓] def mSl (me : TE3) (ml mh : TO3) : TE3 := fun ρ n q e => me ρ n (fun _ u n1 => ml ρ n1 (fun lo n2 => mh ρ n2 (fun hi n3 => slU lo hi u fun fr z => q fr (.d z) n3) e) e) e
instance {te : TE} {tl th : TO} {S : List Nat} {me : TE3} {ml mh : TO3} [he : LE K C TL E te S me] [hl : LO K C TL E tl ml] [hh : LO K C TL E th mh] : LE K C TL E (tSl (rSlU K) te tl th) S (mSl me ml mh) where
  s am ρ n σ H hE h Q q hm k := by
    obtain ⟨rfl, rfl, rfl, rfl⟩ := id hE
    refine he.s am ρ n σ H hE h _ _ hm fun fr u n1 v H1 hq f1 w1 r1 => ?_
    have h1 := h.step f1 w1
    refine hl.s am ρ n1 σ H1 hE h1 _ _ hq fun lo n2 H2 hq2 f2 w2 => ?_
    have h2 := h1.step f2 w2
    refine hh.s am ρ n2 σ H2 hE h2 _ _ hq2 fun hi n3 H3 hq3 f3 w3 => ?_
    have h3 := h2.step f3 w3
    have r3 := r1.1.le (rl_cutS h1 (f2.trans f3) (S' := S) fun i hi => hi)
    have f := (f1.trans f2).trans f3
    match u, hq3 with
    | .d (.list xs), hq3 =>
      cases r3 with
      | lst a1 a2 =>
        refine .inl ⟨_, _, rfl, SqL.of (cut_some.mp a1).2, fun p hp => ?_⟩
        exact k _ _ n3 _ _ hq3 (f.trans (.of (same_new hp))) (w3.same (same_new hp)) ((new_list (hid_there h3 S) hp (cutD_rep lo hi a2)).back h f h3)
    | .d (.tuple xs), hq3 =>
      cases r3 with
      | tup a1 a2 =>
        refine .inr ⟨_, _, rfl, SqT.le Le.cutAll a1, fun e => ?_, fun _ p hp => ?_⟩
        · refine k _ _ n3 _ _ hq3 f w3 (.old ?_)
          have e2 : cutD xs lo hi = xs := by
            unfold cutD
            rw [← RpAll.len a2, e.1, e.2, RpAll.len a2]
            simp
          show Rp _ _ _ _
          rw [e2]
          exact Rp.tup a1 a2
        · exact k _ _ n3 _ _ hq3 (f.trans (.of (same_new hp))) (w3.same (same_new hp)) ((new_tup (hid_there h3 S) hp (cutD_rep lo hi a2)).back h f h3)
/-! ### drawing.blocks -/
def askW : U → (List D → Prop) → Prop
  | .dw bs, k => k bs
  | _, _ => False
@[simp] theorem askW_s (i : List D) (k : List D → Prop) : askW (.dw i) k = k i := rfl
@[simp ↓] def mFld (me : TE3) : TE3 := fun ρ n q e => me ρ n (fun _ u n1 => askW u fun bs => q false (.d (.tuple bs)) n1) e
instance {te : TE} {S : List Nat} {me : TE3} [he : LE K C TL E te S me] : LE K C TL E (tFld K te "blocks") S (mFld me) where
  s am ρ n σ H hE h Q q hm k := by
    obtain ⟨rfl, rfl, rfl, rfl⟩ := id hE
    refine he.s am ρ n σ H hE h _ _ hm fun fr u n1 v H1 hq f1 w1 r1 => ?_
    match u, hq, r1.1 with
    | .dw bs, hq, r1 =>
      obtain ⟨fl, a, dx, t, rfl, h2, h3⟩ := r1
      exact ⟨a, am.C, dx, _, .ref t, rfl, (cut_some.mp h2).2, am.cls, am.nB, rfl, k _ _ n1 _ H1 hq f1 w1 (.old h3)⟩
end
end V3
set_option Elab.async false
set_option linter.all false
set_option maxRecDepth 100000
set_option maxHeartbeats 4000000
namespace V3
open PySem PySem.Spec PyProof.Rows L2
/-! ### statements -/
structure En3 where
  nx : Ro → Nat → Prop
  rt : Bool → U → Nat → Prop
  bk : Ro → Nat → Prop
  ct : Ro → Nat → Prop
abbrev TS3 := En3 → Ro → Nat → (Addr → Prop) → Prop
/-- what is given back -/
def RetV (am : Am) (H : Hp) (fr : Bool) (v : V) (u : U) : Prop :=
  RepU am am.R.hid H v u ∧ (fr = true → ∃ p vs ds, v = .ref p ∧ u = .d (.list ds) ∧ ((New am.Hs p ∨ am.O0 p) ∧ ¬ am.R.hid p) ∧ H p = some (.lst vs) ∧ RpAll am.K (cut (fun a => a = p ∨ am.R.hid a) H) vs ds)
structure EnR (am : Am) (D : Ends) (F : En3) : Prop where
  nx : ∀ ρ n σ H, F.nx ρ n → Rl am ρ n σ H → D.nx σ H
  bk : ∀ ρ n σ H, F.bk ρ n → Rl am ρ n σ H → D.bk σ H
  ct : ∀ ρ n σ H, F.ct ρ n → Rl am ρ n σ H → D.ct σ H
  rt : ∀ fr u n v H, F.rt fr u n → Gr am H → Wd am.R am.TL H n → RetV am H fr v u → D.rt v H
class LS (K : PySem.W.Frag) (C : Addr) (TL : List (Addr × Str)) (E : XK) (t : TS) (m : outParam TS3) : Prop where
  s : ∀ (am : Am) (ρ : Ro) (n : Nat) (σ : L2.St) (H : Hp) (D : Ends) (F : En3), am.K = K ∧ am.TL = TL ∧ am.E = E ∧ am.C = C → Rl am ρ n σ H → EnR am D F → m F ρ n am.e → t D σ H
section
variable {K : PySem.W.Frag} {C : Addr} {TL : List (Addr × Str)} {E : XK}
@[simp ↓] def mNext : TS3 := fun F ρ n _ => F.nx ρ n
instance : LS K C TL E tNext mNext where
  s am ρ n σ H D F hE h en hm := en.nx ρ n σ H hm h
@[simp ↓] def mSeq (mt mu : TS3) : TS3 := fun F ρ n e => mt { F with nx := fun ρ' n' => mu F ρ' n' e } ρ n e
instance {t u : TS} {mt mu : TS3} [ht : LS K C TL E t mt] [hu : LS K C TL E u mu] : LS K C TL E (tSeq t u) (mSeq mt mu) where
  s am ρ n σ H D F hE h en hm := ht.s am ρ n σ H { D with nx := u D } { F with nx := fun ρ' n' => mu F ρ' n' am.e } hE h ⟨fun ρ' n' σ' H' q r => hu.s am ρ' n' σ' H' D F hE r en q, en.bk, en.ct, en.rt⟩ hm
@[simp ↓] def mBreak : TS3 := fun F ρ n _ => F.bk ρ n
instance : LS K C TL E tBreak mBreak where
  s am ρ n σ H D F hE h en hm := en.bk ρ n σ H hm h
@[simp ↓] def mCont : TS3 := fun F ρ n _ => F.ct ρ n
instance : LS K C TL E tCont mCont where
  s am ρ n σ H D F hE h en hm := en.ct ρ n σ H hm h
@[simp ↓] def mIfS (mt : TT3) (ma mb : TS3) : TS3 := fun F ρ n e => mt ρ n (fun c n1 => if c = true then ma F ρ n1 e else mb F ρ n1 e) e
instance {c : TT} {t u : TS} {mc : TT3} {mt mu : TS3} [hc : LT K C TL E c mc] [ht : LS K C TL E t mt] [hu : LS K C TL E u mu] : LS K C TL E (tIfS c t u) (mIfS mc mt mu) where
  s am ρ n σ H D F hE h en hm := by
    refine hc.s am ρ n σ H hE h _ _ hm fun b n1 H1 hq f1 w1 => ?_
    cases b with
    | true => exact ht.s am ρ n1 σ H1 D F hE (h.step f1 w1) en hq
    | false => exact hu.s am ρ n1 σ H1 D F hE (h.step f1 w1) en hq
theorem ret_of {am : Am} {ρ : Ro} {n : Nat} {σ : L2.St} {H H1 : Hp} (h : Rl am ρ n σ H) {S : List Nat} {fr : Bool} {v : V} {u : U} (r : RepV am (Hid am (dem S ρ) σ) H H1 fr v u) : RetV am H1 fr v u :=
  ⟨r.1.le (Le.cutSub fun a z => .inl z), fun z => by
    obtain ⟨p, vs, ds, a1, a2, a3, a4, a5⟩ := r.2 z
    exact ⟨p, vs, ds, a1, a2, h.new0 a3, a4, RpAll.le (Le.cutSub fun a q => q.imp id fun y => .inl y) _ _ a5⟩⟩
@[simp ↓] def mRet (me : TE3) : TS3 := fun F ρ n e => me ρ n (fun fr u n1 => F.rt fr u n1) e
instance {te : TE} {S : List Nat} {me : TE3} [he : LE K C TL E te S me] : LS K C TL E (tRet te) (mRet me) where
  s am ρ n σ H D F hE h en hm := he.s am ρ n σ H hE h _ _ hm fun fr u n1 v H1 hq f1 w1 r1 => en.rt fr u n1 v H1 hq (h.step f1 w1).gr w1 (ret_of h r1)
@[simp] def isOw : Ro → Nat → Bool
  | [], _ => false
  | .ow _ :: _, 0 => true
  | _ :: _, 0 => false
  | _ :: ρ, i + 1 => isOw ρ i
theorem isOw_get : ∀ {ρ : Ro} {i : Nat}, isOw ρ i = true → ∃ ds, ρ[i]? = some (Sl.ow ds)
  | [], _, h => by cases h
  | .ow ds :: _, 0, _ => ⟨ds, rfl⟩
  | .no :: _, 0, h => by cases h
  | .fz _ :: _, 0, h => by cases h
  | s :: ρ, i + 1, h => isOw_get (ρ := ρ) (i := i) (by cases s <;> exact h)
@[simp ↓] def mRetVar (i : Nat) : TS3 := fun F ρ n _ => ask (rdAt ρ i) fun u => F.rt (isOw ρ i) u n
instance (priority := high) (i : Nat) : LS K C TL E (tRet (tVar i)) (mRetVar i) where
  s am ρ n σ H D F hE h en hm := by
    obtain ⟨u, e, hm⟩ := ask_some hm
    obtain ⟨v, h1, h2⟩ := slot_rd h e
    refine ⟨v, h1, en.rt _ u n v H hm h.gr h.wd ⟨h2.le (Le.cutSub fun a z => .inl z), fun o => ?_⟩⟩
    obtain ⟨ds, e2⟩ := isOw_get o
    obtain ⟨p, vs, q1, q2, q3, q4⟩ := h.ow i ds e2
    rw [h1] at q1
    cases q1
    rw [rdAt_eq, e2] at e
    cases e
    exact ⟨p, vs, ds, rfl, rfl, q2, q3, RpAll.le (Le.cutSub fun a z => by
      rcases z with z | z
      · exact .inr ⟨i, ⟨ds, e2⟩, by rw [z]; exact h1⟩
      · exact .inl z) _ _ q4⟩
@[simp ↓] def mRetN : TS3 := fun F _ n _ => F.rt false (.d .none) n
instance : LS K C TL E tRetN mRetN where
  s am ρ n σ H D F hE h en hm := en.rt _ _ n _ H hm h.gr h.wd ⟨Rp.non, fun z => by cases z⟩
/-! ### names given -/
def bind3 (S : List Nat) (i : Nat) : Bool → U → Ro → Ro
  | true, .d (.list ds), ρ => (if flatAll ds = true then ρ else dem S ρ).set i (.ow ds)
  | _, u, ρ => (if flatU u = true then ρ else dem S ρ).set i (.fz u)
@[simp] theorem bind3_l (S : List Nat) (i : Nat) (ds : List D) (ρ : Ro) : bind3 S i true (.d (.list ds)) ρ = (if flatAll ds = true then ρ else dem S ρ).set i (.ow ds) := rfl
@[simp] theorem bind3_d (S : List Nat) (i : Nat) (x : D) (ρ : Ro) : bind3 S i false (.d x) ρ = (if flat x = true then ρ else dem S ρ).set i (.fz (.d x)) := rfl
@[simp] theorem bind3_i (S : List Nat) (i : Nat) (b : Bool) (x : Int) (ρ : Ro) : bind3 S i b (.d (.int x)) ρ = ρ.set i (.fz (.d (.int x))) := by cases b <;> rfl
@[simp] theorem bind3_b (S : List Nat) (i : Nat) (b : Bool) (x : Bool) (ρ : Ro) : bind3 S i b (.d (.bool x)) ρ = ρ.set i (.fz (.d (.bool x))) := by cases b <;> rfl
@[simp] theorem bind3_s (S : List Nat) (i : Nat) (b : Bool) (x : Str) (ρ : Ro) : bind3 S i b (.d (.str x)) ρ = ρ.set i (.fz (.d (.str x))) := by cases b <;> rfl
@[simp] theorem bind3_n (S : List Nat) (i : Nat) (b : Bool) (ρ : Ro) : bind3 S i b (.d .none) ρ = ρ.set i (.fz (.d .none)) := by cases b <;> rfl
@[simp] theorem bind3_t (S : List Nat) (i : Nat) (b : Bool) (xs : List D) (ρ : Ro) : bind3 S i b (.d (.tuple xs)) ρ = (if flatAll xs = true then ρ else dem S ρ).set i (.fz (.d (.tuple xs))) := by cases b <;> rfl
@[simp] theorem bind3_w (S : List Nat) (i : Nat) (b : Bool) (xs : List D) (ρ : Ro) : bind3 S i b (.dw xs) ρ = ρ.set i (.fz (.dw xs)) := by cases b <;> rfl
@[simp] theorem bind3_tb (S : List Nat) (i : Nat) (b : Bool) (f : Int → Int) (ns : List Int) (ρ : Ro) : bind3 S i b (.tb f ns) ρ = ρ.set i (.fz (.tb f ns)) := by cases b <;> rfl
@[simp] theorem bind3_r (S : List Nat) (i : Nat) (b : Bool) (ρ : Ro) : bind3 S i b .dr ρ = ρ.set i (.fz .dr) := by cases b <;> rfl
theorem bindFz {am : Am} {ρ : Ro} {n n' : Nat} {σ : L2.St} {H H' : Hp} (h : Rl am ρ n σ H) (f : FrR am.R H H') (w : Wd am.R am.TL H' n') {S : List Nat} {v : V} {u : U} (i : Nat) (r : RepU am (Hid am (dem S ρ) σ) H' v u) : Rl am ((if flatU u = true then ρ else dem S ρ).set i (.fz u)) n' (σ.set i (some v)) H' := by
  have h' := h.step f w
  by_cases fl : flatU u = true
  · rw [if_pos fl]
    refine h'.setFz i (r.hide (fun p z => ?_) fl)
    rcases z with z | ⟨j, z⟩
    · exact .inl (.inl z)
    · exact .inr (h'.ownL z).2.1
  · rw [if_neg fl]
    exact (h'.dem S).setFz i r
theorem bind_ok {am : Am} {ρ : Ro} {n n' : Nat} {σ : L2.St} {H H' : Hp} (h : Rl am ρ n σ H) (f : FrR am.R H H') (w : Wd am.R am.TL H' n') {S : List Nat} {fr : Bool} {v : V} {u : U} (i : Nat) (r : RepV am (Hid am (dem S ρ) σ) H H' fr v u) : Rl am (bind3 S i fr u ρ) n' (σ.set i (some v)) H' := by
  cases fr with
  | false => cases u <;> exact bindFz h f w i r.1
  | true =>
    obtain ⟨p, vs, ds, rfl, rfl, np, e, a⟩ := r.2 rfl
    show Rl am ((if flatAll ds = true then ρ else dem S ρ).set i (.ow ds)) n' _ H'
    by_cases fl : flatAll ds = true
    · rw [if_pos fl]
      refine h.setOw f w i np e (RpAll.hide (O := fun a => a = p ∨ Hid am (dem S ρ) σ a) (fun q z => ?_) _ _ fl a)
      rcases z with z | z | ⟨j, z⟩
      · exact .inl (.inl z)
      · exact .inl (.inr (.inl z))
      · exact .inr ((h.step f w).ownL z).2.1
    · rw [if_neg fl]
      exact (h.dem S).setOw f w i np e a
@[simp ↓] def mSet (S : List Nat) (i : Nat) (me : TE3) : TS3 := fun F ρ n e => me ρ n (fun fr u n1 => F.nx (bind3 S i fr u ρ) n1) e
instance {te : TE} {i : Nat} {S : List Nat} {me : TE3} [he : LE K C TL E te S me] : LS K C TL E (tAsg te (gName i)) (mSet S i me) where
  s am ρ n σ H D F hE h en hm := he.s am ρ n σ H hE h _ _ hm fun fr u n1 v H1 hq f1 w1 r1 => en.nx _ n1 _ H1 hq (bind_ok h f1 w1 i r1)
def flatF : Bool → U → Bool
  | true, .d (.list ds) => flatAll ds
  | _, u => flatU u
@[simp] theorem flatF_l (ds : List D) : flatF true (.d (.list ds)) = flatAll ds := rfl
@[simp] theorem flatF_d (x : D) : flatF false (.d x) = flat x := rfl
@[simp] theorem flatF_i (b : Bool) (x : Int) : flatF b (.d (.int x)) = true := by cases b <;> rfl
@[simp] theorem flatF_b (b : Bool) (x : Bool) : flatF b (.d (.bool x)) = true := by cases b <;> rfl
@[simp] theorem flatF_s (b : Bool) (x : Str) : flatF b (.d (.str x)) = true := by cases b <;> rfl
@[simp] theorem flatF_n (b : Bool) : flatF b (.d .none) = true := by cases b <;> rfl
@[simp] theorem flatF_t (b : Bool) (xs : List D) : flatF b (.d (.tuple xs)) = flatAll xs := by cases b <;> rfl
@[simp] theorem flatF_w (b : Bool) (xs : List D) : flatF b (.dw xs) = true := by cases b <;> rfl
@[simp] theorem flatF_tb (b : Bool) (f : Int → Int) (ns : List Int) : flatF b (.tb f ns) = true := by cases b <;> rfl
@[simp] theorem flatF_r (b : Bool) : flatF b .dr = true := by cases b <;> rfl
@[simp] theorem flat_i (i : Int) : flat (.int i) = true := rfl
@[simp] theorem flat_b (i : Bool) : flat (.bool i) = true := rfl
@[simp] theorem flat_n : flat .none = true := rfl
@[simp] theorem flat_s (i : Str) : flat (.str i) = true := rfl
@[simp] theorem flat_t (xs : List D) : flat (.tuple xs) = flatAll xs := rfl
@[simp] theorem flatAll_n : flatAll [] = true := rfl
@[simp] theorem flatAll_c (x : D) (xs : List D) : flatAll (x :: xs) = (flat x && flatAll xs) := rfl
@[simp ↓] def mPar (S1 S2 : List Nat) (i j : Nat) (ma mb : TE3) : TS3 := fun F ρ n e => ma ρ n (fun f1 x n1 => mb ρ n1 (fun f2 y n2 => if flatF f2 y = true then F.nx (bind3 S2 j f2 y (bind3 S1 i f1 x ρ)) n2 else False) e) e
theorem bind_flat {am : Am} {ρ : Ro} {n n' : Nat} {σ : L2.St} {H H' : Hp} (h : Rl am ρ n σ H) (f : FrR am.R H H') (w : Wd am.R am.TL H' n') (S : List Nat) {fr : Bool} {v : V} {u : U} (i : Nat) {O : Addr → Prop} (hO : ∀ a, am.R.hid a → O a) (fl : flatF fr u = true) (r : RepV am O H H' fr v u) : Rl am (bind3 S i fr u ρ) n' (σ.set i (some v)) H' := by
  have h' := h.step f w
  have hh : ∀ p, Hid am ρ σ p → O p ∨ ∃ ys, H' p = some (.lst ys) := fun p z => by
    rcases z with z | ⟨j, z⟩
    · exact .inl (hO p z)
    · exact .inr (h'.ownL z).2.1
  have fz : ∀ {u : U}, flatU u = true → RepU am O H' v u → Rl am ((if flatU u = true then ρ else dem S ρ).set i (.fz u)) n' (σ.set i (some v)) H' := fun fl r => by
    rw [if_pos fl]
    exact h'.setFz i (r.hide hh fl)
  cases fr with
  | false => cases u <;> exact fz fl r.1
  | true =>
    obtain ⟨p, vs, ds, rfl, rfl, np, e, a⟩ := r.2 rfl
    show Rl am ((if flatAll ds = true then ρ else dem S ρ).set i (.ow ds)) n' _ H'
    rw [if_pos (show flatAll ds = true from fl)]
    refine h.setOw f w i np e (RpAll.hide (O := fun a => a = p ∨ O a) (fun q z => ?_) _ _ fl a)
    rcases z with z | z
    · exact .inl (.inl z)
    · exact (hh q z).imp .inr id
theorem if_pos' {c : Prop} [Decidable c] {p : Prop} (h : if c then p else False) : c ∧ p := by
  by_cases hc : c
  · rw [if_pos hc] at h
    exact ⟨hc, h⟩
  · rw [if_neg hc] at h
    exact h.elim
instance {i j : Nat} {ta tb : TE} {S1 S2 : List Nat} {ma mb : TE3} [ha : LE K C TL E ta S1 ma] [hb : LE K C TL E tb S2 mb] : LS K C TL E (tPar i j (tCons ta (tCons tb tNil))) (mPar S1 S2 i j ma mb) where
  s am ρ n σ H D F hE h en hm := by
    refine ha.s am ρ n σ H hE h _ _ hm fun fr x n1 v H1 hq f1 w1 r1 => ?_
    have h1 := h.step f1 w1
    refine hb.s am ρ n1 σ H1 hE h1 _ _ hq fun fr2 y n2 v2 H2 hq2 f2 w2 r2 => ?_
    obtain ⟨fl, hq2⟩ := if_pos' hq2
    refine ⟨v, v2, rfl, en.nx _ n2 _ H2 hq2 ?_⟩
    exact bind_flat (bind_ok h f1 w1 i r1) f2 w2 S2 j (O := Hid am (dem S2 ρ) σ) (fun a z => .inl z) fl r2
/-! a, b = e -/
class HasLen (is : List Nat) (k : Nat) : Prop where
  e : is.length = k
instance : HasLen [] 0 := ⟨rfl⟩
instance {i : Nat} : HasLen [i] 1 := ⟨rfl⟩
instance {i j : Nat} : HasLen [i, j] 2 := ⟨rfl⟩
instance {i j k : Nat} : HasLen [i, j, k] 3 := ⟨rfl⟩
instance {i j k l : Nat} : HasLen [i, j, k, l] 4 := ⟨rfl⟩
@[simp] def setAll : List Nat → List D → Ro → Ro
  | i :: is, d :: ds, ρ => setAll is ds (ρ.set i (.fz (.d d)))
  | _, _, ρ => ρ
/-- a target: the slots, in order -/
class LG (K : PySem.W.Frag) (g : TG) (is : outParam (List Nat)) (tup : outParam Bool) : Prop where
  one : tup = false → ∃ i, is = [i] ∧ g = gName i
  many : tup = true → ∀ (v : V) (σ : L2.St) (H : Hp) (Q : L2.St → Hp → Prop) (a : Addr) (vs : List V), v = .ref a → SqT K H a vs → vs.length = is.length → Q ((is.zip vs).foldl (fun σ p => σ.set p.1 (some p.2)) σ) H → g v σ H Q
class LGs (gs : TGs) (is : outParam (List Nat)) : Prop where
  s : ∀ (vs : List V) (σ : L2.St) (H : Hp) (Q : L2.St → Hp → Prop), vs.length = is.length → Q ((is.zip vs).foldl (fun σ p => σ.set p.1 (some p.2)) σ) H → gs vs σ H Q
instance : LGs gNil [] where
  s vs σ H Q hl q := by
    have e : vs = [] := List.length_eq_zero_iff.mp hl
    subst e
    exact ⟨rfl, q⟩
instance {i : Nat} {gs : TGs} {is : List Nat} [h : LGs gs is] : LGs (gCons (gName i) gs) (i :: is) where
  s vs σ H Q hl q := by
    match vs, hl with
    | v :: vs, hl => exact ⟨v, vs, rfl, h.s vs _ H Q (by simpa using hl) q⟩
instance {i : Nat} : LG K (gName i) [i] false where
  one _ := ⟨i, rfl, rfl⟩
  many z := by cases z
instance {k : Nat} {gs : TGs} {is : List Nat} [h : LGs gs is] [hk : HasLen is k] : LG K (gTup K k gs) is true where
  one z := by cases z
  many _ v σ H Q a vs e hs hl q := ⟨a, vs, e, hs, by rw [hl]; exact hk.e, h.s vs σ H Q hl q⟩
/-- what an item leaves in the slots -/
def giv (is : List Nat) : Bool → D → Ro → (Ro → Prop) → Prop
  | false, d, ρ, k => match is with
    | [i] => k (ρ.set i (.fz (.d d)))
    | _ => False
  | true, .tuple ds, ρ, k => if ds.length = is.length then k (setAll is ds ρ) else False
  | true, _, _, _ => False
@[simp] theorem giv_1 (i : Nat) (d : D) (ρ : Ro) (k : Ro → Prop) : giv [i] false d ρ k = k (ρ.set i (.fz (.d d))) := rfl
@[simp] theorem giv_t (is : List Nat) (ds : List D) (ρ : Ro) (k : Ro → Prop) : giv is true (.tuple ds) ρ k = (if ds.length = is.length then k (setAll is ds ρ) else False) := rfl
theorem setAll_ok {am : Am} {n : Nat} {H : Hp} {O : Addr → Prop} : ∀ {is : List Nat} {ds : List D} {vs : List V} {ρ : Ro} {σ : L2.St}, (∀ a, Hid am ρ σ a → O a) → Rl am ρ n σ H → RpAll am.K (cut O H) vs ds → ds.length = is.length → Rl am (setAll is ds ρ) n ((is.zip vs).foldl (fun σ p => σ.set p.1 (some p.2)) σ) H
  | [], [], _, _, _, _, h, r, _ => by
    cases r
    exact h
  | i :: is, d :: ds, _, ρ, σ, hO, h, r, hl => by
    cases r with
    | cons r1 r2 =>
      show Rl am (setAll is ds (ρ.set i (.fz (.d d)))) n _ H
      exact setAll_ok (σ := σ.set i (some _)) (fun a z => hO a (hid_set (fun ds z => by cases z) z)) (h.setFz i (u := .d d) (Rp.le (Le.cutSub hO) _ _ r1)) r2 (by simpa using hl)
theorem giv_ok {am : Am} {ρ : Ro} {n : Nat} {σ : L2.St} {H : Hp} {g : TG} {is : List Nat} {tup : Bool} (hg : LG am.K g is tup) (h : Rl am ρ n σ H) {O : Addr → Prop} (hO : ∀ a, Hid am ρ σ a → O a) {d : D} {v : V} (r : Rp am.K (cut O H) v d) {k : Ro → Prop} (hk : giv is tup d ρ k) {Q : L2.St → Hp → Prop} (fin : ∀ ρ' σ', k ρ' → Rl am ρ' n σ' H → Q σ' H) : g v σ H Q := by
  cases tup with
  | false =>
    obtain ⟨i, rfl, rfl⟩ := hg.one rfl
    exact fin _ _ hk (h.setFz i (u := .d d) (Rp.le (Le.cutSub hO) _ _ r))
  | true =>
    match d, hk with
    | .tuple ds, hk =>
      obtain ⟨hl, hk⟩ := if_pos' hk
      cases r with
      | tup a1 a2 => exact hg.many rfl _ σ H Q _ _ rfl (SqT.le Le.cutAll a1) (by rw [RpAll.len a2, hl]) (fin _ _ hk (setAll_ok hO h a2 hl))
@[simp ↓] def mSetT (S is : List Nat) (me : TE3) : TS3 := fun F ρ n e => me ρ n (fun _ u n1 => askT u fun ds => giv is true (.tuple ds) (if flatAll ds = true then ρ else dem S ρ) fun ρ' => F.nx ρ' n1) e
instance (priority := low) {te : TE} {g : TG} {S is : List Nat} {me : TE3} [he : LE K C TL E te S me] [hg : LG K g is true] : LS K C TL E (tAsg te g) (mSetT S is me) where
  s am ρ n σ H D F hE h en hm := by
    obtain ⟨rfl, rfl, rfl, rfl⟩ := id hE
    refine he.s am ρ n σ H hE h _ _ hm fun fr u n1 v H1 hq f1 w1 r1 => ?_
    have h1 := h.step f1 w1
    obtain ⟨ds, a, vs, rfl, rfl, a1, a2, hq⟩ := askT_rep hq r1.1
    by_cases fl : flatAll ds = true
    · rw [if_pos fl] at hq
      refine giv_ok hg h1 (O := Hid am ρ σ) (fun a z => z) (Rp.hide (fun p z => ?_) (.tuple ds) _ fl (Rp.tup a1 a2)) hq fun ρ' σ' k r => en.nx ρ' n1 σ' H1 k r
      rcases z with z | ⟨j, z⟩
      · exact .inl (.inl z)
      · exact .inr (h1.ownL z).2.1
    · rw [if_neg fl] at hq
      exact giv_ok hg (h1.dem S) (fun a z => z) (Rp.tup a1 a2) hq fun ρ' σ' k r => en.nx ρ' n1 σ' H1 k r
end
end V3
set_option Elab.async false
set_option linter.all false
set_option maxRecDepth 100000
set_option maxHeartbeats 4000000
namespace V3
open PySem PySem.Spec PyProof.Rows L2
/-! ### what a loop walks -/
abbrev TI3 := Ro → Nat → (List D → Nat → Prop) → (Addr → Prop) → Prop
/-- J gives the items ds, as long as what is not in O stands -/
def ItOk (am : Am) (O : Addr → Prop) (J : It) (ds : List D) (H' : Hp) : Prop :=
  ∀ (H2 : Hp) (O2 : Addr → Prop), Le (cut O H') (cut O2 H2) → (∀ a, O2 a → There H2 a) → ∀ i, (∀ d, ds[i]? = some d → J.go i H2 ∧ ∀ x H3, J.yld i H2 x H3 → Same H2 H3 ∧ Rp am.K (cut O2 H3) x d) ∧ (ds.length ≤ i → J.stop i H2)
class LI (K : PySem.W.Frag) (C : Addr) (TL : List (Addr × Str)) (E : XK) (wi : TI) (S : outParam (List Nat)) (m : outParam TI3) : Prop where
  s : ∀ (am : Am) (ρ : Ro) (n : Nat) (σ : L2.St) (H : Hp), am.K = K ∧ am.TL = TL ∧ am.E = E ∧ am.C = C → Rl am ρ n σ H → ∀ (R : It → Hp → Prop) (q : List D → Nat → Prop), m ρ n q am.e →
    (∀ ds n' J H', q ds n' → FrR am.R H H' → Wd am.R am.TL H' n' → ItOk am (Hid am (dem S ρ) σ) J ds H' → R J H') → wi σ H R
section
variable {K : PySem.W.Frag} {C : Addr} {TL : List (Addr × Str)} {E : XK}
theorem it_lst {am : Am} {O : Addr → Prop} {a : Addr} {vs : List V} {ds : List D} {H : Hp} (h : cut O H a = some (.lst vs)) (r : RpAll am.K (cut O H) vs ds) : ItOk am O (Itl am.K a) ds H := fun H2 O2 le _ i => by
  have h2 := (cut_some.mp (le _ _ (fun ps z => by cases z) h)).2
  have r2 := RpAll.le le _ _ r
  refine ⟨fun d e => ?_, fun e => ⟨vs, SqL.of h2, by rw [RpAll.len r]; exact e⟩⟩
  obtain ⟨v, q1, q2⟩ := RpAll.get r2 e
  refine ⟨⟨vs, v, SqL.of h2, q1⟩, fun x H3 y => ?_⟩
  obtain ⟨rfl, y2⟩ := y
  have e3 := y2 vs (SqL.of h2)
  rw [q1] at e3
  cases e3
  exact ⟨Same.refl _, q2⟩
theorem it_tup {am : Am} {O : Addr → Prop} {a : Addr} {vs : List V} {ds : List D} {H : Hp} (h : SqT am.K (cut O H) a vs) (r : RpAll am.K (cut O H) vs ds) : ItOk am O (Itt am.K a) ds H := fun H2 O2 le _ i => by
  have h2 := SqT.le Le.cutAll (SqT.le le h)
  have r2 := RpAll.le le _ _ r
  refine ⟨fun d e => ?_, fun e => ⟨vs, h2, by rw [RpAll.len r]; exact e⟩⟩
  obtain ⟨v, q1, q2⟩ := RpAll.get r2 e
  refine ⟨⟨vs, v, h2, q1⟩, fun x H3 y => ?_⟩
  obtain ⟨rfl, y2⟩ := y
  have e3 := y2 vs h2
  rw [q1] at e3
  cases e3
  exact ⟨Same.refl _, q2⟩
/-- a list or a tuple -/
def iSeq (K : PySem.W.Frag) (te : TE) : TI := fun σ H R => te σ H fun v H1 => ∃ a, v = .ref a ∧ (((∃ xs, SqL K H1 a xs) ∧ R (Itl K a) H1) ∨ ((∃ xs, SqT K H1 a xs) ∧ R (Itt K a) H1))
theorem pi_seq {X : Cx} {tg l : Expr} {tl : TE} (hl : PE X l tl) : PI X tg l (iSeq X.K tl) := by
  refine ⟨fun pins s σ H R I h => ?_⟩
  refine thn (hl.run pins s σ H _ I h) fun v s1 ⟨x, H1, I1, r1, a, e, q⟩ => ?_
  have pe : ∀ {t : TE}, (∀ Q, t σ H1 Q → Q (.ref a) H1) → True := fun _ => trivial
  rcases q with ⟨⟨xs, hq⟩, q⟩ | ⟨⟨xs, hq⟩, q⟩
  · subst e
    cases r1
    obtain ⟨its, rv, p, hz⟩ := I1.list hq
    refine wpAny_pyIter_list p.isList ?_
    refine ⟨s1.heap.objs.size, [s1.heap.objs.size], _, _, H1, rfl, I1.kept (t' := s1.toks) fun b o e => Heap.get?_push_of_some _ e, turn_list a _, ⟨_, Heap.get?_push_size _ rfl, rfl, rfl⟩, fun b hb => ?_, q⟩
    have e : b = s1.heap.objs.size := by simpa using hb
    subst e
    exact I1.fpOk (Nat.le_refl _) (I1.hok.fresh (Nat.le_refl _))
  · subst e
    cases r1
    obtain ⟨its, rv, p, hz⟩ := I1.tuple hq
    refine wpAny_pyIter_tuple (show s1.heap.IsTuple a its.toArray from p) ?_
    refine ⟨s1.heap.objs.size, [s1.heap.objs.size], _, _, H1, rfl, I1.kept (t' := s1.toks) fun b o e => Heap.get?_push_of_some _ e, turn_tuple a _, ⟨_, Heap.get?_push_size _ rfl, rfl, rfl⟩, fun b hb => ?_, q⟩
    have e : b = s1.heap.objs.size := by simpa using hb
    subst e
    exact I1.fpOk (Nat.le_refl _) (I1.hok.fresh (Nat.le_refl _))
def askS : U → (List D → Prop) → Prop
  | .d (.list i), k => k i
  | .d (.tuple i), k => k i
  | _, _ => False
@[simp] theorem askS_l (i : List D) (k : List D → Prop) : askS (.d (.list i)) k = k i := rfl
@[simp] theorem askS_t (i : List D) (k : List D → Prop) : askS (.d (.tuple i)) k = k i := rfl
@[simp ↓] def mISeq (me : TE3) : TI3 := fun ρ n q e => me ρ n (fun _ u n1 => askS u fun ds => q ds n1) e
instance {te : TE} {S : List Nat} {me : TE3} [he : LE K C TL E te S me] : LI K C TL E (iSeq K te) S (mISeq me) where
  s am ρ n σ H hE h R q hm k := by
    obtain ⟨rfl, rfl, rfl, rfl⟩ := id hE
    refine he.s am ρ n σ H hE h _ _ hm fun fr u n1 v H1 hq f1 w1 r1 => ?_
    match u, hq, r1.1 with
    | .d (.list ds), hq, r =>
      cases r with
      | lst a1 a2 => exact ⟨_, rfl, .inl ⟨⟨_, SqL.of (cut_some.mp a1).2⟩, k ds n1 _ H1 hq f1 w1 (it_lst a1 a2)⟩⟩
    | .d (.tuple ds), hq, r =>
      cases r with
      | tup a1 a2 => exact ⟨_, rfl, .inr ⟨⟨_, SqT.le Le.cutAll a1⟩, k ds n1 _ H1 hq f1 w1 (it_tup a1 a2)⟩⟩
/-- the numbers from lo on, k of them -/
def upFrom (lo : Int) (k : Nat) : List D := (List.range k).map fun i => .int (lo + (i : Nat))
theorem it_rng {am : Am} {O : Addr → Prop} {lo : Int} {k : Nat} {H : Hp} : ItOk am O (Itr lo k) (upFrom lo k) H := fun H2 O2 le _ i => by
  unfold upFrom
  refine ⟨fun d e => ?_, fun e => ?_⟩
  · rw [List.getElem?_map] at e
    cases q : (List.range k)[i]? with
    | none =>
      rw [q] at e
      cases e
    | some j =>
      rw [q] at e
      cases e
      obtain ⟨hi, hj⟩ := List.getElem?_eq_some_iff.mp q
      rw [List.length_range] at hi
      rw [List.getElem_range] at hj
      subst hj
      refine ⟨hi, fun x H3 y => ?_⟩
      obtain ⟨rfl, rfl⟩ := y
      exact ⟨Same.refl _, .int _⟩
  · rw [List.length_map, List.length_range] at e
    exact e
@[simp ↓] def mIRng1 (ma : TA3) : TI3 := fun ρ n q e => ma ρ n (fun us n1 => match us with
  | [.d (.int j)] => (-(2 ^ 62) ≤ j ∧ j < 2 ^ 62) ∧ q (upFrom 0 j.toNat) n1
  | _ => False) e
instance {ta : TA} {S : List Nat} {ma : TA3} [ha : LA K C TL E ta S ma] : LI K C TL E (iRng1 ta) [] (mIRng1 ma) where
  s am ρ n σ H hE h R q hm k := by
    refine ha.s am ρ n σ H hE h _ _ hm fun us n1 vs H1 hq f1 w1 r1 => ?_
    match us, hq, r1 with
    | [.d (.int j)], hq, .cons r .nil =>
      cases r
      exact ⟨j, rfl, hq.1.1, hq.1.2, k _ n1 _ H1 hq.2 f1 w1 it_rng⟩
@[simp ↓] def mIRng2 (ma : TA3) : TI3 := fun ρ n q e => ma ρ n (fun us n1 => match us with
  | [.d (.int i), .d (.int j)] => (-(2 ^ 62) ≤ i ∧ i < 2 ^ 62 ∧ -(2 ^ 62) ≤ j ∧ j < 2 ^ 62) ∧ q (upFrom i (j - i).toNat) n1
  | _ => False) e
instance {ta : TA} {S : List Nat} {ma : TA3} [ha : LA K C TL E ta S ma] : LI K C TL E (iRng2 ta) [] (mIRng2 ma) where
  s am ρ n σ H hE h R q hm k := by
    refine ha.s am ρ n σ H hE h _ _ hm fun us n1 vs H1 hq f1 w1 r1 => ?_
    match us, hq, r1 with
    | [.d (.int i), .d (.int j)], hq, .cons r (.cons r2 .nil) =>
      cases r
      cases r2
      exact ⟨i, j, rfl, hq.1, k _ n1 _ H1 hq.2 f1 w1 it_rng⟩
/-! ### for -/
@[simp] def forL (is : List Nat) (tup : Bool) (mb : TS3) (F : En3) (e : Addr → Prop) : List D → Ro → Nat → Prop
  | [], ρ, n => F.nx ρ n
  | d :: ds, ρ, n => giv is tup d ρ fun ρ' => mb { F with nx := forL is tup mb F e ds, ct := forL is tup mb F e ds, bk := F.nx } ρ' n e
@[simp ↓] def mFor (S is : List Nat) (tup : Bool) (mi : TI3) (mb : TS3) : TS3 := fun F ρ n e => mi ρ n (fun ds n1 => forL is tup mb F e ds (dem S ρ) n1) e
/-- the loop's own start -/
def loopAm (am : Am) (ρ : Ro) (σ : L2.St) (H : Hp) : Am := { am with Hs := H, O0 := fun a => (∃ d g c, am.R.dr = some (d, g, c) ∧ (a = d ∨ a = g)) ∨ ∃ i, OwnAt ρ σ i a }
theorem loop_gr {am : Am} {ρ : Ro} {n : Nat} {σ : L2.St} {H H' : Hp} (h : Rl am ρ n σ H) (g : Gr (loopAm am ρ σ H) H') : Gr am H' := ⟨fun b o h1 h2 e => by
  refine g.1 b o (fun z => ?_) h2 (h.gr.1 b o h1 h2 e)
  rcases z with ⟨d, g', c, q, z⟩ | ⟨i, z⟩
  · obtain ⟨a1, a2⟩ := h.od d g' c q
    rcases z with z | z
    · exact h1 (z ▸ a1)
    · exact h1 (z ▸ a2)
  · rcases (h.ownL z).1 with y | y
    · exact y ⟨o, e, h2⟩
    · exact h1 y, fun b z => g.2 b (h.gr.2 b z)⟩
theorem loop_in {am : Am} {ρ : Ro} {n : Nat} {σ : L2.St} {H : Hp} (h : Rl am ρ n σ H) : Rl (loopAm am ρ σ H) ρ n σ H where
  len := h.len
  fz := h.fz
  ow i ds e := by
    obtain ⟨p, vs, q1, q2, q3, q4⟩ := h.ow i ds e
    exact ⟨p, vs, q1, ⟨.inr (.inr ⟨i, ⟨ds, e⟩, q1⟩), q2.2⟩, q3, q4⟩
  nd := h.nd
  od d g c q := ⟨.inl ⟨d, g, c, q, .inl rfl⟩, .inl ⟨d, g, c, q, .inr rfl⟩⟩
  gr := ⟨fun _ _ _ _ e => e, fun _ e => e⟩
  wd := h.wd
  ex C' H' n' g w e := h.ex C' H' n' (loop_gr h g) w e
theorem loop_new {am : Am} {ρ : Ro} {n : Nat} {σ : L2.St} {H : Hp} (h : Rl am ρ n σ H) {p : Addr} (z : (New H p ∨ (loopAm am ρ σ H).O0 p) ∧ ¬ am.R.hid p) : (New am.Hs p ∨ am.O0 p) ∧ ¬ am.R.hid p := by
  refine ⟨?_, z.2⟩
  rcases z.1 with y | ⟨d, g, c, q, y⟩ | ⟨i, y⟩
  · exact (by
      by_cases o : am.O0 p
      · exact .inr o
      · exact .inl fun ⟨x, q1, q2⟩ => y ⟨x, h.gr.1 p x o q2 q1, q2⟩)
  · obtain ⟨a1, a2⟩ := h.od d g c q
    rcases y with y | y
    · exact .inr (y ▸ a1)
    · exact .inr (y ▸ a2)
  · exact (h.ownL y).1
theorem loop_out {am : Am} {ρ ρ2 : Ro} {n n2 : Nat} {σ σ2 : L2.St} {H H2 : Hp} (h : Rl am ρ n σ H) (g : Rl (loopAm am ρ σ H) ρ2 n2 σ2 H2) : Rl am ρ2 n2 σ2 H2 where
  len := g.len
  fz := g.fz
  ow i ds e := by
    obtain ⟨p, vs, q1, q2, q3, q4⟩ := g.ow i ds e
    exact ⟨p, vs, q1, loop_new h q2, q3, q4⟩
  nd := g.nd
  od := h.od
  gr := loop_gr h g.gr
  wd := g.wd
  ex := h.ex
theorem loop_en {am : Am} {ρ : Ro} {n : Nat} {σ : L2.St} {H : Hp} {D : Ends} {F : En3} (h : Rl am ρ n σ H) (en : EnR am D F) : EnR (loopAm am ρ σ H) D F where
  nx ρ' n' σ' H' q r := en.nx ρ' n' σ' H' q (loop_out h r)
  bk ρ' n' σ' H' q r := en.bk ρ' n' σ' H' q (loop_out h r)
  ct ρ' n' σ' H' q r := en.ct ρ' n' σ' H' q (loop_out h r)
  rt fr u n' v H' q g w r := en.rt fr u n' v H' q (loop_gr h g) w ⟨r.1, fun z => by
    obtain ⟨p, vs, ds, a1, a2, a3, a4, a5⟩ := r.2 z
    exact ⟨p, vs, ds, a1, a2, loop_new h a3, a4, a5⟩⟩
theorem loop_le {am : Am} {ρ ρ2 : Ro} {n n2 : Nat} {σ σ2 : L2.St} {H H2 : Hp} (h : Rl am ρ n σ H) (g : Rl (loopAm am ρ σ H) ρ2 n2 σ2 H2) : Le (cut (Hid am ρ σ) H) (cut (Hid am ρ σ) H2) ∧ ∀ a, Hid am ρ σ a → There H2 a := by
  refine ⟨Le.cut (fun a z => .inl z) fun a o hn t e => g.gr.1 a o (fun z => ?_) t e, fun a z => g.gr.2 a (h.hidThere z)⟩
  rcases z with ⟨d, g', c, q, z⟩ | ⟨i, z⟩
  · obtain ⟨a1, a2, _, _⟩ := h.wd.dr d g' c q
    rcases z with z | z
    · exact hn (.inl (z ▸ a1))
    · exact hn (.inl (z ▸ a2))
  · exact hn (.inr ⟨i, z⟩)
instance {wi : TI} {g : TG} {tb : TS} {S is : List Nat} {tup : Bool} {mi : TI3} {mb : TS3} [hi : LI K C TL E wi S mi] [hg : LG K g is tup] [hb : LS K C TL E tb mb] : LS K C TL E (tFor wi g tb) (mFor S is tup mi mb) where
  s am ρ n σ H D F hE h en hm := by
    obtain ⟨rfl, rfl, rfl, rfl⟩ := id hE
    refine hi.s am ρ n σ H hE h _ _ hm fun ds n1 J H1 hq f1 w1 it => ?_
    have h1 := (h.step f1 w1).dem S
    have hE' : (loopAm am (dem S ρ) σ H1).K = am.K ∧ (loopAm am (dem S ρ) σ H1).TL = am.TL ∧ (loopAm am (dem S ρ) σ H1).E = am.E ∧ (loopAm am (dem S ρ) σ H1).C = am.C := ⟨rfl, rfl, rfl, rfl⟩
    refine ⟨fun i m σ2 H2 => m = ds.length - i ∧ i ≤ ds.length ∧ ∃ ρ2 n2, forL is tup mb F am.e (ds.drop i) ρ2 n2 ∧ Rl (loopAm am (dem S ρ) σ H1) ρ2 n2 σ2 H2, ⟨ds.length, by simp, Nat.zero_le _, dem S ρ, n1, hq, loop_in h1⟩, fun i m σ2 H2 w => ?_⟩
    obtain ⟨rfl, hi', ρ2, n2, hf, r2⟩ := w
    have nd : ∀ a, Hid (loopAm am (dem S ρ) σ H1) ρ2 σ2 a → (Hid am (dem S ρ) σ a ∨ New H1 a) := fun a z => by
      rcases z with z | ⟨j, z⟩
      · exact .inl (.inl z)
      · rcases (r2.ownL z).1 with y | ⟨d, g', c, q, y⟩ | y
        · exact .inr y
        · obtain ⟨a1, a2, _, _⟩ := h1.wd.dr d g' c q
          rcases y with y | y
          · exact .inl (.inl (y ▸ a1))
          · exact .inl (.inl (y ▸ a2))
        · exact .inl (.inr y)
    have le : Le (cut (Hid am (dem S ρ) σ) H1) (cut (Hid (loopAm am (dem S ρ) σ H1) ρ2 σ2) H2) := Le.cut nd fun a o hn t e => (cut_some.mp ((loop_le h1 r2).1 a o t (cut_some.mpr ⟨hn, e⟩))).2
    obtain ⟨it1, it2⟩ := it H2 _ le (fun a z => r2.hidThere z) i
    by_cases hlt : i < ds.length
    · have e : ds[i]? = some ds[i] := List.getElem?_eq_getElem hlt
      obtain ⟨go, y⟩ := it1 _ e
      refine .inr ⟨go, fun σ' H' => ∃ ρ' n', forL is tup mb F am.e (ds.drop (i + 1)) ρ' n' ∧ Rl (loopAm am (dem S ρ) σ H1) ρ' n' σ' H', fun σ' H' p => ⟨ds.length - (i + 1), by omega, rfl, hlt, p⟩, fun x H3 yl => ?_⟩
      obtain ⟨sm, rx⟩ := y x H3 yl
      rw [List.drop_eq_getElem_cons hlt] at hf
      have r3 := r2.step (FrR.of sm) (r2.wd.same sm)
      have r3' := r3
      refine giv_ok (am := loopAm am (dem S ρ) σ H1) hg r3 (O := Hid (loopAm am (dem S ρ) σ H1) ρ2 σ2) (fun a z => z) rx hf fun ρ4 σ4 hk r4 => ?_
      refine hb.s (loopAm am (dem S ρ) σ H1) ρ4 n2 σ4 H3 _ { F with nx := forL is tup mb F am.e (ds.drop (i + 1)), ct := forL is tup mb F am.e (ds.drop (i + 1)), bk := F.nx } hE' r4 ⟨fun ρ' n' σ' H' q r => ⟨ρ', n', q, r⟩, fun ρ' n' σ' H' q r => en.nx ρ' n' σ' H' q (loop_out h1 r), fun ρ' n' σ' H' q r => ⟨ρ', n', q, r⟩, (loop_en h1 en).rt⟩ hk
    · have e : i = ds.length := by omega
      subst e
      rw [List.drop_length] at hf
      exact .inl ⟨it2 (Nat.le_refl _), en.nx ρ2 n2 σ2 H2 hf (loop_out h1 r2)⟩
/-! ### comprehensions -/
@[simp] def lcL (is : List Nat) (tup : Bool) (mt : TT3) (me : TE3) (ρ : Ro) (e : Addr → Prop) : List D → Nat → (List D → Nat → Prop) → Prop
  | [], n, q => q [] n
  | d :: ds, n, q => giv is tup d ρ fun ρ' => mt ρ' n (fun b n1 => if b = true then me ρ' n1 (fun _ u n2 => match u with
    | .d x => lcL is tup mt me ρ e ds n2 fun xs n3 => q (x :: xs) n3
    | _ => False) e else lcL is tup mt me ρ e ds n1 q) e
@[simp] def wipe3 (ρ : Ro) : List Nat → Ro
  | [] => ρ
  | v :: vs => (wipe3 ρ vs).set v .no
theorem wipe_ok {am : Am} {ρ : Ro} {n : Nat} {σ : L2.St} {H : Hp} (h : Rl am ρ n σ H) : ∀ vs : List Nat, Rl am (wipe3 ρ vs) n (wipe σ vs) H
  | [] => h
  | v :: vs => (wipe_ok h vs).setNo v none
theorem wipe_hid {am : Am} {ρ : Ro} {σ : L2.St} {a : Addr} : ∀ {vs : List Nat}, Hid am (wipe3 ρ vs) (wipe σ vs) a → Hid am ρ σ a
  | [], h => h
  | v :: vs, h => wipe_hid (vs := vs) (hid_set (fun ds z => by cases z) h)
theorem wipe_set {σ : L2.St} {i : Nat} {x : Option V} : ∀ {vs : List Nat}, i ∈ vs → wipe (σ.set i x) vs = wipe σ vs
  | [], h => by cases h
  | v :: vs, h => by
    show (wipe (σ.set i x) vs).set v none = (wipe σ vs).set v none
    by_cases e : i = v
    · subst e
      have q : ∀ ws : List Nat, (wipe (σ.set i x) ws).set i none = (wipe σ ws).set i none := fun ws => by
        induction ws with
        | nil =>
          show (σ.set i x).set i none = σ.set i none
          rw [List.set_set]
        | cons w ws ih =>
          show ((wipe (σ.set i x) ws).set w none).set i none = ((wipe σ ws).set w none).set i none
          by_cases z : w = i
          · subst z
            rw [List.set_set, List.set_set, ih]
          · rw [List.set_comm _ _ z, List.set_comm _ _ z, ih]
      exact q vs
    · rcases List.mem_cons.mp h with z | z
      · exact absurd z e
      · rw [wipe_set z]
theorem wipe_fold {vs is : List Nat} (hs : ∀ i ∈ is, i ∈ vs) : ∀ {xs : List V} {σ : L2.St}, wipe ((is.zip xs).foldl (fun σ p => σ.set p.1 (some p.2)) σ) vs = wipe σ vs := by
  induction is with
  | nil =>
    intro xs σ
    rfl
  | cons i is ih =>
    intro xs σ
    cases xs with
    | nil => rfl
    | cons x xs =>
      show wipe ((is.zip xs).foldl _ (σ.set i (some x))) vs = _
      rw [ih fun j hj => hs j (List.mem_cons_of_mem _ hj), wipe_set (hs i (List.mem_cons_self ..))]
theorem wipe_idem (σ : L2.St) (vs : List Nat) : wipe (wipe σ vs) vs = wipe σ vs := by
  have q : ∀ ws : List Nat, (∀ w ∈ ws, w ∈ vs) → wipe (wipe σ ws) vs = wipe σ vs := fun ws => by
    induction ws with
    | nil => intro _; rfl
    | cons w ws ih =>
      intro h
      show wipe ((wipe σ ws).set w none) vs = _
      rw [wipe_set (h w (List.mem_cons_self ..)), ih fun z hz => h z (List.mem_cons_of_mem _ hz)]
  exact q vs fun _ z => z
/-- as giv_ok, with what the frame is behind it -/
theorem giv_ok2 {am : Am} {ρ : Ro} {n : Nat} {σ : L2.St} {H : Hp} {g : TG} {is : List Nat} {tup : Bool} (hg : LG am.K g is tup) (h : Rl am ρ n σ H) {O : Addr → Prop} (hO : ∀ a, Hid am ρ σ a → O a) {d : D} {v : V} (r : Rp am.K (cut O H) v d) {k : Ro → Prop} (hk : giv is tup d ρ k) {Q : L2.St → Hp → Prop} {vs : List Nat} (hv : ∀ i ∈ is, i ∈ vs) (fin : ∀ ρ' σ', k ρ' → Rl am ρ' n σ' H → (∀ i, i ∉ vs → ρ'[i]? = ρ[i]?) → wipe σ' vs = wipe σ vs → Q σ' H) : g v σ H Q := by
  cases tup with
  | false =>
    obtain ⟨i, rfl, rfl⟩ := hg.one rfl
    exact fin _ _ hk (h.setFz i (u := .d d) (Rp.le (Le.cutSub hO) _ _ r)) (fun j hj => List.getElem?_set_ne fun z => hj (by rw [← z]; exact hv i (List.mem_singleton.mpr rfl))) (wipe_set (hv i (List.mem_singleton.mpr rfl)))
  | true =>
    match d, hk with
    | .tuple ds, hk =>
      obtain ⟨hl, hk⟩ := if_pos' hk
      cases r with
      | tup a1 a2 =>
        refine hg.many rfl _ σ H Q _ _ rfl (SqT.le Le.cutAll a1) (by rw [RpAll.len a2, hl]) (fin _ _ hk (setAll_ok hO h a2 hl) ?_ (wipe_fold hv))
        have q : ∀ (is : List Nat) (ds : List D) (ρ : Ro), (∀ i ∈ is, i ∈ vs) → ∀ j, j ∉ vs → (setAll is ds ρ)[j]? = ρ[j]? := fun is => by
          induction is with
          | nil =>
            intro ds ρ _ j _
            cases ds <;> rfl
          | cons i is ih =>
            intro ds ρ hs j hj
            cases ds with
            | nil => rfl
            | cons d ds =>
              show (setAll is ds (ρ.set i (.fz (.d d))))[j]? = _
              rw [ih ds _ (fun k hk => hs k (List.mem_cons_of_mem _ hk)) j hj]
              exact List.getElem?_set_ne fun z => hj (by rw [← z]; exact hs i (List.mem_cons_self ..))
        exact q is ds ρ hv
theorem wipe_get {σ : L2.St} : ∀ {vs : List Nat} {i : Nat}, i ∉ vs → (wipe σ vs)[i]? = σ[i]?
  | [], _, _ => rfl
  | v :: vs, i, h => by
    show ((wipe σ vs).set v none)[i]? = _
    rw [List.getElem?_set_ne fun z => h (by rw [z]; exact List.mem_cons_self ..), wipe_get fun z => h (List.mem_cons_of_mem _ z)]
theorem wipe3_get {ρ : Ro} : ∀ {vs : List Nat} {i : Nat}, i ∉ vs → (wipe3 ρ vs)[i]? = ρ[i]?
  | [], _, _ => rfl
  | v :: vs, i, h => by
    show ((wipe3 ρ vs).set v .no)[i]? = _
    rw [List.getElem?_set_ne fun z => h (by rw [z]; exact List.mem_cons_self ..), wipe3_get fun z => h (List.mem_cons_of_mem _ z)]
/-- within a comprehension: its list is hidden, nothing is raised -/
def lcAm (am : Am) (Dl : Addr) : Am := { am with R := { am.R with hid := fun a => am.R.hid a ∨ a = Dl }, Hs := fun _ => none, O0 := fun a => ∃ d g c, am.R.dr = some (d, g, c) ∧ (a = d ∨ a = g), e := fun _ => False }
theorem lc_fr {am : Am} {Dl : Addr} {H H' : Hp} : FrR (lcAm am Dl).R H H' ↔ FrR am.R H H' := Iff.rfl
theorem lc_rep {am : Am} {Dl : Addr} {O : Addr → Prop} {H : Hp} {v : V} {u : U} : RepU (lcAm am Dl) O H v u ↔ RepU am O H v u := by
  cases u <;> exact Iff.rfl
theorem lc_hid {am : Am} {Dl : Addr} {ρ : Ro} {σ : L2.St} {a : Addr} : Hid (lcAm am Dl) ρ σ a ↔ (a = Dl ∨ Hid am ρ σ a) := by
  constructor
  · intro z
    rcases z with (z | z) | z
    · exact .inr (.inl z)
    · exact .inl z
    · exact .inr (.inr z)
  · intro z
    rcases z with z | z | z
    · exact .inl (.inr z)
    · exact .inl (.inl z)
    · exact .inr z
theorem lc_in {am : Am} {ρ : Ro} {n : Nat} {σ : L2.St} {H : Hp} (h : Rl am ρ n σ H) {Dl : Addr} (hD : H Dl = none) : Rl (lcAm am Dl) ρ n σ (upd H Dl (.lst [])) := by
  have L : Le (cut (Hid am ρ σ) H) (cut (Hid (lcAm am Dl) ρ σ) (upd H Dl (.lst []))) := Le.cut (fun a z => by
    rcases lc_hid.mp z with z | z
    · exact .inr (z ▸ .of hD)
    · exact .inl z) fun a o _ _ e => same_new hD a o e
  have w := h.wd.same (same_new (o := .lst []) hD)
  exact {
    len := h.len
    fz := fun i u e => by
      obtain ⟨v, q1, q2⟩ := h.fz i u e
      exact ⟨v, q1, lc_rep.mpr (q2.le L)⟩
    ow := fun i ds e => by
      obtain ⟨p, vs, q1, q2, q3, q4⟩ := h.ow i ds e
      refine ⟨p, vs, q1, ⟨.inl fun ⟨o, z, _⟩ => (by cases z), fun z => ?_⟩, same_new hD _ _ q3, RpAll.le L _ _ q4⟩
      rcases z with z | z
      · exact q2.2 z
      · rw [z, hD] at q3
        cases q3
    nd := h.nd
    od := fun d g c q => ⟨⟨d, g, c, q, .inl rfl⟩, ⟨d, g, c, q, .inr rfl⟩⟩
    gr := ⟨fun _ _ _ _ z => (by cases z), fun _ ⟨_, z, _⟩ => (by cases z)⟩
    wd := {
      hid := fun a z => by
        rcases z with z | z
        · exact w.hid a z
        · exact z ▸ .lst upd_same
      tabs := w.tabs
      dr := fun d g c q => by
        obtain ⟨a1, a2, a3, r⟩ := w.dr d g c q
        exact ⟨.inl a1, .inl a2, .inl a3, r⟩ }
    ex := fun _ _ _ _ _ z => z.elim }
/-- the comprehension's list is written -/
theorem lc_write {am : Am} {ρ : Ro} {n : Nat} {σ : L2.St} {H : Hp} {Dl : Addr} (hd : ∀ d g c, am.R.dr = some (d, g, c) → Dl ≠ d ∧ Dl ≠ g ∧ Dl ≠ c) (h : Rl (lcAm am Dl) ρ n σ H) {xs ys : List V} (e : H Dl = some (.lst xs)) : Rl (lcAm am Dl) ρ n σ (upd H Dl (.lst ys)) := by
  have L : Le (cut (Hid (lcAm am Dl) ρ σ) H) (cut (Hid (lcAm am Dl) ρ σ) (upd H Dl (.lst ys))) := Le.cut (fun a z => .inl z) fun a o hn t e => by
    have ne : a ≠ Dl := fun z => hn (lc_hid.mpr (.inl z))
    rw [upd_ne ne]
    exact e
  exact {
    len := h.len
    fz := fun i u e => by
      obtain ⟨v, q1, q2⟩ := h.fz i u e
      exact ⟨v, q1, q2.le L⟩
    ow := fun i ds e => by
      obtain ⟨p, vs, q1, q2, q3, q4⟩ := h.ow i ds e
      have ne : p ≠ Dl := fun z => q2.2 (.inr z)
      exact ⟨p, vs, q1, q2, by rw [upd_ne ne]; exact q3, RpAll.le L _ _ q4⟩
    nd := h.nd
    od := h.od
    gr := ⟨fun _ _ _ _ z => (by cases z), fun _ ⟨_, z, _⟩ => (by cases z)⟩
    wd := {
      hid := fun a z => by
        by_cases ne : a = Dl
        · exact ne ▸ .lst upd_same
        · obtain ⟨o, q1, q2⟩ := h.wd.hid a z
          exact ⟨o, by rw [upd_ne ne]; exact q1, q2⟩
      tabs := tabs_keep (fun b o h1 _ q => by
        have ne : b ≠ Dl := fun z => by
          rw [z, e] at q
          cases q
          exact h1 _ rfl
        rw [upd_ne ne]
        exact q) h.wd.tabs
      dr := fun d g c q => by
        obtain ⟨a1, a2, a3, t, ht, hr⟩ := h.wd.dr d g c q
        refine ⟨a1, a2, a3, t, ht, hr.same fun b o hb q' => ?_⟩
        have ne : b ≠ Dl := fun z => by
          obtain ⟨b1, b2, b3⟩ := hd d g c q
          rcases hb with y | y | y
          · exact b1 (z.symm.trans y)
          · exact b2 (z.symm.trans y)
          · exact b3 (z.symm.trans y)
        rw [upd_ne ne]
        exact q' }
    ex := fun _ _ _ _ _ z => z.elim }
class SubL (is vs : List Nat) : Prop where
  h : ∀ i ∈ is, i ∈ vs
instance {vs : List Nat} : SubL vs vs := ⟨fun _ z => z⟩
instance {a : Str} {i : Nat} : SubL [i] (List.map (fun (x : Str × Nat) => x.snd) [(a, i)]) := ⟨fun _ z => z⟩
instance {a b : Str} {i j : Nat} : SubL [i, j] (List.map (fun (x : Str × Nat) => x.snd) [(a, i), (b, j)]) := ⟨fun _ z => z⟩
instance {a b c : Str} {i j k : Nat} : SubL [i, j, k] (List.map (fun (x : Str × Nat) => x.snd) [(a, i), (b, j), (c, k)]) := ⟨fun _ z => z⟩
instance {a b c d : Str} {i j k l : Nat} : SubL [i, j, k, l] (List.map (fun (x : Str × Nat) => x.snd) [(a, i), (b, j), (c, k), (d, l)]) := ⟨fun _ z => z⟩
@[simp ↓] def mLc (Si is vs : List Nat) (tup : Bool) (mi : TI3) (mt : TT3) (me : TE3) : TE3 := fun ρ n q e => mi ρ n (fun ds n1 => ds.length < sizeLine ∧ lcL is tup mt me (wipe3 (dem Si ρ) vs) (fun _ => False) ds n1 (fun xs n2 => q true (.d (.list xs)) n2)) e
instance {wi : TI} {g : TG} {tt : TT} {te : TE} {vs : List Nat} {Si Se is : List Nat} {tup : Bool} {mi : TI3} {mt : TT3} {me : TE3} [hi : LI K C TL E wi Si mi] [hg : LG K g is tup] [hsub : SubL is vs] [ht : LT K C TL E tt mt] [he : LE K C TL E te Se me] : LE K C TL E (tLc wi g tt te vs) (Si ++ (Se ++ vs)) (mLc Si is vs tup mi mt me) where
  s am ρ n σ H hE h Q q hm k := by
    obtain ⟨rfl, rfl, rfl, rfl⟩ := id hE
    refine hi.s am ρ n σ H hE h _ _ hm fun ds n1 J H1 hq f1 w1 it => ?_
    obtain ⟨hz, hq⟩ := hq
    have h1 := h.step f1 w1
    have h1d := h1.dem Si
    intro Dl hD
    have hE' : (lcAm am Dl).K = am.K ∧ (lcAm am Dl).TL = am.TL ∧ (lcAm am Dl).E = am.E ∧ (lcAm am Dl).C = am.C := ⟨rfl, rfl, rfl, rfl⟩
    have hd : ∀ d g c, am.R.dr = some (d, g, c) → Dl ≠ d ∧ Dl ≠ g ∧ Dl ≠ c := fun d g' c q' => by
      obtain ⟨a1, a2, a3, _⟩ := w1.dr d g' c q'
      have nh : ∀ a, am.R.hid a → Dl ≠ a := fun a ha z => (New.of hD) (z ▸ w1.hid a ha)
      exact ⟨nh d a1, nh g' a2, nh c a3⟩
    have nd : New H1 Dl := .of hD
    have h0 := wipe_ok (lc_in h1d hD) vs
    have fD : FrR am.R H1 (upd H1 Dl (.lst [])) := .of (same_new hD)
    -- what is hidden from the items made
    have sub : ∀ (ρ' : Ro) (σ' : L2.St), (∀ i, i ∉ vs → ρ'[i]? = (wipe3 (dem Si ρ) vs)[i]?) → (∀ i, i ∉ vs → σ'[i]? = σ[i]?) → ∀ a, (a = Dl ∨ Hid am (dem (Si ++ (Se ++ vs)) ρ) σ a) → Hid (lcAm am Dl) (dem Se ρ') σ' a := fun ρ' σ' e1 e2 a z => by
      rcases z with z | z | ⟨i, z⟩
      · exact lc_hid.mpr (.inl z)
      · exact lc_hid.mpr (.inr (.inl z))
      · obtain ⟨⟨⟨es, y1⟩, y2⟩, ni⟩ := ownDem z
        have n1 : i ∉ Si := fun y => ni (List.mem_append_left _ y)
        have n2 : i ∉ Se := fun y => ni (List.mem_append_right _ (List.mem_append_left _ y))
        have n3 : i ∉ vs := fun y => ni (List.mem_append_right _ (List.mem_append_right _ y))
        refine .inr ⟨i, ⟨es, ?_⟩, by rw [e2 i n3]; exact y2⟩
        rw [dem_get, e1 i n3, wipe3_get n3, dem_get, y1]
        show some (if i ∈ Se then _ else (if i ∈ Si then _ else _)) = _
        rw [if_neg n2, if_neg n1]
    refine ⟨fun i m H2 => m = ds.length - i ∧ i ≤ ds.length ∧ ∃ n2 acc xs, H2 Dl = some (.lst acc) ∧ acc.length ≤ i ∧ RpAll am.K (cut (fun a => a = Dl ∨ Hid am (dem (Si ++ (Se ++ vs)) ρ) σ a) H2) acc xs ∧ FrR am.R H1 H2 ∧ Rl (lcAm am Dl) (wipe3 (dem Si ρ) vs) n2 (wipe σ vs) H2 ∧
      lcL is tup mt me (wipe3 (dem Si ρ) vs) (fun _ => False) (ds.drop i) n2 (fun ys n3 => q true (.d (.list (xs ++ ys))) n3), ⟨ds.length, by simp, Nat.zero_le _, n1, [], [], upd_same, Nat.le_refl _, .nil, fD, h0, hq⟩, fun i m H2 w => ?_⟩
    obtain ⟨rfl, hi', n2, acc, xs, eD, la, ra, fr, r2, hf⟩ := w
    have leO : Le (cut (Hid am (dem Si ρ) σ) H1) (cut (Hid (lcAm am Dl) (wipe3 (dem Si ρ) vs) (wipe σ vs)) H2) := Le.cut (fun a z => by
      rcases lc_hid.mp (wipe_hid z) with z | z
      · exact .inr (z ▸ nd)
      · exact .inl z) fun a o hn t e => fr.1 a o (fun d g' c q' => by
        obtain ⟨a1, a2, _, _⟩ := w1.dr d g' c q'
        exact ⟨fun z => hn (.inl (z ▸ a1)), fun z => hn (.inl (z ▸ a2))⟩) t e
    obtain ⟨it1, it2⟩ := it H2 _ leO (fun a z => r2.hidThere z) i
    by_cases hlt : i < ds.length
    · have e : ds[i]? = some ds[i] := List.getElem?_eq_getElem hlt
      obtain ⟨go, y⟩ := it1 _ e
      rw [List.drop_eq_getElem_cons hlt] at hf
      refine .inr ⟨go, fun H' => i + 1 ≤ ds.length ∧ ∃ n2 acc xs, H' Dl = some (.lst acc) ∧ acc.length ≤ i + 1 ∧ RpAll am.K (cut (fun a => a = Dl ∨ Hid am (dem (Si ++ (Se ++ vs)) ρ) σ a) H') acc xs ∧ FrR am.R H1 H' ∧ Rl (lcAm am Dl) (wipe3 (dem Si ρ) vs) n2 (wipe σ vs) H' ∧
        lcL is tup mt me (wipe3 (dem Si ρ) vs) (fun _ => False) (ds.drop (i + 1)) n2 (fun ys n3 => q true (.d (.list (xs ++ ys))) n3), fun H' p => ⟨ds.length - (i + 1), by omega, rfl, p⟩, fun x H3 yl => ?_⟩
      obtain ⟨sm, rx⟩ := y x H3 yl
      have r3 := r2.step (FrR.of sm) (r2.wd.same sm)
      refine giv_ok2 (am := lcAm am Dl) hg r3 (O := Hid (lcAm am Dl) (wipe3 (dem Si ρ) vs) (wipe σ vs)) (fun a z => z) rx hf hsub.h fun ρ4 σ4 hk r4 eρ eσ => ⟨eσ.trans (wipe_idem σ vs) |>.trans rfl, ?_⟩
      have eσ2 : ∀ i, i ∉ vs → σ4[i]? = σ[i]? := fun i hi => by
        have z1 := wipe_get (σ := σ4) hi
        have z2 := wipe_get (σ := wipe σ vs) hi
        have z3 := wipe_get (σ := σ) hi
        rw [← z1, eσ, z2, z3]
      have keepAcc : ∀ {Ha Hb : Hp}, FrR am.R Ha Hb → RpAll am.K (cut (fun a => a = Dl ∨ Hid am (dem (Si ++ (Se ++ vs)) ρ) σ a) Ha) acc xs → RpAll am.K (cut (fun a => a = Dl ∨ Hid am (dem (Si ++ (Se ++ vs)) ρ) σ a) Hb) acc xs := fun f r => RpAll.le (Le.cut (fun a z => .inl z) fun a o hn t e => f.1 a o (fun d g' c q' => by
        obtain ⟨a1, a2, _, _⟩ := w1.dr d g' c q'
        exact ⟨fun z => hn (.inr (.inl (z ▸ a1))), fun z => hn (.inr (.inl (z ▸ a2)))⟩) t e) _ _ r
      have keepD : ∀ {Ha Hb : Hp}, FrR am.R Ha Hb → Ha Dl = some (.lst acc) → Hb Dl = some (.lst acc) := fun f e => f.1 Dl _ (fun d g' c q' => ⟨(hd d g' c q').1, (hd d g' c q').2.1⟩) (fun ps z => by cases z) e
      refine ht.s (lcAm am Dl) ρ4 n2 σ4 H3 hE' r4 _ _ hk fun b n4 H4 hq4 f4 w4 => ?_
      have r5 := r3.step f4 w4
      have f04 := (fr.trans (.of sm)).trans f4
      cases b with
      | false => exact ⟨hlt, n4, acc, xs, keepD f4 (sm _ _ eD), by omega, keepAcc f4 (keepAcc (.of sm) ra), f04, r5, hq4⟩
      | true =>
        have r4' := r4.step f4 w4
        refine he.s (lcAm am Dl) ρ4 n4 σ4 H4 hE' r4' _ _ hq4 fun fr5 u n5 v H5 hq5 f5 w5 r6 => ?_
        match u, hq5, r6.1 with
        | .d z, hq5, rz =>
          have eD5 := keepD f5 (keepD f4 (sm _ _ eD))
          have rz2 : Rp am.K (cut (fun a => a = Dl ∨ Hid am (dem (Si ++ (Se ++ vs)) ρ) σ a) H5) v z := Rp.le (Le.cutSub (sub ρ4 σ4 eρ eσ2)) _ _ rz
          refine ⟨acc, eD5, by omega, hlt, n5, acc ++ [v], xs ++ [z], upd_same, by rw [List.length_append, List.length_singleton]; omega, ?_, ?_, lc_write hd (r5.step f5 w5) eD5, ?_⟩
          · refine RpAll.le (Le.cut (fun a z => .inl z) fun a o hn t e => ?_) _ _ (RpAll.app (keepAcc f5 (keepAcc f4 (keepAcc (.of sm) ra))) (.one rz2))
            rw [upd_ne fun z => hn (.inl z)]
            exact e
          · have f05 := f04.trans f5
            refine ⟨fun b o h1 h2 e => ?_, fun b z => ?_⟩
            · have ne : b ≠ Dl := fun z => by
                rw [z, hD] at e
                cases e
              rw [upd_ne ne]
              exact f05.1 b o h1 h2 e
            · by_cases ne : b = Dl
              · exact ne ▸ .lst upd_same
              · obtain ⟨o, q1, q2⟩ := f05.2 b z
                exact ⟨o, by rw [upd_ne ne]; exact q1, q2⟩
          · have ea : (fun (ys : List D) (n3 : Nat) => q true (.d (.list ((xs ++ [z]) ++ ys))) n3) = fun ys n3 => q true (.d (.list (xs ++ z :: ys))) n3 := by
              funext ys n3
              rw [List.append_assoc]
              rfl
            rw [ea]
            exact hq5
    · have e : i = ds.length := by omega
      subst e
      rw [List.drop_length] at hf
      refine .inl ⟨it2 (Nat.le_refl _), ?_⟩
      have hf2 : q true (.d (.list (xs ++ []))) n2 := hf
      rw [List.append_nil] at hf2
      have wE : Wd am.R am.TL H2 n2 := {
        hid := fun a z => r2.wd.hid a (.inl z)
        tabs := r2.wd.tabs
        dr := fun d g' c q' => by
          obtain ⟨_, _, _, r⟩ := r2.wd.dr d g' c q'
          obtain ⟨a1, a2, a3, _⟩ := w1.dr d g' c q'
          exact ⟨a1, a2, a3, r⟩ }
      refine k _ _ n2 _ H2 hf2 (f1.trans fr) wE ⟨Rp.lst (cut_some.mpr ⟨fun z => ?_, eD⟩) (RpAll.le (Le.cutSub fun a z => .inr z) _ _ ra), fun _ => ⟨Dl, acc, xs, rfl, rfl, new_back h f1 h1 nd, eD, ra⟩⟩
      exact (h1.dem _).new nd z
end
end V3
set_option Elab.async false
set_option linter.all false
set_option maxRecDepth 100000
set_option maxHeartbeats 4000000
namespace V3
open PySem PySem.Spec PyProof.Rows L2
abbrev VSp := List U → Nat → (U → Nat → Prop) → (Addr → Prop) → Prop
/-- a def's promise, of values -/
def toSp (K : PySem.W.Frag) (C : Addr) (TL : List (Addr × Str)) (fr : Bool) (sp : VSp) : Sp := fun vs H Q E => ∃ (am : Am) (us : List U) (n : Nat) (q : U → Nat → Prop) (e : Addr → Prop), am.K = K ∧ am.C = C ∧ am.TL = TL ∧ RepA am am.R.hid H vs us ∧ Wd am.R TL H n ∧ sp us n q e ∧
  (∀ u n' v H', q u n' → FrR am.R H H' → Wd am.R TL H' n' → RepV am am.R.hid H H' fr v u → Q v H') ∧ (∀ C' H' n', FrR am.R H H' → Wd am.R TL H' n' → e C' → E (.ref C') none H')
section
variable {K : PySem.W.Frag} {C : Addr} {TL : List (Addr × Str)} {E : XK}
theorem gr_step {am : Am} {ρ : Ro} {n : Nat} {σ : L2.St} {H H' : Hp} (h : Rl am ρ n σ H) (f : FrR am.R H H') : Gr am H' := ⟨fun b o h1 h2 e => f.1 b o (fun d g c q => by
    obtain ⟨a1, a2⟩ := h.od d g c q
    exact ⟨fun z => h1 (z ▸ a1), fun z => h1 (z ▸ a2)⟩) h2 (h.gr.1 b o h1 h2 e), fun b z => f.2 b (h.gr.2 b z)⟩
@[simp ↓] def mCall (fr : Bool) (sp : VSp) (ma : TA3) : TE3 := fun ρ n q e => ma ρ n (fun us n1 => sp us n1 (fun u n2 => q fr u n2) e) e
@[simp ↓] def mCall0 (fr : Bool) (sp : VSp) (ma : TA3) : TE3 := fun ρ n q e => ma ρ n (fun us n1 => sp us n1 (fun u n2 => q fr u n2) (fun _ => False)) e
theorem call_ok {am : Am} {ρ : Ro} {n : Nat} {σ : L2.St} {H H1 : Hp} {n1 : Nat} {S : List Nat} (h : Rl am ρ n σ H) (f1 : FrR am.R H H1) (w1 : Wd am.R am.TL H1 n1) {us : List U} {vs : List V} (r1 : RepA am (Hid am (dem S ρ) σ) H1 vs us) {fr : Bool} {sp : VSp} {q : Bool → U → Nat → Prop} {e : Addr → Prop} (hq : sp us n1 (fun u n2 => q fr u n2) e) {Q : VK} {E' : XK}
    (k : ∀ fr u n' v H', q fr u n' → FrR am.R H H' → Wd am.R am.TL H' n' → RepV am (Hid am (dem S ρ) σ) H H' fr v u → Q v H') (ke : ∀ C' H' n', FrR am.R H H' → Wd am.R am.TL H' n' → e C' → E' (.ref C') none H') : toSp am.K am.C am.TL fr sp (vs ++ []) H1 Q E' := by
  have h1 := h.step f1 w1
  rw [List.append_nil]
  have hw : ∀ {H' : Hp} {n' : Nat}, FrR am.R H1 H' → Wd am.R am.TL H' n' → Wd { am.R with hid := Hid am (dem S ρ) σ } am.TL H' n' := fun f w => {
    hid := fun a z => f.2 a ((h1.dem S).hidThere z)
    tabs := w.tabs
    dr := fun d g c q => by
      obtain ⟨a1, a2, a3, r⟩ := w.dr d g c q
      exact ⟨.inl a1, .inl a2, .inl a3, r⟩ }
  have hw2 : ∀ {H' : Hp} {n' : Nat}, Wd { am.R with hid := Hid am (dem S ρ) σ } am.TL H' n' → Wd am.R am.TL H' n' := fun w => {
    hid := fun a z => w.hid a (.inl z)
    tabs := w.tabs
    dr := fun d g c q => by
      obtain ⟨_, _, _, r⟩ := w.dr d g c q
      obtain ⟨a1, a2, a3, _⟩ := h.wd.dr d g c q
      exact ⟨a1, a2, a3, r⟩ }
  have rep : ∀ {O : Addr → Prop} {H' : Hp} {v : V} {u : U}, RepU am O H' v u ↔ RepU { am with R := { am.R with hid := Hid am (dem S ρ) σ } } O H' v u := fun {O H' v u} => by
    cases u <;> exact Iff.rfl
  have repA : ∀ {vs : List V} {us : List U} {O : Addr → Prop} {H' : Hp}, RepA am O H' vs us → RepA { am with R := { am.R with hid := Hid am (dem S ρ) σ } } O H' vs us := fun r => by
    induction r with
    | nil => exact .nil
    | cons r1 _ ih => exact .cons (rep.mp r1) ih
  refine ⟨{ am with R := { am.R with hid := Hid am (dem S ρ) σ } }, us, n1, _, e, rfl, rfl, rfl, repA r1, hw (FrR.refl _ _) w1, hq, fun u n' v H' hq' f' w' r' => ?_, fun C' H' n' f' w' z => ke C' H' n' (f1.trans f') (hw2 w') z⟩
  refine k fr u n' v H' hq' (f1.trans f') (hw2 w') ⟨rep.mpr r'.1, fun z => ?_⟩
  obtain ⟨p, vs, ds, a1, a2, a3, a4, a5⟩ := r'.2 z
  exact ⟨p, vs, ds, a1, a2, new_back h f1 h1 a3, a4, a5⟩
instance (priority := high) {ta : TA} {S : List Nat} {ma : TA3} {fr : Bool} {sp : VSp} [ha : LA K C TL E ta S ma] : LE K C TL E (tCall (toSp K C TL fr sp) [] E ta) S (mCall fr sp ma) where
  s am ρ n σ H hE h Q q hm k := by
    obtain ⟨rfl, rfl, rfl, rfl⟩ := id hE
    refine ha.s am ρ n σ H hE h _ _ hm fun us n1 vs H1 hq f1 w1 r1 => ?_
    exact call_ok h f1 w1 r1 hq k fun C' H' n' f w z => h.ex C' H' n' (gr_step h f) w z
instance {ta : TA} {S : List Nat} {ma : TA3} {fr : Bool} {sp : VSp} {E' : XK} [ha : LA K C TL E ta S ma] : LE K C TL E (tCall (toSp K C TL fr sp) [] E' ta) S (mCall0 fr sp ma) where
  s am ρ n σ H hE h Q q hm k := by
    obtain ⟨rfl, rfl, rfl, rfl⟩ := id hE
    refine ha.s am ρ n σ H hE h _ _ hm fun us n1 vs H1 hq f1 w1 r1 => ?_
    exact call_ok h f1 w1 r1 hq k fun C' H' n' f w z => z.elim
/-! ### raise -/
def tExc (t : L2.St → Hp → XK → Prop) (W : WX) : TS := fun _ σ H => t σ H fun cls d H' => W cls d σ H'
@[simp] def slotsOf : List U → Nat → Ro
  | [], 0 => []
  | [], k + 1 => .no :: slotsOf [] k
  | u :: us, 0 => .fz u :: slotsOf us 0
  | u :: us, k + 1 => .fz u :: slotsOf us k
theorem rep_len {am : Am} {O : Addr → Prop} {H : Hp} : ∀ {vs : List V} {us : List U}, RepA am O H vs us → vs.length = us.length
  | _, _, .nil => rfl
  | _, _, .cons _ t => by rw [List.length_cons, List.length_cons, rep_len t]
/-- the slots at the start: the arguments, then nothing -/
def ro0 (us : List U) (k : Nat) : Ro := us.map Sl.fz ++ List.replicate k .no
theorem start_rl {am : Am} {us : List U} {vs : List V} {n : Nat} {H : Hp} (r : RepA am am.R.hid H vs us) (w : Wd am.R am.TL H n) (k : Nat) (hHs : am.Hs = H) (hO : ∀ a, am.O0 a ↔ ∃ d g c, am.R.dr = some (d, g, c) ∧ (a = d ∨ a = g)) (ex : ∀ C' H' n', Gr am H' → Wd am.R am.TL H' n' → am.e C' → am.E (.ref C') none H') :
    Rl am (ro0 us k) n (vs.map some ++ List.replicate k none) H := by
  have no : ∀ {i : Nat} {ds : List D}, (ro0 us k)[i]? ≠ some (Sl.ow ds) := fun {i ds} z => by
    unfold ro0 at z
    rcases List.mem_append.mp (List.mem_of_getElem? z) with m | m
    · obtain ⟨u, _, e⟩ := List.mem_map.mp m
      cases e
    · cases (List.mem_replicate.mp m).2
  have hid : ∀ {a : Addr}, Hid am (ro0 us k) (vs.map some ++ List.replicate k none) a → am.R.hid a := fun z => by
    rcases z with z | ⟨i, ⟨ds, z⟩, _⟩
    · exact z
    · exact absurd z no
  exact {
    len := by
      unfold ro0
      rw [List.length_append, List.length_append, List.length_map, List.length_map, List.length_replicate, List.length_replicate, rep_len r]
    fz := fun i u e => by
      have hl := rep_len r
      unfold ro0 at e
      by_cases hi : i < us.length
      · rw [List.getElem?_append_left (by rw [List.length_map]; exact hi), List.getElem?_map] at e
        rw [List.getElem?_append_left (by rw [List.length_map, hl]; exact hi), List.getElem?_map]
        have q : ∀ {vs : List V} {us : List U} {i : Nat}, RepA am am.R.hid H vs us → (us[i]?).map Sl.fz = some (Sl.fz u) → ∃ v, (vs[i]?).map some = some (some v) ∧ RepU am am.R.hid H v u := fun {vs} {us} => by
          induction us generalizing vs with
          | nil =>
            intro i _ e
            simp at e
          | cons u0 us ih =>
            intro i r e
            cases r with
            | cons r1 r2 =>
              cases i with
              | zero =>
                simp at e
                subst e
                exact ⟨_, rfl, r1⟩
              | succ i =>
                obtain ⟨v, a1, a2⟩ := ih (i := i) r2 (by simpa using e)
                exact ⟨v, by simpa using a1, a2⟩
        obtain ⟨v, a1, a2⟩ := q r e
        exact ⟨v, a1, a2.le (Le.cutSub fun a => hid)⟩
      · rw [List.getElem?_append_right (by rw [List.length_map]; omega)] at e
        have m := List.mem_of_getElem? e
        cases (List.mem_replicate.mp m).2
    ow := fun i ds e => absurd e no
    nd := fun i j p a => by
      obtain ⟨⟨ds, e⟩, _⟩ := a
      exact absurd e no
    od := fun d g c q => ⟨(hO d).mpr ⟨d, g, c, q, .inl rfl⟩, (hO g).mpr ⟨d, g, c, q, .inr rfl⟩⟩
    gr := ⟨fun b o _ _ e => by rw [hHs] at e; exact e, fun b e => by rw [hHs] at e; exact e⟩
    wd := w
    ex := ex }
@[simp] def ends3 (fr : Bool) (q : U → Nat → Prop) : En3 := ⟨fun _ n' => if fr = true then False else q (.d .none) n', fun f u n' => if fr = true ∧ f = false then False else q u n', fun _ _ => False, fun _ _ => False⟩
theorem toSp_len {k : Nat} {fr : Bool} {sp : VSp} {vs : List V} {H : Hp} {Q : VK} (h : toSp K C TL fr sp vs H Q E) (hl : ∀ us n q e, sp us n q e → us.length = k) : vs.length = k := by
  obtain ⟨am, us, n, q, e, _, _, _, ra, _, hs, _⟩ := h
  rw [rep_len ra, hl us n q e hs]
/-- a def's body -/
theorem run3 {t : TS} {m : TS3} [ht : LS K C TL E t m] {N : List Str} {fr : Bool} {sp : VSp} {vs : List V} {H : Hp} {Q : VK} (hs : toSp K C TL fr sp vs H Q E)
    (pure : ∀ (us : List U) (n : Nat) (q : U → Nat → Prop) (e : Addr → Prop), sp us n q e → m (ends3 fr q) (ro0 us (N.length - us.length)) n e) :
    t { nx := fun _ H' => Q .non H', rt := Q } (L2.start N vs) H := by
  obtain ⟨am, us, n, q, e, rfl, rfl, rfl, ra, w, hsp, k, ke⟩ := hs
  have gq : ∀ {H' : Hp}, Gr { am with Hs := H, O0 := fun a => ∃ d g c, am.R.dr = some (d, g, c) ∧ (a = d ∨ a = g), E := E, e := e } H' → FrR am.R H H' := fun g => ⟨fun b o h1 h2 e' => g.1 b o (fun ⟨d, g', c, q', z⟩ => by
    obtain ⟨a1, a2⟩ := h1 d g' c q'
    rcases z with z | z
    · exact a1 z
    · exact a2 z) h2 e', g.2⟩
  have rep : ∀ {O : Addr → Prop} {H' : Hp} {v : V} {u : U}, RepU am O H' v u ↔ RepU { am with Hs := H, O0 := fun a => ∃ d g c, am.R.dr = some (d, g, c) ∧ (a = d ∨ a = g), E := E, e := e } O H' v u := fun {O H' v u} => by
    cases u <;> exact Iff.rfl
  have repA : ∀ {vs : List V} {us : List U} {O : Addr → Prop} {H' : Hp}, RepA am O H' vs us → RepA { am with Hs := H, O0 := fun a => ∃ d g c, am.R.dr = some (d, g, c) ∧ (a = d ∨ a = g), E := E, e := e } O H' vs us := fun r => by
    induction r with
    | nil => exact .nil
    | cons r1 _ ih => exact .cons (rep.mp r1) ih
  refine ht.s { am with Hs := H, O0 := fun a => ∃ d g c, am.R.dr = some (d, g, c) ∧ (a = d ∨ a = g), E := E, e := e } (ro0 us (N.length - vs.length)) n _ H _ (ends3 fr q) ⟨rfl, rfl, rfl, rfl⟩ (start_rl (repA ra) w _ rfl (fun _ => Iff.rfl) fun C' H' n' g w z => ke C' H' n' (gq g) w z) ⟨fun ρ' n' σ' H' hq r => ?_, fun _ _ _ _ z => False.elim z, fun _ _ _ _ z => False.elim z, fun f u n' v H' hq g w' r => ?_⟩ (by rw [rep_len ra]; exact pure us n q e hsp)
  · have hq : (if fr = true then False else q (.d .none) n') := hq
    by_cases hf : fr = true
    · rw [if_pos hf] at hq
      exact hq.elim
    · rw [if_neg hf] at hq
      refine k _ n' _ H' hq (gq r.gr) r.wd ⟨Rp.non, fun z => absurd z hf⟩
  · have hq : (if fr = true ∧ f = false then False else q u n') := hq
    by_cases hf : fr = true ∧ f = false
    · rw [if_pos hf] at hq
      exact hq.elim
    · rw [if_neg hf] at hq
      refine k u n' v H' hq (gq g) w' ⟨rep.mpr r.1, fun z => ?_⟩
      have ft : f = true := by
        cases f with
        | true => rfl
        | false => exact absurd ⟨z, rfl⟩ hf
      obtain ⟨p, vs', ds, a1, a2, a3, a4, a5⟩ := r.2 ft
      refine ⟨p, vs', ds, a1, a2, ?_, a4, a5⟩
      rcases a3.1 with y | ⟨d, g', c, q', y⟩
      · exact y
      · obtain ⟨b1, b2, _, _⟩ := w.dr d g' c q'
        exact absurd (by rcases y with y | y; exact y ▸ b1; exact y ▸ b2) a3.2
end
end V3
set_option Elab.async false
set_option linter.all false
set_option maxRecDepth 100000
set_option maxHeartbeats 4000000
namespace V3
open PySem PySem.Spec PyProof.Rows L2
section
variable {K : PySem.W.Frag} {C : Addr} {TL : List (Addr × Str)} {E : XK}
/-! ### raise -/
def tRz (E : XK) (C' : Addr) : TS := fun _ _ H => E (.ref C') none H
theorem ps_rz {X : Cx} {st : Stmt} {C' : Addr} {E : XK} (h : PS X st (fun _ σ H => (fun (_ : L2.St) (H : Hp) (Q : XK) => Q (.ref C') none H) σ H fun cls d H' => (fun (cls : Value) (d : Option Addr) (_ : L2.St) (H : Hp) => E cls d H) cls d σ H')) : PS X st (tRz E C') := h
@[simp ↓] def mRz (C' : Addr) : TS3 := fun _ _ _ e => e C'
instance {C' : Addr} : LS K C TL E (tRz E C') (mRz C') where
  s am ρ n σ H D F hE h en hm := by
    obtain ⟨rfl, rfl, rfl, rfl⟩ := id hE
    exact h.ex C' H _ h.gr h.wd hm
/-! ### types -/
@[simp] def pyTy : D → String
  | .none => "NoneType"
  | .bool _ => "bool"
  | .int _ => "int"
  | .str _ => "str"
  | .list _ => "list"
  | .tuple _ => "tuple"
  | .dict _ => "dict"
theorem ty_rep {am : Am} {O : Addr → Prop} {H : Hp} {v : V} {x : D} (r : RepU am O H v (.d x)) : TyX am.K H v (.type (pyTy x)) := by
  cases x with
  | none => cases r; exact .base .non
  | bool b => cases r; exact .base (.bl b)
  | int i => cases r; exact .base (.int i)
  | str z => cases r; exact .base (.str z)
  | list xs =>
    cases r with
    | lst a1 a2 => exact .base (.lst (cut_some.mp a1).2)
  | tuple xs =>
    cases r with
    | tup a1 a2 =>
      rcases SqT.le Le.cutAll a1 with (h | ⟨o, h⟩) | ⟨o, its, n, h, hc, _⟩
      · exact .base (.tup h)
      · exact .fTuple h
      · exact .kTuple h hc
  | dict xs =>
    cases r with
    | dnil a1 => exact .base (.dK (cut_some.mp a1).2)
/-- what isinstance(x, n) says -/
@[simp] def isTy (n : String) : D → Bool
  | .none => false
  | .bool _ => n == "bool" || n == "int"
  | .int _ => n == "int"
  | .str _ => n == "str"
  | .list _ => n == "list"
  | .tuple _ => n == "tuple"
  | .dict _ => n == "dict"
class Kn6 (n : String) : Prop where
  h : ∀ x : D, kitB (pyTy x) n = some (isTy n x)
instance : Kn6 "int" := ⟨fun x => match x with
  | .none => (by decide +kernel : kitB "NoneType" "int" = some false)
  | .bool _ => (by decide +kernel : kitB "bool" "int" = some ("int" == "bool" || "int" == "int"))
  | .int _ => (by decide +kernel : kitB "int" "int" = some ("int" == "int"))
  | .str _ => (by decide +kernel : kitB "str" "int" = some ("int" == "str"))
  | .list _ => (by decide +kernel : kitB "list" "int" = some ("int" == "list"))
  | .tuple _ => (by decide +kernel : kitB "tuple" "int" = some ("int" == "tuple"))
  | .dict _ => (by decide +kernel : kitB "dict" "int" = some ("int" == "dict"))⟩
instance : Kn6 "bool" := ⟨fun x => match x with
  | .none => (by decide +kernel : kitB "NoneType" "bool" = some false)
  | .bool _ => (by decide +kernel : kitB "bool" "bool" = some ("bool" == "bool" || "bool" == "int"))
  | .int _ => (by decide +kernel : kitB "int" "bool" = some ("bool" == "int"))
  | .str _ => (by decide +kernel : kitB "str" "bool" = some ("bool" == "str"))
  | .list _ => (by decide +kernel : kitB "list" "bool" = some ("bool" == "list"))
  | .tuple _ => (by decide +kernel : kitB "tuple" "bool" = some ("bool" == "tuple"))
  | .dict _ => (by decide +kernel : kitB "dict" "bool" = some ("bool" == "dict"))⟩
instance : Kn6 "str" := ⟨fun x => match x with
  | .none => (by decide +kernel : kitB "NoneType" "str" = some false)
  | .bool _ => (by decide +kernel : kitB "bool" "str" = some ("str" == "bool" || "str" == "int"))
  | .int _ => (by decide +kernel : kitB "int" "str" = some ("str" == "int"))
  | .str _ => (by decide +kernel : kitB "str" "str" = some ("str" == "str"))
  | .list _ => (by decide +kernel : kitB "list" "str" = some ("str" == "list"))
  | .tuple _ => (by decide +kernel : kitB "tuple" "str" = some ("str" == "tuple"))
  | .dict _ => (by decide +kernel : kitB "dict" "str" = some ("str" == "dict"))⟩
instance : Kn6 "list" := ⟨fun x => match x with
  | .none => (by decide +kernel : kitB "NoneType" "list" = some false)
  | .bool _ => (by decide +kernel : kitB "bool" "list" = some ("list" == "bool" || "list" == "int"))
  | .int _ => (by decide +kernel : kitB "int" "list" = some ("list" == "int"))
  | .str _ => (by decide +kernel : kitB "str" "list" = some ("list" == "str"))
  | .list _ => (by decide +kernel : kitB "list" "list" = some ("list" == "list"))
  | .tuple _ => (by decide +kernel : kitB "tuple" "list" = some ("list" == "tuple"))
  | .dict _ => (by decide +kernel : kitB "dict" "list" = some ("list" == "dict"))⟩
instance : Kn6 "tuple" := ⟨fun x => match x with
  | .none => (by decide +kernel : kitB "NoneType" "tuple" = some false)
  | .bool _ => (by decide +kernel : kitB "bool" "tuple" = some ("tuple" == "bool" || "tuple" == "int"))
  | .int _ => (by decide +kernel : kitB "int" "tuple" = some ("tuple" == "int"))
  | .str _ => (by decide +kernel : kitB "str" "tuple" = some ("tuple" == "str"))
  | .list _ => (by decide +kernel : kitB "list" "tuple" = some ("tuple" == "list"))
  | .tuple _ => (by decide +kernel : kitB "tuple" "tuple" = some ("tuple" == "tuple"))
  | .dict _ => (by decide +kernel : kitB "dict" "tuple" = some ("tuple" == "dict"))⟩
instance : Kn6 "dict" := ⟨fun x => match x with
  | .none => (by decide +kernel : kitB "NoneType" "dict" = some false)
  | .bool _ => (by decide +kernel : kitB "bool" "dict" = some ("dict" == "bool" || "dict" == "int"))
  | .int _ => (by decide +kernel : kitB "int" "dict" = some ("dict" == "int"))
  | .str _ => (by decide +kernel : kitB "str" "dict" = some ("dict" == "str"))
  | .list _ => (by decide +kernel : kitB "list" "dict" = some ("dict" == "list"))
  | .tuple _ => (by decide +kernel : kitB "tuple" "dict" = some ("dict" == "tuple"))
  | .dict _ => (by decide +kernel : kitB "dict" "dict" = some ("dict" == "dict"))⟩
def askD : U → (D → Prop) → Prop
  | .d x, k => k x
  | _, _ => False
@[simp] theorem askD_s (i : D) (k : D → Prop) : askD (.d i) k = k i := rfl
@[simp ↓] def mIsi (n : String) (me : TE3) : TE3 := fun ρ k q e => me ρ k (fun _ u n1 => askD u fun x => q false (.d (.bool (isTy n x))) n1) e
instance (priority := high) {te : TE} {S : List Nat} {me : TE3} {nm : String} [he : LE K C TL E te S me] [hk : Kn6 nm] : LE K C TL E (tCB (rIsi K) (tCons te (tCons (tC (.ty nm)) tNil))) [] (mIsi nm me) where
  s am ρ n σ H hE h Q q hm k := by
    obtain ⟨rfl, rfl, rfl, rfl⟩ := id hE
    refine he.s am ρ n σ H hE h _ _ hm fun fr u n1 v H1 hq f1 w1 r1 => ?_
    match u, hq, r1.1 with
    | .d x, hq, r => exact ⟨v, .ty nm, .type (pyTy x), .type nm, isTy nm x, rfl, .ty nm, ty_rep r, kit_ty (hk.h x), k _ _ n1 _ H1 hq f1 w1 (.old (Rp.bl _))⟩
@[simp ↓] def mIsW (me : TE3) : TE3 := fun ρ k q e => me ρ k (fun _ u n1 => match u with
  | .dw _ => q false (.d (.bool true)) n1
  | _ => False) e
instance (priority := high) {te : TE} {S : List Nat} {me : TE3} [he : LE K C TL E te S me] : LE K C TL E (tCB (rIsi K) (tCons te (tCons (tC (.ref C)) tNil))) [] (mIsW me) where
  s am ρ n σ H hE h Q q hm k := by
    obtain ⟨rfl, rfl, rfl, rfl⟩ := id hE
    refine he.s am ρ n σ H hE h _ _ hm fun fr u n1 v H1 hq f1 w1 r1 => ?_
    match u, hq, r1.1 with
    | .dw bs, hq, r =>
      obtain ⟨_, a, dx, t, rfl, h2, _⟩ := r
      exact ⟨.ref a, .ref am.C, .ref am.C, .ref am.C, true, rfl, .own am.C, am.insT H1 a dx _ (cut_some.mp h2).2, am.kD, k _ _ n1 _ H1 hq f1 w1 (.old (Rp.bl _))⟩
/-! isinstance(x, (a, b)) -/
@[simp ↓] def mIsi2 (n m : String) (me : TE3) : TE3 := fun ρ k q e => me ρ k (fun _ u n1 => askD u fun x => q false (.d (.bool (isTy n x || isTy m x))) n1) e
instance (priority := high) {te : TE} {S : List Nat} {me : TE3} {nm mm : String} [he : LE K C TL E te S me] [hk : Kn6 nm] [hm2 : Kn6 mm] : LE K C TL E (tCB (rIsiT K) (tCons te (tCons (tTup (tCons (tC (.ty nm)) (tCons (tC (.ty mm)) tNil))) tNil))) [] (mIsi2 nm mm me) where
  s am ρ n σ H hE h Q q hm k := by
    obtain ⟨rfl, rfl, rfl, rfl⟩ := id hE
    refine he.s am ρ n σ H hE h _ _ hm fun fr u n1 v H1 hq f1 w1 r1 => ?_
    match u, hq, r1.1 with
    | .d x, hq, r =>
      have h1 := h.step f1 w1
      refine ⟨by show 2 ≤ sizeLine; decide, fun p hp => ?_⟩
      obtain ⟨f2, w2⟩ := fresh_step h1 hp (.tup [.ty nm, .ty mm])
      refine ⟨v, p, _, .type (pyTy x), [.type nm, .type mm], (isTy nm x || isTy mm x), rfl, upd_same, .cons (.ty nm) (.cons (.ty mm) .nil), ty_rep (r.le (cut_grow hp _)), ?_, k _ _ n1 _ _ hq (f1.trans f2) w2 (.old (Rp.bl _))⟩
      exact kitAny_cons (kit_ty (hk.h x)) (fun z => by
        rw [z, Bool.false_or]
        exact kitAny_cons (kit_ty (hm2.h x)) (fun z => by
          rw [z]
          rfl) fun z => z) fun z => by
        rw [z]
        rfl
/-! ### len, list, tuple, abs, int, min, max, sum, any, all -/
def rLen3 (K : PySem.W.Frag) : List V → Hp → VK → Prop := fun xs H Q => ∃ x n, xs = [x] ∧ LenV K x H n ∧ Q (.int n) H
theorem call_len3 {X : Cx} : CallR X (.builtin "len") (rLen3 X.K) := call_len
@[simp ↓] def mLen : List U → (Bool → D → Prop) → Prop
  | [.d (.list xs)], q => q false (.int (xs.length : Nat))
  | [.d (.tuple xs)], q => q false (.int (xs.length : Nat))
  | _, _ => False
instance : LC K (rLen3 K) mLen where
  s am O H xs us hK hO ra Q q hm k := by
    subst hK
    match us, hm, ra with
    | [.d (.list ds)], hm, .cons r .nil =>
      cases r with
      | lst a1 a2 => exact ⟨_, _, rfl, .inl ⟨_, SqL.of (cut_some.mp a1).2, rfl⟩, k _ _ _ H hm (Same.refl _) (.old (by rw [RpAll.len a2]; exact Rp.int _))⟩
    | [.d (.tuple ds)], hm, .cons r .nil =>
      cases r with
      | tup a1 a2 => exact ⟨_, _, rfl, .inr ⟨_, SqT.le Le.cutAll a1, rfl⟩, k _ _ _ H hm (Same.refl _) (.old (by rw [RpAll.len a2]; exact Rp.int _))⟩
def rList3 (K : PySem.W.Frag) : List V → Hp → VK → Prop := fun xs H Q => ∃ p ys, xs = [.ref p] ∧ (SqL K H p ys ∨ SqT K H p ys) ∧ ∀ l, H l = none → Q (.ref l) (upd H l (.lst ys))
theorem call_list3 {X : Cx} : CallR X (.type "list") (rList3 X.K) := call_list_of
@[simp ↓] def mList : List U → (Bool → D → Prop) → Prop
  | [.d (.list xs)], q => q true (.list xs)
  | [.d (.tuple xs)], q => q true (.list xs)
  | _, _ => False
instance : LC K (rList3 K) mList where
  s am O H xs us hK hO ra Q q hm k := by
    subst hK
    match us, hm, ra with
    | [.d (.list ds)], hm, .cons r .nil =>
      cases r with
      | lst a1 a2 => exact ⟨_, _, rfl, .inl (SqL.of (cut_some.mp a1).2), fun p hp => k _ _ _ _ hm (same_new hp) (new_list hO hp a2)⟩
    | [.d (.tuple ds)], hm, .cons r .nil =>
      cases r with
      | tup a1 a2 => exact ⟨_, _, rfl, .inr (SqT.le Le.cutAll a1), fun p hp => k _ _ _ _ hm (same_new hp) (new_list hO hp a2)⟩
def rTup3 (K : PySem.W.Frag) : List V → Hp → VK → Prop := fun xs H Q => ∃ p ys, xs = [.ref p] ∧ ((SqL K H p ys ∧ ∀ l, H l = none → Q (.ref l) (upd H l (.tup ys))) ∨ (SqT K H p ys ∧ Q (.ref p) H))
theorem call_tup3 {X : Cx} : CallR X (.type "tuple") (rTup3 X.K) := call_tuple_of
@[simp ↓] def mTuple : List U → (Bool → D → Prop) → Prop
  | [.d (.list xs)], q => q false (.tuple xs)
  | [.d (.tuple xs)], q => q false (.tuple xs)
  | _, _ => False
instance : LC K (rTup3 K) mTuple where
  s am O H xs us hK hO ra Q q hm k := by
    subst hK
    match us, hm, ra with
    | [.d (.list ds)], hm, .cons r .nil =>
      cases r with
      | lst a1 a2 => exact ⟨_, _, rfl, .inl ⟨SqL.of (cut_some.mp a1).2, fun p hp => k _ _ _ _ hm (same_new hp) (new_tup hO hp a2)⟩⟩
    | [.d (.tuple ds)], hm, .cons r .nil =>
      cases r with
      | tup a1 a2 => exact ⟨_, _, rfl, .inr ⟨SqT.le Le.cutAll a1, k _ _ _ H hm (Same.refl _) (.old (Rp.tup a1 a2))⟩⟩
def rAbs3 : List V → Hp → VK → Prop := fun xs H Q => ∃ i, xs = [.int i] ∧ Q (.int (if i < 0 then -i else i)) H
theorem call_abs3 {X : Cx} : CallR X (.builtin "abs") rAbs3 := call_abs
@[simp ↓] def mAbs : List U → (Bool → D → Prop) → Prop
  | [.d (.int i)], q => q false (.int (if i < 0 then -i else i))
  | _, _ => False
instance : LC K rAbs3 mAbs where
  s am O H xs us hK hO ra Q q hm k := by
    match us, hm, ra with
    | [.d (.int i)], hm, .cons r .nil =>
      cases r
      exact ⟨i, rfl, k _ _ _ H hm (Same.refl _) (.old (Rp.int _))⟩
def rInt3 : List V → Hp → VK → Prop := fun xs H Q => (∃ i, xs = [.int i] ∧ Q (.int i) H) ∨ ∃ k, xs = [.bl k] ∧ Q (.int (if k then 1 else 0)) H
theorem call_int3 {X : Cx} : CallR X (.type "int") rInt3 := call_int1
@[simp ↓] def mInt : List U → (Bool → D → Prop) → Prop
  | [.d (.int i)], q => q false (.int i)
  | [.d (.bool k)], q => q false (.int (if k then 1 else 0))
  | _, _ => False
instance : LC K rInt3 mInt where
  s am O H xs us hK hO ra Q q hm k := by
    match us, hm, ra with
    | [.d (.int i)], hm, .cons r .nil =>
      cases r
      exact .inl ⟨i, rfl, k _ _ _ H hm (Same.refl _) (.old (Rp.int _))⟩
    | [.d (.bool i)], hm, .cons r .nil =>
      cases r
      exact .inr ⟨i, rfl, k _ _ _ H hm (Same.refl _) (.old (Rp.int _))⟩
theorem call_or {X : Cx} {f : Value} {r r' : List V → Hp → VK → Prop} (h : CallR X f r) (h' : CallR X f r') : CallR X f (fun xs H Q => r xs H Q ∨ r' xs H Q) := fun pins s σ H xs us Q I r q => by
  rcases q with q | q
  · exact h pins s σ H xs us Q I r q
  · exact h' pins s σ H xs us Q I r q
@[simp] def toIs : List D → Option (List Int)
  | [] => some []
  | .int i :: ds => (toIs ds).map (i :: ·)
  | _ :: _ => none
theorem toIs_map (ns : List Int) : toIs (ns.map PyData.int) = some ns := by
  induction ns with
  | nil => rfl
  | cons n ns ih =>
    show (toIs (ns.map PyData.int)).map _ = _
    rw [ih]
    rfl
theorem toIs_eq : ∀ {ds : List D} {ns : List Int}, toIs ds = some ns → ds = ns.map PyData.int
  | [], _, h => by
    cases h
    rfl
  | d :: ds, ns, h => by
    cases d with
    | int i =>
      have h2 : (toIs ds).map (i :: ·) = some ns := h
      cases q : toIs ds with
      | none =>
        rw [q] at h2
        cases h2
      | some ms =>
        rw [q] at h2
        cases h2
        rw [toIs_eq q]
        rfl
    | _ => cases h
theorem fold_min (n : Int) : ∀ ns : List Int, (ns.foldl min n) ∈ n :: ns ∧ ∀ y ∈ n :: ns, ns.foldl min n ≤ y
  | [] => ⟨List.mem_singleton.mpr rfl, fun y h => by
    rw [List.mem_singleton.mp h]
    exact Int.le_refl _⟩
  | m :: ns => by
    obtain ⟨h1, h2⟩ := fold_min (min n m) ns
    show (ns.foldl min (min n m)) ∈ _ ∧ ∀ y ∈ _, ns.foldl min (min n m) ≤ y
    have h3 := h2 (min n m) (List.mem_cons_self ..)
    refine ⟨?_, fun y hy => ?_⟩
    · rcases List.mem_cons.mp h1 with e | e
      · rw [e]
        by_cases h : n ≤ m
        · rw [Int.min_eq_left h]
          exact List.mem_cons_self ..
        · rw [Int.min_eq_right (by omega)]
          exact List.mem_cons_of_mem _ (List.mem_cons_self ..)
      · exact List.mem_cons_of_mem _ (List.mem_cons_of_mem _ e)
    · rcases List.mem_cons.mp hy with e | e
      · subst e
        omega
      · rcases List.mem_cons.mp e with e | e
        · subst e
          omega
        · exact h2 y (List.mem_cons_of_mem _ e)
theorem fold_max (n : Int) : ∀ ns : List Int, (ns.foldl max n) ∈ n :: ns ∧ ∀ y ∈ n :: ns, y ≤ ns.foldl max n
  | [] => ⟨List.mem_singleton.mpr rfl, fun y h => by
    rw [List.mem_singleton.mp h]
    exact Int.le_refl _⟩
  | m :: ns => by
    obtain ⟨h1, h2⟩ := fold_max (max n m) ns
    show (ns.foldl max (max n m)) ∈ _ ∧ ∀ y ∈ _, y ≤ ns.foldl max (max n m)
    have h3 := h2 (max n m) (List.mem_cons_self ..)
    refine ⟨?_, fun y hy => ?_⟩
    · rcases List.mem_cons.mp h1 with e | e
      · rw [e]
        by_cases h : n ≤ m
        · rw [Int.max_eq_right h]
          exact List.mem_cons_of_mem _ (List.mem_cons_self ..)
        · rw [Int.max_eq_left (by omega)]
          exact List.mem_cons_self ..
      · exact List.mem_cons_of_mem _ (List.mem_cons_of_mem _ e)
    · rcases List.mem_cons.mp hy with e | e
      · subst e
        omega
      · rcases List.mem_cons.mp e with e | e
        · subst e
          omega
        · exact h2 y (List.mem_cons_of_mem _ e)
theorem depth_ints : ∀ ns : List Int, PyData.depthAll (ns.map PyData.int) = 0
  | [] => by simp [PyData.depthAll]
  | n :: ns => by
    rw [List.map_cons]
    simp only [PyData.depthAll, PyData.depth, depth_ints ns]
    omega
theorem alike_ints (ns : List Int) : PySem.W.AlikeAll (ns.map PyData.int) := ⟨fun x hx y hy => by
  obtain ⟨n, _, rfl⟩ := List.mem_map.mp hx
  obtain ⟨m, _, rfl⟩ := List.mem_map.mp hy
  simp [PySem.W.alike], fun x hx => by
  obtain ⟨n, _, rfl⟩ := List.mem_map.mp hx
  intro z
  cases z⟩
theorem reads_ints {h : Heap} : ∀ {ns : List Int} {us : List Value}, Vals (ns.map V.int) us → ReadsAll h us (ns.map PyData.int) (ns.flatMap fun _ => [])
  | [], _, r => by
    cases r
    exact ReadsAll.nil
  | n :: ns, _, r => by
    cases r with
    | cons r1 r2 =>
      obtain ⟨t, rfl⟩ := r1
      exact ReadsAll.cons (Reads.int n t) (reads_ints r2)
def rMinT (K : PySem.W.Frag) : List V → Hp → VK → Prop := fun vs H Q => ∃ (a : Addr) (ns : List Int), vs = [V.ref a] ∧ SqT K H a (ns.map V.int) ∧ 0 < ns.length ∧ ∀ m, m ∈ ns → (∀ y, y ∈ ns → m ≤ y) → Q (.int m) H
def rMaxT (K : PySem.W.Frag) : List V → Hp → VK → Prop := fun vs H Q => ∃ (a : Addr) (ns : List Int), vs = [V.ref a] ∧ SqT K H a (ns.map V.int) ∧ 0 < ns.length ∧ ∀ m, m ∈ ns → (∀ y, y ∈ ns → y ≤ m) → Q (.int m) H
theorem cr_minT {X : Cx} (hc : X.calm = true) (hu : X.A.units + 1 < cLine) : CallR X (.builtin "min") (rMinT X.K) := by
  intro pins s σ H vs us Q I r h
  obtain ⟨a, ns, rfl, hs, hne, q⟩ := h
  obtain ⟨its, rv, hl, _⟩ := I.tuple hs
  rw [Vals.ref1 r]
  match ns, hne, rv with
  | n :: ns, _, rv =>
    refine PySem.W.min_tuple_data (I.ok.hd hc) (vs := its.toArray) hl (x := .int n) (xs := ns.map .int) (as := (n :: ns).flatMap fun _ => []) (reads_ints (ns := n :: ns) rv) (alike_ints (n :: ns)) (by rw [show PyData.int n :: ns.map PyData.int = (n :: ns).map PyData.int from rfl, depth_ints]; omega) fun i v h' tk bs hv hr hk => ?_
    rw [PySem.W.minD_ints] at hr
    obtain ⟨t, rfl⟩ : ∃ t, v = .int (ns.foldl min n) t := by
      cases hr with
      | int i t => exact ⟨t, rfl⟩
    obtain ⟨h1, h2⟩ := fold_min n ns
    exact ⟨.int _, H, I.kept hk, ⟨_, rfl⟩, q _ h1 h2⟩
theorem cr_maxT {X : Cx} (hc : X.calm = true) (hu : X.A.units + 1 < cLine) : CallR X (.builtin "max") (rMaxT X.K) := by
  intro pins s σ H vs us Q I r h
  obtain ⟨a, ns, rfl, hs, hne, q⟩ := h
  obtain ⟨its, rv, hl, _⟩ := I.tuple hs
  rw [Vals.ref1 r]
  match ns, hne, rv with
  | n :: ns, _, rv =>
    refine PySem.W.max_tuple_data (I.ok.hd hc) (vs := its.toArray) hl (x := .int n) (xs := ns.map .int) (as := (n :: ns).flatMap fun _ => []) (reads_ints (ns := n :: ns) rv) (alike_ints (n :: ns)) (by rw [show PyData.int n :: ns.map PyData.int = (n :: ns).map PyData.int from rfl, depth_ints]; omega) fun i v h' tk bs hv hr hk => ?_
    rw [PySem.W.maxD_ints] at hr
    obtain ⟨t, rfl⟩ : ∃ t, v = .int (ns.foldl max n) t := by
      cases hr with
      | int i t => exact ⟨t, rfl⟩
    obtain ⟨h1, h2⟩ := fold_max n ns
    exact ⟨.int _, H, I.kept hk, ⟨_, rfl⟩, q _ h1 h2⟩
def rMin3 (K : PySem.W.Frag) : List V → Hp → VK → Prop := fun xs H Q => (∃ i j, xs = [.int i, .int j] ∧ Q (.int (if j < i then j else i)) H) ∨ rMin K xs H Q ∨ rMinT K xs H Q
def rMax3 (K : PySem.W.Frag) : List V → Hp → VK → Prop := fun xs H Q => (∃ i j, xs = [.int i, .int j] ∧ Q (.int (if j > i then j else i)) H) ∨ rMax K xs H Q ∨ rMaxT K xs H Q
theorem call_min3 {X : Cx} (hc : X.calm = true) (hu : X.A.units + 1 < cLine) : CallR X (.builtin "min") (rMin3 X.K) := call_or (call_min2 hc) (call_or (cr_min hc) (cr_minT hc hu))
theorem call_max3 {X : Cx} (hc : X.calm = true) (hu : X.A.units + 1 < cLine) : CallR X (.builtin "max") (rMax3 X.K) := call_or (call_max2 hc) (call_or (cr_max hc) (cr_maxT hc hu))
@[simp ↓] def mMin : List U → (Bool → D → Prop) → Prop
  | [.d (.int i), .d (.int j)], q => q false (.int (min i j))
  | [.d (.list xs)], q => ask (toIs xs) fun ns => ns ≠ [] ∧ ∀ m, m ∈ ns → (∀ y ∈ ns, m ≤ y) → q false (.int m)
  | [.d (.tuple xs)], q => ask (toIs xs) fun ns => ns ≠ [] ∧ ∀ m, m ∈ ns → (∀ y ∈ ns, m ≤ y) → q false (.int m)
  | _, _ => False
@[simp ↓] def mMax : List U → (Bool → D → Prop) → Prop
  | [.d (.int i), .d (.int j)], q => q false (.int (max i j))
  | [.d (.list xs)], q => ask (toIs xs) fun ns => ns ≠ [] ∧ ∀ m, m ∈ ns → (∀ y ∈ ns, y ≤ m) → q false (.int m)
  | [.d (.tuple xs)], q => ask (toIs xs) fun ns => ns ≠ [] ∧ ∀ m, m ∈ ns → (∀ y ∈ ns, y ≤ m) → q false (.int m)
  | _, _ => False
theorem min_if (i j : Int) : (if j < i then j else i) = min i j := by
  by_cases h : j < i
  · rw [if_pos h]
    omega
  · rw [if_neg h]
    omega
theorem max_if (i j : Int) : (if j > i then j else i) = max i j := by
  by_cases h : i < j
  · rw [if_pos h]
    omega
  · rw [if_neg h]
    omega
instance : LC K (rMin3 K) mMin where
  s am O H xs us hK hO ra Q q hm k := by
    subst hK
    match us, hm, ra with
    | [.d (.int i), .d (.int j)], hm, .cons r (.cons r2 .nil) =>
      cases r
      cases r2
      refine .inl ⟨i, j, rfl, ?_⟩
      rw [min_if]
      exact k _ _ _ H hm (Same.refl _) (.old (Rp.int _))
    | [.d (.list ds)], hm, .cons r .nil =>
      obtain ⟨ns, e, hne, hm⟩ := ask_some (k := fun ns => ns ≠ [] ∧ ∀ m, m ∈ ns → (∀ y ∈ ns, m ≤ y) → q false (.int m)) hm
      cases r with
      | lst a1 a2 =>
        rw [toIs_eq e] at a2
        have e2 := rp_ints a2
        subst e2
        exact .inr (.inl ⟨_, ns, rfl, SqL.of (cut_some.mp a1).2, List.length_pos_iff.mpr hne, fun m h1 h2 => k _ _ _ H (hm m h1 h2) (Same.refl _) (.old (Rp.int _))⟩)
    | [.d (.tuple ds)], hm, .cons r .nil =>
      obtain ⟨ns, e, hne, hm⟩ := ask_some (k := fun ns => ns ≠ [] ∧ ∀ m, m ∈ ns → (∀ y ∈ ns, m ≤ y) → q false (.int m)) hm
      cases r with
      | tup a1 a2 =>
        rw [toIs_eq e] at a2
        have e2 := rp_ints a2
        subst e2
        exact .inr (.inr ⟨_, ns, rfl, SqT.le Le.cutAll a1, List.length_pos_iff.mpr hne, fun m h1 h2 => k _ _ _ H (hm m h1 h2) (Same.refl _) (.old (Rp.int _))⟩)
instance : LC K (rMax3 K) mMax where
  s am O H xs us hK hO ra Q q hm k := by
    subst hK
    match us, hm, ra with
    | [.d (.int i), .d (.int j)], hm, .cons r (.cons r2 .nil) =>
      cases r
      cases r2
      refine .inl ⟨i, j, rfl, ?_⟩
      rw [max_if]
      exact k _ _ _ H hm (Same.refl _) (.old (Rp.int _))
    | [.d (.list ds)], hm, .cons r .nil =>
      obtain ⟨ns, e, hne, hm⟩ := ask_some (k := fun ns => ns ≠ [] ∧ ∀ m, m ∈ ns → (∀ y ∈ ns, y ≤ m) → q false (.int m)) hm
      cases r with
      | lst a1 a2 =>
        rw [toIs_eq e] at a2
        have e2 := rp_ints a2
        subst e2
        exact .inr (.inl ⟨_, ns, rfl, SqL.of (cut_some.mp a1).2, List.length_pos_iff.mpr hne, fun m h1 h2 => k _ _ _ H (hm m h1 h2) (Same.refl _) (.old (Rp.int _))⟩)
    | [.d (.tuple ds)], hm, .cons r .nil =>
      obtain ⟨ns, e, hne, hm⟩ := ask_some (k := fun ns => ns ≠ [] ∧ ∀ m, m ∈ ns → (∀ y ∈ ns, y ≤ m) → q false (.int m)) hm
      cases r with
      | tup a1 a2 =>
        rw [toIs_eq e] at a2
        have e2 := rp_ints a2
        subst e2
        exact .inr (.inr ⟨_, ns, rfl, SqT.le Le.cutAll a1, List.length_pos_iff.mpr hne, fun m h1 h2 => k _ _ _ H (hm m h1 h2) (Same.refl _) (.old (Rp.int _))⟩)
@[simp ↓] def mSum : List U → (Bool → D → Prop) → Prop
  | [.d (.list xs)], q => ask (toIs xs) fun ns => q false (.int ns.sum)
  | _, _ => False
instance : LC K (rSum K) mSum where
  s am O H xs us hK hO ra Q q hm k := by
    subst hK
    match us, hm, ra with
    | [.d (.list ds)], hm, .cons r .nil =>
      obtain ⟨ns, e, hm⟩ := ask_some (k := fun ns => q false (.int (List.sum ns))) hm
      cases r with
      | lst a1 a2 =>
        rw [toIs_eq e] at a2
        have e2 := rp_ints a2
        subst e2
        exact ⟨_, ns, rfl, SqL.of (cut_some.mp a1).2, k _ _ _ H hm (Same.refl _) (.old (Rp.int _))⟩
@[simp] def toBs : List D → Option (List Bool)
  | [] => some []
  | .bool i :: ds => (toBs ds).map (i :: ·)
  | _ :: _ => none
theorem toBs_map (ns : List Bool) : toBs (ns.map PyData.bool) = some ns := by
  induction ns with
  | nil => rfl
  | cons n ns ih =>
    show (toBs (ns.map PyData.bool)).map _ = _
    rw [ih]
    rfl
theorem toBs_eq : ∀ {ds : List D} {ns : List Bool}, toBs ds = some ns → ds = ns.map PyData.bool
  | [], _, h => by
    cases h
    rfl
  | d :: ds, ns, h => by
    cases d with
    | bool i =>
      have h2 : (toBs ds).map (i :: ·) = some ns := h
      cases q : toBs ds with
      | none =>
        rw [q] at h2
        cases h2
      | some ms =>
        rw [q] at h2
        cases h2
        rw [toBs_eq q]
        rfl
    | _ => cases h
@[simp ↓] def mAnyAll (f : List Bool → Bool) : List U → (Bool → D → Prop) → Prop
  | [.d (.list xs)], q => ask (toBs xs) fun ns => q false (.bool (f ns))
  | _, _ => False
instance : LC K (rAny K) (mAnyAll fun bs => bs.any id) where
  s am O H xs us hK hO ra Q q hm k := by
    subst hK
    match us, hm, ra with
    | [.d (.list ds)], hm, .cons r .nil =>
      obtain ⟨ns, e, hm⟩ := ask_some (k := fun ns => q false (.bool (List.any ns id))) hm
      cases r with
      | lst a1 a2 =>
        rw [toBs_eq e] at a2
        have e2 := rp_bools a2
        subst e2
        exact ⟨_, ns, rfl, SqL.of (cut_some.mp a1).2, k _ _ _ H hm (Same.refl _) (.old (Rp.bl _))⟩
instance : LC K (rAll K) (mAnyAll fun bs => bs.all id) where
  s am O H xs us hK hO ra Q q hm k := by
    subst hK
    match us, hm, ra with
    | [.d (.list ds)], hm, .cons r .nil =>
      obtain ⟨ns, e, hm⟩ := ask_some (k := fun ns => q false (.bool (List.all ns id))) hm
      cases r with
      | lst a1 a2 =>
        rw [toBs_eq e] at a2
        have e2 := rp_bools a2
        subst e2
        exact ⟨_, ns, rfl, SqL.of (cut_some.mp a1).2, k _ _ _ H hm (Same.refl _) (.old (Rp.bl _))⟩
end
end V3
set_option Elab.async false
set_option linter.all false
set_option maxRecDepth 100000
set_option maxHeartbeats 4000000
namespace V3
open PySem PySem.Spec PyProof.Rows L2
/-! ### the rules with the written part named -/
theorem un65 {A : Around} {k : Nat} (hr : Room k A) : A.units + 65 < cLine := by
  have := hr.un
  omega
section
variable {X : Cx} {K : PySem.W.Frag}
theorem ix3 (K : PySem.W.Frag) (h : X.K = K := by rfl) : IxR X (rIx K) := h ▸ ix_seq
theorem add3 (K : PySem.W.Frag) (h : X.K = K := by rfl) : OpR X (binaryOp .Add) (rAddU K) := h ▸ op_addU
theorem eq3 (K : PySem.W.Frag) (hu : X.A.units + 64 < cLine) (h : X.K = K := by rfl) : OpR X (compareOp .Eq) (rEqD K) := h ▸ op_eqD hu
theorem ne3 (K : PySem.W.Frag) (hu : X.A.units + 64 < cLine) (h : X.K = K := by rfl) : OpR X (compareOp .NotEq) (rNeD K) := h ▸ op_neD hu
theorem in3 (K : PySem.W.Frag) (hu : X.A.units + 65 < cLine) (h : X.K = K := by rfl) : OpR X (compareOp .In) (rInU K) := h ▸ op_inU hu
theorem notIn3 (K : PySem.W.Frag) (hu : X.A.units + 65 < cLine) (h : X.K = K := by rfl) : OpR X (compareOp .NotIn) (rNotInU K) := h ▸ op_notInU hu
theorem sl3 (K : PySem.W.Frag) (h : X.K = K := by rfl) : SlR X (rSlU K) := h ▸ sl_U
theorem len3 (K : PySem.W.Frag) (h : X.K = K := by rfl) : CallR X (.builtin "len") (rLen3 K) := h ▸ call_len3
theorem list3 (K : PySem.W.Frag) (h : X.K = K := by rfl) : CallR X (.type "list") (rList3 K) := h ▸ call_list3
theorem tup3 (K : PySem.W.Frag) (h : X.K = K := by rfl) : CallR X (.type "tuple") (rTup3 K) := h ▸ call_tup3
theorem min3 (K : PySem.W.Frag) (hc : X.calm = true) (hu : X.A.units + 1 < cLine) (h : X.K = K := by rfl) : CallR X (.builtin "min") (rMin3 K) := h ▸ call_min3 hc hu
theorem max3 (K : PySem.W.Frag) (hc : X.calm = true) (hu : X.A.units + 1 < cLine) (h : X.K = K := by rfl) : CallR X (.builtin "max") (rMax3 K) := h ▸ call_max3 hc hu
theorem sum3 (K : PySem.W.Frag) (hc : X.calm = true) (h : X.K = K := by rfl) : CallR X (.builtin "sum") (rSum K) := h ▸ cr_sum hc
theorem any3 (K : PySem.W.Frag) (hc : X.calm = true) (h : X.K = K := by rfl) : CallR X (.builtin "any") (rAny K) := h ▸ cr_any hc
theorem all3 (K : PySem.W.Frag) (hc : X.calm = true) (h : X.K = K := by rfl) : CallR X (.builtin "all") (rAll K) := h ▸ cr_all hc
theorem isi3 (K : PySem.W.Frag) (h : X.K = K := by rfl) : CallR X (.builtin "isinstance") (rIsi K) := h ▸ call_isi
theorem isiT3 (K : PySem.W.Frag) (h : X.K = K := by rfl) : CallR X (.builtin "isinstance") (rIsiT K) := h ▸ call_isiT
theorem seq3 (K : PySem.W.Frag) {tg l : Expr} {tl : TE} (hl : PE X l tl) (h : X.K = K := by rfl) : PI X tg l (iSeq K tl) := h ▸ pi_seq hl
theorem fld3 (K : PySem.W.Frag) {e : Expr} {f : Str} {pos : Pos} {ta : TE} (he : PE X e ta) (hb : attributeBase e f X.env (eval e X.env) = eval e X.env) (h : X.K = K := by rfl) : PE X (.Attribute e f pos) (tFld K ta f) := h ▸ pe_fld he hb
theorem tupG3 (K : PySem.W.Frag) {es : List Expr} {t : TGs} {n : Nat} {k : _} {pos : Pos} (hc : X.calm = true) (h' : PGs X es t) (hn : (assignEach es X.env).length = n := by rfl) (hst : (assignEach es X.env).findIdx? (·.1) = none := by rfl) (h : X.K = K := by rfl) : PG X (.Tuple es k pos) (gTup K n t) := h ▸ pg_tup hc h' hn hst
end
section
variable {K : PySem.W.Frag} {C : Addr} {TL : List (Addr × Str)} {E : XK}
/-- a place where ways meet -/
@[simp ↓] def mCut (mt mu : TS3) : TS3 := fun F ρ n e => ∃ Mid : Ro → Nat → Prop, mt { F with nx := Mid } ρ n e ∧ ∀ ρ' n', Mid ρ' n' → mu F ρ' n' e
instance {t u : TS} {mt mu : TS3} [ht : LS K C TL E t mt] [hu : LS K C TL E u mu] : LS K C TL E (C8.tCut t u) (mCut mt mu) where
  s am ρ n σ H D F hE h en hm := by
    obtain ⟨Mid, h1, h2⟩ := hm
    exact ⟨fun σ' H' => ∃ ρ' n', Mid ρ' n' ∧ Rl am ρ' n' σ' H' ∧ EnR am D F, ht.s am ρ n σ H _ { F with nx := Mid } hE h ⟨fun ρ' n' σ' H' q r => ⟨ρ', n', q, r, en⟩, en.bk, en.ct, en.rt⟩ h1, fun σ' H' ⟨ρ', n', q, r, _⟩ => hu.s am ρ' n' σ' H' D F hE r en (h2 ρ' n' q)⟩
@[simp ↓] def mDrop (me : TE3) : TS3 := fun F ρ n e => me ρ n (fun _ _ n1 => F.nx ρ n1) e
instance {te : TE} {S : List Nat} {me : TE3} [he : LE K C TL E te S me] : LS K C TL E (tDrop te) (mDrop me) where
  s am ρ n σ H D F hE h en hm := he.s am ρ n σ H hE h _ _ hm fun fr u n1 v H1 hq f1 w1 _ => en.nx ρ n1 σ H1 hq (h.step f1 w1)
/-! ### x.append(e), x.extend(e), x.pop(k) -/
@[simp] def owAt : Ro → Nat → Option (List D)
  | [], _ => none
  | .ow ds :: _, 0 => some ds
  | _ :: _, 0 => none
  | _ :: ρ, i + 1 => owAt ρ i
theorem owAt_eq : ∀ {ρ : Ro} {i : Nat} {ds : List D}, owAt ρ i = some ds → ρ[i]? = some (Sl.ow ds)
  | [], _, _, h => by cases h
  | .ow ds :: _, 0, _, h => by
    cases h
    rfl
  | .no :: _, 0, _, h => by cases h
  | .fz _ :: _, 0, _, h => by cases h
  | s :: ρ, i + 1, ds, h => by
    have h2 : owAt ρ i = some ds := by cases s <;> exact h
    rw [List.getElem?_cons_succ]
    exact owAt_eq h2
@[simp ↓] def mApp (S : List Nat) (i : Nat) (me : TE3) : TS3 := fun F ρ n e => ask (owAt ρ i) fun ds => me ρ n (fun _ u n1 => askD u fun x => ds.length < sizeLine ∧ (if flat x = true then F.nx (ρ.set i (.ow (ds ++ [x]))) n1 else i ∉ S ∧ F.nx ((dem S ρ).set i (.ow (ds ++ [x]))) n1)) e
/-- an item comes behind the list of slot i -/
theorem app_ok {am : Am} {ρ : Ro} {n : Nat} {σ : L2.St} {H : Hp} (h : Rl am ρ n σ H) {i : Nat} {ds : List D} {p : Addr} {vs : List V} {S : List Nat} {v : V} {x : D} (hi : ρ[i]? = some (Sl.ow ds)) (hp : σ[i]? = some (some (V.ref p))) (e : H p = some (.lst vs)) (r : RpAll am.K (cut (Hid am ρ σ) H) vs ds)
    (rx : Rp am.K (cut (Hid am (dem S ρ) σ) H) v x) {k : Ro → Prop} (hk : if flat x = true then k (ρ.set i (.ow (ds ++ [x]))) else i ∉ S ∧ k ((dem S ρ).set i (.ow (ds ++ [x])))) : ∃ ρ', k ρ' ∧ Rl am ρ' n σ (upd H p (.lst (vs ++ [v]))) := by
  by_cases f : flat x = true
  · rw [if_pos f] at hk
    refine ⟨_, hk, h.write hi hp (RpAll.app r (.one (Rp.hide (fun q z => ?_) _ _ f rx)))⟩
    rcases z with z | ⟨j, z⟩
    · exact .inl (.inl z)
    · exact .inr (h.ownL z).2.1
  · rw [if_neg f] at hk
    have hi2 : (dem S ρ)[i]? = some (Sl.ow ds) := by
      rw [dem_get, hi]
      show some (if i ∈ S then _ else _) = _
      rw [if_neg hk.1]
    exact ⟨_, hk.2, (h.dem S).write hi2 hp (RpAll.app (RpAll.le (Le.cutSub fun a => hidDem) _ _ r) (.one rx))⟩
instance (priority := high) {te : TE} {i : Nat} {S : List Nat} {me : TE3} [he : LE K C TL E te S me] : LS K C TL E (tDrop (tBM K "list" rAppend (tVar i) (tCons te tNil))) (mApp S i me) where
  s am ρ n σ H D F hE h en hm := by
    obtain ⟨rfl, rfl, rfl, rfl⟩ := id hE
    obtain ⟨ds, e, hm⟩ := ask_some hm
    have hi := owAt_eq e
    obtain ⟨p, vs, q1, q2, q3, q4⟩ := h.ow i ds hi
    refine ⟨.ref p, q1, .inl ⟨rfl, vs, SqL.of q3⟩, he.s am ρ n σ H hE h _ _ hm fun fr u n1 v H1 hq f1 w1 r1 => ?_⟩
    have h1 := h.step f1 w1
    match u, hq, r1.1 with
    | .d x, hq, rx =>
      have e1 := h.keepOw f1 ⟨⟨ds, hi⟩, q1⟩ q3
      have r4 := RpAll.le (h.cutLe0 f1) _ _ q4
      obtain ⟨ρ', hk, r5⟩ := app_ok h1 hi q1 e1 r4 rx (k := fun ρ' => F.nx ρ' n1) hq.2
      exact ⟨p, vs, v, rfl, rfl, e1, by rw [RpAll.len r4]; exact hq.1, en.nx ρ' n1 σ _ hk r5⟩
@[simp ↓] def mExt (S : List Nat) (i : Nat) (me : TE3) : TS3 := fun F ρ n e => ask (owAt ρ i) fun ds => me ρ n (fun _ u n1 => askL u fun xs => ds.length + xs.length ≤ sizeLine ∧ flatAll xs = true ∧ F.nx (ρ.set i (.ow (ds ++ xs))) n1) e
instance (priority := high) {te : TE} {i : Nat} {S : List Nat} {me : TE3} [he : LE K C TL E te S me] : LS K C TL E (tDrop (tBM K "list" rExtend (tVar i) (tCons te tNil))) (mExt S i me) where
  s am ρ n σ H D F hE h en hm := by
    obtain ⟨rfl, rfl, rfl, rfl⟩ := id hE
    obtain ⟨ds, e, hm⟩ := ask_some hm
    have hi := owAt_eq e
    obtain ⟨p, vs, q1, q2, q3, q4⟩ := h.ow i ds hi
    refine ⟨.ref p, q1, .inl ⟨rfl, vs, SqL.of q3⟩, he.s am ρ n σ H hE h _ _ hm fun fr u n1 v H1 hq f1 w1 r1 => ?_⟩
    have h1 := h.step f1 w1
    obtain ⟨xs, a, ws, rfl, rfl, a1, a2, hl, fl, hq⟩ := askL_rep hq r1.1
    have e1 := h.keepOw f1 ⟨⟨ds, hi⟩, q1⟩ q3
    have r4 := RpAll.le (h.cutLe0 f1) _ _ q4
    refine ⟨p, a, vs, ws, rfl, rfl, e1, (cut_some.mp a1).2, by rw [RpAll.len r4, RpAll.len a2]; exact hl, en.nx _ n1 σ _ hq (h1.write hi q1 (RpAll.app r4 (RpAll.hide (fun q z => ?_) _ _ fl a2)))⟩
    rcases z with z | ⟨j, z⟩
    · exact .inl (.inl z)
    · exact .inr (h1.ownL z).2.1
/-- an item taken out of the list of slot j: which one, what is left -/
@[simp] def popD (ds : List D) (i : Int) (k : D → List D → Prop) : Prop := ((-(2 ^ 63) ≤ i ∧ i < 2 ^ 63) ∧ ask (ixN ds.length i) fun j => ask ds[j]? fun x => flat x = true ∧ k x (ds.eraseIdx j))
@[simp ↓] def mPopTo (i j : Nat) (me : TE3) : TS3 := fun F ρ n e => ask (owAt ρ j) fun ds => me ρ n (fun _ u n1 => askI u fun k => popD ds k fun x rest => F.nx ((ρ.set j (.ow rest)).set i (.fz (.d x))) n1) e
theorem ixN_seq {n : Nat} {i : Int} {j : Nat} (h : ixN n i = some j) : seqIndex? i n = some j := by
  unfold ixN at h
  unfold seqIndex?
  split at h
  · split at h
    · cases h
      simp
      omega
    · cases h
  · split at h
    · cases h
      simp
      omega
    · cases h
@[simp] theorem toBs_f {α : Type} (g : α → Bool) : ∀ as : List α, toBs (as.map fun a => PyData.bool (g a)) = some (as.map g)
  | [] => rfl
  | a :: as => by
    show (toBs (as.map fun a => PyData.bool (g a))).map _ = _
    rw [toBs_f g as]
    rfl
@[simp] theorem toIs_f {α : Type} (g : α → Int) : ∀ as : List α, toIs (as.map fun a => PyData.int (g a)) = some (as.map g)
  | [] => rfl
  | a :: as => by
    show (toIs (as.map fun a => PyData.int (g a))).map _ = _
    rw [toIs_f g as]
    rfl
theorem few {k : Nat} (h : k ≤ 10000) : k < sizeLine := Nat.lt_of_le_of_lt h (by decide)
/-! ### loops and comprehensions over what is known -/
theorem lcL_pure {is : List Nat} {tup : Bool} {mt : TT3} {me : TE3} {ρ : Ro} {e : Addr → Prop} {α : Type} (D0 : α → D) (f : α → D) (p : α → Bool) : ∀ (as : List α) (n : Nat) (q : List D → Nat → Prop),
    (∀ a ∈ as, ∀ (n : Nat) (Kt : D → Nat → Prop) (Ks : Nat → Prop), (if p a = true then Kt (f a) n else Ks n) → giv is tup (D0 a) ρ fun ρ' => mt ρ' n (fun b n1 => if b = true then me ρ' n1 (fun _ u n2 => match u with
      | .d x => Kt x n2
      | _ => False) e else Ks n1) e) → q ((as.filter p).map f) n → lcL is tup mt me ρ e (as.map D0) n q
  | [], n, q, _, h => h
  | a :: as, n, q, hit, h => by
    show giv is tup (D0 a) ρ fun ρ' => mt ρ' n (fun b n1 => if b = true then me ρ' n1 (fun _ u n2 => match u with
      | .d x => lcL is tup mt me ρ e (as.map D0) n2 fun xs n3 => q (x :: xs) n3
      | _ => False) e else lcL is tup mt me ρ e (as.map D0) n1 q) e
    refine hit a (List.mem_cons_self ..) n (fun x n2 => lcL is tup mt me ρ e (as.map D0) n2 fun xs n3 => q (x :: xs) n3) (fun n1 => lcL is tup mt me ρ e (as.map D0) n1 q) ?_
    by_cases hp : p a = true
    · rw [if_pos hp]
      refine lcL_pure D0 f p as n _ (fun b hb => hit b (List.mem_cons_of_mem _ hb)) ?_
      rw [List.filter_cons_of_pos hp] at h
      exact h
    · rw [if_neg hp]
      refine lcL_pure D0 f p as n _ (fun b hb => hit b (List.mem_cons_of_mem _ hb)) ?_
      rw [List.filter_cons_of_neg hp] at h
      exact h
/-- all are taken -/
theorem lcL_all {is : List Nat} {tup : Bool} {mt : TT3} {me : TE3} {ρ : Ro} {e : Addr → Prop} {α : Type} (D0 : α → D) (f : α → D) (as : List α) (n : Nat) (q : List D → Nat → Prop)
    (hit : ∀ a ∈ as, ∀ (n : Nat) (Kt : D → Nat → Prop) (Ks : Nat → Prop), Kt (f a) n → giv is tup (D0 a) ρ fun ρ' => mt ρ' n (fun b n1 => if b = true then me ρ' n1 (fun _ u n2 => match u with
      | .d x => Kt x n2
      | _ => False) e else Ks n1) e) (h : q (as.map f) n) : lcL is tup mt me ρ e (as.map D0) n q := by
  refine lcL_pure D0 f (fun _ => true) as n q (fun a ha n Kt Ks k => hit a ha n Kt Ks (by simpa using k)) ?_
  have e : as.filter (fun _ => true) = as := List.filter_eq_self.mpr fun _ _ => rfl
  rw [e]
  exact h
/-- the same over the items as they stand -/
theorem lcL_id {is : List Nat} {tup : Bool} {mt : TT3} {me : TE3} {ρ : Ro} {e : Addr → Prop} (f : D → D) (as : List D) (n : Nat) (q : List D → Nat → Prop)
    (hit : ∀ a ∈ as, ∀ (n : Nat) (Kt : D → Nat → Prop) (Ks : Nat → Prop), Kt (f a) n → giv is tup a ρ fun ρ' => mt ρ' n (fun b n1 => if b = true then me ρ' n1 (fun _ u n2 => match u with
      | .d x => Kt x n2
      | _ => False) e else Ks n1) e) (h : q (as.map f) n) : lcL is tup mt me ρ e as n q := by
  have z := lcL_all (is := is) (tup := tup) (mt := mt) (me := me) (ρ := ρ) (e := e) (fun d => d) f as n q hit h
  rw [List.map_id'] at z
  exact z
/-- over the numbers from 0 on -/
theorem lcL_up {is : List Nat} {tup : Bool} {mt : TT3} {me : TE3} {ρ : Ro} {e : Addr → Prop} (f : Nat → D) (lo : Int) (k : Nat) (n : Nat) (q : List D → Nat → Prop)
    (hit : ∀ i, i < k → ∀ (n : Nat) (Kt : D → Nat → Prop) (Ks : Nat → Prop), Kt (f i) n → giv is tup (.int (lo + (i : Nat))) ρ fun ρ' => mt ρ' n (fun b n1 => if b = true then me ρ' n1 (fun _ u n2 => match u with
      | .d x => Kt x n2
      | _ => False) e else Ks n1) e) (h : q ((List.range k).map f) n) : lcL is tup mt me ρ e (upFrom lo k) n q :=
  lcL_all (fun (i : Nat) => PyData.int (lo + (i : Nat))) f (List.range k) n q (fun i hi => hit i (List.mem_range.mp hi)) h
@[simp] theorem upFrom_len (lo : Int) (k : Nat) : (upFrom lo k).length = k := by
  unfold upFrom
  rw [List.length_map, List.length_range]
/-- a loop by what holds ahead of each turn, of the items left -/
theorem forL_ind {is : List Nat} {tup : Bool} {mb : TS3} {F : En3} {e : Addr → Prop} (Pv : List D → Ro → Nat → Prop) (h0 : ∀ ρ n, Pv [] ρ n → F.nx ρ n)
    (hs : ∀ d ds ρ n (G : Ro → Nat → Prop), (∀ ρ n, Pv ds ρ n → G ρ n) → Pv (d :: ds) ρ n → giv is tup d ρ fun ρ' => mb { F with nx := G, ct := G, bk := F.nx } ρ' n e) : ∀ (ds : List D) (ρ : Ro) (n : Nat), Pv ds ρ n → forL is tup mb F e ds ρ n
  | [], ρ, n, h => h0 ρ n h
  | d :: ds, ρ, n, h => hs d ds ρ n _ (fun ρ n p => forL_ind Pv h0 hs ds ρ n p) h
end
end V3
set_option Elab.async false
set_option linter.all false
set_option maxRecDepth 100000
set_option maxHeartbeats 4000000
set_option synthInstance.maxSize 100000
set_option synthInstance.maxHeartbeats 0
namespace G21
open PySem PySem.Spec PyProof.Rows L2 V3
/-! ### blocks, bodies, spots as data -/
abbrev pr (a b : Int) : D := .tuple [.int a, .int b]
abbrev qd (a b c d : Int) : D := .tuple [.int a, .int b, .int c, .int d]
abbrev bkD (b : Bk) : D := qd b.l b.d b.r b.u
abbrev rt (q : U → Nat → Prop) (n : Nat) (x : D) : Prop := q (.d x) n
def isN : D → Bool
  | .int _ => true
  | _ => false
@[simp ↓] def sp_num : VSp := fun us n q _ => ∃ x, us = [.d x] ∧ q (.d (.bool (isN x))) n
@[simp ↓] def sp_box_of : VSp := fun us n q _ => ∃ l d r u a b, us = [.d (qd l d r u), .d (pr a b)] ∧ q (.d (qd (l - a) (d - b) r u)) n
def inB (x y l d r u : Int) : Bool := (decide (l < x) && decide (x < r)) && (decide (d < y) && decide (y < u))
@[simp ↓] def sp_lies_in : VSp := fun us n q _ => ∃ x y l d r u, us = [.d (pr x y), .d (qd l d r u)] ∧ q (.d (.bool (inB x y l d r u))) n
def isIxD (m : Int) : D → Bool
  | .int i => decide (0 ≤ i) && decide (i < m)
  | _ => false
@[simp ↓] def sp_index : VSp := fun us n q _ => ∃ x m, us = [.d x, .d (.int m)] ∧ q (.d (.bool (isIxD m x))) n
def isSzD : D → Bool
  | .int i => decide (1 ≤ i)
  | _ => false
@[simp ↓] def sp_size : VSp := fun us n q _ => ∃ x, us = [.d x] ∧ q (.d (.bool (isSzD x))) n
def isBd : D → Bool
  | .tuple [a, b] => isSzD a && isSzD b
  | _ => false
@[simp ↓] def sp_body : VSp := fun us n q _ => ∃ x : D, us = [.d x] ∧ (∀ xs, x = .tuple xs → xs.length ≤ 1000) ∧ q (.d (.bool (isBd x))) n
@[simp ↓] def sp_chk_body (BB : Addr) : VSp := fun us n q e => ∃ x : D, us = [.d x] ∧ (∀ xs, x = .tuple xs → xs.length ≤ 1000) ∧ (isBd x = true → q (.d .none) n) ∧ (isBd x = false → e BB)
def bar1 (x y a b : Int) (k : Bk) : Bool := inB x y (k.l - a) (k.d - b) k.r k.u
def freeB (bs : List Bk) (a b x y : Int) : Bool := !(bs.any (bar1 x y a b))
def sp_free : VSp := fun us n q _ => ∃ bs a b x y, us = [.dw (bs.map bkD), .d (pr a b), .d (pr x y)] ∧ bs.length ≤ 12 ∧ q (.d (.bool (freeB bs a b x y))) n
section
variable {P : Program} {w : World} {K : PySem.W.Frag} {mg : Str → Option Value} {base : Heap} {TL : List (Addr × Str)}
theorem ok_q_is_number (T : Txt K mg) : FnOk P w K mg base CX0 1 T.q_is_number.a T.q_is_number.d ["thing"] (toSp K T.C TL false sp_num) := by
  refine T.q_is_number.F.ok c_q_is_number (fun vs H Q E h => toSp_len h fun us n q e hs => ?_) (fun cdv A outer s H vs Q E hr h => ?_)
  · (first | (obtain ⟨rfl, _⟩ := hs; rfl) | (obtain ⟨_, hs⟩ := hs; (first | (obtain ⟨rfl, _⟩ := hs; rfl) | (obtain ⟨_, hs⟩ := hs; (first | (obtain ⟨rfl, _⟩ := hs; rfl) | (obtain ⟨_, hs⟩ := hs; (first | (obtain ⟨rfl, _⟩ := hs; rfl) | (obtain ⟨_, hs⟩ := hs; (first | (obtain ⟨rfl, _⟩ := hs; rfl) | (obtain ⟨_, hs⟩ := hs; (first | (obtain ⟨rfl, _⟩ := hs; rfl) | (obtain ⟨_, hs⟩ := hs; (first | (obtain ⟨rfl, _⟩ := hs; rfl) | (obtain ⟨_, hs⟩ := hs; (first | (obtain ⟨rfl, _⟩ := hs; rfl) | (obtain ⟨_, hs⟩ := hs; (first | (obtain ⟨rfl, _⟩ := hs; rfl) | (obtain ⟨_, hs⟩ := hs; (first | (obtain ⟨rfl, _⟩ := hs; rfl) | (obtain ⟨_, hs⟩ := hs; (first | (obtain ⟨rfl, _⟩ := hs; rfl) | (obtain ⟨_, hs⟩ := hs; (first | (obtain ⟨rfl, _⟩ := hs; rfl) | (obtain ⟨_, hs⟩ := hs; (first | (obtain ⟨rfl, _⟩ := hs; rfl) | (obtain ⟨_, hs⟩ := hs; (first | (obtain ⟨rfl, _⟩ := hs; rfl) | (obtain ⟨_, hs⟩ := hs; (first | (obtain ⟨rfl, _⟩ := hs; rfl) | (obtain ⟨_, hs⟩ := hs; (first | (obtain ⟨rfl, _⟩ := hs; rfl) | (obtain ⟨_, hs⟩ := hs; (obtain ⟨rfl, _⟩ := hs; rfl)))))))))))))))))))))))))))))))))
  · refine ⟨_,
      (pss_one (ps_ret (pe_and (pe_callB (isi3 K) (by rfl) T.z_isinstance (by decide +kernel) (pa_cons (pv 0) (pa_cons (pe_bltn (v := .ty "int") (u := .type "int") rfl T.z_int (by decide +kernel) rfl) pa_nil))) (pe_one (pe_not (pe_callB (isi3 K) (by rfl) T.z_isinstance (by decide +kernel) (pa_cons (pv 0) (pa_cons (pe_bltn (v := .ty "bool") (u := .type "bool") rfl T.z_bool (by decide +kernel) rfl) pa_nil))))))))
      , run3 (K := K) (C := T.C) (TL := TL) h fun us n q e hs => ?_⟩
    obtain ⟨x, rfl, hq⟩ := hs
    cases x <;> simpa [ro0, isN] using hq
theorem ok_q_is_index (T : Txt K mg) : FnOk P w K mg base CX0 2 T.q_is_index.a T.q_is_index.d ["thing", "many"] (toSp K T.C TL false sp_index) := by
  refine T.q_is_index.F.ok c_q_is_index (fun vs H Q E h => toSp_len h fun us n q e hs => ?_) (fun cdv A outer s H vs Q E hr h => ?_)
  · (first | (obtain ⟨rfl, _⟩ := hs; rfl) | (obtain ⟨_, hs⟩ := hs; (first | (obtain ⟨rfl, _⟩ := hs; rfl) | (obtain ⟨_, hs⟩ := hs; (first | (obtain ⟨rfl, _⟩ := hs; rfl) | (obtain ⟨_, hs⟩ := hs; (first | (obtain ⟨rfl, _⟩ := hs; rfl) | (obtain ⟨_, hs⟩ := hs; (first | (obtain ⟨rfl, _⟩ := hs; rfl) | (obtain ⟨_, hs⟩ := hs; (first | (obtain ⟨rfl, _⟩ := hs; rfl) | (obtain ⟨_, hs⟩ := hs; (first | (obtain ⟨rfl, _⟩ := hs; rfl) | (obtain ⟨_, hs⟩ := hs; (first | (obtain ⟨rfl, _⟩ := hs; rfl) | (obtain ⟨_, hs⟩ := hs; (first | (obtain ⟨rfl, _⟩ := hs; rfl) | (obtain ⟨_, hs⟩ := hs; (first | (obtain ⟨rfl, _⟩ := hs; rfl) | (obtain ⟨_, hs⟩ := hs; (first | (obtain ⟨rfl, _⟩ := hs; rfl) | (obtain ⟨_, hs⟩ := hs; (first | (obtain ⟨rfl, _⟩ := hs; rfl) | (obtain ⟨_, hs⟩ := hs; (first | (obtain ⟨rfl, _⟩ := hs; rfl) | (obtain ⟨_, hs⟩ := hs; (first | (obtain ⟨rfl, _⟩ := hs; rfl) | (obtain ⟨_, hs⟩ := hs; (first | (obtain ⟨rfl, _⟩ := hs; rfl) | (obtain ⟨_, hs⟩ := hs; (first | (obtain ⟨rfl, _⟩ := hs; rfl) | (obtain ⟨_, hs⟩ := hs; (obtain ⟨rfl, _⟩ := hs; rfl)))))))))))))))))))))))))))))))))
  · refine ⟨_,
      (pss_one (ps_ret (pe_and (pe_call (ok_q_is_number T (TL := TL)) (hr.mono (by decide)) rfl T.q_is_number.g T.q_is_number.k T.q_is_number.b .nil pass0 (pa_cons (pv 0) pa_nil)) (pe_one (pe_chain op_le op_lt pe_int (pv 0) (pv 1))))))
      , run3 (K := K) (C := T.C) (TL := TL) h fun us n q e hs => ?_⟩
    obtain ⟨x, m, rfl, hq⟩ := hs
    cases x <;> simp [ro0, sp_num, isN, isIxD] at hq ⊢ <;> try exact hq
    split <;> simp_all
theorem ok_q_is_size (T : Txt K mg) : FnOk P w K mg base CX0 2 T.q_is_size.a T.q_is_size.d ["thing"] (toSp K T.C TL false sp_size) := by
  refine T.q_is_size.F.ok c_q_is_size (fun vs H Q E h => toSp_len h fun us n q e hs => ?_) (fun cdv A outer s H vs Q E hr h => ?_)
  · (first | (obtain ⟨rfl, _⟩ := hs; rfl) | (obtain ⟨_, hs⟩ := hs; (first | (obtain ⟨rfl, _⟩ := hs; rfl) | (obtain ⟨_, hs⟩ := hs; (first | (obtain ⟨rfl, _⟩ := hs; rfl) | (obtain ⟨_, hs⟩ := hs; (first | (obtain ⟨rfl, _⟩ := hs; rfl) | (obtain ⟨_, hs⟩ := hs; (first | (obtain ⟨rfl, _⟩ := hs; rfl) | (obtain ⟨_, hs⟩ := hs; (first | (obtain ⟨rfl, _⟩ := hs; rfl) | (obtain ⟨_, hs⟩ := hs; (first | (obtain ⟨rfl, _⟩ := hs; rfl) | (obtain ⟨_, hs⟩ := hs; (first | (obtain ⟨rfl, _⟩ := hs; rfl) | (obtain ⟨_, hs⟩ := hs; (first | (obtain ⟨rfl, _⟩ := hs; rfl) | (obtain ⟨_, hs⟩ := hs; (first | (obtain ⟨rfl, _⟩ := hs; rfl) | (obtain ⟨_, hs⟩ := hs; (first | (obtain ⟨rfl, _⟩ := hs; rfl) | (obtain ⟨_, hs⟩ := hs; (first | (obtain ⟨rfl, _⟩ := hs; rfl) | (obtain ⟨_, hs⟩ := hs; (first | (obtain ⟨rfl, _⟩ := hs; rfl) | (obtain ⟨_, hs⟩ := hs; (first | (obtain ⟨rfl, _⟩ := hs; rfl) | (obtain ⟨_, hs⟩ := hs; (first | (obtain ⟨rfl, _⟩ := hs; rfl) | (obtain ⟨_, hs⟩ := hs; (first | (obtain ⟨rfl, _⟩ := hs; rfl) | (obtain ⟨_, hs⟩ := hs; (obtain ⟨rfl, _⟩ := hs; rfl)))))))))))))))))))))))))))))))))
  · refine ⟨_,
      (pss_one (ps_ret (pe_and (pe_call (ok_q_is_number T (TL := TL)) (hr.mono (by decide)) rfl T.q_is_number.g T.q_is_number.k T.q_is_number.b .nil pass0 (pa_cons (pv 0) pa_nil)) (pe_one (pe_cmpR op_ge (pv 0) pe_int (nomark _))))))
      , run3 (K := K) (C := T.C) (TL := TL) h fun us n q e hs => ?_⟩
    obtain ⟨x, rfl, hq⟩ := hs
    cases x <;> simpa [ro0, sp_num, isN, isSzD] using hq
theorem ok_q_is_body (T : Txt K mg) : FnOk P w K mg base CX0 3 T.q_is_body.a T.q_is_body.d ["thing"] (toSp K T.C TL false sp_body) := by
  refine T.q_is_body.F.ok c_q_is_body (fun vs H Q E h => toSp_len h fun us n q e hs => ?_) (fun cdv A outer s H vs Q E hr h => ?_)
  · (first | (obtain ⟨rfl, _⟩ := hs; rfl) | (obtain ⟨_, hs⟩ := hs; (first | (obtain ⟨rfl, _⟩ := hs; rfl) | (obtain ⟨_, hs⟩ := hs; (first | (obtain ⟨rfl, _⟩ := hs; rfl) | (obtain ⟨_, hs⟩ := hs; (first | (obtain ⟨rfl, _⟩ := hs; rfl) | (obtain ⟨_, hs⟩ := hs; (first | (obtain ⟨rfl, _⟩ := hs; rfl) | (obtain ⟨_, hs⟩ := hs; (first | (obtain ⟨rfl, _⟩ := hs; rfl) | (obtain ⟨_, hs⟩ := hs; (first | (obtain ⟨rfl, _⟩ := hs; rfl) | (obtain ⟨_, hs⟩ := hs; (first | (obtain ⟨rfl, _⟩ := hs; rfl) | (obtain ⟨_, hs⟩ := hs; (first | (obtain ⟨rfl, _⟩ := hs; rfl) | (obtain ⟨_, hs⟩ := hs; (first | (obtain ⟨rfl, _⟩ := hs; rfl) | (obtain ⟨_, hs⟩ := hs; (first | (obtain ⟨rfl, _⟩ := hs; rfl) | (obtain ⟨_, hs⟩ := hs; (first | (obtain ⟨rfl, _⟩ := hs; rfl) | (obtain ⟨_, hs⟩ := hs; (first | (obtain ⟨rfl, _⟩ := hs; rfl) | (obtain ⟨_, hs⟩ := hs; (first | (obtain ⟨rfl, _⟩ := hs; rfl) | (obtain ⟨_, hs⟩ := hs; (first | (obtain ⟨rfl, _⟩ := hs; rfl) | (obtain ⟨_, hs⟩ := hs; (first | (obtain ⟨rfl, _⟩ := hs; rfl) | (obtain ⟨_, hs⟩ := hs; (obtain ⟨rfl, _⟩ := hs; rfl)))))))))))))))))))))))))))))))))
  · refine ⟨_,
      (pss_one (ps_ret (pe_and (pe_callB (isi3 K) (by rfl) T.z_isinstance (by decide +kernel) (pa_cons (pv 0) (pa_cons (pe_bltn (v := .ty "tuple") (u := .type "tuple") rfl T.z_tuple (by decide +kernel) rfl) pa_nil))) (pe_and (pe_cmpR (eq3 K hr.units) (pe_callB (len3 K) (by rfl) T.z_len (by decide +kernel) (pa_cons (pv 0) pa_nil)) pe_int (nomark _)) (pe_and (pe_call (ok_q_is_size T (TL := TL)) (hr.mono (by decide)) rfl T.q_is_size.g T.q_is_size.k T.q_is_size.b .nil pass0 (pa_cons (pe_ix (ix3 K) (pv 0) pe_int (fun _ _ => rfl)) pa_nil)) (pe_one (pe_call (ok_q_is_size T (TL := TL)) (hr.mono (by decide)) rfl T.q_is_size.g T.q_is_size.k T.q_is_size.b .nil pass0 (pa_cons (pe_ix (ix3 K) (pv 0) pe_int (fun _ _ => rfl)) pa_nil))))))))
      , run3 (K := K) (C := T.C) (TL := TL) h fun us n q e hs => ?_⟩
    obtain ⟨x, rfl, hl, hq⟩ := hs
    cases x with
    | tuple xs =>
      have hl := hl xs rfl
      match xs, hl, hq with
      | [], _, hq => simpa [ro0, isBd] using hq
      | [y], _, hq => simpa [ro0, isBd] using hq
      | [y, z], _, hq =>
        simp [ro0, isBd] at hq ⊢
        cases h : isSzD y <;> simpa [h] using hq
      | y :: z :: w :: ws, hl, hq =>
        simp [ro0, isBd] at hq ⊢
        exact hq
    | _ => simpa [ro0, isBd] using hq
theorem ok_q_check_body (T : Txt K mg) : FnOk P w K mg base (L2.CX P w) 4 T.q_check_body.a T.q_check_body.d ["body"] (toSp K T.C TL false (sp_chk_body T.x_BadBody.C)) := by
  refine T.q_check_body.F.okX c_q_check_body (fun vs H Q E h => toSp_len h fun us n q e hs => ?_) (fun cdv A outer s H vs Q E hr h => ?_)
  · (first | (obtain ⟨rfl, _⟩ := hs; rfl) | (obtain ⟨_, hs⟩ := hs; (first | (obtain ⟨rfl, _⟩ := hs; rfl) | (obtain ⟨_, hs⟩ := hs; (first | (obtain ⟨rfl, _⟩ := hs; rfl) | (obtain ⟨_, hs⟩ := hs; (first | (obtain ⟨rfl, _⟩ := hs; rfl) | (obtain ⟨_, hs⟩ := hs; (first | (obtain ⟨rfl, _⟩ := hs; rfl) | (obtain ⟨_, hs⟩ := hs; (first | (obtain ⟨rfl, _⟩ := hs; rfl) | (obtain ⟨_, hs⟩ := hs; (first | (obtain ⟨rfl, _⟩ := hs; rfl) | (obtain ⟨_, hs⟩ := hs; (first | (obtain ⟨rfl, _⟩ := hs; rfl) | (obtain ⟨_, hs⟩ := hs; (first | (obtain ⟨rfl, _⟩ := hs; rfl) | (obtain ⟨_, hs⟩ := hs; (first | (obtain ⟨rfl, _⟩ := hs; rfl) | (obtain ⟨_, hs⟩ := hs; (first | (obtain ⟨rfl, _⟩ := hs; rfl) | (obtain ⟨_, hs⟩ := hs; (first | (obtain ⟨rfl, _⟩ := hs; rfl) | (obtain ⟨_, hs⟩ := hs; (first | (obtain ⟨rfl, _⟩ := hs; rfl) | (obtain ⟨_, hs⟩ := hs; (first | (obtain ⟨rfl, _⟩ := hs; rfl) | (obtain ⟨_, hs⟩ := hs; (first | (obtain ⟨rfl, _⟩ := hs; rfl) | (obtain ⟨_, hs⟩ := hs; (first | (obtain ⟨rfl, _⟩ := hs; rfl) | (obtain ⟨_, hs⟩ := hs; (obtain ⟨rfl, _⟩ := hs; rfl)))))))))))))))))))))))))))))))))
  · refine ⟨_,
      (pss_one (ps_if (pt_not (pt_val (pe_call (ok_q_is_body T (TL := TL)) (hr.mono (by decide)) rfl T.q_is_body.g T.q_is_body.k T.q_is_body.b .nil pass0 (pa_cons (pv 0) pa_nil))))
      (pss_one (ps_rz (C' := T.x_BadBody.C) (ps_raise rfl (takes_of rfl rfl rfl rfl) (pmk_own PySem.F.excBase_ValueError T.x_BadBody.q T.x_BadBody.g T.x_BadBody.k (raises_own T.x_BadBody.b T.x_BadBody.t) (by exact rfl)))))
      pss_nil))
      , run3 (K := K) (C := T.C) (TL := TL) h fun us n q e hs => ?_⟩
    obtain ⟨x, rfl, hl, h1, h2⟩ := hs
    simp [ro0]
    refine ⟨hl, ?_⟩
    cases hf : isBd x
    · simpa [hf] using h2 hf
    · simpa [hf] using h1 hf
end
end G21
set_option Elab.async false
set_option linter.all false
set_option maxRecDepth 100000
set_option maxHeartbeats 4000000
/-! len(set(xs)) of a list or tuple of ints -/
namespace V3
open PySem PySem.Spec PyProof.Rows L2
/-- m is how many different numbers ns has -/
def Diff (ns : List Int) (m : Nat) : Prop := ∃ L : List Int, L.Nodup ∧ (∀ k, k ∈ L ↔ k ∈ ns) ∧ L.length = m
theorem diff_of {w : World} {h : Heap} {a : Addr} {ns : List Int} {n : Nat} (R : SetR w h a (fun j => decide (j ∈ ns)) n) : Diff ns n := by
  obtain ⟨o, es, ep, t, _, _, _, _, nd, mem, _, _, sz, _⟩ := R
  refine ⟨es.toList.map keyOf, nd, fun k => ?_, by rw [List.length_map, Array.length_toList, sz]⟩
  rw [← mem k]
  exact ⟨fun z => of_decide_eq_true z, fun z => decide_eq_true z⟩
def tLenSetI (K : PySem.W.Frag) (ta : TE) : TE := fun σ H Q => ta σ H fun x H1 => ∃ l, ∃ ns : List Int, x = .ref l ∧ (SqL K H1 l (ns.map V.int) ∨ SqT K H1 l (ns.map V.int)) ∧ ns.length < 1000 ∧ ∀ m, Diff ns m → Q (.int (m : Nat)) H1
section
variable {X : Cx}
theorem pe_lenSetI {a : Expr} {ta : TE} {p p2 q pos : Pos} (hc : X.calm = true) (hg : Gl X "len") (hm : X.mg "len" = none) (hg2 : Gl X "set") (hm2 : X.mg "set" = none) (ha : PE X a ta)
    (na : starEach [a] X.env = (false, eval a X.env) :: starEach [] X.env := by rfl) : PE X (.Call (.Name "len" p) [.Call (.Name "set" p2) [a] [] q] [] pos) (tLenSetI X.K ta) := by
  refine ⟨fun pins s σ H Q I h => ?_⟩
  refine Call_ (ld_blt I hg hm boot_len ?_)
  refine PyProof.Rows.callWith_builtin1 (PyProof.Rows.args_cons ?_ rfl) rfl rfl
  refine Call_ (ld_blt I hg2 hm2 boot_set ?_)
  refine PyProof.Rows.callWith_type1 (PyProof.Rows.args_cons (thn (ha.run pins s σ H _ I h) fun v s1 ⟨x, H1, I1, r1, q1⟩ => PyProof.Rows.args_nil ?_) na) na rfl
  obtain ⟨l, ns, rfl, hq, h1, q1⟩ := q1
  cases r1
  have fin : ∀ (h' : Heap) (tk c : Nat), SetR X.w h' s1.heap.objs.size (fun j => decide (j ∈ ns)) c → (∀ b o, s1.heap.get? b = some o → h'.get? b = some o) →
      wpAny (model X.prog X.w) X.A (spliced (backTo pos (starEach [] X.env))) (fun vs s₂ => wpAny (model X.prog X.w) X.A (call (.builtin "len") (Value.ref s1.heap.objs.size :: vs)) (EP X pins σ Q) X.xe s₂) X.xe { s1 with heap := h', toks := tk } := fun h' tk c R hk => by
    refine PyProof.Rows.args_nil ?_
    have dif := diff_of R
    obtain ⟨o, es, ep, t, ho, hex, hd, _, _, _, hb, hf, hn, _⟩ := R
    have I2 : Inv X pins σ H1 { s1 with heap := h', toks := tk } := I1.kept hk
    refine call_len_set ho hex hd hf (by unfold scanBound at hb; omega) ⟨.int c, H1, I2.tok _, ⟨_, by rw [hn]⟩, q1 c dif⟩
  have ia : ∀ {ns : List Int} {us : List Value}, Vals (ns.map V.int) us → IntsAre us ns := fun {ns} => by
    induction ns with
    | nil =>
      intro us r
      cases r
      exact .nil
    | cons n ns ih =>
      intro us r
      cases r with
      | cons r1 r2 =>
        obtain ⟨t, rfl⟩ := r1
        exact .cons n t (ih r2)
  rcases hq with hq | hq
  · obtain ⟨its, r, pl, hz⟩ := I1.list hq
    exact GS.call_set_listI ns (I1.ok.hd hc) pl.isList (by simpa using ia r) (by unfold scanBound; omega) fun h' tk c R _ k => fin h' tk c R k
  · obtain ⟨its, r, pl, hz⟩ := I1.tuple hq
    exact call_set_tupI ns (I1.ok.hd hc) pl (by simpa using ia r) (by unfold scanBound; omega) fun h' tk c R _ k => fin h' tk c R k
end
section
variable {K : PySem.W.Frag} {C : Addr} {TL : List (Addr × Str)} {E : XK}
theorem lenSet3 {X : Cx} (K : PySem.W.Frag) {a : Expr} {ta : TE} {p p2 q pos : Pos} (hc : X.calm = true) (hg : Gl X "len") (hm : X.mg "len" = none) (hg2 : Gl X "set") (hm2 : X.mg "set" = none) (ha : PE X a ta)
    (na : starEach [a] X.env = (false, eval a X.env) :: starEach [] X.env := by rfl) (h : X.K = K := by rfl) : PE X (.Call (.Name "len" p) [.Call (.Name "set" p2) [a] [] q] [] pos) (tLenSetI K ta) := h ▸ pe_lenSetI hc hg hm hg2 hm2 ha na
@[simp ↓] def mLenSet (me : TE3) : TE3 := fun ρ n q e => me ρ n (fun _ u n1 => askS u fun xs => ask (toIs xs) fun ns => ns.length < 1000 ∧ ∀ m, Diff ns m → q false (.d (.int (m : Nat))) n1) e
instance {te : TE} {S : List Nat} {me : TE3} [he : LE K C TL E te S me] : LE K C TL E (tLenSetI K te) [] (mLenSet me) where
  s am ρ n σ H hE h Q q hm k := by
    obtain ⟨rfl, rfl, rfl, rfl⟩ := id hE
    refine he.s am ρ n σ H hE h _ _ hm fun fr u n1 v H1 hq f1 w1 r1 => ?_
    match u, hq, r1.1 with
    | .d (.list ds), hq, r =>
      have hq : ask (toIs ds) (fun ns => ns.length < 1000 ∧ ∀ m, Diff ns m → q false (.d (.int (m : Nat))) n1) := hq
      obtain ⟨ns, e, hl, hq⟩ := ask_some hq
      cases r with
      | lst a1 a2 =>
        rw [toIs_eq e] at a2
        have e2 := rp_ints a2
        subst e2
        exact ⟨_, ns, rfl, .inl (SqL.of (cut_some.mp a1).2), hl, fun m dm => k _ _ n1 _ H1 (hq m dm) f1 w1 (.old (Rp.int _))⟩
    | .d (.tuple ds), hq, r =>
      have hq : ask (toIs ds) (fun ns => ns.length < 1000 ∧ ∀ m, Diff ns m → q false (.d (.int (m : Nat))) n1) := hq
      obtain ⟨ns, e, hl, hq⟩ := ask_some hq
      cases r with
      | tup a1 a2 =>
        rw [toIs_eq e] at a2
        have e2 := rp_ints a2
        subst e2
        exact ⟨_, ns, rfl, .inr (SqT.le Le.cutAll a1), hl, fun m dm => k _ _ n1 _ H1 (hq m dm) f1 w1 (.old (Rp.int _))⟩
end
end V3
set_option Elab.async false
set_option linter.all false
set_option maxRecDepth 100000
set_option maxHeartbeats 4000000
namespace V3
open PySem PySem.Spec PyProof.Rows L2
section
variable {K : PySem.W.Frag} {C : Addr} {TL : List (Addr × Str)} {E : XK}
/-! ### sorted: ints, tuples of ints of one length -/
def tupI (ns : List Int) : D := .tuple (ns.map .int)
@[simp] def toTs : List D → Option (List (List Int))
  | [] => some []
  | .tuple xs :: ds => match toIs xs, toTs ds with
    | some ns, some L => some (ns :: L)
    | _, _ => none
  | _ :: _ => none
theorem toTs_eq : ∀ {ds : List D} {L : List (List Int)}, toTs ds = some L → ds = L.map tupI
  | [], _, h => by
    cases h
    rfl
  | d :: ds, L, h => by
    cases d with
    | tuple xs =>
      have h2 : (match toIs xs, toTs ds with
        | some ns, some L => some (ns :: L)
        | _, _ => none) = some L := h
      cases e1 : toIs xs with
      | none =>
        rw [e1] at h2
        cases h2
      | some ns =>
        cases e2 : toTs ds with
        | none =>
          rw [e1, e2] at h2
          cases h2
        | some L2 =>
          rw [e1, e2] at h2
          cases h2
          rw [toIs_eq e1, toTs_eq e2]
          rfl
    | _ => cases h
theorem toTs_map : ∀ L : List (List Int), toTs (L.map tupI) = some L
  | [] => rfl
  | ns :: L => by
    show (match toIs (ns.map PyData.int), toTs (L.map tupI) with
      | some ns, some L => some (ns :: L)
      | _, _ => none) = _
    rw [toIs_map, toTs_map L]
theorem tups_rep {am : Am} {O : Addr → Prop} {H : Hp} : ∀ {L : List (List Int)} {vs : List V}, RpAll am.K (cut O H) vs (L.map tupI) → ∃ as : List Addr, vs = as.map V.ref ∧ Paired (fun a ns => SqT am.K (cut O H) a (ns.map V.int)) as L
  | [], _, h => by
    cases h
    exact ⟨[], rfl, .nil⟩
  | ns :: L, _, h => by
    cases h with
    | cons h1 h2 =>
      cases h1 with
      | tup a1 a2 =>
        obtain ⟨as, rfl, p⟩ := tups_rep h2
        have e := rp_ints a2
        subst e
        exact ⟨_ :: as, rfl, .cons a1 p⟩
def rSorted3 (K : PySem.W.Frag) (d : Nat) : List V → Hp → VK → Prop := fun vs H Q => rSortedI K vs H Q ∨ GS.rSortL K d vs H Q
theorem call_sorted3 {X : Cx} (d : Nat) (hd : 1 ≤ d) : CallR X (.builtin "sorted") (rSorted3 X.K d) := call_or cr_sortedI (GS.cr_sortL hd)
theorem sorted3 {X : Cx} (K : PySem.W.Frag) (d : Nat) (hd : 1 ≤ d) (h : X.K = K := by rfl) : CallR X (.builtin "sorted") (rSorted3 K d) := h ▸ call_sorted3 d hd
@[simp ↓] def mSorted (d : Nat) : List U → (Bool → D → Prop) → Prop
  | [.d (.list xs)], q => (∃ ns : List Int, xs = ns.map .int ∧ ∀ ms : List Int, ms.Perm ns → ms.Pairwise (· ≤ ·) → q true (.list (ms.map .int))) ∨
      (∃ L : List (List Int), xs = L.map tupI ∧ (∀ l ∈ L, l.length = d) ∧ ∀ M : List (List Int), M.Perm L → M.Pairwise (fun a b => HT.lexLt b a = false) → q true (.list (M.map tupI)))
  | _, _ => False
theorem pd_perm {α β : Type} {F : α → β → Prop} : ∀ {as bs : List α}, as.Perm bs → ∀ {xs : List β}, Paired F bs xs → ∃ ys, ys.Perm xs ∧ Paired F as ys := fun {as bs} h => by
  induction h with
  | nil => exact fun p => ⟨_, .refl _, p⟩
  | cons a _ ih =>
    intro xs p
    cases p with
    | cons r t =>
      obtain ⟨ys, h1, h2⟩ := ih t
      exact ⟨_ :: ys, h1.cons _, .cons r h2⟩
  | swap a b l =>
    intro xs p
    cases p with
    | cons r t =>
      cases t with
      | cons r2 t2 => exact ⟨_, .swap _ _ _, .cons r2 (.cons r t2)⟩
  | trans _ _ ih1 ih2 =>
    intro xs p
    obtain ⟨ys, h1, h2⟩ := ih2 p
    obtain ⟨zs, h3, h4⟩ := ih1 h2
    exact ⟨zs, h3.trans h1, h4⟩
theorem pd_pw {α β : Type} {F : α → β → Prop} {R : α → α → Prop} {S : β → β → Prop} (hRS : ∀ a b x y, F a x → F b y → R a b → S x y) : ∀ {as : List α} {xs : List β}, Paired F as xs → as.Pairwise R → xs.Pairwise S
  | _, _, .nil, _ => .nil
  | _, _, .cons (a := a) (b := x) r t, p => by
    obtain ⟨p1, p2⟩ := List.pairwise_cons.mp p
    refine List.pairwise_cons.mpr ⟨fun y hy => ?_, pd_pw hRS t p2⟩
    have q : ∀ {as : List α} {xs : List β}, Paired F as xs → ∀ y ∈ xs, ∃ b ∈ as, F b y := fun {as xs} p => by
      induction p with
      | nil => exact fun y h => absurd h (by simp)
      | cons r _ ih =>
        intro y h
        rcases List.mem_cons.mp h with e | h
        · exact ⟨_, List.mem_cons_self .., by rw [e]; exact r⟩
        · obtain ⟨b, h1, h2⟩ := ih y h
          exact ⟨b, List.mem_cons_of_mem _ h1, h2⟩
    obtain ⟨b, hb, fb⟩ := q t y hy
    exact hRS _ _ _ _ r fb (p1 b hb)
theorem perm_map_ref : ∀ {ys : List V} {as : List Addr}, ys.Perm (as.map V.ref) → ∃ bs : List Addr, ys = bs.map V.ref ∧ bs.Perm as := fun {ys as} h => by
  refine ⟨ys.filterMap (fun v => match v with
    | .ref a => some a
    | _ => none), ?_, ?_⟩
  · have q : ∀ y ∈ ys, ∃ a, y = V.ref a := fun y hy => by
      obtain ⟨a, _, e⟩ := List.mem_map.mp (h.mem_iff.mp hy)
      exact ⟨a, e.symm⟩
    clear h
    induction ys with
    | nil => rfl
    | cons y ys ih =>
      obtain ⟨a, rfl⟩ := q y (List.mem_cons_self ..)
      have e := ih fun z hz => q z (List.mem_cons_of_mem _ hz)
      show V.ref a :: ys = V.ref a :: _
      rw [← e]
  · have z := h.filterMap (fun v => match v with
      | V.ref a => some a
      | _ => none)
    have e : ∀ as : List Addr, (as.map V.ref).filterMap (fun v => match v with
      | V.ref a => some a
      | _ => none) = as := fun as => by
      induction as with
      | nil => rfl
      | cons a as ih =>
        show a :: (as.map V.ref).filterMap _ = _
        rw [ih]
    rw [e as] at z
    exact z
theorem lex_self (ns : List Int) : HT.lexLt ns ns = false := by
  induction ns with
  | nil => rfl
  | cons n ns ih => rw [HT.lexLt_cons, if_pos rfl, ih]
instance {d : Nat} : LC K (rSorted3 K d) (mSorted d) where
  s am O H xs us hK hO ra Q q hm k := by
    subst hK
    match us, hm, ra with
    | [.d (.list ds)], hm, .cons r .nil =>
      cases r with
      | lst a1 a2 =>
        rcases hm with ⟨ns, rfl, hm⟩ | ⟨L, rfl, hd, hm⟩
        · have e2 := rp_ints a2
          subst e2
          refine .inl ⟨_, ns, rfl, SqL.of (cut_some.mp a1).2, fun ms p h1 h2 hp => k _ _ _ _ (hm ms h1 h2) (same_new hp) (new_list hO hp ?_)⟩
          have q : ∀ ms : List Int, RpAll am.K (cut O H) (ms.map V.int) (ms.map .int) := fun ms => by
            induction ms with
            | nil => exact .nil
            | cons m ms ih => exact .cons (.int m) ih
          exact q ms
        · obtain ⟨as, rfl, pd⟩ := tups_rep a2
          have tp : ∀ {as : List Addr} {L : List (List Int)}, Paired (fun a ns => SqT am.K (cut O H) a (ns.map V.int)) as L → (∀ l ∈ L, l.length = d) → ∀ x ∈ as.map V.ref, ∃ ns, TupI am.K H x ns ∧ ns.length = d := fun {as L} p => by
            induction p with
            | nil => exact fun _ x h => absurd h (by simp)
            | cons r _ ih =>
              intro hl x h
              rcases List.mem_cons.mp h with e | h
              · exact ⟨_, ⟨_, e, SqT.le Le.cutAll r⟩, hl _ (List.mem_cons_self ..)⟩
              · exact ih (fun l hl' => hl l (List.mem_cons_of_mem _ hl')) x h
          refine .inr ⟨_, _, rfl, SqL.of (cut_some.mp a1).2, tp pd hd, fun ys p hperm hpw hp => ?_⟩
          obtain ⟨bs, rfl, hb⟩ := perm_map_ref hperm
          obtain ⟨M, h1, h2⟩ := pd_perm hb pd
          refine k _ _ _ _ (hm M h1 (pd_pw (R := fun a b => ∀ n m, TupI am.K H (.ref a) n → TupI am.K H (.ref b) m → HT.lexLt m n = false) (fun a b x y f g r => r x y ⟨a, rfl, SqT.le Le.cutAll f⟩ ⟨b, rfl, SqT.le Le.cutAll g⟩) h2 (List.pairwise_map.mp hpw))) (same_new hp) (new_list hO hp ?_)
          have q : ∀ {bs : List Addr} {M : List (List Int)}, Paired (fun a ns => SqT am.K (cut O H) a (ns.map V.int)) bs M → RpAll am.K (cut O H) (bs.map V.ref) (M.map tupI) := fun {bs M} p => by
            induction p with
            | nil => exact .nil
            | cons r _ ih =>
              refine .cons (.tup r ?_) ih
              have q : ∀ ms : List Int, RpAll am.K (cut O H) (ms.map V.int) (ms.map .int) := fun ms => by
                induction ms with
                | nil => exact .nil
                | cons m ms ih => exact .cons (.int m) ih
              exact q _
          exact q h2
end
end V3
set_option Elab.async false
set_option linter.all false
set_option maxRecDepth 100000
set_option maxHeartbeats 4000000
namespace V3
open PySem PySem.Spec PyProof.Rows L2
def tEither (t t' : TE) : TE := fun σ H Q => t σ H Q ∨ t' σ H Q
section
variable {X : Cx}
theorem pe_or {e : Expr} {t t' : TE} (h : PE X e t) (h' : PE X e t') : PE X e (tEither t t') := ⟨fun pins s σ H Q I q => q.elim (h.run pins s σ H Q I) (h'.run pins s σ H Q I)⟩
theorem setT3 {P : Program} {w : World} (K : PySem.W.Frag) (hc : X.calm = true) (hu : X.A.units + 64 < cLine) (h : X.K = K := by rfl) (h2 : X.prog = P := by rfl) (h3 : X.w = w := by rfl) : CallR X (.type "set") (rSetOfT K P w) := h ▸ h2 ▸ h3 ▸ cr_setOfT hc hu
theorem lenT3 {P : Program} {w : World} (K : PySem.W.Frag) (h : X.K = K := by rfl) (h2 : X.prog = P := by rfl) (h3 : X.w = w := by rfl) : CallR X (.builtin "len") (GS.rLenT K P w) := h ▸ h2 ▸ h3 ▸ GS.call_lenT
end
section
variable {K : PySem.W.Frag} {C : Addr} {TL : List (Addr × Str)} {E : XK}
@[simp ↓] def mEither (m1 m2 : TE3) : TE3 := fun ρ n q e => m1 ρ n q e ∨ m2 ρ n q e
instance {t1 t2 : TE} {S1 S2 : List Nat} {m1 m2 : TE3} [h1 : LE K C TL E t1 S1 m1] [h2 : LE K C TL E t2 S2 m2] : LE K C TL E (tEither t1 t2) (S1 ++ S2) (mEither m1 m2) where
  s am ρ n σ H hE h Q q hm k := by
    rcases hm with hm | hm
    · exact .inl (h1.s am ρ n σ H hE h Q q hm fun fr u n' v H' hq f w r => k fr u n' v H' hq f w (r.sub fun a z => hidDem2 (fun i hi => List.mem_append_left _ hi) z))
    · exact .inr (h2.s am ρ n σ H hE h Q q hm fun fr u n' v H' hq f w r => k fr u n' v H' hq f w (r.sub fun a z => hidDem2 (fun i hi => List.mem_append_right _ hi) z))
/-- how many tuples of ints there are in a list without doubles -/
@[simp ↓] def mLenSetT (me : TE3) : TE3 := fun ρ n q e => me ρ n (fun _ u n1 => askL u fun xs => ∃ L : List (List Int), xs = L.map tupI ∧ L.length < 64 ∧ L.Nodup ∧ q false (.d (.int (L.length : Nat))) n1) e
theorem zip_fst {α β : Type} : ∀ {as : List α} {bs : List β}, as.length = bs.length → (as.zip bs).map (·.1) = as
  | [], [], _ => rfl
  | a :: as, b :: bs, h => by
    show a :: (as.zip bs).map (·.1) = _
    rw [zip_fst (by simpa using h)]
theorem zip_snd {α β : Type} : ∀ {as : List α} {bs : List β}, as.length = bs.length → (as.zip bs).map (·.2) = bs
  | [], [], _ => rfl
  | a :: as, b :: bs, h => by
    show b :: (as.zip bs).map (·.2) = _
    rw [zip_snd (by simpa using h)]
theorem pd_zip {α β : Type} {F : α → β → Prop} : ∀ {as : List α} {bs : List β}, Paired F as bs → as.length = bs.length ∧ ∀ p ∈ as.zip bs, F p.1 p.2
  | _, _, .nil => ⟨rfl, fun p h => absurd h (by simp)⟩
  | _, _, .cons r t => by
    obtain ⟨h1, h2⟩ := pd_zip t
    refine ⟨by rw [List.length_cons, List.length_cons, h1], fun p h => ?_⟩
    rcases List.mem_cons.mp h with e | h
    · rw [e]
      exact r
    · exact h2 p h
instance {P : Program} {w : World} {te : TE} {S : List Nat} {me : TE3} [he : LE K C TL E te S me] : LE K C TL E (tCB (GS.rLenT K P w) (tCons (tCB (rSetOfT K P w) (tCons te tNil)) tNil)) [] (mLenSetT me) where
  s am ρ n σ H hE h Q q hm k := by
    obtain ⟨rfl, rfl, rfl, rfl⟩ := id hE
    refine he.s am ρ n σ H hE h _ _ hm fun fr u n1 v H1 hq f1 w1 r1 => ?_
    have h1 := h.step f1 w1
    obtain ⟨xs, a, vs, rfl, rfl, a1, a2, L, rfl, hl, nd, hq⟩ := askL_rep hq r1.1
    obtain ⟨as, rfl, pd⟩ := tups_rep a2
    obtain ⟨ln, pz⟩ := pd_zip pd
    refine ⟨a, as.zip L, rfl, ?_, fun p hp => SqT.le Le.cutAll (pz p hp), by rw [List.length_zip, ln]; omega, fun p M hp h3 h4 => ?_⟩
    · have e : (as.zip L).map (fun p => V.ref p.1) = as.map V.ref := by
        rw [← zip_fst (as := as) (bs := L) ln, List.map_map, zip_fst ln]
        rfl
      rw [e]
      exact SqL.of (cut_some.mp a1).2
    · obtain ⟨f2, w2⟩ := fresh_step h1 hp (SetTO P w p M)
      refine ⟨p, M, rfl, upd_same, fun z hz => SqT.le (Le.of (same_new hp)) (SqT.le Le.cutAll (pz z (h3 z hz))), fun nd2 => ?_⟩
      have e : M.length = L.length := by
        rw [← List.length_map (f := fun z : Addr × List Int => z.2) (as := M)]
        refine GS.nodup_len nd2 nd (fun x hx => ?_) (fun x hx => ?_)
        · obtain ⟨z, hz, rfl⟩ := List.mem_map.mp hx
          have m := List.mem_map_of_mem (f := fun z : Addr × List Int => z.2) (h3 z hz)
          rw [zip_snd ln] at m
          exact m
        · rw [← zip_snd (as := as) (bs := L) ln] at hx
          obtain ⟨z, hz, rfl⟩ := List.mem_map.mp hx
          exact h4 z hz
      exact k _ _ n1 _ _ hq (f1.trans f2) w2 (.old (by rw [e]; exact Rp.int _))
end
end V3
set_option Elab.async false
set_option linter.all false
set_option maxRecDepth 100000
set_option maxHeartbeats 4000000
namespace V3
open PySem PySem.Spec PyProof.Rows L2
section
variable {K : PySem.W.Frag} {C : Addr} {TL : List (Addr × Str)} {E : XK}
/-! ### x.append(y.pop(k)) -/
theorem write_le {am : Am} {ρ : Ro} {n : Nat} {σ : L2.St} {H : Hp} {p : Addr} {i : Nat} {ds ds' : List D} {vs' : List V} (h : Rl am ρ n σ H) (hi : ρ[i]? = some (Sl.ow ds)) (hp : σ[i]? = some (some (V.ref p))) : Le (cut (Hid am ρ σ) H) (cut (Hid am (ρ.set i (.ow ds')) σ) (upd H p (.lst vs'))) := by
  have own : OwnAt ρ σ i p := ⟨⟨ds, hi⟩, hp⟩
  exact Le.cut (fun a z => .inl (by
    rcases z with z | ⟨j, z⟩
    · exact .inl z
    · exact .inr ⟨j, own_setS hi z⟩)) fun a o hn t e => by
      have ne : a ≠ p := fun z => hn (.inr ⟨i, by rw [z]; exact own⟩)
      rw [upd_ne ne]
      exact e
@[simp ↓] def mAppPop (i j : Nat) (me : TE3) : TS3 := fun F ρ n e => i ≠ j ∧ ask (owAt ρ i) fun ds => ask (owAt ρ j) fun es => me ρ n (fun _ u n1 => askI u fun k => ds.length < sizeLine ∧ popD es k fun x rest => F.nx ((ρ.set j (.ow rest)).set i (.ow (ds ++ [x]))) n1) e
instance (priority := high + 1) {te : TE} {i j : Nat} {S : List Nat} {me : TE3} [he : LE K C TL E te S me] : LS K C TL E (tDrop (tBM K "list" rAppend (tVar i) (tCons (tBM K "list" rPopAt (tVar j) (tCons te tNil)) tNil))) (mAppPop i j me) where
  s am ρ n σ H D F hE h en hm := by
    obtain ⟨rfl, rfl, rfl, rfl⟩ := id hE
    obtain ⟨nij, hm⟩ := hm
    obtain ⟨ds, e, hm⟩ := ask_some hm
    obtain ⟨es, e2, hm⟩ := ask_some hm
    have hi := owAt_eq e
    have hj := owAt_eq e2
    obtain ⟨p, vs, q1, q2, q3, q4⟩ := h.ow i ds hi
    obtain ⟨p2, ws, b1, b2, b3, b4⟩ := h.ow j es hj
    refine ⟨.ref p, q1, .inl ⟨rfl, vs, SqL.of q3⟩, .ref p2, b1, .inl ⟨rfl, ws, SqL.of b3⟩, he.s am ρ n σ H hE h _ _ hm fun fr u n1 v H1 hq f1 w1 r1 => ?_⟩
    have h1 := h.step f1 w1
    match u, hq, r1.1 with
    | .d (.int k), hq, r =>
      cases r
      obtain ⟨hz, hk, hq⟩ := hq
      obtain ⟨j', ej, hq⟩ := ask_some hq
      obtain ⟨x, ex, fl, hq⟩ := ask_some hq
      have e1 := h.keepOw f1 ⟨⟨ds, hi⟩, q1⟩ q3
      have e3 := h.keepOw f1 ⟨⟨es, hj⟩, b1⟩ b3
      have r4 := RpAll.le (h.cutLe0 f1) _ _ q4
      have r5 := RpAll.le (h.cutLe0 f1) _ _ b4
      obtain ⟨y, y1, y2⟩ := RpAll.get r5 ex
      refine ⟨p2, ws, k, j', y, rfl, rfl, e3, hk.1, hk.2, by rw [RpAll.len r5]; exact ixN_seq ej, y1, ?_⟩
      have h2 := h1.write hj b1 (RpAll.erase j' r5)
      have hi2 : (ρ.set j (.ow (es.eraseIdx j')))[i]? = some (Sl.ow ds) := by rw [List.getElem?_set_ne (Ne.symm nij)]; exact hi
      obtain ⟨p', vs', c1, c2, c3, c4⟩ := h2.ow i ds hi2
      rw [q1] at c1
      cases c1
      refine ⟨p, vs', y, rfl, rfl, c3, by rw [RpAll.len c4]; exact hz, en.nx _ n1 σ _ hq (h2.write hi2 q1 (RpAll.app c4 (.one ?_)))⟩
      exact Rp.le (write_le h1 hj b1) _ _ y2
/-! ### a, b, c = x, y, z -/
@[simp ↓] def mPar3 (S1 S2 S3 : List Nat) (i j l : Nat) (ma mb mc : TE3) : TS3 := fun F ρ n e => ma ρ n (fun f1 x n1 => mb ρ n1 (fun f2 y n2 => mc ρ n2 (fun f3 z n3 => if flatF f2 y = true then (if flatF f3 z = true then F.nx (bind3 S3 l f3 z (bind3 S2 j f2 y (bind3 S1 i f1 x ρ))) n3 else False) else False) e) e) e
instance {i j l : Nat} {ta tb tc : TE} {S1 S2 S3 : List Nat} {ma mb mc : TE3} [ha : LE K C TL E ta S1 ma] [hb : LE K C TL E tb S2 mb] [hc : LE K C TL E tc S3 mc] : LS K C TL E (tPar3 i j l (tCons ta (tCons tb (tCons tc tNil)))) (mPar3 S1 S2 S3 i j l ma mb mc) where
  s am ρ n σ H D F hE h en hm := by
    refine ha.s am ρ n σ H hE h _ _ hm fun fr x n1 v H1 hq f1 w1 r1 => ?_
    have h1 := h.step f1 w1
    refine hb.s am ρ n1 σ H1 hE h1 _ _ hq fun fr2 y n2 v2 H2 hq2 f2 w2 r2 => ?_
    have h2 := h1.step f2 w2
    refine hc.s am ρ n2 σ H2 hE h2 _ _ hq2 fun fr3 z n3 v3 H3 hq3 f3 w3 r3 => ?_
    obtain ⟨fl2, hq3⟩ := if_pos' hq3
    obtain ⟨fl3, hq3⟩ := if_pos' hq3
    refine ⟨v, v2, v3, rfl, en.nx _ n3 _ H3 hq3 ?_⟩
    exact bind_flat (bind_flat (bind_ok h f1 w1 i r1) f2 w2 S2 j (O := Hid am (dem S2 ρ) σ) (fun a z => .inl z) fl2 r2) f3 w3 S3 l (O := Hid am (dem S3 ρ) σ) (fun a z => .inl z) fl3 r3
/-! ### enumerate -/
def numD (ds : List D) : List D := (ds.zipIdx).map fun p => .tuple [.int (p.2 : Nat), p.1]
theorem numD_get {ds : List D} {i : Nat} {d : D} (h : (numD ds)[i]? = some d) : ∃ x, ds[i]? = some x ∧ d = .tuple [.int (i : Nat), x] := by
  unfold numD at h
  rw [List.getElem?_map, List.getElem?_zipIdx] at h
  cases e : ds[i]? with
  | none =>
    rw [e] at h
    cases h
  | some x =>
    rw [e] at h
    simp at h
    exact ⟨x, rfl, h.symm⟩
theorem numD_len (ds : List D) : (numD ds).length = ds.length := by
  unfold numD
  simp
theorem rp_num {am : Am} {O2 : Addr → Prop} {H2 H3 : Hp} {T : Addr} {i : Nat} {x : V} {d : D} (hO : ∀ a, O2 a → There H2 a) (hT : H2 T = none) (e : H3 = upd H2 T (.tup [.int (i : Nat), x])) (r : Rp am.K (cut O2 H2) x d) : Same H2 H3 ∧ Rp am.K (cut O2 H3) (.ref T) (.tuple [.int (i : Nat), d]) := by
  subst e
  have s := same_new (o := .tup [.int (i : Nat), x]) hT
  refine ⟨s, ?_⟩
  have nO : ¬ O2 T := fun z => by
    obtain ⟨o, q1, _⟩ := hO T z
    rw [hT] at q1
    cases q1
  refine .tup (xs := [.int (i : Nat), x]) (SqT.of (cut_some.mpr ⟨nO, upd_same⟩)) (.cons (Rp.int _) (.cons ?_ .nil))
  exact Rp.le (Le.cut (fun a z => .inl z) fun a o _ _ e => s a o e) _ _ r
theorem it_enum {am : Am} {O : Addr → Prop} {a : Addr} {vs : List V} {ds : List D} {H : Hp} (h : cut O H a = some (.lst vs)) (r : RpAll am.K (cut O H) vs ds) : ItOk am O (Ite am.K a) (numD ds) H := fun H2 O2 le th i => by
  have h2 := (cut_some.mp (le _ _ (fun ps z => by cases z) h)).2
  have r2 := RpAll.le le _ _ r
  refine ⟨fun d e => ?_, fun e => ⟨vs, SqL.of h2, by rw [RpAll.len r]; rw [numD_len] at e; exact e⟩⟩
  obtain ⟨x, e1, rfl⟩ := numD_get e
  obtain ⟨v, q1, q2⟩ := RpAll.get r2 e1
  refine ⟨⟨vs, v, SqL.of h2, q1⟩, fun y H3 w => ?_⟩
  obtain ⟨T, x', rfl, hT, e3, w⟩ := w
  have e4 := w vs (SqL.of h2)
  rw [q1] at e4
  cases e4
  exact rp_num th hT e3 q2
theorem it_enumT {am : Am} {O : Addr → Prop} {a : Addr} {vs : List V} {ds : List D} {H : Hp} (h : SqT am.K (cut O H) a vs) (r : RpAll am.K (cut O H) vs ds) : ItOk am O (GS.IeT am.K a) (numD ds) H := fun H2 O2 le th i => by
  have h2 := SqT.le Le.cutAll (SqT.le le h)
  have r2 := RpAll.le le _ _ r
  refine ⟨fun d e => ?_, fun e => ⟨vs, h2, by rw [RpAll.len r]; rw [numD_len] at e; exact e⟩⟩
  obtain ⟨x, e1, rfl⟩ := numD_get e
  obtain ⟨v, q1, q2⟩ := RpAll.get r2 e1
  refine ⟨⟨vs, v, h2, q1⟩, fun y H3 w => ?_⟩
  obtain ⟨T, x', rfl, hT, e3, w⟩ := w
  have e4 := w vs h2
  rw [q1] at e4
  cases e4
  exact rp_num th hT e3 q2
def iEnT (K : PySem.W.Frag) (ta : TA) : TI := fun σ H R => ta σ H fun vs H1 => ∃ a xs, vs = [.ref a] ∧ SqT K H1 a xs ∧ R (GS.IeT K a) H1
def iEn3 (K : PySem.W.Frag) (ta : TA) : TI := fun σ H R => iEnum K ta σ H R ∨ iEnT K ta σ H R
@[simp ↓] def mEn3 (ma : TA3) : TI3 := fun ρ n q e => ma ρ n (fun us n1 => match us with
    | [.d (.list ds)] => q (numD ds) n1
    | _ => False) e ∨ ma ρ n (fun us n1 => match us with
    | [.d (.tuple ds)] => q (numD ds) n1
    | _ => False) e
instance {ta : TA} {S : List Nat} {ma : TA3} [ha : LA K C TL E ta S ma] : LI K C TL E (iEn3 K ta) S (mEn3 ma) where
  s am ρ n σ H hE h R q hm k := by
    obtain ⟨rfl, rfl, rfl, rfl⟩ := id hE
    rcases hm with hm | hm
    · refine .inl (ha.s am ρ n σ H hE h _ _ hm fun us n1 vs H1 hq f1 w1 r1 => ?_)
      match us, hq, r1 with
      | [.d (.list ds)], hq, .cons r .nil =>
        cases r with
        | lst a1 a2 => exact ⟨_, _, rfl, SqL.of (cut_some.mp a1).2, k _ n1 _ H1 hq f1 w1 (it_enum a1 a2)⟩
    · refine .inr (ha.s am ρ n σ H hE h _ _ hm fun us n1 vs H1 hq f1 w1 r1 => ?_)
      match us, hq, r1 with
      | [.d (.tuple ds)], hq, .cons r .nil =>
        cases r with
        | tup a1 a2 => exact ⟨_, _, rfl, SqT.le Le.cutAll a1, k _ n1 _ H1 hq f1 w1 (it_enumT a1 a2)⟩
end
section
variable {X : Cx} {K : PySem.W.Frag}
theorem enum3 (K : PySem.W.Frag) {e : Expr} {ta : TA} {p pos tpos : Pos} {elts : List Expr} {kk : Nat} (hg : Gl X "enumerate") (hm : X.mg "enumerate" = none) (ha : PA X [e] ta) (hs : starEach [e] X.env = [(false, eval e X.env)] := by rfl) (h : X.K = K := by rfl) :
    PI X (.Tuple elts kk tpos) (.Call (.Name "enumerate" p) [e] [] pos) (iEn3 K ta) := by
  subst h
  exact ⟨fun pins s σ H R I h => h.elim ((pi_enum hg hm ha hs).run pins s σ H R I) ((GS.pi_enumT hg hm ha hs).run pins s σ H R I)⟩
theorem bm3 (K : PySem.W.Frag) {o e : Expr} {es : List Expr} {to : TE} {t : TA} {name : Str} {apos cpos : Pos} {T id : String} {r : V → List V → Hp → VK → Prop} (pa : PlainAttrs T) (slot : Slot T name id) (hty : typeOf (.builtin id) = pure (.type "method_descriptor")) (hm : MtR X id r) (ho : PE X o to) (ha : PA X (e :: es) t)
    (hbase : attributeBase o name X.env (eval o X.env) = eval o X.env := by rfl)
    (hfew : ((backTo cpos (starEach (e :: es) X.env)).all (fun x => !x.1) && (backToKw cpos (keywordEach [] X.env)).all (fun x => x.1.isSome)
      && decide ((e :: es).length + ([] : List Keyword).length + (if ([] : List Keyword).isEmpty then 0 else 1) < 30)) = true := by rfl)
    (hline : (apos.endLine == cpos.line) = true := by rfl) (hs : starEach (e :: es) X.env = (false, eval e X.env) :: starEach es X.env := by rfl) (hplain : (backTo cpos (starEach es X.env)).any (·.1) = false := by rfl) (h : X.K = K := by rfl) :
    PE X (.Call (.Attribute o name apos) (e :: es) [] cpos) (tBM K T r to t) := by
  subst h
  exact pe_bm pa slot hty hm ho ha hbase hfew hline hs hplain
end
end V3
set_option Elab.async false
set_option linter.all false
set_option maxRecDepth 100000
set_option maxHeartbeats 4000000
namespace V3
open PySem PySem.Spec PyProof.Rows L2
section
variable {K : PySem.W.Frag} {C : Addr} {TL : List (Addr × Str)} {E : XK}
/-! ### list(reversed(x)) -/
@[simp ↓] def mListRev (me : TE3) : TE3 := fun ρ n q e => me ρ n (fun _ u n1 => match u with
    | .d (.list xs) => q true (.d (.list xs.reverse)) n1
    | .d (.tuple xs) => q true (.d (.list xs.reverse)) n1
    | _ => False) e
instance {te : TE} {S : List Nat} {me : TE3} [he : LE K C TL E te S me] : LE K C TL E (tListRev K te) S (mListRev me) where
  s am ρ n σ H hE h Q q hm k := by
    obtain ⟨rfl, rfl, rfl, rfl⟩ := id hE
    refine he.s am ρ n σ H hE h _ _ hm fun fr u n1 v H1 hq f1 w1 r1 => ?_
    have h1 := h.step f1 w1
    match u, hq, r1.1 with
    | .d (.list xs), hq, r =>
      cases r with
      | lst a1 a2 => exact ⟨_, _, rfl, .inl (SqL.of (cut_some.mp a1).2), fun p hp => k _ _ n1 _ _ hq (f1.trans (.of (same_new hp))) (w1.same (same_new hp)) ((new_list (hid_there h1 S) hp (RpAll.rev a2)).back h f1 h1)⟩
    | .d (.tuple xs), hq, r =>
      cases r with
      | tup a1 a2 => exact ⟨_, _, rfl, .inr (SqT.le Le.cutAll a1), fun p hp => k _ _ n1 _ _ hq (f1.trans (.of (same_new hp))) (w1.same (same_new hp)) ((new_list (hid_there h1 S) hp (RpAll.rev a2)).back h f1 h1)⟩
/-! ### sorted(set(ints)) -/
@[simp ↓] def mSortSet (me : TE3) : TE3 := fun ρ n q e => me ρ n (fun _ u n1 => askL u fun xs => ∃ ns : List Int, xs = ns.map PyData.int ∧ ns.length < 64 ∧
  ∀ line : List Int, line.Pairwise (· < ·) → (∀ j, j ∈ line ↔ j ∈ ns) → line.length ≤ ns.length → q true (.d (.list (line.map PyData.int))) n1) e
theorem ints_rep {K : PySem.W.Frag} {H : Hp} (ns : List Int) : RpAll K H (ns.map V.int) (ns.map PyData.int) := by
  induction ns with
  | nil => exact .nil
  | cons m ms ih => exact .cons (.int m) ih
instance (priority := high) {w : World} {te : TE} {S : List Nat} {me : TE3} [he : LE K C TL E te S me] : LE K C TL E (tCB (rSortedSet w) (tCons (tCB (GS.rSetL K w) (tCons te tNil)) tNil)) [] (mSortSet me) where
  s am ρ n σ H hE h Q q hm k := by
    obtain ⟨rfl, rfl, rfl, rfl⟩ := id hE
    refine he.s am ρ n σ H hE h _ _ hm fun fr u n1 v H1 hq f1 w1 r1 => ?_
    have h1 := h.step f1 w1
    obtain ⟨xs, a, vs, rfl, rfl, a1, a2, ns, rfl, hl, hq⟩ := askL_rep hq r1.1
    have e := rp_ints a2
    subst e
    refine ⟨a, ns, rfl, SqL.of (cut_some.mp a1).2, by omega, fun p m hp hm => ?_⟩
    obtain ⟨f2, w2⟩ := fresh_step h1 hp (SetO w p (fun j => decide (j ∈ ns)) m)
    have h2 := h1.step f2 w2
    refine ⟨p, _, m, rfl, upd_same, by omega, fun line l2 up mem hlen hp2 => ?_⟩
    obtain ⟨f3, w3⟩ := fresh_step h2 hp2 (.lst (line.map V.int))
    refine k _ _ n1 _ _ (hq line up (fun j => by rw [mem j]; simp) (by omega)) ((f1.trans f2).trans f3) w3 ((new_list (hid_there h2 []) hp2 (ints_rep line)).back h (f1.trans f2) h2)
/-! ### x.index(y), among ints -/
@[simp ↓] def mIndex (mo me : TE3) : TE3 := fun ρ n q e => mo ρ n (fun _ u n1 => askL u fun xs => me ρ n1 (fun _ w n2 => askI w fun k => ∃ (ns : List Int) (j : Nat), xs = ns.map PyData.int ∧ ns[j]? = some k ∧ (∀ i, i < j → ns[i]? ≠ some k) ∧ q false (.d (.int (j : Nat))) n2) e) e
theorem ints_flat (ns : List Int) : (ns.map V.int).all flatV = true := by
  induction ns with
  | nil => rfl
  | cons m ms ih =>
    rw [List.map_cons, List.all_cons, ih]
    rfl
instance (priority := high) {to te : TE} {S1 S2 : List Nat} {mo me : TE3} [ho : LE K C TL E to S1 mo] [he : LE K C TL E te S2 me] : LE K C TL E (tBM K "list" (rIndex K) to (tCons te tNil)) [] (mIndex mo me) where
  s am ρ n σ H hE h Q q hm k := by
    obtain ⟨rfl, rfl, rfl, rfl⟩ := id hE
    refine ho.s am ρ n σ H hE h _ _ hm fun fr u n1 v H1 hq f1 w1 r1 => ?_
    have h1 := h.step f1 w1
    obtain ⟨xs, a, vs, rfl, rfl, a1, a2, hq⟩ := askL_rep hq r1.1
    refine ⟨.inl ⟨rfl, vs, SqL.of (cut_some.mp a1).2⟩, ?_⟩
    refine he.s am ρ n1 σ H1 hE h1 _ _ hq fun fr2 u2 n2 v2 H2 hq2 f2 w2 r2 => ?_
    obtain ⟨i, rfl, rfl, ns, j, rfl, hj, hno, hq2⟩ := askI_rep hq2 r2.1
    have e := rp_ints a2
    subst e
    have a3 : Rp am.K (cut (Hid am (dem S1 ρ) σ) H2) (.ref a) (.list (ns.map PyData.int)) := r1.1.le (rl_cutS h1 f2 (S' := S1) fun i hi => hi)
    cases a3 with
    | lst b1 b2 =>
      have e := rp_ints b2
      subst e
      refine ⟨a, ns.map V.int, .int i, j, .int i, rfl, rfl, SqL.of (cut_some.mp b1).2, rfl, ints_flat _, by rw [List.getElem?_map, hj]; rfl, by simp [eqV], fun m z' hm hz => ?_, k _ _ n2 _ H2 hq2 (f1.trans f2) w2 (.old (Rp.int _))⟩
      rw [List.getElem?_map] at hz
      cases e : ns[m]? with
      | none =>
        rw [e] at hz
        cases hz
      | some y =>
        rw [e] at hz
        cases hz
        have := hno m hm
        rw [e] at this
        have ne : ¬ y = i := fun z => this (by rw [z])
        simp [eqV, ne]
/-! ### f(a, k = b) -/
@[simp ↓] def mCallK (fr : Bool) (sp : VSp) (i j : Nat) (ma mk : TA3) : TE3 := fun ρ n q e => ma ρ n (fun us n1 => mk ρ n1 (fun ws n2 => (us.length = i ∧ ws.length = j) ∧ sp (us ++ ws) n2 (fun u n3 => q fr u n3) e) e) e
@[simp ↓] def mCallK0 (fr : Bool) (sp : VSp) (i j : Nat) (ma mk : TA3) : TE3 := fun ρ n q e => ma ρ n (fun us n1 => mk ρ n1 (fun ws n2 => (us.length = i ∧ ws.length = j) ∧ sp (us ++ ws) n2 (fun u n3 => q fr u n3) (fun _ => False)) e) e
theorem rep_app {am : Am} {O : Addr → Prop} {H : Hp} : ∀ {vs ws : List V} {us xs : List U}, RepA am O H vs us → RepA am O H ws xs → RepA am O H (vs ++ ws) (us ++ xs)
  | _, _, _, _, .nil, h => h
  | _, _, _, _, .cons r t, h => .cons r (rep_app t h)
theorem repA_sub {am : Am} {O O' : Addr → Prop} {H : Hp} {vs : List V} {us : List U} (k : ∀ a, O' a → O a) (r : RepA am O H vs us) : RepA am O' H vs us := r.le (Le.cutSub k)
instance (priority := high) {ta tk : TA} {S1 S2 : List Nat} {ma mk : TA3} {fr : Bool} {sp : VSp} {i j : Nat} [ha : LA K C TL E ta S1 ma] [hk : LA K C TL E tk S2 mk] : LE K C TL E (tCallK (toSp K C TL fr sp) (GS.gA i j) E ta tk) (S1 ++ S2) (mCallK fr sp i j ma mk) where
  s am ρ n σ H hE h Q q hm k := by
    obtain ⟨rfl, rfl, rfl, rfl⟩ := id hE
    refine ha.s am ρ n σ H hE h _ _ hm fun us n1 vs H1 hq f1 w1 r1 => ?_
    have h1 := h.step f1 w1
    refine hk.s am ρ n1 σ H1 hE h1 _ _ hq fun ws n2 zs H2 hq2 f2 w2 r2 => ?_
    obtain ⟨⟨l1, l2⟩, hq2⟩ := hq2
    have e : GS.gA i j vs zs = (vs ++ zs) ++ [] := by
      unfold GS.gA
      rw [if_pos ⟨by rw [rep_len r1, l1], by rw [rep_len r2, l2]⟩, List.append_nil]
    rw [e]
    exact call_ok h (f1.trans f2) w2 (rep_app (r1.le (rl_cutS h1 f2 fun i hi => List.mem_append_left _ hi)) (r2.le (rl_cutS (h1.step f2 w2) (FrR.refl _ _) fun i hi => List.mem_append_right _ hi))) hq2 k fun C' H' n' f w z => h.ex C' H' n' (gr_step h f) w z
instance {ta tk : TA} {S1 S2 : List Nat} {ma mk : TA3} {fr : Bool} {sp : VSp} {i j : Nat} {E' : XK} [ha : LA K C TL E ta S1 ma] [hk : LA K C TL E tk S2 mk] : LE K C TL E (tCallK (toSp K C TL fr sp) (GS.gA i j) E' ta tk) (S1 ++ S2) (mCallK0 fr sp i j ma mk) where
  s am ρ n σ H hE h Q q hm k := by
    obtain ⟨rfl, rfl, rfl, rfl⟩ := id hE
    refine ha.s am ρ n σ H hE h _ _ hm fun us n1 vs H1 hq f1 w1 r1 => ?_
    have h1 := h.step f1 w1
    refine hk.s am ρ n1 σ H1 hE h1 _ _ hq fun ws n2 zs H2 hq2 f2 w2 r2 => ?_
    obtain ⟨⟨l1, l2⟩, hq2⟩ := hq2
    have e : GS.gA i j vs zs = (vs ++ zs) ++ [] := by
      unfold GS.gA
      rw [if_pos ⟨by rw [rep_len r1, l1], by rw [rep_len r2, l2]⟩, List.append_nil]
    rw [e]
    exact call_ok h (f1.trans f2) w2 (rep_app (r1.le (rl_cutS h1 f2 fun i hi => List.mem_append_left _ hi)) (r2.le (rl_cutS (h1.step f2 w2) (FrR.refl _ _) fun i hi => List.mem_append_right _ hi))) hq2 k fun C' H' n' f w z => z.elim
/-! ### {} -/
@[simp ↓] def mDnew : TE3 := fun _ n q _ => q false (.d (.dict [])) n
end
end V3
set_option Elab.async false
set_option linter.all false
set_option maxRecDepth 100000
set_option maxHeartbeats 4000000
namespace V3
open PySem PySem.Spec PyProof.Rows L2
section
variable {X : Cx}
theorem sortK3 {P : Program} {w : World} (K : PySem.W.Frag) {mg : Str → Option Value} {base : Heap} {k d : Nat} (hd : 1 ≤ d) (hr : Room (k + 1) X.A) (h : X.K = K := by rfl) (h1 : X.prog = P := by rfl) (h2 : X.w = w := by rfl) (h3 : X.mg = mg := by rfl) (h4 : X.base = base := by rfl) :
    CallRK X (.builtin "sorted") ["key"] (GS.rSortK P w K mg base k d) := h ▸ h1 ▸ h2 ▸ h3 ▸ h4 ▸ GS.cr_sortKey hd hr
theorem setL3 (K : PySem.W.Frag) (w : World) (hc : X.calm = true) (h : X.K = K := by rfl) (h2 : X.w = w := by rfl) : CallR X (.type "set") (GS.rSetL K w) := h ▸ h2 ▸ GS.cr_setL hc
theorem sortedSet3 (w : World) (hc : X.calm = true) (h2 : X.w = w := by rfl) : CallR X (.builtin "sorted") (rSortedSet w) := h2 ▸ cr_sortedSet hc
theorem idx3 (K : PySem.W.Frag) (h : X.K = K := by rfl) : MtR X "list.index" (rIndex K) := h ▸ mt_index
end
section
variable {K : PySem.W.Frag} {C : Addr} {TL : List (Addr × Str)} {E : XK}
instance : LE K C TL E tDNewK [] mDnew where
  s am ρ n σ H hE h Q q hm k := fun p hp => by
    obtain ⟨f2, w2⟩ := fresh_step h hp (.dK [])
    exact k _ _ n _ _ hm f2 w2 (.old (Rp.dnil (cut_new h [] hp _)))
/-! ### sorted(xs, key = f), f a lambda that makes tuples of ints -/
def spKeyD (K : PySem.W.Frag) (dom : D → Prop) (kz : D → List Int) : Sp := fun vs H Q _ => ∃ (v : V) (x : D), vs = [v] ∧ dom x ∧ Rp K H v x ∧ ∀ t, H t = none → Q (.ref t) (upd H t (.tup ((kz x).map V.int)))
def isTup : D → Bool
  | .tuple _ => true
  | _ => false
@[simp] theorem isTup_t (xs : List D) : isTup (.tuple xs) = true := rfl
@[simp ↓] def mSortK (P : Program) (w : World) (K : PySem.W.Frag) (mg : Str → Option Value) (base : Heap) (k d : Nat) (qn : Str) (params : Arguments) (body : Expr) (scope : Scope) (me : TE3) : TE3 := fun ρ n q e => me ρ n (fun _ u n1 => askL u fun xs => ∃ (dom : D → Prop) (kz : D → List Int),
  GS.LamRun P w K mg base CX0 k qn params body scope 1 (spKeyD K dom kz) ∧ (∀ x ∈ xs, dom x ∧ (kz x).length = d ∧ isTup x = true) ∧ ∀ ys : List D, ys.Perm xs → q true (.d (.list ys)) n1) e
theorem rp_perm {K : PySem.W.Frag} {H : Hp} {vs ws : List V} (p : ws.Perm vs) : ∀ {ds : List D}, RpAll K H vs ds → ∃ es : List D, es.Perm ds ∧ RpAll K H ws es := by
  induction p with
  | nil => exact fun r => ⟨_, .refl _, r⟩
  | cons x _ ih =>
    intro ds r
    cases r with
    | cons r1 r2 =>
      obtain ⟨es, e1, e2⟩ := ih r2
      exact ⟨_ :: es, e1.cons _, .cons r1 e2⟩
  | swap x y l =>
    intro ds r
    cases r with
    | cons r1 r2 =>
      cases r2 with
      | cons r3 r4 => exact ⟨_, .swap _ _ _, .cons r3 (.cons r1 r4)⟩
  | trans _ _ ih1 ih2 =>
    intro ds r
    obtain ⟨es, e1, e2⟩ := ih2 r
    obtain ⟨fs, f1, f2⟩ := ih1 e2
    exact ⟨fs, f1.trans e1, f2⟩
theorem rp_mem {K : PySem.W.Frag} {H : Hp} : ∀ {vs : List V} {ds : List D} {v : V}, RpAll K H vs ds → v ∈ vs → ∃ x ∈ ds, Rp K H v x
  | _, [], _, h, m => by
    cases h
    cases m
  | _, d :: ds, v, h, m => by
    cases h with
    | cons h1 h2 =>
      rcases List.mem_cons.mp m with z | z
      · exact ⟨d, List.mem_cons_self .., z ▸ h1⟩
      · obtain ⟨x, q1, q2⟩ := rp_mem h2 z
        exact ⟨x, List.mem_cons_of_mem _ q1, q2⟩
open Classical in
instance (priority := high) {P : Program} {w : World} {mg : Str → Option Value} {base : Heap} {k d : Nat} {qn : Str} {params : Arguments} {body : Expr} {scope : Scope} {te : TE} {S : List Nat} {me : TE3} [he : LE K C TL E te S me] :
    LE K C TL E (tCKw (GS.rSortK P w K mg base k d) (tCons te tNil) (tCons (GS.tLamV TL qn params body scope) tNil)) S (mSortK P w K mg base k d qn params body scope me) where
  s am ρ n σ H hE h Q q hm kk := by
    obtain ⟨rfl, rfl, rfl, rfl⟩ := id hE
    refine he.s am ρ n σ H hE h _ _ hm fun fr u n1 v H1 hq f1 w1 r1 => ?_
    have h1 := h.step f1 w1
    obtain ⟨xs, a, vs, rfl, rfl, a1, a2, dom, kz, run, hdom, hq⟩ := askL_rep hq r1.1
    refine ⟨h1.wd.tabs, fun H2 f c' ext tabs hf hc => ?_⟩
    have le12 : Le H1 H2 := fun b o t e => ext b o e t
    have hc2 : ∀ (o : HO), Le H1 (upd H2 f o) := fun o => le12.trans (Le.of (same_new hf))
    have cutle : ∀ (O : Addr → Prop) (o : HO), Le (cut O H1) (cut O (upd H2 f o)) := fun O o => Le.cut (fun a z => .inl z) fun a o' _ t e => hc2 o a o' t e
    let kv : V → D := fun v => if g : ∃ x ∈ xs, Rp am.K (cut (Hid am (dem S ρ) σ) H1) v x then choose g else .none
    have kvs : ∀ v ∈ vs, kv v ∈ xs ∧ Rp am.K (cut (Hid am (dem S ρ) σ) H1) v (kv v) := fun v hv => by
      have g := rp_mem a2 hv
      have e : kv v = choose g := dif_pos g
      rw [e]
      exact ⟨(choose_spec g).1, (choose_spec g).2⟩
    refine ⟨a, f, c', qn, params, body, scope, vs, fun v => kz (kv v), spKeyD am.K dom kz, rfl, rfl, SqL.of ?_, fun v hv => ?_, upd_same, same_new hf _ _ hc, run, fun v hv => ?_, fun ys p H3 s3 hp perm _ => ?_⟩
    · exact hc2 _ _ _ (fun ps z => by cases z) (cut_some.mp a1).2
    · obtain ⟨m1, m2⟩ := kvs v hv
      obtain ⟨_, _, it⟩ := hdom _ m1
      cases e : kv v with
      | tuple ds =>
        rw [e] at m2
        cases m2
        exact ⟨_, rfl⟩
      | _ =>
        rw [e] at it
        cases it
    · obtain ⟨m1, m2⟩ := kvs v hv
      obtain ⟨d1, d2, _⟩ := hdom _ m1
      refine ⟨d2, fun H4 s4 => ⟨v, kv v, rfl, d1, ?_, fun t ht => ⟨t, rfl, same_new ht, upd_same⟩⟩⟩
      exact Rp.le (Le.cutAll.trans ((hc2 _).trans (Le.of s4))) _ _ m2
    · have f4 : FrR am.R H1 (upd H3 p (.lst ys)) := .le ((hc2 _).trans ((Le.of s3).trans (Le.of (same_new hp))))
      have w4 : Wd am.R am.TL (upd H3 p (.lst ys)) n1 := {
        hid := fun a z => ((hc2 _).trans ((Le.of s3).trans (Le.of (same_new hp)))).there (w1.hid a z)
        tabs := (tabs.ext (same_new hf)).ext fun b o e => same_new hp b o (s3 b o e)
        dr := fun d g c q => by
          obtain ⟨b1, b2, b3, t, b4, b5⟩ := w1.dr d g c q
          obtain ⟨gs, cs, m, c1, c2, c3, r⟩ := b5
          have kp := (hc2 (GS.LamO c' qn params body scope f)).trans ((Le.of s3).trans (Le.of (same_new (o := .lst ys) hp)))
          exact ⟨b1, b2, b3, t, b4, gs, cs, m, kp _ _ (fun ps z => by cases z) c1, kp _ _ (fun ps z => by cases z) c2, kp _ _ (fun ps z => by cases z) c3, r⟩ }
      obtain ⟨es, e1, e2⟩ := rp_perm perm a2
      have np : New H1 p := fun ⟨o, q1, q2⟩ => by
        have z := s3 _ _ (hc2 _ _ _ q2 q1)
        rw [hp] at z
        cases z
      have no : ¬ Hid am (dem S ρ) σ p := (h1.dem S).new np
      have L : Le (cut (Hid am (dem S ρ) σ) H1) (cut (Hid am (dem S ρ) σ) (upd H3 p (.lst ys))) := Le.cut (fun a z => .inl z) fun a o' _ t e => same_new hp _ _ (s3 _ _ (hc2 _ _ _ t e))
      refine kk _ _ n1 _ _ (hq es e1) (f1.trans f4) w4 (RepV.back h f1 h1 ⟨Rp.lst (cut_some.mpr ⟨no, upd_same⟩) (RpAll.le L _ _ e2), fun _ => ⟨p, ys, es, rfl, rfl, np, upd_same, ?_⟩⟩)
      refine RpAll.le (Le.cut (fun a z => ?_) fun a o' _ t e => same_new hp _ _ (s3 _ _ (hc2 _ _ _ t e))) _ _ e2
      rcases z with z | z
      · exact .inr (z ▸ np)
      · exact .inl z
end
end V3
set_option Elab.async false
set_option linter.all false
set_option maxRecDepth 100000
set_option maxHeartbeats 4000000
/-! isinstance(_law_caught(lambda: a call), X), told by values -/
namespace V3
open PySem PySem.Spec PyProof.Rows L2 G21
/-- what is known of a class of refusals -/
class ExcF (K : PySem.W.Frag) (CS X : Addr) : Prop where
  x : ExcC K X
  kit : PySem.W.kitOne K (.ref X) (.ref X) = some true
  exm : PySem.W.exmOne K (.ref X) (.ref CS) = some true
@[simp] def Sl.frz : Sl → Sl
  | .no => .no
  | .fz (.d x) => .fz (.d x)
  | .fz (.dw xs) => .fz (.dw xs)
  | .fz (.tb f ns) => .fz (.tb f ns)
  | .fz .dr => .no
  | .ow ds => .fz (.d (.list ds))
@[simp] def frzRo : Ro → Ro
  | [] => []
  | s :: ρ => s.frz :: frzRo ρ
theorem frz_get : ∀ (ρ : Ro) (i : Nat), (frzRo ρ)[i]? = (ρ[i]?).map Sl.frz
  | [], i => by simp
  | s :: ρ, 0 => by simp
  | s :: ρ, i + 1 => by simp [frz_get ρ i]
theorem frz_len : ∀ ρ : Ro, (frzRo ρ).length = ρ.length
  | [] => rfl
  | s :: ρ => by simp [frz_len ρ]
@[simp ↓] def mCaught (X : Addr) (me : TE3) : TE3 := fun ρ n q _ => me (frzRo ρ) n (fun _ _ _ => False) (fun c => c = X ∧ q false (.d (.bool true)) n)
theorem frz_ow {s : Sl} {ds : List D} : s.frz ≠ .ow ds := by
  cases s with
  | no => intro z; cases z
  | fz u => cases u <;> (intro z; cases z)
  | ow ds => intro z; cases z
section
variable {K : PySem.W.Frag} {C : Addr} {TL : List (Addr × Str)} {E : XK}
instance (priority := high) {CS X : Addr} {t : XK → TE} {S : List Nat} {me : TE3} [hf : ExcF K CS X] [ht : ∀ E' : XK, LE K C TL E' (t E') S me] : LE K C TL E (tCB (rIsT K) (tCons (LamX.tLam TL (TTc K CS) t) (tCons (tC (.ref X)) tNil))) [] (mCaught X me) where
  s am ρ n σ H hE h Q q hm k := by
    obtain ⟨rfl, rfl, rfl, rfl⟩ := id hE
    refine ⟨h.wd.tabs, fun H1 eN T1 => ?_⟩
    let S0 := List.range ρ.length
    have hd := h.dem S0
    have low : ∀ a, ¬ ∃ i, OwnAt (frzRo ρ) σ i a := fun a ⟨i, ⟨ds, e⟩, _⟩ => by
      rw [frz_get] at e
      cases z : ρ[i]? with
      | none =>
        rw [z] at e
        cases e
      | some s =>
        rw [z] at e
        exact frz_ow (Option.some.inj e)
    let E1 : XK := fun cls d H' => d = none ∧ PySem.W.exmOne am.K cls (.ref CS) = some true ∧ ∀ a, H' a = none → (tCons (tC (.ref X)) tNil) σ (upd H' a (GS.ExT cls a)) (fun xs H2 => rIsT am.K (.ref a :: xs) H2 Q)
    let R1 : RR := { dr := none, hid := am.R.hid }
    let am1 : Am := { am with R := R1, Hs := H1, O0 := fun _ => False, E := E1, e := fun c => c = X ∧ q false (.d (.bool true)) n }
    have st1 : ∀ b o, (∀ ps, o ≠ HO.tbl ps) → H b = some o → H1 b = some o := fun b o z e => eN b o e z
    have w1 : Wd am1.R am1.TL H1 n := {
      hid := fun a z => by
        obtain ⟨o, q1, q2⟩ := h.wd.hid a z
        exact ⟨o, st1 a o q2 q1, q2⟩
      tabs := T1
      dr := fun d g c z => by cases z }
    have lec : Le (cut (Hid am (dem S0 ρ) σ) H) (cut (Hid am1 (frzRo ρ) σ) H1) := Le.cut (fun a z => by
      rcases z with z | z
      · exact .inl (.inl z)
      · exact absurd z (low a)) fun a o _ t e => st1 a o t e
    have r1 : Rl am1 (frzRo ρ) n σ H1 := {
      len := by rw [frz_len, h.len]
      fz := fun i u e => by
        rw [frz_get] at e
        cases z : ρ[i]? with
        | none =>
          rw [z] at e
          cases e
        | some s =>
          rw [z] at e
          have e := Option.some.inj e
          have hi : i ∈ S0 := List.mem_range.mpr (List.getElem?_eq_some_iff.mp z).1
          have ez : (dem S0 ρ)[i]? = some s.fzd := by
            rw [dem_get, z]
            show some (if i ∈ S0 then s.fzd else s) = _
            rw [if_pos hi]
          cases s with
          | no => cases e
          | fz u' =>
            obtain ⟨v, q1, q2⟩ := hd.fz i u' ez
            cases u' with
            | d x =>
              cases e
              exact ⟨v, q1, Rp.le lec _ _ q2⟩
            | dw xs =>
              cases e
              obtain ⟨f, a, dx, t, h1, h2, h3⟩ := q2
              exact ⟨v, q1, f, a, dx, t, h1, lec _ _ (fun ps => by intro z; cases z) h2, Rp.le lec _ _ h3⟩
            | tb f ns =>
              cases e
              obtain ⟨a, kvs, h1, h2, h3⟩ := q2
              exact ⟨v, q1, a, kvs, h1, lec _ _ (fun ps => by intro z; cases z) h2, h3⟩
            | dr => cases e
          | ow ds =>
            cases e
            obtain ⟨v, q1, q2⟩ := hd.fz i (.d (.list ds)) ez
            exact ⟨v, q1, Rp.le lec _ _ q2⟩
      ow := fun i ds e => by
        rw [frz_get] at e
        cases z : ρ[i]? with
        | none =>
          rw [z] at e
          cases e
        | some s =>
          rw [z] at e
          exact absurd (Option.some.inj e) frz_ow
      nd := fun i j p a _ => absurd ⟨i, a⟩ (low p)
      od := fun d g c z => by cases z
      gr := ⟨fun b o _ _ e => e, fun b z => z⟩
      wd := w1
      ex := fun c H' n' g w ⟨z, hq⟩ => by
        subst z
        refine ⟨rfl, hf.exm, fun a ha => ?_⟩
        have sm : Same H' (upd H' a (GS.ExT (.ref c) a)) := same_new ha
        refine ⟨a, c, c, true, rfl, hf.x, upd_same, hf.kit, ?_⟩
        have st : ∀ b o, (∀ ps, o ≠ HO.tbl ps) → H b = some o → upd H' a (GS.ExT (.ref c) a) b = some o := fun b o t e => sm _ _ (g.1 b o (fun z => z) t (st1 b o t e))
        have w2 := w.same sm
        refine k false (.d (.bool true)) n (.bl true) _ hq ⟨fun b o _ t e => st b o t e, fun b ⟨o, e, t⟩ => ⟨o, st b o t e, t⟩⟩ ⟨w2.hid, w2.tabs, fun d g' c' z => ?_⟩ (.old (Rp.bl true))
        obtain ⟨a1, a2, a3, t, ht, hD⟩ := h.wd.dr d g' c' z
        refine ⟨a1, a2, a3, t, ht, ?_⟩
        obtain ⟨gs, cs, m, z1, z2, z3, r⟩ := hD
        exact ⟨gs, cs, m, st _ _ (fun ps => by intro z; cases z) z1, st _ _ (fun ps => by intro z; cases z) z2, st _ _ (fun ps => by intro z; cases z) z3, r⟩ }
    exact (ht E1).s am1 (frzRo ρ) n σ H1 ⟨rfl, rfl, rfl, rfl⟩ r1 _ (fun _ _ _ => False) hm fun fr u n' v H' z _ _ _ => z.elim
end
end V3
set_option Elab.async false
set_option linter.all false
set_option maxRecDepth 100000
set_option maxHeartbeats 4000000
/-! isinstance(_law_caught(lambda: f(..)), X), where the arguments may draw -/
namespace V3
open PySem PySem.Spec PyProof.Rows L2 G21
@[simp] def Sl.frd : Sl → Sl
  | .no => .no
  | .fz (.d x) => .fz (.d x)
  | .fz (.dw xs) => .fz (.dw xs)
  | .fz (.tb f ns) => .fz (.tb f ns)
  | .fz .dr => .fz .dr
  | .ow ds => .fz (.d (.list ds))
@[simp] def frdRo : Ro → Ro
  | [] => []
  | s :: ρ => s.frd :: frdRo ρ
theorem frd_get : ∀ (ρ : Ro) (i : Nat), (frdRo ρ)[i]? = (ρ[i]?).map Sl.frd
  | [], i => by simp
  | s :: ρ, 0 => by simp
  | s :: ρ, i + 1 => by simp [frd_get ρ i]
theorem frd_len : ∀ ρ : Ro, (frdRo ρ).length = ρ.length
  | [] => rfl
  | s :: ρ => by simp [frd_len ρ]
theorem frd_ow {s : Sl} {ds : List D} : s.frd ≠ .ow ds := by
  cases s with
  | no => intro z; cases z
  | fz u => cases u <;> (intro z; cases z)
  | ow ds => intro z; cases z
@[simp] def noDr : List U → Bool
  | [] => true
  | .d _ :: us => noDr us
  | .dw _ :: us => noDr us
  | .tb _ _ :: us => noDr us
  | .dr :: _ => false
theorem rep_noDr {am am2 : Am} (hK : am.K = am2.K) (hC : am.C = am2.C) {O : Addr → Prop} {H : Hp} : ∀ {us : List U} {vs : List V}, noDr us = true → RepA am O H vs us → RepA am2 O H vs us
  | [], _, _, .nil => .nil
  | .d x :: us, _, h, .cons r t => .cons (by
      have r : Rp am.K (cut O H) _ x := r
      show Rp am2.K (cut O H) _ x
      rw [← hK]
      exact r) (rep_noDr hK hC h t)
  | .dw bs :: us, _, h, .cons r t => .cons (by
      obtain ⟨f, a, dx, t, h1, h2, h3⟩ := r
      exact ⟨f, a, dx, t, h1, by rw [← hC]; exact h2, by rw [← hK]; exact h3⟩) (rep_noDr hK hC h t)
  | .tb f ns :: us, _, h, .cons r t => .cons (by
      obtain ⟨a, kvs, h1, h2, h3⟩ := r
      exact ⟨a, kvs, h1, h2, h3⟩) (rep_noDr hK hC h t)
  | .dr :: _, _, h, _ => by cases h
@[simp ↓] def mCaughtC (X : Addr) (sp : VSp) (ma : TA3) : TE3 := fun ρ n q _ => ma (frdRo ρ) n (fun us n1 => noDr us = true ∧ sp us n1 (fun _ _ => False) (fun c => c = X ∧ q false (.d (.bool true)) n1)) (fun _ => False)
section
variable {K : PySem.W.Frag} {C : Addr} {TL : List (Addr × Str)} {E : XK}
instance (priority := high + 1) {CS X : Addr} {ta : XK → TA} {S : List Nat} {ma : TA3} {fr : Bool} {sp : VSp} [hf : ExcF K CS X] [ht : ∀ E' : XK, LA K C TL E' (ta E') S ma] : LE K C TL E (tCB (rIsT K) (tCons (LamX.tLam TL (TTc K CS) (fun E' => tCall (toSp K C TL fr sp) [] E' (ta E'))) (tCons (tC (.ref X)) tNil))) [] (mCaughtC X sp ma) where
  s am ρ n σ H hE h Q q hm k := by
    obtain ⟨rfl, rfl, rfl, rfl⟩ := id hE
    refine ⟨h.wd.tabs, fun H1 eN T1 => ?_⟩
    let S0 := List.range ρ.length
    have hd := h.dem S0
    have low : ∀ a, ¬ ∃ i, OwnAt (frdRo ρ) σ i a := fun a ⟨i, ⟨ds, e⟩, _⟩ => by
      rw [frd_get] at e
      cases z : ρ[i]? with
      | none =>
        rw [z] at e
        cases e
      | some s =>
        rw [z] at e
        exact frd_ow (Option.some.inj e)
    let E1 : XK := fun cls d H' => d = none ∧ PySem.W.exmOne am.K cls (.ref CS) = some true ∧ ∀ a, H' a = none → (tCons (tC (.ref X)) tNil) σ (upd H' a (GS.ExT cls a)) (fun xs H2 => rIsT am.K (.ref a :: xs) H2 Q)
    let am1 : Am := { am with Hs := H1, O0 := fun a => ∃ d g c, am.R.dr = some (d, g, c) ∧ (a = d ∨ a = g), E := E1, e := fun _ => False }
    have st1 : ∀ b o, (∀ ps, o ≠ HO.tbl ps) → H b = some o → H1 b = some o := fun b o z e => eN b o e z
    have w1 : Wd am1.R am1.TL H1 n := {
      hid := fun a z => by
        obtain ⟨o, q1, q2⟩ := h.wd.hid a z
        exact ⟨o, st1 a o q2 q1, q2⟩
      tabs := T1
      dr := fun d g c z => by
        obtain ⟨a1, a2, a3, t, ht, hD⟩ := h.wd.dr d g c z
        refine ⟨a1, a2, a3, t, ht, ?_⟩
        obtain ⟨gs, cs, m, z1, z2, z3, r⟩ := hD
        exact ⟨gs, cs, m, st1 _ _ (fun ps => by intro z; cases z) z1, st1 _ _ (fun ps => by intro z; cases z) z2, st1 _ _ (fun ps => by intro z; cases z) z3, r⟩ }
    have lec : Le (cut (Hid am (dem S0 ρ) σ) H) (cut (Hid am1 (frdRo ρ) σ) H1) := Le.cut (fun a z => by
      rcases z with z | z
      · exact .inl (.inl z)
      · exact absurd z (low a)) fun a o _ t e => st1 a o t e
    have r1 : Rl am1 (frdRo ρ) n σ H1 := {
      len := by rw [frd_len, h.len]
      fz := fun i u e => by
        rw [frd_get] at e
        cases z : ρ[i]? with
        | none =>
          rw [z] at e
          cases e
        | some s =>
          rw [z] at e
          have e := Option.some.inj e
          have hi : i ∈ S0 := List.mem_range.mpr (List.getElem?_eq_some_iff.mp z).1
          have ez : (dem S0 ρ)[i]? = some s.fzd := by
            rw [dem_get, z]
            show some (if i ∈ S0 then s.fzd else s) = _
            rw [if_pos hi]
          cases s with
          | no => cases e
          | fz u' =>
            obtain ⟨v, q1, q2⟩ := hd.fz i u' ez
            cases u' with
            | d x =>
              cases e
              exact ⟨v, q1, Rp.le lec _ _ q2⟩
            | dw xs =>
              cases e
              obtain ⟨f, a, dx, t, h1, h2, h3⟩ := q2
              exact ⟨v, q1, f, a, dx, t, h1, lec _ _ (fun ps => by intro z; cases z) h2, Rp.le lec _ _ h3⟩
            | tb f ns =>
              cases e
              obtain ⟨a, kvs, h1, h2, h3⟩ := q2
              exact ⟨v, q1, a, kvs, h1, lec _ _ (fun ps => by intro z; cases z) h2, h3⟩
            | dr =>
              cases e
              exact ⟨v, q1, q2⟩
          | ow ds =>
            cases e
            obtain ⟨v, q1, q2⟩ := hd.fz i (.d (.list ds)) ez
            exact ⟨v, q1, Rp.le lec _ _ q2⟩
      ow := fun i ds e => by
        rw [frd_get] at e
        cases z : ρ[i]? with
        | none =>
          rw [z] at e
          cases e
        | some s =>
          rw [z] at e
          exact absurd (Option.some.inj e) frd_ow
      nd := fun i j p a _ => absurd ⟨i, a⟩ (low p)
      od := fun d g c z => ⟨⟨d, g, c, z, .inl rfl⟩, d, g, c, z, .inr rfl⟩
      gr := ⟨fun b o _ _ e => e, fun b z => z⟩
      wd := w1
      ex := fun c H' n' g w z => z.elim }
    refine (ht E1).s am1 (frdRo ρ) n σ H1 ⟨rfl, rfl, rfl, rfl⟩ r1 _ _ hm fun us n1 vs H2 hq f2 w2 r2 => ?_
    obtain ⟨nd, hsp⟩ := hq
    show toSp am.K am.C am.TL fr sp (vs ++ []) H2 _ E1
    rw [List.append_nil]
    let am2 : Am := { am with R := { dr := none, hid := am.R.hid } }
    have r3 : RepA am1 am.R.hid H2 vs us := r2.le (Le.cutSub fun a z => .inl z)
    refine ⟨am2, us, n1, _, _, rfl, rfl, rfl, rep_noDr (am := am1) (am2 := am2) rfl rfl nd r3, ⟨w2.hid, w2.tabs, fun d g c z => by cases z⟩, hsp, (fun _ _ _ _ z => z.elim), fun c H' n' f w z => ?_⟩
    obtain ⟨z, hq⟩ := z
    subst z
    refine ⟨rfl, hf.exm, fun a ha => ?_⟩
    have sm : Same H' (upd H' a (GS.ExT (.ref c) a)) := same_new ha
    refine ⟨a, c, c, true, rfl, hf.x, upd_same, hf.kit, ?_⟩
    have st2 : ∀ b o, (∀ ps, o ≠ HO.tbl ps) → H2 b = some o → upd H' a (GS.ExT (.ref c) a) b = some o := fun b o t e => sm _ _ (f.1 b o (fun d g c z => by cases z) t e)
    have fr2 : FrR am.R H2 (upd H' a (GS.ExT (.ref c) a)) := ⟨fun b o _ t e => st2 b o t e, fun b ⟨o, e, t⟩ => ⟨o, st2 b o t e, t⟩⟩
    have fr1 : FrR am.R H H1 := ⟨fun b o _ t e => st1 b o t e, fun b ⟨o, e, t⟩ => ⟨o, st1 b o t e, t⟩⟩
    have w4 := w.same sm
    refine k false (.d (.bool true)) n1 (.bl true) _ hq ((fr1.trans f2).trans fr2) ⟨w4.hid, w4.tabs, fun d g' c' z => ?_⟩ (.old (Rp.bl true))
    obtain ⟨a1, a2, a3, t, ht, hD⟩ := w2.dr d g' c' z
    refine ⟨a1, a2, a3, t, ht, ?_⟩
    obtain ⟨gs, cs, m, z1, z2, z3, r⟩ := hD
    exact ⟨gs, cs, m, st2 _ _ (fun ps => by intro z; cases z) z1, st2 _ _ (fun ps => by intro z; cases z) z2, st2 _ _ (fun ps => by intro z; cases z) z3, r⟩
end
end V3
set_option Elab.async false
set_option linter.all false
set_option maxRecDepth 100000
set_option maxHeartbeats 4000000
/-! isinstance(_law_caught(lambda: f(..)), X), where f may come back; isinstance(x, Drawing) of data -/
namespace V3
open PySem PySem.Spec PyProof.Rows L2 G21
@[simp ↓] def mCaughtN (X : Addr) (sp : VSp) (ma : TA3) : TE3 := fun ρ n q _ => ma (frdRo ρ) n (fun us n1 => noDr us = true ∧ sp us n1 (fun _ _ => q false (.d (.bool false)) n1) (fun c => c = X ∧ q false (.d (.bool true)) n1)) (fun _ => False)
class ExcN (K : PySem.W.Frag) (X : Addr) : Prop where
  n : PySem.W.kitOne K (.type "NoneType") (.ref X) = some false
def rIsTU (K : PySem.W.Frag) : List V → Hp → VK → Prop := fun xs H Q => rIsT K xs H Q ∨ rIsi K xs H Q
theorem isTU3 {X : Cx} (K : PySem.W.Frag) (h : X.K = K := by rfl) : CallR X (.builtin "isinstance") (rIsTU K) := by
  subst h
  exact call_or call_isT call_isi
section
variable {K : PySem.W.Frag} {C : Addr} {TL : List (Addr × Str)} {E : XK}
instance (priority := high + 1) {CS X : Addr} {ta : XK → TA} {S : List Nat} {ma : TA3} {fr : Bool} {sp : VSp} [hf : ExcF K CS X] [hn : ExcN K X] [ht : ∀ E' : XK, LA K C TL E' (ta E') S ma] : LE K C TL E (tCB (rIsTU K) (tCons (LamX.tLam TL (TTc K CS) (fun E' => tCall (toSp K C TL fr sp) [] E' (ta E'))) (tCons (tC (.ref X)) tNil))) [] (mCaughtN X sp ma) where
  s am ρ n σ H hE h Q q hm k := by
    obtain ⟨rfl, rfl, rfl, rfl⟩ := id hE
    refine ⟨h.wd.tabs, fun H1 eN T1 => ?_⟩
    let S0 := List.range ρ.length
    have hd := h.dem S0
    have low : ∀ a, ¬ ∃ i, OwnAt (frdRo ρ) σ i a := fun a ⟨i, ⟨ds, e⟩, _⟩ => by
      rw [frd_get] at e
      cases z : ρ[i]? with
      | none =>
        rw [z] at e
        cases e
      | some s =>
        rw [z] at e
        exact frd_ow (Option.some.inj e)
    let E1 : XK := fun cls d H' => d = none ∧ PySem.W.exmOne am.K cls (.ref CS) = some true ∧ ∀ a, H' a = none → (tCons (tC (.ref X)) tNil) σ (upd H' a (GS.ExT cls a)) (fun xs H2 => rIsTU am.K (.ref a :: xs) H2 Q)
    let am1 : Am := { am with Hs := H1, O0 := fun a => ∃ d g c, am.R.dr = some (d, g, c) ∧ (a = d ∨ a = g), E := E1, e := fun _ => False }
    have st1 : ∀ b o, (∀ ps, o ≠ HO.tbl ps) → H b = some o → H1 b = some o := fun b o z e => eN b o e z
    have w1 : Wd am1.R am1.TL H1 n := {
      hid := fun a z => by
        obtain ⟨o, q1, q2⟩ := h.wd.hid a z
        exact ⟨o, st1 a o q2 q1, q2⟩
      tabs := T1
      dr := fun d g c z => by
        obtain ⟨a1, a2, a3, t, ht, hD⟩ := h.wd.dr d g c z
        refine ⟨a1, a2, a3, t, ht, ?_⟩
        obtain ⟨gs, cs, m, z1, z2, z3, r⟩ := hD
        exact ⟨gs, cs, m, st1 _ _ (fun ps => by intro z; cases z) z1, st1 _ _ (fun ps => by intro z; cases z) z2, st1 _ _ (fun ps => by intro z; cases z) z3, r⟩ }
    have lec : Le (cut (Hid am (dem S0 ρ) σ) H) (cut (Hid am1 (frdRo ρ) σ) H1) := Le.cut (fun a z => by
      rcases z with z | z
      · exact .inl (.inl z)
      · exact absurd z (low a)) fun a o _ t e => st1 a o t e
    have r1 : Rl am1 (frdRo ρ) n σ H1 := {
      len := by rw [frd_len, h.len]
      fz := fun i u e => by
        rw [frd_get] at e
        cases z : ρ[i]? with
        | none =>
          rw [z] at e
          cases e
        | some s =>
          rw [z] at e
          have e := Option.some.inj e
          have hi : i ∈ S0 := List.mem_range.mpr (List.getElem?_eq_some_iff.mp z).1
          have ez : (dem S0 ρ)[i]? = some s.fzd := by
            rw [dem_get, z]
            show some (if i ∈ S0 then s.fzd else s) = _
            rw [if_pos hi]
          cases s with
          | no => cases e
          | fz u' =>
            obtain ⟨v, q1, q2⟩ := hd.fz i u' ez
            cases u' with
            | d x =>
              cases e
              exact ⟨v, q1, Rp.le lec _ _ q2⟩
            | dw xs =>
              cases e
              obtain ⟨f, a, dx, t, h1, h2, h3⟩ := q2
              exact ⟨v, q1, f, a, dx, t, h1, lec _ _ (fun ps => by intro z; cases z) h2, Rp.le lec _ _ h3⟩
            | tb f ns =>
              cases e
              obtain ⟨a, kvs, h1, h2, h3⟩ := q2
              exact ⟨v, q1, a, kvs, h1, lec _ _ (fun ps => by intro z; cases z) h2, h3⟩
            | dr =>
              cases e
              exact ⟨v, q1, q2⟩
          | ow ds =>
            cases e
            obtain ⟨v, q1, q2⟩ := hd.fz i (.d (.list ds)) ez
            exact ⟨v, q1, Rp.le lec _ _ q2⟩
      ow := fun i ds e => by
        rw [frd_get] at e
        cases z : ρ[i]? with
        | none =>
          rw [z] at e
          cases e
        | some s =>
          rw [z] at e
          exact absurd (Option.some.inj e) frd_ow
      nd := fun i j p a _ => absurd ⟨i, a⟩ (low p)
      od := fun d g c z => ⟨⟨d, g, c, z, .inl rfl⟩, d, g, c, z, .inr rfl⟩
      gr := ⟨fun b o _ _ e => e, fun b z => z⟩
      wd := w1
      ex := fun c H' n' g w z => z.elim }
    refine (ht E1).s am1 (frdRo ρ) n σ H1 ⟨rfl, rfl, rfl, rfl⟩ r1 _ _ hm fun us n1 vs H2 hq f2 w2 r2 => ?_
    obtain ⟨nd, hsp⟩ := hq
    show toSp am.K am.C am.TL fr sp (vs ++ []) H2 _ E1
    rw [List.append_nil]
    let am2 : Am := { am with R := { dr := none, hid := am.R.hid } }
    have r3 : RepA am1 am.R.hid H2 vs us := r2.le (Le.cutSub fun a z => .inl z)
    have fr1 : FrR am.R H H1 := ⟨fun b o _ t e => st1 b o t e, fun b ⟨o, e, t⟩ => ⟨o, st1 b o t e, t⟩⟩
    refine ⟨am2, us, n1, _, _, rfl, rfl, rfl, rep_noDr (am := am1) (am2 := am2) rfl rfl nd r3, ⟨w2.hid, w2.tabs, fun d g c z => by cases z⟩, hsp, (fun u n' v H' hq f w _ => ?_), fun c H' n' f w z => ?_⟩
    · have st2 : ∀ b o, (∀ ps, o ≠ HO.tbl ps) → H2 b = some o → H' b = some o := fun b o t e => f.1 b o (fun d g c z => by cases z) t e
      have fr2 : FrR am.R H2 H' := ⟨fun b o _ t e => st2 b o t e, fun b ⟨o, e, t⟩ => ⟨o, st2 b o t e, t⟩⟩
      refine ⟨V.non, rfl, .inr ⟨.non, .ref X, .type "NoneType", .ref X, false, rfl, .own X, ty_rep (am := am) (O := fun _ => False) (H := H') (x := .none) Rp.non, hn.n, ?_⟩⟩
      refine k false (.d (.bool false)) n1 (.bl false) _ hq ((fr1.trans f2).trans fr2) ⟨w.hid, w.tabs, fun d g' c' z => ?_⟩ (.old (Rp.bl false))
      obtain ⟨a1, a2, a3, t, ht, hD⟩ := w2.dr d g' c' z
      refine ⟨a1, a2, a3, t, ht, ?_⟩
      obtain ⟨gs, cs, m, z1, z2, z3, r⟩ := hD
      exact ⟨gs, cs, m, st2 _ _ (fun ps => by intro z; cases z) z1, st2 _ _ (fun ps => by intro z; cases z) z2, st2 _ _ (fun ps => by intro z; cases z) z3, r⟩
    obtain ⟨z, hq⟩ := z
    subst z
    refine ⟨rfl, hf.exm, fun a ha => ?_⟩
    have sm : Same H' (upd H' a (GS.ExT (.ref c) a)) := same_new ha
    refine .inl ⟨a, c, c, true, rfl, hf.x, upd_same, hf.kit, ?_⟩
    have st2 : ∀ b o, (∀ ps, o ≠ HO.tbl ps) → H2 b = some o → upd H' a (GS.ExT (.ref c) a) b = some o := fun b o t e => sm _ _ (f.1 b o (fun d g c z => by cases z) t e)
    have fr2 : FrR am.R H2 (upd H' a (GS.ExT (.ref c) a)) := ⟨fun b o _ t e => st2 b o t e, fun b ⟨o, e, t⟩ => ⟨o, st2 b o t e, t⟩⟩
    have w4 := w.same sm
    refine k false (.d (.bool true)) n1 (.bl true) _ hq ((fr1.trans f2).trans fr2) ⟨w4.hid, w4.tabs, fun d g' c' z => ?_⟩ (.old (Rp.bl true))
    obtain ⟨a1, a2, a3, t, ht, hD⟩ := w2.dr d g' c' z
    refine ⟨a1, a2, a3, t, ht, ?_⟩
    obtain ⟨gs, cs, m, z1, z2, z3, r⟩ := hD
    exact ⟨gs, cs, m, st2 _ _ (fun ps => by intro z; cases z) z1, st2 _ _ (fun ps => by intro z; cases z) z2, st2 _ _ (fun ps => by intro z; cases z) z3, r⟩
/-! isinstance(x, Drawing), x data too -/
class KnC (K : PySem.W.Frag) (C : Addr) : Prop where
  k : ∀ x : D, (∀ kvs, x ≠ .dict kvs) → PySem.W.kitOne K (.type (pyTy x)) (.ref C) = some false
@[simp ↓] def mIsW2 (me : TE3) : TE3 := fun ρ k q e => me ρ k (fun _ u n1 => match u with
  | .dw _ => q false (.d (.bool true)) n1
  | .d (.dict _) => False
  | .d _ => q false (.d (.bool false)) n1
  | _ => False) e
instance (priority := high + 1) {te : TE} {S : List Nat} {me : TE3} [hc : KnC K C] [he : LE K C TL E te S me] : LE K C TL E (tCB (rIsi K) (tCons te (tCons (tC (.ref C)) tNil))) [] (mIsW2 me) where
  s am ρ n σ H hE h Q q hm k := by
    obtain ⟨rfl, rfl, rfl, rfl⟩ := id hE
    refine he.s am ρ n σ H hE h _ _ hm fun fr u n1 v H1 hq f1 w1 r1 => ?_
    match u, hq, r1.1 with
    | .dw bs, hq, r =>
      obtain ⟨_, a, dx, t, rfl, h2, _⟩ := r
      exact ⟨.ref a, .ref am.C, .ref am.C, .ref am.C, true, rfl, .own am.C, am.insT H1 a dx _ (cut_some.mp h2).2, am.kD, k _ _ n1 _ H1 hq f1 w1 (.old (Rp.bl _))⟩
    | .d x, hq, r =>
      have nd : ∀ kvs, x ≠ .dict kvs := fun kvs z => by
        subst z
        exact hq
      have hq2 : q false (.d (.bool false)) n1 := by
        cases x <;> first | exact hq | exact hq.elim
      exact ⟨v, .ref am.C, .type (pyTy x), .ref am.C, false, rfl, .own am.C, ty_rep r, hc.k x nd, k _ _ n1 _ H1 hq2 f1 w1 (.old (Rp.bl _))⟩
end
end V3
set_option Elab.async false
set_option linter.all false
set_option maxRecDepth 100000
set_option maxHeartbeats 4000000
set_option synthInstance.maxSize 100000
set_option synthInstance.maxHeartbeats 0
namespace G21
open PySem PySem.Spec PyProof.Rows L2 V3
@[simp ↓] def sp_chk_dw (BD : Addr) : VSp := fun us n q e => ∃ u : U, us = [u] ∧ ((∃ xs, u = .dw xs ∧ q (.d .none) n) ∨ ∃ x : D, u = .d x ∧ (∀ kvs, x ≠ .dict kvs) ∧ e BD)
instance {K : PySem.W.Frag} {mg : Str → Option Value} (T : Txt K mg) : KnC K T.C := ⟨fun x h => match x with
  | .none => T.kNoneType
  | .bool _ => T.kbool
  | .int _ => T.kint
  | .str _ => T.kstr
  | .list _ => T.kL
  | .tuple _ => T.ktuple
  | .dict kvs => absurd rfl (h kvs)⟩
@[simp] def sp_here3 : VSp := fun us n q _ => ∃ xs a b, us = [.dw xs, .d (pr a b)] ∧ 1 ≤ a ∧ 1 ≤ b ∧ q (.d .none) n
@[simp] def sp_shared : VSp := fun us n q _ => ∃ l d r u l' d' r' u', us = [.d (qd l d r u), .d (qd l' d' r' u')] ∧ q (.d (qd (max l l') (max d d') (min r r') (min u u'))) n
@[simp] def sp_gap : VSp := fun us n q _ => ∃ l d r u l' d' r' u', us = [.d (qd l d r u), .d (qd l' d' r' u')] ∧ q (.d (pr (max (l' - r) (l - r')) (max (d' - u) (d - u')))) n
def sp_near : VSp := fun us n q _ => ∃ (bs : List Bk) (a b : Int) (i j : Nat) (k m : Bk), us = [.dw (bs.map bkD), .d (pr a b), .d (.int i), .d (.int j)] ∧ bs[i]? = some k ∧ bs[j]? = some m ∧ q (.d (.bool (nr k m a b))) n
def sp_least : VSp := fun us n q _ => ∃ (bs : List Bk) (i j : Nat) (k m : Bk), us = [.dw (bs.map bkD), .d (.int i), .d (.int j)] ∧ bs[i]? = some k ∧ bs[j]? = some m ∧ q (.d (pr (max 1 (gx k m + 1)) (max 1 (gy k m + 1)))) n
@[simp] def sp_twice : VSp := fun us n q _ => ∃ l d r u, us = [.d (qd l d r u)] ∧ q (.d (pr (l + r) (d + u))) n
/-- twice the centre of what two barred boxes share -/
def mtx (k m : Bk) (a : Int) : Int := max (k.l - a) (m.l - a) + min k.r m.r
def mty (k m : Bk) (b : Int) : Int := max (k.d - b) (m.d - b) + min k.u m.u
def sp_meeting : VSp := fun us n q _ => ∃ (bs : List Bk) (a b : Int) (i j : Nat) (k m : Bk), us = [.dw (bs.map bkD), .d (pr a b), .d (.int i), .d (.int j)] ∧ bs[i]? = some k ∧ bs[j]? = some m ∧ q (.d (pr (mtx k m a) (mty k m b))) n
def halfI (k : Bk) (a b x y lv : Int) : Int := if k.l - a < x ∨ ¬ (k.d - b < y ∧ y < k.u) then 0 else if (k.d - b + k.u > 2 * y) ≠ (lv > 2 * y) then 1 else 0
def sp_half : VSp := fun us n q _ => ∃ (bs : List Bk) (a b x y : Int) (i : Nat) (k : Bk) (lv : Int), us = [.dw (bs.map bkD), .d (pr a b), .d (pr x y), .d (.int i), .d (.int lv)] ∧ bs[i]? = some k ∧ q (.d (.int (halfI k a b x y lv))) n
def markI (k m : Bk) (a b x y : Int) : Int := (halfI k a b x y (mty k m b) + halfI m a b x y (mty k m b)) % 2
def sp_mark : VSp := fun us n q _ => ∃ (bs : List Bk) (a b x y : Int) (i j : Nat) (k m : Bk), us = [.dw (bs.map bkD), .d (pr a b), .d (pr x y), .d (.int i), .d (.int j)] ∧ bs[i]? = some k ∧ bs[j]? = some m ∧ q (.d (.int (markI k m a b x y))) n
def sp_chk_free (NF : Addr) : VSp := fun us n q e => ∃ bs a b x y, us = [.dw (bs.map bkD), .d (pr a b), .d (.list [pr x y])] ∧ bs.length ≤ 12 ∧ (freeB bs a b x y = true → q (.d .none) n) ∧ (freeB bs a b x y = false → e NF)
section
variable {P : Program} {w : World} {K : PySem.W.Frag} {mg : Str → Option Value} {base : Heap} {TL : List (Addr × Str)}
theorem ok_q_check_drawing (T : Txt K mg) : FnOk P w K mg base (L2.CX P w) 1 T.q_check_drawing.a T.q_check_drawing.d ["drawing"] (toSp K T.C TL false (sp_chk_dw T.x_BadDrawing.C)) := by
  refine T.q_check_drawing.F.okX c_q_check_drawing (fun vs H Q E h => toSp_len h fun us n q e hs => ?_) (fun cdv A outer s H vs Q E hr h => ?_)
  · (first | (obtain ⟨rfl, _⟩ := hs; rfl) | (obtain ⟨_, hs⟩ := hs; (first | (obtain ⟨rfl, _⟩ := hs; rfl) | (obtain ⟨_, hs⟩ := hs; (first | (obtain ⟨rfl, _⟩ := hs; rfl) | (obtain ⟨_, hs⟩ := hs; (first | (obtain ⟨rfl, _⟩ := hs; rfl) | (obtain ⟨_, hs⟩ := hs; (first | (obtain ⟨rfl, _⟩ := hs; rfl) | (obtain ⟨_, hs⟩ := hs; (first | (obtain ⟨rfl, _⟩ := hs; rfl) | (obtain ⟨_, hs⟩ := hs; (first | (obtain ⟨rfl, _⟩ := hs; rfl) | (obtain ⟨_, hs⟩ := hs; (first | (obtain ⟨rfl, _⟩ := hs; rfl) | (obtain ⟨_, hs⟩ := hs; (first | (obtain ⟨rfl, _⟩ := hs; rfl) | (obtain ⟨_, hs⟩ := hs; (first | (obtain ⟨rfl, _⟩ := hs; rfl) | (obtain ⟨_, hs⟩ := hs; (first | (obtain ⟨rfl, _⟩ := hs; rfl) | (obtain ⟨_, hs⟩ := hs; (first | (obtain ⟨rfl, _⟩ := hs; rfl) | (obtain ⟨_, hs⟩ := hs; (first | (obtain ⟨rfl, _⟩ := hs; rfl) | (obtain ⟨_, hs⟩ := hs; (first | (obtain ⟨rfl, _⟩ := hs; rfl) | (obtain ⟨_, hs⟩ := hs; (first | (obtain ⟨rfl, _⟩ := hs; rfl) | (obtain ⟨_, hs⟩ := hs; (first | (obtain ⟨rfl, _⟩ := hs; rfl) | (obtain ⟨_, hs⟩ := hs; (obtain ⟨rfl, _⟩ := hs; rfl)))))))))))))))))))))))))))))))))
  · refine ⟨_,
      (pss_one (ps_if (pt_not (pt_val (pe_callB (isi3 K) (by rfl) T.z_isinstance (by decide +kernel) (pa_cons (pv 0) (pa_cons (pe_glob (v := .ref T.C) (u := .ref T.C) rfl T.gC rfl) pa_nil)))))
      (pss_one (ps_rz (C' := T.x_BadDrawing.C) (ps_raise rfl (takes_of rfl rfl rfl rfl) (pmk_own PySem.F.excBase_ValueError T.x_BadDrawing.q T.x_BadDrawing.g T.x_BadDrawing.k (raises_own T.x_BadDrawing.b T.x_BadDrawing.t) (by exact rfl)))))
      pss_nil))
      , run3 (K := K) (C := T.C) (TL := TL) h fun us n q e hs => ?_⟩
    obtain ⟨u, rfl, hq⟩ := hs
    rcases hq with ⟨xs, rfl, hq⟩ | ⟨x, rfl, hnd, hq⟩
    · simpa [ro0] using hq
    · cases x <;> first | simpa [ro0] using hq | exact absurd rfl (hnd _)
end
end G21
set_option Elab.async false
set_option linter.all false
set_option maxRecDepth 100000
set_option maxHeartbeats 4000000
set_option synthInstance.maxSize 100000
set_option synthInstance.maxHeartbeats 0
namespace G21
open PySem PySem.Spec PyProof.Rows L2 V3
def isPr : D → Bool
  | .tuple [.int _, .int _] => true
  | _ => false
def sp_npair : VSp := fun us n q _ => ∃ x, us = [.d x] ∧ q (.d (.bool (isPr x))) n
def sp_chk_spot (BS : Addr) : VSp := fun us n q e => ∃ x, us = [.d x] ∧ (isPr x = true → q (.d .none) n) ∧ (isPr x = false → e BS)
/-! ### rings -/
def ringN (m : Nat) (ns : List Int) : Bool := decide (3 ≤ ns.length) && ns.all (fun i => decide (0 ≤ i) && decide (i < m)) && decide ns.Nodup && decide (∀ y ∈ ns, ns.getD 0 0 ≤ y) && decide (ns.getD 1 0 < ns.getD (ns.length - 1) 0)
def roundD (m : Nat) : D → Bool
  | .tuple xs => match toIs xs with
    | some ns => ringN m ns
    | none => false
  | _ => false
def lenOk (x : D) : Prop := ∀ xs, x = .tuple xs → xs.length ≤ 100
def sp_round : VSp := fun us n q _ => ∃ (bs : List Bk) (x : D), us = [.dw (bs.map bkD), .d x] ∧ bs.length ≤ 12 ∧ lenOk x ∧ q (.d (.bool (roundD bs.length x))) n
theorem diff_nodup {ns : List Int} {m : Nat} (h : Diff ns m) : m = ns.length ↔ ns.Nodup := by
  obtain ⟨L, nd, mem, rfl⟩ := h
  constructor
  · intro e
    have q : ∀ {L ns : List Int}, L.Nodup → (∀ k, k ∈ L → k ∈ ns) → (∀ k, k ∈ ns → k ∈ L) → ns.length ≤ L.length → ns.Nodup := fun {L ns} => by
      induction ns generalizing L with
      | nil => intros; exact .nil
      | cons n ns ih =>
        intro nd h1 h2 hl
        have hn : n ∈ L := h2 n (List.mem_cons_self ..)
        have le2 : (L.erase n).length = L.length - 1 := List.length_erase_of_mem hn
        have hL : 0 < L.length := List.length_pos_of_mem hn
        have z : n ∉ ns := fun hin => by
          have s1 : L.length ≤ ns.length := GS.nodup_le nd fun x hx => by
            rcases List.mem_cons.mp (h1 x hx) with y | y
            · rw [y]
              exact hin
            · exact y
          rw [List.length_cons] at hl
          omega
        refine List.nodup_cons.mpr ⟨z, ih (L := L.erase n) (nd.erase n) (fun k hk => ?_) (fun k hk => ?_) ?_⟩
        · rcases List.mem_cons.mp (h1 k (List.mem_of_mem_erase hk)) with y | y
          · subst y
            exact absurd hk (nd.not_mem_erase)
          · exact y
        · refine (List.mem_erase_of_ne fun y => ?_).mpr (h2 k (List.mem_cons_of_mem _ hk))
          subst y
          exact z hk
        · rw [List.length_cons] at hl
          omega
    exact q nd (fun k => (mem k).mp) (fun k => (mem k).mpr) (by omega)
  · intro h
    exact GS.nodup_len nd h (fun k => (mem k).mp) (fun k => (mem k).mpr)
theorem all_ix {m : Nat} : ∀ {xs : List D}, xs.all (isIxD m) = true → ∃ ns, toIs xs = some ns ∧ ns.all (fun i => decide (0 ≤ i) && decide (i < m)) = true
  | [], _ => ⟨[], rfl, rfl⟩
  | x :: xs, h => by
    rw [List.all_cons, Bool.and_eq_true] at h
    obtain ⟨ns, e, h2⟩ := all_ix h.2
    cases x with
    | int i => exact ⟨i :: ns, by show (toIs xs).map _ = _; rw [e]; rfl, by rw [List.all_cons, h2, Bool.and_true]; exact h.1⟩
    | _ => cases h.1
theorem ix_all {m : Nat} : ∀ {xs : List D} {ns : List Int}, toIs xs = some ns → xs.all (isIxD m) = ns.all (fun i => decide (0 ≤ i) && decide (i < m)) := fun {xs ns} e => by
  rw [toIs_eq e, List.all_map]
  rfl
theorem round_some {m : Nat} {xs : List D} {ns : List Int} (e : toIs xs = some ns) : roundD m (.tuple xs) = ringN m ns := by
  show (match toIs xs with
    | some ns => ringN m ns
    | none => false) = _
  rw [e]
theorem round_none {m : Nat} {xs : List D} (e : toIs xs = none) : roundD m (.tuple xs) = false := by
  show (match toIs xs with
    | some ns => ringN m ns
    | none => false) = _
  rw [e]
section
variable {P : Program} {w : World} {K : PySem.W.Frag} {mg : Str → Option Value} {base : Heap} {TL : List (Addr × Str)}
theorem ok_q_is_number_pair (T : Txt K mg) : FnOk P w K mg base CX0 2 T.q_is_number_pair.a T.q_is_number_pair.d ["thing"] (toSp K T.C TL false sp_npair) := by
  refine T.q_is_number_pair.F.ok c_q_is_number_pair (fun vs H Q E h => toSp_len h fun us n q e hs => ?_) (fun cdv A outer s H vs Q E hr h => ?_)
  · (first | (obtain ⟨rfl, _⟩ := hs; rfl) | (obtain ⟨_, hs⟩ := hs; (first | (obtain ⟨rfl, _⟩ := hs; rfl) | (obtain ⟨_, hs⟩ := hs; (first | (obtain ⟨rfl, _⟩ := hs; rfl) | (obtain ⟨_, hs⟩ := hs; (first | (obtain ⟨rfl, _⟩ := hs; rfl) | (obtain ⟨_, hs⟩ := hs; (first | (obtain ⟨rfl, _⟩ := hs; rfl) | (obtain ⟨_, hs⟩ := hs; (first | (obtain ⟨rfl, _⟩ := hs; rfl) | (obtain ⟨_, hs⟩ := hs; (first | (obtain ⟨rfl, _⟩ := hs; rfl) | (obtain ⟨_, hs⟩ := hs; (first | (obtain ⟨rfl, _⟩ := hs; rfl) | (obtain ⟨_, hs⟩ := hs; (first | (obtain ⟨rfl, _⟩ := hs; rfl) | (obtain ⟨_, hs⟩ := hs; (first | (obtain ⟨rfl, _⟩ := hs; rfl) | (obtain ⟨_, hs⟩ := hs; (first | (obtain ⟨rfl, _⟩ := hs; rfl) | (obtain ⟨_, hs⟩ := hs; (first | (obtain ⟨rfl, _⟩ := hs; rfl) | (obtain ⟨_, hs⟩ := hs; (first | (obtain ⟨rfl, _⟩ := hs; rfl) | (obtain ⟨_, hs⟩ := hs; (first | (obtain ⟨rfl, _⟩ := hs; rfl) | (obtain ⟨_, hs⟩ := hs; (first | (obtain ⟨rfl, _⟩ := hs; rfl) | (obtain ⟨_, hs⟩ := hs; (first | (obtain ⟨rfl, _⟩ := hs; rfl) | (obtain ⟨_, hs⟩ := hs; (obtain ⟨rfl, _⟩ := hs; rfl)))))))))))))))))))))))))))))))))
  · refine ⟨_,
      (pss_one (ps_ret (pe_and (pe_callB (isi3 K) (by rfl) T.z_isinstance (by decide +kernel) (pa_cons (pv 0) (pa_cons (pe_bltn (v := .ty "tuple") (u := .type "tuple") rfl T.z_tuple (by decide +kernel) rfl) pa_nil))) (pe_and (pe_cmpR (eq3 K hr.units) (pe_callB (len3 K) (by rfl) T.z_len (by decide +kernel) (pa_cons (pv 0) pa_nil)) pe_int (nomark _)) (pe_and (pe_call (ok_q_is_number T (TL := TL)) (hr.mono (by decide)) rfl T.q_is_number.g T.q_is_number.k T.q_is_number.b .nil pass0 (pa_cons (pe_ix (ix3 K) (pv 0) pe_int (fun _ _ => rfl)) pa_nil)) (pe_one (pe_call (ok_q_is_number T (TL := TL)) (hr.mono (by decide)) rfl T.q_is_number.g T.q_is_number.k T.q_is_number.b .nil pass0 (pa_cons (pe_ix (ix3 K) (pv 0) pe_int (fun _ _ => rfl)) pa_nil))))))))
      , run3 (K := K) (C := T.C) (TL := TL) h fun us n q e hs => ?_⟩
    obtain ⟨x, rfl, hq⟩ := hs
    cases x with
    | tuple xs =>
      match xs, hq with
      | [], hq => simpa [ro0, isPr] using hq
      | [y], hq => simpa [ro0, isPr] using hq
      | [y, z], hq => cases y <;> simp [ro0, isPr, isN] at hq ⊢ <;> try exact hq
                      cases z <;> simpa [ro0, isPr, isN] using hq
      | y :: z :: w :: ws, hq => simp [ro0, isPr] at hq ⊢; split <;> simp_all <;> omega
    | _ => simpa [ro0, isPr] using hq
theorem ok_q_check_spot (T : Txt K mg) : FnOk P w K mg base (L2.CX P w) 3 T.q_check_spot.a T.q_check_spot.d ["spot"] (toSp K T.C TL false (sp_chk_spot T.x_BadSpot.C)) := by
  refine T.q_check_spot.F.okX c_q_check_spot (fun vs H Q E h => toSp_len h fun us n q e hs => ?_) (fun cdv A outer s H vs Q E hr h => ?_)
  · (first | (obtain ⟨rfl, _⟩ := hs; rfl) | (obtain ⟨_, hs⟩ := hs; (first | (obtain ⟨rfl, _⟩ := hs; rfl) | (obtain ⟨_, hs⟩ := hs; (first | (obtain ⟨rfl, _⟩ := hs; rfl) | (obtain ⟨_, hs⟩ := hs; (first | (obtain ⟨rfl, _⟩ := hs; rfl) | (obtain ⟨_, hs⟩ := hs; (first | (obtain ⟨rfl, _⟩ := hs; rfl) | (obtain ⟨_, hs⟩ := hs; (first | (obtain ⟨rfl, _⟩ := hs; rfl) | (obtain ⟨_, hs⟩ := hs; (first | (obtain ⟨rfl, _⟩ := hs; rfl) | (obtain ⟨_, hs⟩ := hs; (first | (obtain ⟨rfl, _⟩ := hs; rfl) | (obtain ⟨_, hs⟩ := hs; (first | (obtain ⟨rfl, _⟩ := hs; rfl) | (obtain ⟨_, hs⟩ := hs; (first | (obtain ⟨rfl, _⟩ := hs; rfl) | (obtain ⟨_, hs⟩ := hs; (first | (obtain ⟨rfl, _⟩ := hs; rfl) | (obtain ⟨_, hs⟩ := hs; (first | (obtain ⟨rfl, _⟩ := hs; rfl) | (obtain ⟨_, hs⟩ := hs; (first | (obtain ⟨rfl, _⟩ := hs; rfl) | (obtain ⟨_, hs⟩ := hs; (first | (obtain ⟨rfl, _⟩ := hs; rfl) | (obtain ⟨_, hs⟩ := hs; (first | (obtain ⟨rfl, _⟩ := hs; rfl) | (obtain ⟨_, hs⟩ := hs; (first | (obtain ⟨rfl, _⟩ := hs; rfl) | (obtain ⟨_, hs⟩ := hs; (obtain ⟨rfl, _⟩ := hs; rfl)))))))))))))))))))))))))))))))))
  · refine ⟨_,
      (pss_one (ps_if (pt_not (pt_val (pe_call (ok_q_is_number_pair T (TL := TL)) (hr.mono (by decide)) rfl T.q_is_number_pair.g T.q_is_number_pair.k T.q_is_number_pair.b .nil pass0 (pa_cons (pv 0) pa_nil))))
      (pss_one (ps_rz (C' := T.x_BadSpot.C) (ps_raise rfl (takes_of rfl rfl rfl rfl) (pmk_own PySem.F.excBase_ValueError T.x_BadSpot.q T.x_BadSpot.g T.x_BadSpot.k (raises_own T.x_BadSpot.b T.x_BadSpot.t) (by exact rfl)))))
      pss_nil))
      , run3 (K := K) (C := T.C) (TL := TL) h fun us n q e hs => ?_⟩
    obtain ⟨x, rfl, h1, h2⟩ := hs
    simp [ro0]
    refine ⟨x, rfl, ?_⟩
    cases hf : isPr x
    · simpa [hf] using h2 hf
    · simpa [hf] using h1 hf
end
end G21
set_option Elab.async false
set_option linter.all false
set_option maxRecDepth 100000
set_option maxHeartbeats 4000000
set_option synthInstance.maxSize 100000
set_option synthInstance.maxHeartbeats 0
namespace G21
open PySem PySem.Spec PyProof.Rows L2 V3
/-- the number ahead of place k, all around -/
def pvN (ns : List Int) (k : Nat) : Int := if k = 0 then ns.getD (ns.length - 1) 0 else ns.getD (k - 1) 0
def prsR (ns : List Int) : List (Int × Int) := (List.range ns.length).map fun k => (pvN ns k, ns.getD k 0)
abbrev prI (p : Int × Int) : D := pr p.1 p.2
def sp_pairs : VSp := fun us n q _ => ∃ ns : List Int, us = [.d (.tuple (ns.map .int))] ∧ ns.length ≤ 100 ∧ q (.d (.list ((prsR ns).map prI))) n
def nrI (bs : List Bk) (a b i j : Int) : Bool := nrF bs a b i.toNat j.toNat
def nearAll (bs : List Bk) (a b : Int) (ns : List Int) : Bool := (prsR ns).all fun p => nrI bs a b p.1 p.2
def ringD (bs : List Bk) (a b : Int) : D → Bool
  | .tuple xs => match toIs xs with
    | some ns => ringN bs.length ns && nearAll bs a b ns
    | none => false
  | _ => false
def sp_ring_of : VSp := fun us n q _ => ∃ (bs : List Bk) (a b : Int) (x : D), us = [.dw (bs.map bkD), .d (pr a b), .d x] ∧ bs.length ≤ 12 ∧ lenOk x ∧ q (.d (.bool (ringD bs a b x))) n
theorem ring_some {bs : List Bk} {a b : Int} {xs : List D} {ns : List Int} (e : toIs xs = some ns) : ringD bs a b (.tuple xs) = (ringN bs.length ns && nearAll bs a b ns) := by
  show (match toIs xs with
    | some ns => ringN bs.length ns && nearAll bs a b ns
    | none => false) = _
  rw [e]
theorem ring_none {bs : List Bk} {a b : Int} {xs : List D} (e : toIs xs = none) : ringD bs a b (.tuple xs) = false := by
  show (match toIs xs with
    | some ns => ringN bs.length ns && nearAll bs a b ns
    | none => false) = _
  rw [e]
/-- what makes it a ring for some body -/
theorem ringN_ix {m : Nat} {ns : List Int} (h : ringN m ns = true) : 3 ≤ ns.length ∧ (∀ i ∈ ns, 0 ≤ i ∧ i < m) ∧ ns.Nodup := by
  unfold ringN at h
  simp only [Bool.and_eq_true, decide_eq_true_eq, List.all_eq_true] at h
  exact ⟨h.1.1.1.1, fun i hi => h.1.1.1.2 i hi, h.1.1.2⟩
theorem getD_mem {ns : List Int} {k : Nat} (h : k < ns.length) : ns.getD k 0 ∈ ns := by
  rw [List.getD_eq_getElem?_getD, List.getElem?_eq_getElem h]
  exact List.getElem_mem _
theorem prsR_mem {ns : List Int} {p : Int × Int} (h : p ∈ prsR ns) : p.1 ∈ ns ∧ p.2 ∈ ns := by
  unfold prsR at h
  obtain ⟨k, hk, rfl⟩ := List.mem_map.mp h
  have hk' := List.mem_range.mp hk
  refine ⟨?_, getD_mem hk'⟩
  show pvN ns k ∈ ns
  unfold pvN
  split
  · exact getD_mem (by omega)
  · exact getD_mem (by omega)
theorem blk_at {bs : List Bk} {i : Int} (h0 : 0 ≤ i) (h1 : i < bs.length) : ∃ (j : Nat) (k : Bk), i = j ∧ bs[j]? = some k := by
  obtain ⟨j, rfl⟩ := Int.eq_ofNat_of_zero_le h0
  have hj : j < bs.length := by omega
  exact ⟨j, bs[j], rfl, List.getElem?_eq_getElem hj⟩
def sp_is_ring : VSp := fun us n q _ => ∃ (bs : List Bk) (a b : Int) (x : D), us = [.dw (bs.map bkD), .d (pr a b), .d x] ∧ bs.length ≤ 12 ∧ 1 ≤ a ∧ 1 ≤ b ∧ lenOk x ∧ q (.d (.bool (ringD bs a b x))) n
def sp_chk_ring (BR : Addr) : VSp := fun us n q e => ∃ (bs : List Bk) (a b : Int) (x : D), us = [.dw (bs.map bkD), .d (pr a b), .d x] ∧ bs.length ≤ 12 ∧ 1 ≤ a ∧ 1 ≤ b ∧ lenOk x ∧ (ringD bs a b x = true → q (.d .none) n) ∧ (ringD bs a b x = false → e BR)
def mkAt (bs : List Bk) (a b x y i j : Int) : Int := match bs[i.toNat]?, bs[j.toNat]? with
  | some k, some m => markI k m a b x y
  | _, _ => 0
def parI (bs : List Bk) (a b : Int) (ns : List Int) (x y : Int) : Int := ((prsR ns).map fun p => mkAt bs a b x y p.1 p.2).sum % 2
def sp_parity_of : VSp := fun us n q _ => ∃ (bs : List Bk) (a b : Int) (ns : List Int) (x y : Int), us = [.dw (bs.map bkD), .d (pr a b), .d (.tuple (ns.map .int)), .d (pr x y)] ∧ ns.length ≤ 100 ∧ (∀ i ∈ ns, 0 ≤ i ∧ i < bs.length) ∧ q (.d (.int (parI bs a b ns x y))) n
section
variable {P : Program} {w : World} {K : PySem.W.Frag} {mg : Str → Option Value} {base : Heap} {TL : List (Addr × Str)}
end
end G21
set_option Elab.async false
set_option linter.all false
set_option maxRecDepth 100000
set_option maxHeartbeats 4000000
set_option synthInstance.maxSize 100000
set_option synthInstance.maxHeartbeats 0
namespace G21
open PySem PySem.Spec PyProof.Rows L2 V3
def gxA (bs : List Bk) (i j : Int) : Int := match bs[i.toNat]?, bs[j.toNat]? with
  | some k, some m => max 1 (gx k m + 1)
  | _, _ => 0
def gyA (bs : List Bk) (i j : Int) : Int := match bs[i.toNat]?, bs[j.toNat]? with
  | some k, some m => max 1 (gy k m + 1)
  | _, _ => 0
def isMax (ns : List Int) (m : Int) : Prop := m ∈ ns ∧ ∀ y ∈ ns, y ≤ m
def sp_from (BR : Addr) : VSp := fun us n q e => ∃ (bs : List Bk) (x : D), us = [.dw (bs.map bkD), .d x] ∧ bs.length ≤ 12 ∧ lenOk x ∧ (roundD bs.length x = false → e BR) ∧
  (∀ ns : List Int, x = .tuple (ns.map .int) → ringN bs.length ns = true → ∀ A B, isMax ((prsR ns).map fun p => gxA bs p.1 p.2) A → isMax ((prsR ns).map fun p => gyA bs p.1 p.2) B → q (.d (pr A B)) n)
def sp_parity (BR BS NF : Addr) : VSp := fun us n q e => ∃ (bs : List Bk) (a b : Int) (x s : D), us = [.dw (bs.map bkD), .d (pr a b), .d x, .d s] ∧ bs.length ≤ 12 ∧ 1 ≤ a ∧ 1 ≤ b ∧ lenOk x ∧ (ringD bs a b x = false → e BR) ∧ (ringD bs a b x = true → isPr s = false → e BS) ∧
  (∀ (ns : List Int) (sx sy : Int), x = .tuple (ns.map .int) → ringD bs a b x = true → s = pr sx sy → (freeB bs a b sx sy = false → e NF) ∧ (freeB bs a b sx sy = true → q (.d (.int (parI bs a b ns sx sy))) n))
theorem pr_of {s : D} (h : isPr s = true) : ∃ x y, s = pr x y := by
  cases s with
  | tuple xs =>
    match xs, h with
    | [.int x, .int y], _ => exact ⟨x, y, rfl⟩
  | _ => cases h
theorem ring_tup {bs : List Bk} {a b : Int} {x : D} (h : ringD bs a b x = true) : ∃ ns : List Int, x = .tuple (ns.map .int) ∧ ringN bs.length ns = true ∧ nearAll bs a b ns = true := by
  cases x with
  | tuple xs =>
    cases e : toIs xs with
    | none =>
      rw [ring_none e] at h
      cases h
    | some ns =>
      rw [ring_some e, Bool.and_eq_true] at h
      exact ⟨ns, by rw [toIs_eq e], h.1, h.2⟩
  | _ => cases h
theorem round_tup {m : Nat} {x : D} (h : roundD m x = true) : ∃ ns : List Int, x = .tuple (ns.map .int) ∧ ringN m ns = true := by
  cases x with
  | tuple xs =>
    cases e : toIs xs with
    | none =>
      rw [round_none e] at h
      cases h
    | some ns =>
      rw [round_some e] at h
      exact ⟨ns, by rw [toIs_eq e], h⟩
  | _ => cases h
theorem prsR_len (ns : List Int) : (prsR ns).length = ns.length := by
  unfold prsR
  simp
section
variable {P : Program} {w : World} {K : PySem.W.Frag} {mg : Str → Option Value} {base : Heap} {TL : List (Addr × Str)}
end
end G21
set_option Elab.async false
set_option linter.all false
set_option maxRecDepth 100000
set_option maxHeartbeats 4000000
set_option synthInstance.maxSize 100000
set_option synthInstance.maxHeartbeats 0
namespace G21
open PySem PySem.Spec PyProof.Rows L2 V3
theorem bk_tup (b : Bk) : bkD b = tupI b.n := rfl
theorem bks_tup (bs : List Bk) : bs.map bkD = (bs.map Bk.n).map tupI := by
  rw [List.map_map]
  rfl
theorem ok_b (b : Bk) : b.ok ↔ (b.l < b.r ∧ b.d < b.u) := Iff.rfl
@[simp] def isLst : D → Bool
  | .list _ => true
  | .tuple _ => true
  | _ => false
@[simp ↓] def sp_is_list : VSp := fun us n q _ => ∃ x, us = [.d x] ∧ q (.d (.bool (isLst x))) n
@[simp] def sp_is_block : VSp := fun us n q _ => ∃ l d r u, us = [.d (qd l d r u)] ∧ l < r ∧ d < u ∧ q (.d (.bool true)) n
def sp_are_blocks : VSp := fun us n q _ => ∃ bs : List Bk, us = [.d (.list (bs.map bkD))] ∧ (∀ b ∈ bs, b.ok) ∧ bs.Nodup ∧ bs.length ≤ 12 ∧ q (.d (.bool true)) n
section
variable {P : Program} {w : World} {K : PySem.W.Frag} {mg : Str → Option Value} {base : Heap} {TL : List (Addr × Str)}
theorem ok_q_is_list (T : Txt K mg) : FnOk P w K mg base CX0 1 T.q_is_list.a T.q_is_list.d ["thing"] (toSp K T.C TL false sp_is_list) := by
  refine T.q_is_list.F.ok c_q_is_list (fun vs H Q E h => toSp_len h fun us n q e hs => ?_) (fun cdv A outer s H vs Q E hr h => ?_)
  · (first | (obtain ⟨rfl, _⟩ := hs; rfl) | (obtain ⟨_, hs⟩ := hs; (first | (obtain ⟨rfl, _⟩ := hs; rfl) | (obtain ⟨_, hs⟩ := hs; (first | (obtain ⟨rfl, _⟩ := hs; rfl) | (obtain ⟨_, hs⟩ := hs; (first | (obtain ⟨rfl, _⟩ := hs; rfl) | (obtain ⟨_, hs⟩ := hs; (first | (obtain ⟨rfl, _⟩ := hs; rfl) | (obtain ⟨_, hs⟩ := hs; (first | (obtain ⟨rfl, _⟩ := hs; rfl) | (obtain ⟨_, hs⟩ := hs; (first | (obtain ⟨rfl, _⟩ := hs; rfl) | (obtain ⟨_, hs⟩ := hs; (first | (obtain ⟨rfl, _⟩ := hs; rfl) | (obtain ⟨_, hs⟩ := hs; (first | (obtain ⟨rfl, _⟩ := hs; rfl) | (obtain ⟨_, hs⟩ := hs; (first | (obtain ⟨rfl, _⟩ := hs; rfl) | (obtain ⟨_, hs⟩ := hs; (first | (obtain ⟨rfl, _⟩ := hs; rfl) | (obtain ⟨_, hs⟩ := hs; (first | (obtain ⟨rfl, _⟩ := hs; rfl) | (obtain ⟨_, hs⟩ := hs; (first | (obtain ⟨rfl, _⟩ := hs; rfl) | (obtain ⟨_, hs⟩ := hs; (first | (obtain ⟨rfl, _⟩ := hs; rfl) | (obtain ⟨_, hs⟩ := hs; (first | (obtain ⟨rfl, _⟩ := hs; rfl) | (obtain ⟨_, hs⟩ := hs; (first | (obtain ⟨rfl, _⟩ := hs; rfl) | (obtain ⟨_, hs⟩ := hs; (obtain ⟨rfl, _⟩ := hs; rfl)))))))))))))))))))))))))))))))))
  · refine ⟨_,
      (pss_one (ps_ret (pe_callB (isiT3 K) (by rfl) T.z_isinstance (by decide +kernel) (pa_cons (pv 0) (pa_cons (pe_tup (pa_cons (pe_bltn (v := .ty "list") (u := .type "list") rfl T.z_list (by decide +kernel) rfl) (pa_cons (pe_bltn (v := .ty "tuple") (u := .type "tuple") rfl T.z_tuple (by decide +kernel) rfl) pa_nil))) pa_nil)))))
      , run3 (K := K) (C := T.C) (TL := TL) h fun us n q e hs => ?_⟩
    obtain ⟨x, rfl, hq⟩ := hs
    cases x <;> simpa [ro0] using hq
theorem ok_q_is_block (T : Txt K mg) : FnOk P w K mg base CX0 2 T.q_is_block.a T.q_is_block.d ["thing"] (toSp K T.C TL false sp_is_block) := by
  refine T.q_is_block.F.ok c_q_is_block (fun vs H Q E h => toSp_len h fun us n q e hs => ?_) (fun cdv A outer s H vs Q E hr h => ?_)
  · (first | (obtain ⟨rfl, _⟩ := hs; rfl) | (obtain ⟨_, hs⟩ := hs; (first | (obtain ⟨rfl, _⟩ := hs; rfl) | (obtain ⟨_, hs⟩ := hs; (first | (obtain ⟨rfl, _⟩ := hs; rfl) | (obtain ⟨_, hs⟩ := hs; (first | (obtain ⟨rfl, _⟩ := hs; rfl) | (obtain ⟨_, hs⟩ := hs; (first | (obtain ⟨rfl, _⟩ := hs; rfl) | (obtain ⟨_, hs⟩ := hs; (first | (obtain ⟨rfl, _⟩ := hs; rfl) | (obtain ⟨_, hs⟩ := hs; (first | (obtain ⟨rfl, _⟩ := hs; rfl) | (obtain ⟨_, hs⟩ := hs; (first | (obtain ⟨rfl, _⟩ := hs; rfl) | (obtain ⟨_, hs⟩ := hs; (first | (obtain ⟨rfl, _⟩ := hs; rfl) | (obtain ⟨_, hs⟩ := hs; (first | (obtain ⟨rfl, _⟩ := hs; rfl) | (obtain ⟨_, hs⟩ := hs; (first | (obtain ⟨rfl, _⟩ := hs; rfl) | (obtain ⟨_, hs⟩ := hs; (first | (obtain ⟨rfl, _⟩ := hs; rfl) | (obtain ⟨_, hs⟩ := hs; (first | (obtain ⟨rfl, _⟩ := hs; rfl) | (obtain ⟨_, hs⟩ := hs; (first | (obtain ⟨rfl, _⟩ := hs; rfl) | (obtain ⟨_, hs⟩ := hs; (first | (obtain ⟨rfl, _⟩ := hs; rfl) | (obtain ⟨_, hs⟩ := hs; (first | (obtain ⟨rfl, _⟩ := hs; rfl) | (obtain ⟨_, hs⟩ := hs; (obtain ⟨rfl, _⟩ := hs; rfl)))))))))))))))))))))))))))))))))
  · refine ⟨_,
      (pss_cons (ps_if (PW.pt (pw_or (pt_not (pt_val (pe_callB (isi3 K) (by rfl) T.z_isinstance (by decide +kernel) (pa_cons (pv 0) (pa_cons (pe_bltn (v := .ty "tuple") (u := .type "tuple") rfl T.z_tuple (by decide +kernel) rfl) pa_nil))))) (pw_or (pt_cmpR (ne3 K hr.units) (pe_callB (len3 K) (by rfl) T.z_len (by decide +kernel) (pa_cons (pv 0) pa_nil)) pe_int (nomark _)) (pw_or1 (pt_not (pt_val (pe_callB (all3 K rfl) (by rfl) T.z_all (by decide +kernel) (pa_cons (pe_lc (own := [("item", 1)]) (g := gName 1) (by rfl) c_q_is_block.nd (seq3 K (pv 0)) (blkOk_by (own := [("item", 1)]) (N := N_q_is_block) (sc := defScope S_q_is_block) (by decide +kernel)) (fun _ _ _ _ _ => pg_name (i := 1) c_q_is_block.nd rfl (Or.inl rfl)) (fun _ _ _ _ _ => pts_nil) (fun _ _ _ _ _ => (pe_call (ok_q_is_number T (TL := TL)) (hr.mono (by decide)) rfl T.q_is_number.g T.q_is_number.k T.q_is_number.b .nil pass0 (pa_cons (pv 1) pa_nil)))) pa_nil))))))))
      (pss_one (ps_ret pe_bl))
      pss_nil)
      (pss_one (ps_ret (pe_and (pe_cmpR op_lt (pe_ix (ix3 K) (pv 0) pe_int (fun _ _ => rfl)) (pe_ix (ix3 K) (pv 0) pe_int (fun _ _ => rfl)) (nomark _)) (pe_one (pe_cmpR op_lt (pe_ix (ix3 K) (pv 0) pe_int (fun _ _ => rfl)) (pe_ix (ix3 K) (pv 0) pe_int (fun _ _ => rfl)) (nomark _)))))))
      , run3 (K := K) (C := T.C) (TL := TL) h fun us n q e hs => ?_⟩
    obtain ⟨l, d, r, u, rfl, h1, h2, hq⟩ := hs
    simp [ro0, sp_num, isN, h1, h2]
    exact ⟨by decide, hq⟩
theorem ok_q_are_blocks (T : Txt K mg) : FnOk P w K mg base CX0 3 T.q_are_blocks.a T.q_are_blocks.d ["thing"] (toSp K T.C TL false sp_are_blocks) := by
  refine T.q_are_blocks.F.ok c_q_are_blocks (fun vs H Q E h => toSp_len h fun us n q e hs => ?_) (fun cdv A outer s H vs Q E hr h => ?_)
  · (first | (obtain ⟨rfl, _⟩ := hs; rfl) | (obtain ⟨_, hs⟩ := hs; (first | (obtain ⟨rfl, _⟩ := hs; rfl) | (obtain ⟨_, hs⟩ := hs; (first | (obtain ⟨rfl, _⟩ := hs; rfl) | (obtain ⟨_, hs⟩ := hs; (first | (obtain ⟨rfl, _⟩ := hs; rfl) | (obtain ⟨_, hs⟩ := hs; (first | (obtain ⟨rfl, _⟩ := hs; rfl) | (obtain ⟨_, hs⟩ := hs; (first | (obtain ⟨rfl, _⟩ := hs; rfl) | (obtain ⟨_, hs⟩ := hs; (first | (obtain ⟨rfl, _⟩ := hs; rfl) | (obtain ⟨_, hs⟩ := hs; (first | (obtain ⟨rfl, _⟩ := hs; rfl) | (obtain ⟨_, hs⟩ := hs; (first | (obtain ⟨rfl, _⟩ := hs; rfl) | (obtain ⟨_, hs⟩ := hs; (first | (obtain ⟨rfl, _⟩ := hs; rfl) | (obtain ⟨_, hs⟩ := hs; (first | (obtain ⟨rfl, _⟩ := hs; rfl) | (obtain ⟨_, hs⟩ := hs; (first | (obtain ⟨rfl, _⟩ := hs; rfl) | (obtain ⟨_, hs⟩ := hs; (first | (obtain ⟨rfl, _⟩ := hs; rfl) | (obtain ⟨_, hs⟩ := hs; (first | (obtain ⟨rfl, _⟩ := hs; rfl) | (obtain ⟨_, hs⟩ := hs; (first | (obtain ⟨rfl, _⟩ := hs; rfl) | (obtain ⟨_, hs⟩ := hs; (first | (obtain ⟨rfl, _⟩ := hs; rfl) | (obtain ⟨_, hs⟩ := hs; (obtain ⟨rfl, _⟩ := hs; rfl)))))))))))))))))))))))))))))))))
  · refine ⟨_,
      (pss_cons (ps_if (PW.pt (pw_or (pt_not (pt_val (pe_call (ok_q_is_list T (TL := TL)) (hr.mono (by decide)) rfl T.q_is_list.g T.q_is_list.k T.q_is_list.b .nil pass0 (pa_cons (pv 0) pa_nil)))) (pw_or (pt_cmpR op_gt (pe_callB (len3 K) (by rfl) T.z_len (by decide +kernel) (pa_cons (pv 0) pa_nil)) (pe_glob (v := .int 12) rfl T.most ⟨_, rfl⟩) (nomark _)) (pw_or1 (pt_not (pt_val (pe_callB (all3 K rfl) (by rfl) T.z_all (by decide +kernel) (pa_cons (pe_lc (own := [("block", 1)]) (g := gName 1) (by rfl) c_q_are_blocks.nd (seq3 K (pv 0)) (blkOk_by (own := [("block", 1)]) (N := N_q_are_blocks) (sc := defScope S_q_are_blocks) (by decide +kernel)) (fun _ _ _ _ _ => pg_name (i := 1) c_q_are_blocks.nd rfl (Or.inl rfl)) (fun _ _ _ _ _ => pts_nil) (fun _ _ _ _ _ => (pe_call (ok_q_is_block T (TL := TL)) (hr.mono (by decide)) rfl T.q_is_block.g T.q_is_block.k T.q_is_block.b .nil pass0 (pa_cons (pv 1) pa_nil)))) pa_nil))))))))
      (pss_one (ps_ret pe_bl))
      pss_nil)
      (pss_one (ps_ret (pe_cmpR (eq3 K hr.units) (pe_or (lenSet3 K rfl rfl T.z_len rfl T.z_set (pv 0)) (pe_callB (lenT3 (P := P) (w := w) K) (by rfl) T.z_len (by decide +kernel) (pa_cons (pe_callTy (setT3 (P := P) (w := w) K rfl hr.units) (by rfl) T.z_set (by decide +kernel) (pa_cons (pv 0) pa_nil)) pa_nil))) (pe_callB (len3 K) (by rfl) T.z_len (by decide +kernel) (pa_cons (pv 0) pa_nil)) (nomark _)))))
      , run3 (K := K) (C := T.C) (TL := TL) h fun us n q e hs => ?_⟩
    obtain ⟨bs, rfl, hok, hnd, hl, hq⟩ := hs
    simp [ro0]
    have h12 : ¬ (12 : Int) < bs.length := by omega
    simp [h12]
    refine ⟨few (by omega), lcL_all bkD (fun _ => .bool true) bs n _ (fun b hb n Kt Ks k => ?_) ?_⟩
    · obtain ⟨o1, o2⟩ := hok b hb
      simp [and_assoc]
      exact ⟨o1, o2, k⟩
    simp
    refine .inr ⟨bs.map Bk.n, bks_tup bs, by rw [List.length_map]; omega, nodup_n hnd, ?_⟩
    simpa using hq
end
end G21
set_option Elab.async false
set_option linter.all false
set_option maxRecDepth 100000
set_option maxHeartbeats 4000000
set_option synthInstance.maxSize 100000
set_option synthInstance.maxHeartbeats 0
namespace G21
open PySem PySem.Spec PyProof.Rows L2 V3
/-! ### a drawing is made -/
def BAsc (bs : List Bk) : Prop := bs.Pairwise fun a b => HT.lexLt b.n a.n = false
def spI3 (K : PySem.W.Frag) (C : Addr) (TL : List (Addr × Str)) : Sp := fun vs H Q _ => ∃ (am : Am) (m dx : Addr) (v : V) (bs : List Bk) (n : Nat), am.K = K ∧ am.C = C ∧ am.TL = TL ∧ vs = [.ref m, v] ∧ H m = some (.ins C dx []) ∧ (∀ a, am.R.hid a → a ≠ m) ∧
  RepU am (fun a => a = m ∨ am.R.hid a) H v (.d (.list (bs.map bkD))) ∧ Wd am.R TL H n ∧ (∀ b ∈ bs, b.ok) ∧ bs.Nodup ∧ bs.length ≤ 12 ∧
  ∀ H' bs' t, (∀ b o, b ≠ m → (∀ d g c, am.R.dr = some (d, g, c) → b ≠ d ∧ b ≠ g) → (∀ ps, o ≠ HO.tbl ps) → H b = some o → H' b = some o) → Wd am.R TL H' n → H' m = some (.ins C dx [("blocks", .ref t)]) → Rp K (cut (fun a => a = m ∨ am.R.hid a) H') (.ref t) (.tuple (bs'.map bkD)) → bs'.Perm bs → BAsc bs' → Q .non H'
theorem tabs_keep2 {TL : List (Addr × Str)} {H H' : Hp} (e : ∀ b o, ((∃ ps, o = HO.tbl ps) ∨ ∃ f, o = HO.ext f) → H b = some o → H' b = some o) (h : LamX.Tabs TL H) : LamX.Tabs TL H' := fun q hq => by
  obtain ⟨ps, h1, h2, h3⟩ := h q hq
  refine ⟨ps, e _ _ (.inl ⟨_, rfl⟩) h1, h2, fun pos cv hc => ?_⟩
  obtain ⟨c, e3, e4⟩ := h3 pos cv hc
  exact ⟨c, e3, e _ _ (.inr ⟨_, rfl⟩) e4⟩
theorem use_ifseq {K : PySem.W.Frag} {C : Addr} {TL : List (Addr × Str)} {E : XK} {c : TT} {t1 t2 u : TS} {mc : TT3} {D : Ends} {σ : L2.St} {H : Hp} [hc : V3.LT K C TL E c mc] (am : Am) (ρ : Ro) (n : Nat) (hE : am.K = K ∧ am.TL = TL ∧ am.E = E ∧ am.C = C) (hr : Rl am ρ n σ H) (q : Bool → Nat → Prop) (hm : mc ρ n q am.e)
    (k : ∀ b n' H', q b n' → FrR am.R H H' → Wd am.R am.TL H' n' → if b = true then t1 { D with nx := u D } σ H' else t2 { D with nx := u D } σ H') : tSeq (tIfS c t1 t2) u D σ H := hc.s am ρ n σ H hE hr _ q hm k
theorem use_fld {K : PySem.W.Frag} {C : Addr} {TL : List (Addr × Str)} {E : XK} {ta tv : TE} {f : Str} {S : List Nat} {mc : TE3} {D : Ends} {σ : L2.St} {H : Hp} [hc : LE K C TL E tv S mc] (am : Am) (ρ : Ro) (n : Nat) (hE : am.K = K ∧ am.TL = TL ∧ am.E = E ∧ am.C = C) (hr : Rl am ρ n σ H) (q : Bool → U → Nat → Prop) (hm : mc ρ n q am.e)
    (k : ∀ fr u n' v H', q fr u n' → FrR am.R H H' → Wd am.R am.TL H' n' → RepV am (Hid am (dem S ρ) σ) H H' fr v u → ta σ H' fun x H2 => ∃ a C dx fs, x = .ref a ∧ H2 a = some (.ins C dx fs) ∧ Cls K C ∧ NoAttr K C f ∧ fs.length < 1000 ∧ D.nx σ (upd H2 a (.ins C dx (putF f v fs)))) : sFld K ta tv f D σ H := hc.s am ρ n σ H hE hr _ q hm k
def initAm (am : Am) (m : Addr) (E : XK) : Am := { am with R := { am.R with hid := fun a => a = m ∨ am.R.hid a }, Hs := fun _ => none, O0 := fun a => ∃ d g c, am.R.dr = some (d, g, c) ∧ (a = d ∨ a = g), E := E, e := fun _ => False }
theorem init_rep {am : Am} {m : Addr} {E : XK} {O : Addr → Prop} {H : Hp} {v : V} {u : U} (h : RepU am O H v u) : RepU (initAm am m E) O H v u := by
  cases u <;> exact h
theorem rep_init {am : Am} {m : Addr} {E : XK} {O : Addr → Prop} {H : Hp} {v : V} {u : U} (h : RepU (initAm am m E) O H v u) : RepU am O H v u := by
  cases u <;> exact h
/-- tuples of four ints that are a list of blocks, sorted -/
theorem bk_of (l : List Int) (h : l.length = 4) : ∃ b : Bk, b.n = l := by
  match l, h with
  | [a, b, c, d], _ => exact ⟨⟨a, b, c, d⟩, rfl⟩
theorem bks_of : ∀ (M : List (List Int)), (∀ l ∈ M, l.length = 4) → ∃ bs : List Bk, bs.map Bk.n = M
  | [], _ => ⟨[], rfl⟩
  | l :: M, h => by
    obtain ⟨b, hb⟩ := bk_of l (h l (List.mem_cons_self ..))
    obtain ⟨bs, hbs⟩ := bks_of M fun x hx => h x (List.mem_cons_of_mem _ hx)
    exact ⟨b :: bs, by rw [List.map_cons, hb, hbs]⟩
theorem perm_n {bs cs : List Bk} (h : (bs.map Bk.n).Perm (cs.map Bk.n)) : bs.Perm cs := by
  have q := h.map fun l : List Int => (⟨l.getD 0 0, l.getD 1 0, l.getD 2 0, l.getD 3 0⟩ : Bk)
  rw [List.map_map, List.map_map] at q
  have e : ∀ bs : List Bk, bs.map ((fun l : List Int => (⟨l.getD 0 0, l.getD 1 0, l.getD 2 0, l.getD 3 0⟩ : Bk)) ∘ Bk.n) = bs := fun bs => by
    induction bs with
    | nil => rfl
    | cons b bs ih =>
      rw [List.map_cons, ih]
      rfl
  rw [e, e] at q
  exact q
section
variable {P : Program} {w : World} {K : PySem.W.Frag} {mg : Str → Option Value} {base : Heap} {TL : List (Addr × Str)}
theorem ok_q_Drawing_init (T : Txt K mg) : FnOk P w K mg base (L2.CX P w) 4 T.fI T.dI ["self", "blocks"] (spI3 K T.C TL) := by
  refine T.FI.okX c_q_Drawing_init (fun vs H Q E h => ?_) (fun cdv A outer s H vs Q E hr h => ?_)
  · obtain ⟨am, m, dx, v, bs, n, _, _, _, rfl, _⟩ := h
    rfl
  · obtain ⟨am, m, dx, v, bs, n, hK, hC, hTL, rfl, hm, hnm, hv, hw, hok, hnd, hl, k⟩ := h
    refine ⟨_,
      (pss_cons (ps_if (pt_not (pt_val (pe_call (ok_q_are_blocks T (TL := TL)) (hr.mono (by decide)) rfl T.q_are_blocks.g T.q_are_blocks.k T.q_are_blocks.b .nil pass0 (pa_cons (pv 1) pa_nil))))
      (pss_one (ps_rz (C' := T.x_BadBlocks.C) (ps_raise rfl (takes_of rfl rfl rfl rfl) (pmk_own PySem.F.excBase_ValueError T.x_BadBlocks.q T.x_BadBlocks.g T.x_BadBlocks.k (raises_own T.x_BadBlocks.b T.x_BadBlocks.t) (by exact rfl)))))
      pss_nil)
      (pss_one (ps_fld (pv 0) (pe_callTy (tup3 K) (by rfl) T.z_tuple (by decide +kernel) (pa_cons (pe_callB (sorted3 K 4 (by decide)) (by rfl) T.z_sorted (by decide +kernel) (pa_cons (pv 1) pa_nil)) pa_nil)) rfl)))
      , ?_⟩
    have ro : Rl (initAm am m E) [.no, .fz (.d (.list (bs.map bkD)))] n (L2.start N_q_Drawing_init [.ref m, v]) H := {
      len := rfl
      fz := fun i u e => by
        match i, e with
        | 1, e =>
          cases e
          refine ⟨v, rfl, init_rep ?_⟩
          refine RepU.le (Le.cutSub fun a z => ?_) hv
          rcases z with z | ⟨j, ⟨ds, z⟩, _⟩
          · exact z
          · match j, z with
            | 0, z => cases z
            | 1, z => cases z
            | j + 2, z => simp at z
        | i + 2, e => simp at e
      ow := fun i ds e => by
        match i, e with
        | 0, e => cases e
        | 1, e => cases e
        | i + 2, e => simp at e
      nd := fun i j p a => by
        obtain ⟨⟨ds, e⟩, _⟩ := a
        match i, e with
        | 0, e => cases e
        | 1, e => cases e
        | i + 2, e => simp at e
      od := fun d g c q => ⟨⟨d, g, c, q, .inl rfl⟩, ⟨d, g, c, q, .inr rfl⟩⟩
      gr := ⟨fun _ _ _ _ z => (by cases z), fun _ ⟨_, z, _⟩ => (by cases z)⟩
      wd := {
        hid := fun a z => by
          rcases z with z | z
          · rw [z]
            exact ⟨_, hm, fun ps z => by cases z⟩
          · exact hw.hid a z
        tabs := hTL ▸ hw.tabs
        dr := fun d g c q => by
          obtain ⟨a1, a2, a3, r⟩ := hw.dr d g c q
          exact ⟨.inr a1, .inr a2, .inr a3, r⟩ }
      ex := fun _ _ _ _ _ z => z.elim }
    refine use_ifseq (K := K) (C := T.C) (TL := TL) (E := E) (initAm am m E) _ n ⟨hK, hTL, rfl, hC⟩ ro (fun b n' => b = false ∧ n' = n) ?_ (fun b n' H1 hb f1 w1 => ?_)
    · simp
      exact ⟨bs, rfl, hok, hnd, hl, by simp⟩
    · obtain ⟨rfl, rfl⟩ := hb
      have r1 := ro.step f1 w1
      rw [if_neg Bool.false_ne_true]
      unfold tNext
      dsimp only
      refine use_fld (K := K) (C := T.C) (TL := TL) (E := E) (initAm am m E) _ n' ⟨hK, hTL, rfl, hC⟩ r1 (fun fr u n2 => n2 = n' ∧ ∃ bs' : List Bk, u = .d (.tuple (bs'.map bkD)) ∧ bs'.Perm bs ∧ BAsc bs') ?_ (fun fr u n2 v2 H2 hu f2 w2 r2 => ?_)
      · simp
        refine .inr ⟨bs.map Bk.n, bks_tup bs, fun l hl => ?_, fun M h1 h2 => ?_⟩
        · obtain ⟨b, _, rfl⟩ := List.mem_map.mp hl
          rfl
        · obtain ⟨cs, rfl⟩ := bks_of M fun l hl => by
            obtain ⟨b, _, rfl⟩ := List.mem_map.mp (h1.mem_iff.mp hl)
            rfl
          exact ⟨cs, (bks_tup cs).symm, perm_n h1, List.pairwise_map.mp h2⟩
      · obtain ⟨rfl, bs', rfl, hp, ha⟩ := hu
        have f := f1.trans f2
        have nm : ∀ d g c, am.R.dr = some (d, g, c) → m ≠ d ∧ m ≠ g := fun d g c q => by
          obtain ⟨a1, a2, _, _⟩ := hw.dr d g c q
          exact ⟨fun z => hnm _ a1 z.symm, fun z => hnm _ a2 z.symm⟩
        have hm2 : H2 m = some (.ins T.C dx []) := f.1 m _ nm (fun ps z => by cases z) hm
        have w2' : Wd (initAm am m E).R TL H2 n2 := hTL ▸ w2
        obtain ⟨t, rfl⟩ : ∃ t, v2 = .ref t := by
          have := r2.1
          cases this
          exact ⟨_, rfl⟩
        refine ⟨.ref m, rfl, m, T.C, dx, [], rfl, hm2, hC ▸ hK ▸ am.cls, hC ▸ hK ▸ am.nB, by decide, ?_⟩
        refine k _ bs' t (fun b o h1 h2 h3 e => ?_) ?_ upd_same ?_ hp ha
        · rw [upd_ne h1]
          exact f.1 b o h2 h3 e
        · exact {
            hid := fun a z => by
              obtain ⟨o, q1, q2⟩ := w2'.hid a (.inr z)
              exact ⟨o, by rw [upd_ne (hnm a z)]; exact q1, q2⟩
            tabs := tabs_keep2 (fun b o h1 q => by
              have ne : b ≠ m := fun z => by
                rw [z, hm2] at q
                cases q
                rcases h1 with ⟨_, y⟩ | ⟨_, y⟩ <;> cases y
              rw [upd_ne ne]
              exact q) w2'.tabs
            dr := fun d g c q => by
              obtain ⟨_, _, _, tt, ht, hr⟩ := w2'.dr d g c q
              obtain ⟨a1, a2, a3, _⟩ := hw.dr d g c q
              refine ⟨a1, a2, a3, tt, ht, hr.same fun b o hb q' => ?_⟩
              have ne : b ≠ m := by
                rcases hb with z | z | z
                · exact z ▸ hnm _ a1
                · exact z ▸ hnm _ a2
                · exact z ▸ hnm _ a3
              rw [upd_ne ne]
              exact q' }
        · have r3 : Rp am.K (cut (Hid (initAm am m E) (dem _ [.no, .fz (.d (.list (bs.map bkD)))]) _) H2) (.ref t) (.tuple (bs'.map bkD)) := r2.1
          rw [hK] at r3
          refine Rp.le (Le.cut (fun a z => .inl ?_) fun a o hn _ e => ?_) _ _ r3
          · exact .inl z
          · have ne : a ≠ m := fun z => hn (.inl (.inl z))
            rw [upd_ne ne]
            exact e
end
end G21
set_option Elab.async false
set_option linter.all false
set_option maxRecDepth 100000
set_option maxHeartbeats 4000000
set_option synthInstance.maxSize 100000
set_option synthInstance.maxHeartbeats 0
namespace G21
open PySem PySem.Spec PyProof.Rows L2 V3
/-! ### Drawing(..), as a value -/
def askM (u : U) (k : List Bk → Prop) : Prop := ∃ bs : List Bk, u = .d (.list (bs.map bkD)) ∧ (∀ b ∈ bs, b.ok) ∧ bs.Nodup ∧ bs.length ≤ 12 ∧ ∀ cs : List Bk, cs.Perm bs → BAsc cs → k cs
@[simp] def mMake (me : TE3) : TE3 := fun ρ n q e => me ρ n (fun _ u n1 => askM u fun cs => q false (.dw (cs.map bkD)) n1) e
theorem flat_bks (bs : List Bk) : V3.flatAll (bs.map bkD) = true := by
  induction bs with
  | nil => rfl
  | cons b bs ih =>
    show (V3.flat (bkD b) && V3.flatAll (bs.map bkD)) = true
    rw [ih]
    rfl
section
variable {K : PySem.W.Frag} {C : Addr} {TL : List (Addr × Str)} {E : XK}
theorem upd_none {H : Hp} {x : Addr} {o : HO} (h : H x = none) : ∀ b y, H b = some y → upd H x o b = some y := fun b y e => by
  rw [upd_ne (ne_of_none e h)]
  exact e
instance mkLE {te : TE} {S : List Nat} {me : TE3} {E' : XK} [he : LE K C TL E te S me] : LE K C TL E (tMake C (spI3 K C TL) [] E' (tCons te tNil)) S (mMake me) where
  s am ρ n σ H hE h Q q hm k := by
    obtain ⟨rfl, rfl, rfl, rfl⟩ := id hE
    refine he.s am ρ n σ H hE h _ _ hm fun fr u n1 v H1 hq f1 w1 r1 => ?_
    have h1 := h.step f1 w1
    obtain ⟨bs, rfl, hok, hnd, hl, hk⟩ := hq
    show ∀ x dx, H1 x = none → H1 dx = none → dx ≠ x → _
    intro x dx hx hdx hne
    have st : ∀ b y, H1 b = some y → upd (upd H1 dx (.own x)) x (.ins am.C dx []) b = some y := fun b y e => by
      rw [upd_ne (ne_of_none e hx)]
      exact upd_none hdx b y e
    have sm : Same H1 (upd (upd H1 dx (.own x)) x (.ins am.C dx [])) := fun b y e => st b y e
    have hn : ∀ a, Hid am (dem S ρ) σ a → a ≠ x := fun a z e => by
      obtain ⟨o, q1, _⟩ := (h1.dem S).hidThere z
      rw [e, hx] at q1
      cases q1
    have f2 : FrR am.R H1 (upd (upd H1 dx (.own x)) x (.ins am.C dx [])) := .of sm
    have w2 : Wd am.R am.TL (upd (upd H1 dx (.own x)) x (.ins am.C dx [])) n1 := w1.same sm
    refine ⟨{ am with R := { am.R with hid := Hid am (dem S ρ) σ } }, x, dx, v, bs, n1, rfl, rfl, rfl, rfl, upd_same, hn, ?_, ?_, hok, hnd, hl, fun H' bs' t g1 g2 g3 g4 g5 g6 => ⟨rfl, ?_⟩⟩
    · refine RepU.le (u := .d (.list (bs.map bkD))) (Le.cut (fun a z => ?_) fun a o _ _ e => st a o e) r1.1
      rcases z with z | z
      · exact .inr (by
          rw [z]
          intro ⟨o, q1, _⟩
          rw [hx] at q1
          cases q1)
      · exact .inl z
    · exact {
        hid := fun a z => f2.2 a ((h1.dem S).hidThere z)
        tabs := w2.tabs
        dr := fun d g c q => by
          obtain ⟨a1, a2, a3, r⟩ := w2.dr d g c q
          exact ⟨.inl a1, .inl a2, .inl a3, r⟩ }
    · have w3 : Wd am.R am.TL H' n1 := {
        hid := fun a z => g2.hid a (.inl z)
        tabs := g2.tabs
        dr := fun d g c q => by
          obtain ⟨_, _, _, r⟩ := g2.dr d g c q
          obtain ⟨a1, a2, a3, _⟩ := h.wd.dr d g c q
          exact ⟨a1, a2, a3, r⟩ }
      have f3 : FrR am.R H H' := by
        refine ⟨fun b o h2 h3 e => ?_, fun b z => ?_⟩
        · have e1 := f1.1 b o h2 h3 e
          refine g1 b o (ne_of_none e1 hx) h2 h3 (st b o e1)
        · obtain ⟨o, q1, q2⟩ := f1.2 b z
          by_cases hb : ∃ d g c, am.R.dr = some (d, g, c) ∧ (b = d ∨ b = g)
          · obtain ⟨d, g, c, hd, hb⟩ := hb
            obtain ⟨_, _, _, t', _, gs, cs, nn, p1, p2, _⟩ := g2.dr d g c hd
            rcases hb with rfl | rfl
            · exact ⟨_, p1, fun ps z => by cases z⟩
            · exact ⟨_, p2, fun ps z => by cases z⟩
          · exact ⟨o, g1 b o (ne_of_none q1 hx) (fun d g c q => ⟨fun z => hb ⟨d, g, c, q, .inl z⟩, fun z => hb ⟨d, g, c, q, .inr z⟩⟩) q2 (st b o q1), q2⟩
      refine k _ _ n1 _ _ (hk bs' g5 g6) f3 w3 (.old ⟨flat_bks bs', x, dx, t, rfl, cut_some.mpr ⟨fun z => hn x z rfl, g3⟩, ?_⟩)
      exact Rp.le (Le.cutSub fun a z => .inr z) _ _ g4
end
end G21
set_option Elab.async false
set_option linter.all false
set_option maxRecDepth 100000
set_option maxHeartbeats 4000000
set_option synthInstance.maxSize 100000
set_option synthInstance.maxHeartbeats 0
namespace G21
open PySem PySem.Spec PyProof.Rows L2 V3
/-! ### draws, as values -/
theorem fr_wd {R : RR} {TL : List (Addr × Str)} {H H' : Hp} {n n' : Nat} {d g c : Addr} {t : Int} (hR : R.dr = some (d, g, c)) (w : Wd R TL H n) (f : Fr d g H H') (D : Dr H' d g c t) (ht : t ≤ n') : FrR R H H' ∧ Wd R TL H' n' := by
  obtain ⟨a1, a2, a3, t0, _, gs0, cs0, n0, e1, e2, _⟩ := w.dr d g c hR
  obtain ⟨gs, cs, m, p1, p2, p3, _⟩ := id D
  have th : ∀ b, There H b → There H' b := fun b ⟨o, q1, q2⟩ => by
    by_cases h1 : b = d
    · subst h1
      exact ⟨_, p1, fun ps z => by cases z⟩
    · by_cases h2 : b = g
      · subst h2
        exact ⟨_, p2, fun ps z => by cases z⟩
      · exact ⟨o, f b o h1 h2 q1, q2⟩
  refine ⟨⟨fun b o h1 _ e => f b o (h1 d g c hR).1 (h1 d g c hR).2 e, th⟩, fun a z => th a (w.hid a z), ?_, fun d' g' c' q => ?_⟩
  · refine tabs_keep (fun b o h1 h2 e => f b o (fun z => ?_) (fun z => ?_) e) w.tabs
    · subst z
      rw [e1] at e
      cases e
      exact h2 _ rfl
    · subst z
      rw [e2] at e
      cases e
      exact h1 _ rfl
  · rw [hR] at q
    cases q
    exact ⟨a1, a2, a3, t, ht, D⟩
theorem top_ex : ∃ k : Nat, k = 1000000000000 := ⟨_, rfl⟩
noncomputable def topD : Nat := Classical.choose top_ex
theorem topD_eq : topD = 1000000000000 := Classical.choose_spec top_ex
theorem cap_ex : ∃ k : Int, k = 1000000000 := ⟨_, rfl⟩
noncomputable def capD : Int := Classical.choose cap_ex
theorem capD_eq : capD = 1000000000 := Classical.choose_spec cap_ex
@[simp ↓] def sp_take : VSp := fun us n q _ => ∃ m : Int, us = [.dr, .d (.int m)] ∧ n ≤ topD ∧ 0 < m ∧ m < capD ∧ ∀ x : Int, 0 ≤ x → x < m → q (.d (.int x)) (n + 1)
section
variable {P : Program} {w : World} {K : PySem.W.Frag} {mg : Str → Option Value} {base : Heap} {TL : List (Addr × Str)}
theorem ok_l_take (T : Txt K mg) : FnOk P w K mg base CX0 2 T.l_take.a T.l_take.d ["draw", "many"] (toSp K T.C TL false sp_take) := (ok0_l_take T).imp fun vs H Q E h => by
  obtain ⟨am, us, n, q, e, hK, hC, hTL, ra, w, ⟨m, rfl, hn, h0, h1, hq⟩, k, ke⟩ := h
  cases ra with
  | cons r1 ra =>
    cases ra with
    | cons r2 ra =>
      cases ra
      obtain ⟨d, g, c, hR, rfl⟩ := r1
      cases r2
      obtain ⟨_, _, _, t, ht, D⟩ := w.dr d g c hR
      refine ⟨d, g, c, t, m, rfl, D, by rw [topD_eq] at hn; omega, h0, by rw [capD_eq] at h1; exact h1, fun H' r t' hr0 hr1 ht' f D' => ?_⟩
      obtain ⟨f', w'⟩ := fr_wd (n' := n + 1) hR w f D' (by omega)
      exact k _ (n + 1) _ _ (hq r hr0 hr1) f' w' (.old (Rp.int _))
@[simp] def asL : D → Option (List D)
  | .list xs => some xs
  | .tuple xs => some xs
  | _ => none
@[simp ↓] def sp_pick : VSp := fun us n q _ => ∃ x : D, us = [.dr, .d x] ∧ V3.ask (asL x) fun xs => n ≤ topD ∧ xs ≠ [] ∧ xs.length < 100000 ∧ ∀ y ∈ xs, q (.d y) (n + 1)
theorem atI_lt {xs : List D} {i : Int} (h0 : 0 ≤ i) (h1 : i < xs.length) : ∃ x ∈ xs, atI xs i = some x := by
  obtain ⟨k, rfl⟩ := Int.eq_ofNat_of_zero_le h0
  have hk : k < xs.length := by omega
  refine ⟨xs[k], List.getElem_mem hk, ?_⟩
  have e : ixN xs.length (k : Int) = some k := by
    unfold ixN
    simp [hk]
  unfold atI
  rw [e]
  simp [hk]
theorem ok_l_pick (T : Txt K mg) : FnOk P w K mg base CX0 3 T.l_pick.a T.l_pick.d ["draw", "some"] (toSp K T.C TL false sp_pick) := by
  refine T.l_pick.F.ok c_l_pick (fun vs H Q E h => toSp_len h fun us n q e hs => ?_) (fun cdv A outer s H vs Q E hr h => ?_)
  · (first | (obtain ⟨rfl, _⟩ := hs; rfl) | (obtain ⟨_, hs⟩ := hs; (first | (obtain ⟨rfl, _⟩ := hs; rfl) | (obtain ⟨_, hs⟩ := hs; (first | (obtain ⟨rfl, _⟩ := hs; rfl) | (obtain ⟨_, hs⟩ := hs; (first | (obtain ⟨rfl, _⟩ := hs; rfl) | (obtain ⟨_, hs⟩ := hs; (first | (obtain ⟨rfl, _⟩ := hs; rfl) | (obtain ⟨_, hs⟩ := hs; (first | (obtain ⟨rfl, _⟩ := hs; rfl) | (obtain ⟨_, hs⟩ := hs; (first | (obtain ⟨rfl, _⟩ := hs; rfl) | (obtain ⟨_, hs⟩ := hs; (first | (obtain ⟨rfl, _⟩ := hs; rfl) | (obtain ⟨_, hs⟩ := hs; (first | (obtain ⟨rfl, _⟩ := hs; rfl) | (obtain ⟨_, hs⟩ := hs; (first | (obtain ⟨rfl, _⟩ := hs; rfl) | (obtain ⟨_, hs⟩ := hs; (first | (obtain ⟨rfl, _⟩ := hs; rfl) | (obtain ⟨_, hs⟩ := hs; (first | (obtain ⟨rfl, _⟩ := hs; rfl) | (obtain ⟨_, hs⟩ := hs; (first | (obtain ⟨rfl, _⟩ := hs; rfl) | (obtain ⟨_, hs⟩ := hs; (first | (obtain ⟨rfl, _⟩ := hs; rfl) | (obtain ⟨_, hs⟩ := hs; (first | (obtain ⟨rfl, _⟩ := hs; rfl) | (obtain ⟨_, hs⟩ := hs; (first | (obtain ⟨rfl, _⟩ := hs; rfl) | (obtain ⟨_, hs⟩ := hs; (obtain ⟨rfl, _⟩ := hs; rfl)))))))))))))))))))))))))))))))))
  · refine ⟨_,
      (pss_one (ps_ret (pe_ix (ix3 K) (pv 1) (pe_call (ok_l_take T (TL := TL)) (hr.mono (by decide)) rfl T.l_take.g T.l_take.k T.l_take.b .nil pass0 (pa_cons (pv 0) (pa_cons (pe_callB (len3 K) (by rfl) T.z_len (by decide +kernel) (pa_cons (pv 1) pa_nil)) pa_nil))) (fun _ _ => rfl))))
      , run3 (K := K) (C := T.C) (TL := TL) h fun us n q e hs => ?_⟩
    obtain ⟨x, rfl, hq⟩ := hs
    obtain ⟨xs, hx, hn, hne, hl, h2⟩ := V3.ask_some hq
    have hp : 0 < xs.length := List.length_pos_iff.mpr hne
    cases x <;> cases hx <;> simp [ro0]
    all_goals
      refine ⟨hn, hp, by rw [capD_eq]; omega, fun i h0 h1 => ?_⟩
      obtain ⟨y, hy, e⟩ := atI_lt h0 h1
      rw [e]
      exact h2 y hy
end
end G21
set_option Elab.async false
set_option linter.all false
set_option maxRecDepth 100000
set_option maxHeartbeats 4000000
set_option synthInstance.maxSize 100000
set_option synthInstance.maxHeartbeats 0
namespace G21
open PySem PySem.Spec PyProof.Rows L2 V3
@[simp ↓] def sp_shuf : VSp := fun us n q _ => ∃ xs, us = [.dr, .d (.list xs)] ∧ n + 100 ≤ topD ∧ xs.length ≤ 100 ∧ V3.flatAll xs = true ∧ ∀ ys : List D, ys.Perm xs → q (.d (.list ys)) (n + xs.length)
theorem ixN_nat {n k : Nat} (h : k < n) : ixN n (k : Int) = some k := by
  unfold ixN
  simp [h]
theorem flat_in {xs : List D} (h : V3.flatAll xs = true) {x : D} (hx : x ∈ xs) : V3.flat x = true := by
  induction xs with
  | nil => cases hx
  | cons y ys ih =>
    have h : (V3.flat y && V3.flatAll ys) = true := h
    obtain ⟨h1, h2⟩ := Bool.and_eq_true_iff.mp h
    rcases List.mem_cons.mp hx with e | hx
    · rw [e]
      exact h1
    · exact ih h2 hx
theorem perm_erase {α : Type} : ∀ {xs : List α} {k : Nat} (h : k < xs.length), ([xs[k]] ++ xs.eraseIdx k).Perm xs
  | x :: xs, 0, _ => .refl _
  | x :: xs, k + 1, h => by
    simp
    exact List.Perm.trans (.swap _ _ _) (.cons _ (perm_erase (by simpa using h)))
section
variable {P : Program} {w : World} {K : PySem.W.Frag} {mg : Str → Option Value} {base : Heap} {TL : List (Addr × Str)}
theorem ok_l_shuffled (T : Txt K mg) : FnOk P w K mg base CX0 4 T.l_shuffled.a T.l_shuffled.d ["draw", "some"] (toSp K T.C TL true sp_shuf) := by
  refine T.l_shuffled.F.ok c_l_shuffled (fun vs H Q E h => toSp_len h fun us n q e hs => ?_) (fun cdv A outer s H vs Q E hr h => ?_)
  · (first | (obtain ⟨rfl, _⟩ := hs; rfl) | (obtain ⟨_, hs⟩ := hs; (first | (obtain ⟨rfl, _⟩ := hs; rfl) | (obtain ⟨_, hs⟩ := hs; (first | (obtain ⟨rfl, _⟩ := hs; rfl) | (obtain ⟨_, hs⟩ := hs; (first | (obtain ⟨rfl, _⟩ := hs; rfl) | (obtain ⟨_, hs⟩ := hs; (first | (obtain ⟨rfl, _⟩ := hs; rfl) | (obtain ⟨_, hs⟩ := hs; (first | (obtain ⟨rfl, _⟩ := hs; rfl) | (obtain ⟨_, hs⟩ := hs; (first | (obtain ⟨rfl, _⟩ := hs; rfl) | (obtain ⟨_, hs⟩ := hs; (first | (obtain ⟨rfl, _⟩ := hs; rfl) | (obtain ⟨_, hs⟩ := hs; (first | (obtain ⟨rfl, _⟩ := hs; rfl) | (obtain ⟨_, hs⟩ := hs; (first | (obtain ⟨rfl, _⟩ := hs; rfl) | (obtain ⟨_, hs⟩ := hs; (first | (obtain ⟨rfl, _⟩ := hs; rfl) | (obtain ⟨_, hs⟩ := hs; (first | (obtain ⟨rfl, _⟩ := hs; rfl) | (obtain ⟨_, hs⟩ := hs; (first | (obtain ⟨rfl, _⟩ := hs; rfl) | (obtain ⟨_, hs⟩ := hs; (first | (obtain ⟨rfl, _⟩ := hs; rfl) | (obtain ⟨_, hs⟩ := hs; (first | (obtain ⟨rfl, _⟩ := hs; rfl) | (obtain ⟨_, hs⟩ := hs; (first | (obtain ⟨rfl, _⟩ := hs; rfl) | (obtain ⟨_, hs⟩ := hs; (obtain ⟨rfl, _⟩ := hs; rfl)))))))))))))))))))))))))))))))))
  · refine ⟨_,
      (pss_cons (ps_par (i := 2) (j := 3) rfl c_l_shuffled.nd rfl rfl (by decide) rfl rfl (pa_cons (pe_callTy (list3 K) (by rfl) T.z_list (by decide +kernel) (pa_cons (pv 1) pa_nil)) (pa_cons (pe_lst pa_nil) pa_nil)) (by with_unfolding_all rfl))
      (pss_cons (ps_for PassesOwn.never rfl (pi_range1 rfl T.z_range (pa_cons (pe_callB (len3 K) (by rfl) T.z_len (by decide +kernel) (pa_cons (pv 1) pa_nil)) pa_nil)) (pg_name (i := 4) c_l_shuffled.nd rfl (Or.inl rfl))
      (pss_one (ps_expr (bm3 K PySem.F.plainAttrs_list PySem.F.slot_list_append PySem.F.type_list_append mt_append (pv 3) (pa_cons (bm3 K PySem.F.plainAttrs_list PySem.F.slot_list_pop PySem.F.type_list_pop mt_popAt (pv 2) (pa_cons (pe_call (ok_l_take T (TL := TL)) (hr.mono (by decide)) rfl T.l_take.g T.l_take.k T.l_take.b .nil pass0 (pa_cons (pv 0) (pa_cons (pe_callB (len3 K) (by rfl) T.z_len (by decide +kernel) (pa_cons (pv 2) pa_nil)) pa_nil))) pa_nil)) pa_nil)))))
      (pss_one (ps_ret (pv 3)))))
      , run3 (K := K) (C := T.C) (TL := TL) h fun us n q e hs => ?_⟩
    obtain ⟨xs, rfl, hn, hl, fl, hq⟩ := hs
    simp [ro0]
    refine ⟨by omega, forL_ind (fun ds ρ m => ∃ (ls fs : List D) (z : Sl), ρ = [.fz .dr, .fz (.d (.list xs)), .ow ls, .ow fs, z] ∧ (fs ++ ls).Perm xs ∧ ls.length = ds.length ∧ m + ds.length = n + xs.length ∧ fs.length ≤ 100) ?_ ?_ _ _ _ ⟨xs, [], _, rfl, .refl _, by simp, by simp, by simp⟩⟩
    · rintro ρ m ⟨ls, fs, z, rfl, hp, h1, h2, _⟩
      cases ls with
      | cons _ _ => cases h1
      | nil =>
        simp at h2 hp ⊢
        rw [h2]
        exact hq _ hp
    · rintro d ds ρ m G hG ⟨ls, fs, z, rfl, hp, h1, h2, h3⟩
      have hlen := hp.length_eq
      simp at h1 h2 hlen
      simp
      refine ⟨by omega, by omega, by rw [capD_eq]; omega, fun i i0 i1 => ⟨few (by omega), ⟨by omega, by omega⟩, ?_⟩⟩
      obtain ⟨k, rfl⟩ := Int.eq_ofNat_of_zero_le i0
      have hk : k < ls.length := by omega
      rw [ixN_nat hk]
      simp [hk]
      refine ⟨flat_in fl (hp.mem_iff.mp (List.mem_append_right _ (List.getElem_mem hk))), hG _ _ ⟨_, _, _, rfl, ?_, by rw [List.length_eraseIdx_of_lt hk]; omega, by omega, by simp; omega⟩⟩
      refine List.Perm.trans ?_ hp
      rw [List.append_assoc]
      exact List.Perm.append_left _ (perm_erase hk)
end
end G21
set_option Elab.async false
set_option linter.all false
set_option maxRecDepth 100000
set_option maxHeartbeats 4000000
set_option synthInstance.maxSize 100000
set_option synthInstance.maxHeartbeats 0
namespace G21
open PySem PySem.Spec PyProof.Rows L2 V3
/-- a comprehension whose items are drawn: c draws each, R of each -/
theorem lcL_draw {is : List Nat} {tup : Bool} {mt : TT3} {me : TE3} {ρ : Ro} {e : Addr → Prop} (R : D → Prop) (c : Nat) : ∀ (ds : List D) (n : Nat) (q : List D → Nat → Prop),
    (∀ d ∈ ds, ∀ (m : Nat) (Kt : D → Nat → Prop) (Ks : Nat → Prop), n ≤ m → m + c ≤ n + c * ds.length → (∀ x, R x → Kt x (m + c)) → giv is tup d ρ fun ρ' => mt ρ' m (fun b n1 => if b = true then me ρ' n1 (fun _ u n2 => match u with
      | .d x => Kt x n2
      | _ => False) e else Ks n1) e) → (∀ xs : List D, xs.length = ds.length → (∀ x ∈ xs, R x) → q xs (n + c * ds.length)) → lcL is tup mt me ρ e ds n q
  | [], n, q, _, h => h [] rfl (fun x z => by cases z)
  | d :: ds, n, q, hit, h => by
    have e1 : n + c + c * ds.length = n + c * (d :: ds).length := by
      rw [List.length_cons, Nat.mul_succ]
      omega
    refine hit d (List.mem_cons_self ..) n (fun x n2 => lcL is tup mt me ρ e ds n2 fun xs n3 => q (x :: xs) n3) (fun n1 => lcL is tup mt me ρ e ds n1 q) (Nat.le_refl _) (by omega) fun x hx => ?_
    refine lcL_draw R c ds (n + c) _ (fun y hy m Kt Ks h1 h2 k => hit y (List.mem_cons_of_mem _ hy) m Kt Ks (by omega) (by omega) k) fun xs hl hxs => ?_
    show q (x :: xs) (n + c + c * ds.length)
    rw [e1]
    refine h _ (by rw [List.length_cons, List.length_cons, hl]) fun y hy => ?_
    rcases List.mem_cons.mp hy with z | z
    · rw [z]
      exact hx
    · exact hxs y z
def inR (lo hi : Int) (b : Bk) : Prop := lo ≤ b.l ∧ lo ≤ b.d ∧ b.r ≤ hi ∧ b.u ≤ hi
@[simp ↓] def sp_block : VSp := fun us n q _ => ∃ m : Int, us = [.dr, .d (.int m)] ∧ n + 100 ≤ topD ∧ 0 < m ∧ m ≤ 20 ∧ ∀ b : Bk, b.ok → inR 0 30 b → q (.d (bkD b)) (n + 4)
theorem pick6 {y : D} (h : y ∈ [PyData.int 0, .int 0, .int 1, .int 2, .int 3, .int 6]) : ∃ z : Int, y = .int z ∧ 0 ≤ z ∧ z ≤ 6 := by
  simp only [List.mem_cons, List.not_mem_nil, or_false] at h
  rcases h with rfl | rfl | rfl | rfl | rfl | rfl <;> exact ⟨_, rfl, by decide, by decide⟩
theorem pick7 {y : D} (h : y ∈ [PyData.int 0, .int 0, .int 0, .int 1, .int 1, .int 2, .int 3]) : ∃ z : Int, y = .int z ∧ 0 ≤ z ∧ z ≤ 3 := by
  simp only [List.mem_cons, List.not_mem_nil, or_false] at h
  rcases h with rfl | rfl | rfl | rfl | rfl | rfl | rfl <;> exact ⟨_, rfl, by decide, by decide⟩
theorem pick3 {y : D} (h : y ∈ [PyData.int 0, .int 1, .int 1]) : ∃ z : Int, y = .int z ∧ 0 ≤ z ∧ z ≤ 1 := by
  simp only [List.mem_cons, List.not_mem_nil, or_false] at h
  rcases h with rfl | rfl | rfl <;> exact ⟨_, rfl, by decide, by decide⟩
@[simp ↓] def sp_pen : VSp := fun us n q _ => ∃ w t : Int, us = [.dr, .d (.int 2), .d (.int 2), .d (.int w), .d (.int t)] ∧ n + 100 ≤ topD ∧ 2 ≤ w ∧ w ≤ 6 ∧ 2 ≤ t ∧ t ≤ 6 ∧ ∀ bs : List Bk, (∀ b ∈ bs, b.ok ∧ inR 0 30 b) → bs.Nodup → bs.length = 4 → q (.d (.list (bs.map bkD))) (n + 6)
section
variable {P : Program} {w : World} {K : PySem.W.Frag} {mg : Str → Option Value} {base : Heap} {TL : List (Addr × Str)}
theorem ok_l_block (T : Txt K mg) : FnOk P w K mg base CX0 4 T.l_block.a T.l_block.d ["draw", "wide"] (toSp K T.C TL false sp_block) := by
  refine T.l_block.F.ok c_l_block (fun vs H Q E h => toSp_len h fun us n q e hs => ?_) (fun cdv A outer s H vs Q E hr h => ?_)
  · (first | (obtain ⟨rfl, _⟩ := hs; rfl) | (obtain ⟨_, hs⟩ := hs; (first | (obtain ⟨rfl, _⟩ := hs; rfl) | (obtain ⟨_, hs⟩ := hs; (first | (obtain ⟨rfl, _⟩ := hs; rfl) | (obtain ⟨_, hs⟩ := hs; (first | (obtain ⟨rfl, _⟩ := hs; rfl) | (obtain ⟨_, hs⟩ := hs; (first | (obtain ⟨rfl, _⟩ := hs; rfl) | (obtain ⟨_, hs⟩ := hs; (first | (obtain ⟨rfl, _⟩ := hs; rfl) | (obtain ⟨_, hs⟩ := hs; (first | (obtain ⟨rfl, _⟩ := hs; rfl) | (obtain ⟨_, hs⟩ := hs; (first | (obtain ⟨rfl, _⟩ := hs; rfl) | (obtain ⟨_, hs⟩ := hs; (first | (obtain ⟨rfl, _⟩ := hs; rfl) | (obtain ⟨_, hs⟩ := hs; (first | (obtain ⟨rfl, _⟩ := hs; rfl) | (obtain ⟨_, hs⟩ := hs; (first | (obtain ⟨rfl, _⟩ := hs; rfl) | (obtain ⟨_, hs⟩ := hs; (first | (obtain ⟨rfl, _⟩ := hs; rfl) | (obtain ⟨_, hs⟩ := hs; (first | (obtain ⟨rfl, _⟩ := hs; rfl) | (obtain ⟨_, hs⟩ := hs; (first | (obtain ⟨rfl, _⟩ := hs; rfl) | (obtain ⟨_, hs⟩ := hs; (first | (obtain ⟨rfl, _⟩ := hs; rfl) | (obtain ⟨_, hs⟩ := hs; (first | (obtain ⟨rfl, _⟩ := hs; rfl) | (obtain ⟨_, hs⟩ := hs; (obtain ⟨rfl, _⟩ := hs; rfl)))))))))))))))))))))))))))))))))
  · refine ⟨_,
      (pss_cons (ps_par (i := 2) (j := 3) rfl c_l_block.nd rfl rfl (by decide) rfl rfl (pa_cons (pe_call (ok_l_take T (TL := TL)) (hr.mono (by decide)) rfl T.l_take.g T.l_take.k T.l_take.b .nil pass0 (pa_cons (pv 0) (pa_cons (pv 1) pa_nil))) (pa_cons (pe_call (ok_l_take T (TL := TL)) (hr.mono (by decide)) rfl T.l_take.g T.l_take.k T.l_take.b .nil pass0 (pa_cons (pv 0) (pa_cons (pv 1) pa_nil))) pa_nil)) (by with_unfolding_all rfl))
      (pss_one (ps_ret (pe_tup (pa_cons (pv 2) (pa_cons (pv 3) (pa_cons (pe_op (add3 K) (pe_op (add3 K) (pv 2) pe_int) (pe_call (ok_l_pick T (TL := TL)) (hr.mono (by decide)) rfl T.l_pick.g T.l_pick.k T.l_pick.b .nil pass0 (pa_cons (pv 0) (pa_cons (pe_lst (pa_cons pe_int (pa_cons pe_int (pa_cons pe_int (pa_cons pe_int (pa_cons pe_int (pa_cons pe_int pa_nil))))))) pa_nil)))) (pa_cons (pe_op (add3 K) (pe_op (add3 K) (pv 3) pe_int) (pe_call (ok_l_pick T (TL := TL)) (hr.mono (by decide)) rfl T.l_pick.g T.l_pick.k T.l_pick.b .nil pass0 (pa_cons (pv 0) (pa_cons (pe_lst (pa_cons pe_int (pa_cons pe_int (pa_cons pe_int (pa_cons pe_int (pa_cons pe_int (pa_cons pe_int pa_nil))))))) pa_nil)))) pa_nil))))))))
      , run3 (K := K) (C := T.C) (TL := TL) h fun us n q e hs => ?_⟩
    obtain ⟨m, rfl, hn, h0, h1, hq⟩ := hs
    have hc := capD_eq
    simp [ro0, -List.mem_cons]
    refine ⟨by omega, h0, by omega, fun x x0 x1 => ⟨by omega, h0, by omega, fun y y0 y1 => ⟨by omega, fun a ha => ?_⟩⟩⟩
    obtain ⟨i, rfl, i0, i1⟩ := pick6 ha
    refine ⟨rfl, by omega, fun b hb => ?_⟩
    obtain ⟨j, rfl, j0, j1⟩ := pick6 hb
    exact ⟨rfl, hq ⟨x, y, x + 1 + i, y + 1 + j⟩ ⟨by show x < x + 1 + i; omega, by show y < y + 1 + j; omega⟩ ⟨x0, y0, by show x + 1 + i ≤ 30; omega, by show y + 1 + j ≤ 30; omega⟩⟩
set_option synthInstance.maxSize 100000 in
set_option synthInstance.maxHeartbeats 0 in
theorem ok_l_pen (T : Txt K mg) : FnOk P w K mg base CX0 4 T.l_pen.a T.l_pen.d ["draw", "left", "low", "wide", "tall"] (toSp K T.C TL true sp_pen) := by
  refine T.l_pen.F.ok c_l_pen (fun vs H Q E h => toSp_len h fun us n q e hs => ?_) (fun cdv A outer s H vs Q E hr h => ?_)
  · (first | (obtain ⟨rfl, _⟩ := hs; rfl) | (obtain ⟨_, hs⟩ := hs; (first | (obtain ⟨rfl, _⟩ := hs; rfl) | (obtain ⟨_, hs⟩ := hs; (first | (obtain ⟨rfl, _⟩ := hs; rfl) | (obtain ⟨_, hs⟩ := hs; (first | (obtain ⟨rfl, _⟩ := hs; rfl) | (obtain ⟨_, hs⟩ := hs; (first | (obtain ⟨rfl, _⟩ := hs; rfl) | (obtain ⟨_, hs⟩ := hs; (first | (obtain ⟨rfl, _⟩ := hs; rfl) | (obtain ⟨_, hs⟩ := hs; (first | (obtain ⟨rfl, _⟩ := hs; rfl) | (obtain ⟨_, hs⟩ := hs; (first | (obtain ⟨rfl, _⟩ := hs; rfl) | (obtain ⟨_, hs⟩ := hs; (first | (obtain ⟨rfl, _⟩ := hs; rfl) | (obtain ⟨_, hs⟩ := hs; (first | (obtain ⟨rfl, _⟩ := hs; rfl) | (obtain ⟨_, hs⟩ := hs; (first | (obtain ⟨rfl, _⟩ := hs; rfl) | (obtain ⟨_, hs⟩ := hs; (first | (obtain ⟨rfl, _⟩ := hs; rfl) | (obtain ⟨_, hs⟩ := hs; (first | (obtain ⟨rfl, _⟩ := hs; rfl) | (obtain ⟨_, hs⟩ := hs; (first | (obtain ⟨rfl, _⟩ := hs; rfl) | (obtain ⟨_, hs⟩ := hs; (first | (obtain ⟨rfl, _⟩ := hs; rfl) | (obtain ⟨_, hs⟩ := hs; (first | (obtain ⟨rfl, _⟩ := hs; rfl) | (obtain ⟨_, hs⟩ := hs; (obtain ⟨rfl, _⟩ := hs; rfl)))))))))))))))))))))))))))))))))
  · refine ⟨_,
      (pss_cons (ps_setLc (i := 5) (own := [("turn", 12)]) (g := gName 12) (by rfl) c_l_pen.nd rfl rfl (sw_true rfl rfl rfl (by decide +kernel)) (pi_range1 rfl T.z_range (pa_cons pe_int pa_nil)) (blkOk_by (own := [("turn", 12)]) (N := N_l_pen) (sc := defScope S_l_pen) (by decide +kernel)) (fun _ _ _ _ _ => pg_name (i := 12) c_l_pen.nd rfl (Or.inl rfl)) (fun _ _ _ _ _ => pts_nil) (fun _ _ _ _ _ => (pe_call (ok_l_pick T (TL := TL)) (hr.mono (by decide)) rfl T.l_pick.g T.l_pick.k T.l_pick.b .nil pass0 (pa_cons (pv 0) (pa_cons (pe_lst (pa_cons pe_int (pa_cons pe_int (pa_cons pe_int (pa_cons pe_int (pa_cons pe_int (pa_cons pe_int (pa_cons pe_int pa_nil)))))))) pa_nil)))))
      (pss_cons (ps_par (i := 6) (j := 7) rfl c_l_pen.nd rfl rfl (by decide) rfl rfl (pa_cons (pe_op (add3 K) (pv 1) (pv 3)) (pa_cons (pe_op (add3 K) (pv 2) (pv 4)) pa_nil)) (by with_unfolding_all rfl))
      (pss_cons (ps_set (i := 8) c_l_pen.nd rfl (Or.inl rfl) (pe_tup (pa_cons (pe_op op_sub (pv 1) pe_int) (pa_cons (pe_op op_sub (pv 2) pe_int) (pa_cons (pe_op op_sub (pe_op (add3 K) (pv 6) pe_int) (pe_callB (min3 K rfl (hu_of hr)) (by rfl) T.z_min (by decide +kernel) (pa_cons (pe_ix (ix3 K) (pv 5) pe_int (fun _ _ => rfl)) (pa_cons (pv 3) pa_nil)))) (pa_cons (pv 2) pa_nil))))))
      (pss_cons (ps_set (i := 9) c_l_pen.nd rfl (Or.inl rfl) (pe_tup (pa_cons (pv 6) (pa_cons (pe_op (add3 K) (pe_op op_sub (pv 2) pe_int) (pe_call (ok_l_pick T (TL := TL)) (hr.mono (by decide)) rfl T.l_pick.g T.l_pick.k T.l_pick.b .nil pass0 (pa_cons (pv 0) (pa_cons (pe_lst (pa_cons pe_int (pa_cons pe_int (pa_cons pe_int pa_nil)))) pa_nil)))) (pa_cons (pe_op (add3 K) (pv 6) pe_int) (pa_cons (pe_op op_sub (pe_op (add3 K) (pv 7) pe_int) (pe_callB (min3 K rfl (hu_of hr)) (by rfl) T.z_min (by decide +kernel) (pa_cons (pe_ix (ix3 K) (pv 5) pe_int (fun _ _ => rfl)) (pa_cons (pv 4) pa_nil)))) pa_nil))))))
      (pss_cons (ps_set (i := 10) c_l_pen.nd rfl (Or.inl rfl) (pe_tup (pa_cons (pe_op (add3 K) (pe_op op_sub (pv 1) pe_int) (pe_callB (min3 K rfl (hu_of hr)) (by rfl) T.z_min (by decide +kernel) (pa_cons (pe_ix (ix3 K) (pv 5) pe_int (fun _ _ => rfl)) (pa_cons (pv 3) pa_nil)))) (pa_cons (pv 7) (pa_cons (pe_op (add3 K) (pv 6) pe_int) (pa_cons (pe_op (add3 K) (pv 7) pe_int) pa_nil))))))
      (pss_cons (ps_set (i := 11) c_l_pen.nd rfl (Or.inl rfl) (pe_tup (pa_cons (pe_op op_sub (pv 1) pe_int) (pa_cons (pe_op (add3 K) (pe_op op_sub (pv 2) pe_int) (pe_callB (min3 K rfl (hu_of hr)) (by rfl) T.z_min (by decide +kernel) (pa_cons (pe_ix (ix3 K) (pv 5) pe_int (fun _ _ => rfl)) (pa_cons (pv 4) pa_nil)))) (pa_cons (pv 1) (pa_cons (pe_op (add3 K) (pv 7) (pe_call (ok_l_pick T (TL := TL)) (hr.mono (by decide)) rfl T.l_pick.g T.l_pick.k T.l_pick.b .nil pass0 (pa_cons (pv 0) (pa_cons (pe_lst (pa_cons pe_int (pa_cons pe_int (pa_cons pe_int pa_nil)))) pa_nil)))) pa_nil))))))
      (pss_one (ps_ret (pe_lst (pa_cons (pv 8) (pa_cons (pv 9) (pa_cons (pv 10) (pa_cons (pv 11) pa_nil)))))))))))))
      , run3 (K := K) (C := T.C) (TL := TL) h fun us n q e hs => ?_⟩
    obtain ⟨w, t, rfl, hn, w0, w1, t0, t1, hq⟩ := hs
    simp [ro0, -List.mem_cons]
    refine ⟨few (by decide), lcL_draw (fun x => ∃ z : Int, x = .int z ∧ 0 ≤ z ∧ z ≤ 3) 1 _ n _ (fun d hd m Kt Ks m0 m1 k => ?_) fun xs hl hx => ?_⟩
    · have hl : (upFrom 0 4).length = 4 := rfl
      rw [hl] at m1
      simp [-List.mem_cons]
      exact ⟨by omega, fun y hy => k y (pick7 hy)⟩
    · match xs, hl, hx with
      | [x0, x1, x2, x3], _, hx =>
        obtain ⟨c0, rfl, a0, b0⟩ := hx x0 (by simp)
        obtain ⟨c1, rfl, a1, b1⟩ := hx x1 (by simp)
        obtain ⟨c2, rfl, a2, b2⟩ := hx x2 (by simp)
        obtain ⟨c3, rfl, a3, b3⟩ := hx x3 (by simp)
        have e4 : n + 1 * (upFrom 0 4).length = n + 4 := rfl
        rw [e4]
        simp [-List.mem_cons]
        refine ⟨by omega, fun y hy => ?_⟩
        obtain ⟨i, rfl, i0, i1⟩ := pick3 hy
        refine ⟨rfl, by omega, fun z hz => ?_⟩
        obtain ⟨j, rfl, j0, j1⟩ := pick3 hz
        refine ⟨rfl, hq [⟨1, 1, 2 + w + 1 - min c0 w, 2⟩, ⟨2 + w, 1 + i, 2 + w + 1, 2 + t + 1 - min c1 t⟩, ⟨1 + min c2 w, 2 + t, 2 + w + 1, 2 + t + 1⟩, ⟨1, 1 + min c3 t, 2, 2 + t + j⟩] (fun b hb => ?_) ?_ rfl⟩
        · simp only [List.mem_cons, List.not_mem_nil, or_false] at hb
          rcases hb with rfl | rfl | rfl | rfl <;> simp only [Bk.ok, inR] <;> omega
        · have ne : ∀ {a b : Bk}, (a.l ≠ b.l ∨ a.d ≠ b.d ∨ a.r ≠ b.r) → a ≠ b := fun h e => by
            subst e
            omega
          refine .cons (fun b hb => ?_) (.cons (fun b hb => ?_) (.cons (fun b hb => ?_) (.cons (fun b hb => by cases hb) .nil)))
          · simp only [List.mem_cons, List.not_mem_nil, or_false] at hb
            rcases hb with rfl | rfl | rfl <;> refine ne ?_ <;> dsimp only <;> omega
          · simp only [List.mem_cons, List.not_mem_nil, or_false] at hb
            rcases hb with rfl | rfl <;> refine ne ?_ <;> dsimp only <;> omega
          · simp only [List.mem_cons, List.not_mem_nil, or_false] at hb
            subst hb
            refine ne ?_
            dsimp only
            omega
end
end G21
set_option Elab.async false
set_option linter.all false
set_option maxRecDepth 100000
set_option maxHeartbeats 4000000
set_option synthInstance.maxSize 100000
set_option synthInstance.maxHeartbeats 0
namespace G21
open PySem PySem.Spec PyProof.Rows L2 V3
@[simp ↓] def sp_stretched : VSp := fun us n q _ => ∃ (bs : List Bk) (f g : Int → Int) (ns ms : List Int), us = [.d (.list (bs.map bkD)), .tb f ns, .tb g ms] ∧ bs.length ≤ 100 ∧ (∀ b ∈ bs, b.l ∈ ns ∧ b.r ∈ ns ∧ b.d ∈ ms ∧ b.u ∈ ms) ∧ q (.d (.list ((bs.map (stB f g)).map bkD))) n
@[simp ↓] def sp_lnumber : VSp := fun us n q _ => ∃ x, us = [.d x] ∧ q (.d (.bool (isN x))) n
@[simp ↓] def sp_lhere : VSp := fun us n q _ => ∃ (x : D) (m : Int), us = [.d x, .d (.int m)] ∧ q (.d (.bool (isIxD m x))) n
@[simp ↓] def sp_lsays : VSp := fun us n q _ => ∃ a b : Bool, us = [.d (.bool a), .d (.bool b)] ∧ q (.d (.bool (a == b))) n
@[simp ↓] def sp_lheart : VSp := fun us n q _ => ∃ (bs : List Bk) (a b : Int) (i : Int) (k : Bk), us = [.d (.list (bs.map bkD)), .d (pr a b), .d (.int i)] ∧ atI bs i = some k ∧ q (.d (pr (k.l - a + k.r) (k.d - b + k.u))) n
@[simp ↓] def sp_lbarred : VSp := fun us n q _ => ∃ (bs : List Bk) (a b x y : Int), us = [.d (.list (bs.map bkD)), .d (pr a b), .d (pr x y)] ∧ bs.length ≤ 100 ∧ ∀ ks : List D, (ks = [] ↔ freeB bs a b x y = true) → V3.flatAll ks = true → ks.length ≤ 100 → SeqAt.shaped (.list ks) = true → q (.d (.list ks)) n
theorem atI_map {α β : Type} (f : α → β) {xs : List α} {i : Int} {x : α} (h : atI xs i = some x) : atI (xs.map f) i = some (f x) := by
  unfold atI at h ⊢
  rw [List.length_map]
  cases e : ixN xs.length i with
  | none =>
    rw [e] at h
    cases h
  | some j =>
    rw [e] at h
    have h : xs[j]? = some x := h
    show (xs.map f)[j]? = _
    rw [List.getElem?_map, h]
    rfl
def numFrom : Nat → List D → List D
  | _, [] => []
  | k, d :: ds => .tuple [.int (k : Nat), d] :: numFrom (k + 1) ds
theorem numFrom_eq : ∀ (ds : List D) (k : Nat), numFrom k ds = (ds.zipIdx k).map fun p => PyData.tuple [.int (p.2 : Nat), p.1]
  | [], _ => rfl
  | d :: ds, k => by
    show _ :: numFrom (k + 1) ds = _
    rw [numFrom_eq ds (k + 1)]
    rfl
theorem numD_from (ds : List D) : V3.numD ds = numFrom 0 ds := (numFrom_eq ds 0).symm
theorem flat_ints : ∀ ks : List Int, V3.flatAll (ks.map PyData.int) = true
  | [] => rfl
  | k :: ks => by
    show (V3.flat (.int k) && V3.flatAll (ks.map PyData.int)) = true
    rw [flat_ints ks]
    rfl
theorem shaped_ints (ks : List Int) : SeqAt.shaped (.list (ks.map PyData.int)) = true := GS.shaped_is _
section
variable {P : Program} {w : World} {K : PySem.W.Frag} {mg : Str → Option Value} {base : Heap} {TL : List (Addr × Str)}
theorem ok_l_stretched (T : Txt K mg) : FnOk P w K mg base CX0 1 T.l_stretched.a T.l_stretched.d ["blocks", "across", "up"] (toSp K T.C TL true sp_stretched) := by
  refine T.l_stretched.F.ok c_l_stretched (fun vs H Q E h => toSp_len h fun us n q e hs => ?_) (fun cdv A outer s H vs Q E hr h => ?_)
  · (first | (obtain ⟨rfl, _⟩ := hs; rfl) | (obtain ⟨_, hs⟩ := hs; (first | (obtain ⟨rfl, _⟩ := hs; rfl) | (obtain ⟨_, hs⟩ := hs; (first | (obtain ⟨rfl, _⟩ := hs; rfl) | (obtain ⟨_, hs⟩ := hs; (first | (obtain ⟨rfl, _⟩ := hs; rfl) | (obtain ⟨_, hs⟩ := hs; (first | (obtain ⟨rfl, _⟩ := hs; rfl) | (obtain ⟨_, hs⟩ := hs; (first | (obtain ⟨rfl, _⟩ := hs; rfl) | (obtain ⟨_, hs⟩ := hs; (first | (obtain ⟨rfl, _⟩ := hs; rfl) | (obtain ⟨_, hs⟩ := hs; (first | (obtain ⟨rfl, _⟩ := hs; rfl) | (obtain ⟨_, hs⟩ := hs; (first | (obtain ⟨rfl, _⟩ := hs; rfl) | (obtain ⟨_, hs⟩ := hs; (first | (obtain ⟨rfl, _⟩ := hs; rfl) | (obtain ⟨_, hs⟩ := hs; (first | (obtain ⟨rfl, _⟩ := hs; rfl) | (obtain ⟨_, hs⟩ := hs; (first | (obtain ⟨rfl, _⟩ := hs; rfl) | (obtain ⟨_, hs⟩ := hs; (first | (obtain ⟨rfl, _⟩ := hs; rfl) | (obtain ⟨_, hs⟩ := hs; (first | (obtain ⟨rfl, _⟩ := hs; rfl) | (obtain ⟨_, hs⟩ := hs; (first | (obtain ⟨rfl, _⟩ := hs; rfl) | (obtain ⟨_, hs⟩ := hs; (first | (obtain ⟨rfl, _⟩ := hs; rfl) | (obtain ⟨_, hs⟩ := hs; (obtain ⟨rfl, _⟩ := hs; rfl)))))))))))))))))))))))))))))))))
  · refine ⟨_,
      (pss_one (ps_ret (pe_lc (own := [("left", 3), ("low", 4), ("right", 5), ("high", 6)]) (g := gTup K 4 (gCons (gName 3) (gCons (gName 4) (gCons (gName 5) (gCons (gName 6) gNil))))) (by rfl) c_l_stretched.nd (seq3 K (pv 0)) (blkOk_by (own := [("left", 3), ("low", 4), ("right", 5), ("high", 6)]) (N := N_l_stretched) (sc := defScope S_l_stretched) (by decide +kernel)) (fun _ _ _ _ _ => tupG3 K (n := 4) rfl (pgs_cons (pg_name (i := 3) c_l_stretched.nd rfl (Or.inl rfl) (hf := Or.inr rfl)) (pgs_cons (pg_name (i := 4) c_l_stretched.nd rfl (Or.inl rfl) (hf := Or.inr rfl)) (pgs_cons (pg_name (i := 5) c_l_stretched.nd rfl (Or.inl rfl) (hf := Or.inr rfl)) (pgs_cons (pg_name (i := 6) c_l_stretched.nd rfl (Or.inl rfl) (hf := Or.inr rfl)) pgs_nil))))) (fun _ _ _ _ _ => pts_nil) (fun _ _ _ _ _ => (pe_tup (pa_cons (pe_dget (hu_of hr) (pv 1) (pv 3) (fun _ _ => rfl)) (pa_cons (pe_dget (hu_of hr) (pv 2) (pv 4) (fun _ _ => rfl)) (pa_cons (pe_dget (hu_of hr) (pv 1) (pv 5) (fun _ _ => rfl)) (pa_cons (pe_dget (hu_of hr) (pv 2) (pv 6) (fun _ _ => rfl)) pa_nil)))))))))
      , run3 (K := K) (C := T.C) (TL := TL) h fun us n q e hs => ?_⟩
    obtain ⟨bs, f, g, ns, ms, rfl, hl, hm, hq⟩ := hs
    simp [ro0]
    refine ⟨few (by omega), lcL_all bkD (fun b => bkD (stB f g b)) bs n _ (fun b hb n Kt Ks h => ?_) ?_⟩
    · obtain ⟨h1, h2, h3, h4⟩ := hm b hb
      simp [h1, h2, h3, h4]
      exact h
    · rw [List.map_map] at hq
      exact hq
end
end G21
set_option Elab.async false
set_option linter.all false
set_option maxRecDepth 100000
set_option maxHeartbeats 4000000
set_option synthInstance.maxSize 100000
set_option synthInstance.maxHeartbeats 0
namespace G21
open PySem PySem.Spec PyProof.Rows L2 V3
def nrL (k m : Bk) (a b : Int) : Bool := decide (max k.l m.l - a < min k.r m.r) && decide (max k.d m.d - b < min k.u m.u)
@[simp ↓] def sp_lnear : VSp := fun us n q _ => ∃ (bs : List Bk) (a b : Int) (i j : Int) (k m : Bk), us = [.d (.list (bs.map bkD)), .d (pr a b), .d (.int i), .d (.int j)] ∧ atI bs i = some k ∧ atI bs j = some m ∧ q (.d (.bool (nrL k m a b))) n
abbrev mtL (k m : Bk) (a b : Int) : D := pr (max k.l m.l - a + min k.r m.r) (max k.d m.d - b + min k.u m.u)
@[simp ↓] def sp_lmeeting : VSp := fun us n q _ => ∃ (bs : List Bk) (a b : Int) (i j : Int) (k m : Bk), us = [.d (.list (bs.map bkD)), .d (pr a b), .d (.int i), .d (.int j)] ∧ atI bs i = some k ∧ atI bs j = some m ∧ q (.d (mtL k m a b)) n
@[simp ↓] def sp_lfar : VSp := fun us n q _ => ∃ (bs : List Bk), us = [.d (.list (bs.map bkD))] ∧ bs.length ≤ 100 ∧ (bs = [] → q (.d (pr 0 0)) n) ∧ ∀ x y : Int, bs ≠ [] → x ∈ bs.map Bk.r → (∀ b ∈ bs, b.r ≤ x) → y ∈ bs.map Bk.u → (∀ b ∈ bs, b.u ≤ y) → q (.d (pr x y)) n
theorem shaped_bks (bs : List Bk) : SeqAt.shaped (.list (bs.map bkD)) = true := by
  rw [bks_tup]
  exact GS.shaped_ts _
theorem eqv_bks {bs : List Bk} (h : bs ≠ []) : PyData.eqv (.list (bs.map bkD)) (.list []) = false := by
  cases bs with
  | nil => exact absurd rfl h
  | cons b bs => rfl
section
variable {P : Program} {w : World} {K : PySem.W.Frag} {mg : Str → Option Value} {base : Heap} {TL : List (Addr × Str)}
end
end G21
set_option Elab.async false
set_option linter.all false
set_option maxRecDepth 100000
set_option maxHeartbeats 4000000
set_option synthInstance.maxSize 100000
set_option synthInstance.maxHeartbeats 0
namespace G21
open PySem PySem.Spec PyProof.Rows L2 V3
abbrev pN (p : Nat × Nat) : D := pr (p.1 : Nat) (p.2 : Nat)
def nrAt (bs : List Bk) (a b : Int) (i j : Nat) : Bool := match bs[i]?, bs[j]? with
  | some k, some m => nrL k m a b
  | _, _ => false
/-- the near pairs, the smaller first -/
def prs1 (bs : List Bk) (a b : Int) (i : Nat) : List (Nat × Nat) := (((List.range (bs.length - (i + 1))).map fun j => (i, i + 1 + j)).filter fun p => nrAt bs a b p.1 p.2)
def prsL (bs : List Bk) (a b : Int) : Nat → List (Nat × Nat)
  | 0 => []
  | k + 1 => prsL bs a b k ++ prs1 bs a b k
@[simp ↓] def sp_lpairs : VSp := fun us n q _ => ∃ (bs : List Bk) (a b : Int), us = [.d (.list (bs.map bkD)), .d (pr a b)] ∧ bs.length ≤ 50 ∧ q (.d (.list ((prsL bs a b bs.length).map pN))) n
theorem prs1_len (bs : List Bk) (a b : Int) (i : Nat) : (prs1 bs a b i).length ≤ bs.length := by
  unfold prs1
  refine Nat.le_trans (List.length_filter_le _ _) ?_
  rw [List.length_map, List.length_range]
  omega
theorem prsL_len (bs : List Bk) (a b : Int) : ∀ k, (prsL bs a b k).length ≤ k * bs.length
  | 0 => by simp [prsL]
  | k + 1 => by
    have := prsL_len bs a b k
    have := prs1_len bs a b k
    show (prsL bs a b k ++ prs1 bs a b k).length ≤ _
    rw [List.length_append, Nat.succ_mul]
    omega
theorem up_pairs (k m : Nat) : upFrom ((k : Int) + 1) m = ((List.range m).map fun j => (k, k + 1 + j)).map fun p : Nat × Nat => PyData.int (p.2 : Nat) := by
  unfold upFrom
  rw [List.map_map]
  refine List.map_congr_left fun j _ => ?_
  show PyData.int _ = PyData.int _
  congr 1
theorem flat_pN (ps : List (Nat × Nat)) : V3.flatAll (ps.map pN) = true := by
  induction ps with
  | nil => rfl
  | cons p ps ih =>
    show (V3.flat (pN p) && V3.flatAll (ps.map pN)) = true
    rw [ih]
    rfl
section
variable {P : Program} {w : World} {K : PySem.W.Frag} {mg : Str → Option Value} {base : Heap} {TL : List (Addr × Str)}
end
end G21
set_option Elab.async false
set_option linter.all false
set_option maxRecDepth 100000
set_option maxHeartbeats 4000000
set_option synthInstance.maxSize 100000
set_option synthInstance.maxHeartbeats 0
namespace G21
open PySem PySem.Spec PyProof.Rows L2 V3
theorem bk_inj {b c : Bk} (h : bkD b = bkD c) : b = c := by
  cases b
  cases c
  simp at h
  simp [h]
@[simp] theorem bks_inj : ∀ {bs cs : List Bk}, (bs.map bkD = cs.map bkD) = (bs = cs)
  | [], [] => by simp
  | [], c :: cs => by simp
  | b :: bs, [] => by simp
  | b :: bs, c :: cs => by
    rw [List.map_cons, List.map_cons, List.cons.injEq, List.cons.injEq, bks_inj]
    exact propext ⟨fun ⟨h1, h2⟩ => ⟨bk_inj h1, h2⟩, fun ⟨h1, h2⟩ => ⟨by rw [h1], h2⟩⟩
def bkA (bs : List Bk) (i : Int) : Bk := (atI bs i).getD ⟨0, 0, 0, 0⟩
def rgA (ns : List Int) (i : Int) : Int := (atI ns i).getD 0
theorem at_in {α : Type} {xs : List α} {i : Int} (h0 : -(xs.length : Int) ≤ i) (h1 : i < xs.length) : ∃ x ∈ xs, atI xs i = some x := by
  unfold atI ixN
  by_cases h : 0 ≤ i
  · rw [if_pos h, if_pos h1]
    have hk : i.toNat < xs.length := by omega
    exact ⟨xs[i.toNat], List.getElem_mem hk, by simp [hk]⟩
  · rw [if_neg h]
    have hk : (i + xs.length).toNat < xs.length := by omega
    rw [if_pos (by omega)]
    first
    | exact ⟨xs[(i + xs.length).toNat], List.getElem_mem hk, by simp [hk]⟩
    | exact ⟨xs[(xs.length + i).toNat]'(by omega), List.getElem_mem _, by simp; omega⟩
theorem at_bkA {bs : List Bk} {i : Int} (h0 : 0 ≤ i) (h1 : i < bs.length) : atI bs i = some (bkA bs i) := by
  obtain ⟨x, _, e⟩ := at_in (xs := bs) (by omega) h1
  unfold bkA
  rw [e]
  rfl
theorem at_rg {ns : List Int} {i : Int} (h0 : -(ns.length : Int) ≤ i) (h1 : i < ns.length) : atI ns i = some (rgA ns i) ∧ rgA ns i ∈ ns := by
  obtain ⟨x, hx, e⟩ := at_in h0 h1
  unfold rgA
  rw [e]
  exact ⟨rfl, hx⟩
abbrev htL (k : Bk) (a b : Int) : D := pr (k.l - a + k.r) (k.d - b + k.u)
theorem flat_app {xs ys : List D} (h1 : V3.flatAll xs = true) (h2 : V3.flatAll ys = true) : V3.flatAll (xs ++ ys) = true := by
  induction xs with
  | nil => exact h2
  | cons x xs ih =>
    have h1 : (V3.flat x && V3.flatAll xs) = true := h1
    obtain ⟨g1, g2⟩ := Bool.and_eq_true_iff.mp h1
    show (V3.flat x && V3.flatAll (xs ++ ys)) = true
    rw [g1, ih g2]
    rfl
def polyL (bs : List Bk) (a b : Int) (ns : List Int) : Nat → List D
  | 0 => []
  | k + 1 => polyL bs a b ns k ++ [htL (bkA bs (rgA ns ((k : Int) - 1))) a b, mtL (bkA bs (rgA ns ((k : Int) - 1))) (bkA bs (rgA ns (k : Int))) a b]
@[simp ↓] def sp_lpoly : VSp := fun us n q _ => ∃ (bs : List Bk) (a b : Int) (ns : List Int), us = [.d (.list (bs.map bkD)), .d (pr a b), .d (.tuple (ns.map .int))] ∧ ns.length ≤ 50 ∧ (∀ i ∈ ns, 0 ≤ i ∧ i < bs.length) ∧ q (.d (.list (polyL bs a b ns ns.length))) n
theorem poly_len (bs : List Bk) (a b : Int) (ns : List Int) : ∀ k, (polyL bs a b ns k).length = 2 * k
  | 0 => rfl
  | k + 1 => by
    show (polyL bs a b ns k ++ _).length = _
    rw [List.length_append, poly_len bs a b ns k]
    simp
    omega
theorem poly_flat (bs : List Bk) (a b : Int) (ns : List Int) : ∀ k, V3.flatAll (polyL bs a b ns k) = true
  | 0 => rfl
  | k + 1 => flat_app (poly_flat bs a b ns k) rfl
section
variable {P : Program} {w : World} {K : PySem.W.Frag} {mg : Str → Option Value} {base : Heap} {TL : List (Addr × Str)}
end
end G21
set_option Elab.async false
set_option linter.all false
set_option maxRecDepth 100000
set_option maxHeartbeats 4000000
set_option synthInstance.maxSize 100000
set_option synthInstance.maxHeartbeats 0
namespace G21
open PySem PySem.Spec PyProof.Rows L2 V3
abbrev pD (p : Int × Int) : D := pr p.1 p.2
/-- one side of the polygon: is it crossed by the ray upwards from (x, y)? -/
def crs (x y : Int) (o p : Int × Int) : Bool := (decide (o.1 > x) != decide (p.1 > x)) && (decide ((x - o.1) * (p.2 - o.2) - (y - o.2) * (p.1 - o.1) > 0) == decide (p.1 > o.1))
def encL (ps : List (Int × Int)) (x y : Int) : Nat → Bool
  | 0 => false
  | k + 1 => xor (encL ps x y k) (crs x y ((atI ps ((k : Int) - 1)).getD (0, 0)) ((atI ps (k : Int)).getD (0, 0)))
def ptB (p : Int × Int) : Prop := (-1000000000 ≤ p.1 ∧ p.1 ≤ 1000000000) ∧ -1000000000 ≤ p.2 ∧ p.2 ≤ 1000000000
@[simp ↓] def sp_lenc : VSp := fun us n q _ => ∃ (ps : List (Int × Int)) (x y : Int), us = [.d (.list (ps.map pD)), .d (pr x y)] ∧ ps.length ≤ 100 ∧ (∀ p ∈ ps, ptB p) ∧ ptB (x, y) ∧ q (.d (.int (if encL ps (2 * x) (2 * y) ps.length = true then 1 else 0))) n
section
variable {P : Program} {w : World} {K : PySem.W.Frag} {mg : Str → Option Value} {base : Heap} {TL : List (Addr × Str)}
end
end G21
set_option Elab.async false
set_option linter.all false
set_option maxRecDepth 100000
set_option maxHeartbeats 4000000
set_option synthInstance.maxSize 100000
set_option synthInstance.maxHeartbeats 0
namespace G21
open PySem PySem.Spec PyProof.Rows L2 V3
def oD : Option Int → D
  | none => .none
  | some n => .int n
@[simp] theorem oD_n : oD none = .none := rfl
@[simp] theorem oD_s (n : Int) : oD (some n) = .int n := rfl
def lsO : Option Int → Option Int → Option Int
  | none, q => q
  | some p, none => some p
  | some p, some q => some (min p q)
abbrev cD (c : Option Int × Option Int) : D := .tuple [oD c.1, oD c.2]
@[simp ↓] def sp_lleast : VSp := fun us n q _ => ∃ (a b : Option Int), us = [.d (oD a), .d (oD b)] ∧ q (.d (oD (lsO a b))) n
def hdO (c b : Option Int × Option Int) : Bool := decide (lsO c.1 b.1 = b.1) && decide (lsO c.2 b.2 = b.2)
@[simp ↓] def sp_lholds : VSp := fun us n q _ => ∃ (c b : Option Int × Option Int), us = [.d (cD c), .d (cD b)] ∧ q (.d (.bool (hdO c b))) n
@[simp ↓] def sp_lrank : VSp := fun us n q _ => ∃ (a : Option Int), us = [.d (oD a)] ∧ q (.d (match a with
  | none => pr 1 0
  | some k => pr 0 k)) n
def isNums (m : Int) : D → Bool
  | .tuple xs => decide ((xs.length : Int) = m) && xs.all isN
  | _ => false
@[simp ↓] def sp_lnums : VSp := fun us n q _ => ∃ (x : D) (m : Int), us = [.d x, .d (.int m)] ∧ (∀ xs, x = .tuple xs → xs.length ≤ 1000) ∧ q (.d (.bool (isNums m x))) n
theorem oD_inj {a b : Option Int} (h : oD a = oD b) : a = b := by
  cases a <;> cases b <;> simp at h ⊢
  exact h
theorem eq_oD (a b : Option Int) (k : Bool → D → Prop) : V3.eqU id (.d (oD a)) (.d (oD b)) k = k false (.bool (decide (a = b))) := by
  cases a <;> cases b <;> simp [V3.eqU, PyData.eqv, SeqAt.shaped, PyData.canLay0, PyData.depth]
/-- a list of ones, for the items that p takes -/
theorem ones_sh (p : D → Bool) (xs : List D) : SeqAt.shaped (.list ((xs.filter p).map fun _ => PyData.int 1)) = true := by
  have e : ((xs.filter p).map fun _ => PyData.int 1) = ((xs.filter p).map fun _ => (1 : Int)).map PyData.int := by
    rw [List.map_map]
    rfl
  rw [e]
  exact shaped_ints _
theorem ones_eq (p : D → Bool) (xs : List D) : PyData.eqv (.list ((xs.filter p).map fun _ => PyData.int 1)) (.list []) = xs.all (fun x => !p x) := by
  induction xs with
  | nil => rfl
  | cons x xs ih =>
    by_cases h : p x = true
    · rw [List.filter_cons_of_pos h, List.all_cons, h]
      rfl
    · rw [List.filter_cons_of_neg h, List.all_cons, ih]
      simp [h]
theorem lcL_ones {is : List Nat} {tup : Bool} {mt : TT3} {me : TE3} {ρ : Ro} {e : Addr → Prop} (p : D → Bool) (xs : List D) (n : Nat) (q : List D → Nat → Prop)
    (hit : ∀ a ∈ xs, ∀ (n : Nat) (Kt : D → Nat → Prop) (Ks : Nat → Prop), (if p a = true then Kt (.int 1) n else Ks n) → giv is tup a ρ fun ρ' => mt ρ' n (fun b n1 => if b = true then me ρ' n1 (fun _ u n2 => match u with
      | .d x => Kt x n2
      | _ => False) e else Ks n1) e) (h : q ((xs.filter p).map fun _ => PyData.int 1) n) : lcL is tup mt me ρ e xs n q := by
  have z := lcL_pure (is := is) (tup := tup) (mt := mt) (me := me) (ρ := ρ) (e := e) (fun d => d) (fun _ => PyData.int 1) p xs n q hit h
  rw [List.map_id'] at z
  exact z
section
variable {P : Program} {w : World} {K : PySem.W.Frag} {mg : Str → Option Value} {base : Heap} {TL : List (Addr × Str)}
end
end G21
set_option Elab.async false
set_option linter.all false
set_option maxRecDepth 100000
set_option maxHeartbeats 4000000
/-! x, y = [..], [[..], [..]]: a list of one's own, and a list of lists that is only read -/
namespace V3
open PySem PySem.Spec PyProof.Rows L2
section
variable {K : PySem.W.Frag} {C : Addr} {TL : List (Addr × Str)} {E : XK}
def tParN (i j : Nat) (ta tb : TE) : TS := tPar i j (tCons ta (tCons tb tNil))
theorem parN {X : Cx} {s : Stmt} {i j : Nat} {ta tb : TE} (h : PS X s (tPar i j (tCons ta (tCons tb tNil)))) : PS X s (tParN i j ta tb) := h
@[simp ↓] def mParN (S2 : List Nat) (i j : Nat) (ma mb : TE3) : TS3 := fun F ρ n e => ma ρ n (fun f1 x n1 => f1 = true ∧ askL x fun ds => flatAll ds = true ∧ mb ρ n1 (fun _ y n2 => askD y fun z => F.nx (((dem S2 ρ).set i (.ow ds)).set j (.fz (.d z))) n2) (fun _ => False)) e
theorem hid_in {am : Am} {ρ : Ro} {n n1 : Nat} {σ : L2.St} {H H1 : Hp} (h : Rl am ρ n σ H) (f : FrR am.R H H1) (w : Wd am.R am.TL H1 n1) {p : Addr} {vs : List V} (hp : New H p) (e : H1 p = some (.lst vs)) : Rl (lcAm am p) ρ n1 σ H1 := by
  have L : Le (cut (Hid am ρ σ) H) (cut (Hid (lcAm am p) ρ σ) H1) := Le.cut (fun a z => by
    rcases lc_hid.mp z with z | z
    · exact .inr (z ▸ hp)
    · exact .inl z) fun a o hn t e => f.1 a o (fun d g c q => by
      obtain ⟨h1, h2, _, _⟩ := h.wd.dr d g c q
      exact ⟨fun z => hn (.inl (z ▸ h1)), fun z => hn (.inl (z ▸ h2))⟩) t e
  exact {
    len := h.len
    fz := fun i u e => by
      obtain ⟨v, q1, q2⟩ := h.fz i u e
      exact ⟨v, q1, lc_rep.mpr (q2.le L)⟩
    ow := fun i ds e' => by
      obtain ⟨p', vs', q1, q2, q3, q4⟩ := h.ow i ds e'
      refine ⟨p', vs', q1, ⟨.inl fun ⟨o, z, _⟩ => (by cases z), fun z => ?_⟩, h.keepOw f ⟨⟨ds, e'⟩, q1⟩ q3, RpAll.le L _ _ q4⟩
      rcases z with z | z
      · exact q2.2 z
      · exact hp (z ▸ .lst q3)
    nd := h.nd
    od := fun d g c q => ⟨⟨d, g, c, q, .inl rfl⟩, ⟨d, g, c, q, .inr rfl⟩⟩
    gr := ⟨fun _ _ _ _ z => (by cases z), fun _ ⟨_, z, _⟩ => (by cases z)⟩
    wd := {
      hid := fun a z => by
        rcases z with z | z
        · exact w.hid a z
        · exact z ▸ .lst e
      tabs := w.tabs
      dr := fun d g c q => by
        obtain ⟨a1, a2, a3, r⟩ := w.dr d g c q
        exact ⟨.inl a1, .inl a2, .inl a3, r⟩ }
    ex := fun _ _ _ _ _ z => z.elim }
instance {i j : Nat} {ta tb : TE} {S1 S2 : List Nat} {ma mb : TE3} [ha : LE K C TL E ta S1 ma] [hb : LE K C TL E tb S2 mb] : LS K C TL E (tParN i j ta tb) (mParN S2 i j ma mb) where
  s am ρ n σ H D F hE h en hm := by
    obtain ⟨rfl, rfl, rfl, rfl⟩ := id hE
    refine ha.s am ρ n σ H hE h _ _ hm fun fr x n1 v H1 hq f1 w1 r1 => ?_
    obtain ⟨rfl, hq⟩ := hq
    obtain ⟨p, vs, ds, rfl, rfl, np, e, a⟩ := r1.2 rfl
    obtain ⟨fl, hq⟩ := hq
    have h1 := hid_in h f1 w1 np e
    refine hb.s (lcAm am p) ρ n1 σ H1 ⟨rfl, rfl, rfl, rfl⟩ h1 _ _ hq fun fr2 y n2 v2 H2 hq2 f2 w2 r2 => ?_
    match y, hq2, r2.1 with
    | .d z, hq2, r3 =>
      have f2' : FrR am.R H1 H2 := lc_fr.mp f2
      have w2' : Wd am.R am.TL H2 n2 := {
        hid := fun a z => w2.hid a (.inl z)
        tabs := w2.tabs
        dr := fun d g c q => by
          obtain ⟨_, _, _, r⟩ := w2.dr d g c q
          obtain ⟨a1, a2, a3, _⟩ := h.wd.dr d g c q
          exact ⟨a1, a2, a3, r⟩ }
      have e2 : H2 p = some (.lst vs) := f2'.1 p _ (fun d g c q => by
        obtain ⟨a1, a2, _, _⟩ := h.wd.dr d g c q
        exact ⟨fun z => np (h.wd.hid p (z ▸ a1)), fun z => np (h.wd.hid p (z ▸ a2))⟩) (fun ps z => by cases z) e
      have h1' := h.step f1 w1
      have a1 : RpAll am.K (cut (fun a => a = p ∨ Hid am (dem S2 ρ) σ a) H1) vs ds := RpAll.hide (O := fun a => a = p ∨ Hid am (dem S1 ρ) σ a) (fun q z => by
        rcases z with z | z | ⟨k, z⟩
        · exact .inl (.inl z)
        · exact .inl (.inr (.inl z))
        · exact .inr ((h1'.dem S2).ownL ⟨z.1, z.2⟩).2.1) _ _ fl a
      have L2 : Le (cut (fun a => a = p ∨ Hid am (dem S2 ρ) σ a) H1) (cut (fun a => a = p ∨ Hid am (dem S2 ρ) σ a) H2) := Le.cut (fun a z => .inl z) fun a o hn t e => f2'.1 a o (fun d g c q => by
        obtain ⟨b1, b2, _, _⟩ := h.wd.dr d g c q
        exact ⟨fun z => hn (.inr (.inl (z ▸ b1))), fun z => hn (.inr (.inl (z ▸ b2)))⟩) t e
      have r4 := (h.dem S2).setOw (f1.trans f2') w2' i np e2 (RpAll.le L2 _ _ a1)
      refine ⟨.ref p, v2, rfl, en.nx _ n2 _ H2 hq2 (r4.setFz j ?_)⟩
      have r3 : Rp am.K (cut (Hid (lcAm am p) (dem S2 ρ) σ) H2) v2 z := r3
      exact Rp.le (Le.cutSub fun a q => lc_hid.mpr (hid_setO q)) _ _ r3
/-! ### the truth of a list, of a tuple -/
def tTru (K : PySem.W.Frag) (te : TE) : TT := fun σ H Q => te σ H fun x H' => ∃ k, TruV K x H' k ∧ Q k H'
theorem tru3 {X : Cx} (K : PySem.W.Frag) {a : Expr} {ta : TE} (ha : PE X a ta) (he : ∀ whole, isTrue a X.env whole = (do let v ← whole; standAt a.pos; holding [v] (truthy v))) (h : X.K = K := by rfl) : PT X a (tTru K ta) := h ▸ pt_truth ha he
@[simp ↓] def mTru (me : TE3) : TT3 := fun ρ n q e => me ρ n (fun _ u n1 => askS u fun ds => q (!ds.isEmpty) n1) e
theorem rpAll_empty {K : PySem.W.Frag} {H : Hp} {vs : List V} {ds : List D} (r : RpAll K H vs ds) : vs.isEmpty = ds.isEmpty := by
  cases r <;> rfl
instance {te : TE} {S : List Nat} {me : TE3} [he : LE K C TL E te S me] : LT K C TL E (tTru K te) (mTru me) where
  s am ρ n σ H hE h Q q hm k := by
    obtain ⟨rfl, rfl, rfl, rfl⟩ := id hE
    refine he.s am ρ n σ H hE h _ _ hm fun fr u n1 v H1 hq f1 w1 r1 => ?_
    match u, hq, r1.1 with
    | .d (.list ds), hq, r =>
      cases r with
      | lst a1 a2 => exact ⟨_, .inl ⟨_, SqL.of (cut_some.mp a1).2, rfl⟩, by rw [rpAll_empty a2]; exact k _ n1 H1 hq f1 w1⟩
    | .d (.tuple ds), hq, r =>
      cases r with
      | tup a1 a2 => exact ⟨_, .inr (.inl ⟨_, SqT.le Le.cutAll a1, rfl⟩), by rw [rpAll_empty a2]; exact k _ n1 H1 hq f1 w1⟩
end
end V3
set_option Elab.async false
set_option linter.all false
set_option maxRecDepth 100000
set_option maxHeartbeats 4000000
/-! comprehensions of two clauses, whose items are flat -/
namespace V3
open PySem PySem.Spec PyProof.Rows L2
@[simp] def lcI (is : List Nat) (tup : Bool) (mt : TT3) (me : TE3) (ρ : Ro) (e : Addr → Prop) : List D → List D → Nat → (List D → Nat → Prop) → Prop
  | [], acc, n, k => k acc n
  | x :: es, acc, n, k => giv is tup x ρ fun ρ' => mt ρ' n (fun b n1 => if b = true then me ρ' n1 (fun _ u n2 => match u with
    | .d z => acc.length < sizeLine ∧ flat z = true ∧ lcI is tup mt me ρ e es (acc ++ [z]) n2 k
    | _ => False) e else lcI is tup mt me ρ e es acc n1 k) e
@[simp] def lcO (is : List Nat) (tup : Bool) (mt : TT3) (mi1 : TI3) (Si1 is1 vs1 : List Nat) (tup1 : Bool) (mt1 : TT3) (me : TE3) (ρ : Ro) (e : Addr → Prop) : List D → List D → Nat → (List D → Nat → Prop) → Prop
  | [], acc, n, q => q acc n
  | d :: ds, acc, n, q => giv is tup d ρ fun ρ' => mt ρ' n (fun b n1 => if b = true then mi1 ρ' n1 (fun es n2 => lcI is1 tup1 mt1 me (wipe3 (dem Si1 ρ') vs1) e es acc n2 (fun acc' n3 => lcO is tup mt mi1 Si1 is1 vs1 tup1 mt1 me ρ e ds acc' n3 q)) e else lcO is tup mt mi1 Si1 is1 vs1 tup1 mt1 me ρ e ds acc n1 q) e
@[simp ↓] def mLc2 (Si is vs : List Nat) (tup : Bool) (mi : TI3) (mt : TT3) (mi1 : TI3) (Si1 is1 vs1 : List Nat) (tup1 : Bool) (mt1 : TT3) (me : TE3) : TE3 := fun ρ n q e => mi ρ n (fun ds n1 => lcO is tup mt mi1 Si1 is1 vs1 tup1 mt1 me (wipe3 (dem Si ρ) vs) (fun _ => False) ds [] n1 (fun xs n2 => q true (.d (.list xs)) n2)) e
instance {a b : Str} {i j : Nat} : SubL [i] (List.map (fun (x : Str × Nat) => x.snd) [(a, i), (b, j)]) := ⟨fun k z => by
  rw [List.mem_singleton.mp z]
  exact List.mem_cons_self⟩
section
variable {K : PySem.W.Frag} {C : Addr} {TL : List (Addr × Str)} {E : XK}
instance {wi wi1 : TI} {g g1 : TG} {tt tt1 : TT} {te : TE} {vs vs1 : List Nat} {Si Si1 Se is is1 : List Nat} {tup tup1 : Bool} {mi mi1 : TI3} {mt mt1 : TT3} {me : TE3} [hi : LI K C TL E wi Si mi] [hg : LG K g is tup] [hsub : SubL is vs] [ht : LT K C TL E tt mt] [hi1 : LI K C TL E wi1 Si1 mi1] [hg1 : LG K g1 is1 tup1] [hsub1 : SubL is1 vs1] [ht1 : LT K C TL E tt1 mt1] [he : LE K C TL E te Se me] :
    LE K C TL E (tLc2 wi g tt wi1 g1 tt1 te vs vs1) [] (mLc2 Si is vs tup mi mt mi1 Si1 is1 vs1 tup1 mt1 me) where
  s am ρ n σ H hE h Q q hm k := by
    obtain ⟨rfl, rfl, rfl, rfl⟩ := id hE
    refine hi.s am ρ n σ H hE h _ _ hm fun ds n1 J H1 hq f1 w1 it => ?_
    have h1 := h.step f1 w1
    have h1d := h1.dem Si
    intro Dl hD
    have hE' : (lcAm am Dl).K = am.K ∧ (lcAm am Dl).TL = am.TL ∧ (lcAm am Dl).E = am.E ∧ (lcAm am Dl).C = am.C := ⟨rfl, rfl, rfl, rfl⟩
    have hd : ∀ d g c, am.R.dr = some (d, g, c) → Dl ≠ d ∧ Dl ≠ g ∧ Dl ≠ c := fun d g' c q' => by
      obtain ⟨a1, a2, a3, _⟩ := w1.dr d g' c q'
      have nh : ∀ a, am.R.hid a → Dl ≠ a := fun a ha z => (New.of hD) (z ▸ w1.hid a ha)
      exact ⟨nh d a1, nh g' a2, nh c a3⟩
    have nd : New H1 Dl := .of hD
    have h0 := wipe_ok (lc_in h1d hD) vs
    have fD : FrR am.R H1 (upd H1 Dl (.lst [])) := .of (same_new hD)
    let OO : Addr → Prop := fun a => a = Dl ∨ Hid am ρ σ a
    -- what is made so far stands behind steps that leave Dl alone
    have keepD : ∀ {Ha Hb : Hp} {acc : List V}, FrR am.R Ha Hb → Ha Dl = some (.lst acc) → Hb Dl = some (.lst acc) := fun f e => f.1 Dl _ (fun d g' c q' => ⟨(hd d g' c q').1, (hd d g' c q').2.1⟩) (fun ps z => by cases z) e
    have keepAcc : ∀ {Ha Hb : Hp} {acc : List V} {xs : List D}, FrR am.R Ha Hb → RpAll am.K (cut OO Ha) acc xs → RpAll am.K (cut OO Hb) acc xs := fun f r => RpAll.le (Le.cut (fun a z => .inl z) fun a o hn t e => f.1 a o (fun d g' c q' => by
      obtain ⟨a1, a2, _, _⟩ := w1.dr d g' c q'
      exact ⟨fun z => hn (.inr (.inl (z ▸ a1))), fun z => hn (.inr (.inl (z ▸ a2)))⟩) t e) _ _ r
    have wrD : ∀ {Ha : Hp} {ys : List V}, FrR am.R H1 Ha → FrR am.R H1 (upd Ha Dl (.lst ys)) := fun {Ha ys} f => by
      refine ⟨fun b o h1 h2 e => ?_, fun b z => ?_⟩
      · have ne : b ≠ Dl := fun z => by
          rw [z, hD] at e
          cases e
        rw [upd_ne ne]
        exact f.1 b o h1 h2 e
      · by_cases ne : b = Dl
        · exact ne ▸ .lst upd_same
        · obtain ⟨o, q1, q2⟩ := f.2 b z
          exact ⟨o, by rw [upd_ne ne]; exact q1, q2⟩
    -- hidden lists of slots are lists
    have lists : ∀ {Ha : Hp}, FrR am.R H1 Ha → ∀ a, Hid am ρ σ a → am.R.hid a ∨ ∃ ys, Ha a = some (.lst ys) := fun {Ha} f a z => by
      rcases z with z | ⟨j, z⟩
      · exact .inl z
      · obtain ⟨o1, ⟨ys, o2⟩, o3⟩ := h1.ownL z
        exact .inr ⟨ys, f.1 a _ (fun d g' c q' => by
          obtain ⟨a1, a2, _, _⟩ := w1.dr d g' c q'
          exact ⟨fun y => o3 (y ▸ a1), fun y => o3 (y ▸ a2)⟩) (fun ps y => by cases y) o2⟩
    refine ⟨fun i m H2 => m = ds.length - i ∧ i ≤ ds.length ∧ ∃ n2 acc xs, H2 Dl = some (.lst acc) ∧ RpAll am.K (cut OO H2) acc xs ∧ FrR am.R H1 H2 ∧ Rl (lcAm am Dl) (wipe3 (dem Si ρ) vs) n2 (wipe σ vs) H2 ∧
      lcO is tup mt mi1 Si1 is1 vs1 tup1 mt1 me (wipe3 (dem Si ρ) vs) (fun _ => False) (ds.drop i) xs n2 (fun ys n3 => q true (.d (.list ys)) n3), ⟨ds.length, by simp, Nat.zero_le _, n1, [], [], upd_same, .nil, fD, h0, hq⟩, fun i m H2 w => ?_⟩
    obtain ⟨rfl, hi', n2, acc, xs, eD, ra, fr, r2, hf⟩ := w
    have leO : Le (cut (Hid am (dem Si ρ) σ) H1) (cut (Hid (lcAm am Dl) (wipe3 (dem Si ρ) vs) (wipe σ vs)) H2) := Le.cut (fun a z => by
      rcases lc_hid.mp (wipe_hid z) with z | z
      · exact .inr (z ▸ nd)
      · exact .inl z) fun a o hn t e => fr.1 a o (fun d g' c q' => by
        obtain ⟨a1, a2, _, _⟩ := w1.dr d g' c q'
        exact ⟨fun z => hn (.inl (z ▸ a1)), fun z => hn (.inl (z ▸ a2))⟩) t e
    obtain ⟨it1, it2⟩ := it H2 _ leO (fun a z => r2.hidThere z) i
    by_cases hlt : i < ds.length
    · have e : ds[i]? = some ds[i] := List.getElem?_eq_getElem hlt
      obtain ⟨go, y⟩ := it1 _ e
      rw [List.drop_eq_getElem_cons hlt] at hf
      refine .inr ⟨go, fun H' => i + 1 ≤ ds.length ∧ ∃ n2 acc xs, H' Dl = some (.lst acc) ∧ RpAll am.K (cut OO H') acc xs ∧ FrR am.R H1 H' ∧ Rl (lcAm am Dl) (wipe3 (dem Si ρ) vs) n2 (wipe σ vs) H' ∧
        lcO is tup mt mi1 Si1 is1 vs1 tup1 mt1 me (wipe3 (dem Si ρ) vs) (fun _ => False) (ds.drop (i + 1)) xs n2 (fun ys n3 => q true (.d (.list ys)) n3), fun H' p => ⟨ds.length - (i + 1), by omega, rfl, p⟩, fun x H3 yl => ?_⟩
      obtain ⟨sm, rx⟩ := y x H3 yl
      have r3 := r2.step (FrR.of sm) (r2.wd.same sm)
      refine giv_ok2 (am := lcAm am Dl) hg r3 (O := Hid (lcAm am Dl) (wipe3 (dem Si ρ) vs) (wipe σ vs)) (fun a z => z) rx hf hsub.h fun ρ4 σ4 hk r4 eρ eσ => ⟨eσ.trans (wipe_idem σ vs) |>.trans rfl, ?_⟩
      refine ht.s (lcAm am Dl) ρ4 n2 σ4 H3 hE' r4 _ _ hk fun b n4 H4 hq4 f4 w4 => ?_
      have r5 := r3.step f4 w4
      have f04 := (fr.trans (.of sm)).trans f4
      have eD4 := keepD f4 (sm _ _ eD)
      have ra4 := keepAcc f4 (keepAcc (.of sm) ra)
      cases b with
      | false => exact ⟨hlt, n4, acc, xs, eD4, ra4, f04, r5, hq4⟩
      | true =>
        have r4' := r4.step f4 w4
        refine hi1.s (lcAm am Dl) ρ4 n4 σ4 H4 hE' r4' _ _ hq4 fun es n5 J1 H5 hq5 f5 w5 itI => ?_
        have r6 := (r4'.step f5 w5)
        have rI0 := wipe_ok (r6.dem Si1) vs1
        refine ⟨fun j m H6 => m = es.length - j ∧ j ≤ es.length ∧ ∃ n6 acc xs, H6 Dl = some (.lst acc) ∧ RpAll am.K (cut OO H6) acc xs ∧ FrR am.R H1 H6 ∧ Rl (lcAm am Dl) (wipe3 (dem Si ρ) vs) n6 (wipe σ vs) H6 ∧ Rl (lcAm am Dl) (wipe3 (dem Si1 ρ4) vs1) n6 (wipe σ4 vs1) H6 ∧
          (∀ b o, b ≠ Dl → (∀ d g c, am.R.dr = some (d, g, c) → b ≠ d ∧ b ≠ g) → (∀ ps, o ≠ HO.tbl ps) → H5 b = some o → H6 b = some o) ∧
          lcI is1 tup1 mt1 me (wipe3 (dem Si1 ρ4) vs1) (fun _ => False) (es.drop j) xs n6 (fun acc' n3 => lcO is tup mt mi1 Si1 is1 vs1 tup1 mt1 me (wipe3 (dem Si ρ) vs) (fun _ => False) (ds.drop (i + 1)) acc' n3 (fun ys n3 => q true (.d (.list ys)) n3)),
          ⟨es.length, by simp, Nat.zero_le _, n5, acc, xs, keepD f5 eD4, keepAcc f5 ra4, f04.trans f5, r5.step f5 w5, rI0, (fun b o _ _ _ e => e), hq5⟩, fun j m H6 w => ?_⟩
        obtain ⟨rfl, hj, n6, acc, xs, eD6, ra6, fr6, rO, rI, frI, hf6⟩ := w
        have leI : Le (cut (Hid (lcAm am Dl) (dem Si1 ρ4) σ4) H5) (cut (Hid (lcAm am Dl) (wipe3 (dem Si1 ρ4) vs1) (wipe σ4 vs1)) H6) := Le.cut (fun a z => .inl (wipe_hid z)) fun a o hn t e => frI a o (fun z => hn (lc_hid.mpr (.inl z))) (fun d g' c q' => by
          obtain ⟨a1, a2, _, _⟩ := w1.dr d g' c q'
          exact ⟨fun z => hn (.inl (.inl (z ▸ a1))), fun z => hn (.inl (.inl (z ▸ a2)))⟩) t e
        obtain ⟨jt1, jt2⟩ := itI H6 _ leI (fun a z => rI.hidThere z) j
        by_cases hjt : j < es.length
        · have ej : es[j]? = some es[j] := List.getElem?_eq_getElem hjt
          obtain ⟨goj, yj⟩ := jt1 _ ej
          rw [List.drop_eq_getElem_cons hjt] at hf6
          refine .inr ⟨goj, fun H' => j + 1 ≤ es.length ∧ ∃ n6 acc xs, H' Dl = some (.lst acc) ∧ RpAll am.K (cut OO H') acc xs ∧ FrR am.R H1 H' ∧ Rl (lcAm am Dl) (wipe3 (dem Si ρ) vs) n6 (wipe σ vs) H' ∧ Rl (lcAm am Dl) (wipe3 (dem Si1 ρ4) vs1) n6 (wipe σ4 vs1) H' ∧
            (∀ b o, b ≠ Dl → (∀ d g c, am.R.dr = some (d, g, c) → b ≠ d ∧ b ≠ g) → (∀ ps, o ≠ HO.tbl ps) → H5 b = some o → H' b = some o) ∧
            lcI is1 tup1 mt1 me (wipe3 (dem Si1 ρ4) vs1) (fun _ => False) (es.drop (j + 1)) xs n6 (fun acc' n3 => lcO is tup mt mi1 Si1 is1 vs1 tup1 mt1 me (wipe3 (dem Si ρ) vs) (fun _ => False) (ds.drop (i + 1)) acc' n3 (fun ys n3 => q true (.d (.list ys)) n3)), fun H' p => ⟨es.length - (j + 1), by omega, rfl, p⟩, fun x6 H7 yl6 => ?_⟩
          obtain ⟨sm6, rx6⟩ := yj x6 H7 yl6
          have fs6 : FrR am.R H6 H7 := FrR.of sm6
          have rI7 := rI.step (FrR.of sm6) (rI.wd.same sm6)
          have rO7 := rO.step (FrR.of sm6) (rO.wd.same sm6)
          refine giv_ok2 (am := lcAm am Dl) hg1 rI7 (O := Hid (lcAm am Dl) (wipe3 (dem Si1 ρ4) vs1) (wipe σ4 vs1)) (fun a z => z) rx6 hf6 hsub1.h fun ρ8 σ8 hk8 r8 eρ8 eσ8 => ⟨eσ8.trans (wipe_idem σ4 vs1) |>.trans rfl, ?_⟩
          refine ht1.s (lcAm am Dl) ρ8 n6 σ8 H7 hE' r8 _ _ hk8 fun b8 n9 H9 hq9 f9 w9 => ?_
          have eD9 := keepD f9 (keepD fs6 eD6)
          have ra9 := keepAcc f9 (keepAcc fs6 ra6)
          have fr9 := (fr6.trans fs6).trans f9
          have step9 : ∀ b o, b ≠ Dl → (∀ d g c, am.R.dr = some (d, g, c) → b ≠ d ∧ b ≠ g) → (∀ ps, o ≠ HO.tbl ps) → H5 b = some o → H9 b = some o := fun b o ne hb t e => f9.1 b o hb t (fs6.1 b o hb t (frI b o ne hb t e))
          cases b8 with
          | false => exact ⟨hjt, n9, acc, xs, eD9, ra9, fr9, rO7.step f9 w9, rI7.step f9 w9, step9, hq9⟩
          | true =>
            refine he.s (lcAm am Dl) ρ8 n9 σ8 H9 hE' (r8.step f9 w9) _ _ hq9 fun fr10 u n10 v H10 hq10 f10 w10 r10 => ?_
            match u, hq10, r10.1 with
            | .d z, hq10, rz =>
              obtain ⟨hlen, hflat, hq10⟩ := hq10
              have eD10 := keepD f10 eD9
              have ra10 := keepAcc f10 ra9
              have fr10' := fr9.trans f10
              have rz2 : Rp am.K (cut OO H10) v z := by
                refine Rp.hide (O := Hid (lcAm am Dl) (dem Se ρ8) σ8) (fun p hp => ?_) _ _ hflat rz
                rcases hp with hp | hp
                · exact .inl (lc_hid.mpr (.inl hp))
                · rcases lists fr10' p hp with y | y
                  · exact .inl (lc_hid.mpr (.inr (.inl y)))
                  · exact .inr y
              refine ⟨acc, eD10, by rw [RpAll.len ra10]; exact hlen, hjt, n10, acc ++ [v], xs ++ [z], upd_same, ?_, wrD fr10', lc_write hd ((rO7.step f9 w9).step f10 w10) eD10, lc_write hd ((rI7.step f9 w9).step f10 w10) eD10, fun b o ne hb t e => ?_, hq10⟩
              · refine RpAll.le (Le.cut (fun a z => .inl z) fun a o hn t e => ?_) _ _ (RpAll.app ra10 (.one rz2))
                rw [upd_ne fun z => hn (.inl z)]
                exact e
              · rw [upd_ne ne]
                exact f10.1 b o hb t (step9 b o ne hb t e)
        · have e6 : j = es.length := by omega
          subst e6
          rw [List.drop_length] at hf6
          exact .inl ⟨jt2 (Nat.le_refl _), hlt, n6, acc, xs, eD6, ra6, fr6, rO, hf6⟩
    · have e : i = ds.length := by omega
      subst e
      rw [List.drop_length] at hf
      refine .inl ⟨it2 (Nat.le_refl _), ?_⟩
      have hf2 : q true (.d (.list xs)) n2 := hf
      have wE : Wd am.R am.TL H2 n2 := {
        hid := fun a z => r2.wd.hid a (.inl z)
        tabs := r2.wd.tabs
        dr := fun d g' c q' => by
          obtain ⟨_, _, _, r⟩ := r2.wd.dr d g' c q'
          obtain ⟨a1, a2, a3, _⟩ := w1.dr d g' c q'
          exact ⟨a1, a2, a3, r⟩ }
      have sub : ∀ a, Hid am (dem [] ρ) σ a → Hid am ρ σ a := fun a z => hidDem z
      refine k _ _ n2 _ H2 hf2 (f1.trans fr) wE ⟨Rp.lst (cut_some.mpr ⟨fun z => ?_, eD⟩) (RpAll.le (Le.cutSub fun a z => .inr (sub a z)) _ _ ra), fun _ => ⟨Dl, acc, xs, rfl, rfl, new_back h f1 h1 nd, eD, RpAll.le (Le.cutSub fun a z => z.imp id (sub a)) _ _ ra⟩⟩
      exact (h1.dem _).new nd z
end
end V3
set_option Elab.async false
set_option linter.all false
set_option maxRecDepth 100000
set_option maxHeartbeats 4000000
/-! x in a tuple of data, x.clear(), calls whose keywords stand in turned order, tuples of words that are globals -/
namespace V3
open PySem PySem.Spec PyProof.Rows L2
def rInT (K : PySem.W.Frag) : R2 := fun x y H Q => ∃ d ds, Dp K H x d ∧ Dp K H y (.tuple ds) ∧ SeqAt.shaped d = true ∧ SeqAt.shaped (.tuple ds) = true ∧ Q (.bl (ds.any fun z => PyData.eqv z d)) H
theorem op_inT {X : Cx} (hu : X.A.units + 65 < cLine) : OpR X (compareOp .In) (rInT X.K) := by
  intro pins s σ H x y v u Q I rx ry h
  obtain ⟨d, ds, hd, he, sd, se, q⟩ := h
  obtain ⟨as, r1⟩ := Dp.reads I d x v hd rx
  obtain ⟨bs, r2⟩ := Dp.reads I (.tuple ds) y u he ry
  exact SeqAt.in_tuple_reads r2 r1 (SeqAt.canLay_of_shaped se) (SeqAt.canLay_of_shaped sd) (room_in_shaped sd hu) ⟨.bl _, H, I, rfl, q⟩
theorem inT3 {X : Cx} (K : PySem.W.Frag) (hu : X.A.units + 65 < cLine) (h : X.K = K := by rfl) : OpR X (compareOp .In) (rInT K) := h ▸ op_inT hu
def mInT : U → U → (Bool → D → Prop) → Prop
  | .d x, .d (.tuple ys), q => SeqAt.shaped x = true ∧ SeqAt.shaped (.tuple ys) = true ∧ q false (.bool (ys.any fun z => PyData.eqv z x))
  | _, _, _ => False
@[simp] theorem mInT_t (x : D) (ys : List D) (q : Bool → D → Prop) : mInT (.d x) (.d (.tuple ys)) q = (SeqAt.shaped x = true ∧ SeqAt.shaped (.tuple ys) = true ∧ q false (.bool (ys.any fun z => PyData.eqv z x))) := rfl
/-- a global tuple of words -/
class NamesC (K : PySem.W.Frag) (a : Addr) (ws : outParam (List Str)) : Prop where
  s : ∀ H : Hp, SqT K H a (ws.map V.str)
theorem rp_strs {K : PySem.W.Frag} {H : Hp} : ∀ ws : List Str, RpAll K H (ws.map V.str) (ws.map PyData.str)
  | [] => .nil
  | w :: ws => .cons (Rp.str w) (rp_strs ws)
/-- ws, turned -/
def gR {α : Type} (m : Nat) (xs ys : List α) : List α := if xs.length = 0 ∧ ys.length = m then ys.reverse else []
theorem gR_rel {m : Nat} {vs : List V} {us : List Value} {zs : List V} {ws : List Value} (h1 : Vals vs us) (h2 : Vals zs ws) : Vals (gR m vs zs) (gR m us ws) := by
  unfold gR
  rw [h1.length, h2.length]
  split
  · exact h2.reverse
  · exact .nil
theorem gR_len {m : Nat} {us ws : List Value} (hn : 0 < m) (h : (gR m us ws).length = m) : us.length = 0 ∧ ws.length = m := by
  unfold gR at h
  split at h
  · assumption
  · simp at h
    omega
@[simp ↓] def mCallR (fr : Bool) (sp : VSp) (m : Nat) (mk : TA3) : TE3 := fun ρ n q e => mk ρ n (fun ws n2 => ws.length = m ∧ sp ws.reverse n2 (fun u n3 => q fr u n3) (fun _ => False)) e
theorem repA_rev {am : Am} {O : Addr → Prop} {H : Hp} : ∀ {vs : List V} {us : List U}, RepA am O H vs us → RepA am O H vs.reverse us.reverse
  | _, _, .nil => .nil
  | _, _, .cons h t => by
    rw [List.reverse_cons, List.reverse_cons]
    exact rep_app (repA_rev t) (.cons h .nil)
section
variable {K : PySem.W.Frag} {C : Addr} {TL : List (Addr × Str)} {E : XK}
instance : LR K (rInT K) mInT where
  s am O H x y ux uy hK hO rx ry Q q hm k := by
    subst hK
    match ux, uy, hm with
    | .d a, .d (.tuple ys), hm => exact ⟨a, ys, rep_dp rx hm.1, rep_dp ry hm.2.1, hm.1, hm.2.1, k _ _ _ H hm.2.2 (Same.refl _) (.old (Rp.bl _))⟩
instance {a : Addr} {ws : List Str} [h0 : NamesC K a ws] : LE K C TL E (tC (.ref a)) [] (mC (.d (.tuple (ws.map PyData.str)))) where
  s am ρ n σ H hE h Q q hm k := by
    obtain ⟨rfl, rfl, rfl, rfl⟩ := id hE
    exact k _ _ n _ H hm (FrR.refl _ _) h.wd (.old (Rp.tup (h0.s _) (rp_strs ws)))
@[simp ↓] def mClear (i : Nat) : TS3 := fun F ρ n _ => ask (owAt ρ i) fun _ => F.nx (ρ.set i (.ow [])) n
instance (priority := high) {i : Nat} : LS K C TL E (tDrop (tBM0 K "list" rClear (tVar i))) (mClear i) where
  s am ρ n σ H D F hE h en hm := by
    obtain ⟨rfl, rfl, rfl, rfl⟩ := id hE
    obtain ⟨ds, e, hm⟩ := ask_some hm
    have hi := owAt_eq e
    obtain ⟨p, vs, q1, q2, q3, q4⟩ := h.ow i ds hi
    exact ⟨.ref p, q1, .inl ⟨rfl, vs, SqL.of q3⟩, p, vs, rfl, rfl, q3, en.nx _ n σ _ hm (h.write hi q1 .nil)⟩
instance {tk : TA} {S2 : List Nat} {mk : TA3} {fr : Bool} {sp : VSp} {m : Nat} {E' : XK} [hk : LA K C TL E tk S2 mk] : LE K C TL E (tCallK (toSp K C TL fr sp) (gR m) E' tNil tk) S2 (mCallR fr sp m mk) where
  s am ρ n σ H hE h Q q hm k := by
    obtain ⟨rfl, rfl, rfl, rfl⟩ := id hE
    refine hk.s am ρ n σ H hE h _ _ hm fun ws n2 zs H2 hq2 f2 w2 r2 => ?_
    obtain ⟨l2, hq2⟩ := hq2
    have e : gR m [] zs = zs.reverse ++ [] := by
      unfold gR
      rw [if_pos ⟨rfl, by rw [rep_len r2, l2]⟩, List.append_nil]
    show toSp am.K am.C am.TL fr sp (gR m [] zs) H2 Q E'
    rw [e]
    exact call_ok h f2 w2 (repA_rev r2) hq2 k fun C' H' n' f w z => z.elim
end
section
variable {X : Cx}
theorem bm03 (K : PySem.W.Frag) {o : Expr} {to : TE} {name : Str} {apos cpos : Pos} {T id : String} {r : V → List V → Hp → VK → Prop} (pa : PlainAttrs T) (slot : Slot T name id) (hty : typeOf (.builtin id) = pure (.type "method_descriptor")) (hm : MtR X id r) (ho : PE X o to)
    (hbase : attributeBase o name X.env (eval o X.env) = eval o X.env := by rfl) (hline : (apos.endLine == cpos.line) = true := by rfl) (h : X.K = K := by rfl) : PE X (.Call (.Attribute o name apos) [] [] cpos) (tBM0 K T r to) := by
  subst h
  exact pe_bm0 pa slot hty hm ho hbase hline
end
end V3
set_option Elab.async false
set_option linter.all false
set_option maxRecDepth 100000
set_option maxHeartbeats 4000000
set_option synthInstance.maxSize 100000
set_option synthInstance.maxHeartbeats 0
namespace G21
open PySem PySem.Spec PyProof.Rows L2 V3
/-- a loop over a list of data: what is done, what is left -/
theorem forL_mapW {is : List Nat} {tup : Bool} {mb : TS3} {F : En3} {e : Addr → Prop} {α : Type} (D0 : α → D) (I : List α → List α → Ro → Nat → Prop) :
    ∀ (left done : List α) (ρ : Ro) (n : Nat), (∀ done ρ m, I done [] ρ m → F.nx ρ m) →
    (∀ done x left ρ m (G : Ro → Nat → Prop), (∀ ρ' m', I (done ++ [x]) left ρ' m' → G ρ' m') → I done (x :: left) ρ m → giv is tup (D0 x) ρ fun ρ' => mb { F with nx := G, ct := G, bk := F.nx } ρ' m e) →
    I done left ρ n → forL is tup mb F e (left.map D0) ρ n
  | [], done, ρ, n, h0, _, i => h0 done ρ n i
  | x :: left, done, ρ, n, h0, hs, i => hs done x left ρ n _ (fun ρ' m' i' => forL_mapW D0 I left (done ++ [x]) ρ' m' h0 hs i') i
theorem lcI_pure {is : List Nat} {tup : Bool} {mt : TT3} {me : TE3} {ρ : Ro} {e : Addr → Prop} {β : Type} (D1 : β → D) (g : β → D) (p : β → Bool) : ∀ (bs : List β) (acc : List D) (n : Nat) (k : List D → Nat → Prop),
    (∀ b ∈ bs, ∀ (m : Nat) (Kt : D → Nat → Prop) (Ks : Nat → Prop), (if p b = true then Kt (g b) m else Ks m) → giv is tup (D1 b) ρ fun ρ' => mt ρ' m (fun c n1 => if c = true then me ρ' n1 (fun _ u n2 => match u with
      | .d x => Kt x n2
      | _ => False) e else Ks n1) e) → (∀ b ∈ bs, V3.flat (g b) = true) → acc.length + bs.length ≤ 5000 → k (acc ++ (bs.filter p).map g) n → lcI is tup mt me ρ e (bs.map D1) acc n k
  | [], acc, n, k, _, _, _, h => by
    simpa using h
  | b :: bs, acc, n, k, hit, hf, hl, h => by
    rw [List.length_cons] at hl
    refine hit b List.mem_cons_self n (fun z n2 => acc.length < sizeLine ∧ V3.flat z = true ∧ lcI is tup mt me ρ e (bs.map D1) (acc ++ [z]) n2 k) (fun n1 => lcI is tup mt me ρ e (bs.map D1) acc n1 k) ?_
    cases hp : p b
    · rw [List.filter_cons_of_neg (by rw [hp]; decide)] at h
      simp only [Bool.false_eq_true, if_false]
      exact lcI_pure D1 g p bs acc n k (fun c hc => hit c (List.mem_cons_of_mem _ hc)) (fun c hc => hf c (List.mem_cons_of_mem _ hc)) (by omega) h
    · rw [List.filter_cons_of_pos hp, List.map_cons] at h
      simp only [if_true]
      refine ⟨few (by omega), hf b List.mem_cons_self, lcI_pure D1 g p bs (acc ++ [g b]) n k (fun c hc => hit c (List.mem_cons_of_mem _ hc)) (fun c hc => hf c (List.mem_cons_of_mem _ hc)) (by simp; omega) ?_⟩
      rw [List.append_assoc]
      exact h
theorem lcO_flat {is : List Nat} {tup : Bool} {mt : TT3} {mi1 : TI3} {Si1 is1 vs1 : List Nat} {tup1 : Bool} {mt1 : TT3} {me : TE3} {ρ : Ro} {e : Addr → Prop} {α : Type} (D0 : α → D) (f : α → List D) (c : Nat) : ∀ (as : List α) (acc : List D) (n : Nat) (q : List D → Nat → Prop),
    (∀ a ∈ as, ∀ (acc : List D) (m : Nat) (Kk : List D → Nat → Prop), acc.length + c ≤ 5000 → Kk (acc ++ f a) m → giv is tup (D0 a) ρ fun ρ' => mt ρ' m (fun b n1 => if b = true then mi1 ρ' n1 (fun es n2 => lcI is1 tup1 mt1 me (wipe3 (dem Si1 ρ') vs1) e es acc n2 Kk) e else Kk acc n1) e) →
    (∀ a ∈ as, (f a).length ≤ c) → acc.length + as.length * c ≤ 5000 → q (acc ++ as.flatMap f) n → lcO is tup mt mi1 Si1 is1 vs1 tup1 mt1 me ρ e (as.map D0) acc n q
  | [], acc, n, q, _, _, _, h => by
    simpa using h
  | a :: as, acc, n, q, hit, hc, hl, h => by
    rw [List.length_cons, Nat.succ_mul] at hl
    have ha := hc a List.mem_cons_self
    refine hit a List.mem_cons_self acc n _ (by omega) ?_
    refine lcO_flat D0 f c as (acc ++ f a) n q (fun b hb => hit b (List.mem_cons_of_mem _ hb)) (fun b hb => hc b (List.mem_cons_of_mem _ hb)) (by simp; omega) ?_
    rw [List.flatMap_cons, ← List.append_assoc] at h
    exact h
end G21
set_option Elab.async false
set_option linter.all false
set_option maxRecDepth 100000
set_option maxHeartbeats 4000000
set_option synthInstance.maxSize 100000
set_option synthInstance.maxHeartbeats 0
namespace G21
open PySem PySem.Spec PyProof.Rows L2 V3
/-! ### lists of spots -/
def isSL (x : D) : Bool := match asL x with
  | some ds => ds.all isPr
  | none => false
def lenS (x : D) : Prop := ∀ ds, asL x = some ds → ds.length ≤ 100
theorem prs_of : ∀ {ds : List D}, ds.all isPr = true → ∃ ps : List (Int × Int), ds = ps.map pD
  | [], _ => ⟨[], rfl⟩
  | d :: ds, h => by
    rw [List.all_cons, Bool.and_eq_true] at h
    obtain ⟨x, y, rfl⟩ := pr_of h.1
    obtain ⟨ps, rfl⟩ := prs_of h.2
    exact ⟨(x, y) :: ps, rfl⟩
theorem all_pD (ps : List (Int × Int)) : (ps.map pD).all isPr = true := by
  induction ps with
  | nil => rfl
  | cons p ps ih =>
    rw [List.map_cons, List.all_cons, ih]
    rfl
theorem sl_of {x : D} {ps : List (Int × Int)} (h : asL x = some (ps.map pD)) : isSL x = true := by
  unfold isSL
  rw [h]
  exact all_pD ps
theorem sl_ps {x : D} (h : isSL x = true) : ∃ ps : List (Int × Int), asL x = some (ps.map pD) := by
  unfold isSL at h
  cases e : asL x with
  | none =>
    rw [e] at h
    cases h
  | some ds =>
    rw [e] at h
    obtain ⟨ps, rfl⟩ := prs_of h
    exact ⟨ps, rfl⟩
@[simp ↓] def sp_slist : VSp := fun us n q _ => ∃ x, us = [.d x] ∧ lenS x ∧ q (.d (.bool (isSL x))) n
@[simp ↓] def sp_chk_spots (BS : Addr) : VSp := fun us n q e => ∃ x, us = [.d x] ∧ lenS x ∧ (isSL x = true → q (.d .none) n) ∧ (isSL x = false → e BS)
/-- the gaps from 1 on, ascending -/
def isGr (es ss ns : List Int) : Prop := ns.Pairwise (· < ·) ∧ ∀ j : Int, j ∈ ns ↔ ∃ e ∈ es, ∃ s ∈ ss, s < e ∧ j = e - s
@[simp ↓] def sp_sizes : VSp := fun us n q _ => ∃ es ss : List Int, us = [.d (.list (es.map PyData.int)), .d (.list (ss.map PyData.int))] ∧ es.length ≤ 3 ∧ ss.length ≤ 6 ∧ ∀ ns : List Int, isGr es ss ns → ns.length ≤ 18 → q (.d (.tuple (ns.map PyData.int))) n
def xsE (bs : List Bk) : List Int := bs.map Bk.l
def xsS (bs : List Bk) (ps : List (Int × Int)) : List Int := bs.map Bk.r ++ ps.map fun p => p.1
def ysE (bs : List Bk) : List Int := bs.map Bk.d
def ysS (bs : List Bk) (ps : List (Int × Int)) : List Int := bs.map Bk.u ++ ps.map fun p => p.2
@[simp ↓] def sp_gridof : VSp := fun us n q _ => ∃ (bs : List Bk) (x : D) (ps : List (Int × Int)), us = [.dw (bs.map bkD), .d x] ∧ asL x = some (ps.map pD) ∧ bs.length ≤ 3 ∧ ps.length ≤ 3 ∧
  ∀ xs ys : List Int, isGr (xsE bs) (xsS bs ps) xs → isGr (ysE bs) (ysS bs ps) ys → xs.length ≤ 18 → ys.length ≤ 18 → q (.d (.tuple [.tuple (xs.map PyData.int), .tuple (ys.map PyData.int)])) n
@[simp ↓] def sp_chk_grid (BD BS : Addr) : VSp := fun us n q e => ∃ (u : U) (x : D), us = [u, .d x] ∧ lenS x ∧ (∀ xs, u = .dw xs → (isSL x = true → q (.d .none) n) ∧ (isSL x = false → e BS)) ∧ (∀ y, u = .d y → e BD) ∧ (∀ f ns, u ≠ .tb f ns) ∧ u ≠ .dr
/-- ranges of sizes: single gaps, and what lies between -/
def rngL (least : Int) : List Int → List (Int × Option Int)
  | [] => [(least, none)]
  | n :: ns => (if least < n then [(least, some (n - 1))] else []) ++ (n, some n) :: rngL (n + 1) ns
abbrev niD (p : Int × Option Int) : D := .tuple [.int p.1, oD p.2]
@[simp ↓] def sp_ranges : VSp := fun us n q _ => ∃ ns : List Int, us = [.d (.tuple (ns.map PyData.int))] ∧ ns.length ≤ 18 ∧ q (.d (.list ((rngL 1 ns).map niD))) n
def hasR (p : Int × Option Int) (s : Int) : Bool := decide (p.1 ≤ s) && (match p.2 with
  | none => true
  | some k => decide (s ≤ k))
@[simp ↓] def sp_hasz : VSp := fun us n q _ => ∃ (p : Int × Option Int) (s : Int), us = [.d (niD p), .d (.int s)] ∧ q (.d (.bool (hasR p s))) n
section
variable {P : Program} {w : World} {K : PySem.W.Frag} {mg : Str → Option Value} {base : Heap} {TL : List (Addr × Str)}
theorem ok_q_is_spot_list (T : Txt K mg) : FnOk P w K mg base CX0 3 T.q_is_spot_list.a T.q_is_spot_list.d ["thing"] (toSp K T.C TL false sp_slist) := by
  refine T.q_is_spot_list.F.ok c_q_is_spot_list (fun vs H Q E h => toSp_len h fun us n q e hs => ?_) (fun cdv A outer s H vs Q E hr h => ?_)
  · (first | (obtain ⟨rfl, _⟩ := hs; rfl) | (obtain ⟨_, hs⟩ := hs; (first | (obtain ⟨rfl, _⟩ := hs; rfl) | (obtain ⟨_, hs⟩ := hs; (first | (obtain ⟨rfl, _⟩ := hs; rfl) | (obtain ⟨_, hs⟩ := hs; (first | (obtain ⟨rfl, _⟩ := hs; rfl) | (obtain ⟨_, hs⟩ := hs; (first | (obtain ⟨rfl, _⟩ := hs; rfl) | (obtain ⟨_, hs⟩ := hs; (first | (obtain ⟨rfl, _⟩ := hs; rfl) | (obtain ⟨_, hs⟩ := hs; (first | (obtain ⟨rfl, _⟩ := hs; rfl) | (obtain ⟨_, hs⟩ := hs; (first | (obtain ⟨rfl, _⟩ := hs; rfl) | (obtain ⟨_, hs⟩ := hs; (first | (obtain ⟨rfl, _⟩ := hs; rfl) | (obtain ⟨_, hs⟩ := hs; (first | (obtain ⟨rfl, _⟩ := hs; rfl) | (obtain ⟨_, hs⟩ := hs; (first | (obtain ⟨rfl, _⟩ := hs; rfl) | (obtain ⟨_, hs⟩ := hs; (first | (obtain ⟨rfl, _⟩ := hs; rfl) | (obtain ⟨_, hs⟩ := hs; (first | (obtain ⟨rfl, _⟩ := hs; rfl) | (obtain ⟨_, hs⟩ := hs; (first | (obtain ⟨rfl, _⟩ := hs; rfl) | (obtain ⟨_, hs⟩ := hs; (first | (obtain ⟨rfl, _⟩ := hs; rfl) | (obtain ⟨_, hs⟩ := hs; (first | (obtain ⟨rfl, _⟩ := hs; rfl) | (obtain ⟨_, hs⟩ := hs; (obtain ⟨rfl, _⟩ := hs; rfl)))))))))))))))))))))))))))))))))
  · refine ⟨_,
      (pss_one (ps_ret (pe_and (pe_call (ok_q_is_list T (TL := TL)) (hr.mono (by decide)) rfl T.q_is_list.g T.q_is_list.k T.q_is_list.b .nil pass0 (pa_cons (pv 0) pa_nil)) (pe_one (pe_callB (all3 K rfl) (by rfl) T.z_all (by decide +kernel) (pa_cons (pe_lc (own := [("spot", 1)]) (g := gName 1) (by rfl) c_q_is_spot_list.nd (seq3 K (pv 0)) (blkOk_by (own := [("spot", 1)]) (N := N_q_is_spot_list) (sc := defScope S_q_is_spot_list) (by decide +kernel)) (fun _ _ _ _ _ => pg_name (i := 1) c_q_is_spot_list.nd rfl (Or.inl rfl)) (fun _ _ _ _ _ => pts_nil) (fun _ _ _ _ _ => (pe_call (ok_q_is_number_pair T (TL := TL)) (hr.mono (by decide)) rfl T.q_is_number_pair.g T.q_is_number_pair.k T.q_is_number_pair.b .nil pass0 (pa_cons (pv 1) pa_nil)))) pa_nil))))))
      , run3 (K := K) (C := T.C) (TL := TL) h fun us n q e hs => ?_⟩
    obtain ⟨x, rfl, hl, hq⟩ := hs
    cases x <;> simp [ro0, sp_npair]
    case list ds =>
      refine ⟨few (by have := hl ds rfl; omega), lcL_id (fun d => .bool (isPr d)) ds n _ (fun d hd n Kt Ks k => ?_) ?_⟩
      · simp [sp_npair]
        exact k
      · simp
        exact hq
    case tuple ds =>
      refine ⟨few (by have := hl ds rfl; omega), lcL_id (fun d => .bool (isPr d)) ds n _ (fun d hd n Kt Ks k => ?_) ?_⟩
      · simp [sp_npair]
        exact k
      · simp
        exact hq
    all_goals exact hq
theorem ok_q_check_spots (T : Txt K mg) : FnOk P w K mg base (L2.CX P w) 4 T.q_check_spots.a T.q_check_spots.d ["spots"] (toSp K T.C TL false (sp_chk_spots T.x_BadSpots.C)) := by
  refine T.q_check_spots.F.okX c_q_check_spots (fun vs H Q E h => toSp_len h fun us n q e hs => ?_) (fun cdv A outer s H vs Q E hr h => ?_)
  · (first | (obtain ⟨rfl, _⟩ := hs; rfl) | (obtain ⟨_, hs⟩ := hs; (first | (obtain ⟨rfl, _⟩ := hs; rfl) | (obtain ⟨_, hs⟩ := hs; (first | (obtain ⟨rfl, _⟩ := hs; rfl) | (obtain ⟨_, hs⟩ := hs; (first | (obtain ⟨rfl, _⟩ := hs; rfl) | (obtain ⟨_, hs⟩ := hs; (first | (obtain ⟨rfl, _⟩ := hs; rfl) | (obtain ⟨_, hs⟩ := hs; (first | (obtain ⟨rfl, _⟩ := hs; rfl) | (obtain ⟨_, hs⟩ := hs; (first | (obtain ⟨rfl, _⟩ := hs; rfl) | (obtain ⟨_, hs⟩ := hs; (first | (obtain ⟨rfl, _⟩ := hs; rfl) | (obtain ⟨_, hs⟩ := hs; (first | (obtain ⟨rfl, _⟩ := hs; rfl) | (obtain ⟨_, hs⟩ := hs; (first | (obtain ⟨rfl, _⟩ := hs; rfl) | (obtain ⟨_, hs⟩ := hs; (first | (obtain ⟨rfl, _⟩ := hs; rfl) | (obtain ⟨_, hs⟩ := hs; (first | (obtain ⟨rfl, _⟩ := hs; rfl) | (obtain ⟨_, hs⟩ := hs; (first | (obtain ⟨rfl, _⟩ := hs; rfl) | (obtain ⟨_, hs⟩ := hs; (first | (obtain ⟨rfl, _⟩ := hs; rfl) | (obtain ⟨_, hs⟩ := hs; (first | (obtain ⟨rfl, _⟩ := hs; rfl) | (obtain ⟨_, hs⟩ := hs; (first | (obtain ⟨rfl, _⟩ := hs; rfl) | (obtain ⟨_, hs⟩ := hs; (obtain ⟨rfl, _⟩ := hs; rfl)))))))))))))))))))))))))))))))))
  · refine ⟨_,
      (pss_one (ps_if (pt_not (pt_val (pe_call (ok_q_is_spot_list T (TL := TL)) (hr.mono (by decide)) rfl T.q_is_spot_list.g T.q_is_spot_list.k T.q_is_spot_list.b .nil pass0 (pa_cons (pv 0) pa_nil))))
      (pss_one (ps_rz (C' := T.x_BadSpots.C) (ps_raise rfl (takes_of rfl rfl rfl rfl) (pmk_own PySem.F.excBase_ValueError T.x_BadSpots.q T.x_BadSpots.g T.x_BadSpots.k (raises_own T.x_BadSpots.b T.x_BadSpots.t) (by exact rfl)))))
      pss_nil))
      , run3 (K := K) (C := T.C) (TL := TL) h fun us n q e hs => ?_⟩
    obtain ⟨x, rfl, hl, h1, h2⟩ := hs
    simp [ro0]
    refine ⟨hl, ?_⟩
    cases hf : isSL x
    · simpa [hf] using h2 hf
    · simpa [hf] using h1 hf
theorem ok_q_sizes_among (T : Txt K mg) : FnOk P w K mg base CX0 1 T.q_sizes_among.a T.q_sizes_among.d ["ends", "starts"] (toSp K T.C TL false sp_sizes) := by
  refine T.q_sizes_among.F.ok c_q_sizes_among (fun vs H Q E h => toSp_len h fun us n q e hs => ?_) (fun cdv A outer s H vs Q E hr h => ?_)
  · (first | (obtain ⟨rfl, _⟩ := hs; rfl) | (obtain ⟨_, hs⟩ := hs; (first | (obtain ⟨rfl, _⟩ := hs; rfl) | (obtain ⟨_, hs⟩ := hs; (first | (obtain ⟨rfl, _⟩ := hs; rfl) | (obtain ⟨_, hs⟩ := hs; (first | (obtain ⟨rfl, _⟩ := hs; rfl) | (obtain ⟨_, hs⟩ := hs; (first | (obtain ⟨rfl, _⟩ := hs; rfl) | (obtain ⟨_, hs⟩ := hs; (first | (obtain ⟨rfl, _⟩ := hs; rfl) | (obtain ⟨_, hs⟩ := hs; (first | (obtain ⟨rfl, _⟩ := hs; rfl) | (obtain ⟨_, hs⟩ := hs; (first | (obtain ⟨rfl, _⟩ := hs; rfl) | (obtain ⟨_, hs⟩ := hs; (first | (obtain ⟨rfl, _⟩ := hs; rfl) | (obtain ⟨_, hs⟩ := hs; (first | (obtain ⟨rfl, _⟩ := hs; rfl) | (obtain ⟨_, hs⟩ := hs; (first | (obtain ⟨rfl, _⟩ := hs; rfl) | (obtain ⟨_, hs⟩ := hs; (first | (obtain ⟨rfl, _⟩ := hs; rfl) | (obtain ⟨_, hs⟩ := hs; (first | (obtain ⟨rfl, _⟩ := hs; rfl) | (obtain ⟨_, hs⟩ := hs; (first | (obtain ⟨rfl, _⟩ := hs; rfl) | (obtain ⟨_, hs⟩ := hs; (first | (obtain ⟨rfl, _⟩ := hs; rfl) | (obtain ⟨_, hs⟩ := hs; (first | (obtain ⟨rfl, _⟩ := hs; rfl) | (obtain ⟨_, hs⟩ := hs; (obtain ⟨rfl, _⟩ := hs; rfl)))))))))))))))))))))))))))))))))
  · refine ⟨_,
      (pss_one (ps_ret (pe_callTy (tup3 K) (by rfl) T.z_tuple (by decide +kernel) (pa_cons (pe_callB (sortedSet3 w rfl) (by rfl) T.z_sorted (by decide +kernel) (pa_cons (pe_callTy (setL3 K w rfl) (by rfl) T.z_set (by decide +kernel) (pa_cons (pe_lc2 (own := [("end", 2), ("start", 3)]) (g := gName 2) (g1 := gName 3) (vs1 := [3]) (by rfl) c_q_sizes_among.nd (seq3 K (pv 0)) (blkOk_by (own := [("end", 2), ("start", 3)]) (N := N_q_sizes_among) (sc := defScope S_q_sizes_among) (by decide +kernel)) (by decide) (fun _ _ _ _ _ => pg_name (i := 2) c_q_sizes_among.nd rfl (Or.inl rfl)) (fun _ _ _ _ _ => pts_nil) (fun _ _ _ _ _ => (seq3 K (pv 1))) (fun _ _ _ _ _ => pg_name (i := 3) c_q_sizes_among.nd rfl (Or.inl rfl)) (fun _ _ _ _ _ => (pts_one (pt_cmpR op_gt (pv 2) (pv 3) (nomark _)))) (fun _ _ _ _ _ => (pe_op op_sub (pv 2) (pv 3)))) pa_nil)) pa_nil)) pa_nil))))
      , run3 (K := K) (C := T.C) (TL := TL) h fun us n q e hs => ?_⟩
    obtain ⟨es, ss, rfl, h1, h2, hq⟩ := hs
    have hm : es.length * ss.length ≤ 3 * 6 := Nat.mul_le_mul h1 h2
    simp [ro0]
    refine lcO_flat PyData.int (fun e => (ss.filter fun s => decide (s < e)).map fun s => PyData.int (e - s)) 6 es [] n _ (fun e he acc m Kk hacc hk => ?_) (fun e he => by simp; exact Nat.le_trans (List.length_filter_le _ _) h2) (by simp; omega) ?_
    · simp
      refine lcI_pure PyData.int (fun s => PyData.int (e - s)) (fun s => decide (s < e)) ss acc m Kk (fun s hs m Kt Ks h => ?_) (fun s hs => rfl) (by omega) hk
      simp at h ⊢
      exact h
    · simp
      have e0 : es.flatMap (fun e => (ss.filter fun s => decide (s < e)).map fun s => PyData.int (e - s)) = (es.flatMap fun e => (ss.filter fun s => decide (s < e)).map fun s => e - s).map PyData.int := by
        rw [List.map_flatMap]
        simp only [List.map_map]
        rfl
      have le : ∀ (as : List Int), (as.flatMap fun e => (ss.filter fun s => decide (s < e)).map fun s => e - s).length ≤ as.length * ss.length := fun as => by
        induction as with
        | nil => simp
        | cons a as ih =>
          rw [List.flatMap_cons, List.length_append, List.length_cons, Nat.succ_mul, List.length_map]
          have := List.length_filter_le (fun s => decide (s < a)) ss
          omega
      have le2 := le es
      refine ⟨_, e0, by omega, fun line up mem ll => hq line ⟨up, fun j => (mem j).trans ?_⟩ (by omega)⟩
      simp only [List.mem_flatMap, List.mem_map, List.mem_filter, decide_eq_true_eq]
      exact ⟨fun ⟨e, he, s, ⟨hs, l⟩, q⟩ => ⟨e, he, s, hs, l, q.symm⟩, fun ⟨e, he, s, hs, l, q⟩ => ⟨e, he, s, ⟨hs, l⟩, q.symm⟩⟩
theorem ok_q_grid_of (T : Txt K mg) : FnOk P w K mg base CX0 2 T.q_grid_of.a T.q_grid_of.d ["drawing", "spots"] (toSp K T.C TL false sp_gridof) := by
  refine T.q_grid_of.F.ok c_q_grid_of (fun vs H Q E h => toSp_len h fun us n q e hs => ?_) (fun cdv A outer s H vs Q E hr h => ?_)
  · (first | (obtain ⟨rfl, _⟩ := hs; rfl) | (obtain ⟨_, hs⟩ := hs; (first | (obtain ⟨rfl, _⟩ := hs; rfl) | (obtain ⟨_, hs⟩ := hs; (first | (obtain ⟨rfl, _⟩ := hs; rfl) | (obtain ⟨_, hs⟩ := hs; (first | (obtain ⟨rfl, _⟩ := hs; rfl) | (obtain ⟨_, hs⟩ := hs; (first | (obtain ⟨rfl, _⟩ := hs; rfl) | (obtain ⟨_, hs⟩ := hs; (first | (obtain ⟨rfl, _⟩ := hs; rfl) | (obtain ⟨_, hs⟩ := hs; (first | (obtain ⟨rfl, _⟩ := hs; rfl) | (obtain ⟨_, hs⟩ := hs; (first | (obtain ⟨rfl, _⟩ := hs; rfl) | (obtain ⟨_, hs⟩ := hs; (first | (obtain ⟨rfl, _⟩ := hs; rfl) | (obtain ⟨_, hs⟩ := hs; (first | (obtain ⟨rfl, _⟩ := hs; rfl) | (obtain ⟨_, hs⟩ := hs; (first | (obtain ⟨rfl, _⟩ := hs; rfl) | (obtain ⟨_, hs⟩ := hs; (first | (obtain ⟨rfl, _⟩ := hs; rfl) | (obtain ⟨_, hs⟩ := hs; (first | (obtain ⟨rfl, _⟩ := hs; rfl) | (obtain ⟨_, hs⟩ := hs; (first | (obtain ⟨rfl, _⟩ := hs; rfl) | (obtain ⟨_, hs⟩ := hs; (first | (obtain ⟨rfl, _⟩ := hs; rfl) | (obtain ⟨_, hs⟩ := hs; (first | (obtain ⟨rfl, _⟩ := hs; rfl) | (obtain ⟨_, hs⟩ := hs; (obtain ⟨rfl, _⟩ := hs; rfl)))))))))))))))))))))))))))))))))
  · refine ⟨_,
      (pss_cons (ps_set (i := 2) c_q_grid_of.nd rfl (Or.inl rfl) (fld3 K (pv 0) rfl))
      (pss_one (ps_ret (pe_tup (pa_cons (pe_call (ok_q_sizes_among T (TL := TL)) (hr.mono (by decide)) rfl T.q_sizes_among.g T.q_sizes_among.k T.q_sizes_among.b .nil pass0 (pa_cons (pe_lc (own := [("block", 3)]) (g := gName 3) (by rfl) c_q_grid_of.nd (seq3 K (pv 2)) (blkOk_by (own := [("block", 3)]) (N := N_q_grid_of) (sc := defScope S_q_grid_of) (by decide +kernel)) (fun _ _ _ _ _ => pg_name (i := 3) c_q_grid_of.nd rfl (Or.inl rfl)) (fun _ _ _ _ _ => pts_nil) (fun _ _ _ _ _ => (pe_ix (ix3 K) (pv 3) pe_int (fun _ _ => rfl)))) (pa_cons (pe_op (add3 K) (pe_lc (own := [("block", 3)]) (g := gName 3) (by rfl) c_q_grid_of.nd (seq3 K (pv 2)) (blkOk_by (own := [("block", 3)]) (N := N_q_grid_of) (sc := defScope S_q_grid_of) (by decide +kernel)) (fun _ _ _ _ _ => pg_name (i := 3) c_q_grid_of.nd rfl (Or.inl rfl)) (fun _ _ _ _ _ => pts_nil) (fun _ _ _ _ _ => (pe_ix (ix3 K) (pv 3) pe_int (fun _ _ => rfl)))) (pe_lc (own := [("spot", 4)]) (g := gName 4) (by rfl) c_q_grid_of.nd (seq3 K (pv 1)) (blkOk_by (own := [("spot", 4)]) (N := N_q_grid_of) (sc := defScope S_q_grid_of) (by decide +kernel)) (fun _ _ _ _ _ => pg_name (i := 4) c_q_grid_of.nd rfl (Or.inl rfl)) (fun _ _ _ _ _ => pts_nil) (fun _ _ _ _ _ => (pe_ix (ix3 K) (pv 4) pe_int (fun _ _ => rfl))))) pa_nil))) (pa_cons (pe_call (ok_q_sizes_among T (TL := TL)) (hr.mono (by decide)) rfl T.q_sizes_among.g T.q_sizes_among.k T.q_sizes_among.b .nil pass0 (pa_cons (pe_lc (own := [("block", 3)]) (g := gName 3) (by rfl) c_q_grid_of.nd (seq3 K (pv 2)) (blkOk_by (own := [("block", 3)]) (N := N_q_grid_of) (sc := defScope S_q_grid_of) (by decide +kernel)) (fun _ _ _ _ _ => pg_name (i := 3) c_q_grid_of.nd rfl (Or.inl rfl)) (fun _ _ _ _ _ => pts_nil) (fun _ _ _ _ _ => (pe_ix (ix3 K) (pv 3) pe_int (fun _ _ => rfl)))) (pa_cons (pe_op (add3 K) (pe_lc (own := [("block", 3)]) (g := gName 3) (by rfl) c_q_grid_of.nd (seq3 K (pv 2)) (blkOk_by (own := [("block", 3)]) (N := N_q_grid_of) (sc := defScope S_q_grid_of) (by decide +kernel)) (fun _ _ _ _ _ => pg_name (i := 3) c_q_grid_of.nd rfl (Or.inl rfl)) (fun _ _ _ _ _ => pts_nil) (fun _ _ _ _ _ => (pe_ix (ix3 K) (pv 3) pe_int (fun _ _ => rfl)))) (pe_lc (own := [("spot", 4)]) (g := gName 4) (by rfl) c_q_grid_of.nd (seq3 K (pv 1)) (blkOk_by (own := [("spot", 4)]) (N := N_q_grid_of) (sc := defScope S_q_grid_of) (by decide +kernel)) (fun _ _ _ _ _ => pg_name (i := 4) c_q_grid_of.nd rfl (Or.inl rfl)) (fun _ _ _ _ _ => pts_nil) (fun _ _ _ _ _ => (pe_ix (ix3 K) (pv 4) pe_int (fun _ _ => rfl))))) pa_nil))) pa_nil))))))
      , run3 (K := K) (C := T.C) (TL := TL) h fun us n q e hs => ?_⟩
    obtain ⟨bs, x, ps, rfl, hx, h1, h2, hq⟩ := hs
    have sz1 : ∀ k : Nat, k ≤ 1000 → k ≤ sizeLine := fun k hk => Nat.le_of_lt (few (by omega))
    have it : ∀ (f : Bk → Int) (g : Int × Int → Int), (bs.map fun b => PyData.int (f b)) ++ (ps.map fun p => PyData.int (g p)) = (bs.map f ++ ps.map g).map PyData.int := fun f g => by
      rw [List.map_append, List.map_map, List.map_map]
      rfl
    cases x <;> cases hx <;> simp [ro0]
    all_goals
      refine ⟨few (by omega), lcL_all bkD (fun b => .int b.l) bs n _ (fun b _ n Kt Ks h => ?_) ⟨few (by omega), lcL_all bkD (fun b => .int b.r) bs n _ (fun b _ n Kt Ks h => ?_) ⟨few (by omega), lcL_all pD (fun p => .int p.1) ps n _ (fun b _ n Kt Ks h => ?_) ⟨sz1 _ (by simp; omega), xsE bs, xsS bs ps, ⟨by unfold xsE; rw [List.map_map]; rfl, it Bk.r (fun p => p.1)⟩, by simpa [xsE] using h1, by simp [xsS]; omega, fun xs hxs lxs => ⟨few (by omega), lcL_all bkD (fun b => .int b.d) bs n _ (fun b _ n Kt Ks h => ?_) ⟨few (by omega), lcL_all bkD (fun b => .int b.u) bs n _ (fun b _ n Kt Ks h => ?_) ⟨few (by omega), lcL_all pD (fun p => .int p.2) ps n _ (fun b _ n Kt Ks h => ?_) ⟨sz1 _ (by simp; omega), ysE bs, ysS bs ps, ⟨by unfold ysE; rw [List.map_map]; rfl, it Bk.u (fun p => p.2)⟩, by simpa [ysE] using h1, by simp [ysS]; omega, fun ys hys lys => hq xs ys hxs hys lxs lys⟩⟩⟩⟩⟩⟩⟩⟩
      all_goals
        simp
        exact h
theorem ok_q_ranges_of (T : Txt K mg) : FnOk P w K mg base CX0 1 T.q_ranges_of.a T.q_ranges_of.d ["numbers"] (toSp K T.C TL true sp_ranges) := by
  refine T.q_ranges_of.F.ok c_q_ranges_of (fun vs H Q E h => toSp_len h fun us n q e hs => ?_) (fun cdv A outer s H vs Q E hr h => ?_)
  · (first | (obtain ⟨rfl, _⟩ := hs; rfl) | (obtain ⟨_, hs⟩ := hs; (first | (obtain ⟨rfl, _⟩ := hs; rfl) | (obtain ⟨_, hs⟩ := hs; (first | (obtain ⟨rfl, _⟩ := hs; rfl) | (obtain ⟨_, hs⟩ := hs; (first | (obtain ⟨rfl, _⟩ := hs; rfl) | (obtain ⟨_, hs⟩ := hs; (first | (obtain ⟨rfl, _⟩ := hs; rfl) | (obtain ⟨_, hs⟩ := hs; (first | (obtain ⟨rfl, _⟩ := hs; rfl) | (obtain ⟨_, hs⟩ := hs; (first | (obtain ⟨rfl, _⟩ := hs; rfl) | (obtain ⟨_, hs⟩ := hs; (first | (obtain ⟨rfl, _⟩ := hs; rfl) | (obtain ⟨_, hs⟩ := hs; (first | (obtain ⟨rfl, _⟩ := hs; rfl) | (obtain ⟨_, hs⟩ := hs; (first | (obtain ⟨rfl, _⟩ := hs; rfl) | (obtain ⟨_, hs⟩ := hs; (first | (obtain ⟨rfl, _⟩ := hs; rfl) | (obtain ⟨_, hs⟩ := hs; (first | (obtain ⟨rfl, _⟩ := hs; rfl) | (obtain ⟨_, hs⟩ := hs; (first | (obtain ⟨rfl, _⟩ := hs; rfl) | (obtain ⟨_, hs⟩ := hs; (first | (obtain ⟨rfl, _⟩ := hs; rfl) | (obtain ⟨_, hs⟩ := hs; (first | (obtain ⟨rfl, _⟩ := hs; rfl) | (obtain ⟨_, hs⟩ := hs; (first | (obtain ⟨rfl, _⟩ := hs; rfl) | (obtain ⟨_, hs⟩ := hs; (obtain ⟨rfl, _⟩ := hs; rfl)))))))))))))))))))))))))))))))))
  · refine ⟨_,
      (pss_cons (ps_set (i := 1) c_q_ranges_of.nd rfl (Or.inl rfl) (pe_lst pa_nil))
      (pss_cons (ps_set (i := 2) c_q_ranges_of.nd rfl (Or.inl rfl) pe_int)
      (pss_cons (ps_for PassesOwn.never rfl (seq3 K (pv 0)) (pg_name (i := 3) c_q_ranges_of.nd rfl (Or.inl rfl))
      (pss_cons (ps_if (pt_cmpR op_gt (pv 3) (pv 2) (nomark _))
      (pss_one (ps_expr (bm3 K PySem.F.plainAttrs_list PySem.F.slot_list_append PySem.F.type_list_append mt_append (pv 1) (pa_cons (pe_tup (pa_cons (pv 2) (pa_cons (pe_op op_sub (pv 3) pe_int) pa_nil))) pa_nil))))
      pss_nil)
      (pss_cons (ps_expr (bm3 K PySem.F.plainAttrs_list PySem.F.slot_list_append PySem.F.type_list_append mt_append (pv 1) (pa_cons (pe_tup (pa_cons (pv 3) (pa_cons (pv 3) pa_nil))) pa_nil)))
      (pss_one (ps_set (i := 2) c_q_ranges_of.nd rfl (Or.inl rfl) (pe_op (add3 K) (pv 3) pe_int))))))
      (pss_one (ps_ret (pe_op (add3 K) (pv 1) (pe_lst (pa_cons (pe_tup (pa_cons (pv 2) (pa_cons pe_non pa_nil))) pa_nil))))))))
      , run3 (K := K) (C := T.C) (TL := TL) h fun us n q e hs => ?_⟩
    obtain ⟨ns, rfl, hl, hq⟩ := hs
    simp [ro0, -V3.forL]
    refine forL_mapW PyData.int (fun done left ρ m => ∃ (fs : List (Int × Option Int)) (least : Int) (z3 : Sl), m = n ∧ ρ = [.fz (.d (.tuple (ns.map PyData.int))), .ow (fs.map niD), .fz (.d (.int least)), z3] ∧ rngL 1 ns = fs ++ rngL least left ∧ fs.length ≤ 2 * done.length ∧ done ++ left = ns) ns [] _ _ ?_ ?_ ?_
    · rintro done ρ m ⟨fs, least, z3, rfl, rfl, hr, hf, hd⟩
      have := congrArg List.length hd
      simp at this
      simp
      have e0 : List.map niD fs ++ [PyData.tuple [PyData.int least, PyData.none]] = (rngL 1 ns).map niD := by
        rw [hr, List.map_append]
        rfl
      rw [e0]
      exact ⟨Nat.le_of_lt (few (by omega)), hq⟩
    · rintro done k left ρ m G hG ⟨fs, least, z3, rfl, rfl, hr, hf, hd⟩
      have := congrArg List.length hd
      simp at this
      have hd2 : (done ++ [k]) ++ left = ns := by rw [← hd]; simp
      simp
      by_cases c : least < k
      · rw [if_pos c]
        refine ⟨few (by omega), few (by omega), hG _ _ ⟨fs ++ [(least, some (k - 1)), (k, some k)], k + 1, _, rfl, by rw [List.map_append]; rfl, ?_, by simp; omega, hd2⟩⟩
        rw [hr, List.append_assoc]
        show fs ++ ((if least < k then [(least, some (k - 1))] else []) ++ (k, some k) :: rngL (k + 1) left) = _
        rw [if_pos c]
        rfl
      · rw [if_neg c]
        refine ⟨few (by omega), hG _ _ ⟨fs ++ [(k, some k)], k + 1, _, rfl, by rw [List.map_append]; rfl, ?_, by simp; omega, hd2⟩⟩
        rw [hr, List.append_assoc]
        show fs ++ ((if least < k then [(least, some (k - 1))] else []) ++ (k, some k) :: rngL (k + 1) left) = _
        rw [if_neg c]
        rfl
    · exact ⟨[], 1, _, rfl, rfl, rfl, by simp, rfl⟩
theorem ok_q_has_size (T : Txt K mg) : FnOk P w K mg base CX0 1 T.q_has_size.a T.q_has_size.d ["span", "size"] (toSp K T.C TL false sp_hasz) := by
  refine T.q_has_size.F.ok c_q_has_size (fun vs H Q E h => toSp_len h fun us n q e hs => ?_) (fun cdv A outer s H vs Q E hr h => ?_)
  · (first | (obtain ⟨rfl, _⟩ := hs; rfl) | (obtain ⟨_, hs⟩ := hs; (first | (obtain ⟨rfl, _⟩ := hs; rfl) | (obtain ⟨_, hs⟩ := hs; (first | (obtain ⟨rfl, _⟩ := hs; rfl) | (obtain ⟨_, hs⟩ := hs; (first | (obtain ⟨rfl, _⟩ := hs; rfl) | (obtain ⟨_, hs⟩ := hs; (first | (obtain ⟨rfl, _⟩ := hs; rfl) | (obtain ⟨_, hs⟩ := hs; (first | (obtain ⟨rfl, _⟩ := hs; rfl) | (obtain ⟨_, hs⟩ := hs; (first | (obtain ⟨rfl, _⟩ := hs; rfl) | (obtain ⟨_, hs⟩ := hs; (first | (obtain ⟨rfl, _⟩ := hs; rfl) | (obtain ⟨_, hs⟩ := hs; (first | (obtain ⟨rfl, _⟩ := hs; rfl) | (obtain ⟨_, hs⟩ := hs; (first | (obtain ⟨rfl, _⟩ := hs; rfl) | (obtain ⟨_, hs⟩ := hs; (first | (obtain ⟨rfl, _⟩ := hs; rfl) | (obtain ⟨_, hs⟩ := hs; (first | (obtain ⟨rfl, _⟩ := hs; rfl) | (obtain ⟨_, hs⟩ := hs; (first | (obtain ⟨rfl, _⟩ := hs; rfl) | (obtain ⟨_, hs⟩ := hs; (first | (obtain ⟨rfl, _⟩ := hs; rfl) | (obtain ⟨_, hs⟩ := hs; (first | (obtain ⟨rfl, _⟩ := hs; rfl) | (obtain ⟨_, hs⟩ := hs; (first | (obtain ⟨rfl, _⟩ := hs; rfl) | (obtain ⟨_, hs⟩ := hs; (obtain ⟨rfl, _⟩ := hs; rfl)))))))))))))))))))))))))))))))))
  · refine ⟨_,
      (pss_one (ps_ret (pe_and (pe_cmpR op_le (pe_ix (ix3 K) (pv 0) pe_int (fun _ _ => rfl)) (pv 1) (nomark _)) (pe_one (pe_or (pe_cmpR op_isN3 (pe_ix (ix3 K) (pv 0) pe_int (fun _ _ => rfl)) pe_non (nomark _)) (pe_one (pe_cmpR op_le (pv 1) (pe_ix (ix3 K) (pv 0) pe_int (fun _ _ => rfl)) (nomark _))))))))
      , run3 (K := K) (C := T.C) (TL := TL) h fun us n q e hs => ?_⟩
    obtain ⟨⟨a, b⟩, s, rfl, hq⟩ := hs
    cases b <;> simp [ro0, hasR] at hq ⊢
    · by_cases c : a ≤ s <;> simpa [c] using hq
    · by_cases c : a ≤ s <;> simpa [c] using hq
end
end G21
set_option Elab.async false
set_option linter.all false
set_option maxRecDepth 100000
set_option maxHeartbeats 4000000
set_option synthInstance.maxSize 100000
set_option synthInstance.maxHeartbeats 0
namespace G21
open PySem PySem.Spec PyProof.Rows L2 V3
def cellsL (xs ys : List Int) : List ((Int × Option Int) × (Int × Option Int)) := (rngL 1 xs).flatMap fun w => (rngL 1 ys).map fun h => (w, h)
abbrev clD (c : (Int × Option Int) × (Int × Option Int)) : D := .tuple [niD c.1, niD c.2]
/-- what is no drawing, what is no list of spots, what is no body: the first one due -/
def okU (u : U) : Prop := (∃ xs, u = .dw xs) ∨ ∃ x : D, u = .d x ∧ ∀ kvs, x ≠ .dict kvs
def badW : U → Bool
  | .dw _ => false
  | _ => true
def dwB (u : U) : Prop := badW u = false → ∃ bs : List Bk, u = .dw (bs.map bkD)
def lenB (x : D) : Prop := ∀ xs, x = .tuple xs → xs.length ≤ 1000
@[simp ↓] def sp_cgrid (BD BS : Addr) : VSp := fun us n q e => ∃ (u : U) (x : D), us = [u, .d x] ∧ okU u ∧ lenS x ∧ (badW u = true → e BD) ∧ (badW u = false → isSL x = false → e BS) ∧ (badW u = false → isSL x = true → q (.d .none) n)
@[simp ↓] def sp_ccells (BD BS BB : Addr) : VSp := fun us n q e => ∃ (u : U) (x y : D), us = [u, .d x, .d y] ∧ okU u ∧ lenS x ∧ lenB y ∧ (badW u = true → e BD) ∧ (badW u = false → isSL x = false → e BS) ∧ (badW u = false → isSL x = true → isBd y = false → e BB) ∧ (badW u = false → isSL x = true → isBd y = true → q (.d .none) n)
@[simp ↓] def sp_fineof : VSp := fun us n q _ => ∃ (bs : List Bk) (x : D) (ps : List (Int × Int)), us = [.dw (bs.map bkD), .d x] ∧ asL x = some (ps.map pD) ∧ bs.length ≤ 3 ∧ ps.length ≤ 3 ∧
  ∀ xs ys : List Int, isGr (xsE bs) (xsS bs ps) xs → isGr (ysE bs) (ysS bs ps) ys → xs.length ≤ 18 → ys.length ≤ 18 → q (.d (.list ((cellsL xs ys).map clD))) n
@[simp ↓] def sp_fines (BD BS : Addr) : VSp := fun us n q e => ∃ (u : U) (x : D), us = [u, .d x] ∧ okU u ∧ dwB u ∧ lenS x ∧ (badW u = true → e BD) ∧ (badW u = false → isSL x = false → e BS) ∧ ∀ (bs : List Bk) (ps : List (Int × Int)), u = .dw (bs.map bkD) → asL x = some (ps.map pD) → bs.length ≤ 3 ∧ ps.length ≤ 3 ∧
  ∀ xs ys : List Int, isGr (xsE bs) (xsS bs ps) xs → isGr (ysE bs) (ysS bs ps) ys → xs.length ≤ 18 → ys.length ≤ 18 → q (.d (.list ((cellsL xs ys).map clD))) n
/-- the range that a size stands in -/
def inRg (xs : List Int) (s : Int) (p : Int × Option Int) : Prop := ((rngL 1 xs).filter fun p => hasR p s).head? = some p
@[simp ↓] def sp_fcell (BD BS BB : Addr) : VSp := fun us n q e => ∃ (u : U) (x y : D), us = [u, .d x, .d y] ∧ okU u ∧ dwB u ∧ lenS x ∧ lenB y ∧ (badW u = true → e BD) ∧ (badW u = false → isSL x = false → e BS) ∧ (badW u = false → isSL x = true → isBd y = false → e BB) ∧
  ∀ (bs : List Bk) (ps : List (Int × Int)) (a b : Int), u = .dw (bs.map bkD) → asL x = some (ps.map pD) → y = pr a b → 1 ≤ a → 1 ≤ b → bs.length ≤ 3 ∧ ps.length ≤ 3 ∧
  ∀ (xs ys : List Int) (p o : Int × Option Int), isGr (xsE bs) (xsS bs ps) xs → isGr (ysE bs) (ysS bs ps) ys → inRg xs a p → inRg ys b o → q (.d (clD (p, o))) n
theorem rng_len : ∀ (ns : List Int) (l : Int), (rngL l ns).length ≤ 2 * ns.length + 1
  | [], _ => by simp [rngL]
  | k :: ns, l => by
    have := rng_len ns (k + 1)
    show ((if l < k then [(l, some (k - 1))] else []) ++ (k, some k) :: rngL (k + 1) ns).length ≤ _
    split <;> simp <;> omega
theorem rng_has : ∀ (ns : List Int) (l s : Int), l ≤ s → ∃ p ∈ rngL l ns, hasR p s = true
  | [], l, s, h => ⟨_, List.mem_singleton.mpr rfl, by simp [hasR, h]⟩
  | k :: ns, l, s, h => by
    show ∃ p ∈ ((if l < k then [(l, some (k - 1))] else []) ++ (k, some k) :: rngL (k + 1) ns), _
    by_cases c1 : s < k
    · refine ⟨(l, some (k - 1)), List.mem_append_left _ ?_, ?_⟩
      · rw [if_pos (by omega)]
        exact List.mem_singleton.mpr rfl
      · simp [hasR, h]
        omega
    · by_cases c2 : s = k
      · refine ⟨(k, some k), List.mem_append_right _ List.mem_cons_self, ?_⟩
        simp [hasR, c2]
      · obtain ⟨p, hp, hh⟩ := rng_has ns (k + 1) s (by omega)
        exact ⟨p, List.mem_append_right _ (List.mem_cons_of_mem _ hp), hh⟩
theorem in_rg (xs : List Int) {s : Int} (h : 1 ≤ s) : ∃ p, inRg xs s p := by
  obtain ⟨p, hp, hh⟩ := rng_has xs 1 s h
  unfold inRg
  cases e : (rngL 1 xs).filter fun p => hasR p s with
  | nil =>
    have := List.filter_eq_nil_iff.mp e p hp
    exact absurd hh this
  | cons q qs => exact ⟨q, rfl⟩
theorem flat_ni (p : Int × Option Int) : V3.flat (niD p) = true := by
  obtain ⟨a, b⟩ := p
  cases b <;> rfl
theorem bd_of {y : D} (h : isBd y = true) : ∃ a b : Int, y = pr a b ∧ 1 ≤ a ∧ 1 ≤ b := by
  cases y with
  | tuple xs =>
    match xs, h with
    | [a, b], h =>
      cases a <;> cases b <;> simp [isBd, isSzD] at h
      exact ⟨_, _, rfl, h⟩
    | [], h => cases h
    | [_], h => cases h
    | _ :: _ :: _ :: _, h => cases h
  | _ => cases h
theorem bad_dw {u : U} (h : okU u) : badW u = true ∨ ∃ xs, u = .dw xs := by
  rcases h with ⟨xs, rfl⟩ | ⟨x, rfl, _⟩
  · exact .inr ⟨xs, rfl⟩
  · exact .inl rfl
theorem bks_of2 {bs cs : List Bk} (h : U.dw (bs.map bkD) = U.dw (cs.map bkD)) : cs = bs := by
  have e : bs.map bkD = cs.map bkD := by
    injection h
  exact (bks_inj.mp e).symm
section
variable {P : Program} {w : World} {K : PySem.W.Frag} {mg : Str → Option Value} {base : Heap} {TL : List (Addr × Str)}
theorem ok_q_check_grid (T : Txt K mg) : FnOk P w K mg base (L2.CX P w) 5 T.q_check_grid.a T.q_check_grid.d ["drawing", "spots"] (toSp K T.C TL false (sp_cgrid T.x_BadDrawing.C T.x_BadSpots.C)) := by
  refine T.q_check_grid.F.okX c_q_check_grid (fun vs H Q E h => toSp_len h fun us n q e hs => ?_) (fun cdv A outer s H vs Q E hr h => ?_)
  · (first | (obtain ⟨rfl, _⟩ := hs; rfl) | (obtain ⟨_, hs⟩ := hs; (first | (obtain ⟨rfl, _⟩ := hs; rfl) | (obtain ⟨_, hs⟩ := hs; (first | (obtain ⟨rfl, _⟩ := hs; rfl) | (obtain ⟨_, hs⟩ := hs; (first | (obtain ⟨rfl, _⟩ := hs; rfl) | (obtain ⟨_, hs⟩ := hs; (first | (obtain ⟨rfl, _⟩ := hs; rfl) | (obtain ⟨_, hs⟩ := hs; (first | (obtain ⟨rfl, _⟩ := hs; rfl) | (obtain ⟨_, hs⟩ := hs; (first | (obtain ⟨rfl, _⟩ := hs; rfl) | (obtain ⟨_, hs⟩ := hs; (first | (obtain ⟨rfl, _⟩ := hs; rfl) | (obtain ⟨_, hs⟩ := hs; (first | (obtain ⟨rfl, _⟩ := hs; rfl) | (obtain ⟨_, hs⟩ := hs; (first | (obtain ⟨rfl, _⟩ := hs; rfl) | (obtain ⟨_, hs⟩ := hs; (first | (obtain ⟨rfl, _⟩ := hs; rfl) | (obtain ⟨_, hs⟩ := hs; (first | (obtain ⟨rfl, _⟩ := hs; rfl) | (obtain ⟨_, hs⟩ := hs; (first | (obtain ⟨rfl, _⟩ := hs; rfl) | (obtain ⟨_, hs⟩ := hs; (first | (obtain ⟨rfl, _⟩ := hs; rfl) | (obtain ⟨_, hs⟩ := hs; (first | (obtain ⟨rfl, _⟩ := hs; rfl) | (obtain ⟨_, hs⟩ := hs; (first | (obtain ⟨rfl, _⟩ := hs; rfl) | (obtain ⟨_, hs⟩ := hs; (obtain ⟨rfl, _⟩ := hs; rfl)))))))))))))))))))))))))))))))))
  · refine ⟨_,
      (pss_cons (ps_expr (pe_call (ok_q_check_drawing T (TL := TL)) (hr.mono (by decide)) rfl T.q_check_drawing.g T.q_check_drawing.k T.q_check_drawing.b .nil (passes_call (takes_of rfl rfl rfl rfl) (fun _ _ _ _ h => h)) (pa_cons (pv 0) pa_nil)))
      (pss_one (ps_expr (pe_call (ok_q_check_spots T (TL := TL)) (hr.mono (by decide)) rfl T.q_check_spots.g T.q_check_spots.k T.q_check_spots.b .nil (passes_call (takes_of rfl rfl rfl rfl) (fun _ _ _ _ h => h)) (pa_cons (pv 1) pa_nil)))))
      , run3 (K := K) (C := T.C) (TL := TL) h fun us n q e hs => ?_⟩
    obtain ⟨u, x, rfl, hu, hl, h1, h2, h3⟩ := hs
    rcases hu with ⟨xs, rfl⟩ | ⟨y, rfl, hy⟩
    · simp [ro0]
      exact ⟨hl, h3 rfl, h2 rfl⟩
    · simp [ro0]
      exact ⟨hy, h1 rfl⟩
theorem ok_q_check_cells (T : Txt K mg) : FnOk P w K mg base (L2.CX P w) 6 T.q_check_cells.a T.q_check_cells.d ["drawing", "spots", "body"] (toSp K T.C TL false (sp_ccells T.x_BadDrawing.C T.x_BadSpots.C T.x_BadBody.C)) := by
  refine T.q_check_cells.F.okX c_q_check_cells (fun vs H Q E h => toSp_len h fun us n q e hs => ?_) (fun cdv A outer s H vs Q E hr h => ?_)
  · (first | (obtain ⟨rfl, _⟩ := hs; rfl) | (obtain ⟨_, hs⟩ := hs; (first | (obtain ⟨rfl, _⟩ := hs; rfl) | (obtain ⟨_, hs⟩ := hs; (first | (obtain ⟨rfl, _⟩ := hs; rfl) | (obtain ⟨_, hs⟩ := hs; (first | (obtain ⟨rfl, _⟩ := hs; rfl) | (obtain ⟨_, hs⟩ := hs; (first | (obtain ⟨rfl, _⟩ := hs; rfl) | (obtain ⟨_, hs⟩ := hs; (first | (obtain ⟨rfl, _⟩ := hs; rfl) | (obtain ⟨_, hs⟩ := hs; (first | (obtain ⟨rfl, _⟩ := hs; rfl) | (obtain ⟨_, hs⟩ := hs; (first | (obtain ⟨rfl, _⟩ := hs; rfl) | (obtain ⟨_, hs⟩ := hs; (first | (obtain ⟨rfl, _⟩ := hs; rfl) | (obtain ⟨_, hs⟩ := hs; (first | (obtain ⟨rfl, _⟩ := hs; rfl) | (obtain ⟨_, hs⟩ := hs; (first | (obtain ⟨rfl, _⟩ := hs; rfl) | (obtain ⟨_, hs⟩ := hs; (first | (obtain ⟨rfl, _⟩ := hs; rfl) | (obtain ⟨_, hs⟩ := hs; (first | (obtain ⟨rfl, _⟩ := hs; rfl) | (obtain ⟨_, hs⟩ := hs; (first | (obtain ⟨rfl, _⟩ := hs; rfl) | (obtain ⟨_, hs⟩ := hs; (first | (obtain ⟨rfl, _⟩ := hs; rfl) | (obtain ⟨_, hs⟩ := hs; (first | (obtain ⟨rfl, _⟩ := hs; rfl) | (obtain ⟨_, hs⟩ := hs; (obtain ⟨rfl, _⟩ := hs; rfl)))))))))))))))))))))))))))))))))
  · refine ⟨_,
      (pss_cons (ps_expr (pe_call (ok_q_check_grid T (TL := TL)) (hr.mono (by decide)) rfl T.q_check_grid.g T.q_check_grid.k T.q_check_grid.b .nil (passes_call (takes_of rfl rfl rfl rfl) (fun _ _ _ _ h => h)) (pa_cons (pv 0) (pa_cons (pv 1) pa_nil))))
      (pss_one (ps_expr (pe_call (ok_q_check_body T (TL := TL)) (hr.mono (by decide)) rfl T.q_check_body.g T.q_check_body.k T.q_check_body.b .nil (passes_call (takes_of rfl rfl rfl rfl) (fun _ _ _ _ h => h)) (pa_cons (pv 2) pa_nil)))))
      , run3 (K := K) (C := T.C) (TL := TL) h fun us n q e hs => ?_⟩
    obtain ⟨u, x, y, rfl, hu, hl, hb, h1, h2, h3, h4⟩ := hs
    simp [ro0]
    refine ⟨u, x, ⟨rfl, rfl⟩, hu, hl, h1, h2, fun z1 z2 => ⟨hb, h4 z1 z2, h3 z1 z2⟩⟩
theorem ok_q_fine_cells_of (T : Txt K mg) : FnOk P w K mg base CX0 3 T.q_fine_cells_of.a T.q_fine_cells_of.d ["drawing", "spots"] (toSp K T.C TL true sp_fineof) := by
  refine T.q_fine_cells_of.F.ok c_q_fine_cells_of (fun vs H Q E h => toSp_len h fun us n q e hs => ?_) (fun cdv A outer s H vs Q E hr h => ?_)
  · (first | (obtain ⟨rfl, _⟩ := hs; rfl) | (obtain ⟨_, hs⟩ := hs; (first | (obtain ⟨rfl, _⟩ := hs; rfl) | (obtain ⟨_, hs⟩ := hs; (first | (obtain ⟨rfl, _⟩ := hs; rfl) | (obtain ⟨_, hs⟩ := hs; (first | (obtain ⟨rfl, _⟩ := hs; rfl) | (obtain ⟨_, hs⟩ := hs; (first | (obtain ⟨rfl, _⟩ := hs; rfl) | (obtain ⟨_, hs⟩ := hs; (first | (obtain ⟨rfl, _⟩ := hs; rfl) | (obtain ⟨_, hs⟩ := hs; (first | (obtain ⟨rfl, _⟩ := hs; rfl) | (obtain ⟨_, hs⟩ := hs; (first | (obtain ⟨rfl, _⟩ := hs; rfl) | (obtain ⟨_, hs⟩ := hs; (first | (obtain ⟨rfl, _⟩ := hs; rfl) | (obtain ⟨_, hs⟩ := hs; (first | (obtain ⟨rfl, _⟩ := hs; rfl) | (obtain ⟨_, hs⟩ := hs; (first | (obtain ⟨rfl, _⟩ := hs; rfl) | (obtain ⟨_, hs⟩ := hs; (first | (obtain ⟨rfl, _⟩ := hs; rfl) | (obtain ⟨_, hs⟩ := hs; (first | (obtain ⟨rfl, _⟩ := hs; rfl) | (obtain ⟨_, hs⟩ := hs; (first | (obtain ⟨rfl, _⟩ := hs; rfl) | (obtain ⟨_, hs⟩ := hs; (first | (obtain ⟨rfl, _⟩ := hs; rfl) | (obtain ⟨_, hs⟩ := hs; (first | (obtain ⟨rfl, _⟩ := hs; rfl) | (obtain ⟨_, hs⟩ := hs; (obtain ⟨rfl, _⟩ := hs; rfl)))))))))))))))))))))))))))))))))
  · refine ⟨_,
      (pss_cons (ps_set (i := 2) c_q_fine_cells_of.nd rfl (Or.inr rfl) (pe_call (ok_q_grid_of T (TL := TL)) (hr.mono (by decide)) rfl T.q_grid_of.g T.q_grid_of.k T.q_grid_of.b .nil pass0 (pa_cons (pv 0) (pa_cons (pv 1) pa_nil))))
      (pss_one (ps_ret (pe_lc2 (own := [("wide", 3), ("high", 4)]) (g := gName 3) (g1 := gName 4) (vs1 := [4]) (by rfl) c_q_fine_cells_of.nd (seq3 K (pe_call (ok_q_ranges_of T (TL := TL)) (hr.mono (by decide)) rfl T.q_ranges_of.g T.q_ranges_of.k T.q_ranges_of.b .nil pass0 (pa_cons (pe_ix (ix3 K) (pv 2) pe_int (fun _ _ => rfl)) pa_nil))) (blkOk_by (own := [("wide", 3), ("high", 4)]) (N := N_q_fine_cells_of) (sc := defScope S_q_fine_cells_of) (by decide +kernel)) (by decide) (fun _ _ _ _ _ => pg_name (i := 3) c_q_fine_cells_of.nd rfl (Or.inl rfl)) (fun _ _ _ _ _ => pts_nil) (fun _ _ _ _ _ => (seq3 K (pe_call (ok_q_ranges_of T (TL := TL)) (hr.mono (by decide)) rfl T.q_ranges_of.g T.q_ranges_of.k T.q_ranges_of.b .nil pass0 (pa_cons (pe_ix (ix3 K) (pv 2) pe_int (fun _ _ => rfl)) pa_nil)))) (fun _ _ _ _ _ => pg_name (i := 4) c_q_fine_cells_of.nd rfl (Or.inl rfl)) (fun _ _ _ _ _ => pts_nil) (fun _ _ _ _ _ => (pe_tup (pa_cons (pv 3) (pa_cons (pv 4) pa_nil))))))))
      , run3 (K := K) (C := T.C) (TL := TL) h fun us n q e hs => ?_⟩
    obtain ⟨bs, x, ps, rfl, hx, h1, h2, hq⟩ := hs
    simp [ro0]
    refine ⟨bs, x, ⟨rfl, rfl⟩, ps, hx, h1, h2, fun xs ys hxs hys lx ly => ?_⟩
    have rx := rng_len xs 1
    have ry := rng_len ys 1
    refine ⟨xs, rfl, lx, lcO_flat niD (fun w => (rngL 1 ys).map fun h => clD (w, h)) 37 (rngL 1 xs) [] n _ (fun w hw acc m Kk hacc hk => ?_) (fun w hw => by simp; omega) (by simp; have : (rngL 1 xs).length * 37 ≤ 37 * 37 := Nat.mul_le_mul_right _ (by omega); omega) ?_⟩
    · simp
      refine ⟨ys, rfl, ly, lcI_pure niD (fun h => clD (w, h)) (fun _ => true) (rngL 1 ys) acc m Kk (fun h _ m Kt Ks k => ?_) (fun h _ => ?_) (by omega) ?_⟩
      · simp at k ⊢
        exact k
      · show (V3.flat (niD w) && (V3.flat (niD h) && true)) = true
        rw [flat_ni, flat_ni]
        rfl
      · rw [List.filter_eq_self.mpr fun _ _ => rfl]
        exact hk
    · have e : ([] : List D) ++ (rngL 1 xs).flatMap (fun w => (rngL 1 ys).map fun h => clD (w, h)) = (cellsL xs ys).map clD := by
        unfold cellsL
        rw [List.nil_append, List.map_flatMap]
        simp only [List.map_map]
        rfl
      rw [e]
      exact hq xs ys hxs hys lx ly
theorem ok_q_fine_cells (T : Txt K mg) : FnOk P w K mg base (L2.CX P w) 6 T.q_fine_cells.a T.q_fine_cells.d ["drawing", "spots"] (toSp K T.C TL true (sp_fines T.x_BadDrawing.C T.x_BadSpots.C)) := by
  refine T.q_fine_cells.F.okX c_q_fine_cells (fun vs H Q E h => toSp_len h fun us n q e hs => ?_) (fun cdv A outer s H vs Q E hr h => ?_)
  · (first | (obtain ⟨rfl, _⟩ := hs; rfl) | (obtain ⟨_, hs⟩ := hs; (first | (obtain ⟨rfl, _⟩ := hs; rfl) | (obtain ⟨_, hs⟩ := hs; (first | (obtain ⟨rfl, _⟩ := hs; rfl) | (obtain ⟨_, hs⟩ := hs; (first | (obtain ⟨rfl, _⟩ := hs; rfl) | (obtain ⟨_, hs⟩ := hs; (first | (obtain ⟨rfl, _⟩ := hs; rfl) | (obtain ⟨_, hs⟩ := hs; (first | (obtain ⟨rfl, _⟩ := hs; rfl) | (obtain ⟨_, hs⟩ := hs; (first | (obtain ⟨rfl, _⟩ := hs; rfl) | (obtain ⟨_, hs⟩ := hs; (first | (obtain ⟨rfl, _⟩ := hs; rfl) | (obtain ⟨_, hs⟩ := hs; (first | (obtain ⟨rfl, _⟩ := hs; rfl) | (obtain ⟨_, hs⟩ := hs; (first | (obtain ⟨rfl, _⟩ := hs; rfl) | (obtain ⟨_, hs⟩ := hs; (first | (obtain ⟨rfl, _⟩ := hs; rfl) | (obtain ⟨_, hs⟩ := hs; (first | (obtain ⟨rfl, _⟩ := hs; rfl) | (obtain ⟨_, hs⟩ := hs; (first | (obtain ⟨rfl, _⟩ := hs; rfl) | (obtain ⟨_, hs⟩ := hs; (first | (obtain ⟨rfl, _⟩ := hs; rfl) | (obtain ⟨_, hs⟩ := hs; (first | (obtain ⟨rfl, _⟩ := hs; rfl) | (obtain ⟨_, hs⟩ := hs; (first | (obtain ⟨rfl, _⟩ := hs; rfl) | (obtain ⟨_, hs⟩ := hs; (obtain ⟨rfl, _⟩ := hs; rfl)))))))))))))))))))))))))))))))))
  · refine ⟨_,
      (pss_cons (ps_expr (pe_call (ok_q_check_grid T (TL := TL)) (hr.mono (by decide)) rfl T.q_check_grid.g T.q_check_grid.k T.q_check_grid.b .nil (passes_call (takes_of rfl rfl rfl rfl) (fun _ _ _ _ h => h)) (pa_cons (pv 0) (pa_cons (pv 1) pa_nil))))
      (pss_one (ps_ret (pe_call (ok_q_fine_cells_of T (TL := TL)) (hr.mono (by decide)) rfl T.q_fine_cells_of.g T.q_fine_cells_of.k T.q_fine_cells_of.b .nil pass0 (pa_cons (pv 0) (pa_cons (pv 1) pa_nil))))))
      , run3 (K := K) (C := T.C) (TL := TL) h fun us n q e hs => ?_⟩
    obtain ⟨u, x, rfl, hu, hw, hl, h1, h2, h3⟩ := hs
    simp [ro0, -asL]
    refine ⟨u, x, ⟨rfl, rfl⟩, hu, hl, h1, h2, fun z1 z2 => ?_⟩
    obtain ⟨bs, rfl⟩ := hw z1
    obtain ⟨ps, hx⟩ := sl_ps z2
    obtain ⟨b1, b2, h4⟩ := h3 bs ps rfl hx
    exact ⟨bs, x, ⟨rfl, rfl⟩, ps, hx, b1, b2, h4⟩
theorem ok_q_fine_cell (T : Txt K mg) : FnOk P w K mg base (L2.CX P w) 7 T.q_fine_cell.a T.q_fine_cell.d ["drawing", "spots", "body"] (toSp K T.C TL false (sp_fcell T.x_BadDrawing.C T.x_BadSpots.C T.x_BadBody.C)) := by
  refine T.q_fine_cell.F.okX c_q_fine_cell (fun vs H Q E h => toSp_len h fun us n q e hs => ?_) (fun cdv A outer s H vs Q E hr h => ?_)
  · (first | (obtain ⟨rfl, _⟩ := hs; rfl) | (obtain ⟨_, hs⟩ := hs; (first | (obtain ⟨rfl, _⟩ := hs; rfl) | (obtain ⟨_, hs⟩ := hs; (first | (obtain ⟨rfl, _⟩ := hs; rfl) | (obtain ⟨_, hs⟩ := hs; (first | (obtain ⟨rfl, _⟩ := hs; rfl) | (obtain ⟨_, hs⟩ := hs; (first | (obtain ⟨rfl, _⟩ := hs; rfl) | (obtain ⟨_, hs⟩ := hs; (first | (obtain ⟨rfl, _⟩ := hs; rfl) | (obtain ⟨_, hs⟩ := hs; (first | (obtain ⟨rfl, _⟩ := hs; rfl) | (obtain ⟨_, hs⟩ := hs; (first | (obtain ⟨rfl, _⟩ := hs; rfl) | (obtain ⟨_, hs⟩ := hs; (first | (obtain ⟨rfl, _⟩ := hs; rfl) | (obtain ⟨_, hs⟩ := hs; (first | (obtain ⟨rfl, _⟩ := hs; rfl) | (obtain ⟨_, hs⟩ := hs; (first | (obtain ⟨rfl, _⟩ := hs; rfl) | (obtain ⟨_, hs⟩ := hs; (first | (obtain ⟨rfl, _⟩ := hs; rfl) | (obtain ⟨_, hs⟩ := hs; (first | (obtain ⟨rfl, _⟩ := hs; rfl) | (obtain ⟨_, hs⟩ := hs; (first | (obtain ⟨rfl, _⟩ := hs; rfl) | (obtain ⟨_, hs⟩ := hs; (first | (obtain ⟨rfl, _⟩ := hs; rfl) | (obtain ⟨_, hs⟩ := hs; (first | (obtain ⟨rfl, _⟩ := hs; rfl) | (obtain ⟨_, hs⟩ := hs; (obtain ⟨rfl, _⟩ := hs; rfl)))))))))))))))))))))))))))))))))
  · refine ⟨_,
      (pss_cons (ps_expr (pe_call (ok_q_check_cells T (TL := TL)) (hr.mono (by decide)) rfl T.q_check_cells.g T.q_check_cells.k T.q_check_cells.b .nil (passes_call (takes_of rfl rfl rfl rfl) (fun _ _ _ _ h => h)) (pa_cons (pv 0) (pa_cons (pv 1) (pa_cons (pv 2) pa_nil)))))
      (pss_cons (ps_set (i := 3) c_q_fine_cell.nd rfl (Or.inl rfl) (pe_call (ok_q_grid_of T (TL := TL)) (hr.mono (by decide)) rfl T.q_grid_of.g T.q_grid_of.k T.q_grid_of.b .nil pass0 (pa_cons (pv 0) (pa_cons (pv 1) pa_nil))))
      (pss_cons (ps_setLc (i := 4) (own := [("span", 6)]) (g := gName 6) (by rfl) c_q_fine_cell.nd rfl rfl (sw_true rfl rfl rfl (by decide +kernel)) (seq3 K (pe_call (ok_q_ranges_of T (TL := TL)) (hr.mono (by decide)) rfl T.q_ranges_of.g T.q_ranges_of.k T.q_ranges_of.b .nil pass0 (pa_cons (pe_ix (ix3 K) (pv 3) pe_int (fun _ _ => rfl)) pa_nil))) (blkOk_by (own := [("span", 6)]) (N := N_q_fine_cell) (sc := defScope S_q_fine_cell) (by decide +kernel)) (fun _ _ _ _ _ => pg_name (i := 6) c_q_fine_cell.nd rfl (Or.inl rfl)) (fun _ _ _ _ _ => (pts_one (pt_val (pe_call (ok_q_has_size T (TL := TL)) (hr.mono (by decide)) rfl T.q_has_size.g T.q_has_size.k T.q_has_size.b .nil pass0 (pa_cons (pv 6) (pa_cons (pe_ix (ix3 K) (pv 2) pe_int (fun _ _ => rfl)) pa_nil)))))) (fun _ _ _ _ _ => (pv 6)))
      (pss_cons (ps_setLc (i := 5) (own := [("span", 6)]) (g := gName 6) (by rfl) c_q_fine_cell.nd rfl rfl (sw_true rfl rfl rfl (by decide +kernel)) (seq3 K (pe_call (ok_q_ranges_of T (TL := TL)) (hr.mono (by decide)) rfl T.q_ranges_of.g T.q_ranges_of.k T.q_ranges_of.b .nil pass0 (pa_cons (pe_ix (ix3 K) (pv 3) pe_int (fun _ _ => rfl)) pa_nil))) (blkOk_by (own := [("span", 6)]) (N := N_q_fine_cell) (sc := defScope S_q_fine_cell) (by decide +kernel)) (fun _ _ _ _ _ => pg_name (i := 6) c_q_fine_cell.nd rfl (Or.inl rfl)) (fun _ _ _ _ _ => (pts_one (pt_val (pe_call (ok_q_has_size T (TL := TL)) (hr.mono (by decide)) rfl T.q_has_size.g T.q_has_size.k T.q_has_size.b .nil pass0 (pa_cons (pv 6) (pa_cons (pe_ix (ix3 K) (pv 2) pe_int (fun _ _ => rfl)) pa_nil)))))) (fun _ _ _ _ _ => (pv 6)))
      (pss_one (ps_ret (pe_tup (pa_cons (pe_ix (ix3 K) (pv 4) pe_int (fun _ _ => rfl)) (pa_cons (pe_ix (ix3 K) (pv 5) pe_int (fun _ _ => rfl)) pa_nil)))))))))
      , run3 (K := K) (C := T.C) (TL := TL) h fun us n q e hs => ?_⟩
    obtain ⟨u, x, y, rfl, hu, hw, hl, hb, h1, h2, h3, h4⟩ := hs
    simp [ro0, -asL]
    refine ⟨u, x, y, ⟨rfl, rfl, rfl⟩, hu, hl, hb, h1, h2, h3, fun z1 z2 z3 => ?_⟩
    obtain ⟨bs, rfl⟩ := hw z1
    obtain ⟨ps, hx⟩ := sl_ps z2
    obtain ⟨a, b, rfl, ha, hb⟩ := bd_of z3
    obtain ⟨b1, b2, h5⟩ := h4 bs ps a b rfl hx rfl ha hb
    refine ⟨bs, x, ⟨rfl, rfl⟩, ps, hx, b1, b2, fun xs ys hxs hys lx ly => ?_⟩
    have rx := rng_len xs 1
    have ry := rng_len ys 1
    obtain ⟨p, hp⟩ := in_rg xs ha
    obtain ⟨o, ho⟩ := in_rg ys hb
    refine ⟨xs, rfl, lx, few (by omega), lcL_pure niD niD (fun p => hasR p a) (rngL 1 xs) _ _ (fun p _ m Kt Ks k => ?_) ?_⟩
    · simp
      refine ⟨p.1, p.2, a, ⟨⟨rfl, rfl⟩, rfl⟩, ?_⟩
      exact k
    refine ⟨ys, rfl, ly, few (by omega), lcL_pure niD niD (fun p => hasR p b) (rngL 1 ys) _ _ (fun p _ m Kt Ks k => ?_) ?_⟩
    · simp
      refine ⟨p.1, p.2, b, ⟨⟨rfl, rfl⟩, rfl⟩, ?_⟩
      exact k
    have g : ∀ {xs : List Int} {s : Int} {p : Int × Option Int}, inRg xs s p → (List.map niD (List.filter (fun p => hasR p s) (rngL 1 xs)))[0]? = some (niD p) := fun {xs s p} h => by
      rw [List.getElem?_map, ← List.head?_eq_getElem?]
      rw [show (List.filter (fun p => hasR p s) (rngL 1 xs)).head? = some p from h]
      rfl
    rw [g hp, g ho]
    exact h5 xs ys p o hxs hys hp ho
end
end G21
set_option Elab.async false
set_option linter.all false
set_option maxRecDepth 100000
set_option maxHeartbeats 4000000
set_option synthInstance.maxSize 100000
set_option synthInstance.maxHeartbeats 0
namespace G21
open PySem PySem.Spec PyProof.Rows L2 V3
abbrev Nm : Type := Str × Int
abbrev nmD (p : Nm) : D := .tuple [.str p.1, .int p.2]
def onD : Option Nm → D
  | none => .none
  | some p => nmD p
def ax (p : Int × Int) (y : Int) : Int := if y = 0 then p.1 else p.2
def hiB (b : Bk) (y : Int) : Int := if y = 0 then b.r else b.u
def loB (b : Bk) (y : Int) : Int := if y = 0 then b.l else b.d
def wF (y : Int) : Str := if y = 0 then "right" else "high"
def wN (y : Int) : Str := if y = 0 then "left" else "low"
def wsN (y : Int) : List Str := ["spot", wF y, wN y]
def atP (ps : List (Int × Int)) (k : Nat) : Int × Int := ps.getD k (0, 0)
def bkN (bs : List Bk) (k : Nat) : Bk := bs.getD k ⟨0, 0, 0, 0⟩
def part (w : Str) (f : Nat → Int) (n : Nat) : List (Nm × Int) := (List.range n).map fun k : Nat => ((w, ((k : Nat) : Int)), f k)
def nfL (bs : List Bk) (ps : List (Int × Int)) (a : Int × Int) (y : Int) : List (Nm × Int) := part "spot" (fun k => ax (atP ps k) y) ps.length ++ part (wF y) (fun k => hiB (bkN bs k) y) bs.length ++ part (wN y) (fun k => loB (bkN bs k) y - ax a y) bs.length
abbrev nfD (p : Nm × Int) : D := .tuple [nmD p.1, .int p.2]
def fstN (bs : List Bk) (ps : List (Int × Int)) (a s : Int × Int) (y : Int) : Option Nm := ((nfL bs ps a y).filter fun e => decide (e.2 = ax s y)).head?.map fun e => e.1
def nmsD : Option Nm → Option Nm → D
  | some p, some o => .tuple [nmD p, nmD o]
  | _, _ => .none
@[simp ↓] def sp_nfor : VSp := fun us n q _ => ∃ (bs : List Bk) (x : D) (ps : List (Int × Int)) (a : Int × Int) (y : Int), us = [.dw (bs.map bkD), .d x, .d (pD a), .d (.int y)] ∧ (y = 0 ∨ y = 1) ∧ asL x = some (ps.map pD) ∧ bs.length ≤ 3 ∧ ps.length ≤ 3 ∧ q (.d (.list ((nfL bs ps a y).map nfD))) n
@[simp ↓] def sp_fname : VSp := fun us n q _ => ∃ (bs : List Bk) (x : D) (ps : List (Int × Int)) (a s : Int × Int) (y : Int), us = [.dw (bs.map bkD), .d x, .d (pD a), .d (pD s), .d (.int y)] ∧ (y = 0 ∨ y = 1) ∧ asL x = some (ps.map pD) ∧ bs.length ≤ 3 ∧ ps.length ≤ 3 ∧ q (.d (onD (fstN bs ps a s y))) n
@[simp ↓] def sp_fnames : VSp := fun us n q _ => ∃ (bs : List Bk) (x : D) (ps : List (Int × Int)) (a s : Int × Int), us = [.dw (bs.map bkD), .d x, .d (pD a), .d (pD s)] ∧ asL x = some (ps.map pD) ∧ bs.length ≤ 3 ∧ ps.length ≤ 3 ∧ q (.d (nmsD (fstN bs ps a s 0) (fstN bs ps a s 1))) n
@[simp ↓] def sp_number : VSp := fun us n q _ => ∃ (bs : List Bk) (x : D) (ps : List (Int × Int)) (a : Int × Int) (p : Nm) (y v : Int), us = [.dw (bs.map bkD), .d x, .d (pD a), .d (nmD p), .d (.int y)] ∧ (y = 0 ∨ y = 1) ∧ asL x = some (ps.map pD) ∧ bs.length ≤ 3 ∧ ps.length ≤ 3 ∧ PyData.strOk p.1 = true ∧ ((nfL bs ps a y).filter fun e => decide (e.1 = p)).head? = some (p, v) ∧ q (.d (.int v)) n
theorem numD_rng (ds : List D) : V3.numD ds = (List.range ds.length).map fun k => PyData.tuple [.int (k : Nat), ds.getD k .none] := by
  apply List.ext_getElem
  · simp [V3.numD_len]
  · intro i h1 h2
    have h3 : i < ds.length := by simpa using h2
    simp [V3.numD, List.getD_eq_getElem?_getD, List.getElem?_eq_getElem h3]
theorem getD_ps {ps : List (Int × Int)} {k : Nat} (h : k < ps.length) : (ps.map pD).getD k .none = pD (atP ps k) := by
  unfold atP
  rw [List.getD_eq_getElem?_getD, List.getD_eq_getElem?_getD, List.getElem?_map, List.getElem?_eq_getElem h]
  rfl
theorem getD_bs {bs : List Bk} {k : Nat} (h : k < bs.length) : (bs.map bkD).getD k .none = bkD (bkN bs k) := by
  unfold bkN
  rw [List.getD_eq_getElem?_getD, List.getD_eq_getElem?_getD, List.getElem?_map, List.getElem?_eq_getElem h]
  rfl
theorem part_len (w : Str) (f : Nat → Int) (n : Nat) : (part w f n).length = n := by
  simp [part]
theorem nf_len (bs : List Bk) (ps : List (Int × Int)) (a : Int × Int) (y : Int) : (nfL bs ps a y).length = ps.length + bs.length + bs.length := by
  simp [nfL, part_len]
  omega
theorem flat_nf (es : List (Nm × Int)) : V3.flatAll (es.map nfD) = true := by
  induction es with
  | nil => rfl
  | cons e es ih => exact ih
theorem eqv_nm (p o : Nm) : PyData.eqv (nmD p) (nmD o) = decide (p = o) := by
  obtain ⟨a, b⟩ := p
  obtain ⟨c, d⟩ := o
  simp [PyData.eqv, PyData.eqvAll]
  rw [Bool.eq_iff_iff]
  simp
theorem shaped_nm {p : Nm} (h : PyData.strOk p.1 = true) : SeqAt.shaped (nmD p) = true := by
  simp [h, SeqAt.shaped, PyData.canLay0, PyData.canLayAll0, PyData.depth, PyData.depthAll]
theorem cut_1 (x : D) (xs : List D) : V3.cutD (x :: xs) (some 1) none = xs := by
  simp [V3.cutD, HT.sIx]
theorem nf_ok {bs : List Bk} {ps : List (Int × Int)} {a : Int × Int} {y : Int} {e : Nm × Int} (h : e ∈ nfL bs ps a y) : PyData.strOk e.1.1 = true := by
  have w : ∀ {w : Str} {f : Nat → Int} {n : Nat}, e ∈ part w f n → e.1.1 = w := fun {w f n} m => by
    obtain ⟨k, _, rfl⟩ := List.mem_map.mp m
    rfl
  have o1 : PyData.strOk (wF y) = true := by
    unfold wF
    split <;> decide +kernel
  have o2 : PyData.strOk (wN y) = true := by
    unfold wN
    split <;> decide +kernel
  unfold nfL at h
  rcases List.mem_append.mp h with h | h
  · rcases List.mem_append.mp h with h | h
    · rw [w h]
      decide +kernel
    · rw [w h]
      exact o1
  · rw [w h]
    exact o2
theorem fst_ok {bs : List Bk} {ps : List (Int × Int)} {a s : Int × Int} {y : Int} : ∀ p, fstN bs ps a s y = some p → PyData.strOk p.1 = true := fun p h => by
  unfold fstN at h
  cases hf : (nfL bs ps a y).filter fun e => decide (e.2 = ax s y) with
  | nil =>
    rw [hf] at h
    cases h
  | cons e es =>
    rw [hf] at h
    cases h
    have m : e ∈ (nfL bs ps a y).filter fun e => decide (e.2 = ax s y) := by
      rw [hf]
      exact List.mem_cons_self
    exact nf_ok (List.mem_filter.mp m).1
/-- what is laid out, two levels deep at most -/
def lay2 (d : D) : Prop := d.canLay0 = true ∧ d.depth ≤ 1
theorem on_lay {o : Option Nm} (h : ∀ p, o = some p → PyData.strOk p.1 = true) : lay2 (onD o) := by
  cases o with
  | none => exact ⟨rfl, by simp [onD, PyData.depth]⟩
  | some p =>
    have := h p rfl
    exact ⟨by simp [onD, PyData.canLay0, PyData.canLayAll0, this], by simp [onD, PyData.depth, PyData.depthAll]⟩
theorem shaped_two {a b : D} (h : lay2 a) (g : lay2 b) : SeqAt.shaped (.tuple [a, b]) = true := by
  obtain ⟨h1, h2⟩ := h
  obtain ⟨g1, g2⟩ := g
  have d : PyData.depth (.tuple [a, b]) ≤ 64 := by
    simp only [PyData.depth, PyData.depthAll]
    omega
  simp [SeqAt.shaped, PyData.canLay0, PyData.canLayAll0, h1, g1, d]
instance {K : PySem.W.Frag} {mg : Str → Option Value} (T : Txt K mg) : NamesC K T.c_X_NAMES ["spot", "right", "left"] := ⟨T.s_X_NAMES⟩
instance {K : PySem.W.Frag} {mg : Str → Option Value} (T : Txt K mg) : NamesC K T.c_Y_NAMES ["spot", "high", "low"] := ⟨T.s_Y_NAMES⟩
section
variable {P : Program} {w : World} {K : PySem.W.Frag} {mg : Str → Option Value} {base : Heap} {TL : List (Addr × Str)}
theorem ok_q_names_for (T : Txt K mg) : FnOk P w K mg base CX0 1 T.q_names_for.a T.q_names_for.d ["drawing", "spots", "body", "axis"] (toSp K T.C TL true sp_nfor) := by
  refine T.q_names_for.F.ok c_q_names_for (fun vs H Q E h => toSp_len h fun us n q e hs => ?_) (fun cdv A outer s H vs Q E hr h => ?_)
  · (first | (obtain ⟨rfl, _⟩ := hs; rfl) | (obtain ⟨_, hs⟩ := hs; (first | (obtain ⟨rfl, _⟩ := hs; rfl) | (obtain ⟨_, hs⟩ := hs; (first | (obtain ⟨rfl, _⟩ := hs; rfl) | (obtain ⟨_, hs⟩ := hs; (first | (obtain ⟨rfl, _⟩ := hs; rfl) | (obtain ⟨_, hs⟩ := hs; (first | (obtain ⟨rfl, _⟩ := hs; rfl) | (obtain ⟨_, hs⟩ := hs; (first | (obtain ⟨rfl, _⟩ := hs; rfl) | (obtain ⟨_, hs⟩ := hs; (first | (obtain ⟨rfl, _⟩ := hs; rfl) | (obtain ⟨_, hs⟩ := hs; (first | (obtain ⟨rfl, _⟩ := hs; rfl) | (obtain ⟨_, hs⟩ := hs; (first | (obtain ⟨rfl, _⟩ := hs; rfl) | (obtain ⟨_, hs⟩ := hs; (first | (obtain ⟨rfl, _⟩ := hs; rfl) | (obtain ⟨_, hs⟩ := hs; (first | (obtain ⟨rfl, _⟩ := hs; rfl) | (obtain ⟨_, hs⟩ := hs; (first | (obtain ⟨rfl, _⟩ := hs; rfl) | (obtain ⟨_, hs⟩ := hs; (first | (obtain ⟨rfl, _⟩ := hs; rfl) | (obtain ⟨_, hs⟩ := hs; (first | (obtain ⟨rfl, _⟩ := hs; rfl) | (obtain ⟨_, hs⟩ := hs; (first | (obtain ⟨rfl, _⟩ := hs; rfl) | (obtain ⟨_, hs⟩ := hs; (first | (obtain ⟨rfl, _⟩ := hs; rfl) | (obtain ⟨_, hs⟩ := hs; (obtain ⟨rfl, _⟩ := hs; rfl)))))))))))))))))))))))))))))))))
  · refine ⟨_,
      (pss_cons (ps_asg (pe_slice (sl3 K) (pe_ifExp (pt_cmpR (eq3 K hr.units) (pv 3) pe_int (nomark _)) (pe_glob (v := .ref T.c_X_NAMES) (u := .ref T.c_X_NAMES) rfl T.g_X_NAMES rfl) (pe_glob (v := .ref T.c_Y_NAMES) (u := .ref T.c_Y_NAMES) rfl T.g_Y_NAMES rfl)) (po_some pe_int) po_none) (tupG3 K (n := 2) rfl (pgs_cons (pg_name (i := 4) c_q_names_for.nd rfl (Or.inr rfl) (hf := Or.inl rfl)) (pgs_cons (pg_name (i := 5) c_q_names_for.nd rfl (Or.inr rfl) (hf := Or.inl rfl)) pgs_nil))))
      (pss_cons (ps_set (i := 6) c_q_names_for.nd rfl (Or.inl rfl) (fld3 K (pv 0) rfl))
      (pss_cons (ps_setLc (i := 7) (own := [("k", 8), ("spot", 9)]) (g := gTup K 2 (gCons (gName 8) (gCons (gName 9) gNil))) (by rfl) c_q_names_for.nd rfl rfl (sw_true rfl rfl rfl (by decide +kernel)) (enum3 K (by rfl) T.z_enumerate (pa_cons (pv 1) pa_nil)) (blkOk_by (own := [("k", 8), ("spot", 9)]) (N := N_q_names_for) (sc := defScope S_q_names_for) (by decide +kernel)) (fun _ _ _ _ _ => tupG3 K (n := 2) rfl (pgs_cons (pg_name (i := 8) c_q_names_for.nd rfl (Or.inl rfl) (hf := Or.inr rfl)) (pgs_cons (pg_name (i := 9) c_q_names_for.nd rfl (Or.inl rfl) (hf := Or.inr rfl)) pgs_nil))) (fun _ _ _ _ _ => pts_nil) (fun _ _ _ _ _ => (pe_tup (pa_cons (pe_tup (pa_cons pe_str (pa_cons (pv 8) pa_nil))) (pa_cons (pe_ix (ix3 K) (pv 9) (pv 3) (fun _ _ => rfl)) pa_nil)))))
      (pss_cons (ps_expr (bm3 K PySem.F.plainAttrs_list PySem.F.slot_list_extend PySem.F.type_list_extend mt_extend (pv 7) (pa_cons (pe_lc (own := [("i", 10), ("block", 11)]) (g := gTup K 2 (gCons (gName 10) (gCons (gName 11) gNil))) (by rfl) c_q_names_for.nd (enum3 K (by rfl) T.z_enumerate (pa_cons (pv 6) pa_nil)) (blkOk_by (own := [("i", 10), ("block", 11)]) (N := N_q_names_for) (sc := defScope S_q_names_for) (by decide +kernel)) (fun _ _ _ _ _ => tupG3 K (n := 2) rfl (pgs_cons (pg_name (i := 10) c_q_names_for.nd rfl (Or.inl rfl) (hf := Or.inr rfl)) (pgs_cons (pg_name (i := 11) c_q_names_for.nd rfl (Or.inl rfl) (hf := Or.inr rfl)) pgs_nil))) (fun _ _ _ _ _ => pts_nil) (fun _ _ _ _ _ => (pe_tup (pa_cons (pe_tup (pa_cons (pv 4) (pa_cons (pv 10) pa_nil))) (pa_cons (pe_ix (ix3 K) (pv 11) (pe_op (add3 K) (pv 3) pe_int) (fun _ _ => rfl)) pa_nil))))) pa_nil)))
      (pss_cons (ps_expr (bm3 K PySem.F.plainAttrs_list PySem.F.slot_list_extend PySem.F.type_list_extend mt_extend (pv 7) (pa_cons (pe_lc (own := [("i", 10), ("block", 11)]) (g := gTup K 2 (gCons (gName 10) (gCons (gName 11) gNil))) (by rfl) c_q_names_for.nd (enum3 K (by rfl) T.z_enumerate (pa_cons (pv 6) pa_nil)) (blkOk_by (own := [("i", 10), ("block", 11)]) (N := N_q_names_for) (sc := defScope S_q_names_for) (by decide +kernel)) (fun _ _ _ _ _ => tupG3 K (n := 2) rfl (pgs_cons (pg_name (i := 10) c_q_names_for.nd rfl (Or.inl rfl) (hf := Or.inr rfl)) (pgs_cons (pg_name (i := 11) c_q_names_for.nd rfl (Or.inl rfl) (hf := Or.inr rfl)) pgs_nil))) (fun _ _ _ _ _ => pts_nil) (fun _ _ _ _ _ => (pe_tup (pa_cons (pe_tup (pa_cons (pv 5) (pa_cons (pv 10) pa_nil))) (pa_cons (pe_op op_sub (pe_ix (ix3 K) (pv 11) (pv 3) (fun _ _ => rfl)) (pe_ix (ix3 K) (pv 2) (pv 3) (fun _ _ => rfl))) pa_nil))))) pa_nil)))
      (pss_one (ps_ret (pv 7))))))))
      , run3 (K := K) (C := T.C) (TL := TL) h fun us n q e hs => ?_⟩
    obtain ⟨bs, x, ps, a, y, rfl, hy, hx, h1, h2, hq⟩ := hs
    have sz1 : ∀ k : Nat, k ≤ 1000 → k ≤ sizeLine := fun k hk => Nat.le_of_lt (few (by omega))
    have np : V3.numD (ps.map pD) = (List.range ps.length).map fun k => PyData.tuple [.int (k : Nat), (ps.map pD).getD k .none] := by
      rw [numD_rng, List.length_map]
    have nb : V3.numD (bs.map bkD) = (List.range bs.length).map fun k => PyData.tuple [.int (k : Nat), (bs.map bkD).getD k .none] := by
      rw [numD_rng, List.length_map]
    have pe : ∀ (w : Str) (f : Nat → Int) (n : Nat), ((List.range n).map fun k => nfD ((w, ((k : Nat) : Int)), f k)) = (part w f n).map nfD := fun w f n => by
      unfold part
      rw [List.map_map]
      rfl
    rcases hy with rfl | rfl
    · cases x <;> cases hx <;> simp [ro0, cut_1, flat_bks, -List.map_map]
      all_goals
        rw [np, nb]
        refine ⟨few (by simp; omega), lcL_all (fun k : Nat => PyData.tuple [.int (k : Nat), (ps.map pD).getD k .none]) (fun k => nfD (("spot", ((k : Nat) : Int)), ax (atP ps k) 0)) (List.range ps.length) _ _ (fun k hk m Kt Ks h => ?_) ?_⟩
        · rw [getD_ps (List.mem_range.mp hk)]
          simp
          exact h
        rw [pe]
        refine ⟨few (by simp; omega), lcL_all (fun k : Nat => PyData.tuple [.int (k : Nat), (bs.map bkD).getD k .none]) (fun k => nfD ((wF 0, ((k : Nat) : Int)), hiB (bkN bs k) 0)) (List.range bs.length) _ _ (fun k hk m Kt Ks h => ?_) ?_⟩
        · rw [getD_bs (List.mem_range.mp hk)]
          simp
          exact h
        rw [pe]
        refine ⟨sz1 _ (by simp [part_len]; omega), flat_nf _, few (by simp; omega), lcL_all (fun k : Nat => PyData.tuple [.int (k : Nat), (bs.map bkD).getD k .none]) (fun k => nfD ((wN 0, ((k : Nat) : Int)), loB (bkN bs k) 0 - ax a 0)) (List.range bs.length) _ _ (fun k hk m Kt Ks h => ?_) ?_⟩
        · rw [getD_bs (List.mem_range.mp hk)]
          simp
          exact h
        rw [pe]
        refine ⟨sz1 _ (by simp [part_len]; omega), flat_nf _, ?_⟩
        unfold nfL at hq
        rw [List.map_append, List.map_append, List.append_assoc] at hq
        exact hq
    · cases x <;> cases hx <;> simp [ro0, cut_1, flat_bks, -List.map_map]
      all_goals
        rw [np, nb]
        refine ⟨few (by simp; omega), lcL_all (fun k : Nat => PyData.tuple [.int (k : Nat), (ps.map pD).getD k .none]) (fun k => nfD (("spot", ((k : Nat) : Int)), ax (atP ps k) 1)) (List.range ps.length) _ _ (fun k hk m Kt Ks h => ?_) ?_⟩
        · rw [getD_ps (List.mem_range.mp hk)]
          simp
          exact h
        rw [pe]
        refine ⟨few (by simp; omega), lcL_all (fun k : Nat => PyData.tuple [.int (k : Nat), (bs.map bkD).getD k .none]) (fun k => nfD ((wF 1, ((k : Nat) : Int)), hiB (bkN bs k) 1)) (List.range bs.length) _ _ (fun k hk m Kt Ks h => ?_) ?_⟩
        · rw [getD_bs (List.mem_range.mp hk)]
          simp
          exact h
        rw [pe]
        refine ⟨sz1 _ (by simp [part_len]; omega), flat_nf _, few (by simp; omega), lcL_all (fun k : Nat => PyData.tuple [.int (k : Nat), (bs.map bkD).getD k .none]) (fun k => nfD ((wN 1, ((k : Nat) : Int)), loB (bkN bs k) 1 - ax a 1)) (List.range bs.length) _ _ (fun k hk m Kt Ks h => ?_) ?_⟩
        · rw [getD_bs (List.mem_range.mp hk)]
          simp
          exact h
        rw [pe]
        refine ⟨sz1 _ (by simp [part_len]; omega), flat_nf _, ?_⟩
        unfold nfL at hq
        rw [List.map_append, List.map_append, List.append_assoc] at hq
        exact hq
theorem ok_q_first_name (T : Txt K mg) : FnOk P w K mg base CX0 2 T.q_first_name.a T.q_first_name.d ["drawing", "spots", "body", "spot", "axis"] (toSp K T.C TL false sp_fname) := by
  refine T.q_first_name.F.ok c_q_first_name (fun vs H Q E h => toSp_len h fun us n q e hs => ?_) (fun cdv A outer s H vs Q E hr h => ?_)
  · (first | (obtain ⟨rfl, _⟩ := hs; rfl) | (obtain ⟨_, hs⟩ := hs; (first | (obtain ⟨rfl, _⟩ := hs; rfl) | (obtain ⟨_, hs⟩ := hs; (first | (obtain ⟨rfl, _⟩ := hs; rfl) | (obtain ⟨_, hs⟩ := hs; (first | (obtain ⟨rfl, _⟩ := hs; rfl) | (obtain ⟨_, hs⟩ := hs; (first | (obtain ⟨rfl, _⟩ := hs; rfl) | (obtain ⟨_, hs⟩ := hs; (first | (obtain ⟨rfl, _⟩ := hs; rfl) | (obtain ⟨_, hs⟩ := hs; (first | (obtain ⟨rfl, _⟩ := hs; rfl) | (obtain ⟨_, hs⟩ := hs; (first | (obtain ⟨rfl, _⟩ := hs; rfl) | (obtain ⟨_, hs⟩ := hs; (first | (obtain ⟨rfl, _⟩ := hs; rfl) | (obtain ⟨_, hs⟩ := hs; (first | (obtain ⟨rfl, _⟩ := hs; rfl) | (obtain ⟨_, hs⟩ := hs; (first | (obtain ⟨rfl, _⟩ := hs; rfl) | (obtain ⟨_, hs⟩ := hs; (first | (obtain ⟨rfl, _⟩ := hs; rfl) | (obtain ⟨_, hs⟩ := hs; (first | (obtain ⟨rfl, _⟩ := hs; rfl) | (obtain ⟨_, hs⟩ := hs; (first | (obtain ⟨rfl, _⟩ := hs; rfl) | (obtain ⟨_, hs⟩ := hs; (first | (obtain ⟨rfl, _⟩ := hs; rfl) | (obtain ⟨_, hs⟩ := hs; (first | (obtain ⟨rfl, _⟩ := hs; rfl) | (obtain ⟨_, hs⟩ := hs; (obtain ⟨rfl, _⟩ := hs; rfl)))))))))))))))))))))))))))))))))
  · refine ⟨_,
      (pss_cons (ps_setLc (i := 5) (own := [("name", 6), ("number", 7)]) (g := gTup K 2 (gCons (gName 6) (gCons (gName 7) gNil))) (by rfl) c_q_first_name.nd rfl rfl (sw_true rfl rfl rfl (by decide +kernel)) (seq3 K (pe_call (ok_q_names_for T (TL := TL)) (hr.mono (by decide)) rfl T.q_names_for.g T.q_names_for.k T.q_names_for.b .nil pass0 (pa_cons (pv 0) (pa_cons (pv 1) (pa_cons (pv 2) (pa_cons (pv 4) pa_nil)))))) (blkOk_by (own := [("name", 6), ("number", 7)]) (N := N_q_first_name) (sc := defScope S_q_first_name) (by decide +kernel)) (fun _ _ _ _ _ => tupG3 K (n := 2) rfl (pgs_cons (pg_name (i := 6) c_q_first_name.nd rfl (Or.inl rfl) (hf := Or.inr rfl)) (pgs_cons (pg_name (i := 7) c_q_first_name.nd rfl (Or.inl rfl) (hf := Or.inr rfl)) pgs_nil))) (fun _ _ _ _ _ => (pts_one (pt_cmpR (eq3 K hr.units) (pv 7) (pe_ix (ix3 K) (pv 3) (pv 4) (fun _ _ => rfl)) (nomark _)))) (fun _ _ _ _ _ => (pv 6)))
      (pss_one (ps_ret (pe_ifExp (tru3 K (pv 5) (fun _ => rfl)) (pe_ix (ix3 K) (pv 5) pe_int (fun _ _ => rfl)) pe_non))))
      , run3 (K := K) (C := T.C) (TL := TL) h fun us n q e hs => ?_⟩
    obtain ⟨bs, x, ps, a, s, y, rfl, hy, hx, h1, h2, hq⟩ := hs
    have hl := nf_len bs ps a y
    simp [ro0, -asL]
    refine ⟨bs, x, ps, a.1, a.2, y, ⟨rfl, rfl, ⟨rfl, rfl⟩, rfl⟩, hy, hx, h1, h2, few (by show (nfL bs ps a y).length ≤ _; omega), lcL_pure nfD (fun e => nmD e.1) (fun e => decide (e.2 = ax s y)) (nfL bs ps a y) _ _ (fun e he m Kt Ks k => ?_) ?_⟩
    · rcases hy with rfl | rfl <;> simp [ax] at k ⊢ <;> exact k
    · unfold fstN at hq
      cases hf : (nfL bs ps a y).filter fun e => decide (e.2 = ax s y) with
      | nil =>
        rw [hf] at hq
        simpa [onD] using hq
      | cons e es =>
        rw [hf] at hq
        simpa [onD] using hq
theorem ok_q_first_names (T : Txt K mg) : FnOk P w K mg base CX0 3 T.q_first_names.a T.q_first_names.d ["drawing", "spots", "body", "spot"] (toSp K T.C TL false sp_fnames) := by
  refine T.q_first_names.F.ok c_q_first_names (fun vs H Q E h => toSp_len h fun us n q e hs => ?_) (fun cdv A outer s H vs Q E hr h => ?_)
  · (first | (obtain ⟨rfl, _⟩ := hs; rfl) | (obtain ⟨_, hs⟩ := hs; (first | (obtain ⟨rfl, _⟩ := hs; rfl) | (obtain ⟨_, hs⟩ := hs; (first | (obtain ⟨rfl, _⟩ := hs; rfl) | (obtain ⟨_, hs⟩ := hs; (first | (obtain ⟨rfl, _⟩ := hs; rfl) | (obtain ⟨_, hs⟩ := hs; (first | (obtain ⟨rfl, _⟩ := hs; rfl) | (obtain ⟨_, hs⟩ := hs; (first | (obtain ⟨rfl, _⟩ := hs; rfl) | (obtain ⟨_, hs⟩ := hs; (first | (obtain ⟨rfl, _⟩ := hs; rfl) | (obtain ⟨_, hs⟩ := hs; (first | (obtain ⟨rfl, _⟩ := hs; rfl) | (obtain ⟨_, hs⟩ := hs; (first | (obtain ⟨rfl, _⟩ := hs; rfl) | (obtain ⟨_, hs⟩ := hs; (first | (obtain ⟨rfl, _⟩ := hs; rfl) | (obtain ⟨_, hs⟩ := hs; (first | (obtain ⟨rfl, _⟩ := hs; rfl) | (obtain ⟨_, hs⟩ := hs; (first | (obtain ⟨rfl, _⟩ := hs; rfl) | (obtain ⟨_, hs⟩ := hs; (first | (obtain ⟨rfl, _⟩ := hs; rfl) | (obtain ⟨_, hs⟩ := hs; (first | (obtain ⟨rfl, _⟩ := hs; rfl) | (obtain ⟨_, hs⟩ := hs; (first | (obtain ⟨rfl, _⟩ := hs; rfl) | (obtain ⟨_, hs⟩ := hs; (first | (obtain ⟨rfl, _⟩ := hs; rfl) | (obtain ⟨_, hs⟩ := hs; (obtain ⟨rfl, _⟩ := hs; rfl)))))))))))))))))))))))))))))))))
  · refine ⟨_,
      (pss_cons (ps_set (i := 4) c_q_first_names.nd rfl (Or.inl rfl) (pe_tup (pa_cons (pe_call (ok_q_first_name T (TL := TL)) (hr.mono (by decide)) rfl T.q_first_name.g T.q_first_name.k T.q_first_name.b .nil pass0 (pa_cons (pv 0) (pa_cons (pv 1) (pa_cons (pv 2) (pa_cons (pv 3) (pa_cons pe_int pa_nil)))))) (pa_cons (pe_call (ok_q_first_name T (TL := TL)) (hr.mono (by decide)) rfl T.q_first_name.g T.q_first_name.k T.q_first_name.b .nil pass0 (pa_cons (pv 0) (pa_cons (pv 1) (pa_cons (pv 2) (pa_cons (pv 3) (pa_cons pe_int pa_nil)))))) pa_nil))))
      (pss_one (ps_ret (pe_ifExp (pt_cmpR (inT3 K (un65 hr)) pe_non (pv 4) rfl) pe_non (pv 4)))))
      , run3 (K := K) (C := T.C) (TL := TL) h fun us n q e hs => ?_⟩
    obtain ⟨bs, x, ps, a, s, rfl, hx, h1, h2, hq⟩ := hs
    simp [ro0, -asL]
    refine ⟨bs, x, ps, a.1, a.2, s.1, s.2, 0, ⟨rfl, rfl, ⟨rfl, rfl⟩, ⟨rfl, rfl⟩, rfl⟩, .inl rfl, hx, h1, h2, bs, x, ps, a.1, a.2, s.1, s.2, 1, ⟨rfl, rfl, ⟨rfl, rfl⟩, ⟨rfl, rfl⟩, rfl⟩, .inr rfl, hx, h1, h2, by rfl, ?_⟩
    have e0 : fstN bs ps (a.1, a.2) (s.1, s.2) 0 = fstN bs ps a s 0 := rfl
    have e1 : fstN bs ps (a.1, a.2) (s.1, s.2) 1 = fstN bs ps a s 1 := rfl
    rw [e0, e1]
    have k0 := @fst_ok bs ps a s 0
    have k1 := @fst_ok bs ps a s 1
    generalize fstN bs ps a s 0 = o at hq k0 ⊢
    generalize fstN bs ps a s 1 = p at hq k1 ⊢
    cases o with
    | none =>
      refine ⟨shaped_two ⟨rfl, by simp [onD, PyData.depth]⟩ (on_lay k1), ?_⟩
      rw [if_pos (.inl (by rfl))]
      exact hq
    | some o =>
      cases p with
      | none =>
        refine ⟨shaped_two (on_lay k0) ⟨rfl, by simp [onD, PyData.depth]⟩, ?_⟩
        rw [if_pos (.inr (by rfl))]
        exact hq
      | some p =>
        refine ⟨shaped_two (on_lay k0) (on_lay k1), ?_⟩
        have n1 : PyData.eqv (onD (some o)) PyData.none = false := by rfl
        have n2 : PyData.eqv (onD (some p)) PyData.none = false := by rfl
        rw [n1, n2, if_neg (by simp)]
        exact hq
theorem ok_q_number_of (T : Txt K mg) : FnOk P w K mg base CX0 2 T.q_number_of.a T.q_number_of.d ["drawing", "spots", "body", "name", "axis"] (toSp K T.C TL false sp_number) := by
  refine T.q_number_of.F.ok c_q_number_of (fun vs H Q E h => toSp_len h fun us n q e hs => ?_) (fun cdv A outer s H vs Q E hr h => ?_)
  · (first | (obtain ⟨rfl, _⟩ := hs; rfl) | (obtain ⟨_, hs⟩ := hs; (first | (obtain ⟨rfl, _⟩ := hs; rfl) | (obtain ⟨_, hs⟩ := hs; (first | (obtain ⟨rfl, _⟩ := hs; rfl) | (obtain ⟨_, hs⟩ := hs; (first | (obtain ⟨rfl, _⟩ := hs; rfl) | (obtain ⟨_, hs⟩ := hs; (first | (obtain ⟨rfl, _⟩ := hs; rfl) | (obtain ⟨_, hs⟩ := hs; (first | (obtain ⟨rfl, _⟩ := hs; rfl) | (obtain ⟨_, hs⟩ := hs; (first | (obtain ⟨rfl, _⟩ := hs; rfl) | (obtain ⟨_, hs⟩ := hs; (first | (obtain ⟨rfl, _⟩ := hs; rfl) | (obtain ⟨_, hs⟩ := hs; (first | (obtain ⟨rfl, _⟩ := hs; rfl) | (obtain ⟨_, hs⟩ := hs; (first | (obtain ⟨rfl, _⟩ := hs; rfl) | (obtain ⟨_, hs⟩ := hs; (first | (obtain ⟨rfl, _⟩ := hs; rfl) | (obtain ⟨_, hs⟩ := hs; (first | (obtain ⟨rfl, _⟩ := hs; rfl) | (obtain ⟨_, hs⟩ := hs; (first | (obtain ⟨rfl, _⟩ := hs; rfl) | (obtain ⟨_, hs⟩ := hs; (first | (obtain ⟨rfl, _⟩ := hs; rfl) | (obtain ⟨_, hs⟩ := hs; (first | (obtain ⟨rfl, _⟩ := hs; rfl) | (obtain ⟨_, hs⟩ := hs; (first | (obtain ⟨rfl, _⟩ := hs; rfl) | (obtain ⟨_, hs⟩ := hs; (obtain ⟨rfl, _⟩ := hs; rfl)))))))))))))))))))))))))))))))))
  · refine ⟨_,
      (pss_one (ps_ret (pe_ix (ix3 K) (pe_lc (own := [("known", 5), ("number", 6)]) (g := gTup K 2 (gCons (gName 5) (gCons (gName 6) gNil))) (by rfl) c_q_number_of.nd (seq3 K (pe_call (ok_q_names_for T (TL := TL)) (hr.mono (by decide)) rfl T.q_names_for.g T.q_names_for.k T.q_names_for.b .nil pass0 (pa_cons (pv 0) (pa_cons (pv 1) (pa_cons (pv 2) (pa_cons (pv 4) pa_nil)))))) (blkOk_by (own := [("known", 5), ("number", 6)]) (N := N_q_number_of) (sc := defScope S_q_number_of) (by decide +kernel)) (fun _ _ _ _ _ => tupG3 K (n := 2) rfl (pgs_cons (pg_name (i := 5) c_q_number_of.nd rfl (Or.inl rfl) (hf := Or.inr rfl)) (pgs_cons (pg_name (i := 6) c_q_number_of.nd rfl (Or.inl rfl) (hf := Or.inr rfl)) pgs_nil))) (fun _ _ _ _ _ => (pts_one (pt_cmpR (eq3 K hr.units) (pv 5) (pv 3) (nomark _)))) (fun _ _ _ _ _ => (pv 6))) pe_int (fun _ _ => rfl))))
      , run3 (K := K) (C := T.C) (TL := TL) h fun us n q e hs => ?_⟩
    obtain ⟨bs, x, ps, a, p, y, v, rfl, hy, hx, h1, h2, hso, hv, hq⟩ := hs
    have hl := nf_len bs ps a y
    simp [ro0, -asL]
    refine ⟨bs, x, ps, a.1, a.2, y, ⟨rfl, rfl, ⟨rfl, rfl⟩, rfl⟩, hy, hx, h1, h2, few (by show (nfL bs ps a y).length ≤ _; omega), lcL_pure nfD (fun e => PyData.int e.2) (fun e => decide (e.1 = p)) (nfL bs ps a y) _ _ (fun e he m Kt Ks k => ?_) ?_⟩
    · simp
      refine ⟨shaped_nm (nf_ok he), shaped_nm hso, ?_⟩
      rw [show (PyData.tuple [PyData.str e.1.1, PyData.int e.1.2]).eqv (PyData.tuple [PyData.str p.1, PyData.int p.2]) = decide (e.1 = p) from eqv_nm e.1 p]
      simpa using k
    · cases hf : (nfL bs ps a y).filter fun e => decide (e.1 = p) with
      | nil =>
        rw [hf] at hv
        cases hv
      | cons e es =>
        rw [hf] at hv
        cases hv
        simpa using hq
end
end G21
set_option Elab.async false
set_option linter.all false
set_option maxRecDepth 100000
set_option maxHeartbeats 4000000
set_option synthInstance.maxSize 100000
set_option synthInstance.maxHeartbeats 0
namespace G21
open PySem PySem.Spec PyProof.Rows L2 V3
/-! ### names judged, places told -/
def scN (t : D) : Prop := ∀ a b, t = .tuple [a, b] → scalD a = true
def nmOk (ns nb : Nat) (ws : List Str) : D → Bool
  | .tuple [.str w, i] => decide (w ∈ ws) && isIxD (if w = "spot" then ns else nb) i
  | _ => false
@[simp ↓] def sp_isname : VSp := fun us n q _ => ∃ (bs : List Bk) (x : D) (ps : List (Int × Int)) (ws : List Str) (t : D), us = [.dw (bs.map bkD), .d x, .d (.tuple (ws.map PyData.str)), .d t] ∧ asL x = some (ps.map pD) ∧ bs.length ≤ 3 ∧ ps.length ≤ 3 ∧ scN t ∧ lenB t ∧ (∀ w ∈ ws, PyData.strOk w = true) ∧ q (.d (.bool (nmOk ps.length bs.length ws t))) n
def namesOk (ns nb : Nat) : D → Bool
  | .tuple [s, t] => nmOk ns nb (wsN 0) s && nmOk ns nb (wsN 1) t
  | _ => false
def scP (t : D) : Prop := lenB t ∧ ∀ a b, t = .tuple [a, b] → (scN a ∧ lenB a) ∧ scN b ∧ lenB b
@[simp ↓] def sp_chk_names (BN : Addr) : VSp := fun us n q e => ∃ (bs : List Bk) (x : D) (ps : List (Int × Int)) (t : D), us = [.dw (bs.map bkD), .d x, .d t] ∧ asL x = some (ps.map pD) ∧ bs.length ≤ 3 ∧ ps.length ≤ 3 ∧ scP t ∧ (namesOk ps.length bs.length t = true → q (.d .none) n) ∧ (namesOk ps.length bs.length t = false → e BN)
/-- what a name stands for -/
def valN (bs : List Bk) (ps : List (Int × Int)) (a : Int × Int) (y : Int) (p : Nm) : Int := if p.1 = "spot" then ax (atP ps p.2.toNat) y else if p.1 = wF y then hiB (bkN bs p.2.toNat) y else loB (bkN bs p.2.toNat) y - ax a y
theorem rng_at (n : Nat) (k : Int) : (List.range n).filter (fun j : Nat => decide (((j : Nat) : Int) = k)) = if 0 ≤ k ∧ k < n then [k.toNat] else [] := by
  induction n with
  | zero =>
    rw [if_neg (by omega)]
    rfl
  | succ n ih =>
    rw [List.range_succ, List.filter_append, ih]
    by_cases h1 : 0 ≤ k ∧ k < n
    · rw [if_pos h1, if_pos (by omega)]
      have : ¬ ((n : Int) = k) := by omega
      simp [this]
    · rw [if_neg h1]
      by_cases h2 : (n : Int) = k
      · rw [if_pos (by omega)]
        have : k.toNat = n := by omega
        simp [h2, this]
      · rw [if_neg (by omega)]
        simp [h2]
theorem part_at {w : Str} {f : Nat → Int} {n : Nat} {p : Nm} : (part w f n).filter (fun e => decide (e.1 = p)) = if w = p.1 ∧ 0 ≤ p.2 ∧ p.2 < n then [(p, f p.2.toNat)] else [] := by
  obtain ⟨w', k⟩ := p
  unfold part
  rw [List.filter_map]
  by_cases hw : w = w'
  · subst hw
    have e : ((fun e : Nm × Int => decide (e.1 = (w, k))) ∘ fun k : Nat => (((w, ((k : Nat) : Int)), f k) : Nm × Int)) = fun j : Nat => decide (((j : Nat) : Int) = k) := by
      funext j
      show decide ((w, ((j : Nat) : Int)) = (w, k)) = _
      rw [Bool.eq_iff_iff, decide_eq_true_eq, decide_eq_true_eq]
      simp
    rw [e, rng_at]
    by_cases h : 0 ≤ k ∧ k < n
    · rw [if_pos h, if_pos ⟨rfl, h⟩]
      have : ((k.toNat : Nat) : Int) = k := by omega
      simp [this]
    · rw [if_neg h, if_neg fun z => h z.2]
      rfl
  · rw [if_neg fun z => hw z.1, List.map_eq_nil_iff, List.filter_eq_nil_iff]
    intro j _
    show ¬ decide ((w, ((j : Nat) : Int)) = (w', k)) = true
    simp [hw]
theorem words_ne (y : Int) : (("spot" : Str) ≠ wF y) ∧ (("spot" : Str) ≠ wN y) ∧ wF y ≠ wN y := by
  unfold wF wN
  split <;> decide +kernel
theorem val_head {bs : List Bk} {ps : List (Int × Int)} {a : Int × Int} {y : Int} {p : Nm} (h : nmOk ps.length bs.length (wsN y) (nmD p) = true) : ((nfL bs ps a y).filter fun e => decide (e.1 = p)).head? = some (p, valN bs ps a y p) := by
  obtain ⟨w, k⟩ := p
  obtain ⟨n1, n2, n3⟩ := words_ne y
  simp only [nmOk, isIxD, wsN, Bool.and_eq_true, decide_eq_true_eq, List.mem_cons, List.not_mem_nil, or_false] at h
  obtain ⟨hw, h0, h1⟩ := h
  unfold nfL valN
  rw [List.filter_append, List.filter_append, part_at, part_at, part_at]
  dsimp only
  rcases hw with rfl | rfl | rfl
  · rw [if_pos rfl] at h1
    rw [if_pos ⟨rfl, h0, h1⟩, if_neg fun z => n1 z.1.symm, if_neg fun z => n2 z.1.symm, if_pos rfl]
    rfl
  · rw [if_neg fun z => n1 z.symm] at h1
    rw [if_neg fun z => n1 z.1, if_pos ⟨rfl, h0, h1⟩, if_neg fun z => n3 z.1.symm, if_neg fun z => n1 z.symm, if_pos rfl]
    rfl
  · rw [if_neg fun z => n2 z.symm] at h1
    rw [if_neg fun z => n2 z.1, if_neg fun z => n3 z.1, if_pos ⟨rfl, h0, h1⟩, if_neg fun z => n2 z.symm, if_neg fun z => n3 z.symm]
    rfl
theorem nm_of {ns nb : Nat} {ws : List Str} {t : D} (h : nmOk ns nb ws t = true) : ∃ p : Nm, t = nmD p ∧ p.1 ∈ ws := by
  unfold nmOk at h
  split at h
  · rename_i w i
    rw [Bool.and_eq_true, decide_eq_true_eq] at h
    cases i with
    | int k => exact ⟨(w, k), rfl, h.1⟩
    | _ => exact absurd h.2 (by simp [isIxD])
  · cases h
theorem ws_ok {y : Int} {w : Str} (h : w ∈ wsN y) : PyData.strOk w = true := by
  simp only [wsN, List.mem_cons, List.not_mem_nil, or_false] at h
  rcases h with rfl | rfl | rfl
  · decide +kernel
  · unfold wF
    split <;> decide +kernel
  · unfold wN
    split <;> decide +kernel
theorem names_of {ns nb : Nat} {t : D} (h : namesOk ns nb t = true) : ∃ p o : Nm, t = .tuple [nmD p, nmD o] ∧ nmOk ns nb (wsN 0) (nmD p) = true ∧ nmOk ns nb (wsN 1) (nmD o) = true ∧ PyData.strOk p.1 = true ∧ PyData.strOk o.1 = true := by
  unfold namesOk at h
  split at h
  · rename_i s u
    rw [Bool.and_eq_true] at h
    obtain ⟨p, rfl, hp⟩ := nm_of h.1
    obtain ⟨o, rfl, ho⟩ := nm_of h.2
    exact ⟨p, o, rfl, h.1, h.2, ws_ok hp, ws_ok ho⟩
  · cases h
/-- which refusal is due of a drawing, spots, a body -/
def okA (u : U) (x y : D) : Prop := okU u ∧ dwB u ∧ lenS x ∧ lenB y
@[simp ↓] def sp_place (BD BS BB BN : Addr) : VSp := fun us n q e => ∃ (u : U) (x y t : D), us = [u, .d x, .d y, .d t] ∧ okA u x y ∧ (badW u = true → e BD) ∧ (badW u = false → isSL x = false → e BS) ∧ (badW u = false → isSL x = true → isBd y = false → e BB) ∧
  ∀ (bs : List Bk) (ps : List (Int × Int)) (a b : Int), u = .dw (bs.map bkD) → asL x = some (ps.map pD) → y = pr a b → 1 ≤ a → 1 ≤ b → bs.length ≤ 3 ∧ ps.length ≤ 3 ∧ scP t ∧ (namesOk ps.length bs.length t = false → e BN) ∧
  ∀ p o : Nm, t = .tuple [nmD p, nmD o] → namesOk ps.length bs.length t = true → q (.d (pr (valN bs ps (a, b) 0 p) (valN bs ps (a, b) 1 o))) n
@[simp ↓] def sp_named (BD BS BB BP : Addr) : VSp := fun us n q e => ∃ (u : U) (x y z : D), us = [u, .d x, .d y, .d z] ∧ okA u x y ∧ (badW u = true → e BD) ∧ (badW u = false → isSL x = false → e BS) ∧ (badW u = false → isSL x = true → isBd y = false → e BB) ∧ (badW u = false → isSL x = true → isBd y = true → isPr z = false → e BP) ∧
  ∀ (bs : List Bk) (ps : List (Int × Int)) (a b : Int) (s : Int × Int), u = .dw (bs.map bkD) → asL x = some (ps.map pD) → y = pr a b → 1 ≤ a → 1 ≤ b → z = pD s → bs.length ≤ 3 ∧ ps.length ≤ 3 ∧ q (.d (nmsD (fstN bs ps (a, b) s 0) (fstN bs ps (a, b) s 1))) n
theorem eqv_str (v w : Str) : PyData.eqv (.str v) (.str w) = decide (v = w) := by
  simp [PyData.eqv]
  rw [Bool.eq_iff_iff]
  simp
section
variable {P : Program} {w : World} {K : PySem.W.Frag} {mg : Str → Option Value} {base : Heap} {TL : List (Addr × Str)}
theorem ok_q_is_name (T : Txt K mg) : FnOk P w K mg base CX0 3 T.q_is_name.a T.q_is_name.d ["drawing", "spots", "kinds", "thing"] (toSp K T.C TL false sp_isname) := by
  refine T.q_is_name.F.ok c_q_is_name (fun vs H Q E h => toSp_len h fun us n q e hs => ?_) (fun cdv A outer s H vs Q E hr h => ?_)
  · (first | (obtain ⟨rfl, _⟩ := hs; rfl) | (obtain ⟨_, hs⟩ := hs; (first | (obtain ⟨rfl, _⟩ := hs; rfl) | (obtain ⟨_, hs⟩ := hs; (first | (obtain ⟨rfl, _⟩ := hs; rfl) | (obtain ⟨_, hs⟩ := hs; (first | (obtain ⟨rfl, _⟩ := hs; rfl) | (obtain ⟨_, hs⟩ := hs; (first | (obtain ⟨rfl, _⟩ := hs; rfl) | (obtain ⟨_, hs⟩ := hs; (first | (obtain ⟨rfl, _⟩ := hs; rfl) | (obtain ⟨_, hs⟩ := hs; (first | (obtain ⟨rfl, _⟩ := hs; rfl) | (obtain ⟨_, hs⟩ := hs; (first | (obtain ⟨rfl, _⟩ := hs; rfl) | (obtain ⟨_, hs⟩ := hs; (first | (obtain ⟨rfl, _⟩ := hs; rfl) | (obtain ⟨_, hs⟩ := hs; (first | (obtain ⟨rfl, _⟩ := hs; rfl) | (obtain ⟨_, hs⟩ := hs; (first | (obtain ⟨rfl, _⟩ := hs; rfl) | (obtain ⟨_, hs⟩ := hs; (first | (obtain ⟨rfl, _⟩ := hs; rfl) | (obtain ⟨_, hs⟩ := hs; (first | (obtain ⟨rfl, _⟩ := hs; rfl) | (obtain ⟨_, hs⟩ := hs; (first | (obtain ⟨rfl, _⟩ := hs; rfl) | (obtain ⟨_, hs⟩ := hs; (first | (obtain ⟨rfl, _⟩ := hs; rfl) | (obtain ⟨_, hs⟩ := hs; (first | (obtain ⟨rfl, _⟩ := hs; rfl) | (obtain ⟨_, hs⟩ := hs; (obtain ⟨rfl, _⟩ := hs; rfl)))))))))))))))))))))))))))))))))
  · refine ⟨_,
      (pss_cons (ps_if (PW.pt (pw_or (pt_not (pt_val (pe_callB (isi3 K) (by rfl) T.z_isinstance (by decide +kernel) (pa_cons (pv 3) (pa_cons (pe_bltn (v := .ty "tuple") (u := .type "tuple") rfl T.z_tuple (by decide +kernel) rfl) pa_nil))))) (pw_or (pt_cmpR (ne3 K hr.units) (pe_callB (len3 K) (by rfl) T.z_len (by decide +kernel) (pa_cons (pv 3) pa_nil)) pe_int (nomark _)) (pw_or1 (pt_cmpR (notIn3 K (un65 hr)) (pe_ix (ix3 K) (pv 3) pe_int (fun _ _ => rfl)) (pv 2) rfl)))))
      (pss_one (ps_ret pe_bl))
      pss_nil)
      (pss_one (ps_ret (pe_call (ok_q_is_index T (TL := TL)) (hr.mono (by decide)) rfl T.q_is_index.g T.q_is_index.k T.q_is_index.b .nil pass0 (pa_cons (pe_ix (ix3 K) (pv 3) pe_int (fun _ _ => rfl)) (pa_cons (pe_ifExp (pt_cmpR (eq3 K hr.units) (pe_ix (ix3 K) (pv 3) pe_int (fun _ _ => rfl)) pe_str (nomark _)) (pe_callB (len3 K) (by rfl) T.z_len (by decide +kernel) (pa_cons (pv 1) pa_nil)) (pe_callB (len3 K) (by rfl) T.z_len (by decide +kernel) (pa_cons (fld3 K (pv 0) rfl) pa_nil))) pa_nil))))))
      , run3 (K := K) (C := T.C) (TL := TL) h fun us n q e hs => ?_⟩
    obtain ⟨bs, x, ps, ws, t, rfl, hx, h1, h2, hs, hl, hok, hq⟩ := hs
    cases t with
    | tuple xs =>
      have hl := hl xs rfl
      match xs, hl, hq with
      | [], _, hq => simpa [ro0, nmOk] using hq
      | [y], _, hq => simpa [ro0, nmOk] using hq
      | [a, b], _, hq =>
        have hsc := hs a b rfl
        simp [ro0]
        refine ⟨hsc, fun _ _ => rfl, ?_⟩
        cases a with
        | str w =>
          by_cases hw : w ∈ ws
          · rw [if_neg fun z => by
              have := z w hw
              rw [eqv_str] at this
              simp at this]
            have sw : SeqAt.shaped (.str w) = true := by
              simp [SeqAt.shaped, PyData.canLay0, PyData.depth, hok w hw]
            have ss : SeqAt.shaped (.str "spot") = true := by
              have : PyData.strOk "spot" = true := by decide +kernel
              simp [SeqAt.shaped, PyData.canLay0, PyData.depth, this]
            refine ⟨sw, ss, ?_⟩
            rw [eqv_str]
            by_cases hs : w = "spot"
            · subst hs
              simp only [nmOk, hw, decide_true, Bool.true_and, if_true] at hq
              cases x <;> cases hx <;> simp
              all_goals exact ⟨b, _, ⟨rfl, rfl⟩, hq⟩
            · simp only [nmOk, hw, hs, decide_true, Bool.true_and, if_false] at hq
              simp [hs]
              exact ⟨b, _, ⟨rfl, rfl⟩, hq⟩
          · rw [if_pos fun x hx => by
              rw [eqv_str, decide_eq_false_iff_not]
              exact fun z => hw (z ▸ hx)]
            simpa [nmOk, hw] using hq
        | tuple _ => cases hsc
        | list _ => cases hsc
        | dict _ => cases hsc
        | _ =>
          rw [if_pos fun x _ => by simp [PyData.eqv]]
          simpa [nmOk] using hq
      | y :: z :: w :: ws, hl, hq =>
        simp [ro0, nmOk] at hq ⊢
        exact hq
    | _ => simpa [ro0, nmOk] using hq
theorem ok_q_check_names (T : Txt K mg) : FnOk P w K mg base (L2.CX P w) 4 T.q_check_names.a T.q_check_names.d ["drawing", "spots", "names"] (toSp K T.C TL false (sp_chk_names T.x_BadNames.C)) := by
  refine T.q_check_names.F.okX c_q_check_names (fun vs H Q E h => toSp_len h fun us n q e hs => ?_) (fun cdv A outer s H vs Q E hr h => ?_)
  · (first | (obtain ⟨rfl, _⟩ := hs; rfl) | (obtain ⟨_, hs⟩ := hs; (first | (obtain ⟨rfl, _⟩ := hs; rfl) | (obtain ⟨_, hs⟩ := hs; (first | (obtain ⟨rfl, _⟩ := hs; rfl) | (obtain ⟨_, hs⟩ := hs; (first | (obtain ⟨rfl, _⟩ := hs; rfl) | (obtain ⟨_, hs⟩ := hs; (first | (obtain ⟨rfl, _⟩ := hs; rfl) | (obtain ⟨_, hs⟩ := hs; (first | (obtain ⟨rfl, _⟩ := hs; rfl) | (obtain ⟨_, hs⟩ := hs; (first | (obtain ⟨rfl, _⟩ := hs; rfl) | (obtain ⟨_, hs⟩ := hs; (first | (obtain ⟨rfl, _⟩ := hs; rfl) | (obtain ⟨_, hs⟩ := hs; (first | (obtain ⟨rfl, _⟩ := hs; rfl) | (obtain ⟨_, hs⟩ := hs; (first | (obtain ⟨rfl, _⟩ := hs; rfl) | (obtain ⟨_, hs⟩ := hs; (first | (obtain ⟨rfl, _⟩ := hs; rfl) | (obtain ⟨_, hs⟩ := hs; (first | (obtain ⟨rfl, _⟩ := hs; rfl) | (obtain ⟨_, hs⟩ := hs; (first | (obtain ⟨rfl, _⟩ := hs; rfl) | (obtain ⟨_, hs⟩ := hs; (first | (obtain ⟨rfl, _⟩ := hs; rfl) | (obtain ⟨_, hs⟩ := hs; (first | (obtain ⟨rfl, _⟩ := hs; rfl) | (obtain ⟨_, hs⟩ := hs; (first | (obtain ⟨rfl, _⟩ := hs; rfl) | (obtain ⟨_, hs⟩ := hs; (obtain ⟨rfl, _⟩ := hs; rfl)))))))))))))))))))))))))))))))))
  · refine ⟨_,
      (pss_cons (ps_if (PW.pt (pw_or (pt_not (pt_val (pe_callB (isi3 K) (by rfl) T.z_isinstance (by decide +kernel) (pa_cons (pv 2) (pa_cons (pe_bltn (v := .ty "tuple") (u := .type "tuple") rfl T.z_tuple (by decide +kernel) rfl) pa_nil))))) (pw_or1 (pt_cmpR (ne3 K hr.units) (pe_callB (len3 K) (by rfl) T.z_len (by decide +kernel) (pa_cons (pv 2) pa_nil)) pe_int (nomark _)))))
      (pss_one (ps_rz (C' := T.x_BadNames.C) (ps_raise rfl (takes_of rfl rfl rfl rfl) (pmk_own PySem.F.excBase_ValueError T.x_BadNames.q T.x_BadNames.g T.x_BadNames.k (raises_own T.x_BadNames.b T.x_BadNames.t) (by exact rfl)))))
      pss_nil)
      (pss_one (ps_if (PW.pt (pw_or (pt_not (pt_val (pe_call (ok_q_is_name T (TL := TL)) (hr.mono (by decide)) rfl T.q_is_name.g T.q_is_name.k T.q_is_name.b .nil pass0 (pa_cons (pv 0) (pa_cons (pv 1) (pa_cons (pe_glob (v := .ref T.c_X_NAMES) (u := .ref T.c_X_NAMES) rfl T.g_X_NAMES rfl) (pa_cons (pe_ix (ix3 K) (pv 2) pe_int (fun _ _ => rfl)) pa_nil))))))) (pw_or1 (pt_not (pt_val (pe_call (ok_q_is_name T (TL := TL)) (hr.mono (by decide)) rfl T.q_is_name.g T.q_is_name.k T.q_is_name.b .nil pass0 (pa_cons (pv 0) (pa_cons (pv 1) (pa_cons (pe_glob (v := .ref T.c_Y_NAMES) (u := .ref T.c_Y_NAMES) rfl T.g_Y_NAMES rfl) (pa_cons (pe_ix (ix3 K) (pv 2) pe_int (fun _ _ => rfl)) pa_nil))))))))))
      (pss_one (ps_rz (C' := T.x_BadNames.C) (ps_raise rfl (takes_of rfl rfl rfl rfl) (pmk_own PySem.F.excBase_ValueError T.x_BadNames.q T.x_BadNames.g T.x_BadNames.k (raises_own T.x_BadNames.b T.x_BadNames.t) (by exact rfl)))))
      pss_nil)))
      , run3 (K := K) (C := T.C) (TL := TL) h fun us n q e hs => ?_⟩
    obtain ⟨bs, x, ps, t, rfl, hx, h1, h2, ⟨hl, hs⟩, h3, h4⟩ := hs
    cases t with
    | tuple xs =>
      have hl := hl xs rfl
      match xs, hl, h3, h4 with
      | [], _, h3, h4 => simpa [ro0, namesOk] using h4
      | [y], _, h3, h4 => simpa [ro0, namesOk] using h4
      | [a, b], _, h3, h4 =>
        obtain ⟨⟨s1, s2⟩, s3, s4⟩ := hs a b rfl
        simp [ro0, -asL]
        refine ⟨bs, x, ps, wsN 0, a, ⟨rfl, rfl, rfl, rfl⟩, hx, h1, h2, s1, s2, fun w hw => ws_ok hw, ?_⟩
        cases ha : nmOk ps.length bs.length (wsN 0) a
        · simp [namesOk, ha] at h4
          simpa using h4
        · simp only [if_true]
          refine ⟨bs, x, ps, wsN 1, b, ⟨rfl, rfl, rfl, rfl⟩, hx, h1, h2, s3, s4, fun w hw => ws_ok hw, ?_⟩
          cases hb : nmOk ps.length bs.length (wsN 1) b
          · simp [namesOk, ha, hb] at h4
            simpa using h4
          · simp [namesOk, ha, hb] at h3
            simpa using h3
      | y :: z :: w :: ws, hl, h3, h4 =>
        simp [ro0, namesOk] at h3 h4 ⊢
        exact h4
    | _ => simpa [ro0, namesOk] using h4
theorem ok_q_place (T : Txt K mg) : FnOk P w K mg base (L2.CX P w) 7 T.q_place.a T.q_place.d ["drawing", "spots", "body", "names"] (toSp K T.C TL false (sp_place T.x_BadDrawing.C T.x_BadSpots.C T.x_BadBody.C T.x_BadNames.C)) := by
  refine T.q_place.F.okX c_q_place (fun vs H Q E h => toSp_len h fun us n q e hs => ?_) (fun cdv A outer s H vs Q E hr h => ?_)
  · (first | (obtain ⟨rfl, _⟩ := hs; rfl) | (obtain ⟨_, hs⟩ := hs; (first | (obtain ⟨rfl, _⟩ := hs; rfl) | (obtain ⟨_, hs⟩ := hs; (first | (obtain ⟨rfl, _⟩ := hs; rfl) | (obtain ⟨_, hs⟩ := hs; (first | (obtain ⟨rfl, _⟩ := hs; rfl) | (obtain ⟨_, hs⟩ := hs; (first | (obtain ⟨rfl, _⟩ := hs; rfl) | (obtain ⟨_, hs⟩ := hs; (first | (obtain ⟨rfl, _⟩ := hs; rfl) | (obtain ⟨_, hs⟩ := hs; (first | (obtain ⟨rfl, _⟩ := hs; rfl) | (obtain ⟨_, hs⟩ := hs; (first | (obtain ⟨rfl, _⟩ := hs; rfl) | (obtain ⟨_, hs⟩ := hs; (first | (obtain ⟨rfl, _⟩ := hs; rfl) | (obtain ⟨_, hs⟩ := hs; (first | (obtain ⟨rfl, _⟩ := hs; rfl) | (obtain ⟨_, hs⟩ := hs; (first | (obtain ⟨rfl, _⟩ := hs; rfl) | (obtain ⟨_, hs⟩ := hs; (first | (obtain ⟨rfl, _⟩ := hs; rfl) | (obtain ⟨_, hs⟩ := hs; (first | (obtain ⟨rfl, _⟩ := hs; rfl) | (obtain ⟨_, hs⟩ := hs; (first | (obtain ⟨rfl, _⟩ := hs; rfl) | (obtain ⟨_, hs⟩ := hs; (first | (obtain ⟨rfl, _⟩ := hs; rfl) | (obtain ⟨_, hs⟩ := hs; (first | (obtain ⟨rfl, _⟩ := hs; rfl) | (obtain ⟨_, hs⟩ := hs; (obtain ⟨rfl, _⟩ := hs; rfl)))))))))))))))))))))))))))))))))
  · refine ⟨_,
      (pss_cons (ps_expr (pe_call (ok_q_check_cells T (TL := TL)) (hr.mono (by decide)) rfl T.q_check_cells.g T.q_check_cells.k T.q_check_cells.b .nil (passes_call (takes_of rfl rfl rfl rfl) (fun _ _ _ _ h => h)) (pa_cons (pv 0) (pa_cons (pv 1) (pa_cons (pv 2) pa_nil)))))
      (pss_cons (ps_expr (pe_call (ok_q_check_names T (TL := TL)) (hr.mono (by decide)) rfl T.q_check_names.g T.q_check_names.k T.q_check_names.b .nil (passes_call (takes_of rfl rfl rfl rfl) (fun _ _ _ _ h => h)) (pa_cons (pv 0) (pa_cons (pv 1) (pa_cons (pv 3) pa_nil)))))
      (pss_one (ps_ret (pe_tup (pa_cons (pe_call (ok_q_number_of T (TL := TL)) (hr.mono (by decide)) rfl T.q_number_of.g T.q_number_of.k T.q_number_of.b .nil pass0 (pa_cons (pv 0) (pa_cons (pv 1) (pa_cons (pv 2) (pa_cons (pe_ix (ix3 K) (pv 3) pe_int (fun _ _ => rfl)) (pa_cons pe_int pa_nil)))))) (pa_cons (pe_call (ok_q_number_of T (TL := TL)) (hr.mono (by decide)) rfl T.q_number_of.g T.q_number_of.k T.q_number_of.b .nil pass0 (pa_cons (pv 0) (pa_cons (pv 1) (pa_cons (pv 2) (pa_cons (pe_ix (ix3 K) (pv 3) pe_int (fun _ _ => rfl)) (pa_cons pe_int pa_nil)))))) pa_nil)))))))
      , run3 (K := K) (C := T.C) (TL := TL) h fun us n q e hs => ?_⟩
    obtain ⟨u, x, y, t, rfl, ⟨hu, hw, hl, hb⟩, h1, h2, h3, h4⟩ := hs
    simp [ro0, -asL]
    refine ⟨u, x, y, ⟨rfl, rfl, rfl⟩, hu, hl, hb, h1, h2, h3, fun z1 z2 z3 => ?_⟩
    obtain ⟨bs, rfl⟩ := hw z1
    obtain ⟨ps, hx⟩ := sl_ps z2
    obtain ⟨a, b, rfl, ha, hb⟩ := bd_of z3
    obtain ⟨b1, b2, hsc, hbn, h5⟩ := h4 bs ps a b rfl hx rfl ha hb
    refine ⟨bs, x, ps, t, ⟨rfl, rfl, rfl⟩, hx, b1, b2, hsc, fun hok => ?_, hbn⟩
    obtain ⟨p, o, rfl, n1, n2, n3, n4⟩ := names_of hok
    refine ⟨bs, x, ps, a, b, p.1, p.2, 0, ⟨rfl, rfl, rfl, rfl, rfl⟩, .inl rfl, hx, b1, b2, n3, valN bs ps (a, b) 0 p, by rw [← List.head?_filter]; exact val_head n1, ?_⟩
    refine ⟨bs, x, ps, a, b, o.1, o.2, 1, ⟨rfl, rfl, rfl, rfl, rfl⟩, .inr rfl, hx, b1, b2, n4, valN bs ps (a, b) 1 o, by rw [← List.head?_filter]; exact val_head n2, ?_⟩
    exact h5 p o rfl hok
theorem ok_q_named (T : Txt K mg) : FnOk P w K mg base (L2.CX P w) 7 T.q_named.a T.q_named.d ["drawing", "spots", "body", "spot"] (toSp K T.C TL false (sp_named T.x_BadDrawing.C T.x_BadSpots.C T.x_BadBody.C T.x_BadSpot.C)) := by
  refine T.q_named.F.okX c_q_named (fun vs H Q E h => toSp_len h fun us n q e hs => ?_) (fun cdv A outer s H vs Q E hr h => ?_)
  · (first | (obtain ⟨rfl, _⟩ := hs; rfl) | (obtain ⟨_, hs⟩ := hs; (first | (obtain ⟨rfl, _⟩ := hs; rfl) | (obtain ⟨_, hs⟩ := hs; (first | (obtain ⟨rfl, _⟩ := hs; rfl) | (obtain ⟨_, hs⟩ := hs; (first | (obtain ⟨rfl, _⟩ := hs; rfl) | (obtain ⟨_, hs⟩ := hs; (first | (obtain ⟨rfl, _⟩ := hs; rfl) | (obtain ⟨_, hs⟩ := hs; (first | (obtain ⟨rfl, _⟩ := hs; rfl) | (obtain ⟨_, hs⟩ := hs; (first | (obtain ⟨rfl, _⟩ := hs; rfl) | (obtain ⟨_, hs⟩ := hs; (first | (obtain ⟨rfl, _⟩ := hs; rfl) | (obtain ⟨_, hs⟩ := hs; (first | (obtain ⟨rfl, _⟩ := hs; rfl) | (obtain ⟨_, hs⟩ := hs; (first | (obtain ⟨rfl, _⟩ := hs; rfl) | (obtain ⟨_, hs⟩ := hs; (first | (obtain ⟨rfl, _⟩ := hs; rfl) | (obtain ⟨_, hs⟩ := hs; (first | (obtain ⟨rfl, _⟩ := hs; rfl) | (obtain ⟨_, hs⟩ := hs; (first | (obtain ⟨rfl, _⟩ := hs; rfl) | (obtain ⟨_, hs⟩ := hs; (first | (obtain ⟨rfl, _⟩ := hs; rfl) | (obtain ⟨_, hs⟩ := hs; (first | (obtain ⟨rfl, _⟩ := hs; rfl) | (obtain ⟨_, hs⟩ := hs; (first | (obtain ⟨rfl, _⟩ := hs; rfl) | (obtain ⟨_, hs⟩ := hs; (obtain ⟨rfl, _⟩ := hs; rfl)))))))))))))))))))))))))))))))))
  · refine ⟨_,
      (pss_cons (ps_expr (pe_call (ok_q_check_cells T (TL := TL)) (hr.mono (by decide)) rfl T.q_check_cells.g T.q_check_cells.k T.q_check_cells.b .nil (passes_call (takes_of rfl rfl rfl rfl) (fun _ _ _ _ h => h)) (pa_cons (pv 0) (pa_cons (pv 1) (pa_cons (pv 2) pa_nil)))))
      (pss_cons (ps_expr (pe_call (ok_q_check_spot T (TL := TL)) (hr.mono (by decide)) rfl T.q_check_spot.g T.q_check_spot.k T.q_check_spot.b .nil (passes_call (takes_of rfl rfl rfl rfl) (fun _ _ _ _ h => h)) (pa_cons (pv 3) pa_nil)))
      (pss_one (ps_ret (pe_call (ok_q_first_names T (TL := TL)) (hr.mono (by decide)) rfl T.q_first_names.g T.q_first_names.k T.q_first_names.b .nil pass0 (pa_cons (pv 0) (pa_cons (pv 1) (pa_cons (pv 2) (pa_cons (pv 3) pa_nil)))))))))
      , run3 (K := K) (C := T.C) (TL := TL) h fun us n q e hs => ?_⟩
    obtain ⟨u, x, y, z, rfl, ⟨hu, hw, hl, hb⟩, h1, h2, h3, h5, h4⟩ := hs
    simp [ro0, -asL]
    refine ⟨u, x, y, ⟨rfl, rfl, rfl⟩, hu, hl, hb, h1, h2, h3, fun z1 z2 z3 => ⟨z, rfl, fun hp => ?_, h5 z1 z2 z3⟩⟩
    obtain ⟨bs, rfl⟩ := hw z1
    obtain ⟨ps, hx⟩ := sl_ps z2
    obtain ⟨a, b, rfl, ha, hb⟩ := bd_of z3
    obtain ⟨sx, sy, rfl⟩ := pr_of hp
    obtain ⟨b1, b2, h6⟩ := h4 bs ps a b (sx, sy) rfl hx rfl ha hb rfl
    exact ⟨bs, x, ps, a, b, sx, sy, ⟨rfl, rfl, rfl, rfl⟩, hx, b1, b2, h6⟩
end
end G21
set_option Elab.async false
set_option linter.all false
set_option maxRecDepth 100000
set_option maxHeartbeats 4000000
set_option synthInstance.maxSize 100000
set_option synthInstance.maxHeartbeats 0
namespace G21
open PySem PySem.Spec PyProof.Rows L2 V3
def inP (m : Int) (p : Int × Int) : Prop := (-m ≤ p.1 ∧ p.1 ≤ m) ∧ -m ≤ p.2 ∧ p.2 ≤ m
theorem inP_le {p : Int × Int} (h : inP 1000010 p) : inP 2000000 p := by
  obtain ⟨⟨a, b⟩, c, d⟩ := h
  exact ⟨⟨by omega, by omega⟩, by omega, by omega⟩
theorem inP_le2 {p : Int × Int} (h : inP 1000010 p) : inP 1000020 p := by
  obtain ⟨⟨a, b⟩, c, d⟩ := h
  exact ⟨⟨by omega, by omega⟩, by omega, by omega⟩
theorem forL_map {is : List Nat} {tup : Bool} {mb : TS3} {F : En3} {e : Addr → Prop} {α : Type} (D0 : α → D) (I : List α → List α → Ro → Nat → Prop) :
    ∀ (left done : List α) (ρ : Ro) (n : Nat), (∀ done ρ m, I done [] ρ m → F.nx ρ m) →
    (∀ done x left ρ m (G : Ro → Nat → Prop), (∀ ρ' m', I (done ++ [x]) left ρ' m' → G ρ' m') → I done (x :: left) ρ m → giv is tup (D0 x) ρ fun ρ' => mb { F with nx := G, ct := G, bk := F.nx } ρ' m e) →
    I done left ρ n → forL is tup mb F e (left.map D0) ρ n := forL_mapW D0 I
theorem gr_uniq {es ss ns ms : List Int} (h : isGr es ss ns) (g : isGr es ss ms) : ns = ms := by
  have key : ∀ {ns ms : List Int}, ns.Pairwise (· < ·) → ms.Pairwise (· < ·) → (∀ j, j ∈ ns ↔ j ∈ ms) → ns = ms := fun {ns ms} => by
    induction ns generalizing ms with
    | nil =>
      intro _ _ z
      cases ms with
      | nil => rfl
      | cons m ms => exact absurd ((z m).mpr List.mem_cons_self) (by simp)
    | cons n ns ih =>
      intro hn hm z
      cases ms with
      | nil => exact absurd ((z n).mp List.mem_cons_self) (by simp)
      | cons m ms =>
        obtain ⟨n1, n2⟩ := List.pairwise_cons.mp hn
        obtain ⟨m1, m2⟩ := List.pairwise_cons.mp hm
        have e : n = m := by
          rcases List.mem_cons.mp ((z n).mp List.mem_cons_self) with q | q
          · exact q
          · rcases List.mem_cons.mp ((z m).mpr List.mem_cons_self) with y | y
            · exact y.symm
            · have := m1 n q
              have := n1 m y
              omega
        subst e
        rw [ih n2 m2 fun j => ⟨fun q => ?_, fun q => ?_⟩]
        · rcases List.mem_cons.mp ((z j).mp (List.mem_cons_of_mem _ q)) with y | y
          · have := n1 j q
            omega
          · exact y
        · rcases List.mem_cons.mp ((z j).mpr (List.mem_cons_of_mem _ q)) with y | y
          · have := m1 j q
            omega
          · exact y
  exact key h.1 g.1 fun j => (h.2 j).trans (g.2 j).symm
def insS (x : Int) : List Int → List Int
  | [] => [x]
  | y :: ys => if x < y then x :: y :: ys else if x = y then y :: ys else y :: insS x ys
theorem ins_mem (x j : Int) : ∀ ys : List Int, j ∈ insS x ys ↔ j = x ∨ j ∈ ys
  | [] => by simp [insS]
  | y :: ys => by
    have ih := ins_mem x j ys
    unfold insS
    split
    · simp
    · split
      · rename_i h
        subst h
        simp
      · rw [List.mem_cons, ih, List.mem_cons]
        constructor
        · rintro (h | h | h)
          · exact .inr (.inl h)
          · exact .inl h
          · exact .inr (.inr h)
        · rintro (h | h | h)
          · exact .inr (.inl h)
          · exact .inl h
          · exact .inr (.inr h)
theorem ins_pw (x : Int) : ∀ ys : List Int, ys.Pairwise (· < ·) → (insS x ys).Pairwise (· < ·)
  | [], _ => by simp [insS]
  | y :: ys, h => by
    obtain ⟨h1, h2⟩ := List.pairwise_cons.mp h
    unfold insS
    split
    · rename_i c
      refine List.pairwise_cons.mpr ⟨fun z hz => ?_, h⟩
      rcases List.mem_cons.mp hz with e | m
      · omega
      · have := h1 z m
        omega
    · split
      · exact h
      · refine List.pairwise_cons.mpr ⟨fun z hz => ?_, ins_pw x ys h2⟩
        rcases (ins_mem x z ys).mp hz with e | m
        · omega
        · exact h1 z m
theorem ins_len (x : Int) : ∀ ys : List Int, (insS x ys).length ≤ ys.length + 1
  | [] => by simp [insS]
  | y :: ys => by
    have := ins_len x ys
    unfold insS
    split
    · simp
    · split
      · simp
      · simp
        omega
theorem sort_ex : ∀ L : List Int, ∃ ns : List Int, ns.Pairwise (· < ·) ∧ (∀ j, j ∈ ns ↔ j ∈ L) ∧ ns.length ≤ L.length
  | [] => ⟨[], .nil, by simp, by simp⟩
  | x :: L => by
    obtain ⟨ns, h1, h2, h3⟩ := sort_ex L
    refine ⟨insS x ns, ins_pw x ns h1, fun j => ?_, ?_⟩
    · rw [ins_mem, h2, List.mem_cons]
    · have := ins_len x ns
      simp
      omega
theorem gr_ex (es ss : List Int) (h1 : es.length ≤ 3) (h2 : ss.length ≤ 6) : ∃ ns, isGr es ss ns ∧ ns.length ≤ 18 := by
  have hm : es.length * ss.length ≤ 3 * 6 := Nat.mul_le_mul h1 h2
  obtain ⟨ns, a, b, c⟩ := sort_ex (es.flatMap fun e => (ss.filter fun s => decide (s < e)).map fun s => e - s)
  have le : ∀ (as : List Int), (as.flatMap fun e => (ss.filter fun s => decide (s < e)).map fun s => e - s).length ≤ as.length * ss.length := fun as => by
    induction as with
    | nil => simp
    | cons a as ih =>
      rw [List.flatMap_cons, List.length_append, List.length_cons, Nat.succ_mul, List.length_map]
      have := List.length_filter_le (fun s => decide (s < a)) ss
      omega
  have := le es
  refine ⟨ns, ⟨a, fun j => (b j).trans ?_⟩, by omega⟩
  simp only [List.mem_flatMap, List.mem_map, List.mem_filter, decide_eq_true_eq]
  exact ⟨fun ⟨e, he, s, ⟨hs, l⟩, q⟩ => ⟨e, he, s, hs, l, q.symm⟩, fun ⟨e, he, s, hs, l, q⟩ => ⟨e, he, s, ⟨hs, l⟩, q.symm⟩⟩
/-- the gaps along x (0) or y (1) -/
def gE (bs : List Bk) (m : Int) : List Int := bs.map fun b => loB b m
def gS (bs : List Bk) (ps : List (Int × Int)) (m : Int) : List Int := (bs.map fun b => hiB b m) ++ ps.map fun p => ax p m
theorem gE_0 (bs : List Bk) : gE bs 0 = xsE bs := rfl
theorem gE_1 (bs : List Bk) : gE bs 1 = ysE bs := rfl
theorem gS_0 (bs : List Bk) (ps : List (Int × Int)) : gS bs ps 0 = xsS bs ps := rfl
theorem gS_1 (bs : List Bk) (ps : List (Int × Int)) : gS bs ps 1 = ysS bs ps := rfl
@[simp ↓] def sp_grid : VSp := fun us n q _ => ∃ (bs : List Bk) (ps : List (Int × Int)) (m : Int) (ns : List Int), us = [.d (.list (bs.map bkD)), .d (.list (ps.map pD)), .d (.int m)] ∧ (m = 0 ∨ m = 1) ∧ bs.length ≤ 3 ∧ ps.length ≤ 3 ∧ isGr (gE bs m) (gS bs ps m) ns ∧ q (.d (.list (ns.map PyData.int))) n
@[simp ↓] def sp_lranges : VSp := fun us n q _ => ∃ ns : List Int, us = [.d (.list (ns.map PyData.int))] ∧ ns.length ≤ 18 ∧ q (.d (.list ((rngL 1 ns).map niD))) n
@[simp ↓] def sp_inrange : VSp := fun us n q _ => ∃ (p : Int × Option Int) (s : Int), us = [.d (niD p), .d (.int s)] ∧ q (.d (.bool (hasR p s))) n
@[simp ↓] def sp_allcells : VSp := fun us n q _ => ∃ (bs : List Bk) (ps : List (Int × Int)) (xs ys : List Int), us = [.d (.list (bs.map bkD)), .d (.list (ps.map pD))] ∧ bs.length ≤ 3 ∧ ps.length ≤ 3 ∧ isGr (gE bs 0) (gS bs ps 0) xs ∧ isGr (gE bs 1) (gS bs ps 1) ys ∧ xs.length ≤ 18 ∧ ys.length ≤ 18 ∧ q (.d (.list ((cellsL xs ys).map clD))) n
@[simp ↓] def sp_lcell : VSp := fun us n q _ => ∃ (bs : List Bk) (ps : List (Int × Int)) (xs ys : List Int) (a b : Int) (p o : Int × Option Int), us = [.d (.list (bs.map bkD)), .d (.list (ps.map pD)), .d (pr a b)] ∧ bs.length ≤ 3 ∧ ps.length ≤ 3 ∧ isGr (gE bs 0) (gS bs ps 0) xs ∧ isGr (gE bs 1) (gS bs ps 1) ys ∧ xs.length ≤ 18 ∧ ys.length ≤ 18 ∧ inRg xs a p ∧ inRg ys b o ∧ q (.d (clD (p, o))) n
def endN (ns : List Int) (k : Nat) : Int := (0 :: ns).getD k 0
theorem head_rg {xs : List Int} {s : Int} {p : Int × Option Int} (h : inRg xs s p) : (List.map niD (List.filter (fun p => hasR p s) (rngL 1 xs)))[0]? = some (niD p) := by
  rw [List.getElem?_map, ← List.head?_eq_getElem?]
  rw [show (List.filter (fun p => hasR p s) (rngL 1 xs)).head? = some p from h]
  rfl
theorem rg_at {n : Nat} {done left : List Nat} {k : Nat} (h : done ++ k :: left = List.range n) : k = done.length ∧ k < n := by
  have hl := congrArg List.length h
  simp at hl
  have e : (done ++ k :: left)[done.length]? = some k := by
    rw [List.getElem?_append_right (Nat.le_refl _)]
    simp
  rw [h, List.getElem?_range (by omega)] at e
  exact ⟨(Option.some.inj e).symm, by have := Option.some.inj e; omega⟩
section
variable {P : Program} {w : World} {K : PySem.W.Frag} {mg : Str → Option Value} {base : Heap} {TL : List (Addr × Str)}
theorem ok_l_grid (T : Txt K mg) : FnOk P w K mg base CX0 3 T.l_grid.a T.l_grid.d ["blocks", "spots", "flat"] (toSp K T.C TL true sp_grid) := by
  refine T.l_grid.F.ok c_l_grid (fun vs H Q E h => toSp_len h fun us n q e hs => ?_) (fun cdv A outer s H vs Q E hr h => ?_)
  · (first | (obtain ⟨rfl, _⟩ := hs; rfl) | (obtain ⟨_, hs⟩ := hs; (first | (obtain ⟨rfl, _⟩ := hs; rfl) | (obtain ⟨_, hs⟩ := hs; (first | (obtain ⟨rfl, _⟩ := hs; rfl) | (obtain ⟨_, hs⟩ := hs; (first | (obtain ⟨rfl, _⟩ := hs; rfl) | (obtain ⟨_, hs⟩ := hs; (first | (obtain ⟨rfl, _⟩ := hs; rfl) | (obtain ⟨_, hs⟩ := hs; (first | (obtain ⟨rfl, _⟩ := hs; rfl) | (obtain ⟨_, hs⟩ := hs; (first | (obtain ⟨rfl, _⟩ := hs; rfl) | (obtain ⟨_, hs⟩ := hs; (first | (obtain ⟨rfl, _⟩ := hs; rfl) | (obtain ⟨_, hs⟩ := hs; (first | (obtain ⟨rfl, _⟩ := hs; rfl) | (obtain ⟨_, hs⟩ := hs; (first | (obtain ⟨rfl, _⟩ := hs; rfl) | (obtain ⟨_, hs⟩ := hs; (first | (obtain ⟨rfl, _⟩ := hs; rfl) | (obtain ⟨_, hs⟩ := hs; (first | (obtain ⟨rfl, _⟩ := hs; rfl) | (obtain ⟨_, hs⟩ := hs; (first | (obtain ⟨rfl, _⟩ := hs; rfl) | (obtain ⟨_, hs⟩ := hs; (first | (obtain ⟨rfl, _⟩ := hs; rfl) | (obtain ⟨_, hs⟩ := hs; (first | (obtain ⟨rfl, _⟩ := hs; rfl) | (obtain ⟨_, hs⟩ := hs; (first | (obtain ⟨rfl, _⟩ := hs; rfl) | (obtain ⟨_, hs⟩ := hs; (obtain ⟨rfl, _⟩ := hs; rfl)))))))))))))))))))))))))))))))))
  · refine ⟨_,
      (C8.pss_cut (ps_set (i := 3) c_l_grid.nd rfl (Or.inl rfl) (pe_lst pa_nil))
      (pss_cons (ps_for PassesOwn.never rfl (seq3 K (pv 0)) (pg_name (i := 4) c_l_grid.nd rfl (Or.inr rfl))
      (C8.pss_cut (ps_set (i := 3) c_l_grid.nd rfl (Or.inl rfl) (pe_op (add3 K) (pv 3) (pe_lc (own := [("other", 5)]) (g := gName 5) (by rfl) c_l_grid.nd (seq3 K (pv 0)) (blkOk_by (own := [("other", 5)]) (N := N_l_grid) (sc := defScope S_l_grid) (by decide +kernel)) (fun _ _ _ _ _ => pg_name (i := 5) c_l_grid.nd rfl (Or.inl rfl)) (fun _ _ _ _ _ => pts_nil) (fun _ _ _ _ _ => (pe_op op_sub (pe_ix (ix3 K) (pv 4) (pv 2) (fun _ _ => rfl)) (pe_ix (ix3 K) (pv 5) (pe_op (add3 K) (pv 2) pe_int) (fun _ _ => rfl)))))))
      (pss_one (ps_set (i := 3) c_l_grid.nd rfl (Or.inl rfl) (pe_op (add3 K) (pv 3) (pe_lc (own := [("spot", 6)]) (g := gName 6) (by rfl) c_l_grid.nd (seq3 K (pv 1)) (blkOk_by (own := [("spot", 6)]) (N := N_l_grid) (sc := defScope S_l_grid) (by decide +kernel)) (fun _ _ _ _ _ => pg_name (i := 6) c_l_grid.nd rfl (Or.inl rfl)) (fun _ _ _ _ _ => pts_nil) (fun _ _ _ _ _ => (pe_op op_sub (pe_ix (ix3 K) (pv 4) (pv 2) (fun _ _ => rfl)) (pe_ix (ix3 K) (pv 6) (pv 2) (fun _ _ => rfl))))))))))
      (pss_one (ps_ret (pe_callB (sortedSet3 w rfl) (by rfl) T.z_sorted (by decide +kernel) (pa_cons (pe_callTy (setL3 K w rfl) (by rfl) T.z_set (by decide +kernel) (pa_cons (pe_lc (own := [("item", 7)]) (g := gName 7) (by rfl) c_l_grid.nd (seq3 K (pv 3)) (blkOk_by (own := [("item", 7)]) (N := N_l_grid) (sc := defScope S_l_grid) (by decide +kernel)) (fun _ _ _ _ _ => pg_name (i := 7) c_l_grid.nd rfl (Or.inl rfl)) (fun _ _ _ _ _ => (pts_one (pt_cmpR op_ge (pv 7) pe_int (nomark _)))) (fun _ _ _ _ _ => (pv 7))) pa_nil)) pa_nil))))))
      , run3 (K := K) (C := T.C) (TL := TL) h fun us n q e hs => ?_⟩
    obtain ⟨bs, ps, m, ns, rfl, hm, h1, h2, hg, hq⟩ := hs
    have sz1 : ∀ k : Nat, k ≤ 1000 → k ≤ sizeLine := fun k hk => Nat.le_of_lt (few (by omega))
    simp [ro0]
    refine Exists.intro (fun ρ k => k = n ∧ ρ = [.fz (.d (.list (bs.map bkD))), .fz (.d (.list (ps.map pD))), .fz (.d (.int m)), .ow (([] : List Int).map PyData.int), .no, .no, .no, .no]) (And.intro ⟨rfl, rfl⟩ ?_)
    rintro ρ k ⟨rfl, rfl⟩
    simp
    refine forL_mapW bkD (fun done left ρ j => ∃ (fs : List Int) (z4 z5 z6 z7 : Sl), j = k ∧ ρ = [.fz (.d (.list (bs.map bkD))), .fz (.d (.list (ps.map pD))), .fz (.d (.int m)), .ow (fs.map PyData.int), z4, z5, z6, z7] ∧ done ++ left = bs ∧ (∀ j, j ∈ fs ↔ ∃ b ∈ done, ∃ s ∈ gS bs ps m, j = loB b m - s) ∧ fs.length ≤ done.length * 6) bs [] _ _ ?_ ?_ ?_
    · rintro done ρ j ⟨fs, z4, z5, z6, z7, rfl, rfl, hd, hf, hl⟩
      rw [List.append_nil] at hd
      subst hd
      simp
      refine ⟨few (by omega), lcL_pure PyData.int PyData.int (fun i => decide (1 ≤ i)) fs _ _ (fun i hi n Kt Ks h => ?_) ?_⟩
      · simp at h ⊢
        exact h
      · have hfl : (fs.filter fun i => decide (1 ≤ i)).length ≤ fs.length := List.length_filter_le _ _
        refine ⟨fs.filter fun i => decide (1 ≤ i), rfl, by omega, fun line up mem _ => ?_⟩
        have e : line = ns := gr_uniq (es := gE done m) (ss := gS done ps m) ⟨up, fun j => (mem j).trans ?_⟩ hg
        · rw [e]
          exact hq
        rw [List.mem_filter, hf, decide_eq_true_eq]
        unfold gE
        constructor
        · rintro ⟨⟨b, hb, s, hs, rfl⟩, l⟩
          exact ⟨_, List.mem_map.mpr ⟨b, hb, rfl⟩, s, hs, by omega, rfl⟩
        · rintro ⟨e, he, s, hs, l, rfl⟩
          obtain ⟨b, hb, rfl⟩ := List.mem_map.mp he
          exact ⟨⟨b, hb, s, hs, rfl⟩, by omega⟩
    · rintro done b left ρ j G hG ⟨fs, z4, z5, z6, z7, rfl, rfl, hd, hf, hl⟩
      have hdl : done.length + (left.length + 1) = bs.length := by
        have := congrArg List.length hd
        simpa using this
      refine Exists.intro (fun ρ i => i = j ∧ ∃ (fs : List Int) (z5 z6 z7 : Sl), ρ = [.fz (.d (.list (bs.map bkD))), .fz (.d (.list (ps.map pD))), .fz (.d (.int m)), .ow (fs.map PyData.int), .fz (.d (bkD b)), z5, z6, z7] ∧ (∀ j, j ∈ fs ↔ (∃ b ∈ done, ∃ s ∈ gS bs ps m, j = loB b m - s) ∨ ∃ s ∈ bs.map (fun b => hiB b m), j = loB b m - s) ∧ fs.length ≤ done.length * 6 + 3) (And.intro ?_ ?_)
      · simp
        refine ⟨few (by omega), lcL_all bkD (fun c => PyData.int (loB b m - hiB c m)) bs _ _ (fun c hc n Kt Ks h => ?_) ?_⟩
        · rcases hm with rfl | rfl <;> simp <;> exact h
        · have e1 : fs.map PyData.int ++ bs.map (fun c => PyData.int (loB b m - hiB c m)) = (fs ++ bs.map (fun c => loB b m - hiB c m)).map PyData.int := by
            rw [List.map_append, List.map_map]
            rfl
          rw [e1, if_pos (flat_ints _)]
          refine ⟨sz1 _ (by simp; omega), rfl, fs ++ bs.map (fun c => loB b m - hiB c m), ⟨_, _, _, rfl⟩, fun j => ?_, by simp; omega⟩
          rw [List.mem_append, hf, List.mem_map]
          refine or_congr Iff.rfl ⟨fun ⟨c, hc, e⟩ => ⟨_, ⟨c, hc, rfl⟩, e.symm⟩, fun ⟨s, ⟨c, hc, hs⟩, e⟩ => ⟨c, hc, by rw [hs, e]⟩⟩
      rintro ρ i ⟨rfl, fs, z5, z6, z7, rfl, hf2, hl2⟩
      simp
      refine ⟨few (by omega), lcL_all pD (fun c => PyData.int (loB b m - ax c m)) ps _ _ (fun c hc n Kt Ks h => ?_) ?_⟩
      · rcases hm with rfl | rfl <;> simp <;> exact h
      have e1 : fs.map PyData.int ++ ps.map (fun c => PyData.int (loB b m - ax c m)) = (fs ++ ps.map (fun c => loB b m - ax c m)).map PyData.int := by
        rw [List.map_append, List.map_map]
        rfl
      rw [e1, if_pos (flat_ints _)]
      refine ⟨sz1 _ (by simp; omega), hG _ _ ⟨_, _, _, _, _, rfl, rfl, by rw [← hd]; simp, fun j => ?_, by simp; omega⟩⟩
      rw [List.mem_append, hf2, List.mem_map, or_assoc]
      constructor
      · rintro (⟨c, hc, q⟩ | ⟨s, hs, e⟩ | ⟨c, hc, e⟩)
        · exact ⟨c, List.mem_append_left _ hc, q⟩
        · exact ⟨b, List.mem_append_right _ (List.mem_singleton.mpr rfl), s, List.mem_append_left _ hs, e⟩
        · exact ⟨b, List.mem_append_right _ (List.mem_singleton.mpr rfl), _, List.mem_append_right _ (List.mem_map.mpr ⟨c, hc, rfl⟩), e.symm⟩
      · rintro ⟨c, hc, s, hs, e⟩
        rcases List.mem_append.mp hc with y | y
        · exact .inl ⟨c, y, s, hs, e⟩
        · rw [List.mem_singleton.mp y] at e
          rcases List.mem_append.mp hs with q | q
          · exact .inr (.inl ⟨s, q, e⟩)
          · obtain ⟨d, hd, rfl⟩ := List.mem_map.mp q
            exact .inr (.inr ⟨d, hd, e.symm⟩)
    · exact ⟨[], _, _, _, _, rfl, rfl, rfl, (fun j => by simp), by simp⟩
theorem ok_l_ranges (T : Txt K mg) : FnOk P w K mg base CX0 1 T.l_ranges.a T.l_ranges.d ["numbers"] (toSp K T.C TL true sp_lranges) := by
  refine T.l_ranges.F.ok c_l_ranges (fun vs H Q E h => toSp_len h fun us n q e hs => ?_) (fun cdv A outer s H vs Q E hr h => ?_)
  · (first | (obtain ⟨rfl, _⟩ := hs; rfl) | (obtain ⟨_, hs⟩ := hs; (first | (obtain ⟨rfl, _⟩ := hs; rfl) | (obtain ⟨_, hs⟩ := hs; (first | (obtain ⟨rfl, _⟩ := hs; rfl) | (obtain ⟨_, hs⟩ := hs; (first | (obtain ⟨rfl, _⟩ := hs; rfl) | (obtain ⟨_, hs⟩ := hs; (first | (obtain ⟨rfl, _⟩ := hs; rfl) | (obtain ⟨_, hs⟩ := hs; (first | (obtain ⟨rfl, _⟩ := hs; rfl) | (obtain ⟨_, hs⟩ := hs; (first | (obtain ⟨rfl, _⟩ := hs; rfl) | (obtain ⟨_, hs⟩ := hs; (first | (obtain ⟨rfl, _⟩ := hs; rfl) | (obtain ⟨_, hs⟩ := hs; (first | (obtain ⟨rfl, _⟩ := hs; rfl) | (obtain ⟨_, hs⟩ := hs; (first | (obtain ⟨rfl, _⟩ := hs; rfl) | (obtain ⟨_, hs⟩ := hs; (first | (obtain ⟨rfl, _⟩ := hs; rfl) | (obtain ⟨_, hs⟩ := hs; (first | (obtain ⟨rfl, _⟩ := hs; rfl) | (obtain ⟨_, hs⟩ := hs; (first | (obtain ⟨rfl, _⟩ := hs; rfl) | (obtain ⟨_, hs⟩ := hs; (first | (obtain ⟨rfl, _⟩ := hs; rfl) | (obtain ⟨_, hs⟩ := hs; (first | (obtain ⟨rfl, _⟩ := hs; rfl) | (obtain ⟨_, hs⟩ := hs; (first | (obtain ⟨rfl, _⟩ := hs; rfl) | (obtain ⟨_, hs⟩ := hs; (obtain ⟨rfl, _⟩ := hs; rfl)))))))))))))))))))))))))))))))))
  · refine ⟨_,
      (pss_cons (ps_set (i := 1) c_l_ranges.nd rfl (Or.inl rfl) (pe_op (add3 K) (pe_lst (pa_cons pe_int pa_nil)) (pe_callTy (list3 K) (by rfl) T.z_list (by decide +kernel) (pa_cons (pv 0) pa_nil))))
      (pss_cons (ps_set (i := 2) c_l_ranges.nd rfl (Or.inl rfl) (pe_lst pa_nil))
      (pss_cons (ps_for PassesOwn.never rfl (enum3 K (by rfl) T.z_enumerate (pa_cons (pv 0) pa_nil)) (tupG3 K (n := 2) rfl (pgs_cons (pg_name (i := 3) c_l_ranges.nd rfl (Or.inl rfl) (hf := Or.inr rfl)) (pgs_cons (pg_name (i := 4) c_l_ranges.nd rfl (Or.inl rfl) (hf := Or.inr rfl)) pgs_nil)))
      (pss_cons (ps_if (pt_cmpR op_lt (pe_op (add3 K) (pe_ix (ix3 K) (pv 1) (pv 3) (fun _ _ => rfl)) pe_int) (pv 4) (nomark _))
      (pss_one (ps_expr (bm3 K PySem.F.plainAttrs_list PySem.F.slot_list_append PySem.F.type_list_append mt_append (pv 2) (pa_cons (pe_tup (pa_cons (pe_op (add3 K) (pe_ix (ix3 K) (pv 1) (pv 3) (fun _ _ => rfl)) pe_int) (pa_cons (pe_op op_sub (pv 4) pe_int) pa_nil))) pa_nil))))
      pss_nil)
      (pss_one (ps_expr (bm3 K PySem.F.plainAttrs_list PySem.F.slot_list_append PySem.F.type_list_append mt_append (pv 2) (pa_cons (pe_tup (pa_cons (pv 4) (pa_cons (pv 4) pa_nil))) pa_nil))))))
      (pss_one (ps_ret (pe_op (add3 K) (pv 2) (pe_lst (pa_cons (pe_tup (pa_cons (pe_op (add3 K) (pe_ix (ix3 K) (pv 1) (pe_un un_neg pe_int) (fun _ _ => rfl)) pe_int) (pa_cons pe_non pa_nil))) pa_nil))))))))
      , run3 (K := K) (C := T.C) (TL := TL) h fun us n q e hs => ?_⟩
    obtain ⟨ns, rfl, hl, hq⟩ := hs
    have sz1 : ∀ k : Nat, k ≤ 1000 → k ≤ sizeLine := fun k hk => Nat.le_of_lt (few (by omega))
    have np : V3.numD (ns.map PyData.int) = (List.range ns.length).map fun k => PyData.tuple [.int (k : Nat), (ns.map PyData.int).getD k .none] := by
      rw [numD_rng, List.length_map]
    simp [ro0, -V3.forL, flat_ints]
    refine ⟨sz1 _ (by omega), ?_⟩
    rw [np]
    refine forL_mapW (fun k : Nat => PyData.tuple [.int (k : Nat), (ns.map PyData.int).getD k .none]) (fun done left ρ m => ∃ (fs : List (Int × Option Int)) (z3 z4 : Sl), m = n ∧ ρ = [.fz (.d (.list (ns.map PyData.int))), .ow (.int 0 :: ns.map PyData.int), .ow (fs.map niD), z3, z4] ∧ done ++ left = List.range ns.length ∧ rngL 1 ns = fs ++ rngL (endN ns done.length + 1) (ns.drop done.length) ∧ fs.length ≤ 2 * done.length) (List.range ns.length) [] _ _ ?_ ?_ ?_
    · rintro done ρ m ⟨fs, z3, z4, rfl, rfl, hd, hr, hf⟩
      have hdl := congrArg List.length hd
      simp at hdl
      rw [hdl, List.drop_length] at hr
      have el : (PyData.int 0 :: ns.map PyData.int).getLast? = some (.int (endN ns ns.length)) := by
        rw [List.getLast?_eq_getElem?]
        have e2 : (PyData.int 0 :: ns.map PyData.int) = (0 :: ns).map PyData.int := rfl
        rw [e2, List.getElem?_map]
        unfold endN
        rw [List.getD_eq_getElem?_getD]
        simp
      simp
      rw [el]
      have e3 : List.map niD fs ++ [PyData.tuple [PyData.int (intU (U.d (PyData.int (endN ns ns.length))) + 1), PyData.none]] = (rngL 1 ns).map niD := by
        rw [hr, List.map_append]
        rfl
      refine ⟨rfl, sz1 _ (by omega), ?_⟩
      rw [e3]
      exact hq
    · rintro done k left ρ m G hG ⟨fs, z3, z4, rfl, rfl, hd, hr, hf⟩
      obtain ⟨rfl, hk⟩ := rg_at hd
      have hn : ns[done.length]? = some ns[done.length] := List.getElem?_eq_getElem hk
      have ea : (PyData.int 0 :: ns.map PyData.int)[done.length]? = some (.int (endN ns done.length)) := by
        have e2 : (PyData.int 0 :: ns.map PyData.int) = (0 :: ns).map PyData.int := rfl
        rw [e2, List.getElem?_map]
        unfold endN
        rw [List.getD_eq_getElem?_getD, List.getElem?_eq_getElem (show done.length < (0 :: ns).length by simp; omega)]
        rfl
      have eb : (ns.map PyData.int).getD done.length .none = .int ns[done.length] := by
        rw [List.getD_eq_getElem?_getD, List.getElem?_map, hn]
        rfl
      rw [List.drop_eq_getElem_cons hk] at hr
      have en : endN ns (done.length + 1) = ns[done.length] := by
        unfold endN
        rw [List.getD_eq_getElem?_getD, List.getElem?_cons_succ, hn]
        rfl
      rw [eb]
      simp [ea]
      have hd2 : (done ++ [done.length]) ++ left = List.range ns.length := by rw [← hd]; simp
      by_cases c : endN ns done.length + 1 < ns[done.length]
      · simp only [c, if_true]
        refine ⟨few (by omega), few (by omega), hG _ _ ⟨fs ++ [(endN ns done.length + 1, some (ns[done.length] - 1)), (ns[done.length], some ns[done.length])], _, _, rfl, by rw [List.map_append]; rfl, hd2, ?_, by simp; omega⟩⟩
        rw [List.length_append, List.length_singleton, en, hr, List.append_assoc]
        show fs ++ ((if endN ns done.length + 1 < ns[done.length] then [(endN ns done.length + 1, some (ns[done.length] - 1))] else []) ++ (ns[done.length], some ns[done.length]) :: rngL (ns[done.length] + 1) (ns.drop (done.length + 1))) = _
        rw [if_pos c]
        rfl
      · simp only [c, if_false]
        refine ⟨few (by omega), hG _ _ ⟨fs ++ [(ns[done.length], some ns[done.length])], _, _, rfl, by rw [List.map_append]; rfl, hd2, ?_, by simp; omega⟩⟩
        rw [List.length_append, List.length_singleton, en, hr, List.append_assoc]
        show fs ++ ((if endN ns done.length + 1 < ns[done.length] then [(endN ns done.length + 1, some (ns[done.length] - 1))] else []) ++ (ns[done.length], some ns[done.length]) :: rngL (ns[done.length] + 1) (ns.drop (done.length + 1))) = _
        rw [if_neg c]
        rfl
    · exact ⟨[], _, _, rfl, rfl, rfl, rfl, by simp⟩
theorem ok_l_in_range (T : Txt K mg) : FnOk P w K mg base CX0 1 T.l_in_range.a T.l_in_range.d ["one", "size"] (toSp K T.C TL false sp_inrange) := by
  refine T.l_in_range.F.ok c_l_in_range (fun vs H Q E h => toSp_len h fun us n q e hs => ?_) (fun cdv A outer s H vs Q E hr h => ?_)
  · (first | (obtain ⟨rfl, _⟩ := hs; rfl) | (obtain ⟨_, hs⟩ := hs; (first | (obtain ⟨rfl, _⟩ := hs; rfl) | (obtain ⟨_, hs⟩ := hs; (first | (obtain ⟨rfl, _⟩ := hs; rfl) | (obtain ⟨_, hs⟩ := hs; (first | (obtain ⟨rfl, _⟩ := hs; rfl) | (obtain ⟨_, hs⟩ := hs; (first | (obtain ⟨rfl, _⟩ := hs; rfl) | (obtain ⟨_, hs⟩ := hs; (first | (obtain ⟨rfl, _⟩ := hs; rfl) | (obtain ⟨_, hs⟩ := hs; (first | (obtain ⟨rfl, _⟩ := hs; rfl) | (obtain ⟨_, hs⟩ := hs; (first | (obtain ⟨rfl, _⟩ := hs; rfl) | (obtain ⟨_, hs⟩ := hs; (first | (obtain ⟨rfl, _⟩ := hs; rfl) | (obtain ⟨_, hs⟩ := hs; (first | (obtain ⟨rfl, _⟩ := hs; rfl) | (obtain ⟨_, hs⟩ := hs; (first | (obtain ⟨rfl, _⟩ := hs; rfl) | (obtain ⟨_, hs⟩ := hs; (first | (obtain ⟨rfl, _⟩ := hs; rfl) | (obtain ⟨_, hs⟩ := hs; (first | (obtain ⟨rfl, _⟩ := hs; rfl) | (obtain ⟨_, hs⟩ := hs; (first | (obtain ⟨rfl, _⟩ := hs; rfl) | (obtain ⟨_, hs⟩ := hs; (first | (obtain ⟨rfl, _⟩ := hs; rfl) | (obtain ⟨_, hs⟩ := hs; (first | (obtain ⟨rfl, _⟩ := hs; rfl) | (obtain ⟨_, hs⟩ := hs; (obtain ⟨rfl, _⟩ := hs; rfl)))))))))))))))))))))))))))))))))
  · refine ⟨_,
      (pss_one (ps_ret (pe_and (pe_cmpR op_le (pe_ix (ix3 K) (pv 0) pe_int (fun _ _ => rfl)) (pv 1) (nomark _)) (pe_one (pe_or (pe_cmpR op_isN3 (pe_ix (ix3 K) (pv 0) pe_int (fun _ _ => rfl)) pe_non (nomark _)) (pe_one (pe_cmpR op_le (pv 1) (pe_ix (ix3 K) (pv 0) pe_int (fun _ _ => rfl)) (nomark _))))))))
      , run3 (K := K) (C := T.C) (TL := TL) h fun us n q e hs => ?_⟩
    obtain ⟨⟨a, b⟩, s, rfl, hq⟩ := hs
    cases b <;> simp [ro0, hasR] at hq ⊢
    · by_cases c : a ≤ s <;> simpa [c] using hq
    · by_cases c : a ≤ s <;> simpa [c] using hq
theorem ok_l_all_cells (T : Txt K mg) : FnOk P w K mg base CX0 4 T.l_all_cells.a T.l_all_cells.d ["blocks", "spots"] (toSp K T.C TL true sp_allcells) := by
  refine T.l_all_cells.F.ok c_l_all_cells (fun vs H Q E h => toSp_len h fun us n q e hs => ?_) (fun cdv A outer s H vs Q E hr h => ?_)
  · (first | (obtain ⟨rfl, _⟩ := hs; rfl) | (obtain ⟨_, hs⟩ := hs; (first | (obtain ⟨rfl, _⟩ := hs; rfl) | (obtain ⟨_, hs⟩ := hs; (first | (obtain ⟨rfl, _⟩ := hs; rfl) | (obtain ⟨_, hs⟩ := hs; (first | (obtain ⟨rfl, _⟩ := hs; rfl) | (obtain ⟨_, hs⟩ := hs; (first | (obtain ⟨rfl, _⟩ := hs; rfl) | (obtain ⟨_, hs⟩ := hs; (first | (obtain ⟨rfl, _⟩ := hs; rfl) | (obtain ⟨_, hs⟩ := hs; (first | (obtain ⟨rfl, _⟩ := hs; rfl) | (obtain ⟨_, hs⟩ := hs; (first | (obtain ⟨rfl, _⟩ := hs; rfl) | (obtain ⟨_, hs⟩ := hs; (first | (obtain ⟨rfl, _⟩ := hs; rfl) | (obtain ⟨_, hs⟩ := hs; (first | (obtain ⟨rfl, _⟩ := hs; rfl) | (obtain ⟨_, hs⟩ := hs; (first | (obtain ⟨rfl, _⟩ := hs; rfl) | (obtain ⟨_, hs⟩ := hs; (first | (obtain ⟨rfl, _⟩ := hs; rfl) | (obtain ⟨_, hs⟩ := hs; (first | (obtain ⟨rfl, _⟩ := hs; rfl) | (obtain ⟨_, hs⟩ := hs; (first | (obtain ⟨rfl, _⟩ := hs; rfl) | (obtain ⟨_, hs⟩ := hs; (first | (obtain ⟨rfl, _⟩ := hs; rfl) | (obtain ⟨_, hs⟩ := hs; (first | (obtain ⟨rfl, _⟩ := hs; rfl) | (obtain ⟨_, hs⟩ := hs; (obtain ⟨rfl, _⟩ := hs; rfl)))))))))))))))))))))))))))))))))
  · refine ⟨_,
      (pss_cons (ps_set (i := 2) c_l_all_cells.nd rfl (Or.inl rfl) (pe_lst pa_nil))
      (pss_cons (ps_for PassesOwn.never rfl (seq3 K (pe_call (ok_l_ranges T (TL := TL)) (hr.mono (by decide)) rfl T.l_ranges.g T.l_ranges.k T.l_ranges.b .nil pass0 (pa_cons (pe_call (ok_l_grid T (TL := TL)) (hr.mono (by decide)) rfl T.l_grid.g T.l_grid.k T.l_grid.b .nil pass0 (pa_cons (pv 0) (pa_cons (pv 1) (pa_cons pe_int pa_nil)))) pa_nil))) (pg_name (i := 3) c_l_all_cells.nd rfl (Or.inr rfl))
      (pss_one (ps_set (i := 2) c_l_all_cells.nd rfl (Or.inl rfl) (pe_op (add3 K) (pv 2) (pe_lc (own := [("tall", 4)]) (g := gName 4) (by rfl) c_l_all_cells.nd (seq3 K (pe_call (ok_l_ranges T (TL := TL)) (hr.mono (by decide)) rfl T.l_ranges.g T.l_ranges.k T.l_ranges.b .nil pass0 (pa_cons (pe_call (ok_l_grid T (TL := TL)) (hr.mono (by decide)) rfl T.l_grid.g T.l_grid.k T.l_grid.b .nil pass0 (pa_cons (pv 0) (pa_cons (pv 1) (pa_cons pe_int pa_nil)))) pa_nil))) (blkOk_by (own := [("tall", 4)]) (N := N_l_all_cells) (sc := defScope S_l_all_cells) (by decide +kernel)) (fun _ _ _ _ _ => pg_name (i := 4) c_l_all_cells.nd rfl (Or.inl rfl)) (fun _ _ _ _ _ => pts_nil) (fun _ _ _ _ _ => (pe_tup (pa_cons (pv 3) (pa_cons (pv 4) pa_nil)))))))))
      (pss_one (ps_ret (pv 2)))))
      , run3 (K := K) (C := T.C) (TL := TL) h fun us n q e hs => ?_⟩
    obtain ⟨bs, ps, xs, ys, rfl, h1, h2, hx, hy, lx, ly, hq⟩ := hs
    have sz1 : ∀ k : Nat, k ≤ 5000 → k ≤ sizeLine := fun k hk => Nat.le_of_lt (few (by omega))
    have rx := rng_len xs 1
    have ry := rng_len ys 1
    have fl : ∀ cs : List ((Int × Option Int) × (Int × Option Int)), V3.flatAll (cs.map clD) = true := fun cs => by
      induction cs with
      | nil => rfl
      | cons c cs ih =>
        show ((V3.flat (niD c.1) && (V3.flat (niD c.2) && true)) && V3.flatAll (cs.map clD)) = true
        rw [flat_ni, flat_ni, ih]
        rfl
    simp [ro0, -V3.forL]
    refine ⟨bs, ps, 0, ⟨rfl, rfl, rfl⟩, .inl rfl, h1, h2, xs, hx, xs, rfl, lx, ?_⟩
    refine forL_mapW niD (fun done left ρ m => m = n ∧ ∃ (cs : List ((Int × Option Int) × (Int × Option Int))) (z3 z4 : Sl), ρ = [.fz (.d (.list (bs.map bkD))), .fz (.d (.list (ps.map pD))), .ow (cs.map clD), z3, z4] ∧ done ++ left = rngL 1 xs ∧ cs = done.flatMap (fun w => (rngL 1 ys).map fun h => (w, h)) ∧ cs.length ≤ done.length * 37) (rngL 1 xs) [] _ _ ?_ ?_ ?_
    · rintro done ρ m ⟨rfl, cs, z3, z4, rfl, hd, hc, _⟩
      rw [List.append_nil] at hd
      subst hc
      simp only [hd]
      simp
      unfold cellsL at hq
      simpa using hq
    · rintro done w left ρ m G hG ⟨rfl, cs, z3, z4, rfl, hd, hc, hl⟩
      have hdl : done.length + (left.length + 1) = (rngL 1 xs).length := by
        have := congrArg List.length hd
        simpa using this
      simp
      refine ⟨bs, ps, 1, ⟨rfl, rfl, rfl⟩, .inr rfl, h1, h2, ys, hy, ys, rfl, ly, few (by omega), lcL_all niD (fun h => clD (w, h)) (rngL 1 ys) _ _ (fun h _ n Kt Ks k => ?_) ?_⟩
      · simp
        exact k
      · have e1 : cs.map clD ++ (rngL 1 ys).map (fun h => clD (w, h)) = (cs ++ (rngL 1 ys).map fun h => (w, h)).map clD := by
          rw [List.map_append, List.map_map]
          rfl
        rw [e1, if_pos (fl _)]
        have : done.length ≤ 36 := by omega
        refine ⟨sz1 _ (by simp; omega), hG _ _ ⟨rfl, _, _, _, rfl, by rw [← hd]; simp, by rw [hc, List.flatMap_append]; simp, by simp; omega⟩⟩
    · exact ⟨rfl, [], _, _, rfl, rfl, rfl, by simp⟩
theorem ok_l_cell (T : Txt K mg) : FnOk P w K mg base CX0 4 T.l_cell.a T.l_cell.d ["blocks", "spots", "body"] (toSp K T.C TL false sp_lcell) := by
  refine T.l_cell.F.ok c_l_cell (fun vs H Q E h => toSp_len h fun us n q e hs => ?_) (fun cdv A outer s H vs Q E hr h => ?_)
  · (first | (obtain ⟨rfl, _⟩ := hs; rfl) | (obtain ⟨_, hs⟩ := hs; (first | (obtain ⟨rfl, _⟩ := hs; rfl) | (obtain ⟨_, hs⟩ := hs; (first | (obtain ⟨rfl, _⟩ := hs; rfl) | (obtain ⟨_, hs⟩ := hs; (first | (obtain ⟨rfl, _⟩ := hs; rfl) | (obtain ⟨_, hs⟩ := hs; (first | (obtain ⟨rfl, _⟩ := hs; rfl) | (obtain ⟨_, hs⟩ := hs; (first | (obtain ⟨rfl, _⟩ := hs; rfl) | (obtain ⟨_, hs⟩ := hs; (first | (obtain ⟨rfl, _⟩ := hs; rfl) | (obtain ⟨_, hs⟩ := hs; (first | (obtain ⟨rfl, _⟩ := hs; rfl) | (obtain ⟨_, hs⟩ := hs; (first | (obtain ⟨rfl, _⟩ := hs; rfl) | (obtain ⟨_, hs⟩ := hs; (first | (obtain ⟨rfl, _⟩ := hs; rfl) | (obtain ⟨_, hs⟩ := hs; (first | (obtain ⟨rfl, _⟩ := hs; rfl) | (obtain ⟨_, hs⟩ := hs; (first | (obtain ⟨rfl, _⟩ := hs; rfl) | (obtain ⟨_, hs⟩ := hs; (first | (obtain ⟨rfl, _⟩ := hs; rfl) | (obtain ⟨_, hs⟩ := hs; (first | (obtain ⟨rfl, _⟩ := hs; rfl) | (obtain ⟨_, hs⟩ := hs; (first | (obtain ⟨rfl, _⟩ := hs; rfl) | (obtain ⟨_, hs⟩ := hs; (first | (obtain ⟨rfl, _⟩ := hs; rfl) | (obtain ⟨_, hs⟩ := hs; (obtain ⟨rfl, _⟩ := hs; rfl)))))))))))))))))))))))))))))))))
  · refine ⟨_,
      (pss_cons (ps_setLc (i := 3) (own := [("one", 5)]) (g := gName 5) (by rfl) c_l_cell.nd rfl rfl (sw_true rfl rfl rfl (by decide +kernel)) (seq3 K (pe_call (ok_l_ranges T (TL := TL)) (hr.mono (by decide)) rfl T.l_ranges.g T.l_ranges.k T.l_ranges.b .nil pass0 (pa_cons (pe_call (ok_l_grid T (TL := TL)) (hr.mono (by decide)) rfl T.l_grid.g T.l_grid.k T.l_grid.b .nil pass0 (pa_cons (pv 0) (pa_cons (pv 1) (pa_cons pe_int pa_nil)))) pa_nil))) (blkOk_by (own := [("one", 5)]) (N := N_l_cell) (sc := defScope S_l_cell) (by decide +kernel)) (fun _ _ _ _ _ => pg_name (i := 5) c_l_cell.nd rfl (Or.inl rfl)) (fun _ _ _ _ _ => (pts_one (pt_val (pe_call (ok_l_in_range T (TL := TL)) (hr.mono (by decide)) rfl T.l_in_range.g T.l_in_range.k T.l_in_range.b .nil pass0 (pa_cons (pv 5) (pa_cons (pe_ix (ix3 K) (pv 2) pe_int (fun _ _ => rfl)) pa_nil)))))) (fun _ _ _ _ _ => (pv 5)))
      (pss_cons (ps_setLc (i := 4) (own := [("one", 5)]) (g := gName 5) (by rfl) c_l_cell.nd rfl rfl (sw_true rfl rfl rfl (by decide +kernel)) (seq3 K (pe_call (ok_l_ranges T (TL := TL)) (hr.mono (by decide)) rfl T.l_ranges.g T.l_ranges.k T.l_ranges.b .nil pass0 (pa_cons (pe_call (ok_l_grid T (TL := TL)) (hr.mono (by decide)) rfl T.l_grid.g T.l_grid.k T.l_grid.b .nil pass0 (pa_cons (pv 0) (pa_cons (pv 1) (pa_cons pe_int pa_nil)))) pa_nil))) (blkOk_by (own := [("one", 5)]) (N := N_l_cell) (sc := defScope S_l_cell) (by decide +kernel)) (fun _ _ _ _ _ => pg_name (i := 5) c_l_cell.nd rfl (Or.inl rfl)) (fun _ _ _ _ _ => (pts_one (pt_val (pe_call (ok_l_in_range T (TL := TL)) (hr.mono (by decide)) rfl T.l_in_range.g T.l_in_range.k T.l_in_range.b .nil pass0 (pa_cons (pv 5) (pa_cons (pe_ix (ix3 K) (pv 2) pe_int (fun _ _ => rfl)) pa_nil)))))) (fun _ _ _ _ _ => (pv 5)))
      (pss_one (ps_ret (pe_tup (pa_cons (pe_ix (ix3 K) (pv 3) pe_int (fun _ _ => rfl)) (pa_cons (pe_ix (ix3 K) (pv 4) pe_int (fun _ _ => rfl)) pa_nil)))))))
      , run3 (K := K) (C := T.C) (TL := TL) h fun us n q e hs => ?_⟩
    obtain ⟨bs, ps, xs, ys, a, b, p, o, rfl, h1, h2, hx, hy, lx, ly, hp, ho, hq⟩ := hs
    have rx := rng_len xs 1
    have ry := rng_len ys 1
    simp [ro0, -V3.forL]
    refine ⟨bs, ps, 0, ⟨rfl, rfl, rfl⟩, .inl rfl, h1, h2, xs, hx, xs, rfl, lx, few (by omega), lcL_pure niD niD (fun p => hasR p a) (rngL 1 xs) _ _ (fun p _ m Kt Ks k => ?_) ?_⟩
    · simp
      exact ⟨p.1, p.2, a, ⟨⟨rfl, rfl⟩, rfl⟩, k⟩
    refine ⟨bs, ps, 1, ⟨rfl, rfl, rfl⟩, .inr rfl, h1, h2, ys, hy, ys, rfl, ly, few (by omega), lcL_pure niD niD (fun p => hasR p b) (rngL 1 ys) _ _ (fun p _ m Kt Ks k => ?_) ?_⟩
    · simp
      exact ⟨p.1, p.2, b, ⟨⟨rfl, rfl⟩, rfl⟩, k⟩
    rw [head_rg hp, head_rg ho]
    exact hq
end
end G21
set_option Elab.async false
set_option linter.all false
set_option maxRecDepth 100000
set_option maxHeartbeats 4000000
set_option synthInstance.maxSize 100000
set_option synthInstance.maxHeartbeats 0
namespace G21
open PySem PySem.Spec PyProof.Rows L2 V3
@[simp ↓] def sp_spot : VSp := fun us n q _ => ∃ (bs : List Bk), us = [.dr, .d (.list (bs.map bkD))] ∧ n + 100 ≤ topD ∧ bs.length ≤ 12 ∧ (∀ b ∈ bs, inR (-1000000) 1000000 b ∧ b.ok) ∧ ∀ (x y : Int) (n' : Nat), inP 1000010 (x, y) → n' ≤ n + 8 → q (.d (pr x y)) n'
theorem pickS {y : D} (h : y ∈ [PyData.int 0, .int 1, .int 2, .int (-1), .int (-2), .int (-3)]) : ∃ z : Int, y = .int z ∧ -3 ≤ z ∧ z ≤ 2 := by
  simp only [List.mem_cons, List.not_mem_nil, or_false] at h
  rcases h with rfl | rfl | rfl | rfl | rfl | rfl <;> exact ⟨_, rfl, by decide, by decide⟩
section
variable {P : Program} {w : World} {K : PySem.W.Frag} {mg : Str → Option Value} {base : Heap} {TL : List (Addr × Str)}
theorem ok_l_spot (T : Txt K mg) : FnOk P w K mg base CX0 4 T.l_spot.a T.l_spot.d ["draw", "blocks"] (toSp K T.C TL false sp_spot) := by
  refine T.l_spot.F.ok c_l_spot (fun vs H Q E h => toSp_len h fun us n q e hs => ?_) (fun cdv A outer s H vs Q E hr h => ?_)
  · (first | (obtain ⟨rfl, _⟩ := hs; rfl) | (obtain ⟨_, hs⟩ := hs; (first | (obtain ⟨rfl, _⟩ := hs; rfl) | (obtain ⟨_, hs⟩ := hs; (first | (obtain ⟨rfl, _⟩ := hs; rfl) | (obtain ⟨_, hs⟩ := hs; (first | (obtain ⟨rfl, _⟩ := hs; rfl) | (obtain ⟨_, hs⟩ := hs; (first | (obtain ⟨rfl, _⟩ := hs; rfl) | (obtain ⟨_, hs⟩ := hs; (first | (obtain ⟨rfl, _⟩ := hs; rfl) | (obtain ⟨_, hs⟩ := hs; (first | (obtain ⟨rfl, _⟩ := hs; rfl) | (obtain ⟨_, hs⟩ := hs; (first | (obtain ⟨rfl, _⟩ := hs; rfl) | (obtain ⟨_, hs⟩ := hs; (first | (obtain ⟨rfl, _⟩ := hs; rfl) | (obtain ⟨_, hs⟩ := hs; (first | (obtain ⟨rfl, _⟩ := hs; rfl) | (obtain ⟨_, hs⟩ := hs; (first | (obtain ⟨rfl, _⟩ := hs; rfl) | (obtain ⟨_, hs⟩ := hs; (first | (obtain ⟨rfl, _⟩ := hs; rfl) | (obtain ⟨_, hs⟩ := hs; (first | (obtain ⟨rfl, _⟩ := hs; rfl) | (obtain ⟨_, hs⟩ := hs; (first | (obtain ⟨rfl, _⟩ := hs; rfl) | (obtain ⟨_, hs⟩ := hs; (first | (obtain ⟨rfl, _⟩ := hs; rfl) | (obtain ⟨_, hs⟩ := hs; (first | (obtain ⟨rfl, _⟩ := hs; rfl) | (obtain ⟨_, hs⟩ := hs; (obtain ⟨rfl, _⟩ := hs; rfl)))))))))))))))))))))))))))))))))
  · refine ⟨_,
      (pss_cons (ps_set (i := 2) c_l_spot.nd rfl (Or.inl rfl) (pe_op (add3 K) (pe_op (add3 K) (pe_lc (own := [("block", 6)]) (g := gName 6) (by rfl) c_l_spot.nd (seq3 K (pv 1)) (blkOk_by (own := [("block", 6)]) (N := N_l_spot) (sc := defScope S_l_spot) (by decide +kernel)) (fun _ _ _ _ _ => pg_name (i := 6) c_l_spot.nd rfl (Or.inl rfl)) (fun _ _ _ _ _ => pts_nil) (fun _ _ _ _ _ => (pe_ix (ix3 K) (pv 6) pe_int (fun _ _ => rfl)))) (pe_lc (own := [("block", 6)]) (g := gName 6) (by rfl) c_l_spot.nd (seq3 K (pv 1)) (blkOk_by (own := [("block", 6)]) (N := N_l_spot) (sc := defScope S_l_spot) (by decide +kernel)) (fun _ _ _ _ _ => pg_name (i := 6) c_l_spot.nd rfl (Or.inl rfl)) (fun _ _ _ _ _ => pts_nil) (fun _ _ _ _ _ => (pe_ix (ix3 K) (pv 6) pe_int (fun _ _ => rfl))))) (pe_lst (pa_cons pe_int pa_nil))))
      (C8.pss_cut (ps_set (i := 3) c_l_spot.nd rfl (Or.inl rfl) (pe_op (add3 K) (pe_op (add3 K) (pe_lc (own := [("block", 6)]) (g := gName 6) (by rfl) c_l_spot.nd (seq3 K (pv 1)) (blkOk_by (own := [("block", 6)]) (N := N_l_spot) (sc := defScope S_l_spot) (by decide +kernel)) (fun _ _ _ _ _ => pg_name (i := 6) c_l_spot.nd rfl (Or.inl rfl)) (fun _ _ _ _ _ => pts_nil) (fun _ _ _ _ _ => (pe_ix (ix3 K) (pv 6) pe_int (fun _ _ => rfl)))) (pe_lc (own := [("block", 6)]) (g := gName 6) (by rfl) c_l_spot.nd (seq3 K (pv 1)) (blkOk_by (own := [("block", 6)]) (N := N_l_spot) (sc := defScope S_l_spot) (by decide +kernel)) (fun _ _ _ _ _ => pg_name (i := 6) c_l_spot.nd rfl (Or.inl rfl)) (fun _ _ _ _ _ => pts_nil) (fun _ _ _ _ _ => (pe_ix (ix3 K) (pv 6) pe_int (fun _ _ => rfl))))) (pe_lst (pa_cons pe_int pa_nil))))
      (pss_cons (ps_if (PW.pt (pw_or (pt_cmpR (eq3 K hr.units) (pv 1) (pe_lst pa_nil) (nomark _)) (pw_or1 (pt_cmpR (eq3 K hr.units) (pe_call (ok_l_take T (TL := TL)) (hr.mono (by decide)) rfl T.l_take.g T.l_take.k T.l_take.b .nil pass0 (pa_cons (pv 0) (pa_cons pe_int pa_nil))) pe_int (nomark _)))))
      (pss_one (ps_ret (pe_tup (pa_cons (pe_op op_sub (pe_call (ok_l_take T (TL := TL)) (hr.mono (by decide)) rfl T.l_take.g T.l_take.k T.l_take.b .nil pass0 (pa_cons (pv 0) (pa_cons pe_int pa_nil))) pe_int) (pa_cons (pe_op op_sub (pe_call (ok_l_take T (TL := TL)) (hr.mono (by decide)) rfl T.l_take.g T.l_take.k T.l_take.b .nil pass0 (pa_cons (pv 0) (pa_cons pe_int pa_nil))) pe_int) pa_nil)))))
      pss_nil)
      (C8.pss_cut (ps_par (i := 4) (j := 5) rfl c_l_spot.nd rfl rfl (by decide) rfl rfl (pa_cons (pe_call (ok_l_pick T (TL := TL)) (hr.mono (by decide)) rfl T.l_pick.g T.l_pick.k T.l_pick.b .nil pass0 (pa_cons (pv 0) (pa_cons (pv 2) pa_nil))) (pa_cons (pe_call (ok_l_pick T (TL := TL)) (hr.mono (by decide)) rfl T.l_pick.g T.l_pick.k T.l_pick.b .nil pass0 (pa_cons (pv 0) (pa_cons (pv 3) pa_nil))) pa_nil)) (by with_unfolding_all rfl))
      (pss_cons (ps_if (pt_cmpR (eq3 K hr.units) (pe_call (ok_l_take T (TL := TL)) (hr.mono (by decide)) rfl T.l_take.g T.l_take.k T.l_take.b .nil pass0 (pa_cons (pv 0) (pa_cons pe_int pa_nil))) pe_int (nomark _))
      (pss_one (ps_ret (pe_tup (pa_cons (pv 4) (pa_cons (pv 5) pa_nil)))))
      pss_nil)
      (pss_one (ps_ret (pe_tup (pa_cons (pe_op (add3 K) (pv 4) (pe_call (ok_l_pick T (TL := TL)) (hr.mono (by decide)) rfl T.l_pick.g T.l_pick.k T.l_pick.b .nil pass0 (pa_cons (pv 0) (pa_cons (pe_lst (pa_cons pe_int (pa_cons pe_int (pa_cons pe_int (pa_cons (pe_un un_neg pe_int) (pa_cons (pe_un un_neg pe_int) (pa_cons (pe_un un_neg pe_int) pa_nil))))))) pa_nil)))) (pa_cons (pe_op (add3 K) (pv 5) (pe_call (ok_l_pick T (TL := TL)) (hr.mono (by decide)) rfl T.l_pick.g T.l_pick.k T.l_pick.b .nil pass0 (pa_cons (pv 0) (pa_cons (pe_lst (pa_cons pe_int (pa_cons pe_int (pa_cons pe_int (pa_cons (pe_un un_neg pe_int) (pa_cons (pe_un un_neg pe_int) (pa_cons (pe_un un_neg pe_int) pa_nil))))))) pa_nil)))) pa_nil))))))))))
      , run3 (K := K) (C := T.C) (TL := TL) h fun us n q e hs => ?_⟩
    obtain ⟨bs, rfl, hn, hl, hb, hq⟩ := hs
    have hc := capD_eq
    have z1 : ∀ k : Nat, k ≤ 1000 → k ≤ sizeLine := fun k hk => Nat.le_of_lt (few (by omega))
    have it : ∀ (f : Bk → Int) (g : Bk → Int), (bs.map fun b => PyData.int (f b)) ++ ((bs.map fun b => PyData.int (g b)) ++ [PyData.int 0]) = (bs.map f ++ bs.map g ++ [0]).map PyData.int := fun f g => by
      rw [List.map_append, List.map_append, List.map_map, List.map_map, List.append_assoc]
      rfl
    simp [ro0]
    refine ⟨few (by omega), lcL_all bkD (fun b => .int b.l) bs n _ (fun b _ n Kt Ks h => ?_) ⟨few (by omega), lcL_all bkD (fun b => .int b.r) bs n _ (fun b _ n Kt Ks h => ?_) ⟨z1 _ (by simp; omega), z1 _ (by simp; omega), fun ρ m => m = n ∧ ∃ (as us : List Int) (z1 z2 z3 : Sl), ρ = [.fz .dr, .fz (.d (.list (bs.map bkD))), .ow (as.map PyData.int), .ow (us.map PyData.int), z1, z2, z3] ∧ (∀ i ∈ as ++ us, -1000000 ≤ i ∧ i ≤ 1000000) ∧ as ≠ [] ∧ us ≠ [] ∧ as.length ≤ 100 ∧ us.length ≤ 100, ⟨few (by omega), lcL_all bkD (fun b => .int b.d) bs n _ (fun b _ n Kt Ks h => ?_) ⟨few (by omega), lcL_all bkD (fun b => .int b.u) bs n _ (fun b _ n Kt Ks h => ?_) ⟨z1 _ (by simp; omega), z1 _ (by simp; omega), rfl, bs.map Bk.l ++ bs.map Bk.r ++ [0], bs.map Bk.d ++ bs.map Bk.u ++ [0], .no, .no, .no, ?_, ?_, by simp, by simp, by simp; omega, by simp; omega⟩⟩⟩, ?_⟩⟩⟩
    · simp
      exact h
    · simp
      exact h
    · simp
      exact h
    · simp
      exact h
    · rw [it Bk.l Bk.r, it Bk.d Bk.u]
    · intro i hi
      simp only [List.mem_append, List.mem_map, List.mem_singleton] at hi
      rcases hi with ((⟨b, m, rfl⟩ | ⟨b, m, rfl⟩) | rfl) | ((⟨b, m, rfl⟩ | ⟨b, m, rfl⟩) | rfl)
      all_goals
        first
        | omega
        | (obtain ⟨⟨b1, b2, b3, b4⟩, o1, o2⟩ := hb b m
           omega)
    · rintro ρ m ⟨rfl, as, us, z1, z2, z3, rfl, hi, a1, a2, a3, a4⟩
      simp
      refine ⟨shaped_bks bs, by rfl, ?_⟩
      by_cases hb0 : (PyData.list (List.map bkD bs)).eqv (PyData.list []) = true
      · simp only [hb0, if_true]
        refine ⟨by omega, by omega, fun x x0 x1 => ⟨by omega, by omega, fun y y0 y1 => hq _ _ _ ?_ (by omega)⟩⟩
        exact ⟨⟨by show _ ≤ x - 20; omega, by show x - 20 ≤ _; omega⟩, by show _ ≤ y - 20; omega, by show y - 20 ≤ _; omega⟩
      · simp only [hb0, if_false]
        refine ⟨by omega, by omega, fun x x0 x1 => ?_⟩
        split
        · refine ⟨by omega, by omega, fun x x0 x1 => ⟨by omega, by omega, fun y y0 y1 => hq _ _ _ ?_ (by omega)⟩⟩
          exact ⟨⟨by show _ ≤ x - 20; omega, by show x - 20 ≤ _; omega⟩, by show _ ≤ y - 20; omega, by show y - 20 ≤ _; omega⟩
        · refine ⟨fun ρ k => k = m + 3 ∧ ∃ (x y : Int) (z : Sl), ρ = [.fz .dr, .fz (.d (.list (bs.map bkD))), .ow (as.map PyData.int), .ow (us.map PyData.int), .fz (.d (.int x)), .fz (.d (.int y)), z] ∧ inP 1000000 (x, y), ⟨by omega, a1, by omega, fun a ha => ⟨by omega, a2, by omega, fun u hu => ⟨rfl, a, u, _, rfl, ?_⟩⟩⟩, ?_⟩
          · obtain ⟨i1, i2⟩ := hi a (List.mem_append_left _ ha)
            obtain ⟨i3, i4⟩ := hi u (List.mem_append_right _ hu)
            exact ⟨⟨i1, i2⟩, i3, i4⟩
          · rintro ρ k ⟨rfl, x, y, z, rfl, ⟨x1, x2⟩, y1, y2⟩
            simp only at x1 x2 y1 y2
            simp [-List.mem_cons]
            refine ⟨by omega, by omega, fun t t0 t1 => ?_⟩
            split
            · exact hq _ _ _ ⟨⟨by show _ ≤ x; omega, by show x ≤ _; omega⟩, by show _ ≤ y; omega, by show y ≤ _; omega⟩ (by omega)
            · refine ⟨by omega, fun y1 h1 => ?_⟩
              obtain ⟨i, rfl, i0, i1⟩ := pickS h1
              refine ⟨rfl, by omega, fun y2 h2 => ?_⟩
              obtain ⟨j, rfl, j0, j1⟩ := pickS h2
              exact ⟨rfl, hq _ _ _ ⟨⟨by show _ ≤ x + i; omega, by show x + i ≤ _; omega⟩, by show _ ≤ y + j; omega, by show y + j ≤ _; omega⟩ (by omega)⟩
end
end G21
set_option Elab.async false
set_option linter.all false
set_option maxRecDepth 100000
set_option maxHeartbeats 4000000
set_option synthInstance.maxSize 100000
set_option synthInstance.maxHeartbeats 0
namespace G21
open PySem PySem.Spec PyProof.Rows L2 V3
@[simp ↓] def sp_table : VSp := fun us n q _ => ∃ ns : List Int, us = [.dr, .d (.list (ns.map .int))] ∧ n + 100 ≤ topD ∧ ns.length < 60 ∧ (∀ x ∈ ns, 0 ≤ x ∧ x ≤ 30) ∧
  ∀ (f : Int → Int) (n' : Nat), n' ≤ n + 70 → (∀ x ∈ ns, ∀ y ∈ ns, x < y → f x < f y) → (∀ x ∈ ns, -1000000 ≤ f x ∧ f x ≤ 1000000) → q (.tb f ns) n'
section
variable {P : Program} {w : World} {K : PySem.W.Frag} {mg : Str → Option Value} {base : Heap} {TL : List (Addr × Str)}
theorem ok_l_table (T : Txt K mg) : FnOk P w K mg base CX0 4 T.l_table.a T.l_table.d ["draw", "some"] (toSp K T.C TL false sp_table) := (ok0_l_table T).imp fun vs H Q E h => by
  obtain ⟨am, us, n, q, e, rfl, hC, rfl, ra, w, ⟨ns, rfl, hn, hl, hb, hq⟩, k, ke⟩ := h
  cases ra with
  | cons r1 ra =>
    cases ra with
    | cons r2 ra =>
      cases ra
      obtain ⟨d, g, c, hR, rfl⟩ := r1
      obtain ⟨a1, a2, _, t, ht, D⟩ := w.dr d g c hR
      have r2' : Rp am.K (cut am.R.hid H) _ _ := r2
      cases r2' with
      | lst b1 b2 =>
        have e2 := rp_ints b2
        subst e2
        obtain ⟨b3, b4⟩ := cut_some.mp b1
        refine ⟨d, g, c, _, t, ns, rfl, D, by rw [topD_eq] at hn; omega, SqL.of b4, fun z => b3 (z ▸ a2), hl, hb, fun H' z t' f ht' hz tab mono bnd fr D' => ?_⟩
        obtain ⟨f', w'⟩ := fr_wd (n' := n + 70) hR w fr D' (by omega)
        obtain ⟨kvs, g1, g2⟩ := tab
        refine k _ (n + 70) _ _ (hq f _ (Nat.le_refl _) mono bnd) f' w' (.old ⟨z, kvs, rfl, cut_some.mpr ⟨fun y => ?_, g1⟩, g2⟩)
        obtain ⟨o, q1, _⟩ := w.hid z y
        rw [hz] at q1
        cases q1
end
end G21
set_option Elab.async false
set_option linter.all false
set_option maxRecDepth 100000
set_option maxHeartbeats 4000000
set_option synthInstance.maxSize 100000
set_option synthInstance.maxHeartbeats 0
namespace G21
open PySem PySem.Spec PyProof.Rows L2 V3
@[simp ↓] def sp_blocks : VSp := fun us n q _ => us = [.dr, .d (.int 3)] ∧ n + 2000 ≤ topD ∧ ∀ (bs : List Bk) (n' : Nat), bs.length ≤ 3 → bs.Nodup → BAsc bs → (∀ b ∈ bs, inR (-1000000) 1000000 b ∧ b.ok) → n' ≤ n + 400 → q (.d (.list (bs.map bkD))) n'
/-- found so far -/
def okS (bs : List Bk) : Prop := bs.length ≤ 3 ∧ bs.Nodup ∧ ∀ b ∈ bs, b.ok ∧ inR 0 30 b
abbrev stS (n c : Nat) (ρ : Ro) (k : Nat) : Prop := k ≤ n + c ∧ ∃ (bs : List Bk) (way many : Int) (z5 z6 z7 z8 z9 : Sl), ρ = [.fz .dr, .fz (.d (.int 3)), .fz (.d (.int way)), .ow (bs.map bkD), .fz (.d (.int many)), z5, z6, z7, z8, z9] ∧ okS bs ∧ 0 ≤ many ∧ many ≤ 3 ∧ (5 ≤ way ∧ way ≤ 5 → bs = []) 
abbrev stT (n c : Nat) (ρ : Ro) (k : Nat) : Prop := k ≤ n + c ∧ ∃ (bs : List Bk) (way many : Int) (z5 z6 z7 z8 z9 : Sl), ρ = [.fz .dr, .fz (.d (.int 3)), .fz (.d (.int way)), .ow (bs.map bkD), .fz (.d (.int many)), z5, z6, z7, z8, z9] ∧ okS bs ∧ 0 ≤ many ∧ many ≤ 3
abbrev stF (ρ : Ro) : Prop := ∃ (bs : List Bk) (way many : Int) (z5 z6 z7 z8 z9 : Sl), ρ = [.fz .dr, .fz (.d (.int 3)), .fz (.d (.int way)), .ow (bs.map bkD), .fz (.d (.int many)), z5, z6, z7, z8, z9] ∧ okS bs
theorem shaped_bkD (b : Bk) : SeqAt.shaped (PyData.tuple [.int b.l, .int b.d, .int b.r, .int b.u]) = true := by
  simp [SeqAt.shaped, PyData.canLay0, PyData.canLayAll0, PyData.depth, PyData.depthAll]
theorem eqv_bkD (b : Bk) : PyData.eqv (bkD b) (bkD b) = true := by
  have h := any_blk b [b]
  simp at h
  exact h
def monoB (f : Int → Int) (ns : List Int) : Prop := (∀ x ∈ ns, ∀ y ∈ ns, x < y → f x < f y) ∧ ∀ x ∈ ns, -1000000 ≤ f x ∧ f x ≤ 1000000
theorem monoB.inj {f : Int → Int} {ns : List Int} (h : monoB f ns) {x y : Int} (hx : x ∈ ns) (hy : y ∈ ns) (e : f x = f y) : x = y := by
  rcases Int.lt_trichotomy x y with z | z | z
  · have := h.1 x hx y hy z
    omega
  · exact z
  · have := h.1 y hy x hx z
    omega
section
variable {P : Program} {w : World} {K : PySem.W.Frag} {mg : Str → Option Value} {base : Heap} {TL : List (Addr × Str)}
theorem ok_l_blocks (T : Txt K mg) : FnOk P w K mg base CX0 5 T.l_blocks.a T.l_blocks.d ["draw", "most"] (toSp K T.C TL true sp_blocks) := by
  refine T.l_blocks.F.ok c_l_blocks (fun vs H Q E h => toSp_len h fun us n q e hs => ?_) (fun cdv A outer s H vs Q E hr h => ?_)
  · (first | (obtain ⟨rfl, _⟩ := hs; rfl) | (obtain ⟨_, hs⟩ := hs; (first | (obtain ⟨rfl, _⟩ := hs; rfl) | (obtain ⟨_, hs⟩ := hs; (first | (obtain ⟨rfl, _⟩ := hs; rfl) | (obtain ⟨_, hs⟩ := hs; (first | (obtain ⟨rfl, _⟩ := hs; rfl) | (obtain ⟨_, hs⟩ := hs; (first | (obtain ⟨rfl, _⟩ := hs; rfl) | (obtain ⟨_, hs⟩ := hs; (first | (obtain ⟨rfl, _⟩ := hs; rfl) | (obtain ⟨_, hs⟩ := hs; (first | (obtain ⟨rfl, _⟩ := hs; rfl) | (obtain ⟨_, hs⟩ := hs; (first | (obtain ⟨rfl, _⟩ := hs; rfl) | (obtain ⟨_, hs⟩ := hs; (first | (obtain ⟨rfl, _⟩ := hs; rfl) | (obtain ⟨_, hs⟩ := hs; (first | (obtain ⟨rfl, _⟩ := hs; rfl) | (obtain ⟨_, hs⟩ := hs; (first | (obtain ⟨rfl, _⟩ := hs; rfl) | (obtain ⟨_, hs⟩ := hs; (first | (obtain ⟨rfl, _⟩ := hs; rfl) | (obtain ⟨_, hs⟩ := hs; (first | (obtain ⟨rfl, _⟩ := hs; rfl) | (obtain ⟨_, hs⟩ := hs; (first | (obtain ⟨rfl, _⟩ := hs; rfl) | (obtain ⟨_, hs⟩ := hs; (first | (obtain ⟨rfl, _⟩ := hs; rfl) | (obtain ⟨_, hs⟩ := hs; (first | (obtain ⟨rfl, _⟩ := hs; rfl) | (obtain ⟨_, hs⟩ := hs; (obtain ⟨rfl, _⟩ := hs; rfl)))))))))))))))))))))))))))))))))
  · refine ⟨_,
      (pss_cons (ps_par (i := 2) (j := 3) rfl c_l_blocks.nd rfl rfl (by decide) rfl rfl (pa_cons (pe_call (ok_l_take T (TL := TL)) (hr.mono (by decide)) rfl T.l_take.g T.l_take.k T.l_take.b .nil pass0 (pa_cons (pv 0) (pa_cons pe_int pa_nil))) (pa_cons (pe_lst pa_nil) pa_nil)) (by with_unfolding_all rfl))
      (C8.pss_cut (ps_set (i := 4) c_l_blocks.nd rfl (Or.inl rfl) (pe_op (add3 K) pe_int (pe_call (ok_l_take T (TL := TL)) (hr.mono (by decide)) rfl T.l_take.g T.l_take.k T.l_take.b .nil pass0 (pa_cons (pv 0) (pa_cons (pv 1) pa_nil)))))
      (C8.pss_cut (ps_if (PW.pt (pw_and (pt_cmpR op_lt (pv 2) pe_int (nomark _)) (pw_and1 (pt_cmpR op_ge (pv 1) pe_int (nomark _)))))
      (pss_cons (ps_set (i := 3) c_l_blocks.nd rfl (Or.inl rfl) (pe_call (ok_l_pen T (TL := TL)) (hr.mono (by decide)) rfl T.l_pen.g T.l_pen.k T.l_pen.b .nil pass0 (pa_cons (pv 0) (pa_cons pe_int (pa_cons pe_int (pa_cons (pe_op (add3 K) pe_int (pe_call (ok_l_take T (TL := TL)) (hr.mono (by decide)) rfl T.l_take.g T.l_take.k T.l_take.b .nil pass0 (pa_cons (pv 0) (pa_cons pe_int pa_nil)))) (pa_cons (pe_op (add3 K) pe_int (pe_call (ok_l_take T (TL := TL)) (hr.mono (by decide)) rfl T.l_take.g T.l_take.k T.l_take.b .nil pass0 (pa_cons (pv 0) (pa_cons pe_int pa_nil)))) pa_nil)))))))
      (pss_one (ps_set (i := 4) c_l_blocks.nd rfl (Or.inl rfl) (pe_callB (min3 K rfl (hu_of hr)) (by rfl) T.z_min (by decide +kernel) (pa_cons (pe_call (ok_l_take T (TL := TL)) (hr.mono (by decide)) rfl T.l_take.g T.l_take.k T.l_take.b .nil pass0 (pa_cons (pv 0) (pa_cons (pe_op op_sub (pv 1) pe_int) pa_nil))) (pa_cons (pe_call (ok_l_take T (TL := TL)) (hr.mono (by decide)) rfl T.l_take.g T.l_take.k T.l_take.b .nil pass0 (pa_cons (pv 0) (pa_cons pe_int pa_nil))) pa_nil))))))
      pss_nil)
      (C8.pss_cut (ps_if (pt_cmpR (eq3 K hr.units) (pv 2) pe_int (nomark _))
      (pss_cons (ps_for PassesOwn.never rfl (pi_range1 rfl T.z_range (pa_cons (pe_callB (min3 K rfl (hu_of hr)) (by rfl) T.z_min (by decide +kernel) (pa_cons (pv 4) (pa_cons (pv 1) pa_nil))) pa_nil)) (pg_name (i := 5) c_l_blocks.nd rfl (Or.inl rfl))
      (pss_one (ps_expr (bm3 K PySem.F.plainAttrs_list PySem.F.slot_list_append PySem.F.type_list_append mt_append (pv 3) (pa_cons (pe_tup (pa_cons (pe_op op_mul pe_int (pv 5)) (pa_cons (pe_op op_mul pe_int (pv 5)) (pa_cons (pe_op (add3 K) (pe_op (add3 K) (pe_op op_mul pe_int (pv 5)) pe_int) (pe_call (ok_l_take T (TL := TL)) (hr.mono (by decide)) rfl T.l_take.g T.l_take.k T.l_take.b .nil pass0 (pa_cons (pv 0) (pa_cons pe_int pa_nil)))) (pa_cons (pe_op (add3 K) (pe_op (add3 K) (pe_op op_mul pe_int (pv 5)) pe_int) (pe_call (ok_l_take T (TL := TL)) (hr.mono (by decide)) rfl T.l_take.g T.l_take.k T.l_take.b .nil pass0 (pa_cons (pv 0) (pa_cons pe_int pa_nil)))) pa_nil))))) pa_nil)))))
      (pss_one (ps_set (i := 4) c_l_blocks.nd rfl (Or.inl rfl) (pe_ifExp (pt_cmpR op_gt (pv 4) pe_int (nomark _)) (pe_op op_sub (pv 1) (pe_callB (len3 K) (by rfl) T.z_len (by decide +kernel) (pa_cons (pv 3) pa_nil))) pe_int))))
      pss_nil)
      (C8.pss_cut (ps_if (PW.pt (pw_and (pt_cmpR (eq3 K hr.units) (pv 2) pe_int (nomark _)) (pw_and1 (pt_cmpR (eq3 K hr.units) (pe_call (ok_l_take T (TL := TL)) (hr.mono (by decide)) rfl T.l_take.g T.l_take.k T.l_take.b .nil pass0 (pa_cons (pv 0) (pa_cons pe_int pa_nil))) pe_int (nomark _)))))
      (pss_one (ps_set (i := 4) c_l_blocks.nd rfl (Or.inl rfl) pe_int))
      pss_nil)
      (pss_cons (ps_for PassesOwn.never rfl (pi_range1 rfl T.z_range (pa_cons (pv 4) pa_nil)) (pg_name (i := 6) c_l_blocks.nd rfl (Or.inl rfl))
      (pss_cons (ps_set (i := 7) c_l_blocks.nd rfl (Or.inl rfl) (pe_call (ok_l_block T (TL := TL)) (hr.mono (by decide)) rfl T.l_block.g T.l_block.k T.l_block.b .nil pass0 (pa_cons (pv 0) (pa_cons pe_int pa_nil))))
      (pss_one (ps_if (PW.pt (pw_and (pt_cmpR (notIn3 K (un65 hr)) (pv 7) (pv 3) rfl) (pw_and1 (pt_cmpR op_lt (pe_callB (len3 K) (by rfl) T.z_len (by decide +kernel) (pa_cons (pv 3) pa_nil)) (pv 1) (nomark _)))))
      (pss_one (ps_expr (bm3 K PySem.F.plainAttrs_list PySem.F.slot_list_append PySem.F.type_list_append mt_append (pv 3) (pa_cons (pv 7) pa_nil))))
      pss_nil))))
      (C8.pss_cut (ps_set (i := 8) c_l_blocks.nd rfl (Or.inl rfl) (pe_call (ok_l_table T (TL := TL)) (hr.mono (by decide)) rfl T.l_table.g T.l_table.k T.l_table.b .nil pass0 (pa_cons (pv 0) (pa_cons (pe_op (add3 K) (pe_lc (own := [("block", 7)]) (g := gName 7) (by rfl) c_l_blocks.nd (seq3 K (pv 3)) (blkOk_by (own := [("block", 7)]) (N := N_l_blocks) (sc := defScope S_l_blocks) (by decide +kernel)) (fun _ _ _ _ _ => pg_name (i := 7) c_l_blocks.nd rfl (Or.inl rfl)) (fun _ _ _ _ _ => pts_nil) (fun _ _ _ _ _ => (pe_ix (ix3 K) (pv 7) pe_int (fun _ _ => rfl)))) (pe_lc (own := [("block", 7)]) (g := gName 7) (by rfl) c_l_blocks.nd (seq3 K (pv 3)) (blkOk_by (own := [("block", 7)]) (N := N_l_blocks) (sc := defScope S_l_blocks) (by decide +kernel)) (fun _ _ _ _ _ => pg_name (i := 7) c_l_blocks.nd rfl (Or.inl rfl)) (fun _ _ _ _ _ => pts_nil) (fun _ _ _ _ _ => (pe_ix (ix3 K) (pv 7) pe_int (fun _ _ => rfl))))) pa_nil))))
      (pss_cons (ps_set (i := 9) c_l_blocks.nd rfl (Or.inl rfl) (pe_call (ok_l_table T (TL := TL)) (hr.mono (by decide)) rfl T.l_table.g T.l_table.k T.l_table.b .nil pass0 (pa_cons (pv 0) (pa_cons (pe_op (add3 K) (pe_lc (own := [("block", 7)]) (g := gName 7) (by rfl) c_l_blocks.nd (seq3 K (pv 3)) (blkOk_by (own := [("block", 7)]) (N := N_l_blocks) (sc := defScope S_l_blocks) (by decide +kernel)) (fun _ _ _ _ _ => pg_name (i := 7) c_l_blocks.nd rfl (Or.inl rfl)) (fun _ _ _ _ _ => pts_nil) (fun _ _ _ _ _ => (pe_ix (ix3 K) (pv 7) pe_int (fun _ _ => rfl)))) (pe_lc (own := [("block", 7)]) (g := gName 7) (by rfl) c_l_blocks.nd (seq3 K (pv 3)) (blkOk_by (own := [("block", 7)]) (N := N_l_blocks) (sc := defScope S_l_blocks) (by decide +kernel)) (fun _ _ _ _ _ => pg_name (i := 7) c_l_blocks.nd rfl (Or.inl rfl)) (fun _ _ _ _ _ => pts_nil) (fun _ _ _ _ _ => (pe_ix (ix3 K) (pv 7) pe_int (fun _ _ => rfl))))) pa_nil))))
      (pss_one (ps_ret (pe_callB (sorted3 K 4 (by decide)) (by rfl) T.z_sorted (by decide +kernel) (pa_cons (pe_call (ok_l_stretched T (TL := TL)) (hr.mono (by decide)) rfl T.l_stretched.g T.l_stretched.k T.l_stretched.b .nil pass0 (pa_cons (pv 3) (pa_cons (pv 8) (pa_cons (pv 9) pa_nil)))) pa_nil))))))))))))
      , run3 (K := K) (C := T.C) (TL := TL) h fun us n q e hs => ?_⟩
    obtain ⟨rfl, hn, hq⟩ := hs
    have hcap := capD_eq
    simp [ro0, -List.mem_cons]
    refine ⟨by omega, by omega, fun way w0 w1 => ⟨stS n 2, ⟨by omega, by omega, fun m m0 m1 => ⟨by omega, [], way, 1 + m, _, _, _, _, _, rfl, ⟨by simp, by simp, by simp⟩, by omega, by omega, fun _ => rfl⟩⟩, ?_⟩⟩
    rintro ρ k ⟨hk, bs, way, many, z5, z6, z7, z8, z9, rfl, ⟨s1, s2, s3⟩, m0, m1, hw⟩
    simp [-List.mem_cons]
    refine ⟨stS n 20, ?_, ?_⟩
    · exact ⟨by omega, bs, way, many, _, _, _, _, _, rfl, ⟨s1, s2, s3⟩, m0, m1, hw⟩
    · clear hk hw s1 s2 s3 m0 m1
      rintro ρ k ⟨hk, bs, way, many, z5, z6, z7, z8, z9, rfl, ⟨s1, s2, s3⟩, m0, m1, hw⟩
      simp [-List.mem_cons]
      refine ⟨stT n 40, ?_, ?_⟩
      · by_cases hw5 : way = 5
        · simp only [hw5, if_true]
          have hb0 : bs = [] := hw ⟨by omega, by omega⟩
          subst hb0
          refine ⟨⟨by omega, by omega⟩, ?_⟩
          have eu : upFrom 0 (min many 3).toNat = (List.range (min many 3).toNat).map (fun i : Nat => PyData.int (0 + (i : Nat))) := rfl
          rw [eu]
          refine forL_map (fun i : Nat => PyData.int (0 + (i : Nat))) (fun done left ρ k' => done ++ left = List.range (min many 3).toNat ∧ k' ≤ k + 2 * done.length ∧ ∃ (fs : List Bk) (z5 z6 z7 z8 z9 : Sl), ρ = [.fz .dr, .fz (.d (.int 3)), .fz (.d (.int 5)), .ow (fs.map bkD), .fz (.d (.int many)), z5, z6, z7, z8, z9] ∧ fs.length = done.length ∧ fs.Nodup ∧ ∀ b ∈ fs, b.ok ∧ inR 0 30 b ∧ ∃ j : Nat, j < done.length ∧ b.l = 3 * (j : Int)) _ [] _ _ ?_ ?_ ?_
          · rintro done ρ k' ⟨hd, hk', fs, z5, z6, z7, z8, z9, rfl, f1, f2, f3⟩
            have hdl := congrArg List.length hd
            simp at hdl
            simp
            have ok : okS fs := ⟨by omega, f2, fun b hb => ⟨(f3 b hb).1, (f3 b hb).2.1⟩⟩
            by_cases h2 : 2 < many
            · simp only [h2, if_true]
              exact ⟨by omega, fs, 5, _, _, _, _, _, _, rfl, ok, by omega, by omega⟩
            · simp only [h2, if_false]
              exact ⟨by omega, fs, 5, _, _, _, _, _, _, rfl, ok, by omega, by omega⟩
          · rintro done i left ρ k' G hG ⟨hd, hk', fs, z5, z6, z7, z8, z9, rfl, f1, f2, f3⟩
            have hdl := congrArg List.length hd
            simp at hdl
            have hi : i = done.length := by
              have := congrArg (fun l : List Nat => l[done.length]?) hd
              simp at this
              rw [List.getElem?_eq_getElem (by simp; omega)] at this
              simp at this
              exact this
            subst hi
            have cm : ∀ z w : Int, 0 ≤ z → z < 10 → CMul z w := fun z w h1 h2 => .inl ⟨by omega, by omega⟩
            simp
            refine ⟨cm _ _ (by decide) (by decide), cm _ _ (by decide) (by decide), cm _ _ (by decide) (by decide), by omega, by omega, fun u u0 u1 => ⟨cm _ _ (by decide) (by decide), by omega, by omega, fun v v0 v1 => ⟨few (by omega), hG _ _ ⟨by rw [List.append_assoc]; exact hd, by simp; omega, fs ++ [⟨3 * (done.length : Int), 2 * (done.length : Int), 3 * (done.length : Int) + 1 + u, 2 * (done.length : Int) + 1 + v⟩], _, _, _, _, _, by rw [List.map_append]; rfl, by simp; omega, ?_, fun b hb => ?_⟩⟩⟩⟩
            · refine List.nodup_append.mpr ⟨f2, by simp, fun b hb c hc e => ?_⟩
              obtain ⟨_, _, j, hj, e2⟩ := f3 b hb
              rw [List.mem_singleton.mp hc] at e
              rw [e] at e2
              simp only at e2
              omega
            · rcases List.mem_append.mp hb with y | y
              · obtain ⟨a1, a2, j, hj, e2⟩ := f3 b y
                exact ⟨a1, a2, j, by simp; omega, e2⟩
              · rw [List.mem_singleton.mp y]
                refine ⟨⟨by show 3 * (done.length : Int) < 3 * (done.length : Int) + 1 + u; omega, by show 2 * (done.length : Int) < 2 * (done.length : Int) + 1 + v; omega⟩, ⟨by show (0 : Int) ≤ 3 * (done.length : Int); omega, by show (0 : Int) ≤ 2 * (done.length : Int); omega, by show 3 * (done.length : Int) + 1 + u ≤ 30; omega, by show 2 * (done.length : Int) + 1 + v ≤ 30; omega⟩, done.length, by simp, rfl⟩
          · exact ⟨rfl, by simp, [], _, _, _, _, _, rfl, rfl, by simp, by simp⟩
        · simp only [hw5, if_false]
          exact ⟨by omega, bs, way, many, _, _, _, _, _, rfl, ⟨s1, s2, s3⟩, m0, m1⟩
      · clear hk hw s1 s2 s3 m0 m1
        rintro ρ k ⟨hk, bs, way, many, z5, z6, z7, z8, z9, rfl, ⟨s1, s2, s3⟩, m0, m1⟩
        simp [-List.mem_cons]
        refine ⟨stT n 41, ?_, ?_⟩
        · by_cases hw6 : way = 6
          · simp only [hw6, if_true]
            refine ⟨by omega, by omega, fun t t0 t1 => ?_⟩
            by_cases ht : t = 0
            · simp only [ht, if_true]
              exact ⟨by omega, bs, _, _, _, _, _, _, _, rfl, ⟨s1, s2, s3⟩, by omega, by omega⟩
            · simp only [ht, if_false]
              exact ⟨by omega, bs, _, _, _, _, _, _, _, rfl, ⟨s1, s2, s3⟩, m0, m1⟩
          · simp only [hw6, if_false]
            exact ⟨by omega, bs, _, _, _, _, _, _, _, rfl, ⟨s1, s2, s3⟩, m0, m1⟩
        · clear hk s1 s2 s3 m0 m1
          rintro ρ k ⟨hk, bs, way, many, z5, z6, z7, z8, z9, rfl, ⟨s1, s2, s3⟩, m0, m1⟩
          simp [-List.mem_cons]
          refine ⟨⟨by omega, by omega⟩, ?_⟩
          have eu : upFrom 0 many.toNat = (List.range many.toNat).map (fun i : Nat => PyData.int (0 + (i : Nat))) := rfl
          rw [eu]
          refine forL_map (fun i : Nat => PyData.int (0 + (i : Nat))) (fun done left ρ k' => done.length + left.length = many.toNat ∧ k' ≤ k + 4 * done.length ∧ stF ρ) _ [] _ _ ?_ ?_ ?_
          · rintro done ρ k' ⟨hd, hk', fs, way, many', z5, z6, z7, z8, z9, rfl, ⟨f1, f2, f3⟩⟩
            simp at hd
            simp
            have lj : ∀ f g : Bk → Int, (fs.map fun b => PyData.int (f b)) ++ (fs.map fun b => PyData.int (g b)) = (fs.map f ++ fs.map g).map PyData.int := fun f g => by
              rw [List.map_append, List.map_map, List.map_map]
              rfl
            have le1 : ∀ k : Nat, k ≤ 1000 → k ≤ sizeLine := fun k hk => Nat.le_of_lt (few (by omega))
            refine ⟨fun ρ k2 => k2 ≤ n + 141 ∧ ∃ (way many : Int) (z5 z6 z7 z9 : Sl) (f : Int → Int), ρ = [.fz .dr, .fz (.d (.int 3)), .fz (.d (.int way)), .ow (fs.map bkD), .fz (.d (.int many)), z5, z6, z7, .fz (.tb f (fs.map Bk.l ++ fs.map Bk.r)), z9] ∧ monoB f (fs.map Bk.l ++ fs.map Bk.r), ⟨few (by omega), lcL_all bkD (fun b => .int b.l) fs _ _ (fun b _ n Kt Ks h => ?_) ⟨few (by omega), lcL_all bkD (fun b => .int b.r) fs _ _ (fun b _ n Kt Ks h => ?_) ⟨le1 _ (by simp; omega), _, lj Bk.l Bk.r, by omega, by simp; omega, fun i hi => ?_, fun f n' hn' m1 m2 => ⟨by omega, _, _, _, _, _, _, f, rfl, m1, m2⟩⟩⟩⟩, ?_⟩
            · simp
              exact h
            · simp
              exact h
            · rcases List.mem_append.mp hi with y | y <;> obtain ⟨b, hb, rfl⟩ := List.mem_map.mp y
              all_goals
                obtain ⟨⟨o1, o2⟩, c1, c2, c3, c4⟩ := f3 b hb
                omega
            · rintro ρ k2 ⟨hk2, way, many, z5, z6, z7, z9, f, rfl, mf⟩
              simp
              refine ⟨few (by omega), lcL_all bkD (fun b => .int b.d) fs _ _ (fun b _ n Kt Ks h => ?_) ⟨few (by omega), lcL_all bkD (fun b => .int b.u) fs _ _ (fun b _ n Kt Ks h => ?_) ⟨le1 _ (by simp; omega), _, lj Bk.d Bk.u, by omega, by simp; omega, fun i hi => ?_, fun g n' hn' m1 m2 => ?_⟩⟩⟩
              · simp
                exact h
              · simp
                exact h
              · rcases List.mem_append.mp hi with y | y <;> obtain ⟨b, hb, rfl⟩ := List.mem_map.mp y
                all_goals
                  obtain ⟨⟨o1, o2⟩, c1, c2, c3, c4⟩ := f3 b hb
                  omega
              · refine ⟨fs, f, g, _, _, ⟨rfl, ⟨rfl, rfl⟩, rfl, rfl⟩, by omega, fun b hb => ⟨List.mem_append_left _ (List.mem_map_of_mem hb), List.mem_append_right _ (List.mem_map_of_mem hb), List.mem_append_left _ (List.mem_map_of_mem hb), List.mem_append_right _ (List.mem_map_of_mem hb)⟩, .inr ⟨(fs.map (stB f g)).map Bk.n, by rw [← bks_tup, List.map_map], fun l hl => ?_, fun M p1 p2 => ?_⟩⟩
                · obtain ⟨b, _, rfl⟩ := List.mem_map.mp hl
                  rfl
                · obtain ⟨cs, rfl⟩ := bks_of M fun l hl => by
                    obtain ⟨b, _, rfl⟩ := List.mem_map.mp (p1.mem_iff.mp hl)
                    rfl
                  have pc := perm_n p1
                  rw [← bks_tup]
                  refine hq cs _ ?_ ?_ (List.pairwise_map.mp p2) (fun b hb => ?_) (by omega)
                  · rw [pc.length_eq, List.length_map]
                    exact f1
                  · refine pc.nodup_iff.mpr (List.pairwise_map.mpr ?_)
                    refine f2.imp_of_mem fun {x y} hx hy hne e => hne ?_
                    have e1 : f x.l = f y.l := congrArg Bk.l e
                    have e2 : g x.d = g y.d := congrArg Bk.d e
                    have e3 : f x.r = f y.r := congrArg Bk.r e
                    have e4 : g x.u = g y.u := congrArg Bk.u e
                    have i1 := mf.inj (List.mem_append_left _ (List.mem_map_of_mem hx)) (List.mem_append_left _ (List.mem_map_of_mem hy)) e1
                    have i2 := monoB.inj ⟨m1, m2⟩ (List.mem_append_left _ (List.mem_map_of_mem hx)) (List.mem_append_left _ (List.mem_map_of_mem hy)) e2
                    have i3 := mf.inj (List.mem_append_right _ (List.mem_map_of_mem hx)) (List.mem_append_right _ (List.mem_map_of_mem hy)) e3
                    have i4 := monoB.inj ⟨m1, m2⟩ (List.mem_append_right _ (List.mem_map_of_mem hx)) (List.mem_append_right _ (List.mem_map_of_mem hy)) e4
                    cases x
                    cases y
                    simp only at i1 i2 i3 i4
                    subst i1 i2 i3 i4
                    rfl
                  · obtain ⟨c, hc, rfl⟩ := List.mem_map.mp (pc.mem_iff.mp hb)
                    obtain ⟨⟨o1, o2⟩, _⟩ := f3 c hc
                    have l1 : c.l ∈ fs.map Bk.l ++ fs.map Bk.r := List.mem_append_left _ (List.mem_map_of_mem hc)
                    have l2 : c.r ∈ fs.map Bk.l ++ fs.map Bk.r := List.mem_append_right _ (List.mem_map_of_mem hc)
                    have l3 : c.d ∈ fs.map Bk.d ++ fs.map Bk.u := List.mem_append_left _ (List.mem_map_of_mem hc)
                    have l4 : c.u ∈ fs.map Bk.d ++ fs.map Bk.u := List.mem_append_right _ (List.mem_map_of_mem hc)
                    exact ⟨⟨(mf.2 _ l1).1, (m2 _ l3).1, (mf.2 _ l2).2, (m2 _ l4).2⟩, mf.1 _ l1 _ l2 o1, m1 _ l3 _ l4 o2⟩
          · rintro done i left ρ k' G hG ⟨hd, hk', fs, way, many', z5, z6, z7, z8, z9, rfl, ⟨f1, f2, f3⟩⟩
            simp at hd
            simp
            refine ⟨by omega, fun b b1 b2 => ⟨shaped_bkD b, shaped_bks fs, ?_⟩⟩
            have stay : ∀ z5 z6 z7 z8 z9 : Sl, G [.fz .dr, .fz (.d (.int 3)), .fz (.d (.int way)), .ow (fs.map bkD), .fz (.d (.int many')), z5, z6, z7, z8, z9] (k' + 4) := fun z5 z6 z7 z8 z9 => hG _ _ ⟨by simp; omega, by simp; omega, fs, _, _, _, _, _, _, _, rfl, ⟨f1, f2, f3⟩⟩
            by_cases hin : b ∈ fs
            · have hno : ¬ ∀ x, x ∈ fs → PyData.eqv (bkD x) (PyData.tuple [.int b.l, .int b.d, .int b.r, .int b.u]) = false := fun z => by
                have := z b hin
                rw [show (PyData.tuple [.int b.l, .int b.d, .int b.r, .int b.u]) = bkD b from rfl, eqv_bkD] at this
                cases this
              simp only [hno, if_false]
              exact stay _ _ _ _ _
            · by_cases hall : ∀ x, x ∈ fs → PyData.eqv (bkD x) (PyData.tuple [.int b.l, .int b.d, .int b.r, .int b.u]) = false
              · rw [if_pos hall]
                by_cases h7 : (fs.length : Int) < 3
                · rw [if_pos h7]
                  refine ⟨few (by omega), hG _ _ ⟨by simp; omega, by simp; omega, fs ++ [b], _, _, _, _, _, _, _, by rw [List.map_append]; rfl, ⟨by simp; omega, ?_, fun c hc => ?_⟩⟩⟩
                  · refine List.nodup_append.mpr ⟨f2, by simp, fun c hc d hd e => ?_⟩
                    rw [List.mem_singleton.mp hd] at e
                    exact hin (e ▸ hc)
                  · rcases List.mem_append.mp hc with y | y
                    · exact f3 c y
                    · rw [List.mem_singleton.mp y]
                      exact ⟨b1, b2⟩
                · rw [if_neg h7]
                  exact stay _ _ _ _ _
              · rw [if_neg hall]
                exact stay _ _ _ _ _
          · exact ⟨by simp, by simp, bs, _, _, _, _, _, _, _, rfl, ⟨s1, s2, s3⟩⟩
end
end G21
set_option Elab.async false
set_option linter.all false
set_option maxRecDepth 100000
set_option maxHeartbeats 4000000
set_option synthInstance.maxSize 100000
set_option synthInstance.maxHeartbeats 0
namespace G21
open PySem PySem.Spec PyProof.Rows L2 V3
@[simp ↓] def sp_lbody : VSp := fun us n q _ => ∃ (bs : List Bk) (ps : List (Int × Int)), us = [.dr, .d (.list (bs.map bkD)), .d (.list (ps.map pD))] ∧ n + 100 ≤ topD ∧ bs.length ≤ 3 ∧ ps.length ≤ 3 ∧ ∀ (a b : Int) (n' : Nat), 1 ≤ a → 1 ≤ b → n' ≤ n + 8 → q (.d (pr a b)) n'
@[simp ↓] def sp_lnames : VSp := fun us n q _ => ∃ (bs : List Bk) (ps : List (Int × Int)) (a s : Int × Int), us = [.d (.list (bs.map bkD)), .d (.list (ps.map pD)), .d (pD a), .d (pD s)] ∧ bs.length ≤ 3 ∧ ps.length ≤ 3 ∧ q (.d (nmsD (fstN bs ps a s 0) (fstN bs ps a s 1))) n
@[simp ↓] def sp_lplace : VSp := fun us n q _ => ∃ (bs : List Bk) (ps : List (Int × Int)) (a : Int × Int) (p o : Nm), us = [.d (.list (bs.map bkD)), .d (.list (ps.map pD)), .d (pD a), .d (.tuple [nmD p, nmD o])] ∧ nmOk ps.length bs.length (wsN 0) (nmD p) = true ∧ nmOk ps.length bs.length (wsN 1) (nmD o) = true ∧ q (.d (pr (valN bs ps a 0 p) (valN bs ps a 1 o))) n
def namesL (n m : Nat) (y : Int) : List Nm := ((List.range n).map fun k => (("spot", ((k : Nat) : Int)) : Nm)) ++ ((List.range m).map fun k => ((wF y, ((k : Nat) : Int)) : Nm)) ++ (List.range m).map fun k => ((wN y, ((k : Nat) : Int)) : Nm)
@[simp ↓] def sp_lallnames : VSp := fun us n q _ => ∃ (ps : List (Int × Int)) (m : Nat) (y : Int), us = [.d (.list (ps.map pD)), .d (.int (m : Nat)), .d (.int y)] ∧ (y = 0 ∨ y = 1) ∧ ps.length ≤ 3 ∧ m ≤ 3 ∧ q (.d (.list ((namesL ps.length m y).map nmD))) n
theorem pickA {y : D} (h : y ∈ [PyData.int 1, .int 1, .int 2, .int 3, .int 50000]) : ∃ z : Int, y = .int z ∧ 1 ≤ z ∧ z ≤ 50000 := by
  simp only [List.mem_cons, List.not_mem_nil, or_false] at h
  rcases h with rfl | rfl | rfl | rfl | rfl <;> exact ⟨_, rfl, by decide, by decide⟩
theorem pickB {y : D} (h : y ∈ [PyData.int 0, .int 0, .int 0, .int 1, .int 1, .int 2]) : ∃ z : Int, y = .int z ∧ 0 ≤ z ∧ z ≤ 2 := by
  simp only [List.mem_cons, List.not_mem_nil, or_false] at h
  rcases h with rfl | rfl | rfl | rfl | rfl | rfl <;> exact ⟨_, rfl, by decide, by decide⟩
theorem part_flt (w : Str) (f : Nat → Int) (n : Nat) (v : Int) : ((part w f n).filter fun e => decide (e.2 = v)).map (fun e => e.1) = ((List.range n).filter fun k => decide (f k = v)).map fun k => ((w, ((k : Nat) : Int)) : Nm) := by
  unfold part
  rw [List.filter_map, List.map_map]
  rfl
theorem atI_bk {bs : List Bk} {k : Int} (h0 : 0 ≤ k) (h1 : k < bs.length) : atI (bs.map bkD) k = some (bkD (bkN bs k.toNat)) := by
  obtain ⟨j, rfl⟩ := Int.eq_ofNat_of_zero_le h0
  have hj : j < bs.length := by omega
  show atI _ ((j : Nat) : Int) = _
  rw [atI_c, List.getElem?_map]
  unfold bkN
  rw [List.getD_eq_getElem?_getD, Int.toNat_natCast, List.getElem?_eq_getElem hj]
  rfl
theorem atI_sp {ps : List (Int × Int)} {k : Int} (h0 : 0 ≤ k) (h1 : k < ps.length) : atI (ps.map pD) k = some (pD (atP ps k.toNat)) := by
  obtain ⟨j, rfl⟩ := Int.eq_ofNat_of_zero_le h0
  have hj : j < ps.length := by omega
  show atI _ ((j : Nat) : Int) = _
  rw [atI_c, List.getElem?_map]
  unfold atP
  rw [List.getD_eq_getElem?_getD, Int.toNat_natCast, List.getElem?_eq_getElem hj]
  rfl
theorem gsp {ps : List (Int × Int)} {k : Nat} (h : k < ps.length) : (ps.map pD)[k]? = some (pD (atP ps k)) := by
  have := atI_sp (ps := ps) (k := (k : Int)) (by omega) (by omega)
  rw [atI_c] at this
  simpa using this
theorem gbk {bs : List Bk} {k : Nat} (h : k < bs.length) : (bs.map bkD)[k]? = some (bkD (bkN bs k)) := by
  have := atI_bk (bs := bs) (k := (k : Int)) (by omega) (by omega)
  rw [atI_c] at this
  simpa using this
theorem lay_nms : ∀ {S : List Nm}, (∀ x ∈ S, PyData.strOk x.1 = true) → PyData.canLayAll0 (S.map nmD) = true ∧ PyData.depthAll (S.map nmD) ≤ 1
  | [], _ => by simp [PyData.canLayAll0, PyData.depthAll]
  | x :: S, h => by
    obtain ⟨a, b⟩ := lay_nms (S := S) fun y hy => h y (List.mem_cons_of_mem _ hy)
    have hx := h x List.mem_cons_self
    rw [List.map_cons]
    constructor
    · simp [PyData.canLayAll0, PyData.canLay0, hx, a]
    · simp only [PyData.depthAll, PyData.depth]
      omega
theorem shaped_nms {S : List Nm} (h : ∀ x ∈ S, PyData.strOk x.1 = true) : SeqAt.shaped (.list (S.map nmD)) = true := by
  obtain ⟨a, b⟩ := lay_nms h
  have d : PyData.depth (.list (S.map nmD)) ≤ 64 := by
    simp only [PyData.depth]
    omega
  simp [SeqAt.shaped, PyData.canLay0, a, d]
theorem flat_nms (ns : List Nm) : V3.flatAll (ns.map nmD) = true := by
  induction ns with
  | nil => rfl
  | cons n ns ih => exact ih
theorem eqv_ints (ns : List Int) : PyData.eqv (.list (ns.map PyData.int)) (.list []) = decide (ns = []) := by
  cases ns <;> rfl
section
variable {P : Program} {w : World} {K : PySem.W.Frag} {mg : Str → Option Value} {base : Heap} {TL : List (Addr × Str)}
theorem ok_l_body (T : Txt K mg) : FnOk P w K mg base CX0 4 T.l_body.a T.l_body.d ["draw", "blocks", "spots"] (toSp K T.C TL false sp_lbody) := by
  refine T.l_body.F.ok c_l_body (fun vs H Q E h => toSp_len h fun us n q e hs => ?_) (fun cdv A outer s H vs Q E hr h => ?_)
  · (first | (obtain ⟨rfl, _⟩ := hs; rfl) | (obtain ⟨_, hs⟩ := hs; (first | (obtain ⟨rfl, _⟩ := hs; rfl) | (obtain ⟨_, hs⟩ := hs; (first | (obtain ⟨rfl, _⟩ := hs; rfl) | (obtain ⟨_, hs⟩ := hs; (first | (obtain ⟨rfl, _⟩ := hs; rfl) | (obtain ⟨_, hs⟩ := hs; (first | (obtain ⟨rfl, _⟩ := hs; rfl) | (obtain ⟨_, hs⟩ := hs; (first | (obtain ⟨rfl, _⟩ := hs; rfl) | (obtain ⟨_, hs⟩ := hs; (first | (obtain ⟨rfl, _⟩ := hs; rfl) | (obtain ⟨_, hs⟩ := hs; (first | (obtain ⟨rfl, _⟩ := hs; rfl) | (obtain ⟨_, hs⟩ := hs; (first | (obtain ⟨rfl, _⟩ := hs; rfl) | (obtain ⟨_, hs⟩ := hs; (first | (obtain ⟨rfl, _⟩ := hs; rfl) | (obtain ⟨_, hs⟩ := hs; (first | (obtain ⟨rfl, _⟩ := hs; rfl) | (obtain ⟨_, hs⟩ := hs; (first | (obtain ⟨rfl, _⟩ := hs; rfl) | (obtain ⟨_, hs⟩ := hs; (first | (obtain ⟨rfl, _⟩ := hs; rfl) | (obtain ⟨_, hs⟩ := hs; (first | (obtain ⟨rfl, _⟩ := hs; rfl) | (obtain ⟨_, hs⟩ := hs; (first | (obtain ⟨rfl, _⟩ := hs; rfl) | (obtain ⟨_, hs⟩ := hs; (first | (obtain ⟨rfl, _⟩ := hs; rfl) | (obtain ⟨_, hs⟩ := hs; (obtain ⟨rfl, _⟩ := hs; rfl)))))))))))))))))))))))))))))))))
  · refine ⟨_,
      (pss_cons (ps_set (i := 3) c_l_body.nd rfl (Or.inl rfl) (pe_lst pa_nil))
      (pss_cons (ps_for PassesOwn.never rfl (pi_range1 rfl T.z_range (pa_cons pe_int pa_nil)) (pg_name (i := 4) c_l_body.nd rfl (Or.inl rfl))
      (pss_cons (ps_set (i := 5) c_l_body.nd rfl (Or.inl rfl) (pe_call (ok_l_grid T (TL := TL)) (hr.mono (by decide)) rfl T.l_grid.g T.l_grid.k T.l_grid.b .nil pass0 (pa_cons (pv 1) (pa_cons (pv 2) (pa_cons (pv 4) pa_nil)))))
      (pss_cons (ps_set (i := 6) c_l_body.nd rfl (Or.inl rfl) (pe_call (ok_l_take T (TL := TL)) (hr.mono (by decide)) rfl T.l_take.g T.l_take.k T.l_take.b .nil pass0 (pa_cons (pv 0) (pa_cons pe_int pa_nil))))
      (pss_one (ps_if (PW.pt (pw_or (pt_cmpR (eq3 K hr.units) (pv 5) (pe_lst pa_nil) (nomark _)) (pw_or1 (pt_cmpR (eq3 K hr.units) (pv 6) pe_int (nomark _)))))
      (pss_one (ps_expr (bm3 K PySem.F.plainAttrs_list PySem.F.slot_list_append PySem.F.type_list_append mt_append (pv 3) (pa_cons (pe_call (ok_l_pick T (TL := TL)) (hr.mono (by decide)) rfl T.l_pick.g T.l_pick.k T.l_pick.b .nil pass0 (pa_cons (pv 0) (pa_cons (pe_lst (pa_cons pe_int (pa_cons pe_int (pa_cons pe_int (pa_cons pe_int (pa_cons pe_int pa_nil)))))) pa_nil))) pa_nil))))
      (pss_cons (ps_set (i := 7) c_l_body.nd rfl (Or.inl rfl) (pe_callB (min3 K rfl (hu_of hr)) (by rfl) T.z_min (by decide +kernel) (pa_cons (pe_call (ok_l_take T (TL := TL)) (hr.mono (by decide)) rfl T.l_take.g T.l_take.k T.l_take.b .nil pass0 (pa_cons (pv 0) (pa_cons (pe_callB (len3 K) (by rfl) T.z_len (by decide +kernel) (pa_cons (pv 5) pa_nil)) pa_nil))) (pa_cons (pe_call (ok_l_take T (TL := TL)) (hr.mono (by decide)) rfl T.l_take.g T.l_take.k T.l_take.b .nil pass0 (pa_cons (pv 0) (pa_cons (pe_callB (len3 K) (by rfl) T.z_len (by decide +kernel) (pa_cons (pv 5) pa_nil)) pa_nil))) pa_nil))))
      (pss_one (ps_expr (bm3 K PySem.F.plainAttrs_list PySem.F.slot_list_append PySem.F.type_list_append mt_append (pv 3) (pa_cons (pe_op (add3 K) (pe_ix (ix3 K) (pv 5) (pv 7) (fun _ _ => rfl)) (pe_call (ok_l_pick T (TL := TL)) (hr.mono (by decide)) rfl T.l_pick.g T.l_pick.k T.l_pick.b .nil pass0 (pa_cons (pv 0) (pa_cons (pe_lst (pa_cons pe_int (pa_cons pe_int (pa_cons pe_int (pa_cons pe_int (pa_cons pe_int (pa_cons pe_int pa_nil))))))) pa_nil)))) pa_nil))))))))))
      (pss_one (ps_ret (pe_tup (pa_cons (pe_ix (ix3 K) (pv 3) pe_int (fun _ _ => rfl)) (pa_cons (pe_ix (ix3 K) (pv 3) pe_int (fun _ _ => rfl)) pa_nil)))))))
      , run3 (K := K) (C := T.C) (TL := TL) h fun us n q e hs => ?_⟩
    obtain ⟨bs, ps, rfl, hn, hl, hl2, hq⟩ := hs
    have hc := capD_eq
    have e2 : upFrom 0 2 = ([0, 1] : List Int).map PyData.int := rfl
    simp [ro0, -List.mem_cons]
    rw [e2]
    refine forL_map PyData.int (fun done left ρ m => (∀ i ∈ left, i = 0 ∨ i = 1) ∧ done.length + left.length = 2 ∧ m ≤ n + 4 * done.length ∧ ∃ (fs : List Int) (z4 z5 z6 z7 : Sl), fs.length = done.length ∧ ρ = [.fz .dr, .fz (.d (.list (bs.map bkD))), .fz (.d (.list (ps.map pD))), .ow (fs.map PyData.int), z4, z5, z6, z7] ∧ ∀ i ∈ fs, 1 ≤ i) [0, 1] [] _ _ ?_ ?_ ?_
    · rintro done ρ m ⟨_, h2, hm, fs, z4, z5, z6, z7, h3, rfl, h4⟩
      match fs, h3, h4 with
      | [a, b], h3, h4 =>
        have a1 := h4 a (by simp)
        have b1 := h4 b (by simp)
        simp at h2
        simp
        exact hq a b _ a1 b1 (by omega)
      | [], h3, _ => simp at h2 h3; omega
      | [a], h3, _ => simp at h2 h3; omega
      | _ :: _ :: _ :: _, h3, _ => simp at h2 h3; omega
    · rintro done i left ρ m G hG ⟨h1, h2, hm, fs, z4, z5, z6, z7, h3, rfl, h4⟩
      have hi := h1 i (List.mem_cons_self ..)
      simp at h2
      obtain ⟨ns, hns, n56⟩ := gr_ex (gE bs i) (gS bs ps i) (by simpa [gE] using hl) (by simp [gS]; omega)
      have npos : ∀ k ∈ ns, 1 ≤ k := fun k hk => by
        obtain ⟨e, _, s, _, l, rfl⟩ := (hns.2 k).mp hk
        omega
      simp [-List.mem_cons]
      refine ⟨bs, ps, i, ⟨rfl, rfl, rfl⟩, hi, hl, hl2, ns, hns, ?_⟩
      simp [flat_ints, -List.mem_cons]
      have go : ∀ (k : Int) (m' : Nat) (z5 z6 z7 : Sl), 1 ≤ k → m' ≤ m + 4 → G [.fz .dr, .fz (.d (.list (bs.map bkD))), .fz (.d (.list (ps.map pD))), .ow (fs.map PyData.int ++ [.int k]), .fz (.d (.int i)), z5, z6, z7] m' := fun k m' z5 z6 z7 k0 hm' => by
        refine hG _ _ ⟨fun j hj => h1 j (List.mem_cons_of_mem _ hj), by simp; omega, by simp; omega, fs ++ [k], _, _, _, _, by simp; omega, by rw [List.map_append]; rfl, fun j hj => ?_⟩
        rcases List.mem_append.mp hj with y | y
        · exact h4 j y
        · rw [List.mem_singleton.mp y]
          exact k0
      have fl : fs.length < sizeLine := few (by omega)
      have tp : n + 100 ≤ topD := hn
      refine ⟨by omega, by omega, fun x x0 x1 => ⟨shaped_ints _, by rfl, ?_⟩⟩
      by_cases he : (PyData.list (List.map PyData.int ns)).eqv (PyData.list []) = true
      · simp only [he, if_true]
        refine ⟨by omega, fun y hy => ?_⟩
        obtain ⟨k, rfl, k0, k1⟩ := pickA hy
        exact ⟨fl, go k _ _ _ _ k0 (by omega)⟩
      · simp only [he, if_false]
        have hne : ns ≠ [] := fun z => he (by rw [eqv_ints]; exact decide_eq_true z)
        have hpos : 0 < ns.length := List.length_pos_iff.mpr hne
        by_cases hx : x = 0
        · simp only [hx, if_true]
          refine ⟨by omega, fun y hy => ?_⟩
          obtain ⟨k, rfl, k0, k1⟩ := pickA hy
          exact ⟨fl, go k _ _ _ _ k0 (by omega)⟩
        · simp only [hx, if_false]
          refine ⟨by omega, hpos, by omega, fun u u0 u1 => ⟨by omega, hpos, by omega, fun v v0 v1 => ?_⟩⟩
          obtain ⟨k, hk, e⟩ := at_in (xs := ns) (i := min u v) (by omega) (by omega)
          have k0 := npos k hk
          rw [atI_map PyData.int e]
          refine ⟨by omega, fun y hy => ?_⟩
          obtain ⟨j, rfl, j0, j1⟩ := pickB hy
          exact ⟨fl, go (k + j) _ _ _ _ (by omega) (by omega)⟩
    · refine ⟨by simp, by simp, by simp, [], _, _, _, _, rfl, rfl, by simp⟩
theorem ok_l_names (T : Txt K mg) : FnOk P w K mg base CX0 1 T.l_names.a T.l_names.d ["blocks", "spots", "body", "spot"] (toSp K T.C TL false sp_lnames) := by
  refine T.l_names.F.ok c_l_names (fun vs H Q E h => toSp_len h fun us n q e hs => ?_) (fun cdv A outer s H vs Q E hr h => ?_)
  · (first | (obtain ⟨rfl, _⟩ := hs; rfl) | (obtain ⟨_, hs⟩ := hs; (first | (obtain ⟨rfl, _⟩ := hs; rfl) | (obtain ⟨_, hs⟩ := hs; (first | (obtain ⟨rfl, _⟩ := hs; rfl) | (obtain ⟨_, hs⟩ := hs; (first | (obtain ⟨rfl, _⟩ := hs; rfl) | (obtain ⟨_, hs⟩ := hs; (first | (obtain ⟨rfl, _⟩ := hs; rfl) | (obtain ⟨_, hs⟩ := hs; (first | (obtain ⟨rfl, _⟩ := hs; rfl) | (obtain ⟨_, hs⟩ := hs; (first | (obtain ⟨rfl, _⟩ := hs; rfl) | (obtain ⟨_, hs⟩ := hs; (first | (obtain ⟨rfl, _⟩ := hs; rfl) | (obtain ⟨_, hs⟩ := hs; (first | (obtain ⟨rfl, _⟩ := hs; rfl) | (obtain ⟨_, hs⟩ := hs; (first | (obtain ⟨rfl, _⟩ := hs; rfl) | (obtain ⟨_, hs⟩ := hs; (first | (obtain ⟨rfl, _⟩ := hs; rfl) | (obtain ⟨_, hs⟩ := hs; (first | (obtain ⟨rfl, _⟩ := hs; rfl) | (obtain ⟨_, hs⟩ := hs; (first | (obtain ⟨rfl, _⟩ := hs; rfl) | (obtain ⟨_, hs⟩ := hs; (first | (obtain ⟨rfl, _⟩ := hs; rfl) | (obtain ⟨_, hs⟩ := hs; (first | (obtain ⟨rfl, _⟩ := hs; rfl) | (obtain ⟨_, hs⟩ := hs; (first | (obtain ⟨rfl, _⟩ := hs; rfl) | (obtain ⟨_, hs⟩ := hs; (obtain ⟨rfl, _⟩ := hs; rfl)))))))))))))))))))))))))))))))))
  · refine ⟨_,
      (pss_cons (ps_set (i := 4) c_l_names.nd rfl (Or.inl rfl) (pe_lst pa_nil))
      (pss_cons (ps_for PassesOwn.never rfl (pi_range1 rfl T.z_range (pa_cons pe_int pa_nil)) (pg_name (i := 5) c_l_names.nd rfl (Or.inr rfl))
      (pss_cons (ps_set (i := 6) c_l_names.nd rfl (Or.inr rfl) (pe_ix (ix3 K) (pe_lst (pa_cons (pe_tup (pa_cons pe_str (pa_cons pe_str pa_nil))) (pa_cons (pe_tup (pa_cons pe_str (pa_cons pe_str pa_nil))) pa_nil))) (pv 5) (fun _ _ => rfl)))
      (C8.pss_cut (ps_setLc (i := 7) (own := [("k", 8)]) (g := gName 8) (by rfl) c_l_names.nd rfl rfl (sw_true rfl rfl rfl (by decide +kernel)) (pi_range1 rfl T.z_range (pa_cons (pe_callB (len3 K) (by rfl) T.z_len (by decide +kernel) (pa_cons (pv 1) pa_nil)) pa_nil)) (blkOk_by (own := [("k", 8)]) (N := N_l_names) (sc := defScope S_l_names) (by decide +kernel)) (fun _ _ _ _ _ => pg_name (i := 8) c_l_names.nd rfl (Or.inl rfl)) (fun _ _ _ _ _ => (pts_one (pt_cmpR (eq3 K hr.units) (pe_ix (ix3 K) (pe_ix (ix3 K) (pv 1) (pv 8) (fun _ _ => rfl)) (pv 5) (fun _ _ => rfl)) (pe_ix (ix3 K) (pv 3) (pv 5) (fun _ _ => rfl)) (nomark _)))) (fun _ _ _ _ _ => (pe_tup (pa_cons pe_str (pa_cons (pv 8) pa_nil)))))
      (C8.pss_cut (ps_set (i := 7) c_l_names.nd rfl (Or.inl rfl) (pe_op (add3 K) (pv 7) (pe_lc (own := [("k", 8)]) (g := gName 8) (by rfl) c_l_names.nd (pi_range1 rfl T.z_range (pa_cons (pe_callB (len3 K) (by rfl) T.z_len (by decide +kernel) (pa_cons (pv 0) pa_nil)) pa_nil)) (blkOk_by (own := [("k", 8)]) (N := N_l_names) (sc := defScope S_l_names) (by decide +kernel)) (fun _ _ _ _ _ => pg_name (i := 8) c_l_names.nd rfl (Or.inl rfl)) (fun _ _ _ _ _ => (pts_one (pt_cmpR (eq3 K hr.units) (pe_ix (ix3 K) (pe_ix (ix3 K) (pv 0) (pv 8) (fun _ _ => rfl)) (pe_op (add3 K) (pv 5) pe_int) (fun _ _ => rfl)) (pe_ix (ix3 K) (pv 3) (pv 5) (fun _ _ => rfl)) (nomark _)))) (fun _ _ _ _ _ => (pe_tup (pa_cons (pe_ix (ix3 K) (pv 6) pe_int (fun _ _ => rfl)) (pa_cons (pv 8) pa_nil)))))))
      (C8.pss_cut (ps_set (i := 7) c_l_names.nd rfl (Or.inl rfl) (pe_op (add3 K) (pv 7) (pe_lc (own := [("k", 8)]) (g := gName 8) (by rfl) c_l_names.nd (pi_range1 rfl T.z_range (pa_cons (pe_callB (len3 K) (by rfl) T.z_len (by decide +kernel) (pa_cons (pv 0) pa_nil)) pa_nil)) (blkOk_by (own := [("k", 8)]) (N := N_l_names) (sc := defScope S_l_names) (by decide +kernel)) (fun _ _ _ _ _ => pg_name (i := 8) c_l_names.nd rfl (Or.inl rfl)) (fun _ _ _ _ _ => (pts_one (pt_cmpR (eq3 K hr.units) (pe_op op_sub (pe_ix (ix3 K) (pe_ix (ix3 K) (pv 0) (pv 8) (fun _ _ => rfl)) (pv 5) (fun _ _ => rfl)) (pe_ix (ix3 K) (pv 2) (pv 5) (fun _ _ => rfl))) (pe_ix (ix3 K) (pv 3) (pv 5) (fun _ _ => rfl)) (nomark _)))) (fun _ _ _ _ _ => (pe_tup (pa_cons (pe_ix (ix3 K) (pv 6) pe_int (fun _ _ => rfl)) (pa_cons (pv 8) pa_nil)))))))
      (pss_one (ps_expr (bm3 K PySem.F.plainAttrs_list PySem.F.slot_list_append PySem.F.type_list_append mt_append (pv 4) (pa_cons (pe_ifExp (pt_cmpR (ne3 K hr.units) (pv 7) (pe_lst pa_nil) (nomark _)) (pe_ix (ix3 K) (pv 7) pe_int (fun _ _ => rfl)) pe_non) pa_nil)))))))))
      (pss_one (ps_ret (pe_ifExp (pt_cmpR (in3 K (un65 hr)) pe_non (pv 4) rfl) pe_non (pe_tup (pa_cons (pe_ix (ix3 K) (pv 4) pe_int (fun _ _ => rfl)) (pa_cons (pe_ix (ix3 K) (pv 4) pe_int (fun _ _ => rfl)) pa_nil))))))))
      , run3 (K := K) (C := T.C) (TL := TL) h fun us n q e hs => ?_⟩
    obtain ⟨bs, ps, a, s, rfl, h1, h2, hq⟩ := hs
    have sz1 : ∀ k : Nat, k ≤ 1000 → k ≤ sizeLine := fun k hk => Nat.le_of_lt (few (by omega))
    have e2 : upFrom 0 2 = ([0, 1] : List Int).map PyData.int := rfl
    simp [ro0, -V3.forL]
    rw [e2]
    refine forL_map PyData.int (fun done left ρ m => m = n ∧ done ++ left = [0, 1] ∧ ∃ z5 z6 z7 z8 : Sl, ρ = [.fz (.d (.list (bs.map bkD))), .fz (.d (.list (ps.map pD))), .fz (.d (pD a)), .fz (.d (pD s)), .ow (done.map fun y => onD (fstN bs ps a s y)), z5, z6, z7, z8]) [0, 1] [] _ _ ?_ ?_ ?_
    · rintro done ρ m ⟨rfl, hd, z5, z6, z7, z8, rfl⟩
      rw [List.append_nil] at hd
      subst hd
      simp
      have k0 := @fst_ok bs ps a s 0
      have k1 := @fst_ok bs ps a s 1
      generalize fstN bs ps a s 0 = o at hq k0 ⊢
      generalize fstN bs ps a s 1 = p at hq k1 ⊢
      have sl : ∀ {a b : D}, lay2 a → lay2 b → SeqAt.shaped (.list [a, b]) = true := fun {a b} h g => by
        obtain ⟨h1, h2⟩ := h
        obtain ⟨g1, g2⟩ := g
        have d : PyData.depth (.list [a, b]) ≤ 64 := by
          simp only [PyData.depth, PyData.depthAll]
          omega
        simp [SeqAt.shaped, PyData.canLay0, PyData.canLayAll0, h1, g1, d]
      refine ⟨by rfl, sl (on_lay k0) (on_lay k1), ?_⟩
      cases o with
      | none =>
        rw [if_pos (.inl (by rfl))]
        exact hq
      | some o =>
        cases p with
        | none =>
          rw [if_pos (.inr (by rfl))]
          exact hq
        | some p =>
          have n1 : PyData.eqv (onD (some o)) PyData.none = false := by rfl
          have n2 : PyData.eqv (onD (some p)) PyData.none = false := by rfl
          rw [n1, n2, if_neg (by simp)]
          exact hq
    · rintro done y left ρ m G hG ⟨rfl, hd, z5, z6, z7, z8, rfl⟩
      have hdl := congrArg List.length hd
      simp at hdl
      have hy : y = 0 ∨ y = 1 := by
        have : y ∈ ([0, 1] : List Int) := by rw [← hd]; simp
        simpa using this
      have ew : atI [PyData.tuple [PyData.str (Str.ofString "right"), PyData.str (Str.ofString "left")], PyData.tuple [PyData.str (Str.ofString "high"), PyData.str (Str.ofString "low")]] y = some (.tuple [.str (wF y), .str (wN y)]) := by
        rcases hy with rfl | rfl <;> rfl
      simp [ew]
      have er : ∀ k, upFrom 0 k = (List.range k).map (fun k : Nat => PyData.int (0 + (k : Nat))) := fun _ => rfl
      have pe : ∀ (w : Str) (n : Nat) (f : Nat → Int), (((List.range n).filter fun k => decide (f k = ax s y)).map fun k => nmD (w, ((k : Nat) : Int))) = (((part w f n).filter fun e => decide (e.2 = ax s y)).map fun e => e.1).map nmD := fun w n f => by
        rw [part_flt, List.map_map]
        rfl
      have pl : ∀ (w : Str) (n : Nat) (f : Nat → Int), (((part w f n).filter fun e => decide (e.2 = ax s y)).map fun e => e.1).length ≤ n := fun w n f => by
        rw [part_flt, List.length_map]
        exact Nat.le_trans (List.length_filter_le _ _) (by simp)
      have l1 := pl "spot" ps.length fun k => ax (atP ps k) y
      have l2 := pl (wF y) bs.length fun k => hiB (bkN bs k) y
      have l3 := pl (wN y) bs.length fun k => loB (bkN bs k) y - ax a y
      have p1 := pe "spot" ps.length fun k => ax (atP ps k) y
      have p2 := pe (wF y) bs.length fun k => hiB (bkN bs k) y
      have p3 := pe (wN y) bs.length fun k => loB (bkN bs k) y - ax a y
      have fh : fstN bs ps a s y = ((((part "spot" (fun k => ax (atP ps k) y) ps.length).filter fun e => decide (e.2 = ax s y)).map fun e => e.1) ++ (((part (wF y) (fun k => hiB (bkN bs k) y) bs.length).filter fun e => decide (e.2 = ax s y)).map fun e => e.1) ++ (((part (wN y) (fun k => loB (bkN bs k) y - ax a y) bs.length).filter fun e => decide (e.2 = ax s y)).map fun e => e.1)).head? := by
        unfold fstN nfL
        rw [← List.head?_map, List.filter_append, List.filter_append, List.map_append, List.map_append]
      have fe : ((nfL bs ps a y).filter fun e => decide (e.2 = ax s y)).map (fun e => e.1) = (((part "spot" (fun k => ax (atP ps k) y) ps.length).filter fun e => decide (e.2 = ax s y)).map fun e => e.1) ++ (((part (wF y) (fun k => hiB (bkN bs k) y) bs.length).filter fun e => decide (e.2 = ax s y)).map fun e => e.1) ++ (((part (wN y) (fun k => loB (bkN bs k) y - ax a y) bs.length).filter fun e => decide (e.2 = ax s y)).map fun e => e.1) := by
        unfold nfL
        rw [List.filter_append, List.filter_append, List.map_append, List.map_append]
      have hso : ∀ x ∈ ((nfL bs ps a y).filter fun e => decide (e.2 = ax s y)).map (fun e => e.1), PyData.strOk x.1 = true := fun x hx => by
        obtain ⟨e, he, rfl⟩ := List.mem_map.mp hx
        exact nf_ok (List.mem_filter.mp he).1
      rw [fe] at hso
      clear pe pl fe
      generalize (((part "spot" (fun k => ax (atP ps k) y) ps.length).filter fun e => decide (e.2 = ax s y)).map fun e => e.1) = S1 at l1 p1 fh hso
      generalize (((part (wF y) (fun k => hiB (bkN bs k) y) bs.length).filter fun e => decide (e.2 = ax s y)).map fun e => e.1) = S2 at l2 p2 fh hso
      generalize (((part (wN y) (fun k => loB (bkN bs k) y - ax a y) bs.length).filter fun e => decide (e.2 = ax s y)).map fun e => e.1) = S3 at l3 p3 fh hso
      refine Exists.intro (fun ρ k => k = m ∧ ∃ z8 : Sl, ρ = [.fz (.d (.list (bs.map bkD))), .fz (.d (.list (ps.map pD))), .fz (.d (pD a)), .fz (.d (pD s)), .ow (done.map fun y => onD (fstN bs ps a s y)), .fz (.d (.int y)), .fz (.d (.tuple [.str (wF y), .str (wN y)])), .ow (S1.map nmD), z8]) (And.intro ?_ ?_)
      · refine ⟨by omega, few (by omega), ?_⟩
        rw [er]
        refine lcL_pure (fun k : Nat => PyData.int (0 + (k : Nat))) (fun k => nmD ("spot", ((k : Nat) : Int))) (fun k => decide (ax (atP ps k) y = ax s y)) (List.range ps.length) _ _ (fun k hk n Kt Ks h => ?_) ?_
        · have hk := gsp (List.mem_range.mp hk)
          rcases hy with rfl | rfl <;> simp [hk, ax] at h ⊢ <;> exact h
        · rw [p1, if_pos (flat_nms _)]
          exact ⟨rfl, _, rfl⟩
      rintro ρ k ⟨rfl, z8, rfl⟩
      refine Exists.intro (fun ρ j => j = k ∧ ∃ z8 : Sl, ρ = [.fz (.d (.list (bs.map bkD))), .fz (.d (.list (ps.map pD))), .fz (.d (pD a)), .fz (.d (pD s)), .ow (done.map fun y => onD (fstN bs ps a s y)), .fz (.d (.int y)), .fz (.d (.tuple [.str (wF y), .str (wN y)])), .ow ((S1 ++ S2).map nmD), z8]) (And.intro ?_ ?_)
      · simp [-List.map_append]
        refine ⟨by omega, few (by omega), ?_⟩
        rw [er]
        refine lcL_pure (fun k : Nat => PyData.int (0 + (k : Nat))) (fun k => nmD (wF y, ((k : Nat) : Int))) (fun k => decide (hiB (bkN bs k) y = ax s y)) (List.range bs.length) _ _ (fun k hk n Kt Ks h => ?_) ?_
        · have hk := gbk (List.mem_range.mp hk)
          rcases hy with rfl | rfl <;> simp [hk, ax, hiB] at h ⊢ <;> exact h
        · rw [p2, ← List.map_append, if_pos (flat_nms _)]
          exact ⟨sz1 _ (by simp; omega), rfl, _, rfl⟩
      rintro ρ j ⟨rfl, z8, rfl⟩
      refine Exists.intro (fun ρ i => i = j ∧ ∃ z8 : Sl, ρ = [.fz (.d (.list (bs.map bkD))), .fz (.d (.list (ps.map pD))), .fz (.d (pD a)), .fz (.d (pD s)), .ow (done.map fun y => onD (fstN bs ps a s y)), .fz (.d (.int y)), .fz (.d (.tuple [.str (wF y), .str (wN y)])), .ow ((S1 ++ S2 ++ S3).map nmD), z8]) (And.intro ?_ ?_)
      · simp [-List.map_append, -List.append_assoc]
        refine ⟨by omega, few (by omega), ?_⟩
        rw [er]
        refine lcL_pure (fun k : Nat => PyData.int (0 + (k : Nat))) (fun k => nmD (wN y, ((k : Nat) : Int))) (fun k => decide (loB (bkN bs k) y - ax a y = ax s y)) (List.range bs.length) _ _ (fun k hk n Kt Ks h => ?_) ?_
        · have hk := gbk (List.mem_range.mp hk)
          rcases hy with rfl | rfl <;> simp [hk, ax, loB] at h ⊢ <;> exact h
        · rw [p3, ← List.map_append, if_pos (flat_nms _)]
          exact ⟨sz1 _ (by simp; omega), rfl, _, rfl⟩
      rintro ρ i ⟨rfl, z8, rfl⟩
      have hG2 : ∀ z5 z6 z7 z8 : Sl, G [.fz (.d (.list (bs.map bkD))), .fz (.d (.list (ps.map pD))), .fz (.d (pD a)), .fz (.d (pD s)), .ow ((done.map fun y => onD (fstN bs ps a s y)) ++ [onD (fstN bs ps a s y)]), z5, z6, z7, z8] i := fun z5 z6 z7 z8 => hG _ _ ⟨rfl, by rw [← hd]; simp, _, _, _, _, by rw [List.map_append]; rfl⟩
      rw [fh] at hG2
      generalize S1 ++ S2 ++ S3 = S at hG2 hso ⊢
      cases S with
      | nil =>
        simp [onD] at hG2
        simp
        exact ⟨by rfl, by rfl, few (by omega), hG2 _ _ _ _⟩
      | cons x S =>
        have sh := shaped_nms hso
        simp [onD] at hG2
        simp
        refine ⟨sh, by rfl, ?_⟩
        rw [show (PyData.list (nmD x :: List.map nmD S)).eqv (PyData.list []) = false from rfl]
        simp
        exact ⟨few (by omega), hG2 _ _ _ _⟩
    · exact ⟨rfl, rfl, _, _, _, _, rfl⟩
theorem ok_l_place (T : Txt K mg) : FnOk P w K mg base CX0 1 T.l_place.a T.l_place.d ["blocks", "spots", "body", "names"] (toSp K T.C TL false sp_lplace) := by
  refine T.l_place.F.ok c_l_place (fun vs H Q E h => toSp_len h fun us n q e hs => ?_) (fun cdv A outer s H vs Q E hr h => ?_)
  · (first | (obtain ⟨rfl, _⟩ := hs; rfl) | (obtain ⟨_, hs⟩ := hs; (first | (obtain ⟨rfl, _⟩ := hs; rfl) | (obtain ⟨_, hs⟩ := hs; (first | (obtain ⟨rfl, _⟩ := hs; rfl) | (obtain ⟨_, hs⟩ := hs; (first | (obtain ⟨rfl, _⟩ := hs; rfl) | (obtain ⟨_, hs⟩ := hs; (first | (obtain ⟨rfl, _⟩ := hs; rfl) | (obtain ⟨_, hs⟩ := hs; (first | (obtain ⟨rfl, _⟩ := hs; rfl) | (obtain ⟨_, hs⟩ := hs; (first | (obtain ⟨rfl, _⟩ := hs; rfl) | (obtain ⟨_, hs⟩ := hs; (first | (obtain ⟨rfl, _⟩ := hs; rfl) | (obtain ⟨_, hs⟩ := hs; (first | (obtain ⟨rfl, _⟩ := hs; rfl) | (obtain ⟨_, hs⟩ := hs; (first | (obtain ⟨rfl, _⟩ := hs; rfl) | (obtain ⟨_, hs⟩ := hs; (first | (obtain ⟨rfl, _⟩ := hs; rfl) | (obtain ⟨_, hs⟩ := hs; (first | (obtain ⟨rfl, _⟩ := hs; rfl) | (obtain ⟨_, hs⟩ := hs; (first | (obtain ⟨rfl, _⟩ := hs; rfl) | (obtain ⟨_, hs⟩ := hs; (first | (obtain ⟨rfl, _⟩ := hs; rfl) | (obtain ⟨_, hs⟩ := hs; (first | (obtain ⟨rfl, _⟩ := hs; rfl) | (obtain ⟨_, hs⟩ := hs; (first | (obtain ⟨rfl, _⟩ := hs; rfl) | (obtain ⟨_, hs⟩ := hs; (obtain ⟨rfl, _⟩ := hs; rfl)))))))))))))))))))))))))))))))))
  · refine ⟨_,
      (pss_cons (ps_set (i := 4) c_l_place.nd rfl (Or.inl rfl) (pe_lst pa_nil))
      (pss_cons (ps_for PassesOwn.never rfl (pi_range1 rfl T.z_range (pa_cons pe_int pa_nil)) (pg_name (i := 5) c_l_place.nd rfl (Or.inl rfl))
      (pss_cons (ps_asg (pe_ix (ix3 K) (pv 3) (pv 5) (fun _ _ => rfl)) (tupG3 K (n := 2) rfl (pgs_cons (pg_name (i := 6) c_l_place.nd rfl (Or.inl rfl) (hf := Or.inr rfl)) (pgs_cons (pg_name (i := 7) c_l_place.nd rfl (Or.inl rfl) (hf := Or.inr rfl)) pgs_nil))))
      (pss_one (ps_if (pt_cmpR (eq3 K hr.units) (pv 6) pe_str (nomark _))
      (pss_one (ps_expr (bm3 K PySem.F.plainAttrs_list PySem.F.slot_list_append PySem.F.type_list_append mt_append (pv 4) (pa_cons (pe_ix (ix3 K) (pe_ix (ix3 K) (pv 1) (pv 7) (fun _ _ => rfl)) (pv 5) (fun _ _ => rfl)) pa_nil))))
      (pss_one (ps_expr (bm3 K PySem.F.plainAttrs_list PySem.F.slot_list_append PySem.F.type_list_append mt_append (pv 4) (pa_cons (pe_ifExp (pt_cmpR (in3 K (un65 hr)) (pv 6) (pe_tup (pa_cons pe_str (pa_cons pe_str pa_nil))) rfl) (pe_ix (ix3 K) (pe_ix (ix3 K) (pv 0) (pv 7) (fun _ _ => rfl)) (pe_op (add3 K) (pv 5) pe_int) (fun _ _ => rfl)) (pe_op op_sub (pe_ix (ix3 K) (pe_ix (ix3 K) (pv 0) (pv 7) (fun _ _ => rfl)) (pv 5) (fun _ _ => rfl)) (pe_ix (ix3 K) (pv 2) (pv 5) (fun _ _ => rfl)))) pa_nil))))))))
      (pss_one (ps_ret (pe_tup (pa_cons (pe_ix (ix3 K) (pv 4) pe_int (fun _ _ => rfl)) (pa_cons (pe_ix (ix3 K) (pv 4) pe_int (fun _ _ => rfl)) pa_nil)))))))
      , run3 (K := K) (C := T.C) (TL := TL) h fun us n q e hs => ?_⟩
    obtain ⟨bs, ps, a, p, o, rfl, hp, ho, hq⟩ := hs
    have e2 : upFrom 0 2 = ([0, 1] : List Int).map PyData.int := rfl
    have sz1 : ∀ k : Nat, k ≤ 1000 → k ≤ sizeLine := fun k hk => Nat.le_of_lt (few (by omega))
    simp [ro0, -V3.forL]
    rw [e2]
    refine forL_map PyData.int (fun done left ρ m => m = n ∧ done ++ left = [0, 1] ∧ ∃ z5 z6 z7 : Sl, ρ = [.fz (.d (.list (bs.map bkD))), .fz (.d (.list (ps.map pD))), .fz (.d (pD a)), .fz (.d (.tuple [nmD p, nmD o])), .ow (done.map fun y => .int (valN bs ps a y (if y = 0 then p else o))), z5, z6, z7]) [0, 1] [] _ _ ?_ ?_ ?_
    · rintro done ρ m ⟨rfl, hd, z5, z6, z7, rfl⟩
      rw [List.append_nil] at hd
      subst hd
      simp
      exact hq
    · rintro done y left ρ m G hG ⟨rfl, hd, z5, z6, z7, rfl⟩
      have hdl := congrArg List.length hd
      simp at hdl
      have hy : y = 0 ∨ y = 1 := by
        have : y ∈ ([0, 1] : List Int) := by rw [← hd]; simp
        simpa using this
      obtain ⟨x, hx⟩ : ∃ x : Nm, x = if y = 0 then p else o := ⟨_, rfl⟩
      have en : atI [nmD p, nmD o] y = some (nmD x) := by
        rcases hy with rfl | rfl
        · rw [hx]
          rfl
        · rw [hx]
          rfl
      have hok : nmOk ps.length bs.length (wsN y) (nmD x) = true := by
        rcases hy with rfl | rfl
        · rw [hx]
          exact hp
        · rw [hx]
          exact ho
      have hG2 : ∀ z5 z6 z7 : Sl, G [.fz (.d (.list (bs.map bkD))), .fz (.d (.list (ps.map pD))), .fz (.d (pD a)), .fz (.d (.tuple [nmD p, nmD o])), .ow ((done.map fun y => PyData.int (valN bs ps a y (if y = 0 then p else o))) ++ [.int (valN bs ps a y x)]), z5, z6, z7] m := fun z5 z6 z7 => hG _ _ ⟨rfl, by rw [← hd]; simp, _, _, _, by rw [List.map_append, hx]; rfl⟩
      simp [en]
      obtain ⟨n1, n2, n3⟩ := words_ne y
      obtain ⟨w, k⟩ := x
      have hdl2 : done.length < sizeLine := few (by omega)
      have so := ws_ok (y := y) (w := w) (by
        simp only [nmOk, Bool.and_eq_true, decide_eq_true_eq] at hok
        exact hok.1)
      have ss : ∀ w : Str, PyData.strOk w = true → SeqAt.shaped (.str w) = true := fun w h => by
        simp [SeqAt.shaped, PyData.canLay0, PyData.depth, h]
      simp only [nmOk, isIxD, wsN, Bool.and_eq_true, decide_eq_true_eq, List.mem_cons, List.not_mem_nil, or_false] at hok
      obtain ⟨hw, h0, h1⟩ := hok
      refine ⟨ss _ so, ss _ (by decide +kernel), ?_⟩
      rw [eqv_str]
      have b3 : ∀ (v w : Str), (PyData.str v).eqv (.str w) = decide (v = w) := eqv_str
      rcases hw with rfl | rfl | rfl
      · rw [if_pos rfl] at h1
        simp [atI_sp h0 h1]
        rcases hy with rfl | rfl <;> simp [valN, ax] at hG2 ⊢ <;> exact ⟨hdl2, hG2 _ _ _⟩
      · rw [if_neg fun z => n1 z.symm] at h1
        have ne : ¬ wF y = "spot" := fun z => n1 z.symm
        simp [ne, b3, atI_bk h0 h1]
        rcases hy with rfl | rfl
        · have ev : valN bs ps a 0 (wF 0, k) = (bkN bs k.toNat).r := by simp [valN, ne, hiB]
          rw [ev] at hG2
          refine ⟨rfl, ⟨rfl, rfl⟩, ?_⟩
          rw [if_pos (.inl rfl)]
          exact ⟨hdl2, hG2 _ _ _⟩
        · have ev : valN bs ps a 1 (wF 1, k) = (bkN bs k.toNat).u := by simp [valN, ne, hiB]
          rw [ev] at hG2
          refine ⟨rfl, ⟨rfl, rfl⟩, ?_⟩
          rw [if_pos (.inr rfl)]
          exact ⟨hdl2, hG2 _ _ _⟩
      · rw [if_neg fun z => n2 z.symm] at h1
        have ne : ¬ wN y = "spot" := fun z => n2 z.symm
        simp [ne, b3, atI_bk h0 h1]
        have n4 : ∀ y : Int, ¬ wN y = wF y := fun y z => (words_ne y).2.2 z.symm
        rcases hy with rfl | rfl
        · have ev : valN bs ps a 0 (wN 0, k) = (bkN bs k.toNat).l - a.1 := by simp [valN, ne, n4, loB, ax]
          rw [ev] at hG2
          refine ⟨rfl, ⟨rfl, rfl⟩, ?_⟩
          rw [if_neg (by decide +kernel)]
          exact ⟨_, rfl, _, rfl, hdl2, hG2 _ _ _⟩
        · have ev : valN bs ps a 1 (wN 1, k) = (bkN bs k.toNat).d - a.2 := by simp [valN, ne, n4, loB, ax]
          rw [ev] at hG2
          refine ⟨rfl, ⟨rfl, rfl⟩, ?_⟩
          rw [if_neg (by decide +kernel)]
          exact ⟨_, rfl, _, rfl, hdl2, hG2 _ _ _⟩
    · exact ⟨rfl, rfl, _, _, _, rfl⟩
theorem ok_l_all_names (T : Txt K mg) : FnOk P w K mg base CX0 1 T.l_all_names.a T.l_all_names.d ["spots", "many", "flat"] (toSp K T.C TL true sp_lallnames) := by
  refine T.l_all_names.F.ok c_l_all_names (fun vs H Q E h => toSp_len h fun us n q e hs => ?_) (fun cdv A outer s H vs Q E hr h => ?_)
  · (first | (obtain ⟨rfl, _⟩ := hs; rfl) | (obtain ⟨_, hs⟩ := hs; (first | (obtain ⟨rfl, _⟩ := hs; rfl) | (obtain ⟨_, hs⟩ := hs; (first | (obtain ⟨rfl, _⟩ := hs; rfl) | (obtain ⟨_, hs⟩ := hs; (first | (obtain ⟨rfl, _⟩ := hs; rfl) | (obtain ⟨_, hs⟩ := hs; (first | (obtain ⟨rfl, _⟩ := hs; rfl) | (obtain ⟨_, hs⟩ := hs; (first | (obtain ⟨rfl, _⟩ := hs; rfl) | (obtain ⟨_, hs⟩ := hs; (first | (obtain ⟨rfl, _⟩ := hs; rfl) | (obtain ⟨_, hs⟩ := hs; (first | (obtain ⟨rfl, _⟩ := hs; rfl) | (obtain ⟨_, hs⟩ := hs; (first | (obtain ⟨rfl, _⟩ := hs; rfl) | (obtain ⟨_, hs⟩ := hs; (first | (obtain ⟨rfl, _⟩ := hs; rfl) | (obtain ⟨_, hs⟩ := hs; (first | (obtain ⟨rfl, _⟩ := hs; rfl) | (obtain ⟨_, hs⟩ := hs; (first | (obtain ⟨rfl, _⟩ := hs; rfl) | (obtain ⟨_, hs⟩ := hs; (first | (obtain ⟨rfl, _⟩ := hs; rfl) | (obtain ⟨_, hs⟩ := hs; (first | (obtain ⟨rfl, _⟩ := hs; rfl) | (obtain ⟨_, hs⟩ := hs; (first | (obtain ⟨rfl, _⟩ := hs; rfl) | (obtain ⟨_, hs⟩ := hs; (first | (obtain ⟨rfl, _⟩ := hs; rfl) | (obtain ⟨_, hs⟩ := hs; (obtain ⟨rfl, _⟩ := hs; rfl)))))))))))))))))))))))))))))))))
  · refine ⟨_,
      (pss_cons (ps_set (i := 3) c_l_all_names.nd rfl (Or.inr rfl) (pe_ix (ix3 K) (pe_lst (pa_cons (pe_tup (pa_cons pe_str (pa_cons pe_str pa_nil))) (pa_cons (pe_tup (pa_cons pe_str (pa_cons pe_str pa_nil))) pa_nil))) (pv 2) (fun _ _ => rfl)))
      (pss_cons (ps_set (i := 4) c_l_all_names.nd rfl (Or.inl rfl) (pe_op (add3 K) (pe_lc (own := [("k", 5)]) (g := gName 5) (by rfl) c_l_all_names.nd (pi_range1 rfl T.z_range (pa_cons (pe_callB (len3 K) (by rfl) T.z_len (by decide +kernel) (pa_cons (pv 0) pa_nil)) pa_nil)) (blkOk_by (own := [("k", 5)]) (N := N_l_all_names) (sc := defScope S_l_all_names) (by decide +kernel)) (fun _ _ _ _ _ => pg_name (i := 5) c_l_all_names.nd rfl (Or.inl rfl)) (fun _ _ _ _ _ => pts_nil) (fun _ _ _ _ _ => (pe_tup (pa_cons pe_str (pa_cons (pv 5) pa_nil))))) (pe_lc (own := [("k", 5)]) (g := gName 5) (by rfl) c_l_all_names.nd (pi_range1 rfl T.z_range (pa_cons (pv 1) pa_nil)) (blkOk_by (own := [("k", 5)]) (N := N_l_all_names) (sc := defScope S_l_all_names) (by decide +kernel)) (fun _ _ _ _ _ => pg_name (i := 5) c_l_all_names.nd rfl (Or.inl rfl)) (fun _ _ _ _ _ => pts_nil) (fun _ _ _ _ _ => (pe_tup (pa_cons (pe_ix (ix3 K) (pv 3) pe_int (fun _ _ => rfl)) (pa_cons (pv 5) pa_nil)))))))
      (pss_one (ps_ret (pe_op (add3 K) (pv 4) (pe_lc (own := [("k", 5)]) (g := gName 5) (by rfl) c_l_all_names.nd (pi_range1 rfl T.z_range (pa_cons (pv 1) pa_nil)) (blkOk_by (own := [("k", 5)]) (N := N_l_all_names) (sc := defScope S_l_all_names) (by decide +kernel)) (fun _ _ _ _ _ => pg_name (i := 5) c_l_all_names.nd rfl (Or.inl rfl)) (fun _ _ _ _ _ => pts_nil) (fun _ _ _ _ _ => (pe_tup (pa_cons (pe_ix (ix3 K) (pv 3) pe_int (fun _ _ => rfl)) (pa_cons (pv 5) pa_nil))))))))))
      , run3 (K := K) (C := T.C) (TL := TL) h fun us n q e hs => ?_⟩
    obtain ⟨ps, m, y, rfl, hy, h1, h2, hq⟩ := hs
    have sz1 : ∀ k : Nat, k ≤ 1000 → k ≤ sizeLine := fun k hk => Nat.le_of_lt (few (by omega))
    have ew : atI [PyData.tuple [PyData.str (Str.ofString "right"), PyData.str (Str.ofString "left")], PyData.tuple [PyData.str (Str.ofString "high"), PyData.str (Str.ofString "low")]] y = some (.tuple [.str (wF y), .str (wN y)]) := by
      rcases hy with rfl | rfl <;> rfl
    have er : ∀ k, upFrom 0 k = (List.range k).map (fun k : Nat => PyData.int (0 + (k : Nat))) := fun _ => rfl
    have pe : ∀ (w : Str) (n : Nat), ((List.range n).map fun k => nmD (w, ((k : Nat) : Int))) = ((List.range n).map fun k => ((w, ((k : Nat) : Int)) : Nm)).map nmD := fun w n => by
      rw [List.map_map]
      rfl
    simp [ro0, -List.map_map]
    rw [ew]
    refine ⟨by omega, few (by omega), ?_⟩
    rw [er, er]
    refine lcL_all (fun k : Nat => PyData.int (0 + (k : Nat))) (fun k => nmD ("spot", ((k : Nat) : Int))) (List.range ps.length) _ _ (fun k hk n Kt Ks h => ?_) ?_
    · simp
      exact h
    refine ⟨by omega, few (by omega), lcL_all (fun k : Nat => PyData.int (0 + (k : Nat))) (fun k => nmD (wF y, ((k : Nat) : Int))) (List.range m) _ _ (fun k hk n Kt Ks h => ?_) ?_⟩
    · simp
      exact h
    refine ⟨sz1 _ (by simp; omega), by omega, few (by omega), lcL_all (fun k : Nat => PyData.int (0 + (k : Nat))) (fun k => nmD (wN y, ((k : Nat) : Int))) (List.range m) _ _ (fun k hk n Kt Ks h => ?_) ?_⟩
    · simp
      exact h
    refine ⟨sz1 _ (by simp; omega), ?_⟩
    rw [pe, pe, pe, ← List.append_assoc, ← List.map_append, ← List.map_append]
    exact hq
end
end G21
set_option Elab.async false
set_option linter.all false
set_option maxRecDepth 100000
set_option maxHeartbeats 4000000
set_option synthInstance.maxSize 100000
set_option synthInstance.maxHeartbeats 0
namespace G21
open PySem PySem.Spec PyProof.Rows L2 V3
theorem caughtK {X : Cx} (K : PySem.W.Frag) {q : Str} {g CS : Addr} {cdg : Value} (hme : X.mg "GapError" = some (.ref CS)) (h : X.K = K := by rfl) :
    LamX.GivesTo X N_l_caught "_law_caught" (defScope S_l_caught) g cdg (defBody S_l_caught) "task" q (TTc K CS) := h ▸ caught_gives hme
instance {K : PySem.W.Frag} {mg : Str → Option Value} (T : Txt K mg) : ExcF K T.x_GapError.C T.x_BadDrawing.C := ⟨T.x_BadDrawing.e, T.e_BadDrawing, T.u_BadDrawing⟩
instance {K : PySem.W.Frag} {mg : Str → Option Value} (T : Txt K mg) : ExcF K T.x_GapError.C T.x_BadSpots.C := ⟨T.x_BadSpots.e, T.e_BadSpots, T.u_BadSpots⟩
instance {K : PySem.W.Frag} {mg : Str → Option Value} (T : Txt K mg) : ExcF K T.x_GapError.C T.x_BadSpot.C := ⟨T.x_BadSpot.e, T.e_BadSpot, T.u_BadSpot⟩
instance {K : PySem.W.Frag} {mg : Str → Option Value} (T : Txt K mg) : ExcF K T.x_GapError.C T.x_BadBody.C := ⟨T.x_BadBody.e, T.e_BadBody, T.u_BadBody⟩
instance {K : PySem.W.Frag} {mg : Str → Option Value} (T : Txt K mg) : ExcF K T.x_GapError.C T.x_BadNames.C := ⟨T.x_BadNames.e, T.e_BadNames, T.u_BadNames⟩
instance {K : PySem.W.Frag} {mg : Str → Option Value} (T : Txt K mg) : ExcN K T.x_BadDrawing.C := ⟨T.n_BadDrawing⟩
instance {K : PySem.W.Frag} {mg : Str → Option Value} (T : Txt K mg) : ExcN K T.x_BadSpots.C := ⟨T.n_BadSpots⟩
instance {K : PySem.W.Frag} {mg : Str → Option Value} (T : Txt K mg) : ExcN K T.x_BadSpot.C := ⟨T.n_BadSpot⟩
instance {K : PySem.W.Frag} {mg : Str → Option Value} (T : Txt K mg) : ExcN K T.x_BadBody.C := ⟨T.n_BadBody⟩
instance {K : PySem.W.Frag} {mg : Str → Option Value} (T : Txt K mg) : ExcN K T.x_BadNames.C := ⟨T.n_BadNames⟩
def refQ : Str := Str.ofString "_law_refused.<locals>.<lambda>"
/-- the law's refusals, their code and their table of lambdas -/
structure TzR {K : PySem.W.Frag} {mg : Str → Option Value} (T : Txt K mg) (base : Heap) (TL : List (Addr × Str)) where
  c : Addr
  P : Addr
  h : T.l_refused.d.code = .ref c
  TBrefused : LamX.TabB base mg c P
  mrefused : (P, refQ) ∈ TL
  urefused : ∀ p ∈ TL, p.1 = P → p.2 = refQ
/-- a loop that leaves the state as it was -/
theorem forL_each {is : List Nat} {tup : Bool} {mb : TS3} {F : En3} {e : Addr → Prop} (R : D → Prop) (I : Ro → Nat → Prop) :
    ∀ (ds : List D) (ρ : Ro) (n : Nat), (∀ d ∈ ds, R d) → (∀ ρ m, I ρ m → F.nx ρ m) → (∀ d ρ m (G : Ro → Nat → Prop), R d → (∀ ρ' m', I ρ' m' → G ρ' m') → I ρ m → giv is tup d ρ fun ρ' => mb { F with nx := G, ct := G, bk := F.nx } ρ' m e) → I ρ n → forL is tup mb F e ds ρ n
  | [], ρ, n, _, h0, _, i => h0 ρ n i
  | d :: ds, ρ, n, hR, h0, hs, i => hs d ρ n _ (hR d List.mem_cons_self) (fun ρ' m' i' => forL_each R I ds ρ' m' (fun x hx => hR x (List.mem_cons_of_mem _ hx)) h0 hs i') i
@[simp ↓] def sp_refused : VSp := fun us n q _ => ∃ (bs : List Bk) (ps : List (Int × Int)) (a b : Int), us = [.dw (bs.map bkD), .d (.list (ps.map pD)), .d (pr a b), .d (.int (bs.length : Nat))] ∧ bs.length ≤ 3 ∧ ps.length ≤ 3 ∧ 1 ≤ a ∧ 1 ≤ b ∧ q (.d (.bool true)) n
section
variable {P : Program} {w : World} {K : PySem.W.Frag} {mg : Str → Option Value} {base : Heap} {TL : List (Addr × Str)}
theorem ok_l_refused (T : Txt K mg) (Z : TzR T base TL) : FnOk P w K mg base CX0 11 T.l_refused.a T.l_refused.d ["drawing", "spots", "body", "many"] (toSp K T.C TL false sp_refused) := by
  obtain ⟨ocC, odC, kVC, docC, pmC, anC, cdvC, ctC, oslC, edC, lkC, hcC⟩ := T.l_caught.F.ex
  have bC := T.l_caught.b
  rw [edC] at lkC bC
  refine okC T.l_refused.F Z.h c_l_refused (fun vs H Q E h => toSp_len h fun us n q e hs => ?_) (fun A outer s H vs Q E hr h => ?_)
  · obtain ⟨bs, ps, a, b, rfl, _⟩ := hs
    rfl
  · refine ⟨_,
      (pss_cons (ps_for PassesOwn.never rfl (seq3 K (pe_lst (pa_cons pe_non (pa_cons (pe_tup (pa_cons pe_int (pa_cons pe_int pa_nil))) (pa_cons (pe_lst (pa_cons (pe_tup (pa_cons pe_int pa_nil)) pa_nil)) (pa_cons (pe_lst (pa_cons (pe_tup (pa_cons pe_int (pa_cons pe_bl pa_nil))) pa_nil)) (pa_cons (pe_lst (pa_cons (pe_lst (pa_cons pe_int (pa_cons pe_int pa_nil))) pa_nil)) (pa_cons pe_str pa_nil)))))))) (pg_name (i := 4) c_l_refused.nd rfl (Or.inr rfl))
      (C8.pss_cut (ps_if (pt_not (pt_val (pe_callB (isTU3 K) (by rfl) T.z_isinstance (by decide +kernel) (pa_cons (LamX.pe_lamcall (T := TL) (Ng := N_l_caught) (k := 8) rfl T.l_caught.g T.l_caught.k lkC hcC bC c_l_caught rfl (Or.inl rfl) (caughtK K T.x_GapError.g) Z.TBrefused rfl Z.mrefused Z.urefused (hr.mono (by decide)) (LamX.lamS_by (sc := defScope S_l_refused) (by decide +kernel)) rfl (fun _ _ _ _ _ => rfl) (fun A outer s H E f c' hr => (pe_call (ok_q_fine_cells T (TL := TL)) (hr.mono (by decide)) rfl T.q_fine_cells.g T.q_fine_cells.k T.q_fine_cells.b .nil (passes_call (takes_of rfl rfl rfl rfl) (fun _ _ _ _ h => h)) (pa_cons pe_non (pa_cons (pv 4) pa_nil))))) (pa_cons (pe_glob (v := .ref T.x_BadDrawing.C) (u := .ref T.x_BadDrawing.C) rfl T.x_BadDrawing.g rfl) pa_nil)))))
      (pss_one (ps_ret pe_bl))
      pss_nil)
      (C8.pss_cut (ps_if (pt_not (pt_val (pe_callB (isTU3 K) (by rfl) T.z_isinstance (by decide +kernel) (pa_cons (LamX.pe_lamcall (T := TL) (Ng := N_l_caught) (k := 8) rfl T.l_caught.g T.l_caught.k lkC hcC bC c_l_caught rfl (Or.inl rfl) (caughtK K T.x_GapError.g) Z.TBrefused rfl Z.mrefused Z.urefused (hr.mono (by decide)) (LamX.lamS_by (sc := defScope S_l_refused) (by decide +kernel)) rfl (fun _ _ _ _ _ => rfl) (fun A outer s H E f c' hr => (pe_call (ok_q_fine_cells T (TL := TL)) (hr.mono (by decide)) rfl T.q_fine_cells.g T.q_fine_cells.k T.q_fine_cells.b .nil (passes_call (takes_of rfl rfl rfl rfl) (fun _ _ _ _ h => h)) (pa_cons (pv 0) (pa_cons (pv 4) pa_nil))))) (pa_cons (pe_glob (v := .ref T.x_BadSpots.C) (u := .ref T.x_BadSpots.C) rfl T.x_BadSpots.g rfl) pa_nil)))))
      (pss_one (ps_ret pe_bl))
      pss_nil)
      (C8.pss_cut (ps_if (pt_not (pt_val (pe_callB (isTU3 K) (by rfl) T.z_isinstance (by decide +kernel) (pa_cons (LamX.pe_lamcall (T := TL) (Ng := N_l_caught) (k := 8) rfl T.l_caught.g T.l_caught.k lkC hcC bC c_l_caught rfl (Or.inl rfl) (caughtK K T.x_GapError.g) Z.TBrefused rfl Z.mrefused Z.urefused (hr.mono (by decide)) (LamX.lamS_by (sc := defScope S_l_refused) (by decide +kernel)) rfl (fun _ _ _ _ _ => rfl) (fun A outer s H E f c' hr => (pe_call (ok_q_fine_cell T (TL := TL)) (hr.mono (by decide)) rfl T.q_fine_cell.g T.q_fine_cell.k T.q_fine_cell.b .nil (passes_call (takes_of rfl rfl rfl rfl) (fun _ _ _ _ h => h)) (pa_cons (pv 0) (pa_cons (pv 4) (pa_cons pe_non pa_nil)))))) (pa_cons (pe_glob (v := .ref T.x_BadSpots.C) (u := .ref T.x_BadSpots.C) rfl T.x_BadSpots.g rfl) pa_nil)))))
      (pss_one (ps_ret pe_bl))
      pss_nil)
      (C8.pss_cut (ps_if (pt_not (pt_val (pe_callB (isTU3 K) (by rfl) T.z_isinstance (by decide +kernel) (pa_cons (LamX.pe_lamcall (T := TL) (Ng := N_l_caught) (k := 8) rfl T.l_caught.g T.l_caught.k lkC hcC bC c_l_caught rfl (Or.inl rfl) (caughtK K T.x_GapError.g) Z.TBrefused rfl Z.mrefused Z.urefused (hr.mono (by decide)) (LamX.lamS_by (sc := defScope S_l_refused) (by decide +kernel)) rfl (fun _ _ _ _ _ => rfl) (fun A outer s H E f c' hr => (pe_call (ok_q_place T (TL := TL)) (hr.mono (by decide)) rfl T.q_place.g T.q_place.k T.q_place.b .nil (passes_call (takes_of rfl rfl rfl rfl) (fun _ _ _ _ h => h)) (pa_cons (pv 0) (pa_cons (pv 4) (pa_cons pe_non (pa_cons pe_non pa_nil))))))) (pa_cons (pe_glob (v := .ref T.x_BadSpots.C) (u := .ref T.x_BadSpots.C) rfl T.x_BadSpots.g rfl) pa_nil)))))
      (pss_one (ps_ret pe_bl))
      pss_nil)
      (pss_one (ps_if (PW.pt (pw_and (pt_not (pt_val (pe_callB (isTU3 K) (by rfl) T.z_isinstance (by decide +kernel) (pa_cons (LamX.pe_lamcall (T := TL) (Ng := N_l_caught) (k := 8) rfl T.l_caught.g T.l_caught.k lkC hcC bC c_l_caught rfl (Or.inl rfl) (caughtK K T.x_GapError.g) Z.TBrefused rfl Z.mrefused Z.urefused (hr.mono (by decide)) (LamX.lamS_by (sc := defScope S_l_refused) (by decide +kernel)) rfl (fun _ _ _ _ _ => rfl) (fun A outer s H E f c' hr => (pe_call (ok_q_named T (TL := TL)) (hr.mono (by decide)) rfl T.q_named.g T.q_named.k T.q_named.b .nil (passes_call (takes_of rfl rfl rfl rfl) (fun _ _ _ _ h => h)) (pa_cons (pv 0) (pa_cons (pv 1) (pa_cons (pv 2) (pa_cons (pv 4) pa_nil))))))) (pa_cons (pe_glob (v := .ref T.x_BadSpot.C) (u := .ref T.x_BadSpot.C) rfl T.x_BadSpot.g rfl) pa_nil))))) (pw_and1 (pt_cmpR (ne3 K hr.units) (pv 4) (pe_tup (pa_cons pe_int (pa_cons pe_int pa_nil))) (nomark _)))))
      (pss_one (ps_ret pe_bl))
      pss_nil)))))))
      (pss_cons (ps_for PassesOwn.never rfl (seq3 K (pe_lst (pa_cons pe_non (pa_cons (pe_tup (pa_cons pe_int (pa_cons pe_int pa_nil))) (pa_cons (pe_tup (pa_cons pe_int (pa_cons pe_bl pa_nil))) (pa_cons (pe_lst (pa_cons pe_int (pa_cons pe_int pa_nil))) pa_nil)))))) (pg_name (i := 4) c_l_refused.nd rfl (Or.inr rfl))
      (C8.pss_cut (ps_if (pt_not (pt_val (pe_callB (isTU3 K) (by rfl) T.z_isinstance (by decide +kernel) (pa_cons (LamX.pe_lamcall (T := TL) (Ng := N_l_caught) (k := 8) rfl T.l_caught.g T.l_caught.k lkC hcC bC c_l_caught rfl (Or.inl rfl) (caughtK K T.x_GapError.g) Z.TBrefused rfl Z.mrefused Z.urefused (hr.mono (by decide)) (LamX.lamS_by (sc := defScope S_l_refused) (by decide +kernel)) rfl (fun _ _ _ _ _ => rfl) (fun A outer s H E f c' hr => (pe_call (ok_q_fine_cell T (TL := TL)) (hr.mono (by decide)) rfl T.q_fine_cell.g T.q_fine_cell.k T.q_fine_cell.b .nil (passes_call (takes_of rfl rfl rfl rfl) (fun _ _ _ _ h => h)) (pa_cons (pv 0) (pa_cons (pv 1) (pa_cons (pv 4) pa_nil)))))) (pa_cons (pe_glob (v := .ref T.x_BadBody.C) (u := .ref T.x_BadBody.C) rfl T.x_BadBody.g rfl) pa_nil)))))
      (pss_one (ps_ret pe_bl))
      pss_nil)
      (C8.pss_cut (ps_if (pt_not (pt_val (pe_callB (isTU3 K) (by rfl) T.z_isinstance (by decide +kernel) (pa_cons (LamX.pe_lamcall (T := TL) (Ng := N_l_caught) (k := 8) rfl T.l_caught.g T.l_caught.k lkC hcC bC c_l_caught rfl (Or.inl rfl) (caughtK K T.x_GapError.g) Z.TBrefused rfl Z.mrefused Z.urefused (hr.mono (by decide)) (LamX.lamS_by (sc := defScope S_l_refused) (by decide +kernel)) rfl (fun _ _ _ _ _ => rfl) (fun A outer s H E f c' hr => (pe_call (ok_q_named T (TL := TL)) (hr.mono (by decide)) rfl T.q_named.g T.q_named.k T.q_named.b .nil (passes_call (takes_of rfl rfl rfl rfl) (fun _ _ _ _ h => h)) (pa_cons (pv 0) (pa_cons (pv 1) (pa_cons (pv 4) (pa_cons pe_non pa_nil))))))) (pa_cons (pe_glob (v := .ref T.x_BadBody.C) (u := .ref T.x_BadBody.C) rfl T.x_BadBody.g rfl) pa_nil)))))
      (pss_one (ps_ret pe_bl))
      pss_nil)
      (C8.pss_cut (ps_if (pt_not (pt_val (pe_callB (isTU3 K) (by rfl) T.z_isinstance (by decide +kernel) (pa_cons (LamX.pe_lamcall (T := TL) (Ng := N_l_caught) (k := 8) rfl T.l_caught.g T.l_caught.k lkC hcC bC c_l_caught rfl (Or.inl rfl) (caughtK K T.x_GapError.g) Z.TBrefused rfl Z.mrefused Z.urefused (hr.mono (by decide)) (LamX.lamS_by (sc := defScope S_l_refused) (by decide +kernel)) rfl (fun _ _ _ _ _ => rfl) (fun A outer s H E f c' hr => (pe_call (ok_q_place T (TL := TL)) (hr.mono (by decide)) rfl T.q_place.g T.q_place.k T.q_place.b .nil (passes_call (takes_of rfl rfl rfl rfl) (fun _ _ _ _ h => h)) (pa_cons (pv 0) (pa_cons (pv 1) (pa_cons (pv 4) (pa_cons pe_non pa_nil))))))) (pa_cons (pe_glob (v := .ref T.x_BadBody.C) (u := .ref T.x_BadBody.C) rfl T.x_BadBody.g rfl) pa_nil)))))
      (pss_one (ps_ret pe_bl))
      pss_nil)
      (C8.pss_cut (ps_if (pt_not (pt_val (pe_callB (isTU3 K) (by rfl) T.z_isinstance (by decide +kernel) (pa_cons (LamX.pe_lamcall (T := TL) (Ng := N_l_caught) (k := 8) rfl T.l_caught.g T.l_caught.k lkC hcC bC c_l_caught rfl (Or.inl rfl) (caughtK K T.x_GapError.g) Z.TBrefused rfl Z.mrefused Z.urefused (hr.mono (by decide)) (LamX.lamS_by (sc := defScope S_l_refused) (by decide +kernel)) rfl (fun _ _ _ _ _ => rfl) (fun A outer s H E f c' hr => (pe_call (ok_q_place T (TL := TL)) (hr.mono (by decide)) rfl T.q_place.g T.q_place.k T.q_place.b .nil (passes_call (takes_of rfl rfl rfl rfl) (fun _ _ _ _ h => h)) (pa_cons (pv 4) (pa_cons (pv 4) (pa_cons (pv 4) (pa_cons pe_non pa_nil))))))) (pa_cons (pe_glob (v := .ref T.x_BadDrawing.C) (u := .ref T.x_BadDrawing.C) rfl T.x_BadDrawing.g rfl) pa_nil)))))
      (pss_one (ps_ret pe_bl))
      pss_nil)
      (pss_one (ps_if (pt_not (pt_val (pe_callB (isTU3 K) (by rfl) T.z_isinstance (by decide +kernel) (pa_cons (LamX.pe_lamcall (T := TL) (Ng := N_l_caught) (k := 8) rfl T.l_caught.g T.l_caught.k lkC hcC bC c_l_caught rfl (Or.inl rfl) (caughtK K T.x_GapError.g) Z.TBrefused rfl Z.mrefused Z.urefused (hr.mono (by decide)) (LamX.lamS_by (sc := defScope S_l_refused) (by decide +kernel)) rfl (fun _ _ _ _ _ => rfl) (fun A outer s H E f c' hr => (pe_call (ok_q_named T (TL := TL)) (hr.mono (by decide)) rfl T.q_named.g T.q_named.k T.q_named.b .nil (passes_call (takes_of rfl rfl rfl rfl) (fun _ _ _ _ h => h)) (pa_cons (pv 4) (pa_cons (pv 4) (pa_cons (pv 4) (pa_cons pe_non pa_nil))))))) (pa_cons (pe_glob (v := .ref T.x_BadDrawing.C) (u := .ref T.x_BadDrawing.C) rfl T.x_BadDrawing.g rfl) pa_nil)))))
      (pss_one (ps_ret pe_bl))
      pss_nil)))))))
      (C8.pss_cut (ps_set (i := 5) c_l_refused.nd rfl (Or.inr rfl) (pe_ifExp (pt_cmpR op_gt (pv 3) pe_int (nomark _)) (pe_lst (pa_cons (pe_tup (pa_cons pe_str (pa_cons pe_int pa_nil))) (pa_cons (pe_tup (pa_cons pe_str (pa_cons pe_int pa_nil))) pa_nil))) (pe_lst (pa_cons (pe_tup (pa_cons pe_str (pa_cons pe_int pa_nil))) (pa_cons (pe_tup (pa_cons pe_str (pa_cons pe_int pa_nil))) pa_nil)))))
      (pss_cons (ps_for PassesOwn.never rfl (seq3 K (pe_lst (pa_cons pe_non (pa_cons pe_int (pa_cons pe_str (pa_cons (pe_tup (pa_cons pe_str pa_nil)) (pa_cons (pe_tup (pa_cons pe_str (pa_cons (pv 3) pa_nil))) (pa_cons (pe_tup (pa_cons pe_str (pa_cons pe_int pa_nil))) (pa_cons (pe_tup (pa_cons pe_str (pa_cons (pe_callB (len3 K) (by rfl) T.z_len (by decide +kernel) (pa_cons (pv 1) pa_nil)) pa_nil))) (pa_cons (pe_tup (pa_cons pe_str (pa_cons (pe_un un_neg pe_int) pa_nil))) (pa_cons (pe_tup (pa_cons pe_str (pa_cons pe_bl pa_nil))) (pa_cons (pe_lst (pa_cons pe_str (pa_cons pe_int pa_nil))) pa_nil)))))))))))) (pg_name (i := 4) c_l_refused.nd rfl (Or.inr rfl))
      (pss_one (ps_if (pt_not (pt_val (pe_callB (isTU3 K) (by rfl) T.z_isinstance (by decide +kernel) (pa_cons (LamX.pe_lamcall (T := TL) (Ng := N_l_caught) (k := 8) rfl T.l_caught.g T.l_caught.k lkC hcC bC c_l_caught rfl (Or.inl rfl) (caughtK K T.x_GapError.g) Z.TBrefused rfl Z.mrefused Z.urefused (hr.mono (by decide)) (LamX.lamS_by (sc := defScope S_l_refused) (by decide +kernel)) rfl (fun _ _ _ _ _ => rfl) (fun A outer s H E f c' hr => (pe_call (ok_q_place T (TL := TL)) (hr.mono (by decide)) rfl T.q_place.g T.q_place.k T.q_place.b .nil (passes_call (takes_of rfl rfl rfl rfl) (fun _ _ _ _ h => h)) (pa_cons (pv 0) (pa_cons (pv 1) (pa_cons (pv 2) (pa_cons (pe_tup (pa_cons (pv 4) (pa_cons (pe_ix (ix3 K) (pv 5) pe_int (fun _ _ => rfl)) pa_nil))) pa_nil))))))) (pa_cons (pe_glob (v := .ref T.x_BadNames.C) (u := .ref T.x_BadNames.C) rfl T.x_BadNames.g rfl) pa_nil)))))
      (pss_one (ps_ret pe_bl))
      pss_nil)))
      (pss_cons (ps_for PassesOwn.never rfl (seq3 K (pe_lst (pa_cons pe_non (pa_cons (pe_tup (pa_cons pe_str (pa_cons pe_int pa_nil))) (pa_cons (pe_tup (pa_cons pe_str (pa_cons pe_int pa_nil))) (pa_cons (pe_tup (pa_cons pe_str (pa_cons (pv 3) pa_nil))) (pa_cons (pe_tup (pa_cons pe_str (pa_cons (pe_un un_neg pe_int) pa_nil))) (pa_cons (pe_tup (pa_cons pe_str (pa_cons (pe_callB (len3 K) (by rfl) T.z_len (by decide +kernel) (pa_cons (pv 1) pa_nil)) pa_nil))) (pa_cons (pe_tup (pa_cons pe_str (pa_cons pe_bl pa_nil))) (pa_cons (pe_tup (pa_cons pe_int (pa_cons pe_str pa_nil))) pa_nil)))))))))) (pg_name (i := 4) c_l_refused.nd rfl (Or.inr rfl))
      (pss_one (ps_if (pt_not (pt_val (pe_callB (isTU3 K) (by rfl) T.z_isinstance (by decide +kernel) (pa_cons (LamX.pe_lamcall (T := TL) (Ng := N_l_caught) (k := 8) rfl T.l_caught.g T.l_caught.k lkC hcC bC c_l_caught rfl (Or.inl rfl) (caughtK K T.x_GapError.g) Z.TBrefused rfl Z.mrefused Z.urefused (hr.mono (by decide)) (LamX.lamS_by (sc := defScope S_l_refused) (by decide +kernel)) rfl (fun _ _ _ _ _ => rfl) (fun A outer s H E f c' hr => (pe_call (ok_q_place T (TL := TL)) (hr.mono (by decide)) rfl T.q_place.g T.q_place.k T.q_place.b .nil (passes_call (takes_of rfl rfl rfl rfl) (fun _ _ _ _ h => h)) (pa_cons (pv 0) (pa_cons (pv 1) (pa_cons (pv 2) (pa_cons (pe_tup (pa_cons (pe_ix (ix3 K) (pv 5) pe_int (fun _ _ => rfl)) (pa_cons (pv 4) pa_nil))) pa_nil))))))) (pa_cons (pe_glob (v := .ref T.x_BadNames.C) (u := .ref T.x_BadNames.C) rfl T.x_BadNames.g rfl) pa_nil)))))
      (pss_one (ps_ret pe_bl))
      pss_nil)))
      (pss_one (ps_ret (pe_callB (isTU3 K) (by rfl) T.z_isinstance (by decide +kernel) (pa_cons (LamX.pe_lamcall (T := TL) (Ng := N_l_caught) (k := 8) rfl T.l_caught.g T.l_caught.k lkC hcC bC c_l_caught rfl (Or.inl rfl) (caughtK K T.x_GapError.g) Z.TBrefused rfl Z.mrefused Z.urefused (hr.mono (by decide)) (LamX.lamS_by (sc := defScope S_l_refused) (by decide +kernel)) rfl (fun _ _ _ _ _ => rfl) (fun A outer s H E f c' hr => (pe_call (ok_q_place T (TL := TL)) (hr.mono (by decide)) rfl T.q_place.g T.q_place.k T.q_place.b .nil (passes_call (takes_of rfl rfl rfl rfl) (fun _ _ _ _ h => h)) (pa_cons (pv 0) (pa_cons (pv 1) (pa_cons (pv 2) (pa_cons (pe_callTy (list3 K) (by rfl) T.z_list (by decide +kernel) (pa_cons (pv 5) pa_nil)) pa_nil))))))) (pa_cons (pe_glob (v := .ref T.x_BadNames.C) (u := .ref T.x_BadNames.C) rfl T.x_BadNames.g rfl) pa_nil))))))))))
      , run3 (K := K) (C := T.C) (TL := TL) h fun us n q e hs => ?_⟩
    obtain ⟨bs, ps, a, b, rfl, h1, h2, ha, hb, hq⟩ := hs
    simp [ro0, -V3.forL]
    have ou : okU (.dw (bs.map bkD)) := .inl ⟨_, rfl⟩
    have ow : dwB (.dw (bs.map bkD)) := fun _ => ⟨bs, rfl⟩
    have no : ∀ {P : Prop}, badW (.dw (bs.map bkD)) = true → P := fun z => by cases z
    have sp : isSL (.list (ps.map pD)) = true := sl_of (ps := ps) rfl
    have spl : lenS (.list (ps.map pD)) := fun ds e => by
      cases e
      simp
      omega
    have bn : lenB .none := fun xs z => by cases z
    have bp : lenB (pr a b) := fun xs z => by
      cases z
      simp
    have bt : isBd (pr a b) = true := by simp [isBd, isSzD, ha, hb]
    have same : ∀ {bs' : List Bk} {ps' : List (Int × Int)}, U.dw (bs.map bkD) = U.dw (bs'.map bkD) → asL (.list (ps.map pD)) = some (ps'.map pD) → bs'.length = bs.length ∧ ps'.length = ps.length := fun {bs' ps'} e1 e2 => by
      rw [bks_of2 e1]
      have := congrArg List.length (Option.some.inj e2)
      simp at this
      exact ⟨rfl, this.symm⟩
    refine forL_each (fun d => lenS d ∧ isSL d = false ∧ (isPr d = false ∨ d = pr 0 0)) (fun ρ m => m = n ∧ ∃ z4 : Sl, ρ = [.fz (.dw (bs.map bkD)), .fz (.d (.list (ps.map pD))), .fz (.d (pr a b)), .fz (.d (.int (bs.length : Nat))), z4, .no]) _ _ _ ?_ ?_ ?_ ⟨rfl, _, rfl⟩
    · intro d hd
      simp only [List.mem_cons, List.not_mem_nil, or_false] at hd
      rcases hd with rfl | rfl | rfl | rfl | rfl | rfl
      · exact ⟨(fun ds e => by cases e), rfl, .inl rfl⟩
      · exact ⟨(fun ds e => by cases e; simp), rfl, .inr rfl⟩
      · exact ⟨(fun ds e => by cases e; simp), rfl, .inl rfl⟩
      · exact ⟨(fun ds e => by cases e; simp), rfl, .inl rfl⟩
      · exact ⟨(fun ds e => by cases e; simp), rfl, .inl rfl⟩
      · exact ⟨(fun ds e => by cases e), rfl, .inl rfl⟩
    · rintro ρ m ⟨rfl, z4, rfl⟩
      simp [-asL, -V3.forL]
      refine forL_each (fun d => lenB d ∧ isBd d = false ∧ (∀ kvs, d ≠ .dict kvs) ∧ lenS d) (fun ρ k => k = m ∧ ∃ z4 : Sl, ρ = [.fz (.dw (bs.map bkD)), .fz (.d (.list (ps.map pD))), .fz (.d (pr a b)), .fz (.d (.int (bs.length : Nat))), z4, .no]) _ _ _ ?_ ?_ ?_ ⟨rfl, _, rfl⟩
      · intro d hd
        simp only [List.mem_cons, List.not_mem_nil, or_false] at hd
        rcases hd with rfl | rfl | rfl | rfl
        · exact ⟨(fun xs e => by cases e), rfl, (fun kvs e => by cases e), (fun ds e => by cases e)⟩
        · exact ⟨(fun xs e => by cases e; simp), rfl, (fun kvs e => by cases e), (fun ds e => by cases e; simp)⟩
        · exact ⟨(fun xs e => by cases e; simp), rfl, (fun kvs e => by cases e), (fun ds e => by cases e; simp)⟩
        · exact ⟨(fun xs e => by cases e), rfl, (fun kvs e => by cases e), (fun ds e => by cases e; simp)⟩
      · rintro ρ k ⟨rfl, z4, rfl⟩
        refine Exists.intro (fun ρ j => j = k ∧ ∃ (z4 : Sl) (p o : Nm), ρ = [.fz (.dw (bs.map bkD)), .fz (.d (.list (ps.map pD))), .fz (.d (pr a b)), .fz (.d (.int (bs.length : Nat))), z4, .ow [nmD p, nmD o]]) (And.intro ?_ ?_)
        · refine ⟨rfl, _, rfl, ?_⟩
          split
          · exact ⟨rfl, _, ("right", 0), ("high", 0), rfl⟩
          · exact ⟨rfl, _, ("spot", 0), ("spot", 0), rfl⟩
        rintro ρ j ⟨rfl, z4, p, o, rfl⟩
        have lnm : ∀ p : Nm, scN (nmD p) ∧ lenB (nmD p) := fun p => ⟨fun a b e => by
          cases e
          rfl, fun xs e => by
          cases e
          simp⟩
        have l2 : ∀ a b : D, lenB (.tuple [a, b]) := fun a b xs e => by
          cases e
          simp
        simp [-asL, -V3.forL]
        refine forL_each (fun d => scN d ∧ lenB d ∧ nmOk ps.length bs.length (wsN 0) d = false) (fun ρ k => k = j ∧ ∃ z4 : Sl, ρ = [.fz (.dw (bs.map bkD)), .fz (.d (.list (ps.map pD))), .fz (.d (pr a b)), .fz (.d (.int (bs.length : Nat))), z4, .ow [nmD p, nmD o]]) _ _ _ ?_ ?_ ?_ ⟨rfl, _, rfl⟩
        · intro d hd
          simp only [List.mem_cons, List.not_mem_nil, or_false] at hd
          rcases hd with rfl | rfl | rfl | rfl | rfl | rfl | rfl | rfl | rfl | rfl
          all_goals refine ⟨(fun a b e => by cases e <;> rfl), (fun xs e => by first | (cases e; simp) | cases e), ?_⟩
          · rfl
          · rfl
          · rfl
          · rfl
          · have n1 : ¬ ("right" : Str) = "spot" := by decide +kernel
            simp [nmOk, isIxD, n1]
          · have n1 : ¬ ("high" : Str) ∈ wsN 0 := by decide +kernel
            simp [nmOk, n1]
          · simp [nmOk, isIxD]
          · simp [nmOk, isIxD]
          · simp [nmOk, isIxD]
          · rfl
        · rintro ρ k ⟨rfl, z4, rfl⟩
          simp [-asL, -V3.forL]
          refine forL_each (fun d => scN d ∧ lenB d ∧ nmOk ps.length bs.length (wsN 1) d = false) (fun ρ j => j = k ∧ ∃ z4 : Sl, ρ = [.fz (.dw (bs.map bkD)), .fz (.d (.list (ps.map pD))), .fz (.d (pr a b)), .fz (.d (.int (bs.length : Nat))), z4, .ow [nmD p, nmD o]]) _ _ _ ?_ ?_ ?_ ⟨rfl, _, rfl⟩
          · intro d hd
            simp only [List.mem_cons, List.not_mem_nil, or_false] at hd
            rcases hd with rfl | rfl | rfl | rfl | rfl | rfl | rfl | rfl
            all_goals refine ⟨(fun a b e => by cases e <;> rfl), (fun xs e => by first | (cases e; simp) | cases e), ?_⟩
            · rfl
            · have n1 : ¬ ("right" : Str) ∈ wsN 1 := by decide +kernel
              simp [nmOk, n1]
            · have n1 : ¬ ("left" : Str) ∈ wsN 1 := by decide +kernel
              simp [nmOk, n1]
            · have n1 : ¬ ("low" : Str) = "spot" := by decide +kernel
              simp [nmOk, isIxD, n1]
            · simp [nmOk, isIxD]
            · simp [nmOk, isIxD]
            · simp [nmOk, isIxD]
            · rfl
          · rintro ρ j ⟨rfl, z4, rfl⟩
            simp [-asL]
            refine ⟨_, _, _, _, ⟨rfl, rfl, rfl, rfl⟩, ⟨ou, ow, spl, bp⟩, no, (fun _ z => by rw [sp] at z; cases z), (fun _ _ z => by rw [bt] at z; cases z), fun bs' ps' a' b' e1 e2 e3 _ _ => ?_⟩
            obtain ⟨s1, s2⟩ := same e1 e2
            exact ⟨by omega, by omega, ⟨(fun xs e => by cases e), (fun x y e => by cases e)⟩, (fun _ => hq), fun a1 a2 a3 a4 e z => by cases e⟩
          · rintro d ρ j G ⟨d1, d2, d3⟩ hG ⟨rfl, z4, rfl⟩
            simp [-asL]
            refine ⟨_, _, _, _, ⟨rfl, rfl, rfl, rfl⟩, ⟨ou, ow, spl, bp⟩, no, (fun _ z => by rw [sp] at z; cases z), (fun _ _ z => by rw [bt] at z; cases z), fun bs' ps' a' b' e1 e2 e3 _ _ => ?_⟩
            obtain ⟨s1, s2⟩ := same e1 e2
            have nk : namesOk ps'.length bs'.length (.tuple [nmD p, d]) = false := by
              show (_ && nmOk ps'.length bs'.length (wsN 1) d) = false
              rw [s1, s2, d3, Bool.and_false]
            refine ⟨by omega, by omega, ⟨l2 _ _, fun x y e => ?_⟩, fun _ => hG _ _ ⟨rfl, _, rfl⟩, fun a1 a2 a3 a4 e z => ?_⟩
            · cases e
              exact ⟨lnm p, d1, d2⟩
            · rw [nk] at z
              cases z
        · rintro d ρ k G ⟨d1, d2, d3⟩ hG ⟨rfl, z4, rfl⟩
          simp [-asL]
          refine ⟨_, _, _, _, ⟨rfl, rfl, rfl, rfl⟩, ⟨ou, ow, spl, bp⟩, no, (fun _ z => by rw [sp] at z; cases z), (fun _ _ z => by rw [bt] at z; cases z), fun bs' ps' a' b' e1 e2 e3 _ _ => ?_⟩
          obtain ⟨s1, s2⟩ := same e1 e2
          have nk : namesOk ps'.length bs'.length (.tuple [d, nmD o]) = false := by
            show (nmOk ps'.length bs'.length (wsN 0) d && _) = false
            rw [s1, s2, d3]
            rfl
          refine ⟨by omega, by omega, ⟨l2 _ _, fun x y e => ?_⟩, fun _ => hG _ _ ⟨rfl, _, rfl⟩, fun a1 a2 a3 a4 e z => ?_⟩
          · cases e
            exact ⟨⟨d1, d2⟩, lnm o⟩
          · rw [nk] at z
            cases z
      · rintro d ρ k G ⟨d1, d2, d3, d4⟩ hG ⟨rfl, z4, rfl⟩
        let St : Ro := [.fz (.dw (bs.map bkD)), .fz (.d (.list (ps.map pD))), .fz (.d (pr a b)), .fz (.d (.int (bs.length : Nat))), .fz (.d d), .no]
        have odd : okU (.d d) := .inr ⟨d, rfl, d3⟩
        have nb : ∀ (a' b' : Int), d = pr a' b' → 1 ≤ a' → 1 ≤ b' → False := fun a' b' e h1 h2 => by
          rw [e] at d2
          simp [isBd, isSzD, h1, h2] at d2
        simp [-asL]
        refine Exists.intro (fun ρ j => j = k ∧ ρ = St) (And.intro ?_ ?_)
        · exact ⟨_, _, d, ⟨rfl, rfl, rfl⟩, ou, ow, spl, d1, no, (fun _ z => by rw [sp] at z; cases z), (fun _ _ _ => ⟨rfl, rfl⟩), fun bs' ps' a' b' _ _ e h1 h2 => (nb a' b' e h1 h2).elim⟩
        rintro ρ j ⟨rfl, rfl⟩
        simp [-asL, St]
        refine Exists.intro (fun ρ k => k = j ∧ ρ = St) (And.intro ?_ ?_)
        · exact ⟨_, _, d, .none, ⟨rfl, rfl, rfl, rfl⟩, ⟨ou, ow, spl, d1⟩, no, (fun _ z => by rw [sp] at z; cases z), (fun _ _ _ => ⟨rfl, rfl⟩), (fun _ _ z => by rw [d2] at z; cases z), fun bs' ps' a' b' _ _ _ _ e h1 h2 => (nb a' b' e h1 h2).elim⟩
        rintro ρ k ⟨rfl, rfl⟩
        simp [-asL, St]
        refine Exists.intro (fun ρ j => j = k ∧ ρ = St) (And.intro ?_ ?_)
        · exact ⟨_, _, d, .none, ⟨rfl, rfl, rfl, rfl⟩, ⟨ou, ow, spl, d1⟩, no, (fun _ z => by rw [sp] at z; cases z), (fun _ _ _ => ⟨rfl, rfl⟩), fun bs' ps' a' b' _ _ e h1 h2 => (nb a' b' e h1 h2).elim⟩
        rintro ρ j ⟨rfl, rfl⟩
        simp [-asL, St]
        refine Exists.intro (fun ρ k => k = j ∧ ρ = St) (And.intro ?_ ?_)
        · exact ⟨_, d, d, .none, ⟨rfl, rfl, rfl, rfl⟩, ⟨odd, (fun z => by cases z), d4, d1⟩, (fun _ => ⟨rfl, rfl⟩), (fun z => by cases z), (fun z => by cases z), fun bs' ps' a' b' z => by cases z⟩
        rintro ρ k ⟨rfl, rfl⟩
        simp [-asL, St]
        exact ⟨_, d, d, .none, ⟨rfl, rfl, rfl, rfl⟩, ⟨odd, (fun z => by cases z), d4, d1⟩, (fun _ => hG _ _ ⟨rfl, _, rfl⟩), (fun z => by cases z), (fun z => by cases z), (fun z => by cases z), fun bs' ps' a' b' _ _ z => by cases z⟩
    · rintro d ρ m G ⟨d1, d2, d3⟩ hG ⟨rfl, z4, rfl⟩
      let St : Ro := [.fz (.dw (bs.map bkD)), .fz (.d (.list (ps.map pD))), .fz (.d (pr a b)), .fz (.d (.int (bs.length : Nat))), .fz (.d d), .no]
      have nd : ∀ (ps : List (Int × Int)), asL d ≠ some (ps.map pD) := fun ps z => by
        rw [sl_of z] at d2
        cases d2
      simp [-asL]
      refine Exists.intro (fun ρ k => k = m ∧ ρ = St) (And.intro ?_ ?_)
      · exact ⟨.d .none, d, ⟨rfl, rfl⟩, .inr ⟨_, rfl, fun kvs z => by cases z⟩, (fun z => by cases z), d1, (fun _ => ⟨rfl, rfl⟩), (fun z => by cases z), fun bs' ps' z => by cases z⟩
      rintro ρ k ⟨rfl, rfl⟩
      simp [-asL, St]
      refine Exists.intro (fun ρ j => j = k ∧ ρ = St) (And.intro ?_ ?_)
      · exact ⟨_, d, ⟨rfl, rfl⟩, ou, ow, d1, no, (fun _ _ => ⟨rfl, rfl⟩), fun bs' ps' _ z => absurd z (nd ps')⟩
      rintro ρ j ⟨rfl, rfl⟩
      simp [-asL, St]
      refine Exists.intro (fun ρ k => k = j ∧ ρ = St) (And.intro ?_ ?_)
      · exact ⟨_, d, .none, ⟨rfl, rfl, rfl⟩, ou, ow, d1, bn, no, (fun _ _ => ⟨rfl, rfl⟩), (fun _ z => by rw [d2] at z; cases z), fun bs' ps' a' b' _ z => absurd z (nd ps')⟩
      rintro ρ k ⟨rfl, rfl⟩
      simp [-asL, St]
      refine Exists.intro (fun ρ j => j = k ∧ ρ = St) (And.intro ?_ ?_)
      · exact ⟨_, d, .none, .none, ⟨rfl, rfl, rfl, rfl⟩, ⟨ou, ow, d1, bn⟩, no, (fun _ _ => ⟨rfl, rfl⟩), (fun _ z => by rw [d2] at z; cases z), fun bs' ps' a' b' _ z => absurd z (nd ps')⟩
      rintro ρ j ⟨rfl, rfl⟩
      simp [-asL, St]
      refine ⟨_, _, _, d, ⟨rfl, rfl, rfl, rfl⟩, ⟨ou, ow, spl, bp⟩, no, (fun _ z => by rw [sp] at z; cases z), (fun _ _ z => by rw [bt] at z; cases z), (fun _ _ _ _ => hG _ _ ⟨rfl, _, rfl⟩), fun bs' ps' a' b' x' y' e1 e2 e3 _ _ e4 => ?_⟩
      obtain ⟨s1, s2⟩ := same e1 e2
      refine ⟨by omega, by omega, ?_⟩
      rcases d3 with z | rfl
      · rw [e4] at z
        cases z
      · have sh : SeqAt.shaped (pr 0 0) = true := by rfl
        refine ⟨sh, sh, ?_⟩
        rw [show PyData.eqv (pr 0 0) (PyData.tuple [PyData.int 0, PyData.int 0]) = true from rfl]
        exact ⟨rfl, hG _ _ ⟨rfl, _, rfl⟩⟩
end
end G21
set_option Elab.async false
set_option linter.all false
set_option maxRecDepth 100000
set_option maxHeartbeats 4000000
set_option synthInstance.maxSize 100000
set_option synthInstance.maxHeartbeats 0
namespace G21
open PySem PySem.Spec PyProof.Rows L2 V3
theorem kbr_q_fine_cells_0 {K : PySem.W.Frag} {mg : Str → Option Value} (T : Txt K mg) : KBinds K T.q_fine_cells.d ["drawing", "spots"] ["spots", "drawing"] (gR 2) (gR 2) := by
  obtain ⟨oc, od, kV, doc, pm, an, cdv, ct, osl, e, lk, hcd⟩ := T.q_fine_cells.F.ex
  rw [e]
  refine ⟨fun s us ws _ hl => ?_, gR_rel⟩
  obtain ⟨h1, h2⟩ := gR_len (by decide) hl
  match us, ws, h1, h2 with
  | [], [_, _], _, _ => exact .of_eq rfl
theorem kbr_q_fine_cell_0 {K : PySem.W.Frag} {mg : Str → Option Value} (T : Txt K mg) : KBinds K T.q_fine_cell.d ["drawing", "spots", "body"] ["body", "spots", "drawing"] (gR 3) (gR 3) := by
  obtain ⟨oc, od, kV, doc, pm, an, cdv, ct, osl, e, lk, hcd⟩ := T.q_fine_cell.F.ex
  rw [e]
  refine ⟨fun s us ws _ hl => ?_, gR_rel⟩
  obtain ⟨h1, h2⟩ := gR_len (by decide) hl
  match us, ws, h1, h2 with
  | [], [_, _, _], _, _ => exact .of_eq rfl
theorem kbr_q_place_0 {K : PySem.W.Frag} {mg : Str → Option Value} (T : Txt K mg) : KBinds K T.q_place.d ["drawing", "spots", "body", "names"] ["names", "body", "spots", "drawing"] (gR 4) (gR 4) := by
  obtain ⟨oc, od, kV, doc, pm, an, cdv, ct, osl, e, lk, hcd⟩ := T.q_place.F.ex
  rw [e]
  refine ⟨fun s us ws _ hl => ?_, gR_rel⟩
  obtain ⟨h1, h2⟩ := gR_len (by decide) hl
  match us, ws, h1, h2 with
  | [], [_, _, _, _], _, _ => exact .of_eq rfl
theorem kbr_q_named_0 {K : PySem.W.Frag} {mg : Str → Option Value} (T : Txt K mg) : KBinds K T.q_named.d ["drawing", "spots", "body", "spot"] ["spot", "body", "spots", "drawing"] (gR 4) (gR 4) := by
  obtain ⟨oc, od, kV, doc, pm, an, cdv, ct, osl, e, lk, hcd⟩ := T.q_named.F.ex
  rw [e]
  refine ⟨fun s us ws _ hl => ?_, gR_rel⟩
  obtain ⟨h1, h2⟩ := gR_len (by decide) hl
  match us, ws, h1, h2 with
  | [], [_, _, _, _], _, _ => exact .of_eq rfl
theorem lex_anti : ∀ {xs ys : List Int}, xs.length = ys.length → HT.lexLt xs ys = false → HT.lexLt ys xs = false → xs = ys
  | [], [], _, _, _ => rfl
  | [], _ :: _, h, _, _ => by cases h
  | _ :: _, [], h, _, _ => by cases h
  | x :: xs, y :: ys, h, a, b => by
    rw [HT.lexLt_cons] at a b
    by_cases e : x = y
    · subst e
      rw [if_pos rfl] at a b
      rw [lex_anti (Nat.succ.inj h) a b]
    · rw [if_neg e] at a
      rw [if_neg fun z => e z.symm] at b
      have a2 := of_decide_eq_false a
      have b2 := of_decide_eq_false b
      omega
theorem perm_asc : ∀ {as bs : List Bk}, as.Perm bs → BAsc as → BAsc bs → as = bs
  | [], bs, h, _, _ => by
    have := h.length_eq
    cases bs with
    | nil => rfl
    | cons _ _ => simp at this
  | a :: as, [], h, _, _ => by
    have := h.length_eq
    simp at this
  | a :: as, b :: bs, h, ha, hb => by
    obtain ⟨a1, a2⟩ := List.pairwise_cons.mp ha
    obtain ⟨b1, b2⟩ := List.pairwise_cons.mp hb
    have e : a = b := by
      rcases List.mem_cons.mp (h.mem_iff.mp (List.mem_cons_self ..)) with q | q
      · exact q
      · rcases List.mem_cons.mp (h.mem_iff.mpr (List.mem_cons_self ..)) with z | z
        · exact z.symm
        · exact Bk.n_inj (lex_anti rfl (b1 a q) (a1 b z))
    subst e
    rw [perm_asc (List.Perm.cons_inv h) a2 b2]
def spLaw (K : PySem.W.Frag) (TL : List (Addr × Str)) : Sp := fun vs H Q _ => ∃ (l : Addr) (ns : List Int), vs = [.ref l] ∧ SqL K H l (ns.map V.int) ∧ ns.length ≤ 63 ∧ LamX.Tabs TL H ∧ ∀ H', Q (.bl true) H'
/-- what the law's laps lean on -/
def amL {K : PySem.W.Frag} {mg : Str → Option Value} (T : Txt K mg) (TL : List (Addr × Str)) (d g c : Addr) (H : Hp) (E : XK) : Am where
  K := K
  C := T.C
  R := { dr := some (d, g, c), hid := fun a => a = d ∨ a = g ∨ a = c }
  TL := TL
  Hs := H
  O0 := fun a => a = d ∨ a = g
  E := E
  e := fun _ => False
  cls := T.cls
  nB := T.nB
  insT := fun H a dx fs h => .base (.ins h T.cls T.iA T.iN T.iT T.iM)
  kD := T.kD
abbrev roL : Ro := [.no, .fz .dr, .no, .no, .no, .no, .no, .no, .no, .no, .no, .no, .no, .no, .no, .no, .no, .no]
/-- ahead of a lap -/
def LPm (am : Am) (d : Addr) (i : Nat) (σ : L2.St) (H : Hp) : Prop := σ.length = 18 ∧ σ[1]? = some (some (.ref d)) ∧ Gr am H ∧ ∃ n, n ≤ 1500 * i ∧ Wd am.R am.TL H n
theorem lp_rl {K : PySem.W.Frag} {mg : Str → Option Value} {T : Txt K mg} {TL : List (Addr × Str)} {d g c : Addr} {H0 H : Hp} {E : XK} {σ : L2.St} {n : Nat} (hl : σ.length = 18) (h1 : σ[1]? = some (some (.ref d))) (gr : Gr (amL T TL d g c H0 E) H) (w : Wd (amL T TL d g c H0 E).R TL H n) :
    Rl (amL T TL d g c H0 E) roL n σ H := by
  have only : ∀ (i : Nat) (s : Sl), roL[i]? = some s → s = .no ∨ (i = 1 ∧ s = .fz .dr) := fun i s e => by
    match i, e with
    | 0, e => exact .inl (Option.some.inj e).symm
    | 1, e => exact .inr ⟨rfl, (Option.some.inj e).symm⟩
    | i + 2, e =>
      have m := List.mem_of_getElem? (l := List.replicate 16 Sl.no) (i := i) e
      exact .inl (List.mem_replicate.mp m).2
  refine ⟨by rw [hl]; rfl, fun i u e => ?_, fun i ds e => ?_, fun i j p a _ => ?_, fun d' g' c' e => ?_, gr, w, fun _ _ _ _ _ z => z.elim⟩
  · rcases only i _ e with z | ⟨rfl, z⟩
    · cases z
    · cases z
      exact ⟨_, h1, d, g, c, rfl, rfl⟩
  · rcases only i _ e with z | ⟨_, z⟩ <;> cases z
  · obtain ⟨⟨ds, e⟩, _⟩ := a
    rcases only i _ e with z | ⟨_, z⟩ <;> cases z
  · cases e
    exact ⟨.inl rfl, .inr rfl⟩
theorem rl_lp {K : PySem.W.Frag} {mg : Str → Option Value} {T : Txt K mg} {TL : List (Addr × Str)} {d g c : Addr} {H0 H : Hp} {E : XK} {σ : L2.St} {n i : Nat} {ρ : Ro} (hρ : ρ.length = 18) (h1 : ρ[1]? = some (.fz .dr)) (hn : n ≤ 1500 * i) (r : Rl (amL T TL d g c H0 E) ρ n σ H) : LPm (amL T TL d g c H0 E) d i σ H := by
  obtain ⟨v, q1, d', g', c', q2, rfl⟩ := r.fz 1 _ h1
  cases q2
  exact ⟨by rw [← r.len, hρ], q1, r.gr, n, hn, r.wd⟩
def FL (i : Nat) : En3 := ⟨fun ρ n => ρ.length = 18 ∧ ρ[1]? = some (.fz .dr) ∧ n ≤ 1500 * (i + 1), fun _ _ _ => False, fun _ _ => False, fun ρ n => ρ.length = 18 ∧ ρ[1]? = some (.fz .dr) ∧ n ≤ 1500 * (i + 1)⟩
theorem perm_unmap {α β : Type} {f : α → β} {ys zs : List β} (h : ys.Perm zs) : ∀ xs : List α, zs = xs.map f → ∃ xs' : List α, ys = xs'.map f ∧ xs'.Perm xs := by
  induction h with
  | nil => exact fun xs e => ⟨[], rfl, by
    cases xs with
    | nil => exact .nil
    | cons _ _ => cases e⟩
  | cons x _ ih =>
    intro xs e
    cases xs with
    | nil => cases e
    | cons a as =>
      obtain ⟨e1, e2⟩ := List.cons.inj e
      obtain ⟨as', q1, q2⟩ := ih as e2
      exact ⟨a :: as', by rw [List.map_cons, ← e1, q1], q2.cons a⟩
  | swap x y l =>
    intro xs e
    match xs, e with
    | a :: b :: cs, e =>
      obtain ⟨e1, e⟩ := List.cons.inj e
      obtain ⟨e2, e3⟩ := List.cons.inj e
      exact ⟨b :: a :: cs, by rw [List.map_cons, List.map_cons, e1, e2, e3], List.Perm.swap ..⟩
  | trans _ _ ih1 ih2 =>
    intro xs e
    obtain ⟨us, q1, q2⟩ := ih2 xs e
    obtain ⟨ws, q3, q4⟩ := ih1 us q1
    exact ⟨ws, q3, q4.trans q2⟩
theorem use_lsG {K : PySem.W.Frag} {C : Addr} {TL : List (Addr × Str)} {E : XK} {t : TS} {m : TS3} [ht : V3.LS K C TL E t m] (am : Am) (ρ : Ro) (n : Nat) {σ : L2.St} {H : Hp} {D : Ends} {i : Nat} {v : V} (F : En3) (hE : am.K = K ∧ am.TL = TL ∧ am.E = E ∧ am.C = C) (hr : Rl am ρ n (σ.set i (some v)) H) (en : EnR am D F) (hm : m F ρ n am.e) : gName i v σ H fun σ2 H2 => t D σ2 H2 := ht.s am ρ n _ H D F hE hr en hm
end G21
set_option Elab.async false
set_option linter.all false
set_option maxRecDepth 100000
set_option maxHeartbeats 4000000
set_option synthInstance.maxSize 100000
set_option synthInstance.maxHeartbeats 0
namespace G21
open PySem PySem.Spec PyProof.Rows L2 V3
theorem lcL_upto {is : List Nat} {tup : Bool} {mt : TT3} {me : TE3} {ρ : Ro} {e : Addr → Prop} (R : D → Prop) (c N : Nat) : ∀ (ds : List D) (n : Nat) (q : List D → Nat → Prop),
    (∀ d ∈ ds, ∀ (m : Nat) (Kt : D → Nat → Prop) (Ks : Nat → Prop), m ≤ N → (∀ x m', R x → m' ≤ m + c → Kt x m') → giv is tup d ρ fun ρ' => mt ρ' m (fun b n1 => if b = true then me ρ' n1 (fun _ u n2 => match u with
      | .d x => Kt x n2
      | _ => False) e else Ks n1) e) → n + c * ds.length ≤ N → (∀ (xs : List D) (n' : Nat), xs.length = ds.length → (∀ x ∈ xs, R x) → n' ≤ n + c * ds.length → q xs n') → lcL is tup mt me ρ e ds n q
  | [], n, q, _, _, h => h [] n rfl (fun x z => by cases z) (by simp)
  | d :: ds, n, q, hit, hN, h => by
    have e1 : n + c + c * ds.length = n + c * (d :: ds).length := by
      rw [List.length_cons, Nat.mul_succ]
      omega
    refine hit d (List.mem_cons_self ..) n (fun x n2 => lcL is tup mt me ρ e ds n2 fun xs n3 => q (x :: xs) n3) (fun n1 => lcL is tup mt me ρ e ds n1 q) (by omega) fun x m' hx hm => ?_
    refine lcL_upto R c N ds m' _ (fun y hy m Kt Ks h1 k => hit y (List.mem_cons_of_mem _ hy) m Kt Ks h1 k) (by omega) fun xs n' hl hxs hn => ?_
    refine h _ _ (by rw [List.length_cons, List.length_cons, hl]) (fun y hy => ?_) (by omega)
    rcases List.mem_cons.mp hy with z | z
    · rw [z]
      exact hx
    · exact hxs y z
theorem prs_all : ∀ {xs : List D}, (∀ x ∈ xs, ∃ p : Int × Int, x = pD p) → ∃ ps : List (Int × Int), xs = ps.map pD
  | [], _ => ⟨[], rfl⟩
  | x :: xs, h => by
    obtain ⟨p, rfl⟩ := h x List.mem_cons_self
    obtain ⟨ps, rfl⟩ := prs_all fun y hy => h y (List.mem_cons_of_mem _ hy)
    exact ⟨p :: ps, rfl⟩
theorem shaped_pD (p : Int × Int) : SeqAt.shaped (pD p) = true := by
  simp [SeqAt.shaped, PyData.canLay0, PyData.canLayAll0, PyData.depth, PyData.depthAll]
theorem eqv_pD (o : Int × Int) : PyData.eqv (pD o) (pD o) = true := by
  simp [PyData.eqv, PyData.eqvAll]
theorem lay_cl (c : (Int × Option Int) × (Int × Option Int)) : (clD c).canLay0 = true ∧ (clD c).depth ≤ 2 := by
  obtain ⟨⟨a, o⟩, b, p⟩ := c
  cases o <;> cases p <;> exact ⟨rfl, Nat.le_refl _⟩
theorem shaped_cl (c : (Int × Option Int) × (Int × Option Int)) : SeqAt.shaped (clD c) = true := by
  obtain ⟨⟨a, o⟩, b, p⟩ := c
  cases o <;> cases p <;> rfl
theorem eqv_cl (c : (Int × Option Int) × (Int × Option Int)) : PyData.eqv (clD c) (clD c) = true := by
  obtain ⟨⟨a, o⟩, b, p⟩ := c
  cases o <;> cases p <;> simp [PyData.eqv, PyData.eqvAll, oD]
theorem lay_cls : ∀ S : List ((Int × Option Int) × (Int × Option Int)), PyData.canLayAll0 (S.map clD) = true ∧ PyData.depthAll (S.map clD) ≤ 2
  | [] => by simp [PyData.canLayAll0, PyData.depthAll]
  | x :: S => by
    obtain ⟨a, b⟩ := lay_cls S
    obtain ⟨c, d⟩ := lay_cl x
    rw [List.map_cons]
    constructor
    · rw [PyData.canLayAll0, c, a]
      rfl
    · rw [PyData.depthAll]
      omega
theorem shaped_cls (S : List ((Int × Option Int) × (Int × Option Int))) : SeqAt.shaped (.list (S.map clD)) = true := by
  obtain ⟨a, b⟩ := lay_cls S
  have d : PyData.depth (.list (S.map clD)) ≤ 64 := by
    simp only [PyData.depth]
    omega
  unfold SeqAt.shaped
  rw [PyData.canLay0, a]
  simpa using d
theorem eqv_cls : ∀ S : List ((Int × Option Int) × (Int × Option Int)), PyData.eqvAll (S.map clD) (S.map clD) = true
  | [] => rfl
  | x :: S => by
    rw [List.map_cons, PyData.eqvAll, eqv_cl, eqv_cls S]
    rfl
theorem eqvL_cls (S : List ((Int × Option Int) × (Int × Option Int))) : PyData.eqv (.list (S.map clD)) (.list (S.map clD)) = true := by
  rw [PyData.eqv, eqv_cls]
theorem any_cl {S : List ((Int × Option Int) × (Int × Option Int))} {c : (Int × Option Int) × (Int × Option Int)} (h : c ∈ S) : ((S.map clD).any fun z => PyData.eqv z (clD c)) = true :=
  List.any_eq_true.mpr ⟨_, List.mem_map.mpr ⟨c, h, rfl⟩, eqv_cl c⟩
theorem mem_cells {xs ys : List Int} {a b : Int} {p o : Int × Option Int} (h : inRg xs a p) (g : inRg ys b o) : (p, o) ∈ cellsL xs ys := by
  unfold cellsL
  refine List.mem_flatMap.mpr ⟨p, (List.mem_filter.mp (List.mem_of_mem_head? h)).1, List.mem_map.mpr ⟨o, (List.mem_filter.mp (List.mem_of_mem_head? g)).1, rfl⟩⟩
theorem flat_cls (S : List ((Int × Option Int) × (Int × Option Int))) : V3.flatAll (S.map clD) = true := by
  induction S with
  | nil => rfl
  | cons c S ih =>
    rw [List.map_cons, V3.flatAll, ih]
    show ((V3.flat (niD c.1) && (V3.flat (niD c.2) && true)) && true) = true
    rw [flat_ni, flat_ni]
    rfl
theorem flat_oD (o : Option Int) : V3.flat (oD o) = true := by
  cases o <;> rfl
theorem eqv_nms0 {S : List Nm} (h : S ≠ []) : PyData.eqv (.list (S.map nmD)) (.list []) = false := by
  cases S with
  | nil => exact absurd rfl h
  | cons _ _ => rfl
theorem flat_pDs : ∀ ps : List (Int × Int), V3.flatAll (ps.map pD) = true
  | [] => rfl
  | _ :: ps => flat_pDs ps
theorem lenS_ps {x : D} {ps : List (Int × Int)} (h : asL x = some (ps.map pD)) (hl : ps.length ≤ 100) : lenS x := fun ds e => by
  rw [h] at e
  cases e
  simpa using hl
theorem pDs_inj : ∀ {ps qs : List (Int × Int)}, ps.map pD = qs.map pD → ps = qs
  | [], [], _ => rfl
  | [], _ :: _, h => by cases h
  | _ :: _, [], h => by cases h
  | p :: ps, q :: qs, h => by
    obtain ⟨h1, h2⟩ := List.cons.inj h
    have e : p = q := by
      obtain ⟨a, b⟩ := p
      obtain ⟨c, d⟩ := q
      simpa using h1
    rw [e, pDs_inj h2]
theorem nms_len (n m : Nat) (y : Int) : (namesL n m y).length = n + m + m := by
  unfold namesL
  simp
  omega
theorem nms_ne {n m : Nat} {y z : Int} (h : namesL n m y ≠ []) : namesL n m z ≠ [] := fun e => by
  have h1 := nms_len n m y
  have h2 := nms_len n m z
  rw [e] at h2
  exact h (List.eq_nil_of_length_eq_zero (by rw [h1, ← h2]; rfl))
theorem nms_mem {n m : Nat} {y : Int} {p : Nm} (h : p ∈ namesL n m y) : nmOk n m (wsN y) (nmD p) = true ∧ PyData.strOk p.1 = true := by
  have key : p.1 ∈ wsN y ∧ ∃ k : Nat, p.2 = (k : Int) ∧ k < (if p.1 = "spot" then n else m) := by
    obtain ⟨w1, w2, w3⟩ := words_ne y
    unfold namesL at h
    rw [List.mem_append, List.mem_append] at h
    rcases h with (h | h) | h <;> obtain ⟨k, hk, rfl⟩ := List.mem_map.mp h <;> have hk := List.mem_range.mp hk
    · exact ⟨List.mem_cons_self, k, rfl, by rw [if_pos rfl]; exact hk⟩
    · exact ⟨List.mem_cons_of_mem _ List.mem_cons_self, k, rfl, by rw [if_neg fun z => w1 z.symm]; exact hk⟩
    · exact ⟨List.mem_cons_of_mem _ (List.mem_cons_of_mem _ List.mem_cons_self), k, rfl, by rw [if_neg fun z => w2 z.symm]; exact hk⟩
  obtain ⟨k1, k, e, hk⟩ := key
  refine ⟨?_, ws_ok k1⟩
  obtain ⟨w, i⟩ := p
  dsimp only at k1 e hk
  subst e
  show (decide (w ∈ wsN y) && isIxD (if w = "spot" then n else m) (.int (k : Int))) = true
  rw [Bool.and_eq_true]
  refine ⟨decide_eq_true k1, ?_⟩
  by_cases e : w = "spot"
  · rw [if_pos e] at hk ⊢
    simp [isIxD]
    omega
  · rw [if_neg e] at hk ⊢
    simp [isIxD]
    omega
theorem sc_nms (p o : Nm) : scP (.tuple [nmD p, nmD o]) := by
  refine ⟨fun xs e => by cases e; simp, fun a b e => ?_⟩
  cases e
  refine ⟨⟨fun a b e => by cases e; rfl, fun xs e => by cases e; simp⟩, fun a b e => by cases e; rfl, fun xs e => by cases e; simp⟩
theorem shaped_nmsD {o1 o2 : Option Nm} (h1 : ∀ p, o1 = some p → PyData.strOk p.1 = true) (h2 : ∀ p, o2 = some p → PyData.strOk p.1 = true) : SeqAt.shaped (nmsD o1 o2) = true := by
  cases o1 with
  | none => cases o2 <;> rfl
  | some p =>
    cases o2 with
    | none => rfl
    | some o => exact shaped_two (on_lay (o := some p) h1) (on_lay (o := some o) h2)
theorem eqv_nmsD (o1 o2 : Option Nm) : PyData.eqv (nmsD o1 o2) (nmsD o1 o2) = true := by
  have nm : ∀ p : Nm, PyData.eqv (nmD p) (nmD p) = true := fun p => by
    rw [eqv_nm]
    exact decide_eq_true rfl
  cases o1 with
  | none => cases o2 <;> rfl
  | some p =>
    cases o2 with
    | none => rfl
    | some o =>
      show PyData.eqvAll [nmD p, nmD o] [nmD p, nmD o] = true
      rw [PyData.eqvAll, PyData.eqvAll, nm, nm]
      rfl
theorem eqU_nms {o1 o2 : Option Nm} {q : Bool → D → Prop} (sh : SeqAt.shaped (nmsD o1 o2) = true) (h : q false (.bool false)) : V3.eqU not (.d (nmsD o1 o2)) (.d (nmsD o1 o2)) q := by
  have key : ∀ x : D, (x = .none ∨ ∃ xs, x = .tuple xs) → SeqAt.shaped x = true → PyData.eqv x x = true → V3.eqU not (.d x) (.d x) q := fun x hx sx ex => by
    rcases hx with rfl | ⟨xs, rfl⟩
    · show SeqAt.shaped .none = true ∧ SeqAt.shaped .none = true ∧ q false (.bool (!PyData.eqv .none .none))
      rw [ex]
      exact ⟨sx, sx, h⟩
    · show SeqAt.shaped (.tuple xs) = true ∧ SeqAt.shaped (.tuple xs) = true ∧ q false (.bool (!PyData.eqv (.tuple xs) (.tuple xs)))
      rw [ex]
      exact ⟨sx, sx, h⟩
  refine key _ ?_ sh (eqv_nmsD _ _)
  cases o1 with
  | none => cases o2 <;> exact .inl rfl
  | some p =>
    cases o2 with
    | none => exact .inl rfl
    | some o => exact .inr ⟨_, rfl⟩
theorem pickN {y : D} (h : y ∈ [PyData.int 0, .int 0, .int 1, .int (-1)]) : ∃ z : Int, y = .int z := by
  simp only [List.mem_cons, List.not_mem_nil, or_false] at h
  rcases h with rfl | rfl | rfl | rfl <;> exact ⟨_, rfl⟩
end G21
set_option Elab.async false
set_option linter.all false
set_option maxRecDepth 100000
set_option maxHeartbeats 4000000
set_option synthInstance.maxSize 100000
set_option synthInstance.maxHeartbeats 0
namespace G21
open PySem PySem.Spec PyProof.Rows L2 V3
section
variable {P : Program} {w : World} {K : PySem.W.Frag} {mg : Str → Option Value} {base : Heap} {TL : List (Addr × Str)}
theorem ok_law (T : Txt K mg) (Y : TzR T base TL) : FnOk P w K mg base CX0 12 T.q_law.a T.q_law.d ["script"] (spLaw K TL) := by
  refine T.q_law.F.ok c_q_law (fun vs H Q E h => ?_) (fun cdv A outer s H vs Q E hr h => ?_)
  · obtain ⟨l, ns, rfl, _⟩ := h
    rfl
  · obtain ⟨l, ns, rfl, hS, h63, hT, k⟩ := h
    refine ⟨_,
      (pss_cons (ps_set (i := 1) c_q_law.nd rfl (Or.inr rfl) (pe_call (ok0_l_begun T) (hr.mono (by decide)) rfl T.l_begun.g T.l_begun.k T.l_begun.b .nil pass0 (pa_cons (pv 0) pa_nil)))
      (pss_cons (ps_for PassesOwn.never rfl (pi_range1 rfl T.z_range (pa_cons (pe_op op_add pe_int (pe_callB (call_min2 rfl) (by rfl) T.z_min (by decide +kernel) (pa_cons (pe_callB call_len_seq (by rfl) T.z_len (by decide +kernel) (pa_cons (pv 0) pa_nil)) (pa_cons pe_int pa_nil)))) pa_nil)) (pg_name (i := 2) c_q_law.nd rfl (Or.inl rfl))
      (C8.pss_cut (ps_set (i := 3) c_q_law.nd rfl (Or.inr rfl) (pe_call (ok_l_blocks T (TL := TL)) (hr.mono (by decide)) rfl T.l_blocks.g T.l_blocks.k T.l_blocks.b .nil pass0 (pa_cons (pv 1) (pa_cons pe_int pa_nil))))
      (C8.pss_cut (ps_set (i := 4) c_q_law.nd rfl (Or.inr rfl) (pe_lc (own := [("k", 16)]) (g := gName 16) (by rfl) c_q_law.nd (pi_range1 rfl T.z_range (pa_cons (pe_call (ok_l_take T (TL := TL)) (hr.mono (by decide)) rfl T.l_take.g T.l_take.k T.l_take.b .nil pass0 (pa_cons (pv 1) (pa_cons pe_int pa_nil))) pa_nil)) (blkOk_by (own := [("k", 16)]) (N := N_q_law) (sc := defScope S_q_law) (by decide +kernel)) (fun _ _ _ _ _ => pg_name (i := 16) c_q_law.nd rfl (Or.inl rfl)) (fun _ _ _ _ _ => pts_nil) (fun _ _ _ _ _ => (pe_call (ok_l_spot T (TL := TL)) (hr.mono (by decide)) rfl T.l_spot.g T.l_spot.k T.l_spot.b .nil pass0 (pa_cons (pv 1) (pa_cons (pv 3) pa_nil))))))
      (C8.pss_cut (ps_set (i := 5) c_q_law.nd rfl (Or.inl rfl) (pe_call (ok_l_body T (TL := TL)) (hr.mono (by decide)) rfl T.l_body.g T.l_body.k T.l_body.b .nil pass0 (pa_cons (pv 1) (pa_cons (pv 3) (pa_cons (pv 4) pa_nil)))))
      (C8.pss_cut (ps_par (i := 6) (j := 7) rfl c_q_law.nd rfl rfl (by decide) rfl rfl (pa_cons (pe_make T.M (ok_q_Drawing_init T (TL := TL)) (hr.mono (by decide)) rfl T.gC T.bI .nil passL (pa_cons (pe_call (ok_l_shuffled T (TL := TL)) (hr.mono (by decide)) rfl T.l_shuffled.g T.l_shuffled.k T.l_shuffled.b .nil pass0 (pa_cons (pv 1) (pa_cons (pv 3) pa_nil))) pa_nil)) (pa_cons (pe_call (ok_l_all_cells T (TL := TL)) (hr.mono (by decide)) rfl T.l_all_cells.g T.l_all_cells.k T.l_all_cells.b .nil pass0 (pa_cons (pv 3) (pa_cons (pv 4) pa_nil))) pa_nil)) (by with_unfolding_all rfl))
      (C8.pss_cut (ps_set (i := 8) c_q_law.nd rfl (Or.inl rfl) (pe_call (ok_q_fine_cells T (TL := TL)) (hr.mono (by decide)) rfl T.q_fine_cells.g T.q_fine_cells.k T.q_fine_cells.b .nil passL (pa_cons (pv 6) (pa_cons (pe_callTy (list3 K) (by rfl) T.z_list (by decide +kernel) (pa_cons (pv 4) pa_nil)) pa_nil))))
      (C8.pss_cut (ps_if (PW.pt (pw_or (pt_not (pt_val (pe_callB (isi3 K) (by rfl) T.z_isinstance (by decide +kernel) (pa_cons (pv 8) (pa_cons (pe_bltn (v := .ty "list") (u := .type "list") rfl T.z_list (by decide +kernel) rfl) pa_nil))))) (pw_or1 (pt_cmpR (ne3 K hr.units) (pv 8) (pv 7) (nomark _)))))
      (pss_one (ps_ret pe_bl))
      pss_nil)
      (pss_cons (ps_expr (bm03 K PySem.F.plainAttrs_list PySem.F.slot_list_clear PySem.F.type_list_clear mt_clear (pv 8)))
      (C8.pss_cut (ps_if (pt_cmpR (ne3 K hr.units) (GS.pe_callK0 (ok_q_fine_cells T (TL := TL)) (hr.mono (by decide)) rfl T.q_fine_cells.g T.q_fine_cells.k (kbr_q_fine_cells_0 T) passL (pk_cons (pe_callTy (tup3 K) (by rfl) T.z_tuple (by decide +kernel) (pa_cons (pv 4) pa_nil)) (pk_cons (pv 6) pk_nil))) (pv 7) (nomark _))
      (pss_one (ps_ret pe_bl))
      pss_nil)
      (C8.pss_cut (ps_set (i := 9) c_q_law.nd rfl (Or.inl rfl) (pe_call (ok_l_cell T (TL := TL)) (hr.mono (by decide)) rfl T.l_cell.g T.l_cell.k T.l_cell.b .nil pass0 (pa_cons (pv 3) (pa_cons (pv 4) (pa_cons (pv 5) pa_nil)))))
      (C8.pss_cut (ps_if (PW.pt (pw_or (pt_cmpR (ne3 K hr.units) (pe_call (ok_q_fine_cell T (TL := TL)) (hr.mono (by decide)) rfl T.q_fine_cell.g T.q_fine_cell.k T.q_fine_cell.b .nil passL (pa_cons (pv 6) (pa_cons (pv 4) (pa_cons (pv 5) pa_nil)))) (pv 9) (nomark _)) (pw_or1 (pt_cmpR (notIn3 K (un65 hr)) (pv 9) (pv 7) rfl))))
      (pss_one (ps_ret pe_bl))
      pss_nil)
      (C8.pss_cut (ps_if (pt_cmpR (ne3 K hr.units) (GS.pe_callK0 (ok_q_fine_cell T (TL := TL)) (hr.mono (by decide)) rfl T.q_fine_cell.g T.q_fine_cell.k (kbr_q_fine_cell_0 T) passL (pk_cons (pv 5) (pk_cons (pv 4) (pk_cons (pv 6) pk_nil)))) (pv 9) (nomark _))
      (pss_one (ps_ret pe_bl))
      pss_nil)
      (C8.pss_cut (ps_setLc (i := 10) (own := [("flat", 17)]) (g := gName 17) (by rfl) c_q_law.nd rfl rfl (sw_true rfl rfl rfl (by decide +kernel)) (pi_range1 rfl T.z_range (pa_cons pe_int pa_nil)) (blkOk_by (own := [("flat", 17)]) (N := N_q_law) (sc := defScope S_q_law) (by decide +kernel)) (fun _ _ _ _ _ => pg_name (i := 17) c_q_law.nd rfl (Or.inl rfl)) (fun _ _ _ _ _ => pts_nil) (fun _ _ _ _ _ => (pe_call (ok_l_all_names T (TL := TL)) (hr.mono (by decide)) rfl T.l_all_names.g T.l_all_names.k T.l_all_names.b .nil pass0 (pa_cons (pv 4) (pa_cons (pe_callB (len3 K) (by rfl) T.z_len (by decide +kernel) (pa_cons (pv 3) pa_nil)) (pa_cons (pv 17) pa_nil))))))
      (C8.pss_cut (ps_if (pt_cmpR (ne3 K hr.units) (pe_ix (ix3 K) (pv 10) pe_int (fun _ _ => rfl)) (pe_lst pa_nil) (nomark _))
      (C8.pss_cut (ps_set (i := 11) c_q_law.nd rfl (Or.inl rfl) (pe_tup (pa_cons (pe_call (ok_l_pick T (TL := TL)) (hr.mono (by decide)) rfl T.l_pick.g T.l_pick.k T.l_pick.b .nil pass0 (pa_cons (pv 1) (pa_cons (pe_ix (ix3 K) (pv 10) pe_int (fun _ _ => rfl)) pa_nil))) (pa_cons (pe_call (ok_l_pick T (TL := TL)) (hr.mono (by decide)) rfl T.l_pick.g T.l_pick.k T.l_pick.b .nil pass0 (pa_cons (pv 1) (pa_cons (pe_ix (ix3 K) (pv 10) pe_int (fun _ _ => rfl)) pa_nil))) pa_nil))))
      (C8.pss_cut (ps_set (i := 12) c_q_law.nd rfl (Or.inl rfl) (pe_call (ok_l_place T (TL := TL)) (hr.mono (by decide)) rfl T.l_place.g T.l_place.k T.l_place.b .nil pass0 (pa_cons (pv 3) (pa_cons (pv 4) (pa_cons (pv 5) (pa_cons (pv 11) pa_nil))))))
      (C8.pss_cut (ps_if (pt_cmpR (ne3 K hr.units) (pe_call (ok_q_place T (TL := TL)) (hr.mono (by decide)) rfl T.q_place.g T.q_place.k T.q_place.b .nil passL (pa_cons (pv 6) (pa_cons (pv 4) (pa_cons (pv 5) (pa_cons (pv 11) pa_nil))))) (pv 12) (nomark _))
      (pss_one (ps_ret pe_bl))
      pss_nil)
      (C8.pss_cut (ps_if (pt_cmpR (ne3 K hr.units) (GS.pe_callK0 (ok_q_place T (TL := TL)) (hr.mono (by decide)) rfl T.q_place.g T.q_place.k (kbr_q_place_0 T) passL (pk_cons (pv 11) (pk_cons (pv 5) (pk_cons (pv 4) (pk_cons (pv 6) pk_nil))))) (pv 12) (nomark _))
      (pss_one (ps_ret pe_bl))
      pss_nil)
      (C8.pss_cut (ps_set (i := 13) c_q_law.nd rfl (Or.inl rfl) (pe_tup (pa_cons (pe_op (add3 K) (pe_ix (ix3 K) (pv 12) pe_int (fun _ _ => rfl)) (pe_call (ok_l_pick T (TL := TL)) (hr.mono (by decide)) rfl T.l_pick.g T.l_pick.k T.l_pick.b .nil pass0 (pa_cons (pv 1) (pa_cons (pe_lst (pa_cons pe_int (pa_cons pe_int (pa_cons pe_int (pa_cons (pe_un un_neg pe_int) pa_nil))))) pa_nil)))) (pa_cons (pe_op (add3 K) (pe_ix (ix3 K) (pv 12) pe_int (fun _ _ => rfl)) (pe_call (ok_l_pick T (TL := TL)) (hr.mono (by decide)) rfl T.l_pick.g T.l_pick.k T.l_pick.b .nil pass0 (pa_cons (pv 1) (pa_cons (pe_lst (pa_cons pe_int (pa_cons pe_int (pa_cons pe_int (pa_cons (pe_un un_neg pe_int) pa_nil))))) pa_nil)))) pa_nil))))
      (pss_one (ps_for PassesOwn.never rfl (seq3 K (pe_lst (pa_cons (pv 12) (pa_cons (pv 13) (pa_cons (pe_call (ok_l_spot T (TL := TL)) (hr.mono (by decide)) rfl T.l_spot.g T.l_spot.k T.l_spot.b .nil pass0 (pa_cons (pv 1) (pa_cons (pv 3) pa_nil))) pa_nil))))) (pg_name (i := 14) c_q_law.nd rfl (Or.inl rfl))
      (C8.pss_cut (ps_set (i := 15) c_q_law.nd rfl (Or.inl rfl) (pe_call (ok_l_names T (TL := TL)) (hr.mono (by decide)) rfl T.l_names.g T.l_names.k T.l_names.b .nil pass0 (pa_cons (pv 3) (pa_cons (pv 4) (pa_cons (pv 5) (pa_cons (pv 14) pa_nil))))))
      (C8.pss_cut (ps_if (pt_cmpR (ne3 K hr.units) (pe_call (ok_q_named T (TL := TL)) (hr.mono (by decide)) rfl T.q_named.g T.q_named.k T.q_named.b .nil passL (pa_cons (pv 6) (pa_cons (pv 4) (pa_cons (pv 5) (pa_cons (pv 14) pa_nil))))) (pv 15) (nomark _))
      (pss_one (ps_ret pe_bl))
      pss_nil)
      (pss_one (ps_if (pt_cmpR (ne3 K hr.units) (GS.pe_callK0 (ok_q_named T (TL := TL)) (hr.mono (by decide)) rfl T.q_named.g T.q_named.k (kbr_q_named_0 T) passL (pk_cons (pv 14) (pk_cons (pv 5) (pk_cons (pv 4) (pk_cons (pv 6) pk_nil))))) (pv 15) (nomark _))
      (pss_one (ps_ret pe_bl))
      pss_nil)))))))))))
      pss_nil)
      (pss_one (ps_if (pt_not (pt_val (pe_call (ok_l_refused T (TL := TL) Y) (hr.mono (by decide)) rfl T.l_refused.g T.l_refused.k T.l_refused.b .nil pass0 (pa_cons (pv 6) (pa_cons (pv 4) (pa_cons (pv 5) (pa_cons (pe_callB (len3 K) (by rfl) T.z_len (by decide +kernel) (pa_cons (pv 3) pa_nil)) pa_nil)))))))
      (pss_one (ps_ret pe_bl))
      pss_nil))))))))))))))))
      (pss_one (ps_ret pe_bl))))
      , ?_⟩
    refine ⟨.ref l, rfl, l, ns, rfl, hS, h63, fun H1 d g c S1 hd0 hg0 hc0 hD => ?_⟩
    refine ⟨.ref l, rfl, l, _, rfl, .inl (S1.seq hS), _, _, rfl, _, _, rfl, rfl, _, rfl, ?_⟩
    have h0 : 0 ≤ (if (2 : Int) < ((ns.map V.int).length : Int) then (2 : Int) else ((ns.map V.int).length : Int)) := by split <;> omega
    have h5 : (if (2 : Int) < ((ns.map V.int).length : Int) then (2 : Int) else ((ns.map V.int).length : Int)) ≤ 2 := by split <;> omega
    generalize (if (2 : Int) < ((ns.map V.int).length : Int) then (2 : Int) else ((ns.map V.int).length : Int)) = fw at h0 h5 ⊢
    refine ⟨by omega, by omega, ?_⟩
    have w0 : Wd (amL T TL d g c H1 E).R TL H1 0 := {
      hid := fun a z => by
        obtain ⟨gs, cs, m, z1, z2, z3, r⟩ := hD
        rcases z with z | z | z
        · exact ⟨_, z ▸ z1, fun ps q => by cases q⟩
        · exact ⟨_, z ▸ z2, fun ps q => by cases q⟩
        · exact ⟨_, z ▸ z3, fun ps q => by cases q⟩
      tabs := hT.ext S1
      dr := fun d' g' c' e => by
        cases e
        exact ⟨.inl rfl, .inr (.inl rfl), .inr (.inr rfl), 0, by simp, hD⟩ }
    refine for_range (lo := 0) (n := (2 + fw).toNat) (LPm (amL T TL d g c H1 E) d) ⟨rfl, rfl, ⟨fun _ _ _ _ e => e, fun _ z => z⟩, 0, by omega, w0⟩ ?_ (fun σ H3 hP => ?_)
    · intro turn σ H3 hturn hP
      obtain ⟨hl, hs1, hgr, n, hn, hw⟩ := hP
      have hturn5 : turn < 5 := by omega
      refine use_lsG (K := K) (C := T.C) (TL := TL) (E := E) (amL T TL d g c H1 E) roL n (FL turn) ⟨rfl, rfl, rfl, rfl⟩ (lp_rl (by simpa using hl) (by simpa using hs1) hgr hw) ⟨?_, ?_, ?_, ?_⟩ ?_
      · exact fun ρ m σ' H' q r => rl_lp q.1 q.2.1 q.2.2 r
      · exact fun _ _ _ _ q => q.elim
      · exact fun ρ m σ' H' q r => rl_lp q.1 q.2.1 q.2.2 r
      · exact fun _ _ _ _ _ q => q.elim
      have ht := topD_eq
      have hc := capD_eq
      simp [-V3.forL]
      refine Exists.intro (fun (ρ : Ro) (k : Nat) => k ≤ n + 400 ∧ ∃ bs : List Bk, ρ = [.no, .fz .dr, .no, .ow (bs.map bkD), .no, .no, .no, .no, .no, .no, .no, .no, .no, .no, .no, .no, .no, .no] ∧ bs.length ≤ 3 ∧ bs.Nodup ∧ BAsc bs ∧ ∀ b ∈ bs, inR (-1000000) 1000000 b ∧ b.ok) (And.intro ?_ ?_)
      · exact ⟨by omega, fun bs n' h1 h2 h3 h4 h5 => ⟨by omega, bs, rfl, h1, h2, h3, h4⟩⟩
      rintro ρ k1 ⟨hk1, bs, rfl, hbl, hnd, hasc, hbk⟩
      simp [-V3.forL, -asL]
      refine Exists.intro (fun (ρ : Ro) (k : Nat) => k ≤ n + 450 ∧ ∃ ps : List (Int × Int), ρ = [.no, .fz .dr, .no, .ow (bs.map bkD), .ow (ps.map pD), .no, .no, .no, .no, .no, .no, .no, .no, .no, .no, .no, .no, .no] ∧ ps.length ≤ 3) (And.intro ?_ ?_)
      · refine ⟨by omega, by omega, fun x x0 x1 => ⟨by omega, few (by omega), ?_⟩⟩
        refine lcL_upto (fun d => ∃ p : Int × Int, d = pD p) 8 (n + 450) _ _ _ (fun d hd m Kt Ks hm hK => ?_) (by rw [upFrom_len]; omega) fun xs n' h1 h2 h3 => ?_
        · simp
          exact ⟨by omega, by omega, hbk, fun x y n' _ h => hK _ _ ⟨(x, y), rfl⟩ h⟩
        · obtain ⟨ps, rfl⟩ := prs_all h2
          rw [if_pos (flat_pDs ps)]
          rw [upFrom_len] at h1 h3
          rw [List.length_map] at h1
          exact ⟨by omega, ps, rfl, by omega⟩
      rintro ρ k2 ⟨hk2, ps, rfl, hpl⟩
      simp [-V3.forL, -asL]
      obtain ⟨xs, gx, lx⟩ := gr_ex (gE bs 0) (gS bs ps 0) (by simp [gE]; omega) (by simp [gS]; omega)
      obtain ⟨ys, gy, ly⟩ := gr_ex (gE bs 1) (gS bs ps 1) (by simp [gE]; omega) (by simp [gS]; omega)
      refine Exists.intro (fun (ρ : Ro) (k : Nat) => k ≤ n + 460 ∧ ∃ a b : Int, ρ = [.no, .fz .dr, .no, .ow (bs.map bkD), .ow (ps.map pD), .fz (.d (pr a b)), .no, .no, .no, .no, .no, .no, .no, .no, .no, .no, .no, .no] ∧ 1 ≤ a ∧ 1 ≤ b) (And.intro ?_ ?_)
      · exact ⟨bs, ps, ⟨rfl, rfl⟩, by omega, hbl, hpl, fun a b n' h1 h2 h3 => ⟨by omega, a, b, rfl, h1, h2⟩⟩
      rintro ρ k3 ⟨hk3, a, b, rfl, ha, hb⟩
      simp [-V3.forL, -asL]
      refine Exists.intro (fun (ρ : Ro) (k : Nat) => k ≤ n + 470 ∧ ρ = [.no, .fz .dr, .no, .ow (bs.map bkD), .ow (ps.map pD), .fz (.d (pr a b)), .fz (.dw (bs.map bkD)), .ow ((cellsL xs ys).map clD), .no, .no, .no, .no, .no, .no, .no, .no, .no, .no]) (And.intro ?_ ?_)
      · refine ⟨by omega, by omega, flat_bks bs, fun zs hpy => ?_⟩
        obtain ⟨bs', rfl, pb⟩ := perm_unmap hpy bs rfl
        refine ⟨bs', rfl, fun k hk => (hbk k (pb.mem_iff.mp hk)).2, pb.nodup_iff.mpr hnd, by rw [pb.length_eq]; omega, fun cs hcs hasc2 => ?_⟩
        obtain rfl : cs = bs := perm_asc (hcs.trans pb) hasc2 hasc
        refine ⟨cs, ps, ⟨rfl, rfl⟩, hbl, hpl, xs, gx, ys, gy, lx, ly, flat_cls _, by omega, ?_⟩
        rw [if_pos (flat_cls _)]
        rfl
      rintro ρ k4 ⟨hk4, rfl⟩
      simp [-V3.forL, -asL]
      have ou : okU (.dw (bs.map bkD)) := .inl ⟨_, rfl⟩
      have ow : dwB (.dw (bs.map bkD)) := fun _ => ⟨bs, rfl⟩
      have sp : isSL (.list (ps.map pD)) = true := sl_of (ps := ps) rfl
      have spT : isSL (.tuple (ps.map pD)) = true := sl_of (ps := ps) rfl
      have spl : lenS (.list (ps.map pD)) := lenS_ps rfl (by omega)
      have splT : lenS (.tuple (ps.map pD)) := lenS_ps rfl (by omega)
      have bl : lenB (pr a b) := fun xs z => by
        cases z
        simp
      have bt : isBd (pr a b) = true := by simp [isBd, isSzD, ha, hb]
      have same : ∀ {bs' : List Bk} {ps' : List (Int × Int)}, U.dw (bs.map bkD) = U.dw (bs'.map bkD) → some (ps.map pD) = some (ps'.map pD) → bs = bs' ∧ ps = ps' := fun {bs' ps'} e1 e2 => ⟨(bks_of2 e1).symm, pDs_inj (Option.some.inj e2)⟩
      refine Exists.intro (fun (ρ : Ro) (k : Nat) => k ≤ n + 470 ∧ ρ = [.no, .fz .dr, .no, .ow (bs.map bkD), .ow (ps.map pD), .fz (.d (pr a b)), .fz (.dw (bs.map bkD)), .ow ((cellsL xs ys).map clD), .ow ((cellsL xs ys).map clD), .no, .no, .no, .no, .no, .no, .no, .no, .no]) (And.intro ?_ ?_)
      · refine ⟨_, _, ⟨rfl, rfl⟩, ou, ow, spl, rfl, fun _ => sp, fun bs2 ps2 e1 e2 => ?_⟩
        obtain ⟨rfl, rfl⟩ := same e1 e2
        refine ⟨hbl, hpl, fun xs2 ys2 g1 g2 l1 l2 => ?_⟩
        rw [gr_uniq g1 gx, gr_uniq g2 gy, if_pos (flat_cls _)]
        exact ⟨by omega, rfl⟩
      rintro ρ k5 ⟨hk5, rfl⟩
      simp [-V3.forL, -asL]
      refine Exists.intro (fun (ρ : Ro) (k : Nat) => k ≤ n + 470 ∧ ρ = [.no, .fz .dr, .no, .ow (bs.map bkD), .ow (ps.map pD), .fz (.d (pr a b)), .fz (.dw (bs.map bkD)), .ow ((cellsL xs ys).map clD), .ow ((cellsL xs ys).map clD), .no, .no, .no, .no, .no, .no, .no, .no, .no]) (And.intro ?_ ?_)
      · refine ⟨shaped_cls _, ?_⟩
        simp only [eqvL_cls, if_true]
        exact ⟨hk5, trivial⟩
      rintro ρ k6 ⟨hk6, rfl⟩
      simp [-V3.forL, -asL]
      refine Exists.intro (fun (ρ : Ro) (k : Nat) => k ≤ n + 470 ∧ ρ = [.no, .fz .dr, .no, .ow (bs.map bkD), .ow (ps.map pD), .fz (.d (pr a b)), .fz (.dw (bs.map bkD)), .ow ((cellsL xs ys).map clD), .ow [], .no, .no, .no, .no, .no, .no, .no, .no, .no]) (And.intro ?_ ?_)
      · refine ⟨_, _, ⟨rfl, rfl⟩, ou, ow, splT, rfl, fun _ => spT, fun bs2 ps2 e1 e2 => ?_⟩
        obtain ⟨rfl, rfl⟩ := same e1 e2
        refine ⟨hbl, hpl, fun xs2 ys2 g1 g2 l1 l2 => ?_⟩
        rw [gr_uniq g1 gx, gr_uniq g2 gy]
        refine ⟨shaped_cls _, shaped_cls _, ?_⟩
        simp only [eqvL_cls, if_true]
        exact ⟨hk6, trivial⟩
      rintro ρ k7 ⟨hk7, rfl⟩
      simp [-V3.forL, -asL]
      obtain ⟨p, hp⟩ := in_rg xs ha
      obtain ⟨o, ho⟩ := in_rg ys hb
      refine Exists.intro (fun (ρ : Ro) (k : Nat) => k ≤ n + 470 ∧ ρ = [.no, .fz .dr, .no, .ow (bs.map bkD), .ow (ps.map pD), .fz (.d (pr a b)), .fz (.dw (bs.map bkD)), .ow ((cellsL xs ys).map clD), .ow [], .fz (.d (clD (p, o))), .no, .no, .no, .no, .no, .no, .no, .no]) (And.intro ?_ ?_)
      · refine ⟨bs, ps, xs, ys, a, b, ⟨rfl, rfl, rfl, rfl⟩, hbl, hpl, gx, gy, lx, ly, p.1, p.2, hp, o.1, o.2, ho, ?_⟩
        rw [if_pos ⟨flat_oD _, flat_oD _⟩]
        exact ⟨hk7, rfl⟩
      rintro ρ k8 ⟨hk8, rfl⟩
      simp [-V3.forL, -asL]
      refine Exists.intro (fun (ρ : Ro) (k : Nat) => k ≤ n + 470 ∧ ρ = [.no, .fz .dr, .no, .ow (bs.map bkD), .ow (ps.map pD), .fz (.d (pr a b)), .fz (.dw (bs.map bkD)), .ow ((cellsL xs ys).map clD), .ow [], .fz (.d (clD (p, o))), .no, .no, .no, .no, .no, .no, .no, .no]) (And.intro ?_ ?_)
      · refine ⟨_, _, _, ⟨rfl, rfl, rfl⟩, ou, ow, spl, bl, rfl, fun _ => sp, fun _ _ => bt, fun bs2 ps2 a2 b2 e1 e2 e3 _ _ => ?_⟩
        obtain ⟨rfl, rfl⟩ := same e1 e2
        obtain ⟨rfl, rfl⟩ : a = a2 ∧ b = b2 := by simpa using e3
        refine ⟨hbl, hpl, fun xs2 ys2 p1 p2 o1 o2 g1 g2 q1 q2 => ?_⟩
        obtain rfl := gr_uniq g1 gx
        obtain rfl := gr_uniq g2 gy
        obtain rfl : (p1, p2) = p := Option.some.inj (q1.symm.trans hp)
        obtain rfl : (o1, o2) = o := Option.some.inj (q2.symm.trans ho)
        refine ⟨shaped_cl ((p1, p2), (o1, o2)), shaped_cl ((p1, p2), (o1, o2)), ?_⟩
        have e : PyData.eqv (PyData.tuple [niD (p1, p2), niD (o1, o2)]) (PyData.tuple [niD (p1, p2), niD (o1, o2)]) = true := eqv_cl ((p1, p2), (o1, o2))
        simp only [e, if_true]
        refine ⟨shaped_cl _, shaped_cls _, ?_⟩
        have an := any_cl (mem_cells q1 q2)
        simp only [an, Bool.not_true, Bool.false_eq_true, if_false]
        exact ⟨hk8, trivial⟩
      rintro ρ k9 ⟨hk9, rfl⟩
      simp [-V3.forL, -asL]
      refine Exists.intro (fun (ρ : Ro) (k : Nat) => k ≤ n + 470 ∧ ρ = [.no, .fz .dr, .no, .ow (bs.map bkD), .ow (ps.map pD), .fz (.d (pr a b)), .fz (.dw (bs.map bkD)), .ow ((cellsL xs ys).map clD), .ow [], .fz (.d (clD (p, o))), .no, .no, .no, .no, .no, .no, .no, .no]) (And.intro ?_ ?_)
      · refine ⟨_, _, _, ⟨rfl, rfl, rfl⟩, ou, ow, spl, bl, rfl, fun _ => sp, fun _ _ => bt, fun bs2 ps2 a2 b2 e1 e2 e3 _ _ => ?_⟩
        obtain ⟨rfl, rfl⟩ := same e1 e2
        obtain ⟨rfl, rfl⟩ : a = a2 ∧ b = b2 := by simpa using e3
        refine ⟨hbl, hpl, fun xs2 ys2 p1 p2 o1 o2 g1 g2 q1 q2 => ?_⟩
        obtain rfl := gr_uniq g1 gx
        obtain rfl := gr_uniq g2 gy
        obtain rfl : (p1, p2) = p := Option.some.inj (q1.symm.trans hp)
        obtain rfl : (o1, o2) = o := Option.some.inj (q2.symm.trans ho)
        refine ⟨shaped_cl ((p1, p2), (o1, o2)), shaped_cl ((p1, p2), (o1, o2)), ?_⟩
        have e : PyData.eqv (PyData.tuple [niD (p1, p2), niD (o1, o2)]) (PyData.tuple [niD (p1, p2), niD (o1, o2)]) = true := eqv_cl ((p1, p2), (o1, o2))
        simp only [e, if_true]
        exact ⟨hk9, trivial⟩
      rintro ρ k10 ⟨hk10, rfl⟩
      simp [-V3.forL, -asL]
      rw [show upFrom 0 2 = [PyData.int 0, PyData.int 1] from rfl]
      refine Exists.intro (fun (ρ : Ro) (k : Nat) => k ≤ n + 470 ∧ ρ = [.no, .fz .dr, .no, .fz (.d (.list (bs.map bkD))), .fz (.d (.list (ps.map pD))), .fz (.d (pr a b)), .fz (.dw (bs.map bkD)), .ow ((cellsL xs ys).map clD), .ow [], .fz (.d (clD (p, o))), .ow [.list ((namesL ps.length bs.length 0).map nmD), .list ((namesL ps.length bs.length 1).map nmD)], .no, .no, .no, .no, .no, .no, .no]) (And.intro ?_ ?_)
      · simp
        exact ⟨few (by omega), ps, bs.length, 0, ⟨rfl, rfl, rfl⟩, .inl rfl, hpl, hbl, ps, bs.length, 1, ⟨rfl, rfl, rfl⟩, .inr rfl, hpl, hbl, hk10, rfl⟩
      rintro ρ k11 ⟨hk11, rfl⟩
      simp [-V3.forL, -asL]
      refine Exists.intro (fun (ρ : Ro) (k : Nat) => k ≤ n + 600 ∧ ∃ z11 z12 z13 z14 z15 : Sl, ρ = [.no, .fz .dr, .no, .fz (.d (.list (bs.map bkD))), .fz (.d (.list (ps.map pD))), .fz (.d (pr a b)), .fz (.dw (bs.map bkD)), .ow ((cellsL xs ys).map clD), .ow [], .fz (.d (clD (p, o))), .ow [.list ((namesL ps.length bs.length 0).map nmD), .list ((namesL ps.length bs.length 1).map nmD)], z11, z12, z13, z14, z15, .no, .no]) (And.intro ?_ ?_)
      · refine ⟨shaped_nms (fun x m => (nms_mem m).2), by rfl, ?_⟩
        by_cases hn0 : namesL ps.length bs.length 0 = []
        · have e0 : PyData.eqv (.list ((namesL ps.length bs.length 0).map nmD)) (.list []) = true := by
            rw [hn0]
            rfl
          simp only [e0, if_true]
          exact ⟨by omega, _, _, _, _, _, rfl⟩
        have e0 := eqv_nms0 hn0
        simp only [e0, Bool.false_eq_true, if_false]
        refine Exists.intro (fun (ρ : Ro) (k : Nat) => k ≤ n + 480 ∧ ∃ (w : Str) (i : Int) (w1 : Str) (i1 : Int), ρ = [.no, .fz .dr, .no, .fz (.d (.list (bs.map bkD))), .fz (.d (.list (ps.map pD))), .fz (.d (pr a b)), .fz (.dw (bs.map bkD)), .ow ((cellsL xs ys).map clD), .ow [], .fz (.d (clD (p, o))), .ow [.list ((namesL ps.length bs.length 0).map nmD), .list ((namesL ps.length bs.length 1).map nmD)], .fz (.d (.tuple [nmD (w, i), nmD (w1, i1)])), .no, .no, .no, .no, .no, .no] ∧ (w, i) ∈ namesL ps.length bs.length 0 ∧ (w1, i1) ∈ namesL ps.length bs.length 1) (And.intro ?_ ?_)
        · refine ⟨by omega, hn0, by rw [nms_len]; omega, fun y w i m e => ⟨by omega, nms_ne hn0, by rw [nms_len]; omega, fun y1 w1 i1 m1 e1 => ?_⟩⟩
          subst e
          subst e1
          rw [if_pos ⟨rfl, rfl⟩]
          exact ⟨by omega, w, i, w1, i1, rfl, m, m1⟩
        rintro ρ k12 ⟨hk12, w, i, w1, i1, rfl, m0, m1⟩
        simp [-V3.forL, -asL]
        obtain ⟨ok0, so0⟩ := nms_mem m0
        obtain ⟨ok1, so1⟩ := nms_mem m1
        refine Exists.intro (fun (ρ : Ro) (k : Nat) => k ≤ n + 480 ∧ ρ = [.no, .fz .dr, .no, .fz (.d (.list (bs.map bkD))), .fz (.d (.list (ps.map pD))), .fz (.d (pr a b)), .fz (.dw (bs.map bkD)), .ow ((cellsL xs ys).map clD), .ow [], .fz (.d (clD (p, o))), .ow [.list ((namesL ps.length bs.length 0).map nmD), .list ((namesL ps.length bs.length 1).map nmD)], .fz (.d (.tuple [nmD (w, i), nmD (w1, i1)])), .fz (.d (pr (valN bs ps (a, b) 0 (w, i)) (valN bs ps (a, b) 1 (w1, i1)))), .no, .no, .no, .no, .no]) (And.intro ?_ ?_)
        · exact ⟨bs, ps, a, b, w, i, w1, i1, ⟨rfl, rfl, ⟨rfl, rfl⟩, ⟨rfl, rfl⟩, rfl, rfl⟩, ok0, ok1, hk12, rfl⟩
        rintro ρ k13 ⟨hk13, rfl⟩
        simp [-V3.forL, -asL]
        have nok : namesOk ps.length bs.length (.tuple [nmD (w, i), nmD (w1, i1)]) = true := by
          show (nmOk ps.length bs.length (wsN 0) (nmD (w, i)) && nmOk ps.length bs.length (wsN 1) (nmD (w1, i1))) = true
          rw [ok0, ok1]
          rfl
        have ev : PyData.eqv (pr (valN bs ps (a, b) 0 (w, i)) (valN bs ps (a, b) 1 (w1, i1))) (pr (valN bs ps (a, b) 0 (w, i)) (valN bs ps (a, b) 1 (w1, i1))) = true := eqv_pD (_, _)
        refine Exists.intro (fun (ρ : Ro) (k : Nat) => k ≤ n + 480 ∧ ρ = [.no, .fz .dr, .no, .fz (.d (.list (bs.map bkD))), .fz (.d (.list (ps.map pD))), .fz (.d (pr a b)), .fz (.dw (bs.map bkD)), .ow ((cellsL xs ys).map clD), .ow [], .fz (.d (clD (p, o))), .ow [.list ((namesL ps.length bs.length 0).map nmD), .list ((namesL ps.length bs.length 1).map nmD)], .fz (.d (.tuple [nmD (w, i), nmD (w1, i1)])), .fz (.d (pr (valN bs ps (a, b) 0 (w, i)) (valN bs ps (a, b) 1 (w1, i1)))), .no, .no, .no, .no, .no]) (And.intro ?_ ?_)
        · refine ⟨_, _, _, _, ⟨rfl, rfl, rfl, rfl⟩, ⟨ou, ow, spl, bl⟩, rfl, fun _ => sp, fun _ _ => bt, fun bs2 ps2 a2 b2 e1 e2 e3 _ _ => ?_⟩
          obtain ⟨rfl, rfl⟩ := same e1 e2
          obtain ⟨rfl, rfl⟩ : a = a2 ∧ b = b2 := by simpa using e3
          refine ⟨hbl, hpl, sc_nms _ _, nok, fun w2 i2 w3 i3 e4 _ => ?_⟩
          obtain ⟨⟨rfl, rfl⟩, rfl, rfl⟩ : (w = w2 ∧ i = i2) ∧ w1 = w3 ∧ i1 = i3 := by simpa using e4
          refine ⟨shaped_pD (_, _), shaped_pD (_, _), ?_⟩
          simp only [ev, if_true]
          exact ⟨hk13, trivial⟩
        rintro ρ k14 ⟨hk14, rfl⟩
        simp [-V3.forL, -asL]
        refine Exists.intro (fun (ρ : Ro) (k : Nat) => k ≤ n + 480 ∧ ρ = [.no, .fz .dr, .no, .fz (.d (.list (bs.map bkD))), .fz (.d (.list (ps.map pD))), .fz (.d (pr a b)), .fz (.dw (bs.map bkD)), .ow ((cellsL xs ys).map clD), .ow [], .fz (.d (clD (p, o))), .ow [.list ((namesL ps.length bs.length 0).map nmD), .list ((namesL ps.length bs.length 1).map nmD)], .fz (.d (.tuple [nmD (w, i), nmD (w1, i1)])), .fz (.d (pr (valN bs ps (a, b) 0 (w, i)) (valN bs ps (a, b) 1 (w1, i1)))), .no, .no, .no, .no, .no]) (And.intro ?_ ?_)
        · refine ⟨_, _, _, _, ⟨rfl, rfl, rfl, rfl⟩, ⟨ou, ow, spl, bl⟩, rfl, fun _ => sp, fun _ _ => bt, fun bs2 ps2 a2 b2 e1 e2 e3 _ _ => ?_⟩
          obtain ⟨rfl, rfl⟩ := same e1 e2
          obtain ⟨rfl, rfl⟩ : a = a2 ∧ b = b2 := by simpa using e3
          refine ⟨hbl, hpl, sc_nms _ _, nok, fun w2 i2 w3 i3 e4 _ => ?_⟩
          obtain ⟨⟨rfl, rfl⟩, rfl, rfl⟩ : (w = w2 ∧ i = i2) ∧ w1 = w3 ∧ i1 = i3 := by simpa using e4
          refine ⟨shaped_pD (_, _), shaped_pD (_, _), ?_⟩
          simp only [ev, if_true]
          exact ⟨hk14, trivial⟩
        rintro ρ k15 ⟨hk15, rfl⟩
        simp [-V3.forL, -asL]
        refine Exists.intro (fun (ρ : Ro) (k : Nat) => k ≤ n + 490 ∧ ∃ c1 c2 : Int, ρ = [.no, .fz .dr, .no, .fz (.d (.list (bs.map bkD))), .fz (.d (.list (ps.map pD))), .fz (.d (pr a b)), .fz (.dw (bs.map bkD)), .ow ((cellsL xs ys).map clD), .ow [], .fz (.d (clD (p, o))), .ow [.list ((namesL ps.length bs.length 0).map nmD), .list ((namesL ps.length bs.length 1).map nmD)], .fz (.d (.tuple [nmD (w, i), nmD (w1, i1)])), .fz (.d (pr (valN bs ps (a, b) 0 (w, i)) (valN bs ps (a, b) 1 (w1, i1)))), .fz (.d (pr c1 c2)), .no, .no, .no, .no]) (And.intro ?_ ?_)
        · have nr : ∀ d1 d2 : Int, k15 + 1 + 1 ≤ n + 490 ∧ ∃ c1 c2 : Int, ([.no, .fz .dr, .no, .fz (.d (.list (bs.map bkD))), .fz (.d (.list (ps.map pD))), .fz (.d (pr a b)), .fz (.dw (bs.map bkD)), .ow ((cellsL xs ys).map clD), .ow [], .fz (.d (clD (p, o))), .ow [.list ((namesL ps.length bs.length 0).map nmD), .list ((namesL ps.length bs.length 1).map nmD)], .fz (.d (.tuple [nmD (w, i), nmD (w1, i1)])), .fz (.d (pr (valN bs ps (a, b) 0 (w, i)) (valN bs ps (a, b) 1 (w1, i1)))), .fz (.d (pr d1 d2)), .no, .no, .no, .no] : Ro) = [.no, .fz .dr, .no, .fz (.d (.list (bs.map bkD))), .fz (.d (.list (ps.map pD))), .fz (.d (pr a b)), .fz (.dw (bs.map bkD)), .ow ((cellsL xs ys).map clD), .ow [], .fz (.d (clD (p, o))), .ow [.list ((namesL ps.length bs.length 0).map nmD), .list ((namesL ps.length bs.length 1).map nmD)], .fz (.d (.tuple [nmD (w, i), nmD (w1, i1)])), .fz (.d (pr (valN bs ps (a, b) 0 (w, i)) (valN bs ps (a, b) 1 (w1, i1)))), .fz (.d (pr c1 c2)), .no, .no, .no, .no] := fun d1 d2 => ⟨by omega, d1, d2, rfl⟩
          exact ⟨by omega, ⟨by omega, nr _ _, nr _ _, nr _ _⟩, ⟨by omega, nr _ _, nr _ _, nr _ _⟩, by omega, nr _ _, nr _ _, nr _ _⟩
        rintro ρ k16 ⟨hk16, c1, c2, rfl⟩
        simp [-V3.forL, -asL]
        refine ⟨by omega, by omega, hbk, fun x y n' _ hn' => ?_⟩
        refine forL_each (fun d => ∃ s : Int × Int, d = pD s) (fun ρ m => m ≤ n + 500 ∧ ∃ z14 z15 : Sl, ρ = [.no, .fz .dr, .no, .fz (.d (.list (bs.map bkD))), .fz (.d (.list (ps.map pD))), .fz (.d (pr a b)), .fz (.dw (bs.map bkD)), .ow ((cellsL xs ys).map clD), .ow [], .fz (.d (clD (p, o))), .ow [.list ((namesL ps.length bs.length 0).map nmD), .list ((namesL ps.length bs.length 1).map nmD)], .fz (.d (.tuple [nmD (w, i), nmD (w1, i1)])), .fz (.d (pr (valN bs ps (a, b) 0 (w, i)) (valN bs ps (a, b) 1 (w1, i1)))), .fz (.d (pr c1 c2)), z14, z15, .no, .no]) _ _ _ ?_ ?_ ?_ ⟨by omega, _, _, rfl⟩
        · intro y0 hy0
          simp only [List.mem_cons, List.not_mem_nil, or_false] at hy0
          rcases hy0 with rfl | rfl | rfl <;> exact ⟨(_, _), rfl⟩
        · rintro ρ m ⟨hm, z14, z15, rfl⟩
          exact ⟨by omega, _, _, _, _, _, rfl⟩
        rintro y0 ρ m G ⟨⟨s1, s2⟩, rfl⟩ hG ⟨hm, z14, z15, rfl⟩
        simp [-asL]
        have shp : SeqAt.shaped (nmsD (fstN bs ps (a, b) (s1, s2) 0) (fstN bs ps (a, b) (s1, s2) 1)) = true := shaped_nmsD fst_ok fst_ok
        have enm : PyData.eqv (nmsD (fstN bs ps (a, b) (s1, s2) 0) (fstN bs ps (a, b) (s1, s2) 1)) (nmsD (fstN bs ps (a, b) (s1, s2) 0) (fstN bs ps (a, b) (s1, s2) 1)) = true := eqv_nmsD _ _
        refine Exists.intro (fun (ρ : Ro) (k : Nat) => k = m ∧ ρ = [.no, .fz .dr, .no, .fz (.d (.list (bs.map bkD))), .fz (.d (.list (ps.map pD))), .fz (.d (pr a b)), .fz (.dw (bs.map bkD)), .ow ((cellsL xs ys).map clD), .ow [], .fz (.d (clD (p, o))), .ow [.list ((namesL ps.length bs.length 0).map nmD), .list ((namesL ps.length bs.length 1).map nmD)], .fz (.d (.tuple [nmD (w, i), nmD (w1, i1)])), .fz (.d (pr (valN bs ps (a, b) 0 (w, i)) (valN bs ps (a, b) 1 (w1, i1)))), .fz (.d (pr c1 c2)), .fz (.d (pr s1 s2)), .fz (.d (nmsD (fstN bs ps (a, b) (s1, s2) 0) (fstN bs ps (a, b) (s1, s2) 1))), .no, .no]) (And.intro ?_ ?_)
        · exact ⟨bs, ps, a, b, s1, s2, ⟨rfl, rfl, ⟨rfl, rfl⟩, rfl, rfl⟩, hbl, hpl, rfl, rfl⟩
        rintro ρ k18 ⟨rfl, rfl⟩
        simp [-V3.forL, -asL]
        refine Exists.intro (fun (ρ : Ro) (k : Nat) => k = k18 ∧ ρ = [.no, .fz .dr, .no, .fz (.d (.list (bs.map bkD))), .fz (.d (.list (ps.map pD))), .fz (.d (pr a b)), .fz (.dw (bs.map bkD)), .ow ((cellsL xs ys).map clD), .ow [], .fz (.d (clD (p, o))), .ow [.list ((namesL ps.length bs.length 0).map nmD), .list ((namesL ps.length bs.length 1).map nmD)], .fz (.d (.tuple [nmD (w, i), nmD (w1, i1)])), .fz (.d (pr (valN bs ps (a, b) 0 (w, i)) (valN bs ps (a, b) 1 (w1, i1)))), .fz (.d (pr c1 c2)), .fz (.d (pr s1 s2)), .fz (.d (nmsD (fstN bs ps (a, b) (s1, s2) 0) (fstN bs ps (a, b) (s1, s2) 1))), .no, .no]) (And.intro ?_ ?_)
        · refine ⟨_, _, _, _, ⟨rfl, rfl, rfl, rfl⟩, ⟨ou, ow, spl, bl⟩, rfl, fun _ => sp, fun _ _ => bt, fun _ _ _ => rfl, fun bs2 ps2 a2 b2 t1 t2 e1 e2 e3 _ _ e4 => ?_⟩
          obtain ⟨rfl, rfl⟩ := same e1 e2
          obtain ⟨rfl, rfl⟩ : a = a2 ∧ b = b2 := by simpa using e3
          obtain ⟨rfl, rfl⟩ : s1 = t1 ∧ s2 = t2 := by simpa using e4
          refine ⟨hbl, hpl, ?_⟩
          refine eqU_nms shp ⟨rfl, ?_⟩
          rw [if_neg (show ¬ (boolU (U.d (PyData.bool false)) = true) from by decide)]
          exact ⟨rfl, rfl⟩
        rintro ρ k19 ⟨rfl, rfl⟩
        simp [-V3.forL, -asL]
        refine ⟨_, _, _, _, ⟨rfl, rfl, rfl, rfl⟩, ⟨ou, ow, spl, bl⟩, rfl, fun _ => sp, fun _ _ => bt, fun _ _ _ => rfl, fun bs2 ps2 a2 b2 t1 t2 e1 e2 e3 _ _ e4 => ?_⟩
        obtain ⟨rfl, rfl⟩ := same e1 e2
        obtain ⟨rfl, rfl⟩ : a = a2 ∧ b = b2 := by simpa using e3
        obtain ⟨rfl, rfl⟩ : s1 = t1 ∧ s2 = t2 := by simpa using e4
        refine ⟨hbl, hpl, ?_⟩
        refine eqU_nms shp ⟨rfl, ?_⟩
        rw [if_neg (show ¬ (boolU (U.d (PyData.bool false)) = true) from by decide)]
        exact hG _ _ ⟨hm, _, _, rfl⟩
      rintro ρ k17 ⟨hk17, z11, z12, z13, z14, z15, rfl⟩
      simp [-V3.forL, -asL]
      exact ⟨bs, ps, a, b, ⟨rfl, rfl, ⟨rfl, rfl⟩, rfl⟩, hbl, hpl, ha, hb, ⟨rfl, rfl, by omega⟩⟩
    · exact k _
end
end G21
set_option Elab.async false
set_option linter.all false
set_option maxRecDepth 100000
set_option maxHeartbeats 4000000
namespace G21
open PySem PySem.Spec PyProof.Rows L2
def strV : Value → Option Str
  | .str s _ => some s
  | _ => none
/-- a global tuple of words -/
def tupB (K : PySem.W.Frag) (a : Addr) (ws : List Str) : Bool := match K.lookup a with
  | some o => (match o.cls with
    | .type n => n == "tuple"
    | _ => false) && (match o.data with
    | .seq its _ => decide (its.toList.map strV = ws.map some) && decide (its.size ≤ 100)
    | _ => false)
  | none => false
theorem vals_strs : ∀ {ws : List Str} {us : List Value}, us.map strV = ws.map some → Vals (ws.map V.str) us
  | [], [], _ => .nil
  | [], _ :: _, h => by cases h
  | _ :: _, [], h => by cases h
  | w :: ws, u :: us, h => by
    obtain ⟨h1, h2⟩ := List.cons.inj h
    refine .cons ?_ (vals_strs h2)
    cases u <;> simp [strV] at h1
    subst h1
    exact ⟨_, rfl⟩
theorem tup_sq {K : PySem.W.Frag} {H : Hp} {a : Addr} {ws : List Str} (h : tupB K a ws = true) : SqT K H a (ws.map V.str) := by
  unfold tupB at h
  split at h
  · rename_i o e
    rw [Bool.and_eq_true] at h
    obtain ⟨h1, h2⟩ := h
    split at h1
    · rename_i n en
      split at h2
      · rename_i its m ed
        rw [Bool.and_eq_true, decide_eq_true_eq, decide_eq_true_eq] at h2
        have e3 : n = "tuple" := by simpa using h1
        rw [e3] at en
        exact .inr ⟨o, its, m, e, en, ed, Nat.le_of_lt (V3.few (by omega)), vals_strs h2.1⟩
      · cases h2
    · cases h1
  · cases h
theorem law_at {l : PySem.W.OpenLaw} {w : World} {K : PySem.W.Frag} {h : Heap} {mg : Str → Option Value} {fa : Addr} (X : K.In h) (G : h.Ns mainGlobals mg) (hfa : mg "law" = some (.ref fa))
    {mostT : Tok}
    {C C_GapError C_BadBlocks C_BadBody C_BadDrawing C_BadNames C_BadSpot C_BadSpots : Addr}
    {c_X_NAMES : Addr}
    {c_Y_NAMES : Addr}
    {f_I : Addr} {od_I an_I : Option Addr} {sl_I : Array (Option Value)} {oc_I kV_I dc_I pm_I cd_I ct_I : Value}
    {f_q_is_number : Addr} {od_q_is_number an_q_is_number : Option Addr} {sl_q_is_number : Array (Option Value)} {oc_q_is_number kV_q_is_number dc_q_is_number pm_q_is_number cd_q_is_number ct_q_is_number : Value}
    {f_q_is_list : Addr} {od_q_is_list an_q_is_list : Option Addr} {sl_q_is_list : Array (Option Value)} {oc_q_is_list kV_q_is_list dc_q_is_list pm_q_is_list cd_q_is_list ct_q_is_list : Value}
    {f_q_is_number_pair : Addr} {od_q_is_number_pair an_q_is_number_pair : Option Addr} {sl_q_is_number_pair : Array (Option Value)} {oc_q_is_number_pair kV_q_is_number_pair dc_q_is_number_pair pm_q_is_number_pair cd_q_is_number_pair ct_q_is_number_pair : Value}
    {f_q_is_spot_list : Addr} {od_q_is_spot_list an_q_is_spot_list : Option Addr} {sl_q_is_spot_list : Array (Option Value)} {oc_q_is_spot_list kV_q_is_spot_list dc_q_is_spot_list pm_q_is_spot_list cd_q_is_spot_list ct_q_is_spot_list : Value}
    {f_q_is_index : Addr} {od_q_is_index an_q_is_index : Option Addr} {sl_q_is_index : Array (Option Value)} {oc_q_is_index kV_q_is_index dc_q_is_index pm_q_is_index cd_q_is_index ct_q_is_index : Value}
    {f_q_check_spot : Addr} {od_q_check_spot an_q_check_spot : Option Addr} {sl_q_check_spot : Array (Option Value)} {oc_q_check_spot kV_q_check_spot dc_q_check_spot pm_q_check_spot cd_q_check_spot ct_q_check_spot : Value}
    {f_q_check_spots : Addr} {od_q_check_spots an_q_check_spots : Option Addr} {sl_q_check_spots : Array (Option Value)} {oc_q_check_spots kV_q_check_spots dc_q_check_spots pm_q_check_spots cd_q_check_spots ct_q_check_spots : Value}
    {f_q_is_size : Addr} {od_q_is_size an_q_is_size : Option Addr} {sl_q_is_size : Array (Option Value)} {oc_q_is_size kV_q_is_size dc_q_is_size pm_q_is_size cd_q_is_size ct_q_is_size : Value}
    {f_q_is_body : Addr} {od_q_is_body an_q_is_body : Option Addr} {sl_q_is_body : Array (Option Value)} {oc_q_is_body kV_q_is_body dc_q_is_body pm_q_is_body cd_q_is_body ct_q_is_body : Value}
    {f_q_check_body : Addr} {od_q_check_body an_q_check_body : Option Addr} {sl_q_check_body : Array (Option Value)} {oc_q_check_body kV_q_check_body dc_q_check_body pm_q_check_body cd_q_check_body ct_q_check_body : Value}
    {f_q_is_block : Addr} {od_q_is_block an_q_is_block : Option Addr} {sl_q_is_block : Array (Option Value)} {oc_q_is_block kV_q_is_block dc_q_is_block pm_q_is_block cd_q_is_block ct_q_is_block : Value}
    {f_q_are_blocks : Addr} {od_q_are_blocks an_q_are_blocks : Option Addr} {sl_q_are_blocks : Array (Option Value)} {oc_q_are_blocks kV_q_are_blocks dc_q_are_blocks pm_q_are_blocks cd_q_are_blocks ct_q_are_blocks : Value}
    {f_q_check_drawing : Addr} {od_q_check_drawing an_q_check_drawing : Option Addr} {sl_q_check_drawing : Array (Option Value)} {oc_q_check_drawing kV_q_check_drawing dc_q_check_drawing pm_q_check_drawing cd_q_check_drawing ct_q_check_drawing : Value}
    {f_q_sizes_among : Addr} {od_q_sizes_among an_q_sizes_among : Option Addr} {sl_q_sizes_among : Array (Option Value)} {oc_q_sizes_among kV_q_sizes_among dc_q_sizes_among pm_q_sizes_among cd_q_sizes_among ct_q_sizes_among : Value}
    {f_q_grid_of : Addr} {od_q_grid_of an_q_grid_of : Option Addr} {sl_q_grid_of : Array (Option Value)} {oc_q_grid_of kV_q_grid_of dc_q_grid_of pm_q_grid_of cd_q_grid_of ct_q_grid_of : Value}
    {f_q_check_grid : Addr} {od_q_check_grid an_q_check_grid : Option Addr} {sl_q_check_grid : Array (Option Value)} {oc_q_check_grid kV_q_check_grid dc_q_check_grid pm_q_check_grid cd_q_check_grid ct_q_check_grid : Value}
    {f_q_ranges_of : Addr} {od_q_ranges_of an_q_ranges_of : Option Addr} {sl_q_ranges_of : Array (Option Value)} {oc_q_ranges_of kV_q_ranges_of dc_q_ranges_of pm_q_ranges_of cd_q_ranges_of ct_q_ranges_of : Value}
    {f_q_has_size : Addr} {od_q_has_size an_q_has_size : Option Addr} {sl_q_has_size : Array (Option Value)} {oc_q_has_size kV_q_has_size dc_q_has_size pm_q_has_size cd_q_has_size ct_q_has_size : Value}
    {f_q_fine_cells_of : Addr} {od_q_fine_cells_of an_q_fine_cells_of : Option Addr} {sl_q_fine_cells_of : Array (Option Value)} {oc_q_fine_cells_of kV_q_fine_cells_of dc_q_fine_cells_of pm_q_fine_cells_of cd_q_fine_cells_of ct_q_fine_cells_of : Value}
    {f_q_is_name : Addr} {od_q_is_name an_q_is_name : Option Addr} {sl_q_is_name : Array (Option Value)} {oc_q_is_name kV_q_is_name dc_q_is_name pm_q_is_name cd_q_is_name ct_q_is_name : Value}
    {f_q_names_for : Addr} {od_q_names_for an_q_names_for : Option Addr} {sl_q_names_for : Array (Option Value)} {oc_q_names_for kV_q_names_for dc_q_names_for pm_q_names_for cd_q_names_for ct_q_names_for : Value}
    {f_q_first_name : Addr} {od_q_first_name an_q_first_name : Option Addr} {sl_q_first_name : Array (Option Value)} {oc_q_first_name kV_q_first_name dc_q_first_name pm_q_first_name cd_q_first_name ct_q_first_name : Value}
    {f_q_first_names : Addr} {od_q_first_names an_q_first_names : Option Addr} {sl_q_first_names : Array (Option Value)} {oc_q_first_names kV_q_first_names dc_q_first_names pm_q_first_names cd_q_first_names ct_q_first_names : Value}
    {f_q_number_of : Addr} {od_q_number_of an_q_number_of : Option Addr} {sl_q_number_of : Array (Option Value)} {oc_q_number_of kV_q_number_of dc_q_number_of pm_q_number_of cd_q_number_of ct_q_number_of : Value}
    {f_q_check_names : Addr} {od_q_check_names an_q_check_names : Option Addr} {sl_q_check_names : Array (Option Value)} {oc_q_check_names kV_q_check_names dc_q_check_names pm_q_check_names cd_q_check_names ct_q_check_names : Value}
    {f_q_check_cells : Addr} {od_q_check_cells an_q_check_cells : Option Addr} {sl_q_check_cells : Array (Option Value)} {oc_q_check_cells kV_q_check_cells dc_q_check_cells pm_q_check_cells cd_q_check_cells ct_q_check_cells : Value}
    {f_q_fine_cells : Addr} {od_q_fine_cells an_q_fine_cells : Option Addr} {sl_q_fine_cells : Array (Option Value)} {oc_q_fine_cells kV_q_fine_cells dc_q_fine_cells pm_q_fine_cells cd_q_fine_cells ct_q_fine_cells : Value}
    {f_q_fine_cell : Addr} {od_q_fine_cell an_q_fine_cell : Option Addr} {sl_q_fine_cell : Array (Option Value)} {oc_q_fine_cell kV_q_fine_cell dc_q_fine_cell pm_q_fine_cell cd_q_fine_cell ct_q_fine_cell : Value}
    {f_q_place : Addr} {od_q_place an_q_place : Option Addr} {sl_q_place : Array (Option Value)} {oc_q_place kV_q_place dc_q_place pm_q_place cd_q_place ct_q_place : Value}
    {f_q_named : Addr} {od_q_named an_q_named : Option Addr} {sl_q_named : Array (Option Value)} {oc_q_named kV_q_named dc_q_named pm_q_named cd_q_named ct_q_named : Value}
    {f_l_begun : Addr} {od_l_begun an_l_begun : Option Addr} {sl_l_begun : Array (Option Value)} {oc_l_begun kV_l_begun dc_l_begun pm_l_begun cd_l_begun ct_l_begun : Value}
    {f_l_mixed : Addr} {od_l_mixed an_l_mixed : Option Addr} {sl_l_mixed : Array (Option Value)} {oc_l_mixed kV_l_mixed dc_l_mixed pm_l_mixed cd_l_mixed ct_l_mixed : Value}
    {f_l_take : Addr} {od_l_take an_l_take : Option Addr} {sl_l_take : Array (Option Value)} {oc_l_take kV_l_take dc_l_take pm_l_take cd_l_take ct_l_take : Value}
    {f_l_pick : Addr} {od_l_pick an_l_pick : Option Addr} {sl_l_pick : Array (Option Value)} {oc_l_pick kV_l_pick dc_l_pick pm_l_pick cd_l_pick ct_l_pick : Value}
    {f_l_caught : Addr} {od_l_caught an_l_caught : Option Addr} {sl_l_caught : Array (Option Value)} {oc_l_caught kV_l_caught dc_l_caught pm_l_caught cd_l_caught ct_l_caught : Value}
    {f_l_shuffled : Addr} {od_l_shuffled an_l_shuffled : Option Addr} {sl_l_shuffled : Array (Option Value)} {oc_l_shuffled kV_l_shuffled dc_l_shuffled pm_l_shuffled cd_l_shuffled ct_l_shuffled : Value}
    {f_l_block : Addr} {od_l_block an_l_block : Option Addr} {sl_l_block : Array (Option Value)} {oc_l_block kV_l_block dc_l_block pm_l_block cd_l_block ct_l_block : Value}
    {f_l_pen : Addr} {od_l_pen an_l_pen : Option Addr} {sl_l_pen : Array (Option Value)} {oc_l_pen kV_l_pen dc_l_pen pm_l_pen cd_l_pen ct_l_pen : Value}
    {f_l_stretched : Addr} {od_l_stretched an_l_stretched : Option Addr} {sl_l_stretched : Array (Option Value)} {oc_l_stretched kV_l_stretched dc_l_stretched pm_l_stretched cd_l_stretched ct_l_stretched : Value}
    {f_l_table : Addr} {od_l_table an_l_table : Option Addr} {sl_l_table : Array (Option Value)} {oc_l_table kV_l_table dc_l_table pm_l_table cd_l_table ct_l_table : Value}
    {f_l_blocks : Addr} {od_l_blocks an_l_blocks : Option Addr} {sl_l_blocks : Array (Option Value)} {oc_l_blocks kV_l_blocks dc_l_blocks pm_l_blocks cd_l_blocks ct_l_blocks : Value}
    {f_l_spot : Addr} {od_l_spot an_l_spot : Option Addr} {sl_l_spot : Array (Option Value)} {oc_l_spot kV_l_spot dc_l_spot pm_l_spot cd_l_spot ct_l_spot : Value}
    {f_l_body : Addr} {od_l_body an_l_body : Option Addr} {sl_l_body : Array (Option Value)} {oc_l_body kV_l_body dc_l_body pm_l_body cd_l_body ct_l_body : Value}
    {f_l_grid : Addr} {od_l_grid an_l_grid : Option Addr} {sl_l_grid : Array (Option Value)} {oc_l_grid kV_l_grid dc_l_grid pm_l_grid cd_l_grid ct_l_grid : Value}
    {f_l_ranges : Addr} {od_l_ranges an_l_ranges : Option Addr} {sl_l_ranges : Array (Option Value)} {oc_l_ranges kV_l_ranges dc_l_ranges pm_l_ranges cd_l_ranges ct_l_ranges : Value}
    {f_l_all_cells : Addr} {od_l_all_cells an_l_all_cells : Option Addr} {sl_l_all_cells : Array (Option Value)} {oc_l_all_cells kV_l_all_cells dc_l_all_cells pm_l_all_cells cd_l_all_cells ct_l_all_cells : Value}
    {f_l_in_range : Addr} {od_l_in_range an_l_in_range : Option Addr} {sl_l_in_range : Array (Option Value)} {oc_l_in_range kV_l_in_range dc_l_in_range pm_l_in_range cd_l_in_range ct_l_in_range : Value}
    {f_l_cell : Addr} {od_l_cell an_l_cell : Option Addr} {sl_l_cell : Array (Option Value)} {oc_l_cell kV_l_cell dc_l_cell pm_l_cell cd_l_cell ct_l_cell : Value}
    {f_l_names : Addr} {od_l_names an_l_names : Option Addr} {sl_l_names : Array (Option Value)} {oc_l_names kV_l_names dc_l_names pm_l_names cd_l_names ct_l_names : Value}
    {f_l_place : Addr} {od_l_place an_l_place : Option Addr} {sl_l_place : Array (Option Value)} {oc_l_place kV_l_place dc_l_place pm_l_place cd_l_place ct_l_place : Value}
    {cc1 P1 : Addr}
    {f_l_refused : Addr} {od_l_refused an_l_refused : Option Addr} {sl_l_refused : Array (Option Value)} {oc_l_refused kV_l_refused dc_l_refused pm_l_refused ct_l_refused : Value}
    {f_l_all_names : Addr} {od_l_all_names an_l_all_names : Option Addr} {sl_l_all_names : Array (Option Value)} {oc_l_all_names kV_l_all_names dc_l_all_names pm_l_all_names cd_l_all_names ct_l_all_names : Value}
    {f_q_law : Addr} {od_q_law an_q_law : Option Addr} {sl_q_law : Array (Option Value)} {oc_q_law kV_q_law dc_q_law pm_q_law cd_q_law ct_q_law : Value}
    (z_abs : PySem.W.nsIn K mainGlobals "abs" = some none)
    (z_all : PySem.W.nsIn K mainGlobals "all" = some none)
    (z_bool : PySem.W.nsIn K mainGlobals "bool" = some none)
    (z_enumerate : PySem.W.nsIn K mainGlobals "enumerate" = some none)
    (z_int : PySem.W.nsIn K mainGlobals "int" = some none)
    (z_isinstance : PySem.W.nsIn K mainGlobals "isinstance" = some none)
    (z_len : PySem.W.nsIn K mainGlobals "len" = some none)
    (z_list : PySem.W.nsIn K mainGlobals "list" = some none)
    (z_min : PySem.W.nsIn K mainGlobals "min" = some none)
    (z_range : PySem.W.nsIn K mainGlobals "range" = some none)
    (z_set : PySem.W.nsIn K mainGlobals "set" = some none)
    (z_sorted : PySem.W.nsIn K mainGlobals "sorted" = some none)
    (z_tuple : PySem.W.nsIn K mainGlobals "tuple" = some none)
    (most : PySem.W.nsIn K mainGlobals "MOST_BLOCKS" = some (some (.int 12 mostT)))
    (iN : PySem.W.specialIn K (.builtin "object.__class__") "__get__" = some (some (.builtin "getset_descriptor.__get__")))
    (iT : PySem.W.takesIn K (.builtin "object.__class__") = some true)
    (xa_GapError : PySem.W.nsIn K mainGlobals "GapError" = some (some (.ref C_GapError)))
    (xq_GapError : PySem.W.excIn K C_GapError [.type "ValueError", .type "Exception", .type "BaseException", .type "object"] "ValueError.__new__" = true)
    (xk_GapError : PySem.W.keepIn K (.ref C_GapError) = true)
    (xb_GapError : PySem.W.subIn K (.ref C_GapError) (.type "BaseException") = some true)
    (xt_GapError : PySem.W.typeIn K (.ref C_GapError) = some (.type "type"))
    (xg_GapError : PySem.W.findIn K (.ref C_GapError) "__getattribute__" = some (some (.builtin "BaseException.__getattribute__")))
    (xh_GapError : PySem.W.findIn K (.ref C_GapError) "__getattr__" = some none)
    (xd_GapError : PySem.W.hasDictIn K C_GapError = true)
    (xc_GapError : PySem.W.findIn K (.ref C_GapError) "__class__" = some (some (.builtin "object.__class__")))
    (xm_GapError : PySem.W.mroIn K C_GapError (.type "object") = some true)
    (xa_BadBlocks : PySem.W.nsIn K mainGlobals "BadBlocks" = some (some (.ref C_BadBlocks)))
    (xq_BadBlocks : PySem.W.excIn K C_BadBlocks [.type "ValueError", .type "Exception", .type "BaseException", .type "object"] "ValueError.__new__" = true)
    (xk_BadBlocks : PySem.W.keepIn K (.ref C_BadBlocks) = true)
    (xb_BadBlocks : PySem.W.subIn K (.ref C_BadBlocks) (.type "BaseException") = some true)
    (xt_BadBlocks : PySem.W.typeIn K (.ref C_BadBlocks) = some (.type "type"))
    (xg_BadBlocks : PySem.W.findIn K (.ref C_BadBlocks) "__getattribute__" = some (some (.builtin "BaseException.__getattribute__")))
    (xh_BadBlocks : PySem.W.findIn K (.ref C_BadBlocks) "__getattr__" = some none)
    (xd_BadBlocks : PySem.W.hasDictIn K C_BadBlocks = true)
    (xc_BadBlocks : PySem.W.findIn K (.ref C_BadBlocks) "__class__" = some (some (.builtin "object.__class__")))
    (xm_BadBlocks : PySem.W.mroIn K C_BadBlocks (.type "object") = some true)
    (xa_BadBody : PySem.W.nsIn K mainGlobals "BadBody" = some (some (.ref C_BadBody)))
    (xq_BadBody : PySem.W.excIn K C_BadBody [.type "ValueError", .type "Exception", .type "BaseException", .type "object"] "ValueError.__new__" = true)
    (xk_BadBody : PySem.W.keepIn K (.ref C_BadBody) = true)
    (xb_BadBody : PySem.W.subIn K (.ref C_BadBody) (.type "BaseException") = some true)
    (xt_BadBody : PySem.W.typeIn K (.ref C_BadBody) = some (.type "type"))
    (xg_BadBody : PySem.W.findIn K (.ref C_BadBody) "__getattribute__" = some (some (.builtin "BaseException.__getattribute__")))
    (xh_BadBody : PySem.W.findIn K (.ref C_BadBody) "__getattr__" = some none)
    (xd_BadBody : PySem.W.hasDictIn K C_BadBody = true)
    (xc_BadBody : PySem.W.findIn K (.ref C_BadBody) "__class__" = some (some (.builtin "object.__class__")))
    (xm_BadBody : PySem.W.mroIn K C_BadBody (.type "object") = some true)
    (xa_BadDrawing : PySem.W.nsIn K mainGlobals "BadDrawing" = some (some (.ref C_BadDrawing)))
    (xq_BadDrawing : PySem.W.excIn K C_BadDrawing [.type "ValueError", .type "Exception", .type "BaseException", .type "object"] "ValueError.__new__" = true)
    (xk_BadDrawing : PySem.W.keepIn K (.ref C_BadDrawing) = true)
    (xb_BadDrawing : PySem.W.subIn K (.ref C_BadDrawing) (.type "BaseException") = some true)
    (xt_BadDrawing : PySem.W.typeIn K (.ref C_BadDrawing) = some (.type "type"))
    (xg_BadDrawing : PySem.W.findIn K (.ref C_BadDrawing) "__getattribute__" = some (some (.builtin "BaseException.__getattribute__")))
    (xh_BadDrawing : PySem.W.findIn K (.ref C_BadDrawing) "__getattr__" = some none)
    (xd_BadDrawing : PySem.W.hasDictIn K C_BadDrawing = true)
    (xc_BadDrawing : PySem.W.findIn K (.ref C_BadDrawing) "__class__" = some (some (.builtin "object.__class__")))
    (xm_BadDrawing : PySem.W.mroIn K C_BadDrawing (.type "object") = some true)
    (xa_BadNames : PySem.W.nsIn K mainGlobals "BadNames" = some (some (.ref C_BadNames)))
    (xq_BadNames : PySem.W.excIn K C_BadNames [.type "ValueError", .type "Exception", .type "BaseException", .type "object"] "ValueError.__new__" = true)
    (xk_BadNames : PySem.W.keepIn K (.ref C_BadNames) = true)
    (xb_BadNames : PySem.W.subIn K (.ref C_BadNames) (.type "BaseException") = some true)
    (xt_BadNames : PySem.W.typeIn K (.ref C_BadNames) = some (.type "type"))
    (xg_BadNames : PySem.W.findIn K (.ref C_BadNames) "__getattribute__" = some (some (.builtin "BaseException.__getattribute__")))
    (xh_BadNames : PySem.W.findIn K (.ref C_BadNames) "__getattr__" = some none)
    (xd_BadNames : PySem.W.hasDictIn K C_BadNames = true)
    (xc_BadNames : PySem.W.findIn K (.ref C_BadNames) "__class__" = some (some (.builtin "object.__class__")))
    (xm_BadNames : PySem.W.mroIn K C_BadNames (.type "object") = some true)
    (xa_BadSpot : PySem.W.nsIn K mainGlobals "BadSpot" = some (some (.ref C_BadSpot)))
    (xq_BadSpot : PySem.W.excIn K C_BadSpot [.type "ValueError", .type "Exception", .type "BaseException", .type "object"] "ValueError.__new__" = true)
    (xk_BadSpot : PySem.W.keepIn K (.ref C_BadSpot) = true)
    (xb_BadSpot : PySem.W.subIn K (.ref C_BadSpot) (.type "BaseException") = some true)
    (xt_BadSpot : PySem.W.typeIn K (.ref C_BadSpot) = some (.type "type"))
    (xg_BadSpot : PySem.W.findIn K (.ref C_BadSpot) "__getattribute__" = some (some (.builtin "BaseException.__getattribute__")))
    (xh_BadSpot : PySem.W.findIn K (.ref C_BadSpot) "__getattr__" = some none)
    (xd_BadSpot : PySem.W.hasDictIn K C_BadSpot = true)
    (xc_BadSpot : PySem.W.findIn K (.ref C_BadSpot) "__class__" = some (some (.builtin "object.__class__")))
    (xm_BadSpot : PySem.W.mroIn K C_BadSpot (.type "object") = some true)
    (xa_BadSpots : PySem.W.nsIn K mainGlobals "BadSpots" = some (some (.ref C_BadSpots)))
    (xq_BadSpots : PySem.W.excIn K C_BadSpots [.type "ValueError", .type "Exception", .type "BaseException", .type "object"] "ValueError.__new__" = true)
    (xk_BadSpots : PySem.W.keepIn K (.ref C_BadSpots) = true)
    (xb_BadSpots : PySem.W.subIn K (.ref C_BadSpots) (.type "BaseException") = some true)
    (xt_BadSpots : PySem.W.typeIn K (.ref C_BadSpots) = some (.type "type"))
    (xg_BadSpots : PySem.W.findIn K (.ref C_BadSpots) "__getattribute__" = some (some (.builtin "BaseException.__getattribute__")))
    (xh_BadSpots : PySem.W.findIn K (.ref C_BadSpots) "__getattr__" = some none)
    (xd_BadSpots : PySem.W.hasDictIn K C_BadSpots = true)
    (xc_BadSpots : PySem.W.findIn K (.ref C_BadSpots) "__class__" = some (some (.builtin "object.__class__")))
    (xm_BadSpots : PySem.W.mroIn K C_BadSpots (.type "object") = some true)
    (u_BadBlocks : PySem.W.exmOne K (.ref C_BadBlocks) (.ref C_GapError) = some true)
    (u_BadBody : PySem.W.exmOne K (.ref C_BadBody) (.ref C_GapError) = some true)
    (u_BadDrawing : PySem.W.exmOne K (.ref C_BadDrawing) (.ref C_GapError) = some true)
    (u_BadNames : PySem.W.exmOne K (.ref C_BadNames) (.ref C_GapError) = some true)
    (u_BadSpot : PySem.W.exmOne K (.ref C_BadSpot) (.ref C_GapError) = some true)
    (u_BadSpots : PySem.W.exmOne K (.ref C_BadSpots) (.ref C_GapError) = some true)
    (xn_X_NAMES : PySem.W.nsIn K mainGlobals "X_NAMES" = some (some (.ref c_X_NAMES)))
    (xo_X_NAMES : tupB K c_X_NAMES ["spot", "right", "left"] = true)
    (xn_Y_NAMES : PySem.W.nsIn K mainGlobals "Y_NAMES" = some (some (.ref c_Y_NAMES)))
    (xo_Y_NAMES : tupB K c_Y_NAMES ["spot", "high", "low"] = true)
    (n_BadBlocks : PySem.W.kitOne K (.type "NoneType") (.ref C_BadBlocks) = some false)
    (n_BadBody : PySem.W.kitOne K (.type "NoneType") (.ref C_BadBody) = some false)
    (n_BadDrawing : PySem.W.kitOne K (.type "NoneType") (.ref C_BadDrawing) = some false)
    (n_BadNames : PySem.W.kitOne K (.type "NoneType") (.ref C_BadNames) = some false)
    (n_BadSpot : PySem.W.kitOne K (.type "NoneType") (.ref C_BadSpot) = some false)
    (n_BadSpots : PySem.W.kitOne K (.type "NoneType") (.ref C_BadSpots) = some false)
    (aC : PySem.W.nsIn K mainGlobals "Drawing" = some (some (.ref C)))
    (pg : PySem.W.plainGet K C Str.empty = true)
    (hd : PySem.W.hasDictIn K C = true)
    (po : PySem.W.plainOver K C = true)
    (sa : PySem.W.findIn K (.ref C) "__setattr__" = some (some (.builtin "object.__setattr__")))
    (nB : PySem.W.findIn K (.ref C) "blocks" = some none)
    (in_ : PySem.W.findIn K (.ref C) "__init__" = some (some (.ref f_I)))
    (l_I : K.lookup f_I = some ⟨oc_I, od_I, .func (PySem.W.fnOf "__init__" "Drawing.__init__" (defArgs S_q_Drawing_init) (defBody S_q_Drawing_init) (defScope S_q_Drawing_init) .none kV_I dc_I pm_I an_I cd_I ct_I), sl_I⟩)
    (c_I : PySem.W.codeIn K cd_I "Drawing.__init__" = true)
    (k_I : PySem.W.keepIn K (.ref f_I) = true)
    (ii : PySem.W.isFn K (.ref f_I) = true)
    (mk : PySem.W.makesIn K C = true)
    (kc : PySem.W.keepIn K (.ref C) = true)
    (iA : PySem.W.findIn K (.ref C) "__class__" = some (some (.builtin "object.__class__")))
    (iM : PySem.W.mroIn K C (.type "object") = some true)
    (kD : PySem.W.kitOne K (.ref C) (.ref C) = some true)
    (kL : PySem.W.kitOne K (.type "list") (.ref C) = some false)
    (kNoneType : PySem.W.kitOne K (.type "NoneType") (.ref C) = some false)
    (ktuple : PySem.W.kitOne K (.type "tuple") (.ref C) = some false)
    (kstr : PySem.W.kitOne K (.type "str") (.ref C) = some false)
    (kint : PySem.W.kitOne K (.type "int") (.ref C) = some false)
    (kbool : PySem.W.kitOne K (.type "bool") (.ref C) = some false)
    (e_BadBlocks : PySem.W.kitOne K (.ref C_BadBlocks) (.ref C_BadBlocks) = some true)
    (e_BadBody : PySem.W.kitOne K (.ref C_BadBody) (.ref C_BadBody) = some true)
    (e_BadDrawing : PySem.W.kitOne K (.ref C_BadDrawing) (.ref C_BadDrawing) = some true)
    (e_BadNames : PySem.W.kitOne K (.ref C_BadNames) (.ref C_BadNames) = some true)
    (e_BadSpot : PySem.W.kitOne K (.ref C_BadSpot) (.ref C_BadSpot) = some true)
    (e_BadSpots : PySem.W.kitOne K (.ref C_BadSpots) (.ref C_BadSpots) = some true)
    (a_q_is_number : PySem.W.nsIn K mainGlobals "is_number" = some (some (.ref f_q_is_number)))
    (l_q_is_number : K.lookup f_q_is_number = some ⟨oc_q_is_number, od_q_is_number, .func (PySem.W.fnOf "is_number" "is_number" (defArgs S_q_is_number) (defBody S_q_is_number) (defScope S_q_is_number) .none kV_q_is_number dc_q_is_number pm_q_is_number an_q_is_number cd_q_is_number ct_q_is_number), sl_q_is_number⟩)
    (c_q_is_number : PySem.W.codeIn K cd_q_is_number "is_number" = true)
    (k_q_is_number : PySem.W.keepIn K (.ref f_q_is_number) = true)
    (a_q_is_list : PySem.W.nsIn K mainGlobals "is_list" = some (some (.ref f_q_is_list)))
    (l_q_is_list : K.lookup f_q_is_list = some ⟨oc_q_is_list, od_q_is_list, .func (PySem.W.fnOf "is_list" "is_list" (defArgs S_q_is_list) (defBody S_q_is_list) (defScope S_q_is_list) .none kV_q_is_list dc_q_is_list pm_q_is_list an_q_is_list cd_q_is_list ct_q_is_list), sl_q_is_list⟩)
    (c_q_is_list : PySem.W.codeIn K cd_q_is_list "is_list" = true)
    (k_q_is_list : PySem.W.keepIn K (.ref f_q_is_list) = true)
    (a_q_is_number_pair : PySem.W.nsIn K mainGlobals "is_number_pair" = some (some (.ref f_q_is_number_pair)))
    (l_q_is_number_pair : K.lookup f_q_is_number_pair = some ⟨oc_q_is_number_pair, od_q_is_number_pair, .func (PySem.W.fnOf "is_number_pair" "is_number_pair" (defArgs S_q_is_number_pair) (defBody S_q_is_number_pair) (defScope S_q_is_number_pair) .none kV_q_is_number_pair dc_q_is_number_pair pm_q_is_number_pair an_q_is_number_pair cd_q_is_number_pair ct_q_is_number_pair), sl_q_is_number_pair⟩)
    (c_q_is_number_pair : PySem.W.codeIn K cd_q_is_number_pair "is_number_pair" = true)
    (k_q_is_number_pair : PySem.W.keepIn K (.ref f_q_is_number_pair) = true)
    (a_q_is_spot_list : PySem.W.nsIn K mainGlobals "is_spot_list" = some (some (.ref f_q_is_spot_list)))
    (l_q_is_spot_list : K.lookup f_q_is_spot_list = some ⟨oc_q_is_spot_list, od_q_is_spot_list, .func (PySem.W.fnOf "is_spot_list" "is_spot_list" (defArgs S_q_is_spot_list) (defBody S_q_is_spot_list) (defScope S_q_is_spot_list) .none kV_q_is_spot_list dc_q_is_spot_list pm_q_is_spot_list an_q_is_spot_list cd_q_is_spot_list ct_q_is_spot_list), sl_q_is_spot_list⟩)
    (c_q_is_spot_list : PySem.W.codeIn K cd_q_is_spot_list "is_spot_list" = true)
    (k_q_is_spot_list : PySem.W.keepIn K (.ref f_q_is_spot_list) = true)
    (a_q_is_index : PySem.W.nsIn K mainGlobals "is_index" = some (some (.ref f_q_is_index)))
    (l_q_is_index : K.lookup f_q_is_index = some ⟨oc_q_is_index, od_q_is_index, .func (PySem.W.fnOf "is_index" "is_index" (defArgs S_q_is_index) (defBody S_q_is_index) (defScope S_q_is_index) .none kV_q_is_index dc_q_is_index pm_q_is_index an_q_is_index cd_q_is_index ct_q_is_index), sl_q_is_index⟩)
    (c_q_is_index : PySem.W.codeIn K cd_q_is_index "is_index" = true)
    (k_q_is_index : PySem.W.keepIn K (.ref f_q_is_index) = true)
    (a_q_check_spot : PySem.W.nsIn K mainGlobals "check_spot" = some (some (.ref f_q_check_spot)))
    (l_q_check_spot : K.lookup f_q_check_spot = some ⟨oc_q_check_spot, od_q_check_spot, .func (PySem.W.fnOf "check_spot" "check_spot" (defArgs S_q_check_spot) (defBody S_q_check_spot) (defScope S_q_check_spot) .none kV_q_check_spot dc_q_check_spot pm_q_check_spot an_q_check_spot cd_q_check_spot ct_q_check_spot), sl_q_check_spot⟩)
    (c_q_check_spot : PySem.W.codeIn K cd_q_check_spot "check_spot" = true)
    (k_q_check_spot : PySem.W.keepIn K (.ref f_q_check_spot) = true)
    (a_q_check_spots : PySem.W.nsIn K mainGlobals "check_spots" = some (some (.ref f_q_check_spots)))
    (l_q_check_spots : K.lookup f_q_check_spots = some ⟨oc_q_check_spots, od_q_check_spots, .func (PySem.W.fnOf "check_spots" "check_spots" (defArgs S_q_check_spots) (defBody S_q_check_spots) (defScope S_q_check_spots) .none kV_q_check_spots dc_q_check_spots pm_q_check_spots an_q_check_spots cd_q_check_spots ct_q_check_spots), sl_q_check_spots⟩)
    (c_q_check_spots : PySem.W.codeIn K cd_q_check_spots "check_spots" = true)
    (k_q_check_spots : PySem.W.keepIn K (.ref f_q_check_spots) = true)
    (a_q_is_size : PySem.W.nsIn K mainGlobals "is_size" = some (some (.ref f_q_is_size)))
    (l_q_is_size : K.lookup f_q_is_size = some ⟨oc_q_is_size, od_q_is_size, .func (PySem.W.fnOf "is_size" "is_size" (defArgs S_q_is_size) (defBody S_q_is_size) (defScope S_q_is_size) .none kV_q_is_size dc_q_is_size pm_q_is_size an_q_is_size cd_q_is_size ct_q_is_size), sl_q_is_size⟩)
    (c_q_is_size : PySem.W.codeIn K cd_q_is_size "is_size" = true)
    (k_q_is_size : PySem.W.keepIn K (.ref f_q_is_size) = true)
    (a_q_is_body : PySem.W.nsIn K mainGlobals "is_body" = some (some (.ref f_q_is_body)))
    (l_q_is_body : K.lookup f_q_is_body = some ⟨oc_q_is_body, od_q_is_body, .func (PySem.W.fnOf "is_body" "is_body" (defArgs S_q_is_body) (defBody S_q_is_body) (defScope S_q_is_body) .none kV_q_is_body dc_q_is_body pm_q_is_body an_q_is_body cd_q_is_body ct_q_is_body), sl_q_is_body⟩)
    (c_q_is_body : PySem.W.codeIn K cd_q_is_body "is_body" = true)
    (k_q_is_body : PySem.W.keepIn K (.ref f_q_is_body) = true)
    (a_q_check_body : PySem.W.nsIn K mainGlobals "check_body" = some (some (.ref f_q_check_body)))
    (l_q_check_body : K.lookup f_q_check_body = some ⟨oc_q_check_body, od_q_check_body, .func (PySem.W.fnOf "check_body" "check_body" (defArgs S_q_check_body) (defBody S_q_check_body) (defScope S_q_check_body) .none kV_q_check_body dc_q_check_body pm_q_check_body an_q_check_body cd_q_check_body ct_q_check_body), sl_q_check_body⟩)
    (c_q_check_body : PySem.W.codeIn K cd_q_check_body "check_body" = true)
    (k_q_check_body : PySem.W.keepIn K (.ref f_q_check_body) = true)
    (a_q_is_block : PySem.W.nsIn K mainGlobals "is_block" = some (some (.ref f_q_is_block)))
    (l_q_is_block : K.lookup f_q_is_block = some ⟨oc_q_is_block, od_q_is_block, .func (PySem.W.fnOf "is_block" "is_block" (defArgs S_q_is_block) (defBody S_q_is_block) (defScope S_q_is_block) .none kV_q_is_block dc_q_is_block pm_q_is_block an_q_is_block cd_q_is_block ct_q_is_block), sl_q_is_block⟩)
    (c_q_is_block : PySem.W.codeIn K cd_q_is_block "is_block" = true)
    (k_q_is_block : PySem.W.keepIn K (.ref f_q_is_block) = true)
    (a_q_are_blocks : PySem.W.nsIn K mainGlobals "are_blocks" = some (some (.ref f_q_are_blocks)))
    (l_q_are_blocks : K.lookup f_q_are_blocks = some ⟨oc_q_are_blocks, od_q_are_blocks, .func (PySem.W.fnOf "are_blocks" "are_blocks" (defArgs S_q_are_blocks) (defBody S_q_are_blocks) (defScope S_q_are_blocks) .none kV_q_are_blocks dc_q_are_blocks pm_q_are_blocks an_q_are_blocks cd_q_are_blocks ct_q_are_blocks), sl_q_are_blocks⟩)
    (c_q_are_blocks : PySem.W.codeIn K cd_q_are_blocks "are_blocks" = true)
    (k_q_are_blocks : PySem.W.keepIn K (.ref f_q_are_blocks) = true)
    (a_q_check_drawing : PySem.W.nsIn K mainGlobals "check_drawing" = some (some (.ref f_q_check_drawing)))
    (l_q_check_drawing : K.lookup f_q_check_drawing = some ⟨oc_q_check_drawing, od_q_check_drawing, .func (PySem.W.fnOf "check_drawing" "check_drawing" (defArgs S_q_check_drawing) (defBody S_q_check_drawing) (defScope S_q_check_drawing) .none kV_q_check_drawing dc_q_check_drawing pm_q_check_drawing an_q_check_drawing cd_q_check_drawing ct_q_check_drawing), sl_q_check_drawing⟩)
    (c_q_check_drawing : PySem.W.codeIn K cd_q_check_drawing "check_drawing" = true)
    (k_q_check_drawing : PySem.W.keepIn K (.ref f_q_check_drawing) = true)
    (a_q_sizes_among : PySem.W.nsIn K mainGlobals "sizes_among" = some (some (.ref f_q_sizes_among)))
    (l_q_sizes_among : K.lookup f_q_sizes_among = some ⟨oc_q_sizes_among, od_q_sizes_among, .func (PySem.W.fnOf "sizes_among" "sizes_among" (defArgs S_q_sizes_among) (defBody S_q_sizes_among) (defScope S_q_sizes_among) .none kV_q_sizes_among dc_q_sizes_among pm_q_sizes_among an_q_sizes_among cd_q_sizes_among ct_q_sizes_among), sl_q_sizes_among⟩)
    (c_q_sizes_among : PySem.W.codeIn K cd_q_sizes_among "sizes_among" = true)
    (k_q_sizes_among : PySem.W.keepIn K (.ref f_q_sizes_among) = true)
    (a_q_grid_of : PySem.W.nsIn K mainGlobals "grid_of" = some (some (.ref f_q_grid_of)))
    (l_q_grid_of : K.lookup f_q_grid_of = some ⟨oc_q_grid_of, od_q_grid_of, .func (PySem.W.fnOf "grid_of" "grid_of" (defArgs S_q_grid_of) (defBody S_q_grid_of) (defScope S_q_grid_of) .none kV_q_grid_of dc_q_grid_of pm_q_grid_of an_q_grid_of cd_q_grid_of ct_q_grid_of), sl_q_grid_of⟩)
    (c_q_grid_of : PySem.W.codeIn K cd_q_grid_of "grid_of" = true)
    (k_q_grid_of : PySem.W.keepIn K (.ref f_q_grid_of) = true)
    (a_q_check_grid : PySem.W.nsIn K mainGlobals "check_grid" = some (some (.ref f_q_check_grid)))
    (l_q_check_grid : K.lookup f_q_check_grid = some ⟨oc_q_check_grid, od_q_check_grid, .func (PySem.W.fnOf "check_grid" "check_grid" (defArgs S_q_check_grid) (defBody S_q_check_grid) (defScope S_q_check_grid) .none kV_q_check_grid dc_q_check_grid pm_q_check_grid an_q_check_grid cd_q_check_grid ct_q_check_grid), sl_q_check_grid⟩)
    (c_q_check_grid : PySem.W.codeIn K cd_q_check_grid "check_grid" = true)
    (k_q_check_grid : PySem.W.keepIn K (.ref f_q_check_grid) = true)
    (a_q_ranges_of : PySem.W.nsIn K mainGlobals "ranges_of" = some (some (.ref f_q_ranges_of)))
    (l_q_ranges_of : K.lookup f_q_ranges_of = some ⟨oc_q_ranges_of, od_q_ranges_of, .func (PySem.W.fnOf "ranges_of" "ranges_of" (defArgs S_q_ranges_of) (defBody S_q_ranges_of) (defScope S_q_ranges_of) .none kV_q_ranges_of dc_q_ranges_of pm_q_ranges_of an_q_ranges_of cd_q_ranges_of ct_q_ranges_of), sl_q_ranges_of⟩)
    (c_q_ranges_of : PySem.W.codeIn K cd_q_ranges_of "ranges_of" = true)
    (k_q_ranges_of : PySem.W.keepIn K (.ref f_q_ranges_of) = true)
    (a_q_has_size : PySem.W.nsIn K mainGlobals "has_size" = some (some (.ref f_q_has_size)))
    (l_q_has_size : K.lookup f_q_has_size = some ⟨oc_q_has_size, od_q_has_size, .func (PySem.W.fnOf "has_size" "has_size" (defArgs S_q_has_size) (defBody S_q_has_size) (defScope S_q_has_size) .none kV_q_has_size dc_q_has_size pm_q_has_size an_q_has_size cd_q_has_size ct_q_has_size), sl_q_has_size⟩)
    (c_q_has_size : PySem.W.codeIn K cd_q_has_size "has_size" = true)
    (k_q_has_size : PySem.W.keepIn K (.ref f_q_has_size) = true)
    (a_q_fine_cells_of : PySem.W.nsIn K mainGlobals "fine_cells_of" = some (some (.ref f_q_fine_cells_of)))
    (l_q_fine_cells_of : K.lookup f_q_fine_cells_of = some ⟨oc_q_fine_cells_of, od_q_fine_cells_of, .func (PySem.W.fnOf "fine_cells_of" "fine_cells_of" (defArgs S_q_fine_cells_of) (defBody S_q_fine_cells_of) (defScope S_q_fine_cells_of) .none kV_q_fine_cells_of dc_q_fine_cells_of pm_q_fine_cells_of an_q_fine_cells_of cd_q_fine_cells_of ct_q_fine_cells_of), sl_q_fine_cells_of⟩)
    (c_q_fine_cells_of : PySem.W.codeIn K cd_q_fine_cells_of "fine_cells_of" = true)
    (k_q_fine_cells_of : PySem.W.keepIn K (.ref f_q_fine_cells_of) = true)
    (a_q_is_name : PySem.W.nsIn K mainGlobals "is_name" = some (some (.ref f_q_is_name)))
    (l_q_is_name : K.lookup f_q_is_name = some ⟨oc_q_is_name, od_q_is_name, .func (PySem.W.fnOf "is_name" "is_name" (defArgs S_q_is_name) (defBody S_q_is_name) (defScope S_q_is_name) .none kV_q_is_name dc_q_is_name pm_q_is_name an_q_is_name cd_q_is_name ct_q_is_name), sl_q_is_name⟩)
    (c_q_is_name : PySem.W.codeIn K cd_q_is_name "is_name" = true)
    (k_q_is_name : PySem.W.keepIn K (.ref f_q_is_name) = true)
    (a_q_names_for : PySem.W.nsIn K mainGlobals "names_for" = some (some (.ref f_q_names_for)))
    (l_q_names_for : K.lookup f_q_names_for = some ⟨oc_q_names_for, od_q_names_for, .func (PySem.W.fnOf "names_for" "names_for" (defArgs S_q_names_for) (defBody S_q_names_for) (defScope S_q_names_for) .none kV_q_names_for dc_q_names_for pm_q_names_for an_q_names_for cd_q_names_for ct_q_names_for), sl_q_names_for⟩)
    (c_q_names_for : PySem.W.codeIn K cd_q_names_for "names_for" = true)
    (k_q_names_for : PySem.W.keepIn K (.ref f_q_names_for) = true)
    (a_q_first_name : PySem.W.nsIn K mainGlobals "first_name" = some (some (.ref f_q_first_name)))
    (l_q_first_name : K.lookup f_q_first_name = some ⟨oc_q_first_name, od_q_first_name, .func (PySem.W.fnOf "first_name" "first_name" (defArgs S_q_first_name) (defBody S_q_first_name) (defScope S_q_first_name) .none kV_q_first_name dc_q_first_name pm_q_first_name an_q_first_name cd_q_first_name ct_q_first_name), sl_q_first_name⟩)
    (c_q_first_name : PySem.W.codeIn K cd_q_first_name "first_name" = true)
    (k_q_first_name : PySem.W.keepIn K (.ref f_q_first_name) = true)
    (a_q_first_names : PySem.W.nsIn K mainGlobals "first_names" = some (some (.ref f_q_first_names)))
    (l_q_first_names : K.lookup f_q_first_names = some ⟨oc_q_first_names, od_q_first_names, .func (PySem.W.fnOf "first_names" "first_names" (defArgs S_q_first_names) (defBody S_q_first_names) (defScope S_q_first_names) .none kV_q_first_names dc_q_first_names pm_q_first_names an_q_first_names cd_q_first_names ct_q_first_names), sl_q_first_names⟩)
    (c_q_first_names : PySem.W.codeIn K cd_q_first_names "first_names" = true)
    (k_q_first_names : PySem.W.keepIn K (.ref f_q_first_names) = true)
    (a_q_number_of : PySem.W.nsIn K mainGlobals "number_of" = some (some (.ref f_q_number_of)))
    (l_q_number_of : K.lookup f_q_number_of = some ⟨oc_q_number_of, od_q_number_of, .func (PySem.W.fnOf "number_of" "number_of" (defArgs S_q_number_of) (defBody S_q_number_of) (defScope S_q_number_of) .none kV_q_number_of dc_q_number_of pm_q_number_of an_q_number_of cd_q_number_of ct_q_number_of), sl_q_number_of⟩)
    (c_q_number_of : PySem.W.codeIn K cd_q_number_of "number_of" = true)
    (k_q_number_of : PySem.W.keepIn K (.ref f_q_number_of) = true)
    (a_q_check_names : PySem.W.nsIn K mainGlobals "check_names" = some (some (.ref f_q_check_names)))
    (l_q_check_names : K.lookup f_q_check_names = some ⟨oc_q_check_names, od_q_check_names, .func (PySem.W.fnOf "check_names" "check_names" (defArgs S_q_check_names) (defBody S_q_check_names) (defScope S_q_check_names) .none kV_q_check_names dc_q_check_names pm_q_check_names an_q_check_names cd_q_check_names ct_q_check_names), sl_q_check_names⟩)
    (c_q_check_names : PySem.W.codeIn K cd_q_check_names "check_names" = true)
    (k_q_check_names : PySem.W.keepIn K (.ref f_q_check_names) = true)
    (a_q_check_cells : PySem.W.nsIn K mainGlobals "check_cells" = some (some (.ref f_q_check_cells)))
    (l_q_check_cells : K.lookup f_q_check_cells = some ⟨oc_q_check_cells, od_q_check_cells, .func (PySem.W.fnOf "check_cells" "check_cells" (defArgs S_q_check_cells) (defBody S_q_check_cells) (defScope S_q_check_cells) .none kV_q_check_cells dc_q_check_cells pm_q_check_cells an_q_check_cells cd_q_check_cells ct_q_check_cells), sl_q_check_cells⟩)
    (c_q_check_cells : PySem.W.codeIn K cd_q_check_cells "check_cells" = true)
    (k_q_check_cells : PySem.W.keepIn K (.ref f_q_check_cells) = true)
    (a_q_fine_cells : PySem.W.nsIn K mainGlobals "fine_cells" = some (some (.ref f_q_fine_cells)))
    (l_q_fine_cells : K.lookup f_q_fine_cells = some ⟨oc_q_fine_cells, od_q_fine_cells, .func (PySem.W.fnOf "fine_cells" "fine_cells" (defArgs S_q_fine_cells) (defBody S_q_fine_cells) (defScope S_q_fine_cells) .none kV_q_fine_cells dc_q_fine_cells pm_q_fine_cells an_q_fine_cells cd_q_fine_cells ct_q_fine_cells), sl_q_fine_cells⟩)
    (c_q_fine_cells : PySem.W.codeIn K cd_q_fine_cells "fine_cells" = true)
    (k_q_fine_cells : PySem.W.keepIn K (.ref f_q_fine_cells) = true)
    (a_q_fine_cell : PySem.W.nsIn K mainGlobals "fine_cell" = some (some (.ref f_q_fine_cell)))
    (l_q_fine_cell : K.lookup f_q_fine_cell = some ⟨oc_q_fine_cell, od_q_fine_cell, .func (PySem.W.fnOf "fine_cell" "fine_cell" (defArgs S_q_fine_cell) (defBody S_q_fine_cell) (defScope S_q_fine_cell) .none kV_q_fine_cell dc_q_fine_cell pm_q_fine_cell an_q_fine_cell cd_q_fine_cell ct_q_fine_cell), sl_q_fine_cell⟩)
    (c_q_fine_cell : PySem.W.codeIn K cd_q_fine_cell "fine_cell" = true)
    (k_q_fine_cell : PySem.W.keepIn K (.ref f_q_fine_cell) = true)
    (a_q_place : PySem.W.nsIn K mainGlobals "place" = some (some (.ref f_q_place)))
    (l_q_place : K.lookup f_q_place = some ⟨oc_q_place, od_q_place, .func (PySem.W.fnOf "place" "place" (defArgs S_q_place) (defBody S_q_place) (defScope S_q_place) .none kV_q_place dc_q_place pm_q_place an_q_place cd_q_place ct_q_place), sl_q_place⟩)
    (c_q_place : PySem.W.codeIn K cd_q_place "place" = true)
    (k_q_place : PySem.W.keepIn K (.ref f_q_place) = true)
    (a_q_named : PySem.W.nsIn K mainGlobals "named" = some (some (.ref f_q_named)))
    (l_q_named : K.lookup f_q_named = some ⟨oc_q_named, od_q_named, .func (PySem.W.fnOf "named" "named" (defArgs S_q_named) (defBody S_q_named) (defScope S_q_named) .none kV_q_named dc_q_named pm_q_named an_q_named cd_q_named ct_q_named), sl_q_named⟩)
    (c_q_named : PySem.W.codeIn K cd_q_named "named" = true)
    (k_q_named : PySem.W.keepIn K (.ref f_q_named) = true)
    (a_l_begun : PySem.W.nsIn K mainGlobals "_law_begun" = some (some (.ref f_l_begun)))
    (l_l_begun : K.lookup f_l_begun = some ⟨oc_l_begun, od_l_begun, .func (PySem.W.fnOf "_law_begun" "_law_begun" (defArgs S_l_begun) (defBody S_l_begun) (defScope S_l_begun) .none kV_l_begun dc_l_begun pm_l_begun an_l_begun cd_l_begun ct_l_begun), sl_l_begun⟩)
    (c_l_begun : PySem.W.codeIn K cd_l_begun "_law_begun" = true)
    (k_l_begun : PySem.W.keepIn K (.ref f_l_begun) = true)
    (a_l_mixed : PySem.W.nsIn K mainGlobals "_law_mixed" = some (some (.ref f_l_mixed)))
    (l_l_mixed : K.lookup f_l_mixed = some ⟨oc_l_mixed, od_l_mixed, .func (PySem.W.fnOf "_law_mixed" "_law_mixed" (defArgs S_l_mixed) (defBody S_l_mixed) (defScope S_l_mixed) .none kV_l_mixed dc_l_mixed pm_l_mixed an_l_mixed cd_l_mixed ct_l_mixed), sl_l_mixed⟩)
    (c_l_mixed : PySem.W.codeIn K cd_l_mixed "_law_mixed" = true)
    (k_l_mixed : PySem.W.keepIn K (.ref f_l_mixed) = true)
    (a_l_take : PySem.W.nsIn K mainGlobals "_law_take" = some (some (.ref f_l_take)))
    (l_l_take : K.lookup f_l_take = some ⟨oc_l_take, od_l_take, .func (PySem.W.fnOf "_law_take" "_law_take" (defArgs S_l_take) (defBody S_l_take) (defScope S_l_take) .none kV_l_take dc_l_take pm_l_take an_l_take cd_l_take ct_l_take), sl_l_take⟩)
    (c_l_take : PySem.W.codeIn K cd_l_take "_law_take" = true)
    (k_l_take : PySem.W.keepIn K (.ref f_l_take) = true)
    (a_l_pick : PySem.W.nsIn K mainGlobals "_law_pick" = some (some (.ref f_l_pick)))
    (l_l_pick : K.lookup f_l_pick = some ⟨oc_l_pick, od_l_pick, .func (PySem.W.fnOf "_law_pick" "_law_pick" (defArgs S_l_pick) (defBody S_l_pick) (defScope S_l_pick) .none kV_l_pick dc_l_pick pm_l_pick an_l_pick cd_l_pick ct_l_pick), sl_l_pick⟩)
    (c_l_pick : PySem.W.codeIn K cd_l_pick "_law_pick" = true)
    (k_l_pick : PySem.W.keepIn K (.ref f_l_pick) = true)
    (a_l_caught : PySem.W.nsIn K mainGlobals "_law_caught" = some (some (.ref f_l_caught)))
    (l_l_caught : K.lookup f_l_caught = some ⟨oc_l_caught, od_l_caught, .func (PySem.W.fnOf "_law_caught" "_law_caught" (defArgs S_l_caught) (defBody S_l_caught) (defScope S_l_caught) .none kV_l_caught dc_l_caught pm_l_caught an_l_caught cd_l_caught ct_l_caught), sl_l_caught⟩)
    (c_l_caught : PySem.W.codeIn K cd_l_caught "_law_caught" = true)
    (k_l_caught : PySem.W.keepIn K (.ref f_l_caught) = true)
    (a_l_shuffled : PySem.W.nsIn K mainGlobals "_law_shuffled" = some (some (.ref f_l_shuffled)))
    (l_l_shuffled : K.lookup f_l_shuffled = some ⟨oc_l_shuffled, od_l_shuffled, .func (PySem.W.fnOf "_law_shuffled" "_law_shuffled" (defArgs S_l_shuffled) (defBody S_l_shuffled) (defScope S_l_shuffled) .none kV_l_shuffled dc_l_shuffled pm_l_shuffled an_l_shuffled cd_l_shuffled ct_l_shuffled), sl_l_shuffled⟩)
    (c_l_shuffled : PySem.W.codeIn K cd_l_shuffled "_law_shuffled" = true)
    (k_l_shuffled : PySem.W.keepIn K (.ref f_l_shuffled) = true)
    (a_l_block : PySem.W.nsIn K mainGlobals "_law_block" = some (some (.ref f_l_block)))
    (l_l_block : K.lookup f_l_block = some ⟨oc_l_block, od_l_block, .func (PySem.W.fnOf "_law_block" "_law_block" (defArgs S_l_block) (defBody S_l_block) (defScope S_l_block) .none kV_l_block dc_l_block pm_l_block an_l_block cd_l_block ct_l_block), sl_l_block⟩)
    (c_l_block : PySem.W.codeIn K cd_l_block "_law_block" = true)
    (k_l_block : PySem.W.keepIn K (.ref f_l_block) = true)
    (a_l_pen : PySem.W.nsIn K mainGlobals "_law_pen" = some (some (.ref f_l_pen)))
    (l_l_pen : K.lookup f_l_pen = some ⟨oc_l_pen, od_l_pen, .func (PySem.W.fnOf "_law_pen" "_law_pen" (defArgs S_l_pen) (defBody S_l_pen) (defScope S_l_pen) .none kV_l_pen dc_l_pen pm_l_pen an_l_pen cd_l_pen ct_l_pen), sl_l_pen⟩)
    (c_l_pen : PySem.W.codeIn K cd_l_pen "_law_pen" = true)
    (k_l_pen : PySem.W.keepIn K (.ref f_l_pen) = true)
    (a_l_stretched : PySem.W.nsIn K mainGlobals "_law_stretched" = some (some (.ref f_l_stretched)))
    (l_l_stretched : K.lookup f_l_stretched = some ⟨oc_l_stretched, od_l_stretched, .func (PySem.W.fnOf "_law_stretched" "_law_stretched" (defArgs S_l_stretched) (defBody S_l_stretched) (defScope S_l_stretched) .none kV_l_stretched dc_l_stretched pm_l_stretched an_l_stretched cd_l_stretched ct_l_stretched), sl_l_stretched⟩)
    (c_l_stretched : PySem.W.codeIn K cd_l_stretched "_law_stretched" = true)
    (k_l_stretched : PySem.W.keepIn K (.ref f_l_stretched) = true)
    (a_l_table : PySem.W.nsIn K mainGlobals "_law_table" = some (some (.ref f_l_table)))
    (l_l_table : K.lookup f_l_table = some ⟨oc_l_table, od_l_table, .func (PySem.W.fnOf "_law_table" "_law_table" (defArgs S_l_table) (defBody S_l_table) (defScope S_l_table) .none kV_l_table dc_l_table pm_l_table an_l_table cd_l_table ct_l_table), sl_l_table⟩)
    (c_l_table : PySem.W.codeIn K cd_l_table "_law_table" = true)
    (k_l_table : PySem.W.keepIn K (.ref f_l_table) = true)
    (a_l_blocks : PySem.W.nsIn K mainGlobals "_law_blocks" = some (some (.ref f_l_blocks)))
    (l_l_blocks : K.lookup f_l_blocks = some ⟨oc_l_blocks, od_l_blocks, .func (PySem.W.fnOf "_law_blocks" "_law_blocks" (defArgs S_l_blocks) (defBody S_l_blocks) (defScope S_l_blocks) .none kV_l_blocks dc_l_blocks pm_l_blocks an_l_blocks cd_l_blocks ct_l_blocks), sl_l_blocks⟩)
    (c_l_blocks : PySem.W.codeIn K cd_l_blocks "_law_blocks" = true)
    (k_l_blocks : PySem.W.keepIn K (.ref f_l_blocks) = true)
    (a_l_spot : PySem.W.nsIn K mainGlobals "_law_spot" = some (some (.ref f_l_spot)))
    (l_l_spot : K.lookup f_l_spot = some ⟨oc_l_spot, od_l_spot, .func (PySem.W.fnOf "_law_spot" "_law_spot" (defArgs S_l_spot) (defBody S_l_spot) (defScope S_l_spot) .none kV_l_spot dc_l_spot pm_l_spot an_l_spot cd_l_spot ct_l_spot), sl_l_spot⟩)
    (c_l_spot : PySem.W.codeIn K cd_l_spot "_law_spot" = true)
    (k_l_spot : PySem.W.keepIn K (.ref f_l_spot) = true)
    (a_l_body : PySem.W.nsIn K mainGlobals "_law_body" = some (some (.ref f_l_body)))
    (l_l_body : K.lookup f_l_body = some ⟨oc_l_body, od_l_body, .func (PySem.W.fnOf "_law_body" "_law_body" (defArgs S_l_body) (defBody S_l_body) (defScope S_l_body) .none kV_l_body dc_l_body pm_l_body an_l_body cd_l_body ct_l_body), sl_l_body⟩)
    (c_l_body : PySem.W.codeIn K cd_l_body "_law_body" = true)
    (k_l_body : PySem.W.keepIn K (.ref f_l_body) = true)
    (a_l_grid : PySem.W.nsIn K mainGlobals "_law_grid" = some (some (.ref f_l_grid)))
    (l_l_grid : K.lookup f_l_grid = some ⟨oc_l_grid, od_l_grid, .func (PySem.W.fnOf "_law_grid" "_law_grid" (defArgs S_l_grid) (defBody S_l_grid) (defScope S_l_grid) .none kV_l_grid dc_l_grid pm_l_grid an_l_grid cd_l_grid ct_l_grid), sl_l_grid⟩)
    (c_l_grid : PySem.W.codeIn K cd_l_grid "_law_grid" = true)
    (k_l_grid : PySem.W.keepIn K (.ref f_l_grid) = true)
    (a_l_ranges : PySem.W.nsIn K mainGlobals "_law_ranges" = some (some (.ref f_l_ranges)))
    (l_l_ranges : K.lookup f_l_ranges = some ⟨oc_l_ranges, od_l_ranges, .func (PySem.W.fnOf "_law_ranges" "_law_ranges" (defArgs S_l_ranges) (defBody S_l_ranges) (defScope S_l_ranges) .none kV_l_ranges dc_l_ranges pm_l_ranges an_l_ranges cd_l_ranges ct_l_ranges), sl_l_ranges⟩)
    (c_l_ranges : PySem.W.codeIn K cd_l_ranges "_law_ranges" = true)
    (k_l_ranges : PySem.W.keepIn K (.ref f_l_ranges) = true)
    (a_l_all_cells : PySem.W.nsIn K mainGlobals "_law_all_cells" = some (some (.ref f_l_all_cells)))
    (l_l_all_cells : K.lookup f_l_all_cells = some ⟨oc_l_all_cells, od_l_all_cells, .func (PySem.W.fnOf "_law_all_cells" "_law_all_cells" (defArgs S_l_all_cells) (defBody S_l_all_cells) (defScope S_l_all_cells) .none kV_l_all_cells dc_l_all_cells pm_l_all_cells an_l_all_cells cd_l_all_cells ct_l_all_cells), sl_l_all_cells⟩)
    (c_l_all_cells : PySem.W.codeIn K cd_l_all_cells "_law_all_cells" = true)
    (k_l_all_cells : PySem.W.keepIn K (.ref f_l_all_cells) = true)
    (a_l_in_range : PySem.W.nsIn K mainGlobals "_law_in_range" = some (some (.ref f_l_in_range)))
    (l_l_in_range : K.lookup f_l_in_range = some ⟨oc_l_in_range, od_l_in_range, .func (PySem.W.fnOf "_law_in_range" "_law_in_range" (defArgs S_l_in_range) (defBody S_l_in_range) (defScope S_l_in_range) .none kV_l_in_range dc_l_in_range pm_l_in_range an_l_in_range cd_l_in_range ct_l_in_range), sl_l_in_range⟩)
    (c_l_in_range : PySem.W.codeIn K cd_l_in_range "_law_in_range" = true)
    (k_l_in_range : PySem.W.keepIn K (.ref f_l_in_range) = true)
    (a_l_cell : PySem.W.nsIn K mainGlobals "_law_cell" = some (some (.ref f_l_cell)))
    (l_l_cell : K.lookup f_l_cell = some ⟨oc_l_cell, od_l_cell, .func (PySem.W.fnOf "_law_cell" "_law_cell" (defArgs S_l_cell) (defBody S_l_cell) (defScope S_l_cell) .none kV_l_cell dc_l_cell pm_l_cell an_l_cell cd_l_cell ct_l_cell), sl_l_cell⟩)
    (c_l_cell : PySem.W.codeIn K cd_l_cell "_law_cell" = true)
    (k_l_cell : PySem.W.keepIn K (.ref f_l_cell) = true)
    (a_l_names : PySem.W.nsIn K mainGlobals "_law_names" = some (some (.ref f_l_names)))
    (l_l_names : K.lookup f_l_names = some ⟨oc_l_names, od_l_names, .func (PySem.W.fnOf "_law_names" "_law_names" (defArgs S_l_names) (defBody S_l_names) (defScope S_l_names) .none kV_l_names dc_l_names pm_l_names an_l_names cd_l_names ct_l_names), sl_l_names⟩)
    (c_l_names : PySem.W.codeIn K cd_l_names "_law_names" = true)
    (k_l_names : PySem.W.keepIn K (.ref f_l_names) = true)
    (a_l_place : PySem.W.nsIn K mainGlobals "_law_place" = some (some (.ref f_l_place)))
    (l_l_place : K.lookup f_l_place = some ⟨oc_l_place, od_l_place, .func (PySem.W.fnOf "_law_place" "_law_place" (defArgs S_l_place) (defBody S_l_place) (defScope S_l_place) .none kV_l_place dc_l_place pm_l_place an_l_place cd_l_place ct_l_place), sl_l_place⟩)
    (c_l_place : PySem.W.codeIn K cd_l_place "_law_place" = true)
    (k_l_place : PySem.W.keepIn K (.ref f_l_place) = true)
    (a_l_refused : PySem.W.nsIn K mainGlobals "_law_refused" = some (some (.ref f_l_refused)))
    (l_l_refused : K.lookup f_l_refused = some ⟨oc_l_refused, od_l_refused, .func (PySem.W.fnOf "_law_refused" "_law_refused" (defArgs S_l_refused) (defBody S_l_refused) (defScope S_l_refused) .none kV_l_refused dc_l_refused pm_l_refused an_l_refused (.ref cc1) ct_l_refused), sl_l_refused⟩)
    (c_l_refused : PySem.W.codeIn K (.ref cc1) "_law_refused" = true)
    (k_l_refused : PySem.W.keepIn K (.ref f_l_refused) = true)
    (a_l_all_names : PySem.W.nsIn K mainGlobals "_law_all_names" = some (some (.ref f_l_all_names)))
    (l_l_all_names : K.lookup f_l_all_names = some ⟨oc_l_all_names, od_l_all_names, .func (PySem.W.fnOf "_law_all_names" "_law_all_names" (defArgs S_l_all_names) (defBody S_l_all_names) (defScope S_l_all_names) .none kV_l_all_names dc_l_all_names pm_l_all_names an_l_all_names cd_l_all_names ct_l_all_names), sl_l_all_names⟩)
    (c_l_all_names : PySem.W.codeIn K cd_l_all_names "_law_all_names" = true)
    (k_l_all_names : PySem.W.keepIn K (.ref f_l_all_names) = true)
    (a_q_law : PySem.W.nsIn K mainGlobals "law" = some (some (.ref f_q_law)))
    (l_q_law : K.lookup f_q_law = some ⟨oc_q_law, od_q_law, .func (PySem.W.fnOf "law" "law" (defArgs S_q_law) (defBody S_q_law) (defScope S_q_law) .none kV_q_law dc_q_law pm_q_law an_q_law cd_q_law ct_q_law), sl_q_law⟩)
    (c_q_law : PySem.W.codeIn K cd_q_law "law" = true)
    (k_q_law : PySem.W.keepIn K (.ref f_q_law) = true)
    (ch1 : PySem.W.codeHdIn K cc1 P1 = true)
    (nP1 : K.lookup P1 = none)
    (tab1 : h.get? P1 = some { cls := .none, data := .fields #[] }) : LamX.LawAtS l w K CX0 12 63 "script" mg fa h := by
  have e := hfa.symm.trans (PySem.W.mg_of X G a_q_law)
  cases e
  let T : Txt K mg := {
    z_abs := PySem.W.mg_none_of X G z_abs
    z_all := PySem.W.mg_none_of X G z_all
    z_bool := PySem.W.mg_none_of X G z_bool
    z_enumerate := PySem.W.mg_none_of X G z_enumerate
    z_int := PySem.W.mg_none_of X G z_int
    z_isinstance := PySem.W.mg_none_of X G z_isinstance
    z_len := PySem.W.mg_none_of X G z_len
    z_list := PySem.W.mg_none_of X G z_list
    z_min := PySem.W.mg_none_of X G z_min
    z_range := PySem.W.mg_none_of X G z_range
    z_set := PySem.W.mg_none_of X G z_set
    z_sorted := PySem.W.mg_none_of X G z_sorted
    z_tuple := PySem.W.mg_none_of X G z_tuple
    mostT := mostT
    most := PySem.W.mg_of X G most
    x_GapError := ⟨C_GapError, PySem.W.mg_of X G xa_GapError, xq_GapError, xk_GapError, xb_GapError, xt_GapError, ⟨xg_GapError, xh_GapError, xb_GapError, xd_GapError, xc_GapError, iN, iT, xm_GapError⟩⟩
    x_BadBlocks := ⟨C_BadBlocks, PySem.W.mg_of X G xa_BadBlocks, xq_BadBlocks, xk_BadBlocks, xb_BadBlocks, xt_BadBlocks, ⟨xg_BadBlocks, xh_BadBlocks, xb_BadBlocks, xd_BadBlocks, xc_BadBlocks, iN, iT, xm_BadBlocks⟩⟩
    x_BadBody := ⟨C_BadBody, PySem.W.mg_of X G xa_BadBody, xq_BadBody, xk_BadBody, xb_BadBody, xt_BadBody, ⟨xg_BadBody, xh_BadBody, xb_BadBody, xd_BadBody, xc_BadBody, iN, iT, xm_BadBody⟩⟩
    x_BadDrawing := ⟨C_BadDrawing, PySem.W.mg_of X G xa_BadDrawing, xq_BadDrawing, xk_BadDrawing, xb_BadDrawing, xt_BadDrawing, ⟨xg_BadDrawing, xh_BadDrawing, xb_BadDrawing, xd_BadDrawing, xc_BadDrawing, iN, iT, xm_BadDrawing⟩⟩
    x_BadNames := ⟨C_BadNames, PySem.W.mg_of X G xa_BadNames, xq_BadNames, xk_BadNames, xb_BadNames, xt_BadNames, ⟨xg_BadNames, xh_BadNames, xb_BadNames, xd_BadNames, xc_BadNames, iN, iT, xm_BadNames⟩⟩
    x_BadSpot := ⟨C_BadSpot, PySem.W.mg_of X G xa_BadSpot, xq_BadSpot, xk_BadSpot, xb_BadSpot, xt_BadSpot, ⟨xg_BadSpot, xh_BadSpot, xb_BadSpot, xd_BadSpot, xc_BadSpot, iN, iT, xm_BadSpot⟩⟩
    x_BadSpots := ⟨C_BadSpots, PySem.W.mg_of X G xa_BadSpots, xq_BadSpots, xk_BadSpots, xb_BadSpots, xt_BadSpots, ⟨xg_BadSpots, xh_BadSpots, xb_BadSpots, xd_BadSpots, xc_BadSpots, iN, iT, xm_BadSpots⟩⟩
    u_BadBlocks := u_BadBlocks
    u_BadBody := u_BadBody
    u_BadDrawing := u_BadDrawing
    u_BadNames := u_BadNames
    u_BadSpot := u_BadSpot
    u_BadSpots := u_BadSpots
    c_X_NAMES := c_X_NAMES
    g_X_NAMES := PySem.W.mg_of X G xn_X_NAMES
    s_X_NAMES := fun H => tup_sq xo_X_NAMES
    c_Y_NAMES := c_Y_NAMES
    g_Y_NAMES := PySem.W.mg_of X G xn_Y_NAMES
    s_Y_NAMES := fun H => tup_sq xo_Y_NAMES
    n_BadBlocks := n_BadBlocks
    n_BadBody := n_BadBody
    n_BadDrawing := n_BadDrawing
    n_BadNames := n_BadNames
    n_BadSpot := n_BadSpot
    n_BadSpots := n_BadSpots
    C := C
    gC := PySem.W.mg_of X G aC
    cls := ⟨pg, hd, po, sa⟩
    nB := nB
    fI := f_I
    dI := _
    M := ⟨mk, in_, ii, kc⟩
    FI := fun_mk (st := S_q_Drawing_init) l_I c_I k_I
    bI := (fun_mk (st := S_q_Drawing_init) l_I c_I k_I).binds (ps := ["self", "blocks"]) fun _ _ _ _ _ _ us hl => match us, hl with | [_, _], _ => rfl
    kNoneType := kNoneType
    ktuple := ktuple
    kstr := kstr
    kint := kint
    kbool := kbool
    iA := iA
    iN := iN
    iT := iT
    iM := iM
    kD := kD
    kL := kL
    e_BadBlocks := e_BadBlocks
    e_BadBody := e_BadBody
    e_BadDrawing := e_BadDrawing
    e_BadNames := e_BadNames
    e_BadSpot := e_BadSpot
    e_BadSpots := e_BadSpots
    q_is_number := ⟨_, _, fun_mk (st := S_q_is_number) l_q_is_number c_q_is_number k_q_is_number, PySem.W.mg_of X G a_q_is_number, (fun_mk (st := S_q_is_number) l_q_is_number c_q_is_number k_q_is_number).binds (ps := ["thing"]) fun _ _ _ _ _ _ us hl => match us, hl with | [_], _ => rfl⟩
    q_is_list := ⟨_, _, fun_mk (st := S_q_is_list) l_q_is_list c_q_is_list k_q_is_list, PySem.W.mg_of X G a_q_is_list, (fun_mk (st := S_q_is_list) l_q_is_list c_q_is_list k_q_is_list).binds (ps := ["thing"]) fun _ _ _ _ _ _ us hl => match us, hl with | [_], _ => rfl⟩
    q_is_number_pair := ⟨_, _, fun_mk (st := S_q_is_number_pair) l_q_is_number_pair c_q_is_number_pair k_q_is_number_pair, PySem.W.mg_of X G a_q_is_number_pair, (fun_mk (st := S_q_is_number_pair) l_q_is_number_pair c_q_is_number_pair k_q_is_number_pair).binds (ps := ["thing"]) fun _ _ _ _ _ _ us hl => match us, hl with | [_], _ => rfl⟩
    q_is_spot_list := ⟨_, _, fun_mk (st := S_q_is_spot_list) l_q_is_spot_list c_q_is_spot_list k_q_is_spot_list, PySem.W.mg_of X G a_q_is_spot_list, (fun_mk (st := S_q_is_spot_list) l_q_is_spot_list c_q_is_spot_list k_q_is_spot_list).binds (ps := ["thing"]) fun _ _ _ _ _ _ us hl => match us, hl with | [_], _ => rfl⟩
    q_is_index := ⟨_, _, fun_mk (st := S_q_is_index) l_q_is_index c_q_is_index k_q_is_index, PySem.W.mg_of X G a_q_is_index, (fun_mk (st := S_q_is_index) l_q_is_index c_q_is_index k_q_is_index).binds (ps := ["thing", "many"]) fun _ _ _ _ _ _ us hl => match us, hl with | [_, _], _ => rfl⟩
    q_check_spot := ⟨_, _, fun_mk (st := S_q_check_spot) l_q_check_spot c_q_check_spot k_q_check_spot, PySem.W.mg_of X G a_q_check_spot, (fun_mk (st := S_q_check_spot) l_q_check_spot c_q_check_spot k_q_check_spot).binds (ps := ["spot"]) fun _ _ _ _ _ _ us hl => match us, hl with | [_], _ => rfl⟩
    q_check_spots := ⟨_, _, fun_mk (st := S_q_check_spots) l_q_check_spots c_q_check_spots k_q_check_spots, PySem.W.mg_of X G a_q_check_spots, (fun_mk (st := S_q_check_spots) l_q_check_spots c_q_check_spots k_q_check_spots).binds (ps := ["spots"]) fun _ _ _ _ _ _ us hl => match us, hl with | [_], _ => rfl⟩
    q_is_size := ⟨_, _, fun_mk (st := S_q_is_size) l_q_is_size c_q_is_size k_q_is_size, PySem.W.mg_of X G a_q_is_size, (fun_mk (st := S_q_is_size) l_q_is_size c_q_is_size k_q_is_size).binds (ps := ["thing"]) fun _ _ _ _ _ _ us hl => match us, hl with | [_], _ => rfl⟩
    q_is_body := ⟨_, _, fun_mk (st := S_q_is_body) l_q_is_body c_q_is_body k_q_is_body, PySem.W.mg_of X G a_q_is_body, (fun_mk (st := S_q_is_body) l_q_is_body c_q_is_body k_q_is_body).binds (ps := ["thing"]) fun _ _ _ _ _ _ us hl => match us, hl with | [_], _ => rfl⟩
    q_check_body := ⟨_, _, fun_mk (st := S_q_check_body) l_q_check_body c_q_check_body k_q_check_body, PySem.W.mg_of X G a_q_check_body, (fun_mk (st := S_q_check_body) l_q_check_body c_q_check_body k_q_check_body).binds (ps := ["body"]) fun _ _ _ _ _ _ us hl => match us, hl with | [_], _ => rfl⟩
    q_is_block := ⟨_, _, fun_mk (st := S_q_is_block) l_q_is_block c_q_is_block k_q_is_block, PySem.W.mg_of X G a_q_is_block, (fun_mk (st := S_q_is_block) l_q_is_block c_q_is_block k_q_is_block).binds (ps := ["thing"]) fun _ _ _ _ _ _ us hl => match us, hl with | [_], _ => rfl⟩
    q_are_blocks := ⟨_, _, fun_mk (st := S_q_are_blocks) l_q_are_blocks c_q_are_blocks k_q_are_blocks, PySem.W.mg_of X G a_q_are_blocks, (fun_mk (st := S_q_are_blocks) l_q_are_blocks c_q_are_blocks k_q_are_blocks).binds (ps := ["thing"]) fun _ _ _ _ _ _ us hl => match us, hl with | [_], _ => rfl⟩
    q_check_drawing := ⟨_, _, fun_mk (st := S_q_check_drawing) l_q_check_drawing c_q_check_drawing k_q_check_drawing, PySem.W.mg_of X G a_q_check_drawing, (fun_mk (st := S_q_check_drawing) l_q_check_drawing c_q_check_drawing k_q_check_drawing).binds (ps := ["drawing"]) fun _ _ _ _ _ _ us hl => match us, hl with | [_], _ => rfl⟩
    q_sizes_among := ⟨_, _, fun_mk (st := S_q_sizes_among) l_q_sizes_among c_q_sizes_among k_q_sizes_among, PySem.W.mg_of X G a_q_sizes_among, (fun_mk (st := S_q_sizes_among) l_q_sizes_among c_q_sizes_among k_q_sizes_among).binds (ps := ["ends", "starts"]) fun _ _ _ _ _ _ us hl => match us, hl with | [_, _], _ => rfl⟩
    q_grid_of := ⟨_, _, fun_mk (st := S_q_grid_of) l_q_grid_of c_q_grid_of k_q_grid_of, PySem.W.mg_of X G a_q_grid_of, (fun_mk (st := S_q_grid_of) l_q_grid_of c_q_grid_of k_q_grid_of).binds (ps := ["drawing", "spots"]) fun _ _ _ _ _ _ us hl => match us, hl with | [_, _], _ => rfl⟩
    q_check_grid := ⟨_, _, fun_mk (st := S_q_check_grid) l_q_check_grid c_q_check_grid k_q_check_grid, PySem.W.mg_of X G a_q_check_grid, (fun_mk (st := S_q_check_grid) l_q_check_grid c_q_check_grid k_q_check_grid).binds (ps := ["drawing", "spots"]) fun _ _ _ _ _ _ us hl => match us, hl with | [_, _], _ => rfl⟩
    q_ranges_of := ⟨_, _, fun_mk (st := S_q_ranges_of) l_q_ranges_of c_q_ranges_of k_q_ranges_of, PySem.W.mg_of X G a_q_ranges_of, (fun_mk (st := S_q_ranges_of) l_q_ranges_of c_q_ranges_of k_q_ranges_of).binds (ps := ["numbers"]) fun _ _ _ _ _ _ us hl => match us, hl with | [_], _ => rfl⟩
    q_has_size := ⟨_, _, fun_mk (st := S_q_has_size) l_q_has_size c_q_has_size k_q_has_size, PySem.W.mg_of X G a_q_has_size, (fun_mk (st := S_q_has_size) l_q_has_size c_q_has_size k_q_has_size).binds (ps := ["span", "size"]) fun _ _ _ _ _ _ us hl => match us, hl with | [_, _], _ => rfl⟩
    q_fine_cells_of := ⟨_, _, fun_mk (st := S_q_fine_cells_of) l_q_fine_cells_of c_q_fine_cells_of k_q_fine_cells_of, PySem.W.mg_of X G a_q_fine_cells_of, (fun_mk (st := S_q_fine_cells_of) l_q_fine_cells_of c_q_fine_cells_of k_q_fine_cells_of).binds (ps := ["drawing", "spots"]) fun _ _ _ _ _ _ us hl => match us, hl with | [_, _], _ => rfl⟩
    q_is_name := ⟨_, _, fun_mk (st := S_q_is_name) l_q_is_name c_q_is_name k_q_is_name, PySem.W.mg_of X G a_q_is_name, (fun_mk (st := S_q_is_name) l_q_is_name c_q_is_name k_q_is_name).binds (ps := ["drawing", "spots", "kinds", "thing"]) fun _ _ _ _ _ _ us hl => match us, hl with | [_, _, _, _], _ => rfl⟩
    q_names_for := ⟨_, _, fun_mk (st := S_q_names_for) l_q_names_for c_q_names_for k_q_names_for, PySem.W.mg_of X G a_q_names_for, (fun_mk (st := S_q_names_for) l_q_names_for c_q_names_for k_q_names_for).binds (ps := ["drawing", "spots", "body", "axis"]) fun _ _ _ _ _ _ us hl => match us, hl with | [_, _, _, _], _ => rfl⟩
    q_first_name := ⟨_, _, fun_mk (st := S_q_first_name) l_q_first_name c_q_first_name k_q_first_name, PySem.W.mg_of X G a_q_first_name, (fun_mk (st := S_q_first_name) l_q_first_name c_q_first_name k_q_first_name).binds (ps := ["drawing", "spots", "body", "spot", "axis"]) fun _ _ _ _ _ _ us hl => match us, hl with | [_, _, _, _, _], _ => rfl⟩
    q_first_names := ⟨_, _, fun_mk (st := S_q_first_names) l_q_first_names c_q_first_names k_q_first_names, PySem.W.mg_of X G a_q_first_names, (fun_mk (st := S_q_first_names) l_q_first_names c_q_first_names k_q_first_names).binds (ps := ["drawing", "spots", "body", "spot"]) fun _ _ _ _ _ _ us hl => match us, hl with | [_, _, _, _], _ => rfl⟩
    q_number_of := ⟨_, _, fun_mk (st := S_q_number_of) l_q_number_of c_q_number_of k_q_number_of, PySem.W.mg_of X G a_q_number_of, (fun_mk (st := S_q_number_of) l_q_number_of c_q_number_of k_q_number_of).binds (ps := ["drawing", "spots", "body", "name", "axis"]) fun _ _ _ _ _ _ us hl => match us, hl with | [_, _, _, _, _], _ => rfl⟩
    q_check_names := ⟨_, _, fun_mk (st := S_q_check_names) l_q_check_names c_q_check_names k_q_check_names, PySem.W.mg_of X G a_q_check_names, (fun_mk (st := S_q_check_names) l_q_check_names c_q_check_names k_q_check_names).binds (ps := ["drawing", "spots", "names"]) fun _ _ _ _ _ _ us hl => match us, hl with | [_, _, _], _ => rfl⟩
    q_check_cells := ⟨_, _, fun_mk (st := S_q_check_cells) l_q_check_cells c_q_check_cells k_q_check_cells, PySem.W.mg_of X G a_q_check_cells, (fun_mk (st := S_q_check_cells) l_q_check_cells c_q_check_cells k_q_check_cells).binds (ps := ["drawing", "spots", "body"]) fun _ _ _ _ _ _ us hl => match us, hl with | [_, _, _], _ => rfl⟩
    q_fine_cells := ⟨_, _, fun_mk (st := S_q_fine_cells) l_q_fine_cells c_q_fine_cells k_q_fine_cells, PySem.W.mg_of X G a_q_fine_cells, (fun_mk (st := S_q_fine_cells) l_q_fine_cells c_q_fine_cells k_q_fine_cells).binds (ps := ["drawing", "spots"]) fun _ _ _ _ _ _ us hl => match us, hl with | [_, _], _ => rfl⟩
    q_fine_cell := ⟨_, _, fun_mk (st := S_q_fine_cell) l_q_fine_cell c_q_fine_cell k_q_fine_cell, PySem.W.mg_of X G a_q_fine_cell, (fun_mk (st := S_q_fine_cell) l_q_fine_cell c_q_fine_cell k_q_fine_cell).binds (ps := ["drawing", "spots", "body"]) fun _ _ _ _ _ _ us hl => match us, hl with | [_, _, _], _ => rfl⟩
    q_place := ⟨_, _, fun_mk (st := S_q_place) l_q_place c_q_place k_q_place, PySem.W.mg_of X G a_q_place, (fun_mk (st := S_q_place) l_q_place c_q_place k_q_place).binds (ps := ["drawing", "spots", "body", "names"]) fun _ _ _ _ _ _ us hl => match us, hl with | [_, _, _, _], _ => rfl⟩
    q_named := ⟨_, _, fun_mk (st := S_q_named) l_q_named c_q_named k_q_named, PySem.W.mg_of X G a_q_named, (fun_mk (st := S_q_named) l_q_named c_q_named k_q_named).binds (ps := ["drawing", "spots", "body", "spot"]) fun _ _ _ _ _ _ us hl => match us, hl with | [_, _, _, _], _ => rfl⟩
    l_begun := ⟨_, _, fun_mk (st := S_l_begun) l_l_begun c_l_begun k_l_begun, PySem.W.mg_of X G a_l_begun, (fun_mk (st := S_l_begun) l_l_begun c_l_begun k_l_begun).binds (ps := ["script"]) fun _ _ _ _ _ _ us hl => match us, hl with | [_], _ => rfl⟩
    l_mixed := ⟨_, _, fun_mk (st := S_l_mixed) l_l_mixed c_l_mixed k_l_mixed, PySem.W.mg_of X G a_l_mixed, (fun_mk (st := S_l_mixed) l_l_mixed c_l_mixed k_l_mixed).binds (ps := ["draw"]) fun _ _ _ _ _ _ us hl => match us, hl with | [_], _ => rfl⟩
    l_take := ⟨_, _, fun_mk (st := S_l_take) l_l_take c_l_take k_l_take, PySem.W.mg_of X G a_l_take, (fun_mk (st := S_l_take) l_l_take c_l_take k_l_take).binds (ps := ["draw", "many"]) fun _ _ _ _ _ _ us hl => match us, hl with | [_, _], _ => rfl⟩
    l_pick := ⟨_, _, fun_mk (st := S_l_pick) l_l_pick c_l_pick k_l_pick, PySem.W.mg_of X G a_l_pick, (fun_mk (st := S_l_pick) l_l_pick c_l_pick k_l_pick).binds (ps := ["draw", "some"]) fun _ _ _ _ _ _ us hl => match us, hl with | [_, _], _ => rfl⟩
    l_caught := ⟨_, _, fun_mk (st := S_l_caught) l_l_caught c_l_caught k_l_caught, PySem.W.mg_of X G a_l_caught, (fun_mk (st := S_l_caught) l_l_caught c_l_caught k_l_caught).binds (ps := ["task"]) fun _ _ _ _ _ _ us hl => match us, hl with | [_], _ => rfl⟩
    l_shuffled := ⟨_, _, fun_mk (st := S_l_shuffled) l_l_shuffled c_l_shuffled k_l_shuffled, PySem.W.mg_of X G a_l_shuffled, (fun_mk (st := S_l_shuffled) l_l_shuffled c_l_shuffled k_l_shuffled).binds (ps := ["draw", "some"]) fun _ _ _ _ _ _ us hl => match us, hl with | [_, _], _ => rfl⟩
    l_block := ⟨_, _, fun_mk (st := S_l_block) l_l_block c_l_block k_l_block, PySem.W.mg_of X G a_l_block, (fun_mk (st := S_l_block) l_l_block c_l_block k_l_block).binds (ps := ["draw", "wide"]) fun _ _ _ _ _ _ us hl => match us, hl with | [_, _], _ => rfl⟩
    l_pen := ⟨_, _, fun_mk (st := S_l_pen) l_l_pen c_l_pen k_l_pen, PySem.W.mg_of X G a_l_pen, (fun_mk (st := S_l_pen) l_l_pen c_l_pen k_l_pen).binds (ps := ["draw", "left", "low", "wide", "tall"]) fun _ _ _ _ _ _ us hl => match us, hl with | [_, _, _, _, _], _ => rfl⟩
    l_stretched := ⟨_, _, fun_mk (st := S_l_stretched) l_l_stretched c_l_stretched k_l_stretched, PySem.W.mg_of X G a_l_stretched, (fun_mk (st := S_l_stretched) l_l_stretched c_l_stretched k_l_stretched).binds (ps := ["blocks", "across", "up"]) fun _ _ _ _ _ _ us hl => match us, hl with | [_, _, _], _ => rfl⟩
    l_table := ⟨_, _, fun_mk (st := S_l_table) l_l_table c_l_table k_l_table, PySem.W.mg_of X G a_l_table, (fun_mk (st := S_l_table) l_l_table c_l_table k_l_table).binds (ps := ["draw", "some"]) fun _ _ _ _ _ _ us hl => match us, hl with | [_, _], _ => rfl⟩
    l_blocks := ⟨_, _, fun_mk (st := S_l_blocks) l_l_blocks c_l_blocks k_l_blocks, PySem.W.mg_of X G a_l_blocks, (fun_mk (st := S_l_blocks) l_l_blocks c_l_blocks k_l_blocks).binds (ps := ["draw", "most"]) fun _ _ _ _ _ _ us hl => match us, hl with | [_, _], _ => rfl⟩
    l_spot := ⟨_, _, fun_mk (st := S_l_spot) l_l_spot c_l_spot k_l_spot, PySem.W.mg_of X G a_l_spot, (fun_mk (st := S_l_spot) l_l_spot c_l_spot k_l_spot).binds (ps := ["draw", "blocks"]) fun _ _ _ _ _ _ us hl => match us, hl with | [_, _], _ => rfl⟩
    l_body := ⟨_, _, fun_mk (st := S_l_body) l_l_body c_l_body k_l_body, PySem.W.mg_of X G a_l_body, (fun_mk (st := S_l_body) l_l_body c_l_body k_l_body).binds (ps := ["draw", "blocks", "spots"]) fun _ _ _ _ _ _ us hl => match us, hl with | [_, _, _], _ => rfl⟩
    l_grid := ⟨_, _, fun_mk (st := S_l_grid) l_l_grid c_l_grid k_l_grid, PySem.W.mg_of X G a_l_grid, (fun_mk (st := S_l_grid) l_l_grid c_l_grid k_l_grid).binds (ps := ["blocks", "spots", "flat"]) fun _ _ _ _ _ _ us hl => match us, hl with | [_, _, _], _ => rfl⟩
    l_ranges := ⟨_, _, fun_mk (st := S_l_ranges) l_l_ranges c_l_ranges k_l_ranges, PySem.W.mg_of X G a_l_ranges, (fun_mk (st := S_l_ranges) l_l_ranges c_l_ranges k_l_ranges).binds (ps := ["numbers"]) fun _ _ _ _ _ _ us hl => match us, hl with | [_], _ => rfl⟩
    l_all_cells := ⟨_, _, fun_mk (st := S_l_all_cells) l_l_all_cells c_l_all_cells k_l_all_cells, PySem.W.mg_of X G a_l_all_cells, (fun_mk (st := S_l_all_cells) l_l_all_cells c_l_all_cells k_l_all_cells).binds (ps := ["blocks", "spots"]) fun _ _ _ _ _ _ us hl => match us, hl with | [_, _], _ => rfl⟩
    l_in_range := ⟨_, _, fun_mk (st := S_l_in_range) l_l_in_range c_l_in_range k_l_in_range, PySem.W.mg_of X G a_l_in_range, (fun_mk (st := S_l_in_range) l_l_in_range c_l_in_range k_l_in_range).binds (ps := ["one", "size"]) fun _ _ _ _ _ _ us hl => match us, hl with | [_, _], _ => rfl⟩
    l_cell := ⟨_, _, fun_mk (st := S_l_cell) l_l_cell c_l_cell k_l_cell, PySem.W.mg_of X G a_l_cell, (fun_mk (st := S_l_cell) l_l_cell c_l_cell k_l_cell).binds (ps := ["blocks", "spots", "body"]) fun _ _ _ _ _ _ us hl => match us, hl with | [_, _, _], _ => rfl⟩
    l_names := ⟨_, _, fun_mk (st := S_l_names) l_l_names c_l_names k_l_names, PySem.W.mg_of X G a_l_names, (fun_mk (st := S_l_names) l_l_names c_l_names k_l_names).binds (ps := ["blocks", "spots", "body", "spot"]) fun _ _ _ _ _ _ us hl => match us, hl with | [_, _, _, _], _ => rfl⟩
    l_place := ⟨_, _, fun_mk (st := S_l_place) l_l_place c_l_place k_l_place, PySem.W.mg_of X G a_l_place, (fun_mk (st := S_l_place) l_l_place c_l_place k_l_place).binds (ps := ["blocks", "spots", "body", "names"]) fun _ _ _ _ _ _ us hl => match us, hl with | [_, _, _, _], _ => rfl⟩
    l_refused := ⟨_, _, fun_mk (st := S_l_refused) l_l_refused c_l_refused k_l_refused, PySem.W.mg_of X G a_l_refused, (fun_mk (st := S_l_refused) l_l_refused c_l_refused k_l_refused).binds (ps := ["drawing", "spots", "body", "many"]) fun _ _ _ _ _ _ us hl => match us, hl with | [_, _, _, _], _ => rfl⟩
    l_all_names := ⟨_, _, fun_mk (st := S_l_all_names) l_l_all_names c_l_all_names k_l_all_names, PySem.W.mg_of X G a_l_all_names, (fun_mk (st := S_l_all_names) l_l_all_names c_l_all_names k_l_all_names).binds (ps := ["spots", "many", "flat"]) fun _ _ _ _ _ _ us hl => match us, hl with | [_, _, _], _ => rfl⟩
    q_law := ⟨_, _, fun_mk (st := S_q_law) l_q_law c_q_law k_q_law, PySem.W.mg_of X G a_q_law, (fun_mk (st := S_q_law) l_q_law c_q_law k_q_law).binds (ps := ["script"]) fun _ _ _ _ _ _ us hl => match us, hl with | [_], _ => rfl⟩ }
  have m1 : (cc1, P1) ∈ [(cc1, P1)] := List.mem_cons_self
  refine ⟨T.q_law.d, [(cc1, P1)], spLaw K [(P1, refQ)], fun p hp => ?_, fun p hp => ?_, fun p hp => ?_, fun s u => .of_eq rfl, fun H a ns hl _ hT hS => ⟨a, ns, rfl, hS, hl, fun q hq => ?_, fun _ => rfl⟩, fun base _ _ TB => ok_law T ⟨cc1, P1, rfl, TB _ m1, List.mem_cons_self, fun p hp e => ?_⟩⟩
  · rw [List.mem_singleton.mp hp]
    exact tab1
  · rw [List.mem_singleton.mp hp]
    exact nP1
  · rw [List.mem_singleton.mp hp]
    exact PySem.W.codeHd_of_K X ch1
  · rw [List.mem_singleton.mp hq]
    exact LamX.TabS.nil (hT _ m1)
  · rw [List.mem_singleton.mp hp]
end G21
set_option Elab.async false
set_option linter.all false
set_option maxRecDepth 100000
set_option maxHeartbeats 4000000
open PySem PySem.W PyProof.Rows in
set_option maxRecDepth 100000 in
set_option maxHeartbeats 0 in
theorem PySem.Challenge.cw_gapstairs_k60_fine_cells_and_names_holds : PySem.Challenge.rw_gapstairs_k60_fine_cells_and_names.Holds := by
  w_on; o_law; k_head; (case hw => w_witness2)
  k_fill
  refine LamX.walk_ofTs (l := PySem.Challenge.rw_gapstairs_k60_fine_cells_and_names) (n := 63) (k := 12) (x := "script") (CX := fun _ => L2.CX0) rfl (by decide) rfl ⟨rfl, by decide, by decide⟩ (fun w h Y => PySem.W.km_in_of Y) ?F (fun _ _ _ _ _ z => z)
  case F =>
    intro w mg fa h Y KX G hmg
    refine' G21.law_at (P1 := 457) KX G hmg ?z_abs ?z_all ?z_bool ?z_enumerate ?z_int ?z_isinstance ?z_len ?z_list ?z_min ?z_range ?z_set ?z_sorted ?z_tuple ?most ?iN ?iT ?xa_GapError ?xq_GapError ?xk_GapError ?xb_GapError ?xt_GapError ?xg_GapError ?xh_GapError ?xd_GapError ?xc_GapError ?xm_GapError ?xa_BadBlocks ?xq_BadBlocks ?xk_BadBlocks ?xb_BadBlocks ?xt_BadBlocks ?xg_BadBlocks ?xh_BadBlocks ?xd_BadBlocks ?xc_BadBlocks ?xm_BadBlocks ?xa_BadBody ?xq_BadBody ?xk_BadBody ?xb_BadBody ?xt_BadBody ?xg_BadBody ?xh_BadBody ?xd_BadBody ?xc_BadBody ?xm_BadBody ?xa_BadDrawing ?xq_BadDrawing ?xk_BadDrawing ?xb_BadDrawing ?xt_BadDrawing ?xg_BadDrawing ?xh_BadDrawing ?xd_BadDrawing ?xc_BadDrawing ?xm_BadDrawing ?xa_BadNames ?xq_BadNames ?xk_BadNames ?xb_BadNames ?xt_BadNames ?xg_BadNames ?xh_BadNames ?xd_BadNames ?xc_BadNames ?xm_BadNames ?xa_BadSpot ?xq_BadSpot ?xk_BadSpot ?xb_BadSpot ?xt_BadSpot ?xg_BadSpot ?xh_BadSpot ?xd_BadSpot ?xc_BadSpot ?xm_BadSpot ?xa_BadSpots ?xq_BadSpots ?xk_BadSpots ?xb_BadSpots ?xt_BadSpots ?xg_BadSpots ?xh_BadSpots ?xd_BadSpots ?xc_BadSpots ?xm_BadSpots ?u_BadBlocks ?u_BadBody ?u_BadDrawing ?u_BadNames ?u_BadSpot ?u_BadSpots ?xn_X_NAMES ?xo_X_NAMES ?xn_Y_NAMES ?xo_Y_NAMES ?n_BadBlocks ?n_BadBody ?n_BadDrawing ?n_BadNames ?n_BadSpot ?n_BadSpots ?aC ?pg ?hd ?po ?sa ?nB ?in_ ?l_I ?c_I ?k_I ?ii ?mk ?kc ?iA ?iM ?kD ?kL ?kNoneType ?ktuple ?kstr ?kint ?kbool ?e_BadBlocks ?e_BadBody ?e_BadDrawing ?e_BadNames ?e_BadSpot ?e_BadSpots ?a_q_is_number ?l_q_is_number ?c_q_is_number ?k_q_is_number ?a_q_is_list ?l_q_is_list ?c_q_is_list ?k_q_is_list ?a_q_is_number_pair ?l_q_is_number_pair ?c_q_is_number_pair ?k_q_is_number_pair ?a_q_is_spot_list ?l_q_is_spot_list ?c_q_is_spot_list ?k_q_is_spot_list ?a_q_is_index ?l_q_is_index ?c_q_is_index ?k_q_is_index ?a_q_check_spot ?l_q_check_spot ?c_q_check_spot ?k_q_check_spot ?a_q_check_spots ?l_q_check_spots ?c_q_check_spots ?k_q_check_spots ?a_q_is_size ?l_q_is_size ?c_q_is_size ?k_q_is_size ?a_q_is_body ?l_q_is_body ?c_q_is_body ?k_q_is_body ?a_q_check_body ?l_q_check_body ?c_q_check_body ?k_q_check_body ?a_q_is_block ?l_q_is_block ?c_q_is_block ?k_q_is_block ?a_q_are_blocks ?l_q_are_blocks ?c_q_are_blocks ?k_q_are_blocks ?a_q_check_drawing ?l_q_check_drawing ?c_q_check_drawing ?k_q_check_drawing ?a_q_sizes_among ?l_q_sizes_among ?c_q_sizes_among ?k_q_sizes_among ?a_q_grid_of ?l_q_grid_of ?c_q_grid_of ?k_q_grid_of ?a_q_check_grid ?l_q_check_grid ?c_q_check_grid ?k_q_check_grid ?a_q_ranges_of ?l_q_ranges_of ?c_q_ranges_of ?k_q_ranges_of ?a_q_has_size ?l_q_has_size ?c_q_has_size ?k_q_has_size ?a_q_fine_cells_of ?l_q_fine_cells_of ?c_q_fine_cells_of ?k_q_fine_cells_of ?a_q_is_name ?l_q_is_name ?c_q_is_name ?k_q_is_name ?a_q_names_for ?l_q_names_for ?c_q_names_for ?k_q_names_for ?a_q_first_name ?l_q_first_name ?c_q_first_name ?k_q_first_name ?a_q_first_names ?l_q_first_names ?c_q_first_names ?k_q_first_names ?a_q_number_of ?l_q_number_of ?c_q_number_of ?k_q_number_of ?a_q_check_names ?l_q_check_names ?c_q_check_names ?k_q_check_names ?a_q_check_cells ?l_q_check_cells ?c_q_check_cells ?k_q_check_cells ?a_q_fine_cells ?l_q_fine_cells ?c_q_fine_cells ?k_q_fine_cells ?a_q_fine_cell ?l_q_fine_cell ?c_q_fine_cell ?k_q_fine_cell ?a_q_place ?l_q_place ?c_q_place ?k_q_place ?a_q_named ?l_q_named ?c_q_named ?k_q_named ?a_l_begun ?l_l_begun ?c_l_begun ?k_l_begun ?a_l_mixed ?l_l_mixed ?c_l_mixed ?k_l_mixed ?a_l_take ?l_l_take ?c_l_take ?k_l_take ?a_l_pick ?l_l_pick ?c_l_pick ?k_l_pick ?a_l_caught ?l_l_caught ?c_l_caught ?k_l_caught ?a_l_shuffled ?l_l_shuffled ?c_l_shuffled ?k_l_shuffled ?a_l_block ?l_l_block ?c_l_block ?k_l_block ?a_l_pen ?l_l_pen ?c_l_pen ?k_l_pen ?a_l_stretched ?l_l_stretched ?c_l_stretched ?k_l_stretched ?a_l_table ?l_l_table ?c_l_table ?k_l_table ?a_l_blocks ?l_l_blocks ?c_l_blocks ?k_l_blocks ?a_l_spot ?l_l_spot ?c_l_spot ?k_l_spot ?a_l_body ?l_l_body ?c_l_body ?k_l_body ?a_l_grid ?l_l_grid ?c_l_grid ?k_l_grid ?a_l_ranges ?l_l_ranges ?c_l_ranges ?k_l_ranges ?a_l_all_cells ?l_l_all_cells ?c_l_all_cells ?k_l_all_cells ?a_l_in_range ?l_l_in_range ?c_l_in_range ?k_l_in_range ?a_l_cell ?l_l_cell ?c_l_cell ?k_l_cell ?a_l_names ?l_l_names ?c_l_names ?k_l_names ?a_l_place ?l_l_place ?c_l_place ?k_l_place ?a_l_refused ?l_l_refused ?c_l_refused ?k_l_refused ?a_l_all_names ?l_l_all_names ?c_l_all_names ?k_l_all_names ?a_q_law ?l_q_law ?c_q_law ?k_q_law ?ch1 ?nP1 ?tab1
    (case z_abs => k_is)
    (case z_all => k_is)
    (case z_bool => k_is)
    (case z_enumerate => k_is)
    (case z_int => k_is)
    (case z_isinstance => k_is)
    (case z_len => k_is)
    (case z_list => k_is)
    (case z_min => k_is)
    (case z_range => k_is)
    (case z_set => k_is)
    (case z_sorted => k_is)
    (case z_tuple => k_is)
    (case most => k_is)
    (case iN => k_is)
    (case iT => k_is)
    (case xa_GapError => k_is)
    (case xq_GapError => kernel_rfl)
    (case xk_GapError => k_is)
    (case xb_GapError => k_is)
    (case xt_GapError => k_is)
    (case xg_GapError => k_is)
    (case xh_GapError => k_is)
    (case xd_GapError => k_is)
    (case xc_GapError => k_is)
    (case xm_GapError => k_is)
    (case xa_BadBlocks => k_is)
    (case xq_BadBlocks => kernel_rfl)
    (case xk_BadBlocks => k_is)
    (case xb_BadBlocks => k_is)
    (case xt_BadBlocks => k_is)
    (case xg_BadBlocks => k_is)
    (case xh_BadBlocks => k_is)
    (case xd_BadBlocks => k_is)
    (case xc_BadBlocks => k_is)
    (case xm_BadBlocks => k_is)
    (case xa_BadBody => k_is)
    (case xq_BadBody => kernel_rfl)
    (case xk_BadBody => k_is)
    (case xb_BadBody => k_is)
    (case xt_BadBody => k_is)
    (case xg_BadBody => k_is)
    (case xh_BadBody => k_is)
    (case xd_BadBody => k_is)
    (case xc_BadBody => k_is)
    (case xm_BadBody => k_is)
    (case xa_BadDrawing => k_is)
    (case xq_BadDrawing => kernel_rfl)
    (case xk_BadDrawing => k_is)
    (case xb_BadDrawing => k_is)
    (case xt_BadDrawing => k_is)
    (case xg_BadDrawing => k_is)
    (case xh_BadDrawing => k_is)
    (case xd_BadDrawing => k_is)
    (case xc_BadDrawing => k_is)
    (case xm_BadDrawing => k_is)
    (case xa_BadNames => k_is)
    (case xq_BadNames => kernel_rfl)
    (case xk_BadNames => k_is)
    (case xb_BadNames => k_is)
    (case xt_BadNames => k_is)
    (case xg_BadNames => k_is)
    (case xh_BadNames => k_is)
    (case xd_BadNames => k_is)
    (case xc_BadNames => k_is)
    (case xm_BadNames => k_is)
    (case xa_BadSpot => k_is)
    (case xq_BadSpot => kernel_rfl)
    (case xk_BadSpot => k_is)
    (case xb_BadSpot => k_is)
    (case xt_BadSpot => k_is)
    (case xg_BadSpot => k_is)
    (case xh_BadSpot => k_is)
    (case xd_BadSpot => k_is)
    (case xc_BadSpot => k_is)
    (case xm_BadSpot => k_is)
    (case xa_BadSpots => k_is)
    (case xq_BadSpots => kernel_rfl)
    (case xk_BadSpots => k_is)
    (case xb_BadSpots => k_is)
    (case xt_BadSpots => k_is)
    (case xg_BadSpots => k_is)
    (case xh_BadSpots => k_is)
    (case xd_BadSpots => k_is)
    (case xc_BadSpots => k_is)
    (case xm_BadSpots => k_is)
    (case u_BadBlocks => kernel_rfl)
    (case u_BadBody => kernel_rfl)
    (case u_BadDrawing => kernel_rfl)
    (case u_BadNames => kernel_rfl)
    (case u_BadSpot => kernel_rfl)
    (case u_BadSpots => kernel_rfl)
    (case xn_X_NAMES => k_is)
    (case xo_X_NAMES => kernel_rfl)
    (case xn_Y_NAMES => k_is)
    (case xo_Y_NAMES => kernel_rfl)
    (case n_BadBlocks => kernel_rfl)
    (case n_BadBody => kernel_rfl)
    (case n_BadDrawing => kernel_rfl)
    (case n_BadNames => kernel_rfl)
    (case n_BadSpot => kernel_rfl)
    (case n_BadSpots => kernel_rfl)
    (case aC => k_is)
    (case pg => k_is)
    (case hd => k_is)
    (case po => k_is)
    (case sa => k_is)
    (case nB => k_is)
    (case in_ => k_is)
    (case l_I => k_is)
    (case c_I => k_is)
    (case k_I => k_is)
    (case ii => k_is)
    (case mk => k_is)
    (case kc => k_is)
    (case iA => k_is)
    (case iM => k_is)
    (case kD => kernel_rfl)
    (case kL => kernel_rfl)
    (case kNoneType => kernel_rfl)
    (case ktuple => kernel_rfl)
    (case kstr => kernel_rfl)
    (case kint => kernel_rfl)
    (case kbool => kernel_rfl)
    (case e_BadBlocks => kernel_rfl)
    (case e_BadBody => kernel_rfl)
    (case e_BadDrawing => kernel_rfl)
    (case e_BadNames => kernel_rfl)
    (case e_BadSpot => kernel_rfl)
    (case e_BadSpots => kernel_rfl)
    (case a_q_is_number => k_is)
    (case l_q_is_number => k_is)
    (case c_q_is_number => k_is)
    (case k_q_is_number => k_is)
    (case a_q_is_list => k_is)
    (case l_q_is_list => k_is)
    (case c_q_is_list => k_is)
    (case k_q_is_list => k_is)
    (case a_q_is_number_pair => k_is)
    (case l_q_is_number_pair => k_is)
    (case c_q_is_number_pair => k_is)
    (case k_q_is_number_pair => k_is)
    (case a_q_is_spot_list => k_is)
    (case l_q_is_spot_list => k_is)
    (case c_q_is_spot_list => k_is)
    (case k_q_is_spot_list => k_is)
    (case a_q_is_index => k_is)
    (case l_q_is_index => k_is)
    (case c_q_is_index => k_is)
    (case k_q_is_index => k_is)
    (case a_q_check_spot => k_is)
    (case l_q_check_spot => k_is)
    (case c_q_check_spot => k_is)
    (case k_q_check_spot => k_is)
    (case a_q_check_spots => k_is)
    (case l_q_check_spots => k_is)
    (case c_q_check_spots => k_is)
    (case k_q_check_spots => k_is)
    (case a_q_is_size => k_is)
    (case l_q_is_size => k_is)
    (case c_q_is_size => k_is)
    (case k_q_is_size => k_is)
    (case a_q_is_body => k_is)
    (case l_q_is_body => k_is)
    (case c_q_is_body => k_is)
    (case k_q_is_body => k_is)
    (case a_q_check_body => k_is)
    (case l_q_check_body => k_is)
    (case c_q_check_body => k_is)
    (case k_q_check_body => k_is)
    (case a_q_is_block => k_is)
    (case l_q_is_block => k_is)
    (case c_q_is_block => k_is)
    (case k_q_is_block => k_is)
    (case a_q_are_blocks => k_is)
    (case l_q_are_blocks => k_is)
    (case c_q_are_blocks => k_is)
    (case k_q_are_blocks => k_is)
    (case a_q_check_drawing => k_is)
    (case l_q_check_drawing => k_is)
    (case c_q_check_drawing => k_is)
    (case k_q_check_drawing => k_is)
    (case a_q_sizes_among => k_is)
    (case l_q_sizes_among => k_is)
    (case c_q_sizes_among => k_is)
    (case k_q_sizes_among => k_is)
    (case a_q_grid_of => k_is)
    (case l_q_grid_of => k_is)
    (case c_q_grid_of => k_is)
    (case k_q_grid_of => k_is)
    (case a_q_check_grid => k_is)
    (case l_q_check_grid => k_is)
    (case c_q_check_grid => k_is)
    (case k_q_check_grid => k_is)
    (case a_q_ranges_of => k_is)
    (case l_q_ranges_of => k_is)
    (case c_q_ranges_of => k_is)
    (case k_q_ranges_of => k_is)
    (case a_q_has_size => k_is)
    (case l_q_has_size => k_is)
    (case c_q_has_size => k_is)
    (case k_q_has_size => k_is)
    (case a_q_fine_cells_of => k_is)
    (case l_q_fine_cells_of => k_is)
    (case c_q_fine_cells_of => k_is)
    (case k_q_fine_cells_of => k_is)
    (case a_q_is_name => k_is)
    (case l_q_is_name => k_is)
    (case c_q_is_name => k_is)
    (case k_q_is_name => k_is)
    (case a_q_names_for => k_is)
    (case l_q_names_for => k_is)
    (case c_q_names_for => k_is)
    (case k_q_names_for => k_is)
    (case a_q_first_name => k_is)
    (case l_q_first_name => k_is)
    (case c_q_first_name => k_is)
    (case k_q_first_name => k_is)
    (case a_q_first_names => k_is)
    (case l_q_first_names => k_is)
    (case c_q_first_names => k_is)
    (case k_q_first_names => k_is)
    (case a_q_number_of => k_is)
    (case l_q_number_of => k_is)
    (case c_q_number_of => k_is)
    (case k_q_number_of => k_is)
    (case a_q_check_names => k_is)
    (case l_q_check_names => k_is)
    (case c_q_check_names => k_is)
    (case k_q_check_names => k_is)
    (case a_q_check_cells => k_is)
    (case l_q_check_cells => k_is)
    (case c_q_check_cells => k_is)
    (case k_q_check_cells => k_is)
    (case a_q_fine_cells => k_is)
    (case l_q_fine_cells => k_is)
    (case c_q_fine_cells => k_is)
    (case k_q_fine_cells => k_is)
    (case a_q_fine_cell => k_is)
    (case l_q_fine_cell => k_is)
    (case c_q_fine_cell => k_is)
    (case k_q_fine_cell => k_is)
    (case a_q_place => k_is)
    (case l_q_place => k_is)
    (case c_q_place => k_is)
    (case k_q_place => k_is)
    (case a_q_named => k_is)
    (case l_q_named => k_is)
    (case c_q_named => k_is)
    (case k_q_named => k_is)
    (case a_l_begun => k_is)
    (case l_l_begun => k_is)
    (case c_l_begun => k_is)
    (case k_l_begun => k_is)
    (case a_l_mixed => k_is)
    (case l_l_mixed => k_is)
    (case c_l_mixed => k_is)
    (case k_l_mixed => k_is)
    (case a_l_take => k_is)
    (case l_l_take => k_is)
    (case c_l_take => k_is)
    (case k_l_take => k_is)
    (case a_l_pick => k_is)
    (case l_l_pick => k_is)
    (case c_l_pick => k_is)
    (case k_l_pick => k_is)
    (case a_l_caught => k_is)
    (case l_l_caught => k_is)
    (case c_l_caught => k_is)
    (case k_l_caught => k_is)
    (case a_l_shuffled => k_is)
    (case l_l_shuffled => k_is)
    (case c_l_shuffled => k_is)
    (case k_l_shuffled => k_is)
    (case a_l_block => k_is)
    (case l_l_block => k_is)
    (case c_l_block => k_is)
    (case k_l_block => k_is)
    (case a_l_pen => k_is)
    (case l_l_pen => k_is)
    (case c_l_pen => k_is)
    (case k_l_pen => k_is)
    (case a_l_stretched => k_is)
    (case l_l_stretched => k_is)
    (case c_l_stretched => k_is)
    (case k_l_stretched => k_is)
    (case a_l_table => k_is)
    (case l_l_table => k_is)
    (case c_l_table => k_is)
    (case k_l_table => k_is)
    (case a_l_blocks => k_is)
    (case l_l_blocks => k_is)
    (case c_l_blocks => k_is)
    (case k_l_blocks => k_is)
    (case a_l_spot => k_is)
    (case l_l_spot => k_is)
    (case c_l_spot => k_is)
    (case k_l_spot => k_is)
    (case a_l_body => k_is)
    (case l_l_body => k_is)
    (case c_l_body => k_is)
    (case k_l_body => k_is)
    (case a_l_grid => k_is)
    (case l_l_grid => k_is)
    (case c_l_grid => k_is)
    (case k_l_grid => k_is)
    (case a_l_ranges => k_is)
    (case l_l_ranges => k_is)
    (case c_l_ranges => k_is)
    (case k_l_ranges => k_is)
    (case a_l_all_cells => k_is)
    (case l_l_all_cells => k_is)
    (case c_l_all_cells => k_is)
    (case k_l_all_cells => k_is)
    (case a_l_in_range => k_is)
    (case l_l_in_range => k_is)
    (case c_l_in_range => k_is)
    (case k_l_in_range => k_is)
    (case a_l_cell => k_is)
    (case l_l_cell => k_is)
    (case c_l_cell => k_is)
    (case k_l_cell => k_is)
    (case a_l_names => k_is)
    (case l_l_names => k_is)
    (case c_l_names => k_is)
    (case k_l_names => k_is)
    (case a_l_place => k_is)
    (case l_l_place => k_is)
    (case c_l_place => k_is)
    (case k_l_place => k_is)
    (case a_l_refused => k_is)
    (case l_l_refused => k_is)
    (case c_l_refused => k_is)
    (case k_l_refused => k_is)
    (case a_l_all_names => k_is)
    (case l_l_all_names => k_is)
    (case c_l_all_names => k_is)
    (case k_l_all_names => k_is)
    (case a_q_law => k_is)
    (case l_q_law => k_is)
    (case c_q_law => k_is)
    (case k_q_law => k_is)
    (case ch1 => kernel_rfl)
    (case nP1 => kernel_rfl)
    (case tab1 => exact PySem.W.km_tabs_of Y _ (by decide))
