import PyProof.Rows.All
import Wide.All
import OpenK.AllK
import Wide.FinOn
import PyProof.EqAt
import PyProof.EqKinds
import PyProof.TupleCall
import HandS.ForMost
import HandS.ForExc
import HandS.IsInst
import HandS.Lambda
import HandS.EndTab
import HandS.Wide
import HandS.TupSets
import HandS.SortInts
import HandS.ExcIs
import HandS.ExcValue
import HandS.Zip
import HandS.Style
import HandS.Conv
import HandS.Evl
import PySem.Challenge.RW_gapstairs_k89_bodies_that_part_forms_and
import HandS.SortOrd
import HandS.NamedTupSort
import HandS.Deep
import HandS.Set
import HandS.SetFor
import HandS.Strs
import HandS.Codes
import HandS.Words
import PyProof.Draws
import PyProof.EnumMake
import HandS.Rev
import PyProof.ListNew
import KE.KSortKey
import HandS.SortKw
import HandS.TupAny
import KE.DataMinMax
set_option Elab.async false
set_option linter.all false
set_option maxRecDepth 100000
set_option maxHeartbeats 4000000
namespace G21
open PySem PySem.Spec PyProof.Rows L2
/-! ### the text -/
def topS (i : Nat) : Stmt := PySem.Challenge.pw_gapstairs_k89_bodies_that_part_forms_and.main.body.getD i (.Pass ⟨0, 0, 0, 0⟩)
abbrev S_q_is_number : Stmt := topS 11
abbrev N_q_is_number : List Str := ["thing"]
theorem c_q_is_number : FnScope N_q_is_number ["thing"] (defScope S_q_is_number) := ⟨rfl, rfl, rfl, by decide +kernel, rfl, by decide +kernel, by decide +kernel⟩
abbrev S_q_is_number_pair : Stmt := topS 12
abbrev N_q_is_number_pair : List Str := ["thing"]
theorem c_q_is_number_pair : FnScope N_q_is_number_pair ["thing"] (defScope S_q_is_number_pair) := ⟨rfl, rfl, rfl, by decide +kernel, rfl, by decide +kernel, by decide +kernel⟩
abbrev S_q_check_by : Stmt := topS 13
abbrev N_q_check_by : List Str := ["by"]
theorem c_q_check_by : FnScope N_q_check_by ["by"] (defScope S_q_check_by) := ⟨rfl, rfl, rfl, by decide +kernel, rfl, by decide +kernel, by decide +kernel⟩
abbrev S_q_is_size : Stmt := topS 15
abbrev N_q_is_size : List Str := ["thing"]
theorem c_q_is_size : FnScope N_q_is_size ["thing"] (defScope S_q_is_size) := ⟨rfl, rfl, rfl, by decide +kernel, rfl, by decide +kernel, by decide +kernel⟩
abbrev S_q_is_body : Stmt := topS 16
abbrev N_q_is_body : List Str := ["thing"]
theorem c_q_is_body : FnScope N_q_is_body ["thing"] (defScope S_q_is_body) := ⟨rfl, rfl, rfl, by decide +kernel, rfl, by decide +kernel, by decide +kernel⟩
abbrev S_q_is_corner : Stmt := topS 17
abbrev N_q_is_corner : List Str := ["thing", "item"]
theorem c_q_is_corner : FnScope N_q_is_corner ["thing"] (defScope S_q_is_corner) := ⟨rfl, rfl, rfl, by decide +kernel, rfl, by decide +kernel, by decide +kernel⟩
abbrev S_q_check_body : Stmt := topS 18
abbrev N_q_check_body : List Str := ["body"]
theorem c_q_check_body : FnScope N_q_check_body ["body"] (defScope S_q_check_body) := ⟨rfl, rfl, rfl, by decide +kernel, rfl, by decide +kernel, by decide +kernel⟩
abbrev S_q_is_above : Stmt := topS 19
abbrev N_q_is_above : List Str := ["one", "other"]
theorem c_q_is_above : FnScope N_q_is_above ["one", "other"] (defScope S_q_is_above) := ⟨rfl, rfl, rfl, by decide +kernel, rfl, by decide +kernel, by decide +kernel⟩
abbrev S_q_lesser : Stmt := topS 20
abbrev N_q_lesser : List Str := ["one", "other"]
theorem c_q_lesser : FnScope N_q_lesser ["one", "other"] (defScope S_q_lesser) := ⟨rfl, rfl, rfl, by decide +kernel, rfl, by decide +kernel, by decide +kernel⟩
abbrev S_q_encloses : Stmt := topS 21
abbrev N_q_encloses : List Str := ["corner", "inner"]
theorem c_q_encloses : FnScope N_q_encloses ["corner", "inner"] (defScope S_q_encloses) := ⟨rfl, rfl, rfl, by decide +kernel, rfl, by decide +kernel, by decide +kernel⟩
abbrev S_q_is_stairs : Stmt := topS 23
abbrev N_q_is_stairs : List Str := ["thing", "corner", "k"]
theorem c_q_is_stairs : FnScope N_q_is_stairs ["thing"] (defScope S_q_is_stairs) := ⟨rfl, rfl, rfl, by decide +kernel, rfl, by decide +kernel, by decide +kernel⟩
abbrev S_q_is_step : Stmt := topS 24
abbrev N_q_is_step : List Str := ["corner", "further"]
theorem c_q_is_step : FnScope N_q_is_step ["corner", "further"] (defScope S_q_is_step) := ⟨rfl, rfl, rfl, by decide +kernel, rfl, by decide +kernel, by decide +kernel⟩
abbrev S_q_check_stairs : Stmt := topS 25
abbrev N_q_check_stairs : List Str := ["stairs"]
theorem c_q_check_stairs : FnScope N_q_check_stairs ["stairs"] (defScope S_q_check_stairs) := ⟨rfl, rfl, rfl, by decide +kernel, rfl, by decide +kernel, by decide +kernel⟩
abbrev S_q_corner_order : Stmt := topS 26
abbrev N_q_corner_order : List Str := ["corner"]
theorem c_q_corner_order : FnScope N_q_corner_order ["corner"] (defScope S_q_corner_order) := ⟨rfl, rfl, rfl, by decide +kernel, rfl, by decide +kernel, by decide +kernel⟩
abbrev S_q_stairs_of : Stmt := topS 27
abbrev N_q_stairs_of : List Str := ["corners", "found", "best", "corner"]
theorem c_q_stairs_of : FnScope N_q_stairs_of ["corners"] (defScope S_q_stairs_of) := ⟨rfl, rfl, rfl, by decide +kernel, rfl, by decide +kernel, by decide +kernel⟩
abbrev S_q_has : Stmt := topS 28
abbrev N_q_has : List Str := ["stairs", "corner", "own"]
theorem c_q_has : FnScope N_q_has ["stairs", "corner"] (defScope S_q_has) := ⟨rfl, rfl, rfl, by decide +kernel, rfl, by decide +kernel, by decide +kernel⟩
abbrev S_q_both : Stmt := topS 29
abbrev N_q_both : List Str := ["one", "other", "corners", "i", "j", "goes", "other_goes"]
theorem c_q_both : FnScope N_q_both ["one", "other"] (defScope S_q_both) := ⟨rfl, rfl, rfl, by decide +kernel, rfl, by decide +kernel, by decide +kernel⟩
abbrev S_q_notches_of : Stmt := topS 30
abbrev N_q_notches_of : List Str := ["stairs", "widths", "heights", "corner", "width", "height"]
theorem c_q_notches_of : FnScope N_q_notches_of ["stairs"] (defScope S_q_notches_of) := ⟨rfl, rfl, rfl, by decide +kernel, rfl, by decide +kernel, by decide +kernel⟩
abbrev S_q_moved_item : Stmt := topS 31
abbrev N_q_moved_item : List Str := ["item", "by"]
theorem c_q_moved_item : FnScope N_q_moved_item ["item", "by"] (defScope S_q_moved_item) := ⟨rfl, rfl, rfl, by decide +kernel, rfl, by decide +kernel, by decide +kernel⟩
abbrev S_q_moved : Stmt := topS 32
abbrev N_q_moved : List Str := ["stairs", "least", "by", "corners", "wide", "high", "corner"]
theorem c_q_moved : FnScope N_q_moved ["stairs", "least", "by"] (defScope S_q_moved) := ⟨rfl, rfl, rfl, by decide +kernel, rfl, by decide +kernel, by decide +kernel⟩
abbrev S_q_is_any_place : Stmt := topS 34
abbrev N_q_is_any_place : List Str := ["thing"]
theorem c_q_is_any_place : FnScope N_q_is_any_place ["thing"] (defScope S_q_is_any_place) := ⟨rfl, rfl, rfl, by decide +kernel, rfl, by decide +kernel, by decide +kernel⟩
abbrev S_q_greatest : Stmt := topS 35
abbrev N_q_greatest : List Str := ["stairs", "index"]
theorem c_q_greatest : FnScope N_q_greatest ["stairs", "index"] (defScope S_q_greatest) := ⟨rfl, rfl, rfl, by decide +kernel, rfl, by decide +kernel, by decide +kernel⟩
abbrev S_q_grown : Stmt := topS 36
abbrev N_q_grown : List Str := ["least", "by", "size"]
theorem c_q_grown : FnScope N_q_grown ["least", "by", "size"] (defScope S_q_grown) := ⟨rfl, rfl, rfl, by decide +kernel, rfl, by decide +kernel, by decide +kernel⟩
abbrev S_q_plain_by : Stmt := topS 37
abbrev N_q_plain_by : List Str := ["stairs", "least", "by", "index", "most"]
theorem c_q_plain_by : FnScope N_q_plain_by ["stairs", "least", "by", "index"] (defScope S_q_plain_by) := ⟨rfl, rfl, rfl, by decide +kernel, rfl, by decide +kernel, by decide +kernel⟩
abbrev S_q_Form_init : Stmt := inClass (topS 38) 0
abbrev N_q_Form_init : List Str := ["self", "start", "end", "stairs", "least", "by"]
theorem c_q_Form_init : FnScope N_q_Form_init ["self", "start", "end", "stairs", "least", "by"] (defScope S_q_Form_init) := ⟨rfl, rfl, rfl, by decide +kernel, rfl, by decide +kernel, by decide +kernel⟩
abbrev S_q_Form_eq : Stmt := inClass (topS 38) 1
abbrev N_q_Form_eq : List Str := ["self", "other"]
theorem c_q_Form_eq : FnScope N_q_Form_eq ["self", "other"] (defScope S_q_Form_eq) := ⟨rfl, rfl, rfl, by decide +kernel, rfl, by decide +kernel, by decide +kernel⟩
abbrev S_q_Form_mul : Stmt := inClass (topS 38) 2
abbrev N_q_Form_mul : List Str := ["self", "other"]
theorem c_q_Form_mul : FnScope N_q_Form_mul ["self", "other"] (defScope S_q_Form_mul) := ⟨rfl, rfl, rfl, by decide +kernel, rfl, by decide +kernel, by decide +kernel⟩
abbrev S_q_Form_rmul : Stmt := inClass (topS 38) 3
abbrev N_q_Form_rmul : List Str := ["self", "other"]
theorem c_q_Form_rmul : FnScope N_q_Form_rmul ["self", "other"] (defScope S_q_Form_rmul) := ⟨rfl, rfl, rfl, by decide +kernel, rfl, by decide +kernel, by decide +kernel⟩
abbrev S_q_body_behind : Stmt := topS 39
abbrev N_q_body_behind : List Str := ["form", "body"]
theorem c_q_body_behind : FnScope N_q_body_behind ["form", "body"] (defScope S_q_body_behind) := ⟨rfl, rfl, rfl, by decide +kernel, rfl, by decide +kernel, by decide +kernel⟩
abbrev S_q_followed : Stmt := topS 40
abbrev N_q_followed : List Str := ["one", "other"]
theorem c_q_followed : FnScope N_q_followed ["one", "other"] (defScope S_q_followed) := ⟨rfl, rfl, rfl, by decide +kernel, rfl, by decide +kernel, by decide +kernel⟩
abbrev S_q_check_form : Stmt := topS 41
abbrev N_q_check_form : List Str := ["form"]
theorem c_q_check_form : FnScope N_q_check_form ["form"] (defScope S_q_check_form) := ⟨rfl, rfl, rfl, by decide +kernel, rfl, by decide +kernel, by decide +kernel⟩
abbrev S_q_end_size : Stmt := topS 42
abbrev N_q_end_size : List Str := ["form", "body"]
theorem c_q_end_size : FnScope N_q_end_size ["form", "body"] (defScope S_q_end_size) := ⟨rfl, rfl, rfl, by decide +kernel, rfl, by decide +kernel, by decide +kernel⟩
abbrev S_q_telling_sizes : Stmt := topS 43
abbrev N_q_telling_sizes : List Str := ["one", "other", "index", "sizes", "near", "corner", "form", "second", "size", "k"]
theorem c_q_telling_sizes : FnScope N_q_telling_sizes ["one", "other", "index"] (defScope S_q_telling_sizes) := ⟨rfl, rfl, rfl, by decide +kernel, rfl, by decide +kernel, by decide +kernel⟩
abbrev S_q_is_parted : Stmt := topS 44
abbrev N_q_is_parted : List Str := ["one", "other", "body"]
theorem c_q_is_parted : FnScope N_q_is_parted ["one", "other", "body"] (defScope S_q_is_parted) := ⟨rfl, rfl, rfl, by decide +kernel, rfl, by decide +kernel, by decide +kernel⟩
abbrev S_q_form_parting : Stmt := topS 45
abbrev N_q_form_parting : List Str := ["one", "other", "heights", "width", "height"]
theorem c_q_form_parting : FnScope N_q_form_parting ["one", "other"] (defScope S_q_form_parting) := ⟨rfl, rfl, rfl, by decide +kernel, rfl, by decide +kernel, by decide +kernel⟩
abbrev S_q_least_loads : Stmt := topS 46
abbrev N_q_least_loads : List Str := ["form", "body", "loads", "least", "load", "notch"]
theorem c_q_least_loads : FnScope N_q_least_loads ["form", "body"] (defScope S_q_least_loads) := ⟨rfl, rfl, rfl, by decide +kernel, rfl, by decide +kernel, by decide +kernel⟩
abbrev S_l_begun : Stmt := topS 48
abbrev N_l_begun : List Str := ["script", "great", "cell"]
theorem c_l_begun : FnScope N_l_begun ["script"] (defScope S_l_begun) := ⟨rfl, rfl, rfl, by decide +kernel, rfl, by decide +kernel, by decide +kernel⟩
abbrev S_l_mixed : Stmt := topS 49
abbrev N_l_mixed : List Str := ["draw", "turn", "found", "prime", "blend", "cell"]
theorem c_l_mixed : FnScope N_l_mixed ["draw"] (defScope S_l_mixed) := ⟨rfl, rfl, rfl, by decide +kernel, rfl, by decide +kernel, by decide +kernel⟩
abbrev S_l_take : Stmt := topS 50
abbrev N_l_take : List Str := ["draw", "many", "found"]
theorem c_l_take : FnScope N_l_take ["draw", "many"] (defScope S_l_take) := ⟨rfl, rfl, rfl, by decide +kernel, rfl, by decide +kernel, by decide +kernel⟩
abbrev S_l_pick : Stmt := topS 51
abbrev N_l_pick : List Str := ["draw", "some"]
theorem c_l_pick : FnScope N_l_pick ["draw", "some"] (defScope S_l_pick) := ⟨rfl, rfl, rfl, by decide +kernel, rfl, by decide +kernel, by decide +kernel⟩
abbrev S_l_caught : Stmt := topS 52
abbrev N_l_caught : List Str := ["task", "caught", "error"]
theorem c_l_caught : FnScope N_l_caught ["task"] (defScope S_l_caught) := ⟨rfl, rfl, rfl, by decide +kernel, rfl, by decide +kernel, by decide +kernel⟩
abbrev S_l_is_number : Stmt := topS 53
abbrev N_l_is_number : List Str := ["item"]
theorem c_l_is_number : FnScope N_l_is_number ["item"] (defScope S_l_is_number) := ⟨rfl, rfl, rfl, by decide +kernel, rfl, by decide +kernel, by decide +kernel⟩
abbrev S_l_least : Stmt := topS 54
abbrev N_l_least : List Str := ["one", "other"]
theorem c_l_least : FnScope N_l_least ["one", "other"] (defScope S_l_least) := ⟨rfl, rfl, rfl, by decide +kernel, rfl, by decide +kernel, by decide +kernel⟩
abbrev S_l_holds : Stmt := topS 55
abbrev N_l_holds : List Str := ["corner", "body"]
theorem c_l_holds : FnScope N_l_holds ["corner", "body"] (defScope S_l_holds) := ⟨rfl, rfl, rfl, by decide +kernel, rfl, by decide +kernel, by decide +kernel⟩
abbrev S_l_rank : Stmt := topS 56
abbrev N_l_rank : List Str := ["item"]
theorem c_l_rank : FnScope N_l_rank ["item"] (defScope S_l_rank) := ⟨rfl, rfl, rfl, by decide +kernel, rfl, by decide +kernel, by decide +kernel⟩
abbrev S_l_staircase : Stmt := topS 57
abbrev N_l_staircase : List Str := ["corners", "found", "corner", "other"]
theorem c_l_staircase : FnScope N_l_staircase ["corners"] (defScope S_l_staircase) := ⟨rfl, rfl, rfl, by decide +kernel, rfl, by decide +kernel, by decide +kernel⟩
abbrev S_l_held : Stmt := topS 58
abbrev N_l_held : List Str := ["stairs", "body", "corner"]
theorem c_l_held : FnScope N_l_held ["stairs", "body"] (defScope S_l_held) := ⟨rfl, rfl, rfl, by decide +kernel, rfl, by decide +kernel, by decide +kernel⟩
abbrev S_l_joined : Stmt := topS 59
abbrev N_l_joined : List Str := ["one", "other"]
theorem c_l_joined : FnScope N_l_joined ["one", "other"] (defScope S_l_joined) := ⟨rfl, rfl, rfl, by decide +kernel, rfl, by decide +kernel, by decide +kernel⟩
abbrev S_l_notches : Stmt := topS 60
abbrev N_l_notches : List Str := ["stairs", "found", "one", "other"]
theorem c_l_notches : FnScope N_l_notches ["stairs"] (defScope S_l_notches) := ⟨rfl, rfl, rfl, by decide +kernel, rfl, by decide +kernel, by decide +kernel⟩
abbrev S_l_size : Stmt := topS 61
abbrev N_l_size : List Str := ["draw"]
theorem c_l_size : FnScope N_l_size ["draw"] (defScope S_l_size) := ⟨rfl, rfl, rfl, by decide +kernel, rfl, by decide +kernel, by decide +kernel⟩
abbrev S_l_stairs : Stmt := topS 62
abbrev N_l_stairs : List Str := ["draw", "most", "found", "wide", "turn", "corner"]
theorem c_l_stairs : FnScope N_l_stairs ["draw", "most"] (defScope S_l_stairs) := ⟨rfl, rfl, rfl, by decide +kernel, rfl, by decide +kernel, by decide +kernel⟩
abbrev S_l_is_size : Stmt := topS 63
abbrev N_l_is_size : List Str := ["thing"]
theorem c_l_is_size : FnScope N_l_is_size ["thing"] (defScope S_l_is_size) := ⟨rfl, rfl, rfl, by decide +kernel, rfl, by decide +kernel, by decide +kernel⟩
abbrev S_l_is_body : Stmt := topS 64
abbrev N_l_is_body : List Str := ["thing"]
theorem c_l_is_body : FnScope N_l_is_body ["thing"] (defScope S_l_is_body) := ⟨rfl, rfl, rfl, by decide +kernel, rfl, by decide +kernel, by decide +kernel⟩
abbrev S_l_beside : Stmt := topS 65
abbrev N_l_beside : List Str := ["draw", "corners", "one", "other"]
theorem c_l_beside : FnScope N_l_beside ["draw", "corners"] (defScope S_l_beside) := ⟨rfl, rfl, rfl, by decide +kernel, rfl, by decide +kernel, by decide +kernel⟩
abbrev S_l_few : Stmt := topS 66
abbrev N_l_few : List Str := ["draw", "most", "found", "lap", "corner", "way"]
theorem c_l_few : FnScope N_l_few ["draw", "most"] (defScope S_l_few) := ⟨rfl, rfl, rfl, by decide +kernel, rfl, by decide +kernel, by decide +kernel⟩
abbrev S_l_grow : Stmt := topS 67
abbrev N_l_grow : List Str := ["least", "by", "body"]
theorem c_l_grow : FnScope N_l_grow ["least", "by", "body"] (defScope S_l_grow) := ⟨rfl, rfl, rfl, by decide +kernel, rfl, by decide +kernel, by decide +kernel⟩
abbrev S_l_few_bodies : Stmt := topS 68
abbrev N_l_few_bodies : List Str := ["many", "found", "a", "b"]
theorem c_l_few_bodies : FnScope N_l_few_bodies ["many"] (defScope S_l_few_bodies) := ⟨rfl, rfl, rfl, by decide +kernel, rfl, by decide +kernel, by decide +kernel⟩
abbrev S_l_raw : Stmt := topS 69
abbrev N_l_raw : List Str := ["draw", "least"]
theorem c_l_raw : FnScope N_l_raw ["draw"] (defScope S_l_raw) := ⟨rfl, rfl, rfl, by decide +kernel, rfl, by decide +kernel, by decide +kernel⟩
abbrev S_l_unlike : Stmt := topS 70
abbrev N_l_unlike : List Str := ["one", "other", "body", "first", "second", "later"]
theorem c_l_unlike : FnScope N_l_unlike ["one", "other", "body"] (defScope S_l_unlike) := ⟨rfl, rfl, rfl, by decide +kernel, rfl, by decide +kernel, by decide +kernel⟩
abbrev S_l_loads : Stmt := topS 71
abbrev N_l_loads : List Str := ["stairs_here", "body", "many", "found", "p", "q", "old"]
theorem c_l_loads : FnScope N_l_loads ["stairs_here", "body", "many"] (defScope S_l_loads) := ⟨rfl, rfl, rfl, by decide +kernel, rfl, by decide +kernel, by decide +kernel⟩
abbrev S_l_turns : Stmt := topS 72
abbrev N_l_turns : List Str := ["raws", "k", "found", "raw", "size"]
theorem c_l_turns : FnScope N_l_turns ["raws", "k"] (defScope S_l_turns) := ⟨rfl, rfl, rfl, by decide +kernel, rfl, by decide +kernel, by decide +kernel⟩
abbrev S_l_great_ok : Stmt := topS 73
abbrev N_l_great_ok : List Str := ["draw", "start", "stairs_here", "least", "by", "raw", "more", "one", "other", "some", "told", "body", "loads", "due", "load", "lower", "size", "notch", "old"]
theorem c_l_great_ok : FnScope N_l_great_ok ["draw", "start"] (defScope S_l_great_ok) := ⟨rfl, rfl, rfl, by decide +kernel, rfl, by decide +kernel, by decide +kernel⟩
abbrev S_q_law : Stmt := topS 74
abbrev N_q_law : List Str := ["script", "draw", "start", "ends_here", "raw", "way", "more", "one", "other", "first", "second", "some", "told", "lap", "body", "found", "bad", "item"]
theorem c_q_law : FnScope N_q_law ["script"] (defScope S_q_law) := ⟨rfl, rfl, rfl, by decide +kernel, rfl, by decide +kernel, by decide +kernel⟩
/-! ### what the top has written -/
/-- a def of the top -/
structure Df (K : PySem.W.Frag) (mg : Str → Option Value) (x : Str) (st : Stmt) (ps : List Str) where
  a : Addr
  d : FuncData
  F : Fun K x x st a d
  g : mg x = some (.ref a)
  b : Binds K d ps []
theorem Df.k {K : PySem.W.Frag} {mg : Str → Option Value} {x : Str} {st : Stmt} {ps : List Str} (D : Df K mg x st ps) : PySem.W.keepIn K (.ref D.a) = true := D.F.kp
/-- an own exception class -/
structure Xc (K : PySem.W.Frag) (mg : Str → Option Value) (x : Str) where
  C : Addr
  g : mg x = some (.ref C)
  q : PySem.W.excIn K C [.type "ValueError", .type "Exception", .type "BaseException", .type "object"] "ValueError.__new__" = true
  k : PySem.W.keepIn K (.ref C) = true
  b : PySem.W.subIn K (.ref C) (.type "BaseException") = some true
  t : PySem.W.typeIn K (.ref C) = some (.type "type")
  e : ExcC K C
end G21
set_option Elab.async false
set_option linter.all false
set_option maxRecDepth 100000
set_option maxHeartbeats 4000000
namespace G21
open PySem PySem.Spec PyProof.Rows L2
structure Txt (K : PySem.W.Frag) (mg : Str → Option Value) where
  z_abs : mg "abs" = none
  z_all : mg "all" = none
  z_any : mg "any" = none
  z_bool : mg "bool" = none
  z_int : mg "int" = none
  z_isinstance : mg "isinstance" = none
  z_len : mg "len" = none
  z_list : mg "list" = none
  z_max : mg "max" = none
  z_min : mg "min" = none
  z_range : mg "range" = none
  z_reversed : mg "reversed" = none
  z_set : mg "set" = none
  z_sorted : mg "sorted" = none
  z_tuple : mg "tuple" = none
  z_zip : mg "zip" = none
  x_GapError : Xc K mg "GapError"
  x_BadBody : Xc K mg "BadBody"
  x_BadBy : Xc K mg "BadBy"
  x_BadEnd : Xc K mg "BadEnd"
  x_BadForm : Xc K mg "BadForm"
  x_BadLeast : Xc K mg "BadLeast"
  x_BadStairs : Xc K mg "BadStairs"
  x_BadStart : Xc K mg "BadStart"
  x_NotJoined : Xc K mg "NotJoined"
  u_BadBody : PySem.W.exmOne K (.ref x_BadBody.C) (.ref x_GapError.C) = some true
  u_BadBy : PySem.W.exmOne K (.ref x_BadBy.C) (.ref x_GapError.C) = some true
  u_BadEnd : PySem.W.exmOne K (.ref x_BadEnd.C) (.ref x_GapError.C) = some true
  u_BadForm : PySem.W.exmOne K (.ref x_BadForm.C) (.ref x_GapError.C) = some true
  u_BadLeast : PySem.W.exmOne K (.ref x_BadLeast.C) (.ref x_GapError.C) = some true
  u_BadStairs : PySem.W.exmOne K (.ref x_BadStairs.C) (.ref x_GapError.C) = some true
  u_BadStart : PySem.W.exmOne K (.ref x_BadStart.C) (.ref x_GapError.C) = some true
  u_NotJoined : PySem.W.exmOne K (.ref x_NotJoined.C) (.ref x_GapError.C) = some true
  C : Addr
  fI : Addr
  dI : FuncData
  cls : Cls K C
  gC : mg "Form" = some (.ref C)
  nF_start : NoAttr K C "start"
  nF_end : NoAttr K C "end"
  nF_stairs : NoAttr K C "stairs"
  nF_least : NoAttr K C "least"
  nF_by : NoAttr K C "by"
  nB : NoAttr K C "blocks"
  M : Mk K C fI
  FI : Fun K "__init__" "Form.__init__" S_q_Form_init fI dI
  bI : Binds K dI ["self", "start", "end", "stairs", "least", "by"] []
  iA : PySem.W.findIn K (.ref C) "__class__" = some (some (.builtin "object.__class__"))
  iN : PySem.W.specialIn K (.builtin "object.__class__") "__get__" = some (some (.builtin "getset_descriptor.__get__"))
  iT : PySem.W.takesIn K (.builtin "object.__class__") = some true
  iM : PySem.W.mroIn K C (.type "object") = some true
  kD : PySem.W.kitOne K (.ref C) (.ref C) = some true
  kNoneType : PySem.W.kitOne K (.type "NoneType") (.ref C) = some false
  ktuple : PySem.W.kitOne K (.type "tuple") (.ref C) = some false
  kstr : PySem.W.kitOne K (.type "str") (.ref C) = some false
  kint : PySem.W.kitOne K (.type "int") (.ref C) = some false
  kbool : PySem.W.kitOne K (.type "bool") (.ref C) = some false
  klist : PySem.W.kitOne K (.type "list") (.ref C) = some false
  e_BadBody : PySem.W.kitOne K (.ref x_BadBody.C) (.ref x_BadBody.C) = some true
  e_BadBy : PySem.W.kitOne K (.ref x_BadBy.C) (.ref x_BadBy.C) = some true
  e_BadEnd : PySem.W.kitOne K (.ref x_BadEnd.C) (.ref x_BadEnd.C) = some true
  e_BadForm : PySem.W.kitOne K (.ref x_BadForm.C) (.ref x_BadForm.C) = some true
  e_BadLeast : PySem.W.kitOne K (.ref x_BadLeast.C) (.ref x_BadLeast.C) = some true
  e_BadStairs : PySem.W.kitOne K (.ref x_BadStairs.C) (.ref x_BadStairs.C) = some true
  e_BadStart : PySem.W.kitOne K (.ref x_BadStart.C) (.ref x_BadStart.C) = some true
  e_NotJoined : PySem.W.kitOne K (.ref x_NotJoined.C) (.ref x_NotJoined.C) = some true
  n_BadBody : PySem.W.kitOne K (.type "NoneType") (.ref x_BadBody.C) = some false
  n_BadBy : PySem.W.kitOne K (.type "NoneType") (.ref x_BadBy.C) = some false
  n_BadEnd : PySem.W.kitOne K (.type "NoneType") (.ref x_BadEnd.C) = some false
  n_BadForm : PySem.W.kitOne K (.type "NoneType") (.ref x_BadForm.C) = some false
  n_BadLeast : PySem.W.kitOne K (.type "NoneType") (.ref x_BadLeast.C) = some false
  n_BadStairs : PySem.W.kitOne K (.type "NoneType") (.ref x_BadStairs.C) = some false
  n_BadStart : PySem.W.kitOne K (.type "NoneType") (.ref x_BadStart.C) = some false
  n_NotJoined : PySem.W.kitOne K (.type "NoneType") (.ref x_NotJoined.C) = some false
  q_is_number : Df K mg "is_number" S_q_is_number ["thing"]
  q_is_number_pair : Df K mg "is_number_pair" S_q_is_number_pair ["thing"]
  q_check_by : Df K mg "check_by" S_q_check_by ["by"]
  q_is_size : Df K mg "is_size" S_q_is_size ["thing"]
  q_is_body : Df K mg "is_body" S_q_is_body ["thing"]
  q_is_corner : Df K mg "is_corner" S_q_is_corner ["thing"]
  q_check_body : Df K mg "check_body" S_q_check_body ["body"]
  q_is_above : Df K mg "is_above" S_q_is_above ["one", "other"]
  q_lesser : Df K mg "lesser" S_q_lesser ["one", "other"]
  q_encloses : Df K mg "encloses" S_q_encloses ["corner", "inner"]
  q_is_stairs : Df K mg "is_stairs" S_q_is_stairs ["thing"]
  q_is_step : Df K mg "is_step" S_q_is_step ["corner", "further"]
  q_check_stairs : Df K mg "check_stairs" S_q_check_stairs ["stairs"]
  q_corner_order : Df K mg "corner_order" S_q_corner_order ["corner"]
  q_stairs_of : Df K mg "stairs_of" S_q_stairs_of ["corners"]
  q_has : Df K mg "has" S_q_has ["stairs", "corner"]
  q_both : Df K mg "both" S_q_both ["one", "other"]
  q_notches_of : Df K mg "notches_of" S_q_notches_of ["stairs"]
  q_moved_item : Df K mg "moved_item" S_q_moved_item ["item", "by"]
  q_moved : Df K mg "moved" S_q_moved ["stairs", "least", "by"]
  q_is_any_place : Df K mg "is_any_place" S_q_is_any_place ["thing"]
  q_greatest : Df K mg "greatest" S_q_greatest ["stairs", "index"]
  q_grown : Df K mg "grown" S_q_grown ["least", "by", "size"]
  q_plain_by : Df K mg "plain_by" S_q_plain_by ["stairs", "least", "by", "index"]
  q_body_behind : Df K mg "body_behind" S_q_body_behind ["form", "body"]
  q_followed : Df K mg "followed" S_q_followed ["one", "other"]
  q_check_form : Df K mg "check_form" S_q_check_form ["form"]
  q_end_size : Df K mg "end_size" S_q_end_size ["form", "body"]
  q_telling_sizes : Df K mg "telling_sizes" S_q_telling_sizes ["one", "other", "index"]
  q_is_parted : Df K mg "is_parted" S_q_is_parted ["one", "other", "body"]
  q_form_parting : Df K mg "form_parting" S_q_form_parting ["one", "other"]
  q_least_loads : Df K mg "least_loads" S_q_least_loads ["form", "body"]
  l_begun : Df K mg "_law_begun" S_l_begun ["script"]
  l_mixed : Df K mg "_law_mixed" S_l_mixed ["draw"]
  l_take : Df K mg "_law_take" S_l_take ["draw", "many"]
  l_pick : Df K mg "_law_pick" S_l_pick ["draw", "some"]
  l_caught : Df K mg "_law_caught" S_l_caught ["task"]
  l_is_number : Df K mg "_law_is_number" S_l_is_number ["item"]
  l_least : Df K mg "_law_least" S_l_least ["one", "other"]
  l_holds : Df K mg "_law_holds" S_l_holds ["corner", "body"]
  l_rank : Df K mg "_law_rank" S_l_rank ["item"]
  l_staircase : Df K mg "_law_staircase" S_l_staircase ["corners"]
  l_held : Df K mg "_law_held" S_l_held ["stairs", "body"]
  l_joined : Df K mg "_law_joined" S_l_joined ["one", "other"]
  l_notches : Df K mg "_law_notches" S_l_notches ["stairs"]
  l_size : Df K mg "_law_size" S_l_size ["draw"]
  l_stairs : Df K mg "_law_stairs" S_l_stairs ["draw", "most"]
  l_is_size : Df K mg "_law_is_size" S_l_is_size ["thing"]
  l_is_body : Df K mg "_law_is_body" S_l_is_body ["thing"]
  l_beside : Df K mg "_law_beside" S_l_beside ["draw", "corners"]
  l_few : Df K mg "_law_few" S_l_few ["draw", "most"]
  l_grow : Df K mg "_law_grow" S_l_grow ["least", "by", "body"]
  l_few_bodies : Df K mg "_law_few_bodies" S_l_few_bodies ["many"]
  l_raw : Df K mg "_law_raw" S_l_raw ["draw"]
  l_unlike : Df K mg "_law_unlike" S_l_unlike ["one", "other", "body"]
  l_loads : Df K mg "_law_loads" S_l_loads ["stairs_here", "body", "many"]
  l_turns : Df K mg "_law_turns" S_l_turns ["raws", "k"]
  l_great_ok : Df K mg "_law_great_ok" S_l_great_ok ["draw", "start"]
  q_law : Df K mg "law" S_q_law ["script"]
end G21
set_option Elab.async false
set_option linter.all false
set_option maxRecDepth 100000
set_option maxHeartbeats 4000000
/-! sorted of a list of tuples of d ints each, whatever the ints are -/
namespace GS
open PySem PySem.Spec PyProof.Rows L2
section
variable {prog : Program} {w : World} {A : Around} {E : Value → Shared → Prop} {s : Shared} {Q : Bool → Shared → Prop}
theorem lexAt {b : Bool} : ∀ {xs ys : List Value} {ns ms : List Int} (i : Nat), IntsAre xs ns → IntsAre ys ms → ns.length = ms.length → Q (HT.lexLt ns ms) s → PySem.W.KatLex prog w A b false Q (xs.zip ys) i s
  | [], [], _, _, _, .nil, .nil, _, h => PySem.W.kat_nil (by rw [HT.lexLt_nil_nil] at h; exact h)
  | _ :: _, [], _, _, _, .cons _ _ _, .nil, hl, _ => by simp at hl
  | [], _ :: _, _, _, _, .nil, .cons _ _ _, hl, _ => by simp at hl
  | _ :: xs, _ :: ys, _, _, i, .cons (ns := ns) p t hx, .cons (ns := ms) q u hy, hl, h => by
    have hl2 : ns.length = ms.length := Nat.succ.inj hl
    rw [HT.lexLt_cons] at h
    rw [List.zip_cons_cons]
    refine PySem.W.kat_cons (wpAny_eqBool_int ?_)
    by_cases e : p = q
    · rw [if_pos e] at h
      rw [beq_iff_eq.mpr e]
      exact PySem.W.kat_yes (lexAt (i + 1) hx hy hl2 h)
    · rw [if_neg e] at h
      rw [beq_eq_false_iff_ne.mpr e]
      exact PySem.W.kat_no (TS.oneLt_ints _ h)
/-- the values are tuples of d ints -/
def Tups (h : Heap) (d : Nat) (vs : List Value) : Prop := ∀ v ∈ vs, ∃ ns, TS.TupInts h v ns ∧ ns.length = d
theorem Tups.stay {h h' : Heap} {d : Nat} {vs : List Value} (x : Tups h d vs) (k : ∀ b o, h.get? b = some o → o.cls = .type "tuple" → h'.get? b = some o) : Tups h' d vs := fun v hv => by
  obtain ⟨ns, t, e⟩ := x v hv
  exact ⟨ns, t.keeps k, e⟩
theorem heads {h : Heap} {d : Nat} (hd : 1 ≤ d) : ∀ vs : List Value, Tups h d vs → ∃ fs, PySem.W.KatTups h vs fs ∧ fs.length = vs.length ∧ ∀ f ∈ fs, ∃ n t, f = Value.int n t
  | [], _ => ⟨[], PySem.W.KatTups.nil, rfl, fun f hf => absurd hf (by simp)⟩
  | v :: vs, x => by
    obtain ⟨fs, k, hl, hi⟩ := heads hd vs fun u hu => x u (List.mem_cons_of_mem _ hu)
    obtain ⟨ns, ⟨a, xs, rfl, ⟨o, ho, hc, n, hdt⟩, i⟩, hn⟩ := x v (List.mem_cons_self ..)
    have hz : xs.toList.length = d := by rw [i.length, hn]
    cases q : xs.toList with
    | nil =>
      rw [q] at hz
      simp at hz
      omega
    | cons y ys =>
      have my : y ∈ xs.toList := by
        rw [q]
        exact List.mem_cons_self ..
      obtain ⟨m, t, hy⟩ := i.all y my
      refine ⟨y :: fs, PySem.W.KatTups.cons ho hc hdt ?_ k, by rw [List.length_cons, List.length_cons, hl], fun f hf => ?_⟩
      · have z : xs.toList[0]? = some y := by rw [q] <;> rfl
        simpa using z
      · rcases List.mem_cons.mp hf with e | hf
        · exact ⟨m, t, e.trans hy⟩
        · exact hi f hf
/-- by their ints -/
def keyL (h : Heap) (v : Value) : List Int := TS.intsOf h v
theorem cmpL {d : Nat} {vs : List Value} (k : Value → List Int) (x : ∀ v ∈ vs, TS.TupInts s.heap v (k v) ∧ (k v).length = d) : SrtO.Cmp prog w A s (tuples' true) (fun p => p.1 ∈ vs) (SrtO.lt2 fun v u => HT.lexLt (k v) (k u)) := by
  intro p q hp hq
  obtain ⟨tp, lp⟩ := x _ hp
  obtain ⟨tq, lq⟩ := x _ hq
  show wpAny (model prog w) A (keyLt' (tuples' true) p.1 q.1) (fun r s' => s' = s ∧ r = HT.lexLt (k p.1) (k q.1)) _ s
  generalize k p.1 = ns at tp lp ⊢
  generalize k q.1 = ms at tq lq ⊢
  obtain ⟨a, xs, e1, ⟨o, ho, hc, n, hdt⟩, i⟩ := tp
  obtain ⟨a', ys, e2, ⟨o', ho', hc', n', hdt'⟩, i'⟩ := tq
  rw [e1, e2]
  refine PySem.W.kat_lt ho hdt ho' hdt' ?_
  have z1 : xs.size = d := by rw [← lp, ← i.length, Array.length_toList]
  have z2 : ys.size = d := by rw [← lq, ← i'.length, Array.length_toList]
  have sz : decide (xs.size < ys.size) = false := decide_eq_false (by omega)
  rw [sz]
  exact lexAt 0 i i' (by omega) ⟨rfl, rfl⟩
theorem sortableL {a : Addr} {d : Nat} {vs : List Value} (hd : 1 ≤ d) (h0 : 0 < vs.length) (k : Value → List Int) (x : ∀ v ∈ vs, TS.TupInts s.heap v (k v) ∧ (k v).length = d) (ha : ∀ o, s.heap.get? a = some o → o.cls ≠ .type "tuple") :
    SrtO.SortableO prog w A s a vs fun v u => HT.lexLt (k v) (k u) := by
  intro h' keep
  have x' : ∀ v ∈ vs, TS.TupInts h' v (k v) ∧ (k v).length = d := fun v hv => ⟨(x v hv).1.keeps fun b o e c => keep b o (fun z => ha o (by rw [← z]; exact e) c) e, (x v hv).2⟩
  obtain ⟨fs, h1, h2, h3⟩ := heads (h := h') hd vs fun v hv => ⟨_, x' v hv⟩
  refine ⟨tuples' true, fun Q E hq => ?_, cmpL (s := { s with heap := h' }) k x'⟩
  refine PySem.W.kat_kind (T := .type "int") h1 (by omega) (fun f hm => ?_) (by rfl) hq
  obtain ⟨n, t, rfl⟩ := h3 f hm
  exact PySem.W.Looks.of_pure rfl
end
/-! ### over the abstract heap -/
def rSortL (K : PySem.W.Frag) (d : Nat) : List V → Hp → VK → Prop := fun vs H Q => ∃ (a : Addr) (xs : List V), vs = [V.ref a] ∧ SqL K H a xs ∧ (∀ x ∈ xs, ∃ ns, TupI K H x ns ∧ ns.length = d) ∧
  ∀ (ys : List V) (p : Addr), ys.Perm xs → ys.Pairwise (fun x y => ∀ n m, TupI K H x n → TupI K H y m → HT.lexLt m n = false) → H p = none → Q (.ref p) (upd H p (.lst ys))
theorem cr_sortL {X : Cx} {d : Nat} (hd : 1 ≤ d) : CallR X (.builtin "sorted") (rSortL X.K d) := by
  intro pins s σ H vs us Q I r h
  obtain ⟨a, xs, rfl, hs, hx, q⟩ := h
  obtain ⟨its, rv, hl, hz⟩ := I.list hs
  rw [Vals.ref1 r]
  obtain ⟨e1, e2⟩ := bkV_refs rv fun x m => by
    obtain ⟨ns, ⟨t, e, _⟩, _⟩ := hx x m
    exact ⟨t, e⟩
  have ti : ∀ v ∈ its, TS.TupInts s.heap v (TS.intsOf s.heap v) ∧ (TS.intsOf s.heap v).length = d := fun v hv => by
    obtain ⟨t, rfl⟩ := e2 v hv
    have hm : V.ref t ∈ xs := by
      rw [e1]
      exact List.mem_map.mpr ⟨_, hv, rfl⟩
    obtain ⟨ns, ⟨t', e, ht⟩, hn⟩ := hx _ hm
    cases e
    have z := tupI_raw I ht
    rw [z.ints]
    exact ⟨z, hn⟩
  refine SrtO.sorted_ord (NtL.swo_lexL (TS.intsOf s.heap)) hl.isList (by rw [← rv.length]; exact hz) (fun h2 h₁ b hb kk => ?_) fun out h1 h2 => ?_
  · refine sortableL (s := { s with heap := h₁ }) hd (by omega) _ (fun v hv => ⟨(ti v hv).1.keeps fun b' o e _ => (kk b' o e).2, (ti v hv).2⟩) fun o e c => ?_
    cases hb.symm.trans e
    exact absurd (Value.type.inj c) (by decide)
  · obtain ⟨ep, he'⟩ := PyProof.Rows.sortedAll_at s.heap its out.toArray
    have pm : out.Perm its := h2.perm
    have h3 : ∀ u ∈ out, ∃ a, u = Value.ref a := fun u hu => e2 u (pm.mem_iff.mp hu)
    have hp : (out.map bkV).Perm xs := by
      rw [e1]
      exact pm.map bkV
    have hlen : (out.map bkV).length ≤ sizeLine := by
      rw [hp.length_eq]
      exact hz
    refine ⟨.ref _, upd H (s.heap.objs.size + 1) (.lst (out.map bkV)), I.laid (t' := s.toks) (fun _ _ => PyProof.Rows.sortedAll_old) (Nat.le_succ _) ⟨hlen, out, ep, bkV_vals h3, he'⟩, rfl, q _ _ hp ?_ (I.hok.fresh (Nat.le_succ _))⟩
    rw [List.pairwise_map]
    refine List.Pairwise.imp (fun {u v} huv n m hn hm => ?_) h1
    obtain ⟨t, et, ht⟩ := hn
    obtain ⟨t', et', ht'⟩ := hm
    have i1 : TS.intsOf s.heap u = n := by
      rw [bkV_ref et]
      exact (tupI_raw I ht).ints
    have i2 : TS.intsOf s.heap v = m := by
      rw [bkV_ref et']
      exact (tupI_raw I ht').ints
    rw [← i1, ← i2]
    exact huv
end GS
set_option Elab.async false
set_option linter.all false
set_option maxRecDepth 100000
set_option maxHeartbeats 4000000
/-! len of a set of tuples of ints -/
namespace GS
open PySem PySem.Spec PyProof.Rows L2
def rLenT (K : PySem.W.Frag) (P : Program) (w : World) : List V → Hp → VK → Prop := fun xs H Q => ∃ (a : Addr) (L : List (Addr × List Int)), xs = [.ref a] ∧ H a = some (SetTO P w a L) ∧ (∀ p ∈ L, SqT K H p.1 (p.2.map V.int)) ∧ ((L.map (·.2)).Nodup → Q (.int L.length) H)
theorem call_lenT {X : Cx} : CallR X (.builtin "len") (rLenT X.K X.prog X.w) := by
  intro pins s σ H xs us Q I r h
  obtain ⟨a, L, rfl, ha, hk, q⟩ := h
  have R0 : SetT0 X.prog X.w s.heap a L := (I.hok a _ ha).1
  obtain ⟨es, ep, t, R⟩ := R0.full fun p hp => I.isT (hk p hp)
  rw [Vals.ref1 r]
  obtain ⟨o, ho, hex, hd⟩ := R.ob
  have hz : es.size = L.length := by
    rw [← Array.length_toList, R.rows]
    unfold rowsOf
    rw [List.length_map]
  have few := R.few
  refine call_len_set ho hex hd R.fits (by omega) ⟨.int L.length, H, I.tok _, ⟨_, by rw [hz]⟩, q R.nd⟩
/-- no repeats, each in the other: not longer -/
theorem nodup_le {α : Type} [DecidableEq α] : ∀ {l m : List α}, l.Nodup → (∀ x ∈ l, x ∈ m) → l.length ≤ m.length
  | [], _, _, _ => Nat.zero_le _
  | x :: l, m, hl, h => by
    obtain ⟨h1, h2⟩ := List.nodup_cons.mp hl
    have hm : x ∈ m := h x (List.mem_cons_self ..)
    have q := nodup_le (m := m.erase x) h2 fun y hy => (List.mem_erase_of_ne (fun z => h1 (by rw [← z]; exact hy))).mpr (h y (List.mem_cons_of_mem _ hy))
    rw [List.length_erase_of_mem hm] at q
    have p := List.length_pos_of_mem hm
    rw [List.length_cons]
    omega
theorem nodup_len {α : Type} [DecidableEq α] {l m : List α} (hl : l.Nodup) (hm : m.Nodup) (h1 : ∀ x ∈ l, x ∈ m) (h2 : ∀ x ∈ m, x ∈ l) : l.length = m.length :=
  Nat.le_antisymm (nodup_le hl h1) (nodup_le hm h2)
end GS
set_option Elab.async false
set_option linter.all false
set_option maxRecDepth 100000
set_option maxHeartbeats 4000000
/-! lists and tuples of ints, lists of tuples of ints, as data that == compares -/
namespace GS
open PySem PySem.Spec PyProof.Rows L2
def dIs (ns : List Int) : List PyData := ns.map PyData.int
def dT (ns : List Int) : PyData := .tuple (dIs ns)
theorem lay_is : ∀ ns : List Int, PyData.canLayAll0 (dIs ns) = true
  | [] => by simp [dIs, PyData.canLayAll0]
  | n :: ns => by
    have h := lay_is ns
    unfold dIs at h ⊢
    rw [List.map_cons]
    simp only [PyData.canLayAll0, PyData.canLay0, Bool.true_and]
    exact h
theorem deep_is : ∀ ns : List Int, PyData.depthAll (dIs ns) = 0
  | [] => by simp [dIs, PyData.depthAll]
  | n :: ns => by
    have h := deep_is ns
    unfold dIs at h ⊢
    rw [List.map_cons]
    simp only [PyData.depthAll, PyData.depth]
    omega
theorem eqv_is : ∀ ns ms : List Int, PyData.eqvAll (dIs ns) (dIs ms) = decide (ns = ms)
  | [], [] => by simp [dIs, PyData.eqvAll]
  | [], m :: ms => by simp [dIs, PyData.eqvAll]
  | n :: ns, [] => by simp [dIs, PyData.eqvAll]
  | n :: ns, m :: ms => by
    have h := eqv_is ns ms
    unfold dIs at h ⊢
    rw [List.map_cons, List.map_cons]
    simp only [PyData.eqvAll, PyData.eqv]
    rw [h]
    by_cases e : n = m
    · subst e
      simp
    · rw [beq_eq_false_iff_ne.mpr e, Bool.false_and]
      exact (decide_eq_false fun z => e (List.cons.inj z).1).symm
theorem shaped_is (ns : List Int) : SeqAt.shaped (.list (dIs ns)) = true := by
  show (PyData.canLay0 (.list (dIs ns)) && decide (PyData.depth (.list (dIs ns)) ≤ 64)) = true
  simp only [PyData.canLay0, PyData.depth, deep_is, lay_is, Bool.true_and, decide_eq_true_eq]
  omega
theorem shaped_t (ns : List Int) : SeqAt.shaped (dT ns) = true := by
  show (PyData.canLay0 (.tuple (dIs ns)) && decide (PyData.depth (.tuple (dIs ns)) ≤ 64)) = true
  simp only [PyData.canLay0, PyData.depth, deep_is, lay_is, Bool.true_and, decide_eq_true_eq]
  omega
theorem lay_ts : ∀ L : List (List Int), PyData.canLayAll0 (L.map dT) = true
  | [] => by simp [PyData.canLayAll0]
  | n :: ns => by
    have h := lay_ts ns
    rw [List.map_cons]
    simp only [dT, PyData.canLayAll0, PyData.canLay0, lay_is, Bool.true_and]
    exact h
theorem deep_ts : ∀ L : List (List Int), PyData.depthAll (L.map dT) ≤ 1
  | [] => by simp [PyData.depthAll]
  | n :: ns => by
    have h := deep_ts ns
    rw [List.map_cons]
    have e : PyData.depth (dT n) = 1 := by
      simp only [dT, PyData.depth, deep_is]
    simp only [PyData.depthAll, e]
    omega
theorem shaped_ts (L : List (List Int)) : SeqAt.shaped (.list (L.map dT)) = true := by
  have h := deep_ts L
  have h3 : PyData.depth (.list (L.map dT)) ≤ 64 := by
    simp only [PyData.depth]
    omega
  have h4 : PyData.canLay0 (.list (L.map dT)) = true := by
    simp only [PyData.canLay0]
    exact lay_ts L
  unfold SeqAt.shaped
  rw [h4, decide_eq_true h3]
  rfl
theorem eqv_t (ns ms : List Int) : PyData.eqv (dT ns) (dT ms) = decide (ns = ms) := by
  simp only [dT, PyData.eqv, eqv_is]
theorem eqv_ts : ∀ L M : List (List Int), PyData.eqvAll (L.map dT) (M.map dT) = decide (L = M)
  | [], [] => by simp [PyData.eqvAll]
  | [], m :: ms => by simp [PyData.eqvAll]
  | n :: ns, [] => by simp [PyData.eqvAll]
  | n :: ns, m :: ms => by
    have h := eqv_ts ns ms
    rw [List.map_cons, List.map_cons]
    simp only [PyData.eqvAll, eqv_t]
    rw [h]
    by_cases e : n = m
    · subst e
      simp
    · rw [decide_eq_false e, Bool.false_and]
      exact (decide_eq_false fun z => e (List.cons.inj z).1).symm
theorem eqv_lis (ns ms : List Int) : PyData.eqv (.list (dIs ns)) (.list (dIs ms)) = decide (ns = ms) := by
  simp only [PyData.eqv, eqv_is]
theorem eqv_lts (L M : List (List Int)) : PyData.eqv (.list (L.map dT)) (.list (M.map dT)) = decide (L = M) := by
  simp only [PyData.eqv, eqv_ts]
section
variable {K : PySem.W.Frag} {H : Hp}
theorem dp_ints : ∀ ns : List Int, DpAll K H (ns.map V.int) (dIs ns)
  | [] => .nil
  | n :: ns => .cons (.int n) (dp_ints ns)
theorem dp_l {a : Addr} {ns : List Int} (h : SqL K H a (ns.map V.int)) : Dp K H (.ref a) (.list (dIs ns)) := .lst h (dp_ints ns)
theorem dp_t {a : Addr} {ns : List Int} (h : SqT K H a (ns.map V.int)) : Dp K H (.ref a) (dT ns) := .tup h (dp_ints ns)
/-- the addresses are those of tuples of ints -/
theorem dp_refs {α : Type} {f : α → List Int} {F : Addr → α → Prop} (hF : ∀ a x, F a x → H a = some (.tup ((f x).map V.int))) : ∀ {rs : List Addr} {xs : List α}, Paired F rs xs → DpAll K H (rs.map V.ref) (xs.map fun x => dT (f x))
  | _, _, .nil => .nil
  | _, _, .cons r t => .cons (dp_t (SqT.of (hF _ _ r))) (dp_refs hF t)
theorem dp_lrefs {α : Type} {f : α → List Int} {F : Addr → α → Prop} (hF : ∀ a x, F a x → H a = some (.tup ((f x).map V.int))) {a : Addr} {rs : List Addr} {xs : List α} (h : SqL K H a (rs.map V.ref)) (p : Paired F rs xs) : Dp K H (.ref a) (.list ((xs.map f).map dT)) := by
  rw [List.map_map]
  exact .lst h (dp_refs hF p)
end
end GS
set_option Elab.async false
set_option linter.all false
set_option maxRecDepth 100000
set_option maxHeartbeats 4000000
/-! set(xs) of a list of ints, as a set that may be sorted -/
namespace GS
open PySem PySem.Spec PySem.W PySem.Calls PyProof.Rows L2
/-- a set as set.__new__ leaves it -/
abbrev eS (w : World) : Obj := { cls := .type "set", dict := none, data := .set #[] 0 (.fresh 0 0 (!w.params.followText "set-order")) }
section
variable {P : Program} {w : World} {A : Around} {E : Value → Shared → Prop} {s : Shared}
theorem call_set_listI {l : Addr} {xs : Array Value} (ns : List Int) {Q : Value → Shared → Prop} (calm : A.handled = none) (isL : s.heap.IsList l xs) (hI : IntsAre xs.toList ns) (few : ns.length + 1 < scanBound)
    (then_ : ∀ (h' : Heap) (tk c : Nat), SetR w h' s.heap.objs.size (fun j => decide (j ∈ ns)) c → c ≤ ns.length → (∀ b o, s.heap.get? b = some o → h'.get? b = some o) → Q (.ref s.heap.objs.size) { s with heap := h', toks := tk }) :
    wpAny (model P w) A (call (.type "set") [.ref l]) Q E s := by
  have size_ : xs.size = ns.length := by
    rw [← Array.length_toList]
    exact IntsAre.length hI
  have ⟨c, tl, mro_⟩ := F.called_set.mro
  have made_ := F.called_set.made
  have sub_ := F.called_set.sub
  refine wpAny_call (codeAny_of_tree (?_ : wpAny _ _ (callAny (.type "set") _) _ _ _))
  refine wpAny_pure ⟨Code.quiet_builtin _ (by decide +kernel), codeAny_builtin F.entry_type_call ?_⟩
  rw [Around.under_plain (weight_type_call_type "set" [.ref l] []) rfl]
  have k1 := F.called_set.notType
  have k2 := F.called_set.canCreate
  have k3 := F.typeCall_set_1 (.ref l)
  repeat any_goals (first | assumption | wp_step)
  refine codeAny_mono (code_set_led1 (.ref l) (E := E) (Q₁ := fun x s₁ => x = .ref s.heap.objs.size ∧ s₁ = { s with heap := s.heap.push (eS w) }) ⟨rfl, rfl⟩) fun r s₁ hr => ?_
  cases r with
  | error e => exact hr
  | ok fl =>
    cases fl with
    | next => exact hr.elim
    | brk => exact hr.elim
    | cont => exact hr.elim
    | ret x =>
      obtain ⟨rfl, rfl⟩ := hr
      have new_ : (s.heap.push (eS w)).get? s.heap.objs.size = some (eS w) := Heap.get?_push_size _ rfl
      have ty_ : Shared.TypeIs { s with heap := s.heap.push (eS w) } (.ref s.heap.objs.size) "set" := ⟨_, new_, rfl⟩
      have i1 := F.called_set.init.lookup
      have i2 := F.called_set.init.bind (.ref s.heap.objs.size)
      repeat any_goals (first | assumption | wp_step)
      refine codeAny_mono (codeAny_call_builtin (R := wants (fun r s₂ => r = .none ∧ ∃ h' tk c, s₂ = { s with heap := h', toks := tk } ∧ SetR w h' s.heap.objs.size (fun j => decide (j ∈ ns)) c ∧ c ≤ ns.length ∧ ∀ b o, s.heap.get? b = some o → h'.get? b = some o) E)
        F.called_set.init.plain F.entry_set_init (check_set_init_1 ty_ ?_)) fun r₂ s₂ hr₂ => ?_
      · obtain ⟨⟨oc, od, odt, osl⟩, hol, hcl, nl, hdl⟩ := isL
        dsimp only at hcl hdl
        subst hcl hdl
        have hol2 : (s.heap.push (eS w)).get? l = some { cls := .type "list", dict := od, data := .seq xs nl, slots := osl } := Heap.get?_push_of_some _ hol
        have j1 := F.sub_list_set
        have j2 := F.sub_list_frozenset
        have j3 : (Value.type "list" == Value.type "dict") = false := by decide
        have isL1 : (s.heap.push (eS w)).IsList l xs := ⟨_, hol2, rfl, nl, rfl⟩
        unfold Builtin.«set.__init__» noKeywords Builtin.Frozenset.updateFrom
        generalize hP : pyIter = PI
        wp_walk
        subst hP
        refine wpAny_pyIter_list isL1 (wpAny_bind (wpAny_runValue ?_))
        have lt_ : l < s.heap.objs.size := Heap.lt_size hol
        have calm3 : A.in1.in1.in1.handled = none := calm
        have sz_ : (s.heap.push (eS w)).objs.size = s.heap.objs.size + 1 := Heap.size_push ..
        have ne_ : l ≠ (s.heap.push (eS w)).objs.size := fun z => by
          rw [z, sz_] at lt_
          exact absurd lt_ (Nat.not_lt.mpr (Nat.le_succ _))
        have out_ : s.heap.objs.size ∉ [(s.heap.push (eS w)).objs.size, l] := fun z => by
          rcases List.mem_cons.mp z with z | z
          · rw [sz_] at z
            exact absurd z (Nat.ne_of_lt (Nat.lt_succ_self _))
          · exact absurd (List.mem_singleton.mp z) (Nat.ne_of_gt lt_)
        have val_ : ∀ (i : Nat) (v : Value), xs[i]? = some v → ∃ k t, ns[i]? = some k ∧ v = .int k t := fun i v hv => by
          have hi : i < ns.length := by
            rw [← size_]
            exact (Array.getElem?_eq_some_iff.mp hv).1
          obtain ⟨t, e⟩ := PyProof.Rows.IntsAre.int_at hI i v (by rw [Array.getElem?_toList, hv])
          refine ⟨ns[i], t, List.getElem?_eq_getElem hi, e.trans ?_⟩
          rw [List.getD_eq_getElem?_getD, List.getElem?_eq_getElem hi]
          rfl
        refine set_update_ints ((Walks.list calm3 _ l ne_ xs).toS) s.heap.objs.size out_ ns size_ few val_ (xs.size - 0) 0 _ (by omega) (Nat.zero_le _) ⟨⟨_, Heap.get?_push_size _ rfl, rfl, rfl⟩, (isL1.push _)⟩ ?first ?last
        case first => exact ⟨0, Nat.le_refl 0, setR_new_at (Heap.get?_push_of_some _ new_)⟩
        case last =>
          intro s' c' mv hc' hS'
          obtain ⟨h', g2, d', tk', os'⟩ := s'
          obtain rfl : g2 = s.gens := mv.gens
          obtain rfl : d' = s.drawn := mv.drawn
          obtain rfl : os' = s.os := mv.os
          rw [size_] at hc'
          refine wpAny_pure (wpAny_pure ⟨rfl, h', tk', c', rfl, hS', hc', fun b o e => ?_⟩)
          have hb0 : b < s.heap.objs.size := Heap.lt_size e
          refine mv.heap b o (fun z => ?_) (Heap.get?_push_of_some _ (Heap.get?_push_of_some _ e))
          rcases List.mem_cons.mp z with z | z
          · exact absurd z (Nat.ne_of_lt hb0)
          · have z2 : b = (s.heap.push (eS w)).objs.size := List.mem_singleton.mp z
            rw [z2, sz_] at hb0
            exact absurd hb0 (Nat.not_lt.mpr (Nat.le_succ _))
      · cases r₂ with
        | error e => exact hr₂
        | ok fl₂ =>
          cases fl₂ with
          | next => exact hr₂.elim
          | brk => exact hr₂.elim
          | cont => exact hr₂.elim
          | ret r =>
            obtain ⟨rfl, h', tk, c', rfl, hS', hc', hk'⟩ := hr₂
            repeat any_goals (first | assumption | wp_step)
            exact then_ _ _ _ hS' hc' hk'
end
/-- over the abstract heap -/
def rSetL (K : Frag) (w : World) : List V → Hp → VK → Prop := fun xs H Q => ∃ (l : Addr) (ns : List Int), xs = [V.ref l] ∧ SqL K H l (ns.map V.int) ∧ ns.length < 1000 ∧ ∀ p n, H p = none → n ≤ ns.length → Q (.ref p) (upd H p (SetO w p (fun j => decide (j ∈ ns)) n))
theorem cr_setL {X : Cx} (hc : X.calm = true) : CallR X (.type "set") (rSetL X.K X.w) := by
  intro pins s σ H xs us Q I r h
  obtain ⟨l, ns, rfl, hl, hf, q⟩ := h
  obtain ⟨its, rv, pl, hz⟩ := I.list hl
  rw [Vals.ref1 r]
  have hn : H s.heap.objs.size = none := I.hok.fresh (Nat.le_refl _)
  refine call_set_listI (P := X.prog) ns (I.ok.hd hc) pl.isList (by simpa using rv.ints) (by unfold scanBound; omega) fun h' tk c R hcn k => ?_
  exact ⟨.ref s.heap.objs.size, upd H s.heap.objs.size (SetO X.w s.heap.objs.size _ c), I.laid (t' := tk) k (Nat.le_refl _) (setO_new R), rfl, q _ c hn hcn⟩
end GS
set_option Elab.async false
set_option linter.all false
set_option maxRecDepth 100000
set_option maxHeartbeats 4000000
/-! an exception that a clause has caught, kept under another name -/
namespace GS
open PySem PySem.Spec PyProof.Rows L2
/-- an exception object of the class cls, without a dict, at a: raised, caught and kept -/
def ExT (cls : Value) (a : Addr) : HO := .ext fun h => ∃ (ob : Obj) (us : Array Value), h.get? a = some ob ∧ Zc cls none ob ∧ ob.data = .fields us
theorem exT_ok {P : Program} {w : World} {H : Hp} {h : Heap} {a : Addr} {cls : Value} {ob : Obj} {us : Array Value} (e : h.get? a = some ob) (z : Zc cls none ob) (d : ob.data = .fields us) : ObjOk P w H h a (ExT cls a) :=
  ⟨⟨ob, us, e, z, d⟩, ⟨ob, e⟩, fun _ _ ⟨o, v, q, r⟩ k => ⟨o, v, k o q, r⟩⟩
section
variable {X : Cx} {pins : List (Addr × Obj)} {σ : L2.St} {H : Hp} {s : Shared}
/-- what stands, and was made behind the entry, comes to be tracked -/
theorem track {a : Addr} {o : HO} (I : Inv X pins σ H s) (hn : H a = none) (h0 : X.s_0.heap.get? a = none) (new : ObjOk X.prog X.w (upd H a o) s.heap a o) (nL : a ≠ X.env.locals) (nC : ∀ x c, X.env.cells.lookup x = some c → c ≠ a)
    (nP : ∀ p ∈ X.pn ++ pins, p.1 ≠ a) : Inv X pins σ (upd H a o) s := by
  have old : ∀ b u, X.s_0.heap.get? b = some u → b ≠ a := fun b u e z => by
    rw [z, h0] at e
    cases e
  have keepH : ∀ b u, H b = some u → upd H a o b = some u := fun b u e => by
    rw [upd_ne (ne_of_none e hn)]
    exact e
  refine ⟨I.ok, I.os, I.bare, ⟨I.base.keep, I.base.slot, fun b u e n hx => ?_, I.base.there, fun b xs e => keepH b _ (I.base.tups b xs e), fun b u v e => keepH b _ (I.base.frzs b u v e), fun b ps e => ?_⟩, I.loc, I.cell, ?_, fun x c e => ?_, fun p hp => ?_, fun b u e => ?_, I.len⟩
  · rw [upd_ne (old b u e)]
    exact I.base.free b u e n hx
  · obtain ⟨m, q⟩ := I.base.tbls b ps e
    exact ⟨m, keepH b _ q⟩
  · rw [upd_ne nL.symm]
    exact I.free
  · rw [upd_ne (nC x c e)]
    exact I.freeC x c e
  · obtain ⟨q1, q2, q3⟩ := I.pin p hp
    exact ⟨q1, by rw [upd_ne (nP p hp)]; exact q2, q3⟩
  · by_cases hb : b = a
    · subst hb
      rw [upd_same] at e
      cases e
      exact new
    · rw [upd_ne hb] at e
      exact (I.hok b u e).stay (fun _ _ _ q => q) (fun c q => keepH c _ q) fun c xs q => keepH c _ q
end
/-- what 'except x as n: y = n' wishes of an exception of the body -/
def wKeep (K : PySem.W.Frag) (c : Value) (i j : Nat) (D : Ends) : WX := fun cls d σ H =>
  d = none ∧ PySem.W.exmOne K cls c = some true ∧ ∀ a, H a = none → D.nx (((σ.set i (some (.ref a))).set j (some (.ref a))).set i none) (upd H a (ExT cls a))
section
variable {X : Cx} {x n y : Str} {c : Value} {i j : Nat} {body : List Stmt} {np pos pos' p1 p2 p3 : Pos} {tb : WX → TS}
theorem ps_try_keep (hst : X.stack = X.env :: X.outer) (hfr : X.env.frame = some X.env.locals) (hex : X.ex = []) (hN : X.N.Nodup) (hi : X.N[i]? = some n) (hj : X.N[j]? = some y) (kn : X.env.kindOf n = some .local) (ky : X.env.kindOf y = some .local)
    (hdn : (n == ("__debug__" : Str)) = false) (hcn : (n == ("__classdict__" : Str)) = false) (hc : Names X x c)
    (hsw : swapsWith (.Name n p2) (some (.Name y p1)) p3.line X.env = pure false)
    (hb : ∀ (W : WX) (pn : List (Addr × Obj)) (xe : Value → Shared → Prop), Takes (X.tr pn xe) W → PassesOwn (model X.prog X.w) X.A X.env xe → PSs (X.tr pn xe) body (tb W)) :
    PS X (.Try body [.ExceptHandler (some (.Name x np)) (some n) [.Assign [.Name y p1] (.Name n p2) p3] pos'] [] [] pos) (fun D σ H => tb (wKeep X.K c i j D) D σ H) := by
  refine ⟨fun pins s σ H D I h => ?_⟩
  have okX := I.ok
  have frames : X.A.frames = some (X.env :: X.outer) := okX.frames.trans (by rw [hst])
  refine wpAny_Try_except (wpAny_mono ((hb (wKeep X.K c i j D) (X.pn ++ pins) (fun e s₁ => wpAny (model X.prog X.w) X.A (noteFrame e X.env) (fun _ s₂ => wpAny (model X.prog X.w) X.A (setFlight e none) (fun _ s₃ =>
    wpAny (model X.prog X.w) X.A (handleBy e X.env [.ExceptHandler (some (.Name x np)) (some n) [.Assign [.Name y p1] (.Name n p2) p3] pos']) (SP X pins D) X.xe s₃) X.xe s₂) X.xe s₁) (fun u s' fly => ?_) PassesOwn.looking).run [] s σ H D (I.toTry _) h) (fun f s1 hsp => ?_) fun _ _ z => z)
  · obtain ⟨a, B, sI, pn1, σ1, H1, cls, d, rfl, J0, nb, up, sky, na, os, ag, rfl, yes, go⟩ := fly
    have J : Inv X pins σ1 H1 sI := J0.ofTry okX
    rw [hst] at sky
    show wpAny _ X.A (noteFrame (.ref a) X.env) _ _ _
    refine Sky.land Zc.steady frames hfr sky fun h3 fl up3 => ?_
    have J3 : Inv X pins σ1 H1 { s' with heap := h3 } := J.landed nb fl.1 (up.trans up3) os ag
    have noB : B.get? a = none := fl.2.1
    obtain ⟨ob, us, eob, zob, dob⟩ := fl.there
    have out : a ∉ frs (X.env :: X.outer) := fun hm => by
      obtain ⟨_, o2, e2, nf⟩ := fl.2.2.1.mem hm
      cases e2.symm.trans eob
      exact nf _ dob
    have nL : a ≠ X.env.locals := fun z => out (List.mem_filterMap.mpr ⟨X.env, List.mem_cons_self, by rw [hfr, z]⟩)
    have nF : a ∉ X.fs := fun hm => by
      obtain ⟨e, he, q⟩ := List.mem_filterMap.mp hm
      exact out (List.mem_filterMap.mpr ⟨e, List.mem_cons_of_mem _ he, q⟩)
    have fresh : X.s_0.heap.get? a = none := by
      cases e : X.s_0.heap.get? a with
      | none => rfl
      | some o =>
        obtain ⟨o', e'⟩ := J.base.there a o e (by rw [hex]; exact fun z => nomatch z)
        have z := nb a o' e' (by rw [hst]; exact out)
        rw [noB] at z
        cases z
    have S3 := J3.suite eob dob na nL nF
    refine wpAny_handleBy_cons (codeAny_handlers_test ?_) (by intro q; cases q)
    have looks : PySem.W.Looks (model X.prog X.w) h3 (typeOf (.ref a)) cls := fun A Q E s k q => wpAny_typeOf_ref (k _ _ eob) (by rw [zob.1]; exact q)
    have match_ := PySem.W.exm_one (M := model X.prog X.w) (J3.kIn) looks yes
    have clause : ∀ {Q : Value → Shared → Prop} {E : Value → Shared → Prop}, Q c { s' with heap := h3 } → wpAny (model X.prog X.w) (X.A.mark (some (.ref a))) (eval (.Name x np) X.env) Q E { s' with heap := h3 } := fun {Q E} q => by
      rcases hc with ⟨hg, hd, hm | ⟨hm, hv, hnn⟩⟩
      · exact ld_glob (X := X.suite a ((a, ob) :: (X.pn ++ pins))) S3 hg hm q hd
      · exact ld_blt (X := X.suite a ((a, ob) :: (X.pn ++ pins))) S3 hg hm hv q hnn hd
    refine clause (match_.here (codeAny_handlers_suite_as (HandSPX.lands_againZ fl fun h4 fl4 up4 => ?_)))
    have J4 : Inv X pins σ1 H1 { s' with heap := h4 } := J.landed nb fl4.1 ((up.trans up3).trans up4) os ag
    obtain ⟨ob4, us4, e4, z4, d4⟩ := fl4.there
    have S4 := J4.suite e4 d4 na nL nF
    refine store_ok (X := X.suite a ((a, ob4) :: (X.pn ++ pins))) (v := .ref a) S4 hN hi (.inl kn) rfl (fun s5 S5 => ?_) (.inr kn)
    have one : PSs (X.suite a ((a, ob4) :: (X.pn ++ pins))) [.Assign [.Name y p1] (.Name n p2) p3] (tAsg (tVar i) (gName j)) :=
      pss_one (ps_set (X := X.suite a ((a, ob4) :: (X.pn ++ pins))) hN hj (.inl ky) (pe_var hi (.inl kn) hdn hcn) hsw (.inr ky))
    have li : i < σ1.length := by
      have q := J.len
      have q2 := (List.getElem?_eq_some_iff.mp hi).1
      omega
    have ahead : tAsg (tVar i) (gName j) { nx := fun σ6 H6 => σ6 = (σ1.set i (some (.ref a))).set j (some (.ref a)) ∧ H6 = H1, rt := fun _ _ => False } (σ1.set i (some (.ref a))) H1 := ⟨.ref a, by rw [List.getElem?_set_self li], rfl, rfl⟩
    refine wpAny_mono (one.run [] s5 _ H1 _ S5 ahead) (fun f s6 hsp => ?_) fun _ _ z => z.elim
    cases f with
    | next =>
      obtain ⟨σ6, H6, S6, rfl, rfl⟩ := hsp
      refine gone_ok (X := X.suite a ((a, ob4) :: (X.pn ++ pins))) S6 hN hi kn fun s7 S7 => ?_
      obtain ⟨g1, g2, g3, g4, g5⟩ := S7.pin (a, ob4) (List.mem_append.mpr (.inl List.mem_cons_self))
      have J7 : Inv X pins _ H6 s7 := S7.unsuite okX
      refine ⟨_, _, track J7 na fresh (exT_ok g1 z4 d4) g3 (fun x' c' e z => ?_) (fun p hp z => ?_), go a na⟩
      · obtain ⟨v, o, ho, hd⟩ := J7.cell x' c' e
        rw [z] at ho
        cases ho.symm.trans g1
        exact g5 v hd
      · obtain ⟨q1, _⟩ := J.pin p hp
        have q2 := (J7.pin p hp).1
        rw [z] at q1
        have fr2 : p.1 ∉ frs X.stack := fun hm => by
          rw [hst, z] at hm
          exact out hm
        have q3 := nb a _ q1 (by rw [← z]; exact fr2)
        rw [noB] at q3
        cases q3
    | brk => exact (hsp.choose_spec.choose_spec.2).elim
    | cont => exact (hsp.choose_spec.choose_spec.2).elim
    | ret u =>
      obtain ⟨_, _, _, _, _, z⟩ := hsp
      exact z.elim
  · cases f with
    | next =>
      obtain ⟨σ', H', J', q⟩ := hsp
      exact wpAny_execs_nil ⟨σ', H', J'.ofTry okX, q⟩
    | brk =>
      obtain ⟨σ', H', J', q⟩ := hsp
      exact ⟨σ', H', J'.ofTry okX, q⟩
    | cont =>
      obtain ⟨σ', H', J', q⟩ := hsp
      exact ⟨σ', H', J'.ofTry okX, q⟩
    | ret u =>
      obtain ⟨v, σ', H', J', r, q⟩ := hsp
      exact ⟨v, σ', H', J'.ofTry okX, r, q⟩
end
end GS
set_option Elab.async false
set_option linter.all false
set_option maxRecDepth 100000
set_option maxHeartbeats 4000000
/-! a call that names all its arguments, or all but the first -/
namespace GS
open PySem PySem.Spec PyProof.Rows L2
/-- n values, then the m named ones -/
def gA {α : Type} (n m : Nat) (xs ys : List α) : List α := if xs.length = n ∧ ys.length = m then xs ++ ys else []
theorem vals_app : ∀ {vs : List V} {us : List Value} {zs : List V} {ws : List Value}, Vals vs us → Vals zs ws → Vals (vs ++ zs) (us ++ ws)
  | _, _, _, _, .nil, h => h
  | _, _, _, _, .cons r t, h => .cons r (vals_app t h)
theorem gA_rel {n m : Nat} {vs : List V} {us : List Value} {zs : List V} {ws : List Value} (h1 : Vals vs us) (h2 : Vals zs ws) : Vals (gA n m vs zs) (gA n m us ws) := by
  unfold gA
  rw [h1.length, h2.length]
  split
  · exact vals_app h1 h2
  · exact .nil
theorem gA_len {n m : Nat} {us ws : List Value} (hn : 0 < n + m) (h : (gA n m us ws).length = n + m) : us.length = n ∧ ws.length = m := by
  unfold gA at h
  split at h
  · assumption
  · simp at h
    omega
section
variable {X : Cx} {CX : CXT} {k : Nat} {f : Addr} {fd : FuncData} {ps ks : List Str} {sp : Sp} {E : XK} {x : Str} {p pos : Pos} {kws : List Keyword} {tk : TA} {g : List Value → List Value → List Value} {gV : List V → List V → List V}
theorem pe_callK0 (F : FnOk X.prog X.w X.K X.mg X.base CX k f fd ps sp) (hr : Room k X.A) (hg : Gl X x) (hm : X.mg x = some (.ref f)) (hk : PySem.W.keepIn X.K (.ref f) = true) (hb : KBinds X.K fd ps ks g gV) (hx : Passes CX X E) (hkw : PK X kws tk)
    (hall : (backToKw pos (keywordEach kws X.env)).all (·.1.isSome) = true := by rfl) (hks : (backToKw pos (keywordEach kws X.env)).filterMap (·.1) = ks := by rfl) (hdb : (x == ("__debug__" : Str)) = false := by decide)
    (hpl : ((backTo pos (starEach [] X.env)).any (·.1) || (backToKw pos (keywordEach kws X.env)).any (·.1.isNone)) = false := by rfl) :
    PE X (.Call (.Name x p) [] kws pos) (tCallK sp gV E tNil tk) := by
  refine ⟨fun pins s σ H Q I h => ?_⟩
  refine wpAny_Call_Name_kw (ld_glob I hg hm ?_ hdb)
  refine PySem.W.callWith_KW0 (h₀ := X.base) I.ok.mod.kin hk hall ?_ hpl
  refine thn (hkw.run pos pins s σ H _ I h) fun ws s2 ⟨zs, H2, I2, rz, q2⟩ => ⟨I2.kIn, ?_⟩
  rw [hks]
  exact run_fnk (us := []) (vs := []) F hr hb hx I2 .nil rz q2
end
end GS
set_option Elab.async false
set_option linter.all false
set_option maxRecDepth 100000
set_option maxHeartbeats 4000000
namespace G21
open PySem PySem.Spec PyProof.Rows L2
/-! ### kinds of values -/
inductive Kn (H : Hp) : V → String → Prop where
  | non : Kn H .non "NoneType"
  | bl (b : Bool) : Kn H (.bl b) "bool"
  | int (i : Int) : Kn H (.int i) "int"
  | str (s : Str) : Kn H (.str s) "str"
  | lst {a : Addr} {xs : List V} (e : H a = some (.lst xs)) : Kn H (.ref a) "list"
  | tup {a : Addr} {xs : List V} (e : H a = some (.tup xs)) : Kn H (.ref a) "tuple"
theorem Kn.ty {K : PySem.W.Frag} {H : Hp} {x : V} {n : String} (k : Kn H x n) : TyX K H x (.type n) := by
  cases k with
  | non => exact .base .non
  | bl b => exact .base (.bl b)
  | int i => exact .base (.int i)
  | str s => exact .base (.str s)
  | lst e => exact .base (.lst e)
  | tup e => exact .base (.tup e)
def isI : V → Bool
  | .int _ => true
  | _ => false
def isBl : V → Bool
  | .bl _ => true
  | _ => false
theorem kn_int {H : Hp} {x : V} {n : String} (k : Kn H x n) : kitB n "int" = some (isI x || isBl x) := by
  cases k with
  | non => exact (by decide +kernel : kitB "NoneType" "int" = some false)
  | bl b => exact (by decide +kernel : kitB "bool" "int" = some true)
  | int i => exact (by decide +kernel : kitB "int" "int" = some true)
  | str s => exact (by decide +kernel : kitB "str" "int" = some false)
  | lst e => exact (by decide +kernel : kitB "list" "int" = some false)
  | tup e => exact (by decide +kernel : kitB "tuple" "int" = some false)
theorem kn_bool {H : Hp} {x : V} {n : String} (k : Kn H x n) : kitB n "bool" = some (isBl x) := by
  cases k with
  | non => exact (by decide +kernel : kitB "NoneType" "bool" = some false)
  | bl b => exact (by decide +kernel : kitB "bool" "bool" = some true)
  | int i => exact (by decide +kernel : kitB "int" "bool" = some false)
  | str s => exact (by decide +kernel : kitB "str" "bool" = some false)
  | lst e => exact (by decide +kernel : kitB "list" "bool" = some false)
  | tup e => exact (by decide +kernel : kitB "tuple" "bool" = some false)
theorem kn_tup {H : Hp} {x : V} {n : String} (k : Kn H x n) : kitB n "tuple" = some (n == "tuple") := by
  cases k with
  | non => decide +kernel
  | bl b => decide +kernel
  | int i => decide +kernel
  | str s => decide +kernel
  | lst e => decide +kernel
  | tup e => decide +kernel
def isIx (m : Int) : V → Bool
  | .int i => decide (0 ≤ i) && decide (i < m)
  | _ => false
def isSz : V → Bool
  | .int i => decide (1 ≤ i)
  | _ => false
theorem isI_int {x : V} (h : isI x = true) : ∃ i, x = .int i := by
  cases x <;> first | exact ⟨_, rfl⟩ | cases h
theorem isIx_no {x : V} {m : Int} (h : ¬ isI x = true) : isIx m x = false := by
  cases x <;> first | rfl | exact absurd rfl h
theorem isSz_no {x : V} (h : ¬ isI x = true) : isSz x = false := by
  cases x <;> first | rfl | exact absurd rfl h
/-! ### numbers, indexes, sizes -/
def spNum : Sp := fun vs H Q _ => ∃ (x : V) (n : String), vs = [x] ∧ Kn H x n ∧ Q (.bl (isI x)) H
def spIx : Sp := fun vs H Q _ => ∃ (x : V) (n : String) (m : Int), vs = [x, .int m] ∧ Kn H x n ∧ Q (.bl (isIx m x)) H
def spSz : Sp := fun vs H Q _ => ∃ (x : V) (n : String), vs = [x] ∧ Kn H x n ∧ Q (.bl (isSz x)) H
/-! D -/
/-! ### blocks, bodies, drawings -/
structure Bk where
  l : Int
  d : Int
  r : Int
  u : Int
deriving DecidableEq
def Bk.n (b : Bk) : List Int := [b.l, b.d, b.r, b.u]
def Bk.v (b : Bk) : List V := [.int b.l, .int b.d, .int b.r, .int b.u]
theorem Bk.nv (b : Bk) : b.n.map V.int = b.v := rfl
theorem Bk.n_inj {a b : Bk} (h : a.n = b.n) : a = b := by
  obtain ⟨a1, a2, a3, a4⟩ := a
  obtain ⟨b1, b2, b3, b4⟩ := b
  have e : [a1, a2, a3, a4] = [b1, b2, b3, b4] := h
  simp only [List.cons.injEq, and_true] at e
  obtain ⟨rfl, rfl, rfl, rfl⟩ := e
  rfl
/-- the addresses rs are those of the blocks bs -/
abbrev Bks (H : Hp) (rs : List Addr) (bs : List Bk) : Prop := Paired (fun r b => H r = some (.tup (Bk.v b))) rs bs
theorem pd_len {α β : Type} {F : α → β → Prop} : ∀ {as : List α} {bs : List β}, Paired F as bs → as.length = bs.length
  | _, _, .nil => rfl
  | _, _, .cons _ t => congrArg (· + 1) (pd_len t)
theorem pd_get {α β : Type} {F : α → β → Prop} : ∀ {as : List α} {bs : List β} {i : Nat} {b : β}, Paired F as bs → bs[i]? = some b → ∃ a, as[i]? = some a ∧ F a b
  | _, _, _, _, .nil, h => by simp at h
  | _, _, 0, _, .cons r _, h => ⟨_, rfl, by cases h; exact r⟩
  | _, _, i + 1, _, .cons _ t, h => pd_get (i := i) t h
theorem pd_imp {α β : Type} {F G : α → β → Prop} : ∀ {as : List α} {bs : List β}, Paired F as bs → (∀ a b, F a b → G a b) → Paired G as bs
  | _, _, .nil, _ => .nil
  | _, _, .cons r t, f => .cons (f _ _ r) (pd_imp t f)
def Dw (C : Addr) (H : Hp) (m : Addr) (bs : List Bk) : Prop :=
  ∃ (dx t : Addr) (rs : List Addr), H m = some (.ins C dx [("blocks", .ref t)]) ∧ H t = some (.tup (rs.map V.ref)) ∧ Bks H rs bs ∧ bs.length ≤ 12
/-- a body -/
def Bo (H : Hp) (p : Addr) (a b : Int) : Prop := H p = some (.tup [.int a, .int b])
/-! ### the promises -/
def spBody : Sp := fun vs H Q _ => ∃ (t : Addr) (a b : Int), vs = [.ref t] ∧ Bo H t a b ∧ Q (.bl (decide (1 ≤ a) && decide (1 ≤ b))) H
def spChkBody (X : Addr) : Sp := fun vs H Q E => ∃ (t : Addr) (a b : Int), vs = [.ref t] ∧ Bo H t a b ∧ (1 ≤ a ∧ 1 ≤ b → Q .non H) ∧ (¬ (1 ≤ a ∧ 1 ≤ b) → E (.ref X) none H)
def spChkDw (C X : Addr) : Sp := fun vs H Q E => ∃ m : Addr, vs = [.ref m] ∧ (((∃ dx fs, H m = some (.ins C dx fs)) ∧ Q .non H) ∨ ((∃ xs, H m = some (.lst xs)) ∧ E (.ref X) none H))
def spChkIx (C X : Addr) : Sp := fun vs H Q E => ∃ (m : Addr) (x : V) (n : String) (bs : List Bk), vs = [.ref m, x] ∧ Dw C H m bs ∧ Kn H x n ∧ (isIx bs.length x = true → Q .non H) ∧ (isIx bs.length x = false → E (.ref X) none H)
def spChkPair (C X Y : Addr) : Sp := fun vs H Q E => ∃ (m : Addr) (x y : V) (n n' : String) (bs : List Bk), vs = [.ref m, x, y] ∧ Dw C H m bs ∧ Kn H x n ∧ Kn H y n' ∧
  (isIx bs.length x = false → E (.ref X) none H) ∧ (isIx bs.length x = true → isIx bs.length y = false → E (.ref X) none H) ∧
  (∀ i j : Int, x = .int i → y = .int j → isIx bs.length x = true → isIx bs.length y = true → (i ≠ j → Q .non H) ∧ (i = j → E (.ref Y) none H))
/-- drawing and body: what check_here asks -/
def spHere (C X Y : Addr) : Sp := fun vs H Q E => ∃ (m t : Addr) (a b : Int), vs = [.ref m, .ref t] ∧ Bo H t a b ∧
  (((∃ dx fs, H m = some (.ins C dx fs)) ∧ (1 ≤ a ∧ 1 ≤ b → Q .non H) ∧ (¬ (1 ≤ a ∧ 1 ≤ b) → E (.ref Y) none H)) ∨ ((∃ xs, H m = some (.lst xs)) ∧ E (.ref X) none H))
def gx (p q : Bk) : Int := max (q.l - p.r) (p.l - q.r)
def gy (p q : Bk) : Int := max (q.d - p.u) (p.d - q.u)
theorem max_if (i j : Int) : (if j > i then j else i) = max i j := by
  by_cases h : i < j
  · rw [if_pos h]
    omega
  · rw [if_neg h]
    omega
def spGapOf : Sp := fun vs H Q _ => ∃ (p q : Addr) (x y : Bk), vs = [.ref p, .ref q] ∧ H p = some (.tup x.v) ∧ H q = some (.tup y.v) ∧ ∀ z, H z = none → Q (.ref z) (upd H z (.tup [.int (gx x y), .int (gy x y)]))
theorem ix_ok {m i : Int} (h : isIx m (.int i) = true) : 0 ≤ i ∧ i < m := by
  have h2 : (decide (0 ≤ i) && decide (i < m)) = true := h
  simp only [Bool.and_eq_true, decide_eq_true_eq] at h2
  exact h2

/-! E -/
/-! ### heaps that only grow -/
theorem same_new {H : Hp} {p : Addr} {o : HO} (h : H p = none) : Same H (upd H p o) := fun b x e => by
  rw [upd_ne (ne_of_none e h)]
  exact e
theorem Dw.same {C : Addr} {H H' : Hp} {m : Addr} {bs : List Bk} (e : Same H H') (h : Dw C H m bs) : Dw C H' m bs := by
  obtain ⟨dx, t, rs, h1, h2, h3, h4⟩ := h
  exact ⟨dx, t, rs, e _ _ h1, e _ _ h2, pd_imp h3 fun _ _ => e _ _, h4⟩
def nr (p q : Bk) (a b : Int) : Bool := decide (gx p q < a) && decide (gy p q < b)
/-- an index of the drawing's tuple -/
theorem at_blk {rs : List Addr} {r : Addr} {i : Nat} (h : rs[i]? = some r) : atI (rs.map V.ref) (i : Int) = some (.ref r) := by
  refine atI_nat ?_
  rw [List.getElem?_map, h]
  rfl
/-! ### pairs in a list -/
abbrev Prs (H : Hp) (as : List Addr) (ps : List (Int × Int)) : Prop := Paired (fun a p => H a = some (.tup [.int p.1, .int p.2])) as ps
def PrL (H : Hp) (z : Addr) (ps : List (Int × Int)) : Prop := ∃ as : List Addr, H z = some (.lst (as.map V.ref)) ∧ Prs H as ps
theorem pd_app {α β : Type} {F : α → β → Prop} : ∀ {as as' : List α} {bs bs' : List β}, Paired F as bs → Paired F as' bs' → Paired F (as ++ as') (bs ++ bs')
  | _, _, _, _, .nil, h => h
  | _, _, _, _, .cons r t, h => .cons r (pd_app t h)
def rowTo (f : Nat → Nat → Bool) (i k : Nat) : List (Int × Int) := ((List.range k).filter fun t => f i (i + 1 + t)).map fun t => ((i : Int), ((i + 1 + t : Nat) : Int))
def prsTo (f : Nat → Nat → Bool) (n i : Nat) : List (Int × Int) := (List.range i).flatMap fun i => rowTo f i (n - (i + 1))
theorem rowTo_succ (f : Nat → Nat → Bool) (i k : Nat) : rowTo f i (k + 1) = rowTo f i k ++ (if f i (i + 1 + k) = true then [((i : Int), ((i + 1 + k : Nat) : Int))] else []) := by
  unfold rowTo
  rw [List.range_succ, List.filter_append, List.map_append]
  congr 1
  by_cases h : f i (i + 1 + k) = true
  · rw [if_pos h]
    simp [List.filter, h]
  · rw [if_neg h]
    simp [List.filter, h]
theorem prsTo_succ (f : Nat → Nat → Bool) (n i : Nat) : prsTo f n (i + 1) = prsTo f n i ++ rowTo f i (n - (i + 1)) := by
  unfold prsTo
  rw [List.range_succ, List.flatMap_append, List.flatMap_cons, List.flatMap_nil, List.append_nil]
theorem rowTo_len (f : Nat → Nat → Bool) (i : Nat) : ∀ k, (rowTo f i k).length ≤ k
  | 0 => Nat.le_refl _
  | k + 1 => by
    rw [rowTo_succ, List.length_append]
    have h := rowTo_len f i k
    split
    · simp only [List.length_cons, List.length_nil]
      omega
    · simp only [List.length_nil]
      omega
theorem prsTo_len (f : Nat → Nat → Bool) (n : Nat) : ∀ i, (prsTo f n i).length ≤ i * n
  | 0 => by simp [prsTo]
  | i + 1 => by
    rw [prsTo_succ, List.length_append, Nat.succ_mul]
    have h := prsTo_len f n i
    have h2 := rowTo_len f i (n - (i + 1))
    omega
theorem sz_few {n : Nat} (h : n < 10000) : n < sizeLine := Nat.lt_of_lt_of_le h (by decide)
def nrF (bs : List Bk) (a b : Int) : Nat → Nat → Bool := fun i j => match bs[i]?, bs[j]? with
  | some p, some q => nr p q a b
  | _, _ => false
theorem nrF_at {bs : List Bk} {a b : Int} {i j : Nat} {p q : Bk} (hi : bs[i]? = some p) (hj : bs[j]? = some q) : nrF bs a b i j = nr p q a b := by
  unfold nrF
  rw [hi, hj]
theorem yes2 {σ : L2.St} {H : Hp} {A B : Hp → Prop} (h : A H) : tYes σ H fun b H3 => if b = true then A H3 else B H3 := by
  show (if (true : Bool) = true then A H else B H)
  rw [if_pos rfl]
  exact h
/-- a loop over a range: what its turn asks is left open (B) -/
theorem it_range {lo : Int} {n : Nat} {H1 : Hp} {Q : Hp → Prop} {B : V → Hp → (Hp → Prop) → Prop} (Pv : Nat → Hp → Prop) (h0 : Pv 0 H1) (hs : ∀ i H, i < n → Pv i H → B (.int (lo + i)) H (Pv (i + 1))) (hd : ∀ H, Pv n H → Q H) :
    ∃ W : Nat → Nat → Hp → Prop, (∃ m, W 0 m H1) ∧ ∀ i m H, W i m H →
      ((Itr lo n).stop i H ∧ Q H) ∨ ((Itr lo n).go i H ∧ ∃ Nx : Hp → Prop, (∀ H', Nx H' → ∃ m', m' < m ∧ W (i + 1) m' H') ∧ ∀ x H', (Itr lo n).yld i H x H' → B x H' Nx) := by
  refine ⟨fun i m H => m = n - i ∧ i ≤ n ∧ Pv i H, ⟨n, by simp, Nat.zero_le _, h0⟩, fun i m H hW => ?_⟩
  obtain ⟨rfl, hi, p⟩ := hW
  by_cases hlt : i < n
  · refine .inr ⟨hlt, Pv (i + 1), fun H' p' => ⟨n - (i + 1), by omega, rfl, hlt, p'⟩, fun x H' y => ?_⟩
    obtain ⟨e, z⟩ := y
    rw [e, z]
    exact hs i H hlt p
  · have e : i = n := by omega
    rw [e] at p
    exact .inl ⟨Nat.le_of_not_lt hlt, hd H p⟩
/-- a loop over a list that stays -/
theorem it_list {K : PySem.W.Frag} {a : Addr} {xs : List V} {H1 : Hp} {Q : Hp → Prop} {B : V → Hp → (Hp → Prop) → Prop} (Pv : Nat → Hp → Prop) (h0 : Pv 0 H1) (hl : ∀ i H, Pv i H → SqL K H a xs)
    (hs : ∀ i x H, xs[i]? = some x → Pv i H → B x H (Pv (i + 1))) (hd : ∀ H, Pv xs.length H → Q H) :
    ∃ W : Nat → Nat → Hp → Prop, (∃ m, W 0 m H1) ∧ ∀ i m H, W i m H →
      ((Itl K a).stop i H ∧ Q H) ∨ ((Itl K a).go i H ∧ ∃ Nx : Hp → Prop, (∀ H', Nx H' → ∃ m', m' < m ∧ W (i + 1) m' H') ∧ ∀ x H', (Itl K a).yld i H x H' → B x H' Nx) := by
  refine ⟨fun i m H => m = xs.length - i ∧ i ≤ xs.length ∧ Pv i H, ⟨xs.length, by simp, Nat.zero_le _, h0⟩, fun i m H hW => ?_⟩
  obtain ⟨rfl, hi, p⟩ := hW
  have q := hl i H p
  by_cases hlt : i < xs.length
  · refine .inr ⟨⟨xs, xs[i], q, by simp [hlt]⟩, Pv (i + 1), fun H' p' => ⟨xs.length - (i + 1), by omega, rfl, hlt, p'⟩, fun x H' y => ?_⟩
    obtain ⟨e, z⟩ := y
    rw [e]
    exact hs i x H (z xs q) p
  · have e : i = xs.length := by omega
    refine .inl ⟨⟨xs, q, Nat.le_of_not_lt hlt⟩, hd H ?_⟩
    rw [e] at p
    exact p
/-! ### promises -/
def spAreNear (C : Addr) : Sp := fun vs H Q _ => ∃ (m t : Addr) (i j : Nat) (a b : Int) (bs : List Bk) (p q : Bk), vs = [.ref m, .ref t, .int i, .int j] ∧ Dw C H m bs ∧ Bo H t a b ∧ bs[i]? = some p ∧ bs[j]? = some q ∧ ∀ H', Same H H' → Q (.bl (nr p q a b)) H'
def spAllNear (C : Addr) : Sp := fun vs H Q _ => ∃ (m t : Addr) (a b : Int) (bs : List Bk), vs = [.ref m, .ref t] ∧ Dw C H m bs ∧ Bo H t a b ∧ ∀ H' z, Same H H' → H z = none → PrL H' z (prsTo (nrF bs a b) bs.length bs.length) → Q (.ref z) H'
def lnr (p q : Bk) : List V := [.int (max 1 (gx p q + 1)), .int (max 1 (gy p q + 1))]
def spLeast (C : Addr) : Sp := fun vs H Q _ => ∃ (m : Addr) (i j : Nat) (bs : List Bk) (p q : Bk), vs = [.ref m, .int i, .int j] ∧ Dw C H m bs ∧ bs[i]? = some p ∧ bs[j]? = some q ∧ ∀ H' z, Same H H' → H z = none → H' z = some (.tup (lnr p q)) → Q (.ref z) H'

/-! F -/
/-- what becomes of two indexes: refused, one block twice, or two blocks -/
def PC (n : Nat) (x y : V) (EI EP : Prop) (G : Nat → Nat → Prop) : Prop :=
  (isIx n x = false → EI) ∧ (isIx n x = true → isIx n y = false → EI) ∧ ∀ i j : Nat, x = .int i → y = .int j → i < n → j < n → (i ≠ j → G i j) ∧ (i = j → EP)
/-- in the words of check_pair -/
theorem PC.three {n : Nat} {x y : V} {EI EP GG : Prop} {G : Nat → Nat → Prop} (h : PC n x y EI EP G) (f : ∀ i j : Nat, x = .int i → y = .int j → i < n → j < n → i ≠ j → G i j → GG) :
    (isIx n x = false → EI) ∧ (isIx n x = true → isIx n y = false → EI) ∧ (∀ i j : Int, x = .int i → y = .int j → isIx n x = true → isIx n y = true → (i ≠ j → GG) ∧ (i = j → EP)) := by
  refine ⟨h.1, h.2.1, fun i j hx hy e1 e2 => ?_⟩
  subst hx hy
  obtain ⟨a1, a2⟩ := ix_ok e1
  obtain ⟨b1, b2⟩ := ix_ok e2
  obtain ⟨i', rfl⟩ := Int.eq_ofNat_of_zero_le a1
  obtain ⟨j', rfl⟩ := Int.eq_ofNat_of_zero_le b1
  obtain ⟨c1, c2⟩ := h.2.2 i' j' rfl rfl (by omega) (by omega)
  exact ⟨fun z => f i' j' rfl rfl (by omega) (by omega) (fun w => z (by rw [w])) (c1 fun w => z (by rw [w])), fun z => c2 (by omega)⟩
def spGap (C XD XI XP : Addr) : Sp := fun vs H Q E => ∃ (m : Addr) (x y : V) (n n' : String) (bs : List Bk), vs = [.ref m, x, y] ∧ Dw C H m bs ∧ Kn H x n ∧ Kn H y n' ∧
  PC bs.length x y (E (.ref XI) none H) (E (.ref XP) none H) fun i j => ∃ p q, bs[i]? = some p ∧ bs[j]? = some q ∧ ∀ z, H z = none → Q (.ref z) (upd H z (.tup [.int (gx p q), .int (gy p q)]))
def spFrom (C XD XI XP : Addr) : Sp := fun vs H Q E => ∃ (m : Addr) (x y : V) (n n' : String) (bs : List Bk), vs = [.ref m, x, y] ∧ Dw C H m bs ∧ Kn H x n ∧ Kn H y n' ∧
  PC bs.length x y (E (.ref XI) none H) (E (.ref XP) none H) fun i j => ∃ p q, bs[i]? = some p ∧ bs[j]? = some q ∧ ∀ H' z, Same H H' → H z = none → H' z = some (.tup (lnr p q)) → Q (.ref z) H'
def spNear (C XB XI XP : Addr) : Sp := fun vs H Q E => ∃ (m t : Addr) (a b : Int) (x y : V) (n n' : String) (bs : List Bk), vs = [.ref m, .ref t, x, y] ∧ Dw C H m bs ∧ Bo H t a b ∧ Kn H x n ∧ Kn H y n' ∧
  (¬ (1 ≤ a ∧ 1 ≤ b) → E (.ref XB) none H) ∧ (1 ≤ a ∧ 1 ≤ b → PC bs.length x y (E (.ref XI) none H) (E (.ref XP) none H) fun i j => ∃ p q, bs[i]? = some p ∧ bs[j]? = some q ∧ ∀ H', Same H H' → Q (.bl (nr p q a b)) H')
def spPairs (C XD : Addr) : Sp := fun vs H Q E => ∃ (m t : Addr) (a b : Int), vs = [.ref m, .ref t] ∧ Bo H t a b ∧
  ((∃ bs, Dw C H m bs ∧ 1 ≤ a ∧ 1 ≤ b ∧ ∀ H' z, Same H H' → H z = none → PrL H' z (prsTo (nrF bs a b) bs.length bs.length) → Q (.ref z) H') ∨ ((∃ xs, H m = some (.lst xs)) ∧ E (.ref XD) none H))
theorem Dw.ins {C : Addr} {H : Hp} {m : Addr} {bs : List Bk} (h : Dw C H m bs) : ∃ dx fs, H m = some (.ins C dx fs) := by
  obtain ⟨dx, t, rs, h1, _⟩ := h
  exact ⟨dx, _, h1⟩

/-! G -/
/-- a loop over a tuple that stays -/
theorem it_tup {K : PySem.W.Frag} {a : Addr} {xs : List V} {H1 : Hp} {Q : Hp → Prop} {B : V → Hp → (Hp → Prop) → Prop} (Pv : Nat → Hp → Prop) (h0 : Pv 0 H1) (hl : ∀ i H, Pv i H → SqT K H a xs)
    (hs : ∀ i x H, xs[i]? = some x → Pv i H → B x H (Pv (i + 1))) (hd : ∀ H, Pv xs.length H → Q H) :
    ∃ W : Nat → Nat → Hp → Prop, (∃ m, W 0 m H1) ∧ ∀ i m H, W i m H →
      ((Itt K a).stop i H ∧ Q H) ∨ ((Itt K a).go i H ∧ ∃ Nx : Hp → Prop, (∀ H', Nx H' → ∃ m', m' < m ∧ W (i + 1) m' H') ∧ ∀ x H', (Itt K a).yld i H x H' → B x H' Nx) := by
  refine ⟨fun i m H => m = xs.length - i ∧ i ≤ xs.length ∧ Pv i H, ⟨xs.length, by simp, Nat.zero_le _, h0⟩, fun i m H hW => ?_⟩
  obtain ⟨rfl, hi, p⟩ := hW
  have q := hl i H p
  by_cases hlt : i < xs.length
  · refine .inr ⟨⟨xs, xs[i], q, by simp [hlt]⟩, Pv (i + 1), fun H' p' => ⟨xs.length - (i + 1), by omega, rfl, hlt, p'⟩, fun x H' y => ?_⟩
    obtain ⟨e, z⟩ := y
    rw [e]
    exact hs i x H (z xs q) p
  · have e : i = xs.length := by omega
    refine .inl ⟨⟨xs, q, Nat.le_of_not_lt hlt⟩, hd H ?_⟩
    rw [e] at p
    exact p
theorem rep_snoc (n : Nat) (b : Bool) : (List.replicate n b).map V.bl ++ [V.bl b] = (List.replicate (n + 1) b).map V.bl := by
  rw [List.replicate_succ', List.map_append]
  rfl
/-- one truth more in a list that is ours alone -/
theorem more_true {H H3 H4 : Hp} {D : Addr} {i : Nat} {b : Bool} (hD0 : H D = none) (S3 : Same H H3) (e3 : H3 D = some (.lst ((List.replicate i b).map V.bl))) (S4 : Same H3 H4) :
    H4 D = some (.lst ((List.replicate i b).map V.bl)) ∧ Same H (upd H4 D (.lst ((List.replicate i b).map V.bl ++ [.bl b]))) ∧ upd H4 D (.lst ((List.replicate i b).map V.bl ++ [.bl b])) D = some (.lst ((List.replicate (i + 1) b).map V.bl)) := by
  refine ⟨S4 _ _ e3, fun c o e => ?_, ?_⟩
  · have nb : c ≠ D := fun q => by
      rw [q, hD0] at e
      cases e
    rw [upd_ne nb]
    exact S4 _ _ (S3 _ _ e)
  · rw [upd_same, rep_snoc]
theorem all_rep (n : Nat) : (List.replicate n true).all id = true := by
  induction n with
  | zero => rfl
  | succ n ih => rw [List.replicate_succ, List.all_cons, ih] <;> rfl
def Bk.ok (b : Bk) : Prop := b.l < b.r ∧ b.d < b.u
theorem pd_perm {α β : Type} {F : α → β → Prop} : ∀ {as' as : List α}, as'.Perm as → ∀ {bs : List β}, Paired F as bs → ∃ bs', Paired F as' bs' ∧ bs'.Perm bs := by
  intro as' as p
  induction p with
  | nil => exact fun h => ⟨_, h, .refl _⟩
  | cons x p ih =>
    intro bs h
    cases h with
    | cons r t =>
      obtain ⟨bs', h1, h2⟩ := ih t
      exact ⟨_ :: bs', .cons r h1, .cons _ h2⟩
  | swap x y l =>
    intro bs h
    cases h with
    | cons r t =>
      cases t with
      | cons r2 t2 => exact ⟨_, .cons r2 (.cons r t2), .swap ..⟩
  | trans p1 p2 ih1 ih2 =>
    intro bs h
    obtain ⟨b1, h1, q1⟩ := ih2 h
    obtain ⟨b2, h2, q2⟩ := ih1 h1
    exact ⟨b2, h2, q2.trans q1⟩
/-- what is told of each two of the one is told of the other -/
theorem pd_pairwise {α β : Type} {F : α → β → Prop} {R : α → α → Prop} {S : β → β → Prop} (hRS : ∀ a a' b b', F a b → F a' b' → R a a' → S b b') : ∀ {as : List α} {bs : List β}, Paired F as bs → as.Pairwise R → bs.Pairwise S
  | _, _, .nil, _ => .nil
  | a :: as, b :: bs, .cons r t, h => by
    obtain ⟨h1, h2⟩ := List.pairwise_cons.mp h
    refine List.pairwise_cons.mpr ⟨fun b' hb => ?_, pd_pairwise hRS t h2⟩
    obtain ⟨i, hi⟩ := List.mem_iff_getElem?.mp hb
    obtain ⟨a', g, f⟩ := pd_get t hi
    exact hRS _ _ _ _ r f (h1 a' (List.mem_of_getElem? g))
theorem unref {ys : List V} {rs : List Addr} (h : ys.Perm (rs.map V.ref)) : ∃ rs' : List Addr, ys = rs'.map V.ref ∧ rs'.Perm rs := by
  have m : ∀ zs : List V, (∀ y ∈ zs, ∃ a, y = V.ref a) → ∃ rs' : List Addr, zs = rs'.map V.ref := by
    intro zs
    induction zs with
    | nil => exact fun _ => ⟨[], rfl⟩
    | cons y zs ih =>
      intro hy
      obtain ⟨a, rfl⟩ := hy y (List.mem_cons_self ..)
      obtain ⟨l, rfl⟩ := ih fun z hz => hy z (List.mem_cons_of_mem _ hz)
      exact ⟨a :: l, rfl⟩
  obtain ⟨rs', rfl⟩ := m ys fun y hy => by
    obtain ⟨a, _, e⟩ := List.mem_map.mp (h.mem_iff.mp hy)
    exact ⟨a, e.symm⟩
  refine ⟨rs', rfl, ?_⟩
  have h2 := h.map fun y : V => match y with
    | .ref a => a
    | _ => 0
  rw [List.map_map, List.map_map] at h2
  have e : ∀ l : List Addr, l.map ((fun y : V => match y with
    | .ref a => a
    | _ => 0) ∘ V.ref) = l := fun l => by
    induction l with
    | nil => rfl
    | cons x l ih => rw [List.map_cons, ih] <;> rfl
  rw [e, e] at h2
  exact h2
/-- ascending blocks -/
def Asc (bs : List Bk) : Prop := bs.Pairwise fun a b => HT.lexLt b.n a.n = false
theorem v_int_inj : ∀ {ns ms : List Int}, ns.map V.int = ms.map V.int → ns = ms
  | [], [], _ => rfl
  | [], _ :: _, h => by cases h
  | _ :: _, [], h => by cases h
  | n :: ns, m :: ms, h => by
    rw [List.map_cons, List.map_cons] at h
    injection h with h1 h2
    injection h1 with h3
    rw [h3, v_int_inj h2]
/-- what a tracked tuple may be read as -/
theorem sqT_tup {K : PySem.W.Frag} {H : Hp} {t : Addr} {xs ys : List V} (hk : K.lookup t = none) (h : H t = some (.tup xs)) (q : SqT K H t ys) : ys = xs := by
  rcases q with (q | ⟨o, q⟩) | q
  · rw [h] at q
    cases q
    rfl
  · rw [h] at q
    cases q
  · obtain ⟨o, its, n, e, _⟩ := q
    rw [hk] at e
    cases e

/-! H -/
def spIsList : Sp := fun vs H Q _ => ∃ (l : Addr) (xs : List V), vs = [.ref l] ∧ H l = some (.lst xs) ∧ ∀ H', Same H H' → Q (.bl true) H'
def spIsBlock : Sp := fun vs H Q _ => ∃ (r : Addr) (b : Bk), vs = [.ref r] ∧ H r = some (.tup b.v) ∧ b.ok ∧ ∀ H', Same H H' → Q (.bl true) H'
def spAreBlocks : Sp := fun vs H Q _ => ∃ (l : Addr) (rs : List Addr) (bs : List Bk), vs = [.ref l] ∧ H l = some (.lst (rs.map V.ref)) ∧ Bks H rs bs ∧ (∀ b ∈ bs, b.ok) ∧ bs.Nodup ∧ bs.length ≤ 12 ∧ ∀ H', Same H H' → Q (.bl true) H'
def spInit (C : Addr) : Sp := fun vs H Q _ => ∃ (m l dx : Addr) (rs : List Addr) (bs : List Bk), vs = [.ref m, .ref l] ∧ H m = some (.ins C dx []) ∧ H l = some (.lst (rs.map V.ref)) ∧ Bks H rs bs ∧ (∀ b ∈ bs, b.ok) ∧ bs.Nodup ∧ bs.length ≤ 12 ∧
  ∀ H' bs', (∀ b o, b ≠ m → H b = some o → H' b = some o) → Dw C H' m bs' → bs'.Perm bs → Asc bs' → Q .non H'
theorem pd_all {α β : Type} {F : α → β → Prop} {G : α → Prop} : ∀ {as : List α} {bs : List β}, Paired F as bs → (∀ a b, F a b → b ∈ bs → G a) → ∀ a ∈ as, G a
  | _, _, .nil, _, a, h => absurd h (by simp)
  | _, _, .cons r t, f, a, h => by
    rcases List.mem_cons.mp h with e | h
    · rw [e]
      exact f _ _ r (List.mem_cons_self ..)
    · exact pd_all t (fun x y g m => f x y g (List.mem_cons_of_mem _ m)) a h
theorem pd_at {α β : Type} {F : α → β → Prop} : ∀ {as : List α} {bs : List β} {i : Nat} {a : α}, Paired F as bs → as[i]? = some a → ∃ b, bs[i]? = some b ∧ F a b
  | _, _, _, _, .nil, h => by simp at h
  | _, _, 0, _, .cons r _, h => ⟨_, rfl, by cases h; exact r⟩
  | _, _, i + 1, _, .cons _ t, h => pd_at (i := i) t h
theorem at_map {α : Type} {f : α → V} {l : List α} {i : Nat} {x : V} (h : (l.map f)[i]? = some x) : ∃ y, l[i]? = some y ∧ x = f y := by
  rw [List.getElem?_map] at h
  cases e : l[i]? with
  | none =>
    rw [e] at h
    cases h
  | some y =>
    rw [e] at h
    exact ⟨y, rfl, (Option.some.inj h).symm⟩
/-- the two lists as one of pairs -/
theorem pd_zip {F : Addr → Bk → Prop} : ∀ {rs : List Addr} {bs : List Bk}, Paired F rs bs → ((rs.zip (bs.map Bk.n)).map (fun p => V.ref p.1) = rs.map V.ref ∧ (rs.zip (bs.map Bk.n)).map (·.2) = bs.map Bk.n)
  | _, _, .nil => ⟨rfl, rfl⟩
  | _, _, .cons r t => by
    obtain ⟨h1, h2⟩ := pd_zip t
    exact ⟨by rw [List.map_cons, List.zip_cons_cons, List.map_cons, List.map_cons, h1], by rw [List.map_cons, List.zip_cons_cons, List.map_cons, h2]⟩
theorem pd_zip_mem {F : Addr → Bk → Prop} : ∀ {rs : List Addr} {bs : List Bk}, Paired F rs bs → ∀ p ∈ rs.zip (bs.map Bk.n), ∃ b, b ∈ bs ∧ p.2 = b.n ∧ F p.1 b
  | _, _, .nil, p, h => absurd h (by simp)
  | _, _, .cons (a := _) (b := _) r t, p, h => by
    rw [List.map_cons, List.zip_cons_cons] at h
    rcases List.mem_cons.mp h with e | h
    · exact ⟨_, List.mem_cons_self .., by rw [e], by rw [e]; exact r⟩
    · obtain ⟨b, m, e, f⟩ := pd_zip_mem t p h
      exact ⟨b, List.mem_cons_of_mem _ m, e, f⟩
theorem nodup_n : ∀ {bs : List Bk}, bs.Nodup → (bs.map Bk.n).Nodup
  | [], _ => .nil
  | b :: bs, h => by
    obtain ⟨h1, h2⟩ := List.nodup_cons.mp h
    rw [List.map_cons]
    refine List.nodup_cons.mpr ⟨fun z => ?_, nodup_n h2⟩
    obtain ⟨c, hc, e⟩ := List.mem_map.mp z
    exact h1 (by rw [← Bk.n_inj e]; exact hc)

/-! J -/
/-! ### the draws -/
abbrev drK (g c : Addr) (n t : Int) : List (Key × V) := [(.inr "great", .ref g), (.inr "cells", .ref c), (.inr "left", .int n), (.inr "turn", .int t)]
/-- a dict of draws stands at d -/
def Dr (H : Hp) (d g c : Addr) (t : Int) : Prop := ∃ (gs cs : List Int) (n : Int), H d = some (.dK (drK g c n t)) ∧ H g = some (.lst (gs.map V.int)) ∧ H c = some (.lst (cs.map V.int)) ∧ g ≠ c ∧
  (∀ x ∈ gs, 0 ≤ x) ∧ (∀ x ∈ cs, 0 ≤ x ∧ x < 2147483629) ∧ 0 ≤ n ∧ 0 ≤ t
/-- what a draw leaves as it was -/
def Fr (d g : Addr) (H H' : Hp) : Prop := ∀ b o, b ≠ d → b ≠ g → H b = some o → H' b = some o
theorem Fr.refl (d g : Addr) (H : Hp) : Fr d g H H := fun _ _ _ _ h => h
theorem Fr.trans {d g : Addr} {H H1 H2 : Hp} (a : Fr d g H H1) (b : Fr d g H1 H2) : Fr d g H H2 := fun c o h1 h2 h => b c o h1 h2 (a c o h1 h2 h)
theorem Fr.of {d g : Addr} {H H' : Hp} (e : Same H H') : Fr d g H H' := fun b o _ _ h => e b o h
theorem val_great (g c : Addr) (n t : Int) : valV (drK g c n t) (.inr "great") = some (.ref g) := by rfl
theorem val_cells (g c : Addr) (n t : Int) : valV (drK g c n t) (.inr "cells") = some (.ref c) := by rfl
theorem val_left (g c : Addr) (n t : Int) : valV (drK g c n t) (.inr "left") = some (.int n) := by rfl
theorem val_turn (g c : Addr) (n t : Int) : valV (drK g c n t) (.inr "turn") = some (.int t) := by rfl
theorem put_left (g c : Addr) (n t m : Int) : putK (drK g c n t) (.inr "left") (.int m) = drK g c m t := by rfl
theorem put_turn (g c : Addr) (n t m : Int) : putK (drK g c n t) (.inr "turn") (.int m) = drK g c n m := by rfl
def spBegun (K : PySem.W.Frag) : Sp := fun vs H Q _ => ∃ (a : Addr) (ns : List Int), vs = [.ref a] ∧ SqL K H a (ns.map V.int) ∧ ns.length ≤ 63 ∧
  ∀ H' d g c, Same H H' → H d = none → H g = none → H c = none → Dr H' d g c 0 → Q (.ref d) H'
theorem pow18 : (10 : Int) ^ (18 : Int).toNat = 1000000000000000000 := by decide
/-- a list of our own, written -/
theorem own_w {H H3 H4 : Hp} {D : Addr} {o : HO} (hD0 : H D = none) (S3 : Same H H3) (S4 : Same H3 H4) : Same H (upd H4 D o) := fun c x e => by
  have nb : c ≠ D := fun q => by
    rw [q, hD0] at e
    cases e
  rw [upd_ne nb]
  exact S4 _ _ (S3 _ _ e)
theorem snoc_int (gs : List Int) (x : Int) : gs.map V.int ++ [V.int x] = (gs ++ [x]).map V.int := by
  rw [List.map_append]
  rfl
theorem nn_abs (z : Int) : 0 ≤ (if z < 0 then -z else z) := by
  by_cases h : z < 0
  · rw [if_pos h]
    omega
  · rw [if_neg h]
    omega

/-! behind _law_begun -/
theorem dg_great {H : Hp} {d g c : Addr} {n t : Int} (h : H d = some (.dK (drK g c n t))) : DGet H d (.str "great") (some (.ref g)) := by
  have q := DGet.k (k := .inr "great") h
  rw [val_great] at q
  exact q
theorem dg_cells {H : Hp} {d g c : Addr} {n t : Int} (h : H d = some (.dK (drK g c n t))) : DGet H d (.str "cells") (some (.ref c)) := by
  have q := DGet.k (k := .inr "cells") h
  rw [val_cells] at q
  exact q
theorem dg_left {H : Hp} {d g c : Addr} {n t : Int} (h : H d = some (.dK (drK g c n t))) : DGet H d (.str "left") (some (.int n)) := by
  have q := DGet.k (k := .inr "left") h
  rw [val_left] at q
  exact q
theorem dg_turn {H : Hp} {d g c : Addr} {n t : Int} (h : H d = some (.dK (drK g c n t))) : DGet H d (.str "turn") (some (.int t)) := by
  have q := DGet.k (k := .inr "turn") h
  rw [val_turn] at q
  exact q
theorem dp_left {H : Hp} {d g c : Addr} {n t : Int} (m : Int) (h : H d = some (.dK (drK g c n t))) : DPut H d (.str "left") (.int m) (upd H d (.dK (drK g c m t))) := by
  have q := DPut.k (k := .inr "left") (v := .int m) h (by show 4 < sizeLine; decide)
  rw [put_left] at q
  exact q
theorem dp_turn {H : Hp} {d g c : Addr} {n t : Int} (m : Int) (h : H d = some (.dK (drK g c n t))) : DPut H d (.str "turn") (.int m) (upd H d (.dK (drK g c n m))) := by
  have q := DPut.k (k := .inr "turn") (v := .int m) h (by show 4 < sizeLine; decide)
  rw [put_turn] at q
  exact q
/-! ### one more long number -/
def spMixed : Sp := fun vs H Q _ => ∃ (d g c : Addr) (t : Int), vs = [.ref d] ∧ Dr H d g c t ∧ t ≤ 1000000000000 ∧ ∀ H' n, 0 ≤ n → Fr d g H H' → Dr H' d g c (t + 1) → Q (.int n) H'
/-! K -/
def spTake : Sp := fun vs H Q _ => ∃ (d g c : Addr) (t m : Int), vs = [.ref d, .int m] ∧ Dr H d g c t ∧ t ≤ 1000000000000 ∧ 0 < m ∧ m < 1000000000 ∧ ∀ H' r t', 0 ≤ r → r < m → t' ≤ t + 1 → Fr d g H H' → Dr H' d g c t' → Q (.int r) H'
/-- some(xs) of what was drawn -/
def spPick : Sp := fun vs H Q _ => ∃ (d g c l : Addr) (t : Int) (xs : List V), vs = [.ref d, .ref l] ∧ Dr H d g c t ∧ t ≤ 1000000000000 ∧ l ≠ g ∧ H l = some (.lst xs) ∧ xs ≠ [] ∧ xs.length < 1000000 ∧ ∀ H' x t', x ∈ xs → t' ≤ t + 1 → Fr d g H H' → Dr H' d g c t' → Q x H'
/-- another heap in which the draws stand as they stood -/
theorem Dr.grow {H H' : Hp} {d g c : Addr} {t : Int} (h : Dr H d g c t) (e : Same H H') : Dr H' d g c t := by
  obtain ⟨gs, cs, n, a1, a2, a3, r⟩ := h
  exact ⟨gs, cs, n, e _ _ a1, e _ _ a2, e _ _ a3, r⟩
theorem seq_at {j n : Nat} (h : j < n) : seqIndex? (j : Int) n = some j := by
  unfold seqIndex?
  simp
  omega

/-! L -/
/-! ### an error caught and told -/
theorem takes_len {X : Cx} {W : WX} (t : Takes X W) : Takes X (fun cls d σ H => σ.length = X.N.length → W cls d σ H) := fun u s' z => by
  obtain ⟨a, B, sI, pins, σ, H, cls, d, e, I, nb, up, sky, na, os, ag, w⟩ := z
  exact t u s' ⟨a, B, sI, pins, σ, H, cls, d, e, I, nb, up, sky, na, os, ag, w I.len⟩
def TTc (K : PySem.W.Frag) (CS : Addr) : (XK → Hp → VK → Prop) → Hp → VK → Prop := fun tl H Q =>
  tl (fun cls d H' => d = none ∧ PySem.W.exmOne K cls (.ref CS) = some true ∧ ∀ a, H' a = none → Q (.ref a) (upd H' a (GS.ExT cls a))) H (fun _ H' => ∃ v, (some (some V.non) : Option (Option V)) = some (some v) ∧ Q v H')
/-- isinstance(e, C), e a kept exception -/
def rIsT (K : PySem.W.Frag) : List V → Hp → VK → Prop := fun xs H Q => ∃ (a D C : Addr) (b : Bool), xs = [.ref a, .ref C] ∧ ExcC K D ∧ H a = some (GS.ExT (.ref D) a) ∧ PySem.W.kitOne K (.ref D) (.ref C) = some b ∧ Q (.bl b) H
theorem call_isT {X : Cx} : CallR X (.builtin "isinstance") (rIsT X.K) := by
  intro pins s σ H xs us Q I r h
  obtain ⟨a, D, C, b, rfl, Z, ha, e, q⟩ := h
  obtain ⟨u1, u2, rfl, r1, r2⟩ := vals2 r
  cases r1
  cases r2
  obtain ⟨⟨ob, us, eob, zob, dob⟩, _, _⟩ := I.hok a _ ha
  have J : PySem.W.InstAt s.heap a ob D none := by
    obtain ⟨oc, od, odt, osl⟩ := ob
    obtain ⟨h1, h2⟩ := zob
    dsimp only at h1 h2 dob
    subst h1 h2 dob
    exact ⟨eob, rfl, rfl, trivial⟩
  exact PySem.W.kia_one (PySem.W.handS_kitx_exc Z.hg Z.hk Z.hs Z.hd Z.ha Z.hn Z.ht Z.hm) I.kIn J e (fun z => nomatch z) fun tk => ⟨.bl b, H, I.tok tk, rfl, q⟩
theorem caught_gives {X : Cx} {q : Str} {g CS : Addr} {cdg : Value} (hme : X.mg "GapError" = some (.ref CS)) :
    LamX.GivesTo X N_l_caught "_law_caught" (defScope S_l_caught) g cdg (defBody S_l_caught) "task" q (TTc X.K CS) := by
  intro f c' s H Q tl act hc h
  refine ⟨_, pss_cons (ps_set (i := 1) c_l_caught.nd rfl (Or.inl rfl) pe_non) (pss_cons (GS.ps_try_keep (i := 2) (j := 1) (c := .ref CS)
      (tb := fun W D σ H => ∃ Ech : XK, (∀ cls d σ' H', Ech cls d H' → σ'.length = 3 → W cls d σ' H') ∧ σ[0]? = some (some (.ref f)) ∧ H c' = some (LamX.CodeO c' q) ∧ tl Ech H (fun _ H' => D.nx σ H'))
      rfl rfl rfl c_l_caught.nd rfl rfl rfl rfl (by decide) (by decide) ⟨by rfl, by decide, .inl hme⟩ (by rfl) (fun W pn xe tk _ => ?_)) (pss_one (ps_ret (pv 1)))), ?_⟩
  · refine ⟨fun pins s' σ H' D I h' => ?_⟩
    obtain ⟨Ech, hW, h1, h2, h3⟩ := h'
    exact (pss_one (ps_expr (act (fun cls d σ H => σ.length = 3 → W cls d σ H) pn xe Ech _ _ (takes_len tk) hW))).run pins s' σ H' D I ⟨h1, h2, h3⟩
  · refine ⟨fun cls d H' => d = none ∧ PySem.W.exmOne X.K cls (.ref CS) = some true ∧ ∀ a, H' a = none → Q (.ref a) (upd H' a (GS.ExT cls a)), fun cls d σ' H' hE hl => ⟨hE.1, hE.2.1, fun a ha => ?_⟩, rfl, hc, h⟩
    refine ⟨.ref a, ?_, hE.2.2 a ha⟩
    match σ', hl with
    | [_, _, _], _ => rfl

/-! M -/
def spSays : Sp := fun vs H Q _ => ∃ b c : Bool, vs = [.bl b, .bl c] ∧ Q (.bl (b == c)) H
def spNumbers : Sp := fun vs H Q _ => ∃ (z : Addr) (x y : Int), vs = [.ref z, .int 2] ∧ Bo H z x y ∧ ∀ H', Same H H' → Q (.bl true) H'
/-- the law's list of blocks -/
def Bl (H : Hp) (l : Addr) (bs : List Bk) : Prop := ∃ rs : List Addr, H l = some (.lst (rs.map V.ref)) ∧ Bks H rs bs
theorem Bl.same {H H' : Hp} {l : Addr} {bs : List Bk} (e : Same H H') (h : Bl H l bs) : Bl H' l bs := by
  obtain ⟨rs, h1, h2⟩ := h
  exact ⟨rs, e _ _ h1, pd_imp h2 fun _ _ => e _ _⟩
def spDue : Sp := fun vs H Q _ => ∃ (l : Addr) (i j : Nat) (bs : List Bk) (p q : Bk), vs = [.ref l, .int i, .int j] ∧ Bl H l bs ∧ bs[i]? = some p ∧ bs[j]? = some q ∧ ∀ H' z, Same H H' → H z = none → Bo H' z (gx p q) (gy p q) → Q (.ref z) H'
def spLNear : Sp := fun vs H Q _ => ∃ (l t : Addr) (i j : Nat) (a b : Int) (bs : List Bk) (p q : Bk), vs = [.ref l, .ref t, .int i, .int j] ∧ Bl H l bs ∧ bs[i]? = some p ∧ bs[j]? = some q ∧ p.ok ∧ q.ok ∧ Bo H t a b ∧ 1 ≤ a ∧ 1 ≤ b ∧ Q (.bl (nr p q a b)) H
theorem nr_iff {p q : Bk} {a b : Int} (hp : p.ok) (hq : q.ok) (ha : 1 ≤ a) (hb : 1 ≤ b) : nr p q a b = (!decide (min p.r q.r ≤ max p.l q.l - a) && !decide (min p.u q.u ≤ max p.d q.d - b)) := by
  obtain ⟨p1, p2⟩ := hp
  obtain ⟨q1, q2⟩ := hq
  unfold nr gx gy
  rw [← decide_not, ← decide_not]
  have e1 : (max (q.l - p.r) (p.l - q.r) < a) = ¬ (min p.r q.r ≤ max p.l q.l - a) := propext (by omega)
  have e2 : (max (q.d - p.u) (p.d - q.u) < b) = ¬ (min p.u q.u ≤ max p.d q.d - b) := propext (by omega)
  simp only [e1, e2]
theorem min_if (i j : Int) : (if j < i then j else i) = min i j := by
  by_cases h : j < i
  · rw [if_pos h]
    omega
  · rw [if_neg h]
    omega

/-! N -/
def spLPairs : Sp := fun vs H Q _ => ∃ (l t : Addr) (a b : Int) (bs : List Bk), vs = [.ref l, .ref t] ∧ Bl H l bs ∧ (∀ x ∈ bs, x.ok) ∧ bs.length ≤ 12 ∧ Bo H t a b ∧ 1 ≤ a ∧ 1 ≤ b ∧ ∀ H' z, Same H H' → H z = none → PrL H' z (prsTo (nrF bs a b) bs.length bs.length) → Q (.ref z) H'
def spLLeast : Sp := fun vs H Q _ => ∃ (l z : Addr) (i j : Nat) (bs : List Bk) (p q : Bk), vs = [.ref l, .int i, .int j, .ref z] ∧ Bl H l bs ∧ bs[i]? = some p ∧ bs[j]? = some q ∧ p.ok ∧ q.ok ∧ H z = some (.tup (lnr p q)) ∧ ∀ H', Same H H' → Q (.bl true) H'
theorem Bl.len {H : Hp} {l : Addr} {bs : List Bk} (h : Bl H l bs) : ∃ rs : List Addr, H l = some (.lst (rs.map V.ref)) ∧ (rs.map V.ref).length = bs.length := by
  obtain ⟨rs, h1, h2⟩ := h
  exact ⟨rs, h1, by rw [List.length_map, pd_len h2]⟩
theorem PrL.same {H H' : Hp} {z : Addr} {ps : List (Int × Int)} (e : Same H H') (h : PrL H z ps) : PrL H' z ps := by
  obtain ⟨as, h1, h2⟩ := h
  exact ⟨as, e _ _ h1, pd_imp h2 fun _ _ => e _ _⟩
/-- a pair more in a list D of our own -/
theorem pr_more {H H3 : Hp} {D z : Addr} {ps : List (Int × Int)} {x y : Int} (hD0 : H D = none) (S3 : Same H H3) (hP : PrL H3 D ps) (hz : H3 z = none) :
    ∃ acc : List V, upd H3 z (.tup [.int x, .int y]) D = some (.lst acc) ∧ acc.length = ps.length ∧ Same H (upd (upd H3 z (.tup [.int x, .int y])) D (.lst (acc ++ [.ref z]))) ∧ PrL (upd (upd H3 z (.tup [.int x, .int y])) D (.lst (acc ++ [.ref z]))) D (ps ++ [(x, y)]) := by
  obtain ⟨as, h1, h2⟩ := hP
  have nD : D ≠ z := ne_of_none h1 hz
  refine ⟨as.map V.ref, by rw [upd_ne nD]; exact h1, by rw [List.length_map, pd_len h2], own_w hD0 S3 (same_new hz), as ++ [z], ?_, ?_⟩
  · rw [upd_same, List.map_append]
    rfl
  · refine pd_app (pd_imp h2 fun r p e => ?_) (.cons ?_ .nil)
    · have nb : r ≠ D := ne_of e h1 (by intro q; cases q)
      rw [upd_ne nb, upd_ne (ne_of_none e hz)]
      exact e
    · rw [upd_ne nD.symm, upd_same]

/-! O -/
/-- all in a new list, in some order -/
def spShuf : Sp := fun vs H Q _ => ∃ (d g c l : Addr) (t : Int) (xs : List V), vs = [.ref d, .ref l] ∧ Dr H d g c t ∧ t ≤ 900000000000 ∧ l ≠ g ∧ H l = some (.lst xs) ∧ xs.length ≤ 100 ∧
  ∀ H' z ys t', ys.Perm xs → t' ≤ t + xs.length → H z = none → H' z = some (.lst ys) → Fr d g H H' → Dr H' d g c t' → Q (.ref z) H'
def spBlock : Sp := fun vs H Q _ => ∃ (d g c : Addr) (t m : Int), vs = [.ref d, .int m] ∧ Dr H d g c t ∧ t ≤ 900000000000 ∧ 0 < m ∧ m < 1000000000 ∧
  ∀ H' z b t', b.ok → t' ≤ t + 4 → H z = none → H' z = some (.tup (Bk.v b)) → Fr d g H H' → Dr H' d g c t' → Q (.ref z) H'
theorem Dr.dg {H : Hp} {d g c : Addr} {t : Int} (h : Dr H d g c t) : (∃ kvs, H d = some (.dK kvs)) ∧ (∃ xs, H g = some (.lst xs)) ∧ d ≠ g := by
  obtain ⟨gs, cs, n, h1, h2, _⟩ := h
  exact ⟨⟨_, h1⟩, ⟨_, h2⟩, ne_of h1 h2 (by intro q; cases q)⟩
/-- what is new is none of the draws' -/
theorem Dr.new {H : Hp} {d g c z : Addr} {t : Int} (h : Dr H d g c t) (hz : H z = none) : z ≠ d ∧ z ≠ g := by
  obtain ⟨⟨_, h1⟩, ⟨_, h2⟩, _⟩ := h.dg
  refine ⟨fun e => ?_, fun e => ?_⟩
  · rw [e, h1] at hz
    cases hz
  · rw [e, h2] at hz
    cases hz
theorem Fr.tup {d g c : Addr} {t : Int} {H H' : Hp} (h : Dr H d g c t) (f : Fr d g H H') {b : Addr} {xs : List V} (e : H b = some (.tup xs)) : H' b = some (.tup xs) := by
  obtain ⟨⟨_, h1⟩, ⟨_, h2⟩, _⟩ := h.dg
  exact f b _ (ne_of e h1 (by intro q; cases q)) (ne_of e h2 (by intro q; cases q)) e
/-- fresh behind, fresh ahead -/
theorem Fr.free {d g c z : Addr} {t : Int} {H H' : Hp} (h : Dr H d g c t) (h' : Dr H' d g c t') (f : Fr d g H H') (hz : H' z = none) : H z = none := by
  obtain ⟨n1, n2⟩ := h'.new hz
  cases e : H z with
  | none => rfl
  | some o =>
    rw [f z o n1 n2 e] at hz
    cases hz
/-- a list of our own written: the draws stand -/
theorem Dr.own {H H3 : Hp} {d g c z : Addr} {t t3 : Int} {o : HO} (h : Dr H d g c t) (h3 : Dr H3 d g c t3) (hz : H z = none) (hzc : H3 c ≠ none → z ≠ c) : Dr (upd H3 z o) d g c t3 := by
  obtain ⟨gs, cs, n, h1, h2, hc, r⟩ := h3
  obtain ⟨n1, n2⟩ := h.new hz
  have n3 : z ≠ c := hzc (by rw [hc]; exact fun q => nomatch q)
  exact ⟨gs, cs, n, by rw [upd_ne n1.symm]; exact h1, by rw [upd_ne n2.symm]; exact h2, by rw [upd_ne n3.symm]; exact hc, r⟩
theorem Dr.newc {H : Hp} {d g c z : Addr} {t : Int} (h : Dr H d g c t) (hz : H z = none) : z ≠ c := by
  obtain ⟨gs, cs, n, h1, h2, hc, r⟩ := h
  exact fun e => by
    rw [e, hc] at hz
    cases hz
theorem Fr.own {H H3 : Hp} {d g z : Addr} {o : HO} (hz : H z = none) (f : Fr d g H H3) : Fr d g H (upd H3 z o) := fun b x h1 h2 e => by
  have nb : b ≠ z := fun q => by
    rw [q, hz] at e
    cases e
  rw [upd_ne nb]
  exact f b x h1 h2 e
theorem perm_pop {xs ls fs : List V} {k : Nat} {y : V} (h : (ls ++ fs).Perm xs) (hk : ls[k]? = some y) : (ls.eraseIdx k ++ (fs ++ [y])).Perm xs := by
  obtain ⟨hk2, rfl⟩ := List.getElem?_eq_some_iff.mp hk
  refine List.Perm.trans ?_ h
  rw [← List.append_assoc]
  refine (List.perm_append_singleton _ _).trans ?_
  rw [← List.cons_append]
  refine List.Perm.append_right _ ?_
  rw [List.eraseIdx_eq_take_drop_succ]
  have e : ls = ls.take k ++ ls[k] :: ls.drop (k + 1) := by
    rw [← List.drop_eq_getElem_cons hk2, List.take_append_drop]
  refine (List.perm_middle.symm).trans (List.Perm.of_eq e.symm)

/-! P -/
def spPen : Sp := fun vs H Q _ => ∃ (d g c : Addr) (t L W wd tl : Int), vs = [.ref d, .int L, .int W, .int wd, .int tl] ∧ Dr H d g c t ∧ t ≤ 800000000000 ∧ 1 ≤ wd ∧ 1 ≤ tl ∧
  ∀ H' z bs t', Bl H' z bs → bs.length = 4 → (∀ b ∈ bs, b.ok) → bs.Nodup → t' ≤ t + 6 → H z = none → Fr d g H H' → Dr H' d g c t' → Q (.ref z) H'
/-- the blocks of a list of our own, in the heap behind draws -/
theorem Bl.fr {d g c l : Addr} {t : Int} {H H' : Hp} {bs : List Bk} (hD : Dr H d g c t) (f : Fr d g H H') (h : Bl H l bs) (hl : l ≠ g) : Bl H' l bs := by
  obtain ⟨rs, h1, h2⟩ := h
  obtain ⟨⟨_, e1⟩, _, _⟩ := hD.dg
  exact ⟨rs, f l _ (ne_of h1 e1 (by intro q; cases q)) hl h1, pd_imp h2 fun _ _ e => f.tup hD e⟩
theorem Fr.bo {d g c p : Addr} {t a b : Int} {H H' : Hp} (hD : Dr H d g c t) (f : Fr d g H H') (h : Bo H p a b) : Bo H' p a b := f.tup hD h

/-! Q -/
/-- a dict that tells f of the ints ns -/
def Tab (H : Hp) (A : Addr) (f : Int → Int) (ns : List Int) : Prop := ∃ kvs : List (Key × V), H A = some (.dK kvs) ∧ ∀ n ∈ ns, valV kvs (.inl n) = some (.int (f n))
theorem Tab.get {H : Hp} {A : Addr} {f : Int → Int} {ns : List Int} {n : Int} (h : Tab H A f ns) (hn : n ∈ ns) : DGet H A (.int n) (some (.int (f n))) := by
  obtain ⟨kvs, h1, h2⟩ := h
  have q := DGet.k (k := .inl n) h1
  rw [h2 n hn] at q
  exact q
theorem Tab.same {H H' : Hp} {A : Addr} {f : Int → Int} {ns : List Int} (e : Same H H') (h : Tab H A f ns) : Tab H' A f ns := by
  obtain ⟨kvs, h1, h2⟩ := h
  exact ⟨kvs, e _ _ h1, h2⟩
def stB (fa fu : Int → Int) (b : Bk) : Bk := ⟨fa b.l, fu b.d, fa b.r, fu b.u⟩
def spStr : Sp := fun vs H Q _ => ∃ (l A U : Addr) (bs : List Bk) (fa fu : Int → Int) (xs ys : List Int), vs = [.ref l, .ref A, .ref U] ∧ Bl H l bs ∧ Tab H A fa xs ∧ Tab H U fu ys ∧ (∀ b ∈ bs, b.l ∈ xs ∧ b.r ∈ xs ∧ b.d ∈ ys ∧ b.u ∈ ys) ∧ bs.length ≤ 100 ∧
  ∀ H' z, Same H H' → H z = none → Bl H' z (bs.map (stB fa fu)) → Q (.ref z) H'
/-- a block more in a list D of our own -/
theorem bl_more {H H3 : Hp} {D z : Addr} {bs : List Bk} {b : Bk} (hD0 : H D = none) (S3 : Same H H3) (hP : Bl H3 D bs) (hz : H3 z = none) :
    ∃ acc : List V, upd H3 z (.tup b.v) D = some (.lst acc) ∧ acc.length = bs.length ∧ Same H (upd (upd H3 z (.tup b.v)) D (.lst (acc ++ [.ref z]))) ∧ Bl (upd (upd H3 z (.tup b.v)) D (.lst (acc ++ [.ref z]))) D (bs ++ [b]) := by
  obtain ⟨as, h1, h2⟩ := hP
  have nD : D ≠ z := ne_of_none h1 hz
  refine ⟨as.map V.ref, by rw [upd_ne nD]; exact h1, by rw [List.length_map, pd_len h2], own_w hD0 S3 (same_new hz), as ++ [z], ?_, ?_⟩
  · rw [upd_same, List.map_append]
    rfl
  · refine pd_app (pd_imp h2 fun r p e => ?_) (.cons ?_ .nil)
    · have nb : r ≠ D := ne_of e h1 (by intro q; cases q)
      rw [upd_ne nb, upd_ne (ne_of_none e hz)]
      exact e
    · rw [upd_ne nD.symm, upd_same]
/-- a table of what was given, strictly rising -/
def spTable (K : PySem.W.Frag) : Sp := fun vs H Q _ => ∃ (d g c l : Addr) (t : Int) (ns : List Int), vs = [.ref d, .ref l] ∧ Dr H d g c t ∧ t ≤ 700000000000 ∧ SqL K H l (ns.map V.int) ∧ l ≠ g ∧ ns.length < 60 ∧
  ∀ H' z t' f, t' ≤ t + 70 → H z = none → Tab H' z f ns → (∀ n ∈ ns, ∀ m ∈ ns, n < m → f n < f m) → Fr d g H H' → Dr H' d g c t' → Q (.ref z) H'
/-- for k, x in enumerate(xs) -/
theorem for_enumL {K : PySem.W.Frag} {a : Addr} {xs : List V} {g : TG} {tb : TS} {D : Ends} {σ : L2.St} {H : Hp} (Pv : Nat → L2.St → Hp → Prop) (h0 : Pv 0 σ H) (hl : ∀ i σ H, Pv i σ H → SqL K H a xs)
    (hs : ∀ i x T σ H, xs[i]? = some x → Pv i σ H → H T = none → g (.ref T) σ (upd H T (.tup [.int (i : Nat), x])) fun σ2 H2 => tb { D with nx := Pv (i + 1), ct := Pv (i + 1), bk := D.nx } σ2 H2) (hd : ∀ σ H, Pv xs.length σ H → D.nx σ H) :
    ∃ W : Nat → Nat → L2.St → Hp → Prop, (∃ m, W 0 m σ H) ∧ ∀ i m σ H, W i m σ H →
      ((Ite K a).stop i H ∧ D.nx σ H) ∨ ((Ite K a).go i H ∧ ∃ N : L2.St → Hp → Prop, (∀ σ' H', N σ' H' → ∃ m', m' < m ∧ W (i + 1) m' σ' H') ∧ ∀ x H', (Ite K a).yld i H x H' → g x σ H' fun σ2 H2 => tb { D with nx := N, ct := N, bk := D.nx } σ2 H2) := by
  refine ⟨fun i m σ H => m = xs.length - i ∧ i ≤ xs.length ∧ Pv i σ H, ⟨xs.length, by simp, Nat.zero_le _, h0⟩, fun i m σ H hW => ?_⟩
  obtain ⟨rfl, hi, p⟩ := hW
  have q := hl i σ H p
  by_cases hlt : i < xs.length
  · refine .inr ⟨⟨xs, xs[i], q, by simp [hlt]⟩, Pv (i + 1), fun σ' H' p' => ⟨xs.length - (i + 1), by omega, rfl, hlt, p'⟩, fun x H' y => ?_⟩
    obtain ⟨T, x', e1, e2, e3, e4⟩ := y
    rw [e1, e3]
    exact hs i x' T σ H (e4 xs q) p e2
  · have e : i = xs.length := by omega
    refine .inl ⟨⟨xs, q, Nat.le_of_not_lt hlt⟩, hd σ H ?_⟩
    rw [e] at p
    exact p
theorem take_lt {line : List Int} {i : Nat} {old : Int} (up : line.Pairwise (· < ·)) (hi : line[i]? = some old) : ∀ n ∈ line.take i, n < old := fun n hn => by
  obtain ⟨hi2, e⟩ := List.getElem?_eq_some_iff.mp hi
  obtain ⟨j, hj, ej⟩ := List.mem_take_iff_getElem.mp hn
  have z := List.pairwise_iff_getElem.mp up j i (by omega) hi2 (by omega)
  rw [e, ej] at z
  exact z
theorem tab_step {line : List Int} {i : Nat} {old v : Int} {kvs : List (Key × V)} {f : Int → Int} (up : line.Pairwise (· < ·)) (hi : line[i]? = some old) (h1 : ∀ n ∈ line.take i, valV kvs (.inl n) = some (.int (f n)))
    (h2 : ∀ n ∈ line.take i, ∀ m ∈ line.take i, n < m → f n < f m) (h3 : ∀ n ∈ line.take i, f n < v) :
    ∃ f' : Int → Int, (∀ n ∈ line.take (i + 1), valV (putK kvs (.inl old) (.int v)) (.inl n) = some (.int (f' n))) ∧ (∀ n ∈ line.take (i + 1), ∀ m ∈ line.take (i + 1), n < m → f' n < f' m) ∧ (∀ n ∈ line.take i, f' n = f n) ∧ f' old = v := by
  have lt := take_lt up hi
  have split_ : ∀ n ∈ line.take (i + 1), n ∈ line.take i ∨ n = old := fun n hn => by
    rw [List.take_add_one, hi] at hn
    rcases List.mem_append.mp hn with m | m
    · exact .inl m
    · exact .inr (List.mem_singleton.mp m)
  have e1 : ∀ n ∈ line.take i, (if n = old then v else f n) = f n := fun n hn => if_neg (by have := lt n hn; omega)
  refine ⟨fun n => if n = old then v else f n, fun n hn => ?_, fun n hn m hm hnm => ?_, e1, if_pos rfl⟩
  · show valV (putK kvs (.inl old) (.int v)) (.inl n) = some (.int (if n = old then v else f n))
    rw [valV_put]
    rcases split_ n hn with m | m
    · have ne : ¬ n = old := by have := lt n m; omega
      rw [if_neg (fun z : (Sum.inl n : Key) = Sum.inl old => ne (Sum.inl.inj z)), if_neg ne]
      exact h1 n m
    · subst m
      rw [if_pos rfl, if_pos rfl]
  · rcases split_ n hn with a | a <;> rcases split_ m hm with b | b
    · show (if n = old then v else f n) < (if m = old then v else f m)
      rw [e1 n a, e1 m b]
      exact h2 n a m b hnm
    · subst b
      show (if n = m then v else f n) < (if m = m then v else f m)
      rw [e1 n a, if_pos rfl]
      exact h3 n a
    · subst a
      have := lt m b
      omega
    · omega
theorem putK_le (kvs : List (Key × V)) (k : Key) (v : V) : (putK kvs k v).length ≤ kvs.length + 1 := by
  unfold putK
  split
  · rw [List.length_map]
    omega
  · rw [List.length_append]
    exact Nat.le_refl _
/-- what stands ahead of turn i of the table's loop -/
def TI (d g c l q A : Addr) (way fac t : Int) (line : List Int) (H : Hp) (i : Nat) (σ : L2.St) (H9 : Hp) : Prop := ∃ (here : Int) (x7 x8 : Option V) (kvs : List (Key × V)) (f : Int → Int) (t9 : Int), σ = [some (.ref d), some (.ref l), some (.ref q), some (.int way), some (.ref A), some (.int here), some (.int fac), x7, x8] ∧
        H9 A = some (.dK kvs) ∧ kvs.length ≤ i ∧ (∀ n ∈ line.take i, valV kvs (.inl n) = some (.int (f n))) ∧ (∀ n ∈ line.take i, ∀ m ∈ line.take i, n < m → f n < f m) ∧ (way < 2 → ∀ n ∈ line.take i, f n = n + here) ∧ (way = 2 → ∀ n ∈ line.take i, f n = n * fac + here) ∧
        (2 < way → ∀ n ∈ line.take i, f n ≤ here) ∧ Fr d g H H9 ∧ Dr H9 d g c t9 ∧ t9 ≤ t + 3 + i ∧ H9 q = some (.lst (line.map V.int))
theorem TI.next {d g c l q A : Addr} {way fac t here here' v t11 : Int} {line : List Int} {H H11 : Hp} {i : Nat} {old : Int} {kvs : List (Key × V)} {f : Int → Int} {x7 x8 : Option V} {ct : Int} (hD : Dr H d g c ct) (hA0 : H A = none) (up : line.Pairwise (· < ·)) (ho : line[i]? = some old)
    (hk : kvs.length ≤ i) (h1 : ∀ n ∈ line.take i, valV kvs (.inl n) = some (.int (f n))) (h2 : ∀ n ∈ line.take i, ∀ m ∈ line.take i, n < m → f n < f m) (ca : way < 2 → ∀ n ∈ line.take i, f n = n + here) (cb : way = 2 → ∀ n ∈ line.take i, f n = n * fac + here) (cc : 2 < way → ∀ n ∈ line.take i, f n ≤ here)
    (h3 : ∀ n ∈ line.take i, f n < v) (ka : way < 2 → v = old + here' ∧ here' = here) (kb : way = 2 → v = old * fac + here' ∧ here' = here) (kc : 2 < way → v = here' ∧ here ≤ here') (F11 : Fr d g H H11) (d11 : Dr H11 d g c t11) (ht : t11 ≤ t + 3 + (i + 1 : Nat)) (hq : H11 q = some (.lst (line.map V.int))) (nqA : q ≠ A) :
    TI d g c l q A way fac t line H (i + 1) [some (.ref d), some (.ref l), some (.ref q), some (.int way), some (.ref A), some (.int here'), some (.int fac), x7, x8] (upd H11 A (.dK (putK kvs (.inl old) (.int v)))) := by
  obtain ⟨f', g1, g2, g3, g4⟩ := tab_step up ho h1 h2 h3
  have split_ : ∀ n ∈ line.take (i + 1), n ∈ line.take i ∨ n = old := fun n hn => by
    rw [List.take_add_one, ho] at hn
    rcases List.mem_append.mp hn with m | m
    · exact .inl m
    · exact .inr (List.mem_singleton.mp m)
  refine ⟨here', x7, x8, putK kvs (.inl old) (.int v), f', t11, rfl, upd_same, ?_, g1, g2, fun z n hn => ?_, fun z n hn => ?_, fun z n hn => ?_, Fr.own hA0 F11, Dr.own hD d11 hA0 (fun _ => hD.newc hA0), ht, ?_⟩
  · have := putK_le kvs (.inl old) (.int v)
    omega
  · obtain ⟨a1, a2⟩ := ka z
    rcases split_ n hn with m | m
    · rw [g3 n m, ca z n m, a2]
    · rw [m, g4, a1]
  · obtain ⟨a1, a2⟩ := kb z
    rcases split_ n hn with m | m
    · rw [g3 n m, cb z n m, a2]
    · rw [m, g4, a1]
  · obtain ⟨a1, a2⟩ := kc z
    rcases split_ n hn with m | m
    · rw [g3 n m]
      exact Int.le_trans (cc z n m) a2
    · rw [m, g4, a1]
      exact Int.le_refl _
  · rw [upd_ne nqA]
    exact hq

/-! R -/
theorem un65 {A : Around} {k : Nat} (hr : Room k A) : A.units + 65 < cLine := by
  have := hr.un
  omega
/-- law's blocks: at most m, in order, of draws -/
def spBlocks : Sp := fun vs H Q _ => ∃ (d g c : Addr) (t m : Int), vs = [.ref d, .int m] ∧ Dr H d g c t ∧ t ≤ 600000000000 ∧ 1 ≤ m ∧ m ≤ 12 ∧
  ∀ H' z bs t', Bl H' z bs → (∀ b ∈ bs, b.ok) → bs.Nodup → (bs.length : Int) ≤ m → Asc bs → H z = none → t' ≤ t + 300 → Fr d g H H' → Dr H' d g c t' → Q (.ref z) H'
/-- a block more in a list of our own, whatever else stands there -/
theorem bl_add {H3 : Hp} {D z : Addr} {bs : List Bk} {b : Bk} (hP : Bl H3 D bs) (hz : H3 z = none) :
    ∃ acc : List V, upd H3 z (.tup b.v) D = some (.lst acc) ∧ acc.length = bs.length ∧ Bl (upd (upd H3 z (.tup b.v)) D (.lst (acc ++ [.ref z]))) D (bs ++ [b]) := by
  obtain ⟨acc, q1, q2, _, q4⟩ := bl_more (H := fun _ => none) rfl (fun a o e => by cases e) hP hz
  exact ⟨acc, q1, q2, q4⟩
/-- the same of a block that stands there -/
theorem bl_put {H3 : Hp} {D z : Addr} {bs : List Bk} {b : Bk} (hP : Bl H3 D bs) (hz : H3 z = some (.tup b.v)) :
    ∃ acc : List V, H3 D = some (.lst acc) ∧ acc.length = bs.length ∧ Bl (upd H3 D (.lst (acc ++ [.ref z]))) D (bs ++ [b]) := by
  obtain ⟨as, h1, h2⟩ := hP
  have nD : D ≠ z := ne_of h1 hz (by intro q; cases q)
  refine ⟨as.map V.ref, h1, by rw [List.length_map, pd_len h2], as ++ [z], ?_, ?_⟩
  · rw [upd_same, List.map_append]
    rfl
  · refine pd_app (pd_imp h2 fun r p e => ?_) (.cons ?_ .nil)
    · have nb : r ≠ D := ne_of e h1 (by intro q; cases q)
      rw [upd_ne nb]
      exact e
    · rw [upd_ne nD.symm]
      exact hz
theorem any_blk (b : Bk) : ∀ bs : List Bk, (((bs.map Bk.n).map GS.dT).any fun z => PyData.eqv z (GS.dT b.n)) = decide (b ∈ bs)
  | [] => by simp
  | a :: bs => by
    rw [List.map_cons, List.map_cons, List.any_cons, any_blk b bs, GS.eqv_t]
    by_cases e : a = b
    · subst e
      simp
    · have e1 : ¬ a.n = b.n := fun z => e (Bk.n_inj z)
      rw [decide_eq_false e1, Bool.false_or]
      have e2 : b ∈ a :: bs ↔ b ∈ bs := ⟨fun z => by
        rcases List.mem_cons.mp z with z | z
        · exact absurd z.symm e
        · exact z, fun z => List.mem_cons_of_mem _ z⟩
      exact decide_eq_decide.mpr e2.symm
/-- one number of each block -/
theorem col_step {H H3 : Hp} {D : Addr} {f : Bk → Int} {bs : List Bk} {i : Nat} {b : Bk} (hD : H D = none) (S3 : Same H H3) (gb : bs[i]? = some b) :
    Same H (upd H3 D (.lst (((bs.take i).map fun b => V.int (f b)) ++ [.int (f b)]))) ∧ upd H3 D (.lst (((bs.take i).map fun b => V.int (f b)) ++ [.int (f b)])) D = some (.lst ((bs.take (i + 1)).map fun b => V.int (f b))) := by
  refine ⟨own_w hD S3 (Same.refl _), ?_⟩
  rw [upd_same, List.take_add_one, gb, List.map_append]
  rfl
theorem st_nodup {fa fu : Int → Int} {xs ys : List Int} {bs : List Bk} (ha : ∀ n ∈ xs, ∀ m ∈ xs, n < m → fa n < fa m) (hu : ∀ n ∈ ys, ∀ m ∈ ys, n < m → fu n < fu m) (hm : ∀ b ∈ bs, b.l ∈ xs ∧ b.r ∈ xs ∧ b.d ∈ ys ∧ b.u ∈ ys) (hn : bs.Nodup) : (bs.map (stB fa fu)).Nodup := by
  have inj : ∀ (f : Int → Int) (zs : List Int), (∀ n ∈ zs, ∀ m ∈ zs, n < m → f n < f m) → ∀ n ∈ zs, ∀ m ∈ zs, f n = f m → n = m := fun f zs h n hn m hm e => by
    rcases Int.lt_trichotomy n m with q | q | q
    · have := h n hn m hm q
      omega
    · exact q
    · have := h m hm n hn q
      omega
  refine List.pairwise_map.mpr (List.Pairwise.imp_of_mem (fun {a b} ma mb ne e => ne ?_) hn)
  obtain ⟨a1, a2, a3, a4⟩ := hm a ma
  obtain ⟨b1, b2, b3, b4⟩ := hm b mb
  unfold stB at e
  injection e with e1 e2 e3 e4
  have q1 := inj fa xs ha _ a1 _ b1 e1
  have q2 := inj fu ys hu _ a3 _ b3 e2
  have q3 := inj fa xs ha _ a2 _ b2 e3
  have q4 := inj fu ys hu _ a4 _ b4 e4
  obtain ⟨l, dd, r, u⟩ := a
  obtain ⟨l2, d2, r2, u2⟩ := b
  dsimp only at q1 q2 q3 q4
  rw [q1, q2, q3, q4]
theorem st_ok {fa fu : Int → Int} {xs ys : List Int} {bs : List Bk} (ha : ∀ n ∈ xs, ∀ m ∈ xs, n < m → fa n < fa m) (hu : ∀ n ∈ ys, ∀ m ∈ ys, n < m → fu n < fu m) (hm : ∀ b ∈ bs, b.l ∈ xs ∧ b.r ∈ xs ∧ b.d ∈ ys ∧ b.u ∈ ys) (hk : ∀ b ∈ bs, b.ok) : ∀ b ∈ bs.map (stB fa fu), b.ok := fun b hb => by
  obtain ⟨a, ma, rfl⟩ := List.mem_map.mp hb
  obtain ⟨a1, a2, a3, a4⟩ := hm a ma
  obtain ⟨k1, k2⟩ := hk a ma
  exact ⟨ha _ a1 _ a2 k1, hu _ a3 _ a4 k2⟩
/-- what stands behind each part of law's blocks -/
def BI (d g c : Addr) (m t u : Int) (H : Hp) (σ : L2.St) (H1 : Hp) : Prop := ∃ (F : Addr) (bs : List Bk) (way many : Int) (x5 x6 x7 : Option V) (t1 : Int),
  σ = [some (.ref d), some (.int m), some (.int way), some (.ref F), some (.int many), x5, x6, x7, none, none] ∧ H F = none ∧ Bl H1 F bs ∧ (∀ b ∈ bs, b.ok) ∧ bs.Nodup ∧ (bs.length : Int) ≤ m ∧ 0 ≤ many ∧ many ≤ 12 ∧ Fr d g H H1 ∧ Dr H1 d g c t1 ∧ t1 ≤ t + u ∧ (u ≤ 12 → way = 5 → bs = [])
/-- ahead of turn i of the loop that lays blocks in a row -/
def B5 (d g c F : Addr) (m way many t : Int) (x6 x7 : Option V) (H : Hp) (i : Nat) (σ : L2.St) (H3 : Hp) : Prop := ∃ (bs : List Bk) (x5 : Option V) (t3 : Int),
      σ = [some (.ref d), some (.int m), some (.int way), some (.ref F), some (.int many), x5, x6, x7, none, none] ∧ Bl H3 F bs ∧ (∀ b ∈ bs, b.ok) ∧ bs.Nodup ∧ bs.length = i ∧ (∀ b ∈ bs, b.l < 3 * (i : Int)) ∧ Fr d g H H3 ∧ Dr H3 d g c t3 ∧ t3 ≤ t + 12 + 2 * i
/-- ahead of turn i of the loop that draws blocks -/
def BJ (d g c F : Addr) (m way many t : Int) (H : Hp) (i : Nat) (σ : L2.St) (H3 : Hp) : Prop := ∃ (bs : List Bk) (x5 x6 x7 : Option V) (t3 : Int),
      σ = [some (.ref d), some (.int m), some (.int way), some (.ref F), some (.int many), x5, x6, x7, none, none] ∧ Bl H3 F bs ∧ (∀ b ∈ bs, b.ok) ∧ bs.Nodup ∧ (bs.length : Int) ≤ m ∧ Fr d g H H3 ∧ Dr H3 d g c t3 ∧ t3 ≤ t + 41 + 4 * i

/-! S -/
/-- some ascending numbers from 1 on -/
def spGrid : Sp := fun vs H Q _ => ∃ (l s : Addr) (f : Int) (bs : List Bk), vs = [.ref l, .ref s, .int f] ∧ Bl H l bs ∧ H s = some (.lst []) ∧ (f = 0 ∨ f = 1) ∧ bs.length ≤ 7 ∧
  ∀ H' z (ns : List Int), Same H H' → H z = none → H' z = some (.lst (ns.map V.int)) → (∀ n ∈ ns, 1 ≤ n) → ns.length ≤ 60 → Q (.ref z) H'
def spLBody : Sp := fun vs H Q _ => ∃ (d g c l s : Addr) (t : Int) (bs : List Bk), vs = [.ref d, .ref l, .ref s] ∧ Dr H d g c t ∧ t ≤ 900000000000 ∧ Bl H l bs ∧ l ≠ g ∧ H s = some (.lst []) ∧ s ≠ g ∧ bs.length ≤ 7 ∧
  ∀ H' z a b t', 1 ≤ a → 1 ≤ b → Bo H' z a b → H z = none → t' ≤ t + 8 → Fr d g H H' → Dr H' d g c t' → Q (.ref z) H'
/-- ahead of turn i of the grid's loop -/
def GI (l s : Addr) (f : Int) (H : Hp) (i : Nat) (σ : L2.St) (H3 : Hp) : Prop := ∃ (F : Addr) (x4 x5 x6 x7 : Option V) (ns : List Int), σ = [some (.ref l), some (.ref s), some (.int f), some (.ref F), x4, x5, x6, x7] ∧ H F = none ∧ H3 F = some (.lst (ns.map V.int)) ∧ ns.length ≤ 7 * i ∧ Same H H3
/-- ahead of turn i of the body's loop -/
def BD (d g c l s F : Addr) (t : Int) (H : Hp) (i : Nat) (σ : L2.St) (H3 : Hp) : Prop := ∃ (x4 x5 x6 x7 : Option V) (ns : List Int) (t3 : Int), σ = [some (.ref d), some (.ref l), some (.ref s), some (.ref F), x4, x5, x6, x7] ∧ H3 F = some (.lst (ns.map V.int)) ∧ ns.length = i ∧ (∀ n ∈ ns, 1 ≤ n) ∧ Fr d g H H3 ∧ Dr H3 d g c t3 ∧ t3 ≤ t + 4 * i
/-- one number more in a list of our own -/
theorem int_more {H3 : Hp} {D : Addr} {ns : List Int} (x : Int) : upd H3 D (.lst (ns.map V.int ++ [.int x])) D = some (.lst ((ns ++ [x]).map V.int)) := by
  rw [upd_same, snoc_int]
theorem at_bk (b : Bk) {f : Int} (hf : f = 0 ∨ f = 1) : ∃ x y : Int, atI b.v f = some (.int x) ∧ atI b.v (f + 2) = some (.int y) := by
  rcases hf with rfl | rfl
  · exact ⟨b.l, b.r, atI_nat (j := 0) rfl, atI_nat (j := 2) rfl⟩
  · exact ⟨b.d, b.u, atI_nat (j := 1) rfl, atI_nat (j := 3) rfl⟩

/-! T -/
theorem okC {P : Program} {w : World} {K : PySem.W.Frag} {mg : Str → Option Value} {base : Heap} {x qual : Str} {st : Stmt} {f c : Addr} {fd : FuncData} {N ps : List Str} {k : Nat} {sp : Sp} (F : Fun K x qual st f fd) (hc : fd.code = .ref c) (S : FnScope N ps (defScope st)) (len : ∀ vs H Q E, sp vs H Q E → vs.length = ps.length)
    (hbody : ∀ (A : Around) (outer : List Env) (s : Shared) (H : Hp) (vs : List V) (Q : VK) (E : XK), Room k (A.deeper (envOfC qual (defScope st) s.heap.objs.size f (.ref c))) → sp vs H Q E →
      ∃ t, PSs (cxOf CX0 P w K mg base N qual (defScope st) f (.ref c) A outer s H E).nox (defBody st) t ∧ t { nx := fun _ H' => Q .non H', rt := Q } (start N vs) H) : FnOk P w K mg base CX0 (k + 1) f fd ps sp := by
  obtain ⟨oc, od, kV, doc, pm, an, cdv, ct, osl, rfl, lk, hcd⟩ := F.ex
  have e : cdv = .ref c := hc
  subst e
  refine fn_of lk hcd S len fun A outer s H vs Q E hr hsp => ?_
  obtain ⟨t, h, q⟩ := hbody A outer s H vs Q E hr hsp
  exact ⟨t, h.nox, q⟩
theorem Kn.ext {H H' : Hp} {x : V} {n : String} (e : LamX.ExtN H H') (k : Kn H x n) : Kn H' x n := by
  cases k with
  | non => exact .non
  | bl b => exact .bl b
  | int i => exact .int i
  | str s => exact .str s
  | lst h => exact .lst (e _ _ h (by intro ps q; cases q))
  | tup h => exact .tup (e _ _ h (by intro ps q; cases q))
theorem Dr.ext {H H' : Hp} {d g c : Addr} {t : Int} (e : LamX.ExtN H H') (h : Dr H d g c t) : Dr H' d g c t := by
  obtain ⟨gs, cs, n, a1, a2, a3, r⟩ := h
  exact ⟨gs, cs, n, e _ _ a1 (by intro ps q; cases q), e _ _ a2 (by intro ps q; cases q), e _ _ a3 (by intro ps q; cases q), r⟩
theorem Dw.ext {C : Addr} {H H' : Hp} {m : Addr} {bs : List Bk} (e : LamX.ExtN H H') (h : Dw C H m bs) : Dw C H' m bs := by
  obtain ⟨dx, t, rs, h1, h2, h3, h4⟩ := h
  exact ⟨dx, t, rs, e _ _ h1 (by intro ps q; cases q), e _ _ h2 (by intro ps q; cases q), pd_imp h3 fun _ _ z => e _ _ z (by intro ps q; cases q), h4⟩
theorem tabs_fr {TL : List (Addr × Str)} {H H' : Hp} {d g c : Addr} {t : Int} (hD : Dr H d g c t) (f : Fr d g H H') (h : LamX.Tabs TL H) : LamX.Tabs TL H' := fun q hq => by
  obtain ⟨ps, h1, h2, h3⟩ := h q hq
  obtain ⟨⟨_, e1⟩, ⟨_, e2⟩, _⟩ := hD.dg
  refine ⟨ps, f _ _ (ne_of h1 e1 (by intro q; cases q)) (ne_of h1 e2 (by intro q; cases q)) h1, h2, fun pos cv hc => ?_⟩
  obtain ⟨c', e3, e4⟩ := h3 pos cv hc
  exact ⟨c', e3, f _ _ (ne_of e4 e1 (by intro q; unfold LamX.CodeO at q; cases q)) (ne_of e4 e2 (by intro q; unfold LamX.CodeO at q; cases q)) e4⟩
theorem Dw.fr {C : Addr} {H H' : Hp} {d g c m : Addr} {t : Int} {bs : List Bk} (hD : Dr H d g c t) (f : Fr d g H H') (h : Dw C H m bs) : Dw C H' m bs := by
  obtain ⟨dx, tt, rs, h1, h2, h3, h4⟩ := h
  obtain ⟨⟨_, e1⟩, ⟨_, e2⟩, _⟩ := hD.dg
  exact ⟨dx, tt, rs, f _ _ (ne_of h1 e1 (by intro q; cases q)) (ne_of h1 e2 (by intro q; cases q)) h1, f.tup hD h2, pd_imp h3 fun _ _ z => f.tup hD z, h4⟩
theorem Kn.same {H H' : Hp} {x : V} {n : String} (e : Same H H') (k : Kn H x n) : Kn H' x n := k.ext fun b o h _ => e b o h
theorem isIx_nat {n i : Nat} (h : i < n) : isIx n (.int i) = true := by
  show (decide ((0 : Int) ≤ i) && decide ((i : Int) < n)) = true
  rw [decide_eq_true (by omega), decide_eq_true (by omega)]
  rfl

end G21
set_option Elab.async false
set_option linter.all false
set_option maxRecDepth 100000
set_option maxHeartbeats 4000000
namespace G21
open PySem PySem.Spec PyProof.Rows L2
section
variable {P : Program} {w : World} {K : PySem.W.Frag} {mg : Str → Option Value} {base : Heap}
theorem ok0_l_begun (T : Txt K mg) : FnOk P w K mg base CX0 1 T.l_begun.a T.l_begun.d ["script"] (spBegun K) := by
  refine T.l_begun.F.ok c_l_begun (fun vs H Q E h => ?_) (fun cdv A outer s H vs Q E hr h => ?_)
  · obtain ⟨a, ns, rfl, _⟩ := h
    rfl
  · obtain ⟨a, ns, rfl, hS, h63, k⟩ := h
    refine ⟨_,
      (pss_cons (ps_setLc (i := 1) (own := [("cell", 2)]) (g := gName 2) (by rfl) c_l_begun.nd rfl rfl (sw_true rfl rfl rfl (by decide +kernel)) (pi_list (pv 0)) (blkOk_by (own := [("cell", 2)]) (N := N_l_begun) (sc := defScope S_l_begun) (by decide +kernel)) (fun _ _ _ _ _ => pg_name (i := 2) c_l_begun.nd rfl (Or.inl rfl)) (fun _ _ _ _ _ => (pts_one (pt_cmpR op_ge (pe_callB call_abs (by rfl) T.z_abs (by decide +kernel) (pa_cons (pv 2) pa_nil)) (pe_op op_pow pe_int pe_int) (nomark _)))) (fun _ _ _ _ _ => (pe_op op_sub (pe_callB call_abs (by rfl) T.z_abs (by decide +kernel) (pa_cons (pv 2) pa_nil)) (pe_op op_pow pe_int pe_int))))
      (pss_one (ps_ret (pe_disp (pps_cons pe_str (pv 1) (pps_cons pe_str (pe_lc (own := [("cell", 2)]) (g := gName 2) (by rfl) c_l_begun.nd (pi_list (pv 0)) (blkOk_by (own := [("cell", 2)]) (N := N_l_begun) (sc := defScope S_l_begun) (by decide +kernel)) (fun _ _ _ _ _ => pg_name (i := 2) c_l_begun.nd rfl (Or.inl rfl)) (fun _ _ _ _ _ => pts_nil) (fun _ _ _ _ _ => (pe_op op_mod (pe_callTy call_int1 (by rfl) T.z_int (by decide +kernel) (pa_cons (pe_callB call_abs (by rfl) T.z_abs (by decide +kernel) (pa_cons (pv 2) pa_nil)) pa_nil)) pe_int))) (pps_cons pe_str pe_int (pps_cons pe_str pe_int pps_nil)))) (by rfl) (by rfl) (fun z => by cases z) (by decide)))))
      , ?_⟩
    refine ⟨.ref a, rfl, a, rfl, ⟨_, hS⟩, fun D hD => it_list (Pv := fun i H3 => Same H H3 ∧ ∃ gs : List Int, H3 D = some (.lst (gs.map V.int)) ∧ (∀ x ∈ gs, 0 ≤ x) ∧ gs.length ≤ i) ⟨same_new hD, [], upd_same, (fun x h => absurd h (by simp)), Nat.le_refl _⟩ (fun i H3 hP => hP.1.seq hS) ?_ ?_⟩
    · intro i x H3 hx hP
      obtain ⟨z, hz, rfl⟩ := at_map hx
      obtain ⟨S3, gs, hg, hp, hlen⟩ := hP
      have hi : i < ns.length := (List.getElem?_eq_some_iff.mp hz).1
      refine ⟨rfl, ?_⟩
      refine ⟨.int z, rfl, z, rfl, 10, 18, rfl, rfl, ⟨by decide, by decide, by decide⟩, _, _, rfl, rfl, _, rfl, ite2 (fun e => ?_) (fun e => ?_)⟩
      · refine ⟨.int z, rfl, z, rfl, 10, 18, rfl, rfl, ⟨by decide, by decide, by decide⟩, _, _, rfl, rfl, _, hg, ?_, own_w hD S3 (Same.refl _), gs ++ [_], by rw [upd_same, snoc_int], fun x hx => ?_, ?_⟩
        · rw [List.length_map]
          exact sz_few (by omega)
        · rcases List.mem_append.mp hx with m | m
          · exact hp x m
          · have e1 := of_decide_eq_true e
            rw [List.mem_singleton.mp m]
            omega
        · rw [List.length_append, List.length_singleton]
          omega
      · exact ⟨S3, gs, hg, hp, by omega⟩
    · intro H3 hP
      obtain ⟨S3, gs, hg, hp, hlen⟩ := hP
      refine fun p hpn => ?_
      have nDp : D ≠ p := ne_of_none hg hpn
      have S4 : Same H (upd H3 p (.dK [])) := S3.trans (same_new hpn)
      have hg4 : upd H3 p (.dK []) D = some (.lst (gs.map V.int)) := by
        rw [upd_ne nDp]
        exact hg
      refine ⟨.ref D, rfl, ?_⟩
      refine ⟨.ref a, rfl, a, rfl, ⟨_, S4.seq hS⟩, fun C hC => it_list (Pv := fun i H5 => Same (upd H3 p (.dK [])) H5 ∧ ∃ cs : List Int, H5 C = some (.lst (cs.map V.int)) ∧ (∀ x ∈ cs, 0 ≤ x ∧ x < 2147483629) ∧ cs.length ≤ i) ⟨same_new hC, [], upd_same, (fun x h => absurd h (by simp)), Nat.le_refl _⟩ (fun i H5 hP => (S4.trans hP.1).seq hS) ?_ ?_⟩
      · intro i x H5 hx hP5
        obtain ⟨z, hz, rfl⟩ := at_map hx
        obtain ⟨S5, cs, hc, hcp, hcl⟩ := hP5
        have hi : i < ns.length := (List.getElem?_eq_some_iff.mp hz).1
        refine ⟨rfl, yes2 ⟨.int z, rfl, z, rfl, .inl ⟨_, rfl, _, 2147483629, rfl, rfl, (by show (0 : Int) < 2147483629; decide), _, hc, ?_, own_w hC S5 (Same.refl _), cs ++ [_], by rw [upd_same, snoc_int], fun x hx => ?_, ?_⟩⟩⟩
        · rw [List.length_map]
          exact sz_few (by omega)
        · rcases List.mem_append.mp hx with m | m
          · exact hcp x m
          · rw [List.mem_singleton.mp m]
            exact ⟨Int.emod_nonneg _ (by decide), Int.emod_lt_of_pos _ (by decide)⟩
        · rw [List.length_append, List.length_singleton]
          omega
      · intro H5 hP5
        obtain ⟨S5, cs, hc, hcp, hcl⟩ := hP5
        have nDC : D ≠ C := ne_of_none hg4 hC
        have nCp : C ≠ p := fun q => by
          rw [q, upd_same] at hC
          cases hC
        have hp5 : H5 p = some (.dK []) := S5 _ _ upd_same
        refine ⟨hp5, drK D C 0 0, rfl, (by show 4 ≤ 15; decide), ?_⟩
        have em : mergeK [] (drK D C 0 0) = drK D C 0 0 := by rfl
        rw [em]
        have hp0 : H p = none := S3.free hpn
        have hC0 : H C = none := S4.free hC
        refine k _ p D C (own_w hp0 (S4.trans S5) (Same.refl _)) hp0 hD hC0 ⟨gs, cs, 0, upd_same, ?_, ?_, nDC, hp, hcp, Int.le_refl _, Int.le_refl _⟩
        · rw [upd_ne nDp]
          exact S5 _ _ hg4
        · rw [upd_ne nCp]
          exact hc
theorem ok0_l_mixed (T : Txt K mg) : FnOk P w K mg base CX0 1 T.l_mixed.a T.l_mixed.d ["draw"] spMixed := by
  refine T.l_mixed.F.ok c_l_mixed (fun vs H Q E h => ?_) (fun cdv A outer s H vs Q E hr h => ?_)
  · obtain ⟨d, g, c, t, rfl, _⟩ := h
    rfl
  · obtain ⟨d, g, c, t, rfl, ⟨gs, cs, n, hd, hg, hc, ngc, hgp, hcp, hn, ht⟩, ht2, k⟩ := h
    refine ⟨_,
      (pss_cons (ps_par (i := 1) (j := 2) rfl c_l_mixed.nd rfl rfl (by decide) rfl rfl (pa_cons (pe_op op_add (pe_dget (hu_of hr) (pv 0) pe_str (fun _ _ => rfl)) pe_int) (pa_cons pe_int pa_nil)) (by with_unfolding_all rfl))
      (pss_cons (ps_dput (hu_of hr) (pv 0) pe_str (pv 1) rfl)
      (pss_cons (ps_for PassesOwn.never rfl (pi_list (pe_lst (pa_cons pe_int (pa_cons pe_int (pa_cons pe_int (pa_cons pe_int pa_nil)))))) (pg_name (i := 3) c_l_mixed.nd rfl (Or.inl rfl))
      (pss_cons (ps_set (i := 4) c_l_mixed.nd rfl (Or.inl rfl) (pe_op op_add (pe_op op_mul pe_int (pv 1)) (pe_op op_fdiv (pv 3) pe_int)))
      (pss_cons (ps_for PassesOwn.never rfl (pi_list (pe_dget (hu_of hr) (pv 0) pe_str (fun _ _ => rfl))) (pg_name (i := 5) c_l_mixed.nd rfl (Or.inl rfl))
      (pss_one (ps_set (i := 4) c_l_mixed.nd rfl (Or.inl rfl) (pe_op op_mod (pe_callTy call_int1 (by rfl) T.z_int (by decide +kernel) (pa_cons (pe_op op_add (pe_op op_add (pe_op op_mul (pv 4) pe_int) (pv 5)) (pv 1)) pa_nil)) (pv 3)))))
      (pss_one (ps_set (i := 2) c_l_mixed.nd rfl (Or.inl rfl) (pe_op op_add (pe_op op_mul (pv 2) pe_int) (pe_op op_mod (pe_callTy call_int1 (by rfl) T.z_int (by decide +kernel) (pa_cons (pe_op op_pow (pv 4) pe_int) pa_nil)) (pv 3))))))))
      (pss_one (ps_ret (pv 2))))))
      , ?_⟩
    have ndg : d ≠ g := ne_of hd hg (by intro q; cases q)
    have ndc : d ≠ c := ne_of hd hc (by intro q; cases q)
    refine ⟨.ref d, rfl, d, .int t, rfl, dg_turn hd, _, _, rfl, rfl, .int (t + 1), .int 0, rfl, ?_⟩
    refine ⟨.int (t + 1), rfl, .ref d, rfl, d, _, rfl, dp_turn (t + 1) hd, ?_⟩
    have hd2 : upd H d (.dK (drK g c n (t + 1))) d = some (.dK (drK g c n (t + 1))) := upd_same
    have F2 : Fr d g H (upd H d (.dK (drK g c n (t + 1)))) := fun b o h1 _ h => by
      rw [upd_ne h1]
      exact h
    have D2 : Dr (upd H d (.dK (drK g c n (t + 1)))) d g c (t + 1) := ⟨gs, cs, n, upd_same, by rw [upd_ne ndg.symm]; exact hg, by rw [upd_ne ndc.symm]; exact hc, ngc, hgp, hcp, hn, by omega⟩
    generalize upd H d (.dK (drK g c n (t + 1))) = H2 at hd2 F2 D2 ⊢
    refine ⟨by show 4 ≤ sizeLine; decide, fun l hl => ⟨l, rfl, ⟨_, SqL.of upd_same⟩, ?_⟩⟩
    have D3 : Dr (upd H2 l (.lst [.int 2147483647, .int 2147483629, .int 2147483587, .int 2147483579])) d g c (t + 1) := by
      obtain ⟨gs', cs', n', a1, a2, a3, a4, a5, a6, a7, a8⟩ := D2
      exact ⟨gs', cs', n', by rw [upd_ne (ne_of_none a1 hl)]; exact a1, by rw [upd_ne (ne_of_none a2 hl)]; exact a2, by rw [upd_ne (ne_of_none a3 hl)]; exact a3, a4, a5, a6, a7, a8⟩
    have F3 : Fr d g H (upd H2 l (.lst [.int 2147483647, .int 2147483629, .int 2147483587, .int 2147483579])) := F2.trans (Fr.of (same_new hl))
    have hl3 : SqL K (upd H2 l (.lst [.int 2147483647, .int 2147483629, .int 2147483587, .int 2147483579])) l [.int 2147483647, .int 2147483629, .int 2147483587, .int 2147483579] := SqL.of upd_same
    generalize upd H2 l (.lst [.int 2147483647, .int 2147483629, .int 2147483587, .int 2147483579]) = H3 at D3 F3 hl3 ⊢
    obtain ⟨gs', cs', n', a1, a2, a3, a4, a5, a6, a7, a8⟩ := id D3
    refine for_list (K := K) (a := l) (xs := [.int 2147483647, .int 2147483629, .int 2147483587, .int 2147483579]) (fun i σ H4 => H3 = H4 ∧ ∃ (f : Int) (x3 x4 x5 : Option V), σ = [some (.ref d), some (.int (t + 1)), some (.int f), x3, x4, x5] ∧ 0 ≤ f)
      ⟨rfl, 0, none, none, none, rfl, Int.le_refl _⟩ (fun i σ H4 _ hP => by rw [← hP.1]; exact hl3) ?_ ?_
    · intro i x σ H4 hx hP
      obtain ⟨rfl, f, x3, x4, x5, rfl, hf⟩ := hP
      obtain ⟨p, rfl, hp1, hp2⟩ : ∃ p : Int, x = .int p ∧ 0 < p ∧ p ≤ 2147483647 := by
        match i, hx with
        | 0, hx => exact ⟨2147483647, (Option.some.inj hx).symm, by decide, by decide⟩
        | 1, hx => exact ⟨2147483629, (Option.some.inj hx).symm, by decide, by decide⟩
        | 2, hx => exact ⟨2147483587, (Option.some.inj hx).symm, by decide, by decide⟩
        | 3, hx => exact ⟨2147483579, (Option.some.inj hx).symm, by decide, by decide⟩
        | i + 4, hx => simp at hx
      refine ⟨.int (t + 1), rfl, 48271, t + 1, rfl, rfl, .inl ⟨by decide, by decide⟩, .int p, rfl, p, 37, rfl, rfl, ⟨by show (0 : Int) < 37; decide, by show (37 : Int) < 1073741824; decide⟩, _, _, rfl, rfl, ?_⟩
      have b0 : 0 ≤ 48271 * (t + 1) + p / 37 := by omega
      have b1 : 48271 * (t + 1) + p / 37 < 9000000000000000000 := by omega
      refine ⟨.ref d, rfl, d, .ref c, rfl, dg_cells a1, c, rfl, ⟨_, SqL.of a3⟩, ?_⟩
      refine for_list (K := K) (a := c) (xs := cs'.map V.int) (fun j σ H4 => H3 = H4 ∧ ∃ (bl : Int) (x5 : Option V), σ = [some (.ref d), some (.int (t + 1)), some (.int f), some (.int p), some (.int bl), x5] ∧ 0 ≤ bl ∧ bl < 9000000000000000000)
        ⟨rfl, 48271 * (t + 1) + p / 37, x5, rfl, b0, b1⟩ (fun j σ H4 _ hP => by rw [← hP.1]; exact SqL.of a3) ?_ ?_
      · intro j y σ H4 hy hP
        obtain ⟨rfl, bl, y5, rfl, hb0, hb1⟩ := hP
        obtain ⟨z, hz, rfl⟩ := at_map hy
        refine ⟨.int bl, rfl, bl, 69621, rfl, rfl, .inl ⟨by omega, by omega⟩, .int z, rfl, _, _, rfl, rfl, .int (t + 1), rfl, _, _, rfl, rfl, .inl ⟨_, rfl, .int p, rfl, _, p, rfl, rfl, hp1, ?_⟩⟩
        have c1 := Int.emod_nonneg (bl * 69621 + z + (t + 1)) (show p ≠ 0 by omega)
        have c2 := Int.emod_lt_of_pos (bl * 69621 + z + (t + 1)) hp1
        exact ⟨rfl, _, some (.int z), rfl, c1, by omega⟩
      · intro σ H4 hP
        obtain ⟨rfl, bl, y5, rfl, hb0, hb1⟩ := hP
        refine ⟨.int f, rfl, f, 2147483647, rfl, rfl, .inr ⟨by decide, by decide⟩, .int bl, rfl, bl, 5, rfl, rfl, ⟨by decide, by decide, by omega⟩, .inl ⟨_, rfl, .int p, rfl, _, p, rfl, rfl, hp1, _, _, rfl, rfl, ?_⟩⟩
        have c1 := Int.emod_nonneg (bl ^ (5 : Int).toNat) (show p ≠ 0 by omega)
        exact ⟨rfl, _, _, _, _, rfl, by omega⟩
    · intro σ H4 hP
      obtain ⟨rfl, f, x3, x4, x5, rfl, hf⟩ := hP
      exact ⟨.int f, rfl, k _ f hf F3 D3⟩
theorem ok0_l_take (T : Txt K mg) : FnOk P w K mg base CX0 2 T.l_take.a T.l_take.d ["draw", "many"] spTake := by
  refine T.l_take.F.ok c_l_take (fun vs H Q E h => ?_) (fun cdv A outer s H vs Q E hr h => ?_)
  · obtain ⟨d, g, c, t, m, rfl, _⟩ := h
    rfl
  · obtain ⟨d, g, c, t, m, rfl, hD, ht2, hm0, hm1, k⟩ := h
    refine ⟨_,
      (C8.pss_cut (ps_if (pt_cmpR op_eq (pe_dget (hu_of hr) (pv 0) pe_str (fun _ _ => rfl)) pe_int (nomark _))
      (pss_one (ps_dput (hu_of hr) (pv 0) pe_str (pe_ifExp (pt_cmpR (op_neD hr.units) (pe_dget (hu_of hr) (pv 0) pe_str (fun _ _ => rfl)) (pe_lst pa_nil) (nomark _)) (pe_bm PySem.F.plainAttrs_list PySem.F.slot_list_pop PySem.F.type_list_pop mt_popAt (pe_dget (hu_of hr) (pv 0) pe_str (fun _ _ => rfl)) (pa_cons pe_int pa_nil)) (pe_call (ok0_l_mixed T) (hr.mono (by decide)) rfl T.l_mixed.g T.l_mixed.k T.l_mixed.b .nil pass0 (pa_cons (pv 0) pa_nil))) rfl))
      pss_nil)
      (pss_cons (ps_set (i := 2) c_l_take.nd rfl (Or.inl rfl) (pe_op op_mod (pe_callTy call_int1 (by rfl) T.z_int (by decide +kernel) (pa_cons (pe_dget (hu_of hr) (pv 0) pe_str (fun _ _ => rfl)) pa_nil)) (pv 1)))
      (pss_cons (ps_dput (hu_of hr) (pv 0) pe_str (pe_op op_fdiv (pe_dget (hu_of hr) (pv 0) pe_str (fun _ _ => rfl)) (pv 1)) rfl)
      (pss_one (ps_ret (pv 2))))))
      , ?_⟩
    obtain ⟨gs, cs, n, hd, hg, hc, ngc, hgp, hcp, hn, ht⟩ := id hD
    have ndg : d ≠ g := ne_of hd hg (by intro q; cases q)
    have ndc : d ≠ c := ne_of hd hc (by intro q; cases q)
    refine ⟨fun σ H1 => σ = [some (.ref d), some (.int m), none] ∧ ∃ t', t' ≤ t + 1 ∧ Fr d g H H1 ∧ Dr H1 d g c t', ?_, ?_⟩
    · refine ⟨.ref d, rfl, d, .int n, rfl, dg_left hd, rfl, _, rfl, ite2 (fun _ => ?_) (fun _ => ?_)⟩
      · refine ⟨.ref d, rfl, d, .ref g, rfl, dg_great hd, Nat.zero_le _, fun e he => ?_⟩
        have S1 : Same H (upd H e (.lst [])) := same_new he
        have hd1 := S1 _ _ hd
        have hg1 := S1 _ _ hg
        have hc1 := S1 _ _ hc
        have he1 : upd H e (.lst []) e = some (.lst []) := upd_same
        refine ⟨.list (GS.dIs gs), .list (GS.dIs []), GS.dp_l (SqL.of hg1), GS.dp_l (ns := []) (SqL.of he1), GS.shaped_is _, GS.shaped_is _, _, rfl, ?_⟩
        rw [GS.eqv_lis]
        cases gs with
        | nil =>
          refine iteF ?_
          refine ⟨.ref d, rfl, d, g, c, t, rfl, hD.grow S1, ht2, fun H2 n2 hn2 F2 D2 => ?_⟩
          obtain ⟨gs', cs', n', a1, a2, a3, a4, a5, a6, a7, a8⟩ := D2
          refine ⟨.ref d, rfl, d, _, rfl, dp_left n2 a1, rfl, t + 1, Int.le_refl _, ?_, gs', cs', n2, upd_same, ?_, ?_, a4, a5, a6, hn2, a8⟩
          · exact fun b o h1 h2 h => by
              rw [upd_ne h1]
              exact F2 b o h1 h2 (S1 _ _ h)
          · rw [upd_ne ndg.symm]
            exact a2
          · rw [upd_ne ndc.symm]
            exact a3
        | cons x gs =>
          refine iteT ?_
          refine ⟨.ref d, rfl, d, .ref g, rfl, dg_great hd1, .inl ⟨rfl, _, SqL.of hg1⟩, g, _, 0, 0, .int x, rfl, rfl, hg1, by decide, by decide, seq_at (j := 0) (Nat.succ_pos _), rfl, ?_⟩
          have hx : 0 ≤ x := hgp x (List.mem_cons_self ..)
          have F2 : Fr d g H (upd (upd H e (.lst [])) g (.lst (gs.map V.int))) := fun b o h1 h2 h => by
            rw [upd_ne h2]
            exact S1 _ _ h
          have hd2 : upd (upd H e (.lst [])) g (.lst (gs.map V.int)) d = some (.dK (drK g c n t)) := by
            rw [upd_ne ndg]
            exact hd1
          refine ⟨.ref d, rfl, d, _, rfl, dp_left x hd2, rfl, t, by omega, ?_, gs, cs, x, upd_same, ?_, ?_, ngc, (fun y hy => hgp y (List.mem_cons_of_mem _ hy)), hcp, hx, ht⟩
          · exact fun b o h1 h2 h => by
              rw [upd_ne h1]
              exact F2 b o h1 h2 h
          · rw [upd_ne ndg.symm, upd_same]
            rfl
          · rw [upd_ne ndc.symm, upd_ne ngc.symm]
            exact hc1
      · exact ⟨rfl, t, by omega, Fr.refl d g H, hD⟩
    · intro σ H1 hP
      obtain ⟨rfl, t', ht', F1, gs', cs', n', a1, a2, a3, a4, a5, a6, a7, a8⟩ := hP
      refine ⟨.ref d, rfl, d, .int n', rfl, dg_left a1, .inl ⟨n', rfl, .int m, rfl, n', m, rfl, rfl, hm0, ?_⟩⟩
      refine ⟨.ref d, rfl, d, .int n', rfl, dg_left a1, .int m, rfl, n', m, rfl, rfl, ⟨hm0, by omega⟩, .ref d, rfl, d, _, rfl, dp_left (n' / m) a1, _, rfl, ?_⟩
      refine k _ (n' % m) t' (Int.emod_nonneg _ (by omega)) (Int.emod_lt_of_pos _ hm0) ht' (fun b o h1 h2 h => ?_) ⟨gs', cs', n' / m, upd_same, ?_, ?_, a4, a5, a6, Int.ediv_nonneg a7 (by omega), a8⟩
      · rw [upd_ne h1]
        exact F1 b o h1 h2 h
      · rw [upd_ne ndg.symm]
        exact a2
      · rw [upd_ne ndc.symm]
        exact a3
end
end G21
set_option Elab.async false
set_option linter.all false
set_option maxRecDepth 100000
set_option maxHeartbeats 4000000
/-! lambdas that capture nothing, as values: made, kept, called later -/
namespace GS
open PySem PySem.Spec PyProof.Rows L2 LamX
/-- the function object at f of a lambda that captures nothing -/
def LamO (c' : Addr) (q : Str) (params : Arguments) (body : Expr) (scope : Scope) (f : Addr) : HO := .ext fun h => ∃ (pm ctv : Value), h.get? f = some (PySem.W.kla_obj "<lambda>" q params body scope [] pm c' ctv)
theorem lamO_ok {P : Program} {w : World} {H : Hp} {h : Heap} {f c' : Addr} {q : Str} {params : Arguments} {body : Expr} {scope : Scope} {pm ctv : Value} (e : h.get? f = some (PySem.W.kla_obj "<lambda>" q params body scope [] pm c' ctv)) :
    ObjOk P w H h f (LamO c' q params body scope f) := ⟨⟨pm, ctv, e⟩, ⟨_, e⟩, fun _ _ ⟨a, b, z⟩ k => ⟨a, b, k _ z⟩⟩
theorem clo_nil {cells : List (Str × Addr)} : ∀ {names : List (Str × NameKind)} {acc : List (Str × Addr)}, (∀ y ∈ names, y.2 ≠ .free) → cloFrom cells names acc = acc
  | [], _, _ => rfl
  | (n, k) :: r, acc, h => by
    have hk : (k == NameKind.free) = false := by
      have z := h (n, k) List.mem_cons_self
      simpa using z
    unfold cloFrom
    rw [hk]
    exact clo_nil fun y hy => h y (List.mem_cons_of_mem _ hy)
section
variable {X : Cx} {pins : List (Addr × Obj)} {σ : L2.St} {H : Hp} {s : Shared}
/-- what is new at the heap's end, or behind it, is nobody's -/
theorem track_new {f : Addr} {o : HO} {H1 : Hp} {s1 : Shared} (I : Inv X pins σ H s) (I1 : Inv X pins σ H1 s1) (hf : s.heap.objs.size ≤ f) (hn : H1 f = none) (new : ObjOk X.prog X.w (upd H1 f o) s1.heap f o) : Inv X pins σ (upd H1 f o) s1 := by
  have le : ∀ b u, s.heap.get? b = some u → b ≠ f := fun b u e z => by
    have h1 := Heap.lt_size e
    rw [z] at h1
    exact Nat.lt_irrefl _ (Nat.lt_of_lt_of_le h1 hf)
  have l0 : X.s_0.heap.get? f = none := by
    cases e : X.s_0.heap.get? f with
    | none => rfl
    | some u =>
      have h1 := Heap.lt_size e
      have h2 : X.s_0.heap.objs.size ≤ s.heap.objs.size := Nat.le_trans I.ok.above (Nat.le_of_lt I.lt)
      exact absurd (Nat.lt_of_lt_of_le h1 (Nat.le_trans h2 hf)) (Nat.lt_irrefl _)
  refine track I1 hn l0 new (fun z => ?_) (fun x c e => ?_) (fun p hp => ?_)
  · have h1 := I.lt
    rw [← z] at h1
    exact Nat.lt_irrefl _ (Nat.lt_of_lt_of_le h1 hf)
  · obtain ⟨v, o, ho, _⟩ := I.cell x c e
    exact le c _ ho
  · exact le _ _ (I.pin p hp).1
/-- lambda ..: e, without captured names -/
def tLamV (T : List (Addr × Str)) (q : Str) (params : Arguments) (body : Expr) (scope : Scope) : TE := fun _ H Q => Tabs T H ∧ ∀ H1 f c', ExtN H H1 → Tabs T H1 → H1 f = none → H1 c' = some (CodeO c' q) → Q (.ref f) (upd H1 f (LamO c' q params body scope f))
end
section
variable {X : Cx}
theorem pe_lamV {T : List (Addr × Str)} {c P : Addr} {params : Arguments} {body : Expr} {scope : Scope} {pos : Pos} (TB : TabB X.base X.mg c P) (hcode : X.env.code = .ref c)
    (hm : (P, X.env.qual ++ "<lambda>") ∈ T) (hu : ∀ p ∈ T, p.1 = P → p.2 = X.env.qual ++ "<lambda>") (hdef : defaultsOf params X.env = ([], [])) (hfree : ∀ y ∈ scope.names, y.2 ≠ .free) :
    PE X (.Lambda params body scope pos) (tLamV T (X.env.qual ++ "<lambda>") params body scope) := by
  refine ⟨fun pins s σ H Q I h => ?_⟩
  obtain ⟨hT, go⟩ := h
  obtain ⟨ps, hP, ht, ha⟩ := hT _ hm
  have hcl := closure_ok (scope := scope) (env := X.env) fun y hy e => absurd e (hfree y hy)
  rw [clo_nil hfree] at hcl
  have bP : s.heap.BuiltinsAt X.mg P := TB.bm.keeps I.bk
  have hP' : s.heap.get? P = some { cls := .none, data := .fields ps } := I.hok P _ hP
  refine PySem.W.kla_eval hdef ?_
  cases hc : codeAmong pos ps.toList with
  | some cv =>
    obtain ⟨c', e, hco⟩ := ha pos cv hc
    subst e
    refine PySem.W.kla_makeFunctionHit hcl I.ok.glob (I.mod.glob.keeps I.bk) hcode (TB.code.keeps I.bk) hP' ht hc bP fun ctv h' tk hx hsz => ?_
    have I1 : Inv X pins σ H { s with heap := h'.push (PySem.W.kla_obj "<lambda>" (X.env.qual ++ "<lambda>") params body scope [] ((X.mg "__name__").getD .none) c' ctv), toks := tk } := I.kept fun b o e => Heap.get?_push_of_some _ (hx b o e)
    have hn := I.hok.fresh hsz
    exact ⟨V.ref _, _, track_new I I1 hsz hn (lamO_ok (Heap.get?_push_size _ rfl)), rfl, go H _ c' (ExtN.refl H) hT hn hco⟩
  | none =>
    refine PySem.W.kla_makeFunction hcl I.ok.glob (I.mod.glob.keeps I.bk) hcode (TB.code.keeps I.bk) hP' ht hc TB.gP bP fun c' ctv h' tk hx hge hlt hrec htb => ?_
    obtain ⟨c2, oc, vs, t, e2, hoc, hd, hv⟩ := hrec
    cases e2
    have hsz : s.heap.objs.size ≤ h'.objs.size := Nat.le_trans hge (Nat.le_of_lt hlt)
    have nC : H c' = none := I.hok.fresh hge
    have nPc : P ≠ c' := ne_of_none hP nC
    have I1 := inv_table (t' := tk) (more := #[rawInt pos.line, rawInt pos.col, .ref c']) (h' := h'.push (PySem.W.kla_obj "<lambda>" (X.env.qual ++ "<lambda>") params body scope [] ((X.mg "__name__").getD .none) c' ctv)) I hP
      (fun b o hb e => Heap.get?_push_of_some _ (hx b o hb e)) (Heap.get?_push_of_some _ htb) hge ⟨oc, vs, t, Heap.get?_push_of_some _ hoc, hd, hv⟩
    have ext : ExtN H (upd (upd H P (.tbl (ps ++ #[rawInt pos.line, rawInt pos.col, .ref c']))) c' (CodeO c' (X.env.qual ++ "<lambda>"))) := fun b o e n => by
      have nb : b ≠ P := fun z => by
        rw [z, hP] at e
        exact n ps (Option.some.inj e).symm
      rw [upd_ne (ne_of_none e nC), upd_ne nb]
      exact e
    have nf : h'.objs.size ≠ c' := Nat.ne_of_gt hlt
    have nP : h'.objs.size ≠ P := Nat.ne_of_gt (Nat.lt_of_lt_of_le (Heap.lt_size hP') hsz)
    have hn : upd (upd H P (.tbl (ps ++ #[rawInt pos.line, rawInt pos.col, .ref c']))) c' (CodeO c' (X.env.qual ++ "<lambda>")) h'.objs.size = none := by
      rw [upd_ne nf, upd_ne nP]
      exact I.hok.fresh hsz
    have tabs : Tabs T (upd (upd H P (.tbl (ps ++ #[rawInt pos.line, rawInt pos.col, .ref c']))) c' (CodeO c' (X.env.qual ++ "<lambda>"))) := fun p hp => by
      by_cases hb : p.1 = P
      · refine ⟨ps ++ #[rawInt pos.line, rawInt pos.col, .ref c'], by rw [hb, upd_ne nPc, upd_same], ?_, fun p' cv hcv => ?_⟩
        · have eL : (ps ++ #[rawInt pos.line, rawInt pos.col, .ref c']).toList = ps.toList ++ [rawInt pos.line, rawInt pos.col, .ref c'] := by simp
          rw [eL]
          exact PySem.TriplesOk_snoc _ _ _ _ ht
        · have eL : (ps ++ #[rawInt pos.line, rawInt pos.col, .ref c']).toList = ps.toList ++ [rawInt pos.line, rawInt pos.col, .ref c'] := by simp
          rw [eL] at hcv
          rw [hu p hp hb]
          rcases among_app _ ht hcv with z | z
          · obtain ⟨c0, e1, e2⟩ := ha p' cv z
            exact ⟨c0, e1, ext _ _ e2 codeO_ne⟩
          · exact ⟨c', z, upd_same⟩
      · obtain ⟨ps', a1, a2, a3⟩ := hT p hp
        refine ⟨ps', by rw [upd_ne (ne_of_none a1 nC), upd_ne hb]; exact a1, a2, fun p' cv hcv => ?_⟩
        obtain ⟨c0, e1, e2⟩ := a3 p' cv hcv
        exact ⟨c0, e1, ext _ _ e2 codeO_ne⟩
    exact ⟨V.ref _, _, track_new I I1 hsz hn (lamO_ok (Heap.get?_push_size _ rfl)), rfl, go _ _ c' ext tabs hn upd_same⟩
/-- what a kept lambda does when it is called: k levels of room, sp as of a def -/
def LamRun (P : Program) (w : World) (K : PySem.W.Frag) (mg : Str → Option Value) (base : Heap) (CX : CXT) (k : Nat) (q : Str) (params : Arguments) (body : Expr) (scope : Scope) (n : Nat) (sp : Sp) : Prop :=
  ∀ (f c' : Addr) (A : Around) (outer : List Env) (s : Shared) (H : Hp) (us : List Value) (vs : List V) (Q : VK) (E : XK), Room k A → Env0 P w K mg base A outer s H → H f = some (LamO c' q params body scope f) → H c' = some (CodeO c' q) → Vals vs us → vs.length = n → sp vs H Q E →
    codeAny (model P w) A (.call (.ref f) ⟨us, []⟩) (CR CX outer P w H s Q E) s
theorem lam_run {P : Program} {w : World} {K : PySem.W.Frag} {mg : Str → Option Value} {base : Heap} {CX : CXT} {k : Nat} {q : Str} {params : Arguments} {body : Expr} {scope : Scope} {N ps : List Str} {sp : Sp} (S : FnScope N ps scope)
    (hbind : ∀ (pm cv ctv : Value) (us : List Value), us.length = ps.length → bindArgs (PySem.W.kla_fn "<lambda>" q params body scope [] pm cv ctv) ⟨us, []⟩ = pure (ps.zip us))
    (hbody : ∀ (f c' : Addr) (A : Around) (outer : List Env) (s : Shared) (H : Hp) (vs : List V) (Q : VK) (E : XK), Room k (A.deeper (envOfC q scope s.heap.objs.size f (.ref c'))) → sp vs H Q E →
      ∃ te, PE (cxOf CX P w K mg base N q scope f (.ref c') A outer s H E) body te ∧ te (L2.start N vs) H Q) : LamRun P w K mg base CX (k + 1) q params body scope ps.length sp := by
  intro f c' A outer s H us vs Q E hr e0 hf hc r hl hsp
  obtain ⟨⟨pm, ctv, of⟩, _, _⟩ := e0.hok f _ hf
  obtain ⟨⟨oc, xs, t, hoc, hdc, hvc⟩, _, _⟩ := e0.hok c' _ hc
  have lim : s.heap.NoLimit := e0.mod.nolimit.keeps fun b o e => (e0.bs b o e).1
  have hkind : ∀ y ∈ ps.zip us, scope.names.lookup y.1 = some .local ∨ (scope.names.lookup y.1 = some .cell ∧ ((cellsFrom (s.heap.objs.size + 1) scope.names []).lookup y.1).isSome = true) := fun ⟨n, v⟩ hy => by
    rcases S.par n (List.of_mem_zip hy).1 with z | z
    · exact .inl z
    · exact .inr ⟨z, PySem.W.cellsFrom_some _ _ _ (.inl z)⟩
  refine PySem.W.kla_callFunE hr.depth of rfl S.co S.gen rfl ⟨c', oc, xs, t, rfl, hoc, hdc, hvc⟩ ?_
  rw [hbind pm (.ref c') ctv us (by rw [← r.length]; exact hl)]
  refine wpAny_pure (wpAny_newFunctionEnv_cells S.kind hkind fun env he s1 x => ?_)
  subst he
  obtain ⟨te, hp, hq⟩ := hbody f c' A outer s H vs Q E (hr.deeper _) hsp
  refine ⟨lim.keeps x.toInCall.keep, PySem.W.kla_codeExpr ?_⟩
  have I : Inv (cxOf CX P w K mg base N q scope f (.ref c') A outer s H E) [] (L2.start N vs) H s1 := inv_start S hr.hd e0 hl r x
  refine wpAny_mono (hp.run [] s1 (L2.start N vs) H Q I hq) (fun v s' hs => ?_) fun e s' hs => hs
  obtain ⟨v', H', J, rv, q'⟩ := hs
  exact ⟨v', H', J.os, J.bare, J.base, J.hok, rv, q'⟩
/-- fe(e, ..): what fe tells is a kept lambda -/
def tCallV (X : Cx) (CX : CXT) (k : Nat) (E : XK) (tf : TE) (t : TA) : TE := fun σ H Q => tf σ H fun x H1 => ∃ (f c' : Addr) (q : Str) (params : Arguments) (body : Expr) (scope : Scope), x = .ref f ∧ H1 f = some (LamO c' q params body scope f) ∧
  t σ H1 fun vs H2 => H2 f = some (LamO c' q params body scope f) ∧ H2 c' = some (CodeO c' q) ∧ ∃ sp, LamRun X.prog X.w X.K X.mg X.base CX k q params body scope vs.length sp ∧ sp vs H2 Q E
theorem pe_callV {CX : CXT} {k : Nat} {E : XK} {fe e : Expr} {es : List Expr} {tf : TE} {t : TA} {pos : Pos} (hf : PE X fe tf) (ha : PA X (e :: es) t) (hr : Room k X.A) (hx : Passes CX X E)
    (harm : eval (.Call fe (e :: es) [] pos) X.env = (do callWith pos (← eval fe X.env) [] (backTo pos (starEach (e :: es) X.env)) (backToKw pos (keywordEach [] X.env))) := by rfl)
    (he : starEach (e :: es) X.env = (false, eval e X.env) :: starEach es X.env := by rfl) (hpl : (backTo pos (starEach es X.env)).any (·.1) = false := by rfl) :
    PE X (.Call fe (e :: es) [] pos) (tCallV X CX k E tf t) := by
  refine ⟨fun pins s σ H Q I h => ?_⟩
  rw [harm]
  refine wpAny_bind (thn (hf.run pins s σ H _ I h) fun v s1 ⟨x, H1, I1, r1, q1⟩ => ?_)
  obtain ⟨f, c', q, params, body, scope, ex, l1, q1⟩ := q1
  subst ex
  obtain rfl : v = Value.ref f := r1
  obtain ⟨⟨pm, ctv, of1⟩, _, _⟩ := I1.hok f _ l1
  refine PySem.W.callWith_F ⟨_, _, _, _, of1⟩ (thn (ha.run pos pins s1 σ H1 _ I1 q1) fun us s2 ⟨vs, H2, I2, r2, q2⟩ => ?_) he hpl
  obtain ⟨l2, hc2, sp, run, hsp⟩ := q2
  obtain ⟨⟨pm2, ctv2, of2⟩, _, _⟩ := I2.hok f _ l2
  refine ⟨⟨_, _, _, _, of2⟩, wpAny_call (codeAny_mono (run f c' X.A X.stack s2 H2 us vs Q E hr I2.env0 l2 hc2 r2 rfl hsp) fun r s' hq => ?_)⟩
  cases r with
  | error e => exact hx pins σ H2 s2 e s' I2 hq
  | ok fl =>
    cases fl with
    | ret u => exact I2.after hq
    | next => exact False.elim hq
    | brk => exact False.elim hq
    | cont => exact False.elim hq
end
end GS
set_option Elab.async false
set_option linter.all false
set_option maxRecDepth 100000
set_option maxHeartbeats 4000000
/-! for k, x in enumerate(ts) over a tuple -/
namespace GS
open PySem PySem.Spec PyProof.Rows L2
section
variable {prog : Program} {w : World} {A : Around} {E : Value → Shared → Prop} {s : Shared}
/-- a next over a tuple's iterator, down to where it has the item or none -/
theorem nxT {it t : Addr} {i : Nat} {its : Array Value} {o : Obj} {Q : Value → Shared → Prop} (ho : s.heap.get? it = some o) (hc : o.cls = .type "tuple_iterator") (hd : o.data = .fields #[.ref t, .int i 0]) (ht : s.heap.IsTuple t its)
    (h : ∀ x, its[i]? = some x → ∀ h', h'.IsTupleIter it t (i + 1) → Heap.SameBut it s.heap h' → Q x { s with heap := h' })
    (hE : its[i]? = none → A.handled = none ∧ ∀ h' e, Heap.ExtBut it s.heap h' → (∃ o, h'.get? e = some o ∧ o.cls = .type "StopIteration") → E (.ref e) { s with heap := h' }) :
    wpAny (model prog w) A (Builtin.SmallTypes.nextOf (.ref it)) Q E s := by
  have hit : s.heap.IsTupleIter it t i := ⟨o, ho, hc, hd⟩
  obtain ⟨ol, hol, _, nl, hdl⟩ := ht
  unfold Builtin.SmallTypes.nextOf
  refine wpAny_bind (wpAny_callSpecial?_slot (name := Str.ofString "__next__") hit.typeIs F.slot_tuple_iterator_next (wpAny_call_entry F.slot_tuple_iterator_next hit.typeIs F.entry_tuple_iterator_next ?_ (F.args_tuple_iterator_next_1 _)))
  refine wpAny_bind (m := field (.ref it) 0) (wpAny_field ho hd (x := .ref t) rfl ?_)
  rw [if_neg (show ¬ ((Value.ref t == Value.none) = true) from Bool.false_ne_true)]
  refine wpAny_bind (m := field (.ref it) 1) (wpAny_field ho hd (x := .int i 0) rfl ?_)
  refine wpAny_bind (m := seqItems? (.ref t)) (wpAny_seqItems hol hdl ?_)
  rcases hx : its[i]? with _ | x
  · obtain ⟨hh, hE⟩ := hE hx
    simp only [Int.toNat_natCast, hx]
    refine wpAny_bind (wpAny_rule (wpAny_bind (wpAny_setField ho hd (by simp) (wpAny_bind (m := newExc (.type "StopIteration") []) ?_))))
    simp only [newExc, newTuple, raiseNew]
    refine wpAny_bind (wpAny_newObj_type ?_ (by size_fits))
    refine wpAny_bind (m := firstArgMember _ _) (wpAny_of_eq (a := Value.none) (by first | rfl | (simp only [firstArgMember]; rfl)) (wpAny_newObj_type (wpAny_bind (wpAny_handled ?_)) (by size_fits)))
    first | rw [show A.in1.handled = none from hh] | rw [hh]
    exact wpAny_bind (wpAny_pure (wpAny_throw (hE _ _ (((Heap.SameBut.update ..).extBut.push _).push _) ⟨_, Heap.get?_push_size _ rfl, rfl⟩)))
  · simp only [Int.toNat_natCast, hx]
    refine wpAny_bind (wpAny_setField ho hd (by simp) (wpAny_pure ⟨x, rfl, wpAny_pure (h x hx _ ?_ (Heap.SameBut.update ..))⟩))
    exact ⟨_, Heap.get?_update_self _ ho (Obj.isFreed_of_fields (Obj.data_mapFields hd _)), (Obj.cls_mapFields ..).trans hc, by rw [Obj.data_mapFields hd]; simp [rawInt]⟩
end
theorem drawsT {prog : Program} {w : World} {A : Around} (hh : A.handled = none) (it t : Addr) (hne : t ≠ it) (its : Array Value) :
    Draws prog w A it [it, t] its.size (fun i v => its[i]? = some v) (fun i h => h.IsTupleIter it t i ∧ h.IsTuple t its) where
  live := fun _ _ st => let ⟨o, ho, _⟩ := st.1; ⟨o, ho⟩
  frame := fun _ _ _ st hk => ⟨st.1.at fun o e => hk it (by simp) o e, st.2.at fun o e => hk t (by simp) o e⟩
  item := fun i s Q E hi st hQ => by
    obtain ⟨⟨o, ho, hc, hd⟩, h2⟩ := st
    exact nxT ho hc hd h2 (fun x hx h' a b => hQ x h' s.toks hx ⟨a, h2.extBut b.extBut hne⟩ b) fun e => absurd e (by simp [hi])
  done := fun s Q E st hE => by
    obtain ⟨⟨o, ho, hc, hd⟩, h2⟩ := st
    exact nxT ho hc hd h2 (fun x hx => absurd hx (by simp)) fun _ => ⟨hh, hE⟩
set_option maxHeartbeats 8000000 in
theorem meets_enumT (l : Addr) (items : Array Value) (n : Nat) (dct : Option Addr) (sl : Array (Option Value)) :
    Meets (Builtin.«enumerate.__new__» ⟨[.type "enumerate", .ref l], []⟩) (fun _ R s => s.heap.get? l = some { cls := .type "tuple", dict := dct, data := .seq items n, slots := sl } ∧
      R (.ok (.ret (.ref (s.heap.push { cls := .type "tuple_iterator", data := .fields #[.ref l, .int 0 0] }).objs.size)))
        { s with heap := (s.heap.push { cls := .type "tuple_iterator", data := .fields #[.ref l, .int 0 0] }).push { cls := .type "enumerate", data := .fields #[.none, .bool false, .ref s.heap.objs.size, rawInt 0, .none, .none] } }) :=
  .of_wp fun prog w A R s h => by
    obtain ⟨hp, g, d, tk, os⟩ := s
    obtain ⟨hl, h⟩ := h
    have hsub := sub_enumerate
    have hT : Heap.IsTuple (Shared.heap ⟨hp, g, d, tk, os⟩) l items := ⟨_, hl, rfl, n, rfl⟩
    wp_walk using AutoSeq1.wpAny_loadPart' hl
    refine wpAny_stack_any fun st => wpAny_pure ?_
    split
    · rename_i c _ _ _ _ _
      cases (c == Value.type "enumerate") <;>
      · wp_walk using AutoSeq1.wpAny_loadPart' hl, wpAny_pyIter_tuple hT
        exact ⟨_, rfl, h⟩
    · wp_walk using AutoSeq1.wpAny_loadPart' hl, wpAny_pyIter_tuple hT
      exact ⟨_, rfl, h⟩
theorem call_enumT {prog : Program} {w : World} {A : Around} {E : Value → Shared → Prop} {s : Shared} {l : Addr} {its : Array Value} {Q : Value → Shared → Prop} (hL : s.heap.IsTuple l its)
    (h : ∀ h', IsEnum h' (s.heap.objs.size + 1) s.heap.objs.size 0 .none → h'.IsTupleIter s.heap.objs.size l 0 → h'.objs.size = s.heap.objs.size + 2 → (∀ b o, s.heap.get? b = some o → h'.get? b = some o) → Q (.ref (s.heap.objs.size + 1)) { s with heap := h' }) :
    wpAny (model prog w) A (call (.type "enumerate") [.ref l]) Q E s := by
  obtain ⟨⟨c, dct, dt, sl⟩, hl, hc, n, hd⟩ := hL
  obtain rfl : c = .type "tuple" := hc
  obtain rfl : dt = .seq its n := hd
  refine callType_new F.called_enumerate (by decide) (F.typeCall_enumerate_1 _) (F.newCall_enumerate_1 _) (fun obj => F.args_object_init_2 obj _) F.entry_enumerate_new (meets_enumT l its n dct sl) ⟨hl, ?_⟩
  have hz := Heap.size_push s.heap { cls := .type "tuple_iterator", data := .fields #[.ref l, .int 0 0] }
  have he : IsEnum ((s.heap.push { cls := .type "tuple_iterator", data := .fields #[.ref l, .int 0 0] }).push { cls := .type "enumerate", data := .fields #[.none, .bool false, .ref s.heap.objs.size, rawInt 0, .none, .none] }) (s.heap.objs.size + 1) s.heap.objs.size 0 .none := by
    have := Heap.get?_push_size (s.heap.push { cls := .type "tuple_iterator", data := .fields #[.ref l, .int 0 0] }) (o := { cls := .type "enumerate", data := .fields #[.none, .bool false, .ref s.heap.objs.size, rawInt 0, .none, .none] }) rfl
    rw [hz] at this
    exact this
  show _ ∧ _
  rw [hz]
  exact ⟨⟨_, he, rfl⟩, h _ he ⟨_, Heap.get?_push_of_some _ (Heap.get?_push_size _ rfl), rfl, rfl⟩ (by rw [Heap.size_push, hz]) fun b o x => Heap.get?_push_of_some _ (Heap.get?_push_of_some _ x)⟩
theorem enumT_end {prog : Program} {w : World} {A : Around} {E : Value → Shared → Prop} {s : Shared} {e it l : Addr} {i : Nat} {its : Array Value} {old : Value} {Q : Option Value → Shared → Prop} (hh : A.handled = none) (he : IsEnum s.heap e it i old) (hit : s.heap.IsTupleIter it l i) (hl : s.heap.IsTuple l its) (hx : its[i]? = none)
    (hQ : ∀ h', Heap.ExtBut it s.heap h' → Q none { s with heap := h' }) : wpAny (model prog w) A (pyNext (.ref e)) Q E s := by
  have D : Draws prog w A.in1 it [it, l] 0 (fun _ _ => True) (fun _ h => h.IsTupleIter it l i ∧ h.IsTuple l its) :=
    { live := fun _ _ st => let ⟨o, ho, _⟩ := st.1; ⟨o, ho⟩
      frame := fun _ _ _ st hk => ⟨st.1.at fun o e => hk it (by simp) o e, st.2.at fun o e => hk l (by simp) o e⟩
      item := fun k _ _ _ hk => absurd hk (by omega)
      done := fun s Q E st hE => by
        obtain ⟨⟨o, ho, hc, hd⟩, h2⟩ := st
        exact nxT ho hc hd h2 (fun x z => absurd z (by rw [hx]; exact nofun)) fun _ => ⟨hh, hE⟩ }
  exact wpAny_pyNext_enum_endD D he ⟨hit, hl⟩ hQ
/-- the tuple at a, each item in a new pair -/
def IeT (K : PySem.W.Frag) (a : Addr) : It :=
  ⟨fun i H => ∃ (xs : List V) (x : V), SqT K H a xs ∧ xs[i]? = some x, fun i H v H' => ∃ T x, v = .ref T ∧ H T = none ∧ H' = upd H T (.tup [.int (i : Nat), x]) ∧ ∀ xs, SqT K H a xs → xs[i]? = some x, fun i H => ∃ xs : List V, SqT K H a xs ∧ xs.length ≤ i⟩
theorem turn_enumT {P : Program} {w : World} {K : PySem.W.Frag} {elts : List Expr} {kk : Nat} {tpos : Pos} (a e it : Addr) :
    Turn P w K (.Tuple elts kk tpos) (IeT K a) [e, it] e (fun i h => (∃ old, IsEnum h e it ((i : Nat) : Int) old) ∧ h.IsTupleIter it a i ∧ e ≠ it) where
  mem := List.mem_cons_self
  obj := fun i h ⟨⟨old, he⟩, ⟨o, ho, _, hd⟩, _⟩ b hb => by
    rcases (show b = e ∨ b = it by simpa using hb) with rfl | rfl
    · exact ⟨_, he, fun v q => nomatch q⟩
    · exact ⟨o, ho, fun v q => by rw [hd] at q; cases q⟩
  keep := fun i h h' ⟨⟨old, he⟩, hi, hne⟩ k => ⟨⟨old, k e (by simp) _ he⟩, hi.at fun o q => k it (by simp) o q, hne⟩
  item := by
    intro X hP hw hK hc i pins s σ H E I hf ⟨⟨old, he⟩, hit, hne⟩ ⟨xs, x, hq, hx⟩
    subst hP hw hK
    obtain ⟨its, rv, p, hz⟩ := I.tuple hq
    obtain ⟨u, hu, ru⟩ := rv.get hx
    have hel := Heap.lt_size he
    have hil : it < s.heap.objs.size := let ⟨_, q, _⟩ := hit; Heap.lt_size q
    have ha : s.heap.IsTuple a its.toArray := p
    have hai : a ≠ it := fun q => by
      obtain ⟨o1, e1, c1, _⟩ := ha
      obtain ⟨o2, e2, c2, _⟩ := hit
      rw [q, e2] at e1
      cases e1
      rw [c2] at c1
      exact absurd (Value.type.inj c1) (by decide)
    have hae : e ∉ [it, a] := fun q => by
      rcases (show e = it ∨ e = a by simpa using q) with q | q
      · exact hne q
      · obtain ⟨o1, e1, c1, _⟩ := ha
        rw [← q, he] at e1
        cases e1
        exact absurd (Value.type.inj c1) (by decide)
    have hlt : i < its.toArray.size := by
      have := rv.length
      have := (List.getElem?_eq_some_iff.mp hx).1
      simp only [List.size_toArray]
      omega
    refine wpAny_pyNext_enum_itemD (drawsT (A := X.A.in1) (I.ok.hd hc) it a hai its.toArray) he (And.intro hit ha) hlt hne hae fun x1 h' tk hP ho st hT hsz hk => ?_
    obtain rfl : x1 = u := by
      rw [List.getElem?_toArray, hu] at hP
      exact (Option.some.inj hP).symm
    refine ⟨_, rfl, wpAny_letOwnedTupleGo_enum (s := { s with heap := h', toks := tk + 1 }) ho fun h'' he' sb => ?_⟩
    have hT2 := (sb.2 _ (Nat.ne_of_gt hel)).trans hT
    have new : ObjOk X.prog X.w (upd H s.heap.objs.size (.tup [.int (i : Nat), x])) h'' s.heap.objs.size (.tup [.int (i : Nat), x]) := ⟨by show 2 ≤ sizeLine; decide, [.int i tk, x1], .cons ⟨_, rfl⟩ (.cons ru .nil), ⟨_, hT2, rfl, _, rfl⟩⟩
    have I1 : Inv X pins σ (upd H s.heap.objs.size (.tup [.int (i : Nat), x])) { s with heap := h'', toks := tk + 1 } :=
      I.turnedNew (ch := [e, it]) (fun b ob hb q => (sb.2 b (fun z => hb (by simp [z]))).trans (hk b ob (fun z => hb (by simp [z])) (fun z => hb (by simp [z])) q)) hf (Nat.le_refl _) new
    refine ⟨.ref s.heap.objs.size, _, I1, rfl, ⟨_, x, rfl, I.hok.fresh (Nat.le_refl _), rfl, fun ys hy => by rw [I.tuple_inj hy hq]; exact hx⟩, ⟨⟨x1, ?_⟩, st.1.at fun o q => (sb.2 it (Ne.symm hne)).trans q, hne⟩, fun b hb => ?_⟩
    · rw [show ((i + 1 : Nat) : Int) = (i : Int) + 1 by omega]
      exact he'
    · rw [upd_ne (Nat.ne_of_lt (by rcases (show b = e ∨ b = it by simpa using hb) with rfl | rfl <;> assumption))]
      exact (hf b hb).1
  done := by
    intro X hP hw hK hc i pins s σ H E I hf ⟨⟨old, he⟩, hit, hne⟩ ⟨xs, hq, hx⟩
    subst hP hw hK
    obtain ⟨its, rv, p, hz⟩ := I.tuple hq
    obtain ⟨f0, f1, f2, f3, f4, f5⟩ := hf it (by simp)
    have ha : s.heap.IsTuple a its.toArray := p
    have hl := rv.length
    refine enumT_end (A := X.A) (I.ok.hd hc) he hit ha (by simp; omega) fun h' eb => ⟨rfl, I.turned (t' := s.toks) (fun b o hb q => eb b o hb q) f0 f1 f3 f4 f5⟩
  self := fun A i s Q E ⟨⟨_, he⟩, _⟩ h => wpAny_pyIter_enum he h
theorem pi_enumT {X : Cx} {e : Expr} {ta : TA} {p pos tpos : Pos} {elts : List Expr} {kk : Nat} (hg : Gl X "enumerate") (hm : X.mg "enumerate" = none) (ha : PA X [e] ta) (hs : starEach [e] X.env = [(false, eval e X.env)] := by rfl) :
    PI X (.Tuple elts kk tpos) (.Call (.Name "enumerate" p) [e] [] pos) fun σ H R => ta σ H fun vs H1 => ∃ a xs, vs = [.ref a] ∧ SqT X.K H1 a xs ∧ R (IeT X.K a) H1 := by
  refine ⟨fun pins s σ H R I h => Call_ (ld_blt I hg hm boot_enumerate (PyProof.Rows.callWith_type1 (thn (ha.run pos pins s σ H _ I h) fun us s1 ⟨vs, H1, I1, r1, a, xs, ex, hq, q⟩ => ?_) hs rfl))⟩
  subst ex
  cases r1 with
  | cons r rr =>
    cases rr
    cases r
    obtain ⟨its, rv, p', hz⟩ := I1.tuple hq
    refine call_enumT (show s1.heap.IsTuple a its.toArray from p') fun h' he hit hsz hk => wpAny_pyIter_enum he ?_
    refine ⟨s1.heap.objs.size + 1, [s1.heap.objs.size + 1, s1.heap.objs.size], _, _, H1, rfl, I1.kept (t' := s1.toks) hk, turn_enumT a (s1.heap.objs.size + 1) s1.heap.objs.size, ⟨⟨.none, he⟩, hit, Nat.succ_ne_self _⟩, fun b hb => ?_, q⟩
    have hle : s1.heap.objs.size ≤ b := by rcases (show b = s1.heap.objs.size + 1 ∨ b = s1.heap.objs.size by simpa using hb) with rfl | rfl <;> omega
    exact I1.fpOk hle (I1.hok.fresh hle)
end GS
set_option Elab.async false
set_option linter.all false
set_option maxRecDepth 100000
set_option maxHeartbeats 4000000
namespace G21
open PySem PySem.Spec PyProof.Rows L2
def vO : Option Int → V
  | none => .non
  | some n => .int n
def rankN : Option Int → List Int
  | none => [1, 0]
  | some n => [0, n]
def spRank : Sp := fun vs H Q _ => ∃ p : Option Int, vs = [vO p] ∧ ∀ z, H z = none → Q (.ref z) (upd H z (.tup ((rankN p).map V.int)))
section
variable {P : Program} {w : World} {K : PySem.W.Frag} {mg : Str → Option Value} {base : Heap}
theorem ok0_l_rank (T : Txt K mg) : FnOk P w K mg base CX0 1 T.l_rank.a T.l_rank.d ["item"] spRank := by
  refine T.l_rank.F.ok c_l_rank (fun vs H Q E h => ?_) (fun cdv A outer s H vs Q E hr h => ?_)
  · obtain ⟨p, rfl, _⟩ := h
    rfl
  · obtain ⟨p, rfl, k⟩ := h
    refine ⟨_,
      (pss_one (ps_ret (pe_ifExp (pt_cmpR op_isN (pv 0) pe_non (nomark _)) (pe_tup (pa_cons pe_int (pa_cons pe_int pa_nil))) (pe_tup (pa_cons pe_int (pa_cons (pv 0) pa_nil))))))
      , ?_⟩
    cases p with
    | none => exact ⟨.non, rfl, rfl, _, rfl, iteT ⟨by show 2 ≤ sizeLine; decide, fun z hz => k z hz⟩⟩
    | some n => exact ⟨.int n, rfl, rfl, _, rfl, iteF ⟨.int n, rfl, by show 2 ≤ sizeLine; decide, fun z hz => k z hz⟩⟩
end
end G21
set_option Elab.async false
set_option linter.all false
set_option maxRecDepth 100000
set_option maxHeartbeats 1000000
/-! list(reversed(a list)), list(reversed(a tuple)) -/
namespace RT
open PySem PySem.Spec PyProof.Rows
theorem nolen_rt : typeLookup (.type "reversed") "__len__" = pure none := by rw [typeLookup_type, builtinLookup_eq_fast]; kernel_rfl
theorem hint_rt : typeLookup (.type "reversed") "__length_hint__" = pure (some (.builtin "reversed.__length_hint__")) := by rw [typeLookup_type, builtinLookup_eq_fast]; kernel_rfl
theorem IsTup.at2 {h h' : Heap} {t : Addr} {items : Array Value} (x : IsTup h t items) (e : ∀ o, h.get? t = some o → h'.get? t = some o) : IsTup h' t items := let ⟨o, ho, r⟩ := x; ⟨o, e _ ho, r⟩
theorem walksRt {prog : Program} {w : World} {A : Around} (hh : A.handled = none) (I t : Addr) (hne : t ≠ I) (items : Array Value) (hsz : items.size ≤ sizeLine) :
    Walks prog w A I [I, t] [I] items.size (fun i v => items[items.size - 1 - i]? = some v) (fun i h => i ≤ items.size ∧ IsRt h I t ((items.size : Int) - 1 - (i : Int)) ∧ IsTup h t items) where
  sub := fun b hb => by simp at hb; simp [hb]
  frame := fun _ _ _ x hk => ⟨x.1, x.2.1.at fun o e => hk I (by simp) o e, IsTup.at2 x.2.2 fun o e => hk t (by simp) o e⟩
  item := fun i s Q E hi x hQ => by
    have e : (items.size : Int) - 1 - (i : Int) = ((items.size - 1 - i : Nat) : Int) := by omega
    have hit := x.2.1
    rw [e] at hit
    have hx : items[items.size - 1 - i]? = some (items[items.size - 1 - i]'(by omega)) := Array.getElem?_eq_getElem (by omega)
    refine next_rt_item hit x.2.2 hx hsz fun h' hit' hs' => ?_
    have e2 : ((items.size - 1 - i : Nat) : Int) - 1 = (items.size : Int) - 1 - ((i + 1 : Nat) : Int) := by omega
    rw [e2] at hit'
    exact hQ _ h' (s.toks + 1) hx ⟨hi, hit', IsTup.at2 x.2.2 fun o eo => (hs'.2 t hne).trans eo⟩ fun b o hb eo => hs'.extBut b o (fun h => hb (by simp [h])) eo
  done := fun s Q E x hQ => by
    have e : (items.size : Int) - 1 - (items.size : Int) = -1 := by omega
    have hit := x.2.1
    rw [e] at hit
    exact next_rt_end hh hit fun h' he' => hQ h' s.toks fun b o hb eo => he' b o (fun h => hb (by simp [h])) eo
  self := fun _ _ _ _ x hQ => iter_rt x.2.1 hQ
theorem slot_rt_hint : Slot "reversed" "__length_hint__" "reversed.__length_hint__" :=
  .of (owner := "reversed") (n := "__length_hint__") (by rw [typeLookup_type, builtinLookup_eq_fast]; kernel_rfl) (by decide +kernel) (by decide +kernel) (by decide +kernel)
    (by first | exact .inl (by decide +kernel) | exact .inr (by decide +kernel)) (by rw [isSubtype_type]; kernel_rfl)
theorem args_rt_hint (a : Value) : argsOk "reversed.__length_hint__" ⟨[a], []⟩ := by
  unfold argsOk; rw [signature?_of (id := "reversed.__length_hint__") (n := ['_', '_', 't', 'n', 'i', 'h', '_', 'h', 't', 'g', 'n', 'e', 'l', '_', '_']) (o := ['d', 'e', 's', 'r', 'e', 'v', 'e', 'r']) (by kernel_rfl) owner_rt]; kernel_rfl
theorem entry_rt_hint : entryFor table "reversed.__length_hint__" = some Builtin.«reversed.__length_hint__» := entryFor_of_tree (by kernel_rfl)
section
variable {prog : Program} {w : World} {A : Around} {E : Value → Shared → Prop} {s : Shared}
theorem hint_rt_run {it t : Addr} {items : Array Value} {Q : Value → Shared → Prop} (hit : IsRt s.heap it t ((items.size : Int) - 1)) (ht : IsTup s.heap t items) (hsz : items.size ≤ sizeLine)
    (hQ : ∀ tk tk', s.toks ≤ tk' → Q (.int items.size tk) { s with toks := tk' }) : wpAny (model prog w) A (call (.builtin "reversed.__length_hint__") [.ref it]) Q E s := by
  obtain ⟨o, ho, hc, hd⟩ := id hit
  rw [sizeLine_eq] at hsz
  refine wpAny_call_entry slot_rt_hint hit.typeIs entry_rt_hint ?_ (args_rt_hint _)
  unfold Builtin.«reversed.__length_hint__»
  refine wpAny_bind (wpAny_of_eq (a := Value.ref it) rfl ?_)
  try dsimp only
  refine wpAny_bind (wpAny_field ho hd (x := .ref t) rfl ?_)
  try dsimp only
  rw [if_neg (by intro z; cases z)]
  try dsimp only
  refine wpAny_bind (PyProof.Rows.len_tuple ht (by omega) ?_)
  refine wpAny_bind (wpAny_of_eq (a := some ((items.size : Nat) : Int)) rfl ?_)
  try dsimp only
  refine wpAny_bind (wpAny_field (s := { s with toks := s.toks + 1 + 1 }) ho hd (x := rawInt ((items.size : Int) - 1)) rfl ?_)
  try dsimp only
  show wpAny _ _ (if (items.size : Int) < ((items.size : Int) - 1) + 1 then _ else _) _ _ _
  rw [if_neg (by omega)]
  show wpAny _ _ (mkInt ((items.size : Int) - 1 + 1) >>= fun v => ret v) _ _ _
  refine wpAny_bind (wpAny_mkInt ?_)
  have e : (items.size : Int) - 1 + 1 = items.size := by omega
  rw [e]
  exact wpAny_pure ⟨_, rfl, hQ _ _ (by show s.toks ≤ s.toks + 1 + 1 + 1; omega)⟩
end
section
variable {prog : Program} {w : World} {A : Around} {s : Shared} {R : Result → Shared → Prop} {E : Value → Shared → Prop}
variable {I : Addr} {fp wr : List Addr} {G : Array GenState → Array GenState → Prop} {n : Nat} {P : Nat → Value → Prop} {St : Nat → Shared → Prop}
theorem extend_itT (W : WalksS prog w A.in1 I fp wr G n P St) {t : Addr} {items : Array Value} (hst0 : ∀ s, St 0 s → IsRt s.heap I t ((items.size : Int) - 1) ∧ IsTup s.heap t items) (hni : items.size = n) (hT : ∀ i s, St i s → s.TypeIs (.ref I) "reversed") (S : Addr) (res : Value) (c₀ : Nat) (hst : St 0 s) (hSf : S ∉ fp) (hI : I ∈ fp)
    (hS : s.heap.get? S = some { cls := .type "list", data := .seq #[] c₀ })
    (hR : ∀ s' acc' c', Moved (S :: wr) G s s' → s'.heap.get? S = some { cls := .type "list", dict := none, data := .seq acc' c', slots := #[] } → ItemsOf P acc' n → R (.ok (.ret res)) s') (hn : n ≤ sizeLine) :
    wpAny (model prog w) A.in1 (Builtin.List.listExtendWith (.ref S) (.ref I) res)
      (fun fin s' => match fin with | .done f => R (.ok f) s' | .again c' => c'.quiet = true ∧ codeAny (model prog w) A c' R s') (fun e s' => R (.error e) s') s := by
  have hSI : S ≠ I := fun e => hSf (e ▸ hI)
  unfold Builtin.List.listExtendWith
  refine wpAny_bind (wpAny_typeOf (hT 0 _ hst) ?_)
  have h1 : Builtin.List.listSameRef (.ref S) (.ref I) = false := by simp [Builtin.List.listSameRef, hSI]
  have n1 : (Value.type "reversed" == Value.type "list") = false := by decide
  have n2 : (Value.type "reversed" == Value.type "tuple") = false := by decide
  simp only [h1, n1, n2, Bool.or_false, Bool.false_eq_true, if_false]
  refine wpAny_bind (W.self 0 _ _ _ hst ?_)
  refine wpAny_bind (wpAny_holding ?_)
  unfold Builtin.List.listLengthHint
  refine wpAny_bind (wpAny_specialOf (hT 0 _ hst) nolen_rt ?_)
  show wpAny _ A.in1 (specialOf (Value.ref I) (Str.ofString "__length_hint__") >>= _) _ _ _
  refine wpAny_bind (wpAny_specialOf (hT 0 _ hst) hint_rt ?_)
  generalize hid : ("reversed.__length_hint__" : String) = id0
  wp_delta
  rw [show splitId id0 = some ("reversed", "__length_hint__") from by subst hid; decide +kernel]
  subst hid
  refine wpAny_bind (wpAny_isInstance (b := true) (hT 0 _ hst) (by rw [isSubtype_type]; kernel_rfl) ?_)
  simp only [Bool.not_true, Bool.false_eq_true, if_false]
  rw [if_neg (by decide +kernel)]
  refine wpAny_bind (wpAny_rule ?_)
  refine wpAny_bind (wpAny_of_eq (slot_rt_hint.bind (.ref I)) ?_)
  dsimp only
  refine wpAny_bind (wpAny_attempt (hint_rt_run (hst0 _ hst).1 (hst0 _ hst).2 (by rw [hni]; exact hn) fun tk tk' htk => ?_))
  dsimp only
  have ea : asInt? (Value.int ((items.size : Nat) : Int) tk) = pure (some ((items.size : Nat) : Int)) := rfl
  rw [ea]
  refine wpAny_bind ?_
  refine wpAny_pure ?_
  dsimp only
  have hz : items.size ≤ 16777216 := by rw [hni, ← sizeLine_eq]; exact hn
  have f1 : Builtin.List.listFitsIndex ((items.size : Nat) : Int) = true := by
    unfold Builtin.List.listFitsIndex
    simp
    omega
  have f2 : Builtin.List.listTooLong ((items.size : Nat) : Int).toNat = false := by
    unfold Builtin.List.listTooLong
    simp [sizeLine_eq]
    omega
  rw [f1, f2]
  simp only [Bool.not_true, Bool.false_eq_true, if_false]
  rw [if_neg (by omega)]
  refine wpAny_pure ?_
  have hst1 : St 0 { s with toks := tk' } := W.frame 0 s s.heap tk' hst htk fun b _ o e => e
  clear f1 f2 hz ea
  split
  · refine wpAny_bind (wpAny_rule ?_)
    refine wpAny_bind ?_
    show wpAny _ A.in1 (updateSeq S (·.push .none) >>= fun _ => updateSeq S (·.pop)) _ _ _
    refine wpAny_bind (wpAny_updateSeq hS rfl ?_)
    have hS₂ := Heap.get?_update_self (Obj.mapSeq (·.push Value.none)) hS rfl
    refine wpAny_updateSeq (hz := by seq_fits) hS₂ rfl ?_
    have hS₃ := Heap.get?_update_self (Obj.mapSeq (·.pop)) hS₂ rfl
    have oth : ∀ b o, b ≠ S → s.heap.get? b = some o → ((s.heap.update S (Obj.mapSeq (·.push Value.none))).update S (Obj.mapSeq (·.pop))).get? b = some o :=
      fun b o hb e => (Heap.get?_update_other _ _ (Ne.symm hb)).trans ((Heap.get?_update_other _ _ (Ne.symm hb)).trans e)
    refine wpAny_pure ⟨plainId_quiet F.plain_extend_loop _, codeAny_extend_loopS W hn _ hSf _ n 0 _ _ _ rfl (Nat.zero_le _)
      (W.frame 0 { s with toks := tk' } _ tk' hst1 (Nat.le_refl _) fun b hb o e => oth b o (fun h => hSf (h ▸ hb)) e) hS₃ (ItemsOf.nil P) fun s' acc' c' hm hS' hacc => ?_⟩
    exact hR s' acc' c' (Moved.trans W.gtrans ((Moved.refl W.grefl).then_heap htk fun b o hb e => oth b o (fun h => hb (h ▸ List.mem_cons_self)) e) hm) hS' hacc
  · refine wpAny_pure ⟨plainId_quiet F.plain_extend_loop _, codeAny_extend_loopS W hn _ hSf _ n 0 _ _ _ rfl (Nat.zero_le _) hst1 hS (ItemsOf.nil P) fun s' acc' c' hm hS' hacc => ?_⟩
    exact hR s' acc' c' (Moved.trans W.gtrans ((Moved.refl W.grefl).then_heap htk fun b o hb e => e) hm) hS' hacc
theorem extend_itL (W : WalksS prog w A.in1 I fp wr G n P St) (hT : ∀ i s, St i s → s.TypeIs (.ref I) "list_reverseiterator") (S : Addr) (res : Value) (c₀ : Nat) (hst : St 0 s) (hSf : S ∉ fp) (hI : I ∈ fp)
    (hS : s.heap.get? S = some { cls := .type "list", data := .seq #[] c₀ })
    (hR : ∀ s' acc' c', Moved (S :: wr) G s s' → s'.heap.get? S = some { cls := .type "list", dict := none, data := .seq acc' c', slots := #[] } → ItemsOf P acc' n → R (.ok (.ret res)) s') (hn : n ≤ sizeLine) :
    wpAny (model prog w) A.in1 (Builtin.List.listExtendWith (.ref S) (.ref I) res)
      (fun fin s' => match fin with | .done f => R (.ok f) s' | .again c' => c'.quiet = true ∧ codeAny (model prog w) A c' R s') (fun e s' => R (.error e) s') s := by
  have hSI : S ≠ I := fun e => hSf (e ▸ hI)
  unfold Builtin.List.listExtendWith
  refine wpAny_bind (wpAny_typeOf (hT 0 _ hst) ?_)
  have h1 : Builtin.List.listSameRef (.ref S) (.ref I) = false := by simp [Builtin.List.listSameRef, hSI]
  have n1 : (Value.type "list_reverseiterator" == Value.type "list") = false := by decide
  have n2 : (Value.type "list_reverseiterator" == Value.type "tuple") = false := by decide
  simp only [h1, n1, n2, Bool.or_false, Bool.false_eq_true, if_false]
  refine wpAny_bind (W.self 0 _ _ _ hst ?_)
  refine wpAny_bind (wpAny_holding ?_)
  unfold Builtin.List.listLengthHint
  refine wpAny_bind (wpAny_specialOf (hT 0 _ hst) nolen_lri ?_)
  show wpAny _ A.in1 (specialOf (Value.ref I) (Str.ofString "__length_hint__") >>= _) _ _ _
  refine wpAny_bind (wpAny_specialOf (hT 0 _ hst) hint_lri ?_)
  generalize hid : ("list_reverseiterator.__length_hint__" : String) = id0
  wp_delta
  rw [show splitId id0 = some ("list_reverseiterator", "__length_hint__") from by subst hid; decide +kernel]
  subst hid
  refine wpAny_bind (wpAny_isInstance (b := true) (hT 0 _ hst) (by rw [isSubtype_type]; kernel_rfl) ?_)
  refine wpAny_pure ?_
  rw [if_neg (by decide)]
  refine wpAny_pure ⟨plainId_quiet F.plain_extend_loop _, codeAny_extend_loopS W hn _ hSf _ n 0 _ _ _ rfl (Nat.zero_le _) hst hS (ItemsOf.nil P) fun s' acc' c' hm hS' hacc => hR s' acc' c' hm hS' hacc⟩
theorem init_itL (W : WalksS prog w A.in1 I fp wr G n P St) (hT : ∀ i s, St i s → s.TypeIs (.ref I) "list_reverseiterator") (S : Addr) (hst : St 0 s) (hSf : S ∉ fp) (hI : I ∈ fp)
    (hS : s.heap.get? S = some { cls := .type "list", data := .seq #[] })
    (hR : ∀ s' acc' c', Moved (S :: wr) G s s' → s'.heap.get? S = some { cls := .type "list", dict := none, data := .seq acc' c', slots := #[] } → ItemsOf P acc' n → R (.ok (.ret .none)) s') (hn : n ≤ sizeLine) :
    wpAny (model prog w) A.in1 (Builtin.«list.__init__» ⟨[.ref S, .ref I], []⟩)
      (fun fin s' => match fin with | .done f => R (.ok f) s' | .again c' => c'.quiet = true ∧ codeAny (model prog w) A c' R s') (fun e s' => R (.error e) s') s := by
  show wpAny _ A.in1 (do let old ← Builtin.List.listItems (.ref S); Builtin.List.listUpdate (.ref S) (fun _ => #[]); letGo old.toList.reverse; Builtin.List.listExtendWith (.ref S) (.ref I) .none) _ _ s
  refine wpAny_bind ?_
  unfold Builtin.List.listItems
  refine wpAny_bind (wpAny_seqItems hS rfl (wpAny_pure ?_))
  show wpAny _ A.in1 (updateSeq S (fun _ => #[]) >>= fun _ => letGo (#[] : Array Value).toList.reverse >>= fun _ => Builtin.List.listExtendWith (.ref S) (.ref I) .none) _ _ s
  refine wpAny_bind (wpAny_updateSeq hS rfl ?_)
  have hS₂ := Heap.get?_update_self (Obj.mapSeq (fun _ => (#[] : Array Value))) hS rfl
  have oth : ∀ b o, b ≠ S → s.heap.get? b = some o → (s.heap.update S (Obj.mapSeq (fun _ => (#[] : Array Value)))).get? b = some o :=
    fun b o hb e => (Heap.get?_update_other _ _ (Ne.symm hb)).trans e
  refine wpAny_bind (wpAny_letGo ?_)
  refine extend_itL W hT S .none _ (W.frame 0 s _ s.toks hst (Nat.le_refl _) fun b hb o e => oth b o (fun h => hSf (h ▸ hb)) e) hSf hI hS₂ (fun s' acc' c' hm hS' hacc => ?_) hn
  exact hR s' acc' c' (Moved.trans W.gtrans ((Moved.refl W.grefl).then_heap (Nat.le_refl _) fun b o hb e => oth b o (fun h => hb (h ▸ List.mem_cons_self)) e) hm) hS' hacc
theorem call_list_itL {Q : Value → Shared → Prop} (W : WalksS prog w A.in1.in1 I fp wr G n P St) (hT : ∀ i s, St i s → s.TypeIs (.ref I) "list_reverseiterator") (hst : St 0 s) (hfp : ∀ b ∈ fp, b < s.heap.objs.size) (hI : I ∈ fp)
    (hQ : ∀ s' acc' c', Moved (s.heap.objs.size :: wr) G { s with heap := s.heap.push { cls := .type "list", data := .seq #[] } } s' →
      s'.heap.get? s.heap.objs.size = some { cls := .type "list", dict := none, data := .seq acc' c', slots := #[] } → ItemsOf P acc' n → Q (.ref s.heap.objs.size) s') (hn : n ≤ sizeLine) :
    wpAny (model prog w) A (call (.type "list") [.ref I]) Q E s := by
  have hSf : s.heap.objs.size ∉ fp := fun hm => Nat.lt_irrefl _ (hfp _ hm)
  refine callType_codes (Q₁ := fun obj s₁ => obj = .ref s.heap.objs.size ∧ s₁ = { s with heap := s.heap.push { cls := .type "list", data := .seq #[] } }) F.called_list (F.typeCall_list_1 _) F.entry_list_init
    (code_list_new _ ⟨rfl, rfl⟩) fun obj s₁ h₁ => ?_
  obtain ⟨rfl, rfl⟩ := h₁
  have hS : (s.heap.push { cls := .type "list", data := .seq #[] }).get? s.heap.objs.size = some { cls := .type "list", data := .seq #[] } := Heap.get?_push_size _ rfl
  refine ⟨⟨_, hS, rfl⟩, F.args_list_init_2 _ _, init_itL W hT _ (W.frame 0 s _ s.toks hst (Nat.le_refl _) fun b _ o e => Heap.get?_push_of_some _ e) hSf hI hS (fun s' acc' c' hm hS' hacc => ?_) hn⟩
  exact ⟨rfl, hQ s' acc' c' hm hS' hacc⟩
theorem init_itT (W : WalksS prog w A.in1 I fp wr G n P St) {t : Addr} {items : Array Value} (hst0 : ∀ s, St 0 s → IsRt s.heap I t ((items.size : Int) - 1) ∧ IsTup s.heap t items) (hni : items.size = n) (hT : ∀ i s, St i s → s.TypeIs (.ref I) "reversed") (S : Addr) (hst : St 0 s) (hSf : S ∉ fp) (hI : I ∈ fp)
    (hS : s.heap.get? S = some { cls := .type "list", data := .seq #[] })
    (hR : ∀ s' acc' c', Moved (S :: wr) G s s' → s'.heap.get? S = some { cls := .type "list", dict := none, data := .seq acc' c', slots := #[] } → ItemsOf P acc' n → R (.ok (.ret .none)) s') (hn : n ≤ sizeLine) :
    wpAny (model prog w) A.in1 (Builtin.«list.__init__» ⟨[.ref S, .ref I], []⟩)
      (fun fin s' => match fin with | .done f => R (.ok f) s' | .again c' => c'.quiet = true ∧ codeAny (model prog w) A c' R s') (fun e s' => R (.error e) s') s := by
  show wpAny _ A.in1 (do let old ← Builtin.List.listItems (.ref S); Builtin.List.listUpdate (.ref S) (fun _ => #[]); letGo old.toList.reverse; Builtin.List.listExtendWith (.ref S) (.ref I) .none) _ _ s
  refine wpAny_bind ?_
  unfold Builtin.List.listItems
  refine wpAny_bind (wpAny_seqItems hS rfl (wpAny_pure ?_))
  show wpAny _ A.in1 (updateSeq S (fun _ => #[]) >>= fun _ => letGo (#[] : Array Value).toList.reverse >>= fun _ => Builtin.List.listExtendWith (.ref S) (.ref I) .none) _ _ s
  refine wpAny_bind (wpAny_updateSeq hS rfl ?_)
  have hS₂ := Heap.get?_update_self (Obj.mapSeq (fun _ => (#[] : Array Value))) hS rfl
  have oth : ∀ b o, b ≠ S → s.heap.get? b = some o → (s.heap.update S (Obj.mapSeq (fun _ => (#[] : Array Value)))).get? b = some o :=
    fun b o hb e => (Heap.get?_update_other _ _ (Ne.symm hb)).trans e
  refine wpAny_bind (wpAny_letGo ?_)
  refine extend_itT W hst0 hni hT S .none _ (W.frame 0 s _ s.toks hst (Nat.le_refl _) fun b hb o e => oth b o (fun h => hSf (h ▸ hb)) e) hSf hI hS₂ (fun s' acc' c' hm hS' hacc => ?_) hn
  exact hR s' acc' c' (Moved.trans W.gtrans ((Moved.refl W.grefl).then_heap (Nat.le_refl _) fun b o hb e => oth b o (fun h => hb (h ▸ List.mem_cons_self)) e) hm) hS' hacc
theorem call_list_itT {Q : Value → Shared → Prop} (W : WalksS prog w A.in1.in1 I fp wr G n P St) {t : Addr} {items : Array Value} (hst0 : ∀ s, St 0 s → IsRt s.heap I t ((items.size : Int) - 1) ∧ IsTup s.heap t items) (hni : items.size = n) (hT : ∀ i s, St i s → s.TypeIs (.ref I) "reversed") (hst : St 0 s) (hfp : ∀ b ∈ fp, b < s.heap.objs.size) (hI : I ∈ fp)
    (hQ : ∀ s' acc' c', Moved (s.heap.objs.size :: wr) G { s with heap := s.heap.push { cls := .type "list", data := .seq #[] } } s' →
      s'.heap.get? s.heap.objs.size = some { cls := .type "list", dict := none, data := .seq acc' c', slots := #[] } → ItemsOf P acc' n → Q (.ref s.heap.objs.size) s') (hn : n ≤ sizeLine) :
    wpAny (model prog w) A (call (.type "list") [.ref I]) Q E s := by
  have hSf : s.heap.objs.size ∉ fp := fun hm => Nat.lt_irrefl _ (hfp _ hm)
  refine callType_codes (Q₁ := fun obj s₁ => obj = .ref s.heap.objs.size ∧ s₁ = { s with heap := s.heap.push { cls := .type "list", data := .seq #[] } }) F.called_list (F.typeCall_list_1 _) F.entry_list_init
    (code_list_new _ ⟨rfl, rfl⟩) fun obj s₁ h₁ => ?_
  obtain ⟨rfl, rfl⟩ := h₁
  have hS : (s.heap.push { cls := .type "list", data := .seq #[] }).get? s.heap.objs.size = some { cls := .type "list", data := .seq #[] } := Heap.get?_push_size _ rfl
  refine ⟨⟨_, hS, rfl⟩, F.args_list_init_2 _ _, init_itT W hst0 hni hT _ (W.frame 0 s _ s.toks hst (Nat.le_refl _) fun b _ o e => Heap.get?_push_of_some _ e) hSf hI hS (fun s' acc' c' hm hS' hacc => ?_) hn⟩
  exact ⟨rfl, hQ s' acc' c' hm hS' hacc⟩
end
end RT

namespace V3
open PySem PySem.Spec PyProof.Rows L2 RT
/-- list(reversed(x)), x a list or a tuple: a new list -/
def tListRev (K : PySem.W.Frag) (te : TE) : TE := fun σ H Q => te σ H fun v H1 => ∃ (a : Addr) (xs : List V), v = .ref a ∧ (SqL K H1 a xs ∨ SqT K H1 a xs) ∧ ∀ q, H1 q = none → Q (.ref q) (upd H1 q (.lst xs.reverse))
section
variable {X : Cx}
theorem rev_inv {pins : List (Addr × Obj)} {σ : L2.St} {H1 : Hp} {Q : VK} {s1 s' : Shared} {xs : List V} {its : List Value} {o0 : Obj} {acc : Array Value} {c' : Nat} {G : Array GenState → Array GenState → Prop} (I1 : Inv X pins σ H1 s1) (rv : Vals xs its) (hz : xs.length ≤ sizeLine)
    (he : s' = { s1 with heap := s'.heap, toks := s'.toks }) (hm : ∀ b o, b ≠ (s1.heap.push o0).objs.size → b ≠ s1.heap.objs.size → s1.heap.get? b = some o → s'.heap.get? b = some o) (hS : s'.heap.get? (s1.heap.push o0).objs.size = some { cls := .type "list", dict := none, data := .seq acc c', slots := #[] })
    (hi : ItemsOf (fun i v => its.toArray[its.toArray.size - 1 - i]? = some v) acc its.toArray.size) (q : ∀ q, H1 q = none → Q (.ref q) (upd H1 q (.lst xs.reverse))) : EP X pins σ Q (.ref (s1.heap.push o0).objs.size) s' := by
  have pushz : (s1.heap.push o0).objs.size = s1.heap.objs.size + 1 := by simp [Heap.push]
  have k : ∀ b o, s1.heap.get? b = some o → s'.heap.get? b = some o := fun b o e => by
    have hb := Heap.lt_size e
    refine hm b o (fun z => ?_) (Nat.ne_of_lt hb) e
    rw [z, pushz] at hb
    exact absurd hb (Nat.not_lt.mpr (Nat.le_succ _))
  have hp : s1.heap.objs.size ≤ (s1.heap.push o0).objs.size := by
    rw [pushz]
    exact Nat.le_succ _
  have hn0 : H1 (s1.heap.push o0).objs.size = none := I1.hok.fresh hp
  rw [he]
  refine ⟨.ref _, upd H1 _ (.lst xs.reverse), ?_, rfl, q _ hn0⟩
  exact I1.call (ch := []) (Un.laid k hp hn0) (I1.hok.laid k hp ⟨by rw [List.length_reverse]; exact hz, acc.toList, c', vals_rev rv hi, by rw [Array.toArray_toList]; exact hS⟩) I1.bare (fun _ z => nomatch z)
theorem pe_listRev (K : PySem.W.Frag) {e : Expr} {te : TE} {p p2 pos pos2 : Pos} (hc : X.calm = true) (hg : Gl X "list") (hm : X.mg "list" = none) (hg2 : Gl X "reversed") (hm2 : X.mg "reversed" = none) (he : PE X e te)
    (hs : starEach [e] X.env = (false, eval e X.env) :: starEach [] X.env := by rfl)
    (hs2 : starEach [.Call (.Name "reversed" p2) [e] [] pos2] X.env = (false, eval (.Call (.Name "reversed" p2) [e] [] pos2) X.env) :: starEach [] X.env := by rfl) (hK : X.K = K := by rfl) :
    PE X (.Call (.Name "list" p) [.Call (.Name "reversed" p2) [e] [] pos2] [] pos) (tListRev K te) := by
  subst hK
  refine ⟨fun pins s σ H Q I h => ?_⟩
  refine Call_ (ld_blt I hg hm boot_list (PyProof.Rows.callWith_type1 (args_cons (Call_ (ld_blt I hg2 hm2 PyProof.Rows.boot_reversed (PyProof.Rows.callWith_type1 (args_cons (thn (he.run pins s σ H _ I h) fun u s1 ⟨v, H1, I1, r1, q1⟩ => args_nil ?_) hs) hs rfl))) hs2) hs2 rfl))
  obtain ⟨a, xs, ev, hq, q⟩ := q1
  subst ev
  obtain rfl : u = Value.ref a := r1
  have pushz : ∀ (h : Heap) (o : Obj), (h.push o).objs.size = h.objs.size + 1 := fun h o => by simp [Heap.push]
  rcases hq with hq | hq
  · obtain ⟨its, rv, p', hz⟩ := I1.list hq
    refine call_reversed_list p'.isList (args_nil ?_)
    have hl := p'.isList
    obtain ⟨ol, hol, _⟩ := id hl
    have hne : a ≠ s1.heap.objs.size := Nat.ne_of_lt (Heap.lt_size hol)
    have hn : its.toArray.size ≤ sizeLine := by rw [List.size_toArray, ← rv.length]; exact hz
    have W := (Walks.listRev (prog := X.prog) (w := X.w) (A := X.A.in1.in1) (I1.ok.hd hc) s1.heap.objs.size a hne its.toArray).toS
    have hit0 : (s1.heap.push (revObj a ((its.toArray.size : Int) - 1))).IsRevIter s1.heap.objs.size a ((its.toArray.size : Int) - 1) := ⟨_, Heap.get?_push_size _ rfl, rfl, rfl⟩
    have e0 : ((its.toArray.size : Nat) : Int) - 1 - ((0 : Nat) : Int) = (its.toArray.size : Int) - 1 := by omega
    refine call_list_itL (s := { s1 with heap := s1.heap.push (revObj a ((its.toArray.size : Int) - 1)) }) W (fun i s z => Heap.IsRevIter.typeIs z.2.1) ⟨Nat.zero_le _, by rw [e0]; exact hit0, hl.push _⟩ (fun b hb => ?_) (by simp) (fun s' acc c' hm hS hi => ?_) hn
    · show b < (s1.heap.push _).objs.size
      rw [pushz]
      rcases List.mem_cons.mp hb with z | z
      · rw [z]
        exact Nat.lt_succ_self _
      · rw [List.mem_singleton.mp z]
        exact Nat.lt_succ_of_lt (Heap.lt_size hol)
    · refine rev_inv (G := fun _ _ => True) I1 rv hz (by have ee := Moved.eq_with hm; exact ee) (fun b o h1 h2 e => hm.heap b o (fun z => ?_) (Heap.get?_push_of_some _ (Heap.get?_push_of_some _ e))) hS hi q
      rcases List.mem_cons.mp z with z | z
      · exact h1 z
      · exact h2 (List.mem_singleton.mp z)
  · obtain ⟨its, rv, p', hz⟩ := I1.tuple hq
    have hll := rv.length
    have h63 := line63
    refine call_reversed_tup p' (fun A E Q k => len_tuple p' (by simp only [List.size_toArray] <;> omega) k) (args_nil ?_)
    obtain ⟨ol, hol, _⟩ := id p'
    have hne : a ≠ s1.heap.objs.size := Nat.ne_of_lt (Heap.lt_size hol)
    have hn : its.toArray.size ≤ sizeLine := by rw [List.size_toArray, ← rv.length]; exact hz
    have W := (walksRt (prog := X.prog) (w := X.w) (A := X.A.in1.in1) (I1.ok.hd hc) s1.heap.objs.size a hne its.toArray hn).toS
    have hit0 : IsRt (s1.heap.push (rtObj a ((its.toArray.size : Int) - 1))) s1.heap.objs.size a ((its.toArray.size : Int) - 1) := ⟨_, Heap.get?_push_size _ rfl, rfl, rfl⟩
    have e0 : ((its.toArray.size : Nat) : Int) - 1 - ((0 : Nat) : Int) = (its.toArray.size : Int) - 1 := by omega
    have I2 : Inv X pins σ H1 { s1 with toks := s1.toks + 1 + 1 } := I1.tok _
    refine call_list_itT (s := { s1 with heap := s1.heap.push (rtObj a ((its.toArray.size : Int) - 1)), toks := s1.toks + 1 + 1 }) W (t := a) (items := its.toArray) (fun s z => ⟨by have := z.2.1; rw [e0] at this; exact this, z.2.2⟩) rfl (fun i s z => IsRt.typeIs z.2.1) ⟨Nat.zero_le _, by rw [e0]; exact hit0, IsTup.at2 p' fun o e => Heap.get?_push_of_some _ e⟩ (fun b hb => ?_) (by simp) (fun s' acc c' hm hS hi => ?_) hn
    · show b < (s1.heap.push _).objs.size
      rw [pushz]
      rcases List.mem_cons.mp hb with z | z
      · rw [z]
        exact Nat.lt_succ_self _
      · rw [List.mem_singleton.mp z]
        exact Nat.lt_succ_of_lt (Heap.lt_size hol)
    · refine rev_inv (s1 := { s1 with toks := s1.toks + 1 + 1 }) (G := fun _ _ => True) I2 rv hz (by have ee := Moved.eq_with hm; exact ee) (fun b o h1 h2 e => hm.heap b o (fun z => ?_) (Heap.get?_push_of_some _ (Heap.get?_push_of_some _ e))) hS hi q
      rcases List.mem_cons.mp z with z | z
      · exact h1 z
      · exact h2 (List.mem_singleton.mp z)
end
end V3
set_option Elab.async false
set_option linter.all false
set_option maxRecDepth 100000
set_option maxHeartbeats 4000000
/-! sorted(xs, key = lambda x: ..), the keys tuples of ints -/
namespace GS
open PySem PySem.Spec PyProof.Rows L2 LamX
section
variable {X : Cx} {pins : List (Addr × Obj)} {σ : L2.St} {H : Hp} {s : Shared}
/-- what was new at an earlier time, and is nobody's, is written -/
theorem inv_raw {H0 : Hp} {s0 : Shared} {b : Addr} {g : Obj → Obj} (I0 : Inv X pins σ H0 s0) (I : Inv X pins σ H s) (hb : s0.heap.objs.size ≤ b) (hn : H b = none) : Inv X pins σ H { s with heap := s.heap.update b g } := by
  have lt : ∀ c u, s0.heap.get? c = some u → c ≠ b := fun c u e z => by
    have h1 := Heap.lt_size e
    rw [z] at h1
    exact Nat.lt_irrefl _ (Nat.lt_of_lt_of_le h1 hb)
  refine I.step (g' := s.gens) (t' := s.toks) (d' := s.drawn) (ch := [b]) (fun c hc => ?_) (fun c o _ _ hc e _ => ?_) (fun c o _ _ hc e _ => ⟨o.slots, ?_⟩) (fun c o _ _ n => n) (fun c o hc e => ⟨o, ?_⟩) (fun _ _ e => e) (fun _ _ _ e => e) (fun c ps e => ⟨#[], by rw [e]; simp⟩)
    (fun m hm => ?_) (fun c u e => ?_) I.bare
  · rw [List.mem_singleton.mp hc]
    refine ⟨.inr (Nat.le_trans I0.sz hb), fun z => ?_, fun x c e z => ?_, fun p hp => lt _ _ (I0.pin p hp).1⟩
    · have h1 := I0.lt
      rw [← z] at h1
      exact Nat.lt_irrefl _ (Nat.lt_of_lt_of_le h1 hb)
    · obtain ⟨v, o, ho, _⟩ := I0.cell x c e
      exact lt c _ ho z
  · exact (Heap.get?_update_ne _ _ _ _ (fun z => hc (by rw [z]; exact List.mem_singleton.mpr rfl))).trans e
  · exact (Heap.get?_update_ne _ _ _ _ (fun z => hc (by rw [z]; exact List.mem_singleton.mpr rfl))).trans e
  · exact (Heap.get?_update_ne _ _ _ _ (fun z => hc (by rw [z]; exact List.mem_singleton.mpr rfl))).trans e
  · obtain ⟨ob, es, ep, ho, r⟩ := hm
    have nl : X.env.locals ≠ b := fun z => by
      have h1 := I0.lt
      rw [z] at h1
      exact Nat.lt_irrefl _ (Nat.lt_of_lt_of_le h1 hb)
    exact ⟨ob, es, ep, (Heap.get?_update_ne _ _ _ _ nl).trans ho, r⟩
  · refine (I.hok c u e).stay (fun d v hd q => ?_) (fun d q => q) (fun d xs q => q)
    have nd : d ≠ b := by
      rcases hd with z | z
      · rw [z]
        exact ne_of_none e hn
      · exact ne_of_none z hn
    exact (Heap.get?_update_ne _ _ _ _ nd).trans q
theorem room_in1 {k : Nat} {A : Around} (r : Room (k + 1) A) : Room k A.in1.in1 := ⟨r.hd, by have := r.dp; show A.depth + 3 * k + 5 < _; omega, by have := r.un; show A.units + 1 + 1 + 16 * k + 200 < _; omega⟩

/-- sorted(xs, key = f): f a kept lambda that makes of each item a new tuple of d ints -/
def rSortK (P : Program) (w : World) (K : PySem.W.Frag) (mg : Str → Option Value) (base : Heap) (k d : Nat) : List V → List V → Hp → VK → Prop := fun vs zs H Q => ∃ (a f c' : Addr) (q : Str) (params : Arguments) (body : Expr) (scope : Scope) (xs : List V) (kz : V → List Int) (sp : Sp),
  vs = [.ref a] ∧ zs = [.ref f] ∧ SqL K H a xs ∧ (∀ x ∈ xs, ∃ t, x = .ref t) ∧ H f = some (LamO c' q params body scope f) ∧ H c' = some (CodeO c' q) ∧ LamRun P w K mg base CX0 k q params body scope 1 sp ∧
  (∀ x ∈ xs, (kz x).length = d ∧ ∀ H1, Same H H1 → sp [x] H1 (fun y H2 => ∃ t, y = .ref t ∧ Same H1 H2 ∧ H2 t = some (.tup ((kz x).map V.int))) E0) ∧
  ∀ (ys : List V) (p : Addr) (H' : Hp), Same H H' → H' p = none → ys.Perm xs → ys.Pairwise (fun x y => HT.lexLt (kz y) (kz x) = false) → Q (.ref p) (upd H' p (.lst ys))
/-- ahead of turn j of the keys' loop: e1 the emptied list's mark, kS the keys' own list -/
structure KJ (X : Cx) (pins : List (Addr × Obj)) (σ : L2.St) (H : Hp) (xs : List V) (kz : V → List Int) (a kS : Addr) (e1 j : Nat) (s' : Shared) : Prop where
  ex : ∃ (H' : Hp) (e : Nat) (ts : List Addr), Inv X pins σ H' s' ∧ Same H H' ∧ s'.heap.get? a = some (seqObj "list" #[] e1) ∧ H' a = none ∧ s'.heap.get? kS = some (seqObj "list" (ts.map Value.ref).toArray e) ∧ H' kS = none ∧
    Paired (fun t x => H' t = some (.tup ((kz x).map V.int))) ts (xs.take j)
theorem pd_same {xs : List V} {kz : V → List Int} {H H' : Hp} {ts : List Addr} (e : Same H H') (h : Paired (fun t x => H t = some (.tup ((kz x).map V.int))) ts xs) : Paired (fun t x => H' t = some (.tup ((kz x).map V.int))) ts xs := by
  induction h with
  | nil => exact .nil
  | cons r t ih => exact .cons (e _ _ r) ih
theorem pd_snoc {α β : Type} {F : α → β → Prop} {as : List α} {bs : List β} {a : α} {b : β} (h : Paired F as bs) (r : F a b) : Paired F (as ++ [a]) (bs ++ [b]) := by
  induction h with
  | nil => exact .cons r .nil
  | cons r' t ih => exact .cons r' ih
theorem pd_len' {α β : Type} {F : α → β → Prop} {as : List α} {bs : List β} (h : Paired F as bs) : as.length = bs.length := by
  induction h with
  | nil => rfl
  | cons r t ih => rw [List.length_cons, List.length_cons, ih]
theorem pd_at' {α β : Type} {F : α → β → Prop} : ∀ {as : List α} {bs : List β} {i : Nat} {a : α}, Paired F as bs → as[i]? = some a → ∃ b, bs[i]? = some b ∧ F a b
  | _, _, i, a, .nil, h => by simp at h
  | _, _, 0, a, .cons r t, h => by
    simp only [List.getElem?_cons_zero, Option.some.injEq] at h
    exact ⟨_, rfl, by rw [← h]; exact r⟩
  | _, _, i + 1, a, .cons r t, h => by
    rw [List.getElem?_cons_succ] at h ⊢
    exact pd_at' t h
/-- the keys' loop -/
theorem keys_run {I0s : Shared} {Hs : Hp} {k d : Nat} {a kS f c' : Addr} {e1 : Nat} {q : Str} {params : Arguments} {body : Expr} {scope : Scope} {xs : List V} {its : List Value} {kz : V → List Int} {sp : Sp} {R : PySem.Fin → Shared → Prop} {s1 : Shared}
    (I0 : Inv X pins σ Hs I0s) (fa : I0s.heap.objs.size ≤ a) (fk : I0s.heap.objs.size ≤ kS) (nak : kS ≠ a) (hr : Room (k + 1) X.A) (rv : Vals xs its) (hz : its.length ≤ sizeLine)
    (hf : H f = some (LamO c' q params body scope f)) (hc : H c' = some (CodeO c' q)) (run : LamRun X.prog X.w X.K X.mg X.base CX0 k q params body scope 1 sp)
    (hsp : ∀ x ∈ xs, (kz x).length = d ∧ ∀ H1, Same H H1 → sp [x] H1 (fun y H2 => ∃ t, y = .ref t ∧ Same H1 H2 ∧ H2 t = some (.tup ((kz x).map V.int))) E0)
    (h0 : KJ X pins σ H xs kz a kS e1 0 s1)
    (h : ∀ s' keys, KJ X pins σ H xs kz a kS e1 xs.length s' → (∃ e, s'.heap.get? kS = some (seqObj "list" keys e)) → wpAny (model X.prog X.w) X.A.in1.in1 (ksk_end a false its.toArray e1 (.ref kS) keys) R X.xe s') :
    wpAny (model X.prog X.w) X.A.in1.in1 (ksk_rest a (.ref f) false its.toArray e1 (.ref kS)) R X.xe s1 := by
  have hlen := rv.length
  have notfr : ∀ b, I0s.heap.objs.size ≤ b → b ∉ frs X.stack := fun b hb z => by
    rcases List.mem_cons.mp (I0.stkSub _ z) with e | e
    · have h1 := I0.lt
      rw [← e] at h1
      exact Nat.lt_irrefl _ (Nat.lt_of_lt_of_le h1 hb)
    · exact I0.nofs hb e
  unfold ksk_rest
  refine wpAny_bind (wpAny_rule ?_)
  first
    | rw [List.forIn_toArray]
    | (rw [← Array.forIn_toList]; simp only [List.toList_toArray])
  refine wpAny_bind (ksk_fold (fun i s' => KJ X pins σ H xs kz a kS e1 i s') its 0 s1 h0 ?step ?done)
  case step =>
    intro j u s' hu hJ
    rw [Nat.zero_add] at hJ ⊢
    obtain ⟨H', e, ts, I', S', ga, na, gk, nk, pk⟩ := hJ.ex
    have jl : j < xs.length := by
      rw [hlen]
      exact (List.getElem?_eq_some_iff.mp hu).1
    obtain ⟨x, hx, rx⟩ : ∃ x, xs[j]? = some x ∧ RelV x u := by
      obtain ⟨u', hu', r'⟩ := Vals.get rv (List.getElem?_eq_getElem jl)
      rw [hu] at hu'
      cases hu'
      exact ⟨_, List.getElem?_eq_getElem jl, r'⟩
    obtain ⟨hd, go⟩ := hsp x (List.mem_of_getElem? hx)
    have cr := run f c' X.A.in1.in1 X.stack s' H' [u] [x] _ E0 (room_in1 hr) I'.env0.in1.in1 (S' _ _ hf) (S' _ _ hc) (.cons rx .nil) rfl (go H' S')
    refine wpAny_bind (wpAny_attempt (wpAny_call (codeAny_mono cr fun r s'' hq => ?_)))
    cases r with
    | error e => exact (show False from hq).elim
    | ok fl =>
      cases fl with
      | next => exact False.elim hq
      | brk => exact False.elim hq
      | cont => exact False.elim hq
      | ret v =>
        obtain ⟨y, H2, os, bare, un, hok, ry, t, ey, S2, ht⟩ := hq
        subst ey
        obtain rfl : v = Value.ref t := ry
        obtain ⟨w1, H3, I2, _, ew, eH⟩ := I'.after (Q := fun v1 H1 => v1 = V.ref t ∧ H1 = H2) ⟨.ref t, H2, os, bare, un, hok, rfl, rfl, rfl⟩
        rw [eH] at I2
        have gk2 := un.keep kS _ gk nk (notfr kS fk) (by simp)
        have ga2 := un.keep a _ ga na (notfr a fa) (by simp)
        have nk2 := un.free kS _ gk nk (by simp)
        have na2 := un.free a _ ga na (by simp)
        have tl : ts.length = j := by
          rw [pd_len' pk, List.length_take]
          omega
        try dsimp only
        refine wpAny_bind (listUpdate_at gk2 rfl ?_ (by rw [List.size_toArray, List.length_map]; omega) (by rw [Array.size_push, List.size_toArray, List.length_map]; omega))
        obtain ⟨c2, hc2⟩ : ∃ c2, (s''.heap.update kS (Obj.mapSeq (·.push (Value.ref t)))).get? kS = some (seqObj "list" ((ts.map Value.ref).toArray.push (Value.ref t)) c2) := ⟨_, get?_update_seq gk2 (·.push (Value.ref t))⟩
        refine wpAny_pure ⟨rfl, ⟨H2, c2, ts ++ [t], inv_raw I0 I2 fk nk2, S'.trans S2, (Heap.get?_update_ne _ _ _ _ nak.symm).trans ga2, na2, ?_, nk2, ?_⟩⟩
        · have e3 : ((ts ++ [t]).map Value.ref).toArray = (ts.map Value.ref).toArray.push (Value.ref t) := by simp
          rw [e3]
          exact hc2
        · have e4 : xs.take (j + 1) = xs.take j ++ [x] := by
            rw [List.take_add_one, hx]
            rfl
          rw [e4]
          exact pd_snoc (pd_same S2 pk) ht
  case done =>
    intro s' hJ
    rw [Nat.zero_add, ← hlen] at hJ
    obtain ⟨H', e, ts, I', S', ga, na, gk, nk, pk⟩ := hJ.ex
    try dsimp only
    refine wpAny_bind (listItems_at gk rfl ?_)
    exact h s' _ hJ ⟨e, gk⟩

/-- the pairs (key, item) by their keys' ints -/
theorem keys_end {I0s : Shared} {Hs : Hp} {d : Nat} {a kS : Addr} {e1 : Nat} {xs : List V} {its : List Value} {kz : V → List Int} {R : PySem.Fin → Shared → Prop} {s' : Shared} {keys : Array Value}
    (I0 : Inv X pins σ Hs I0s) (fa : I0s.heap.objs.size ≤ a) (fk : I0s.heap.objs.size ≤ kS) (nak : kS ≠ a) (hd : 1 ≤ d) (rv : Vals xs its) (hz : its.length ≤ sizeLine) (hx : ∀ x ∈ xs, (kz x).length = d) (href : ∀ x ∈ xs, ∃ t, x = V.ref t)
    (hJ : KJ X pins σ H xs kz a kS e1 xs.length s') (hk : ∃ e, s'.heap.get? kS = some (seqObj "list" keys e))
    (fin : ∀ (h' : Heap) (H' : Hp) (ys : List V), Inv X pins σ (upd H' a (.lst ys)) { s' with heap := h' } → Same H H' → H' a = none → ys.Perm xs → ys.Pairwise (fun x y => HT.lexLt (kz y) (kz x) = false) → R (.done (.ret .none)) { s' with heap := h' }) :
    wpAny (model X.prog X.w) X.A.in1.in1 (ksk_end a false its.toArray e1 (.ref kS) keys) R X.xe s' := by
  obtain ⟨H', e, ts, I', S', ga, na, gk, nk, pk⟩ := hJ.ex
  rw [List.take_of_length_le (Nat.le_refl _)] at pk
  obtain rfl : keys = (ts.map Value.ref).toArray := by
    obtain ⟨e', hk⟩ := hk
    have z := hk.symm.trans gk
    injection z with z
    injection z with _ _ z _
    injection z
  obtain ⟨e2, e3⟩ := bkV_refs rv href
  have hlen := rv.length
  have lts := pd_len' pk
  have tup : ∀ j t x, ts[j]? = some t → xs[j]? = some x → TS.TupInts s'.heap (.ref t) (kz x) := fun j t x h1 h2 => by
    have hh : H' t = some (.tup ((kz x).map V.int)) := by
      obtain ⟨x', h3, h4⟩ := pd_at' pk h1
      rw [h2] at h3
      cases h3
      exact h4
    exact tupI_raw I' (SqT.of hh)
  have ti : ∀ v ∈ ts.map Value.ref, TS.TupInts s'.heap v (TS.intsOf s'.heap v) ∧ (TS.intsOf s'.heap v).length = d := fun v hv => by
    obtain ⟨t, ht, rfl⟩ := List.mem_map.mp hv
    obtain ⟨j, hj⟩ := List.mem_iff_getElem?.mp ht
    obtain ⟨x, h3, _⟩ := pd_at' pk hj
    have z := tup j t x hj h3
    rw [z.ints]
    exact ⟨z, hx x (List.mem_of_getElem? h3)⟩
  have zl : ((ts.map Value.ref).toArray.zip its.toArray).toList = (ts.map Value.ref).zip its := by simp
  have rel : ∀ p ∈ (ts.map Value.ref).zip its, TS.intsOf s'.heap p.1 = kz (bkV p.2) ∧ p.1 ∈ ts.map Value.ref ∧ p.2 ∈ its := fun p hp => by
    obtain ⟨j, hj⟩ := List.mem_iff_getElem?.mp hp
    rw [List.getElem?_zip_eq_some] at hj
    obtain ⟨h1, h2⟩ := hj
    obtain ⟨t, ht, et⟩ : ∃ t, ts[j]? = some t ∧ p.1 = Value.ref t := by
      rw [List.getElem?_map] at h1
      cases q : ts[j]? with
      | none =>
        rw [q] at h1
        cases h1
      | some t =>
        rw [q] at h1
        exact ⟨t, rfl, (Option.some.inj h1).symm⟩
    have hxj : xs[j]? = some (bkV p.2) := by rw [e2, List.getElem?_map, h2]; rfl
    have z := (tup j t _ ht hxj).ints
    rw [et]
    exact ⟨z, List.mem_map.mpr ⟨t, List.mem_of_getElem? ht, rfl⟩, List.mem_of_getElem? h2⟩
  have tail : ∀ st : SortSt, SrtO.Srtd (SrtO.lt2 fun v u => HT.lexLt (TS.intsOf s'.heap v) (TS.intsOf s'.heap u)) (arrOf st).toList → (arrOf st).toList.Perm ((ts.map Value.ref).zip its) → failedOf st = none →
      wpAny (model X.prog X.w) X.A.in1.in1 (ksk_tail a false e1 (.ref kS) st) R X.xe s' := fun st hs hp hfl => by
    have hpn : ((arrOf st).toList.map Prod.snd).Perm its := by
      have q := hp.map Prod.snd
      rw [List.map_snd_zip (by rw [List.length_map, lts]; omega)] at q
      exact q
    have eo : ((arrOf st).map (·.2)).toList = (arrOf st).toList.map Prod.snd := by rw [Array.toList_map]
    have hsz : ((arrOf st).map (·.2)).size = its.length := by
      rw [← Array.length_toList, eo, hpn.length_eq]
    have ga1 : (s'.heap.update kS (Obj.mapSeq fun _ => (#[] : Array Value))).get? a = some (seqObj "list" #[] e1) := (Heap.get?_update_ne _ _ _ _ nak.symm).trans ga
    have J1 := inv_raw (g := Obj.mapSeq fun _ => (#[] : Array Value)) I0 I' fk nk
    have J2 := inv_raw (g := Obj.mapSeq fun _ => (arrOf st).map (·.2)) I0 J1 fa na
    obtain ⟨c2, hc2⟩ : ∃ c2, ((s'.heap.update kS (Obj.mapSeq fun _ => (#[] : Array Value))).update a (Obj.mapSeq fun _ => (arrOf st).map (·.2))).get? a = some (seqObj "list" ((arrOf st).map (·.2)) c2) :=
      ⟨_, get?_update_seq ga1 fun _ => (arrOf st).map (·.2)⟩
    have href2 : ∀ u ∈ (arrOf st).toList.map Prod.snd, ∃ b, u = Value.ref b := fun u hu => e3 u (hpn.mem_iff.mp hu)
    unfold ksk_tail
    try dsimp only
    refine wpAny_bind (listUpdate_at gk rfl ?_ (by rw [List.size_toArray, List.length_map]; omega) (Nat.zero_le _))
    refine wpAny_bind (wpAny_letGo ?_)
    refine wpAny_bind (seqEpoch_at ga1 rfl ?_)
    refine wpAny_bind (listUpdate_at ga1 rfl ?_ (Nat.zero_le _) (by simp only [Bool.false_eq_true, if_false]; omega))
    rw [hfl]
    simp only [bne_self_eq_false, Bool.false_eq_true, if_false]
    refine wpAny_pure (fin _ H' (((arrOf st).toList.map Prod.snd).map bkV) (track_new I0 J2 fa na ⟨?_, (arrOf st).toList.map Prod.snd, c2, bkV_vals href2, ?_⟩) S' na ?_ ?_)
    · rw [List.length_map, hpn.length_eq]
      exact hz
    · have ea : ((arrOf st).toList.map Prod.snd).toArray = (arrOf st).map (·.2) := by rw [← eo, Array.toArray_toList]
      rw [ea]
      exact hc2
    · rw [e2]
      exact hpn.map bkV
    · rw [List.pairwise_map, List.pairwise_map]
      refine List.Pairwise.imp_of_mem (fun {p q} mp mq hr => ?_) hs
      rw [← (rel p (hp.mem_iff.mp mp)).1, ← (rel q (hp.mem_iff.mp mq)).1]
      exact hr
  unfold ksk_end
  try dsimp only
  simp only [Bool.false_eq_true, if_false]
  by_cases h2 : its.toArray.size < 2
  · rw [if_pos h2, if_pos h2]
    refine wpAny_bind (wpAny_pure ?_)
    rw [StateT.run_pure]
    refine wpAny_bind (wpAny_pure ?_)
    try dsimp only
    refine tail (SortSt.mk' general' ((ts.map Value.ref).toArray.zip its.toArray) #[] 7 none) ?_ ?_ rfl
    · show SrtO.Srtd _ ((ts.map Value.ref).toArray.zip its.toArray).toList
      rw [zl]
      have hl : ((ts.map Value.ref).zip its).length < 2 := by
        rw [List.length_zip]
        rw [List.size_toArray] at h2
        omega
      match (ts.map Value.ref).zip its, hl with
      | [], _ => exact List.Pairwise.nil
      | [_], _ => exact List.pairwise_singleton _ _
      | _ :: _ :: l, h => exact absurd h (by rw [List.length_cons, List.length_cons]; omega)
    · show ((ts.map Value.ref).toArray.zip its.toArray).toList.Perm _
      rw [zl]
  · rw [if_neg h2, if_neg h2]
    have h2' : 2 ≤ ts.length := by
      rw [List.size_toArray] at h2
      omega
    obtain ⟨fs, k1, k2, k3⟩ := heads (h := s'.heap) hd (ts.map Value.ref) fun v hv => ⟨_, ti v hv⟩
    refine wpAny_bind (PySem.W.kat_kind (T := .type "int") k1 (by rw [k2, List.length_map]; omega) (fun f hm => ?_) (by rfl) ?_)
    · obtain ⟨n, t, rfl⟩ := k3 f hm
      exact PySem.W.Looks.of_pure rfl
    have e : (Value.type "int" != Value.type "tuple") = true := by first | decide +kernel | rfl | decide
    rw [e]
    have hall : SrtO.AllL (fun p : PyProof.Rows.Keyed => p.1 ∈ ts.map Value.ref) ((ts.map Value.ref).toArray.zip its.toArray).toList := fun p hm => by
      rw [zl] at hm
      exact (rel p hm).2.1
    refine wpAny_bind (wpAny_mono (SrtO.wpS_sortO (st0 := SortSt.mk' (tuples' true) ((ts.map Value.ref).toArray.zip its.toArray) #[] 7 none)
      (Q := fun _ st' => SrtO.Srtd (SrtO.lt2 fun v u => HT.lexLt (TS.intsOf s'.heap v) (TS.intsOf s'.heap u)) (arrOf st').toList ∧ (arrOf st').toList.Perm ((ts.map Value.ref).zip its) ∧ failedOf st' = none)
      (SrtO.swo2 (NtL.swo_lexL (TS.intsOf s'.heap))) (cmpL (TS.intsOf s'.heap) ti) rfl hall rfl rfl fun st' a1 a2 a3 => ⟨a1, by have q := a2.perm; rw [← zl]; exact q, a3⟩) ?_ fun _ _ e => e)
    rintro ⟨⟨⟩, st'⟩ s'' ⟨rfl, hp1, hp2, hf⟩
    try dsimp only
    exact tail st' hp1 hp2 hf
end
theorem cr_sortKey {X : Cx} {k d : Nat} (hd : 1 ≤ d) (hr : Room (k + 1) X.A) : CallRK X (.builtin "sorted") ["key"] (rSortK X.prog X.w X.K X.mg X.base k d) := by
  intro pins s σ H vs zs us ws Q I r1 r2 h
  obtain ⟨l, f, c', q, params, body, scope, xs, kz, sp, rfl, rfl, hs, href, hf, hc, run, hsp, fin⟩ := h
  obtain ⟨its, rv, hl, hz⟩ := I.list hs
  rw [Vals.ref1 r1, Vals.ref1 r2]
  have hzi : its.length ≤ sizeLine := by rw [← rv.length]; exact hz
  show wpAny _ _ (call (.builtin "sorted") [.ref l] [(Str.ofString "key", .ref f)]) _ _ _
  refine call_function_entry_kw kind_sorted plain_sorted entry_sorted (ksk_s1 _ _) ?_
  unfold Builtin.«sorted»
  refine wpAny_bind (m := checkCount "sorted" 1 1 _) (wpAny_pure ?_)
  refine wpAny_bind (collect_list hl.isList ?_ hzi)
  refine wpAny_bind (wpAny_newList ?_ hzi)
  have hsz : ((s.heap.push (seqObj "list" #[] 0)).update s.heap.objs.size (Obj.mapSeq (· ++ its.toArray))).objs.size = s.heap.objs.size + 1 := by
    rw [Heap.size_update, size_push']
  have hoL : (((s.heap.push (seqObj "list" #[] 0)).update s.heap.objs.size (Obj.mapSeq (· ++ its.toArray))).push (seqObj "list" its.toArray 0)).get? (s.heap.objs.size + 1) = some (seqObj "list" its.toArray 0) := by
    rw [← hsz]
    exact Heap.get?_push_size _ rfl
  have k1 : ∀ b o, s.heap.get? b = some o → b < s.heap.objs.size ∧ (((s.heap.push (seqObj "list" #[] 0)).update s.heap.objs.size (Obj.mapSeq (· ++ its.toArray))).push (seqObj "list" its.toArray 0)).get? b = some o := fun b o e => by
    have hb := Heap.lt_size e
    refine ⟨hb, Heap.get?_push_of_some _ ?_⟩
    rw [Heap.get?_update_ne _ _ _ _ (Nat.ne_of_lt hb)]
    exact Heap.get?_push_of_some _ e
  show wpAny _ _ _ _ _ { s with heap := ((s.heap.push (seqObj "list" #[] 0)).update s.heap.objs.size (Obj.mapSeq (· ++ its.toArray))).push (seqObj "list" its.toArray 0) }
  rw [hsz]
  generalize hh : ((s.heap.push (seqObj "list" #[] 0)).update s.heap.objs.size (Obj.mapSeq (· ++ its.toArray))).push (seqObj "list" its.toArray 0) = h1 at hoL k1 ⊢
  have s1 : h1.objs.size = s.heap.objs.size + 2 := by
    rw [← hh, size_push', hsz]
  refine wpAny_bind (wpAny_holding (wpAny_call_entry_kw slot_list_sort ⟨_, hoL, rfl⟩ entry_list_sort ?body (ksk_l1 _ _)))
  case body =>
    show wpAny _ _ (Builtin.«list.sort» ⟨[.ref (s.heap.objs.size + 1)], [(Str.ofString "key", .ref f)]⟩) _ _ _
    rw [ksk_t1]
    unfold ksk_tree
    refine wpAny_bind (listItems_at hoL rfl ?_)
    refine wpAny_bind (listUpdate_at hoL rfl ?_ (by rw [List.size_toArray]; exact hzi) (Nat.zero_le _))
    obtain ⟨e1, ho1⟩ : ∃ e1, (h1.update (s.heap.objs.size + 1) (Obj.mapSeq fun _ => (#[] : Array Value))).get? (s.heap.objs.size + 1) = some (seqObj "list" #[] e1) := ⟨_, get?_update_seq hoL fun _ => #[]⟩
    refine wpAny_bind (seqEpoch_at ho1 rfl ?_)
    refine wpAny_bind (wpAny_newTuple ?_ hzi)
    refine wpAny_bind (wpAny_newList ?_ (Nat.zero_le _))
    refine wpAny_holding ?_
    have s3 : ((h1.update (s.heap.objs.size + 1) (Obj.mapSeq fun _ => (#[] : Array Value))).push (seqObj "tuple" its.toArray 0)).objs.size = s.heap.objs.size + 3 := by
      rw [size_push', Heap.size_update, s1]
    have keep : ∀ b o, s.heap.get? b = some o → (((h1.update (s.heap.objs.size + 1) (Obj.mapSeq fun _ => (#[] : Array Value))).push (seqObj "tuple" its.toArray 0)).push (seqObj "list" #[] 0)).get? b = some o := fun b o e => by
      obtain ⟨hb, e2⟩ := k1 b o e
      exact Heap.get?_push_of_some _ (Heap.get?_push_of_some _ ((Heap.get?_update_ne _ _ _ _ (Nat.ne_of_lt (Nat.lt_succ_of_lt hb))).trans e2))
    have I1 : Inv X pins σ H { s with heap := ((h1.update (s.heap.objs.size + 1) (Obj.mapSeq fun _ => (#[] : Array Value))).push (seqObj "tuple" its.toArray 0)).push (seqObj "list" #[] 0) } := I.kept keep
    have fa : s.heap.objs.size ≤ s.heap.objs.size + 1 := Nat.le_succ _
    have fk : s.heap.objs.size ≤ ((h1.update (s.heap.objs.size + 1) (Obj.mapSeq fun _ => (#[] : Array Value))).push (seqObj "tuple" its.toArray 0)).objs.size := by rw [s3]; omega
    have nak : ((h1.update (s.heap.objs.size + 1) (Obj.mapSeq fun _ => (#[] : Array Value))).push (seqObj "tuple" its.toArray 0)).objs.size ≠ s.heap.objs.size + 1 := by rw [s3]; omega
    refine keys_run (s1 := { s with heap := ((h1.update (s.heap.objs.size + 1) (Obj.mapSeq fun _ => (#[] : Array Value))).push (seqObj "tuple" its.toArray 0)).push (seqObj "list" #[] 0) }) (d := d) I fa fk nak hr rv hzi hf hc run hsp
      ⟨H, 0, [], I1, Same.refl H, Heap.get?_push_of_some _ (Heap.get?_push_of_some _ ho1), I.hok.fresh fa, Heap.get?_push_size _ rfl, I.hok.fresh fk, .nil⟩ fun s' keys hJ hk => ?_
    refine keys_end I fa fk nak hd rv hzi (fun x hx => (hsp x hx).1) href hJ hk fun h' H' ys I2 S2 n2 p2 w2 => ⟨_, rfl, ?_⟩
    exact wpAny_pure ⟨_, rfl, V.ref _, _, I2, rfl, fin ys _ H' S2 n2 p2 w2⟩
end GS
set_option Elab.async false
set_option linter.all false
set_option maxRecDepth 100000
set_option maxHeartbeats 4000000
namespace V3
open PySem PySem.Spec PyProof.Rows L2
/-! ### the heap without hidden addresses -/
abbrev D := PyData
open Classical in
noncomputable def cut (O : Addr → Prop) (H : Hp) : Hp := fun a => if O a then none else H a
theorem cut_some {O : Addr → Prop} {H : Hp} {a : Addr} {o : HO} : cut O H a = some o ↔ ¬ O a ∧ H a = some o := by
  unfold cut
  by_cases h : O a
  · simp [h]
  · simp [h]
/-- all that stands in the one stands in the other -/
def Le (H H' : Hp) : Prop := ∀ a o, (∀ ps, o ≠ HO.tbl ps) → H a = some o → H' a = some o
theorem Le.refl (H : Hp) : Le H H := fun _ _ _ h => h
theorem Le.trans {H H1 H2 : Hp} (a : Le H H1) (b : Le H1 H2) : Le H H2 := fun c o t h => b c o t (a c o t h)
theorem Le.of {H H' : Hp} (e : Same H H') : Le H H' := fun a o _ h => e a o h
/-- a thing that stands there, and is no table -/
def There (H : Hp) (a : Addr) : Prop := ∃ o, H a = some o ∧ ∀ ps, o ≠ HO.tbl ps
def New (H : Hp) (a : Addr) : Prop := ¬ There H a
theorem New.of {H : Hp} {a : Addr} (h : H a = none) : New H a := fun ⟨o, e, _⟩ => by
  rw [h] at e
  cases e
theorem Le.there {H H' : Hp} (e : Le H H') {a : Addr} (h : There H a) : There H' a := by
  obtain ⟨o, h1, h2⟩ := h
  exact ⟨o, e _ _ h2 h1, h2⟩
theorem There.lst {H : Hp} {a : Addr} {xs : List V} (h : H a = some (.lst xs)) : There H a := ⟨_, h, fun ps z => by cases z⟩
theorem Le.cutAll {O : Addr → Prop} {H : Hp} : Le (cut O H) H := fun a o _ e => (cut_some.mp e).2
/-- fewer hidden, more there -/
theorem Le.cut {O O' : Addr → Prop} {H H' : Hp} (hO : ∀ a, O' a → O a ∨ New H a) (h : ∀ a o, ¬ O a → (∀ ps, o ≠ HO.tbl ps) → H a = some o → H' a = some o) : Le (cut O H) (V3.cut O' H') := fun a o t e => by
  obtain ⟨h1, h2⟩ := cut_some.mp e
  refine cut_some.mpr ⟨fun z => ?_, h a o h1 t h2⟩
  rcases hO a z with q | q
  · exact h1 q
  · exact q ⟨o, h2, t⟩
theorem Le.cutSub {O O' : Addr → Prop} {H : Hp} (h : ∀ a, O' a → O a) : Le (V3.cut O H) (V3.cut O' H) := Le.cut (fun a z => .inl (h a z)) fun _ _ _ _ e => e
theorem Rd.le {H H' : Hp} {a : Addr} {u : HO} (e : Le H H') (t : ∀ ps, u ≠ HO.tbl ps) (h : Rd H a u) : Rd H' a u := by
  rcases h with h | ⟨o, h⟩
  · exact .inl (e _ _ t h)
  · exact .inr ⟨o, e _ _ (fun ps => by intro z; cases z) h⟩
theorem SqT.le {K : PySem.W.Frag} {H H' : Hp} {a : Addr} {xs : List V} (e : Le H H') (h : SqT K H a xs) : SqT K H' a xs := by
  rcases h with h | h
  · exact .inl (Rd.le e (fun ps => by intro z; cases z) h)
  · exact .inr h
theorem SqL.le {K : PySem.W.Frag} {H H' : Hp} {a : Addr} {xs : List V} (e : Le H H') (h : SqL K H a xs) : SqL K H' a xs := by
  rcases h with h | h
  · exact .inl (Rd.le e (fun ps => by intro z; cases z) h)
  · exact .inr h
mutual
inductive Rp (K : PySem.W.Frag) (H : Hp) : V → D → Prop
  | non : Rp K H .non .none
  | bl (b : Bool) : Rp K H (.bl b) (.bool b)
  | int (i : Int) : Rp K H (.int i) (.int i)
  | str (x : Str) : Rp K H (.str x) (.str x)
  | lst {a : Addr} {xs : List V} {ds : List D} : H a = some (.lst xs) → RpAll K H xs ds → Rp K H (.ref a) (.list ds)
  | tup {a : Addr} {xs : List V} {ds : List D} : SqT K H a xs → RpAll K H xs ds → Rp K H (.ref a) (.tuple ds)
  | dnil {a : Addr} : H a = some (.dK []) → Rp K H (.ref a) (.dict [])
inductive RpAll (K : PySem.W.Frag) (H : Hp) : List V → List D → Prop
  | nil : RpAll K H [] []
  | cons {v : V} {vs : List V} {d : D} {ds : List D} : Rp K H v d → RpAll K H vs ds → RpAll K H (v :: vs) (d :: ds)
end
mutual
theorem Rp.dp {K : PySem.W.Frag} {H : Hp} : ∀ (d : D) (v : V), d.canLay0 = true → Rp K H v d → L2.Dp K H v d
  | .none, _, _, h => by cases h; exact .non
  | .bool b, _, _, h => by cases h; exact .bl b
  | .int i, _, _, h => by cases h; exact .int i
  | .str x, _, _, h => by cases h; exact .str x
  | .list ds, _, c, h => by
    cases h with
    | lst hs ha => exact .lst (SqL.of hs) (RpAll.dp ds _ c ha)
  | .tuple ds, _, c, h => by
    cases h with
    | tup hs ha => exact .tup hs (RpAll.dp ds _ c ha)
  | .dict _, _, c, h => by cases c
theorem RpAll.dp {K : PySem.W.Frag} {H : Hp} : ∀ (ds : List D) (vs : List V), PyData.canLayAll0 ds = true → RpAll K H vs ds → L2.DpAll K H vs ds
  | [], _, _, h => by cases h; exact .nil
  | d :: ds, _, c, h => by
    have c2 : (d.canLay0 && PyData.canLayAll0 ds) = true := c
    rw [Bool.and_eq_true] at c2
    cases h with
    | cons h1 h2 => exact .cons (Rp.dp d _ c2.1 h1) (RpAll.dp ds _ c2.2 h2)
end
mutual
theorem Rp.le {K : PySem.W.Frag} {H H' : Hp} (e : Le H H') : ∀ (d : D) (v : V), Rp K H v d → Rp K H' v d
  | .none, _, h => by cases h; exact .non
  | .bool b, _, h => by cases h; exact .bl b
  | .int i, _, h => by cases h; exact .int i
  | .str x, _, h => by cases h; exact .str x
  | .list ds, _, h => by
    cases h with
    | lst hs ha => exact .lst (e _ _ (fun ps z => by cases z) hs) (RpAll.le e ds _ ha)
  | .tuple ds, _, h => by
    cases h with
    | tup hs ha => exact .tup (SqT.le e hs) (RpAll.le e ds _ ha)
  | .dict _, _, h => by
    cases h with
    | dnil hs => exact .dnil (e _ _ (fun ps z => by cases z) hs)
theorem RpAll.le {K : PySem.W.Frag} {H H' : Hp} (e : Le H H') : ∀ (ds : List D) (vs : List V), RpAll K H vs ds → RpAll K H' vs ds
  | [], _, h => by cases h; exact .nil
  | d :: ds, _, h => by
    cases h with
    | cons h1 h2 => exact .cons (Rp.le e d _ h1) (RpAll.le e ds _ h2)
end
/-! ### flat data: no list, no dict -/
mutual
def flat : D → Bool
  | .list _ => false
  | .dict _ => false
  | .tuple xs => flatAll xs
  | _ => true
def flatAll : List D → Bool
  | [] => true
  | x :: xs => flat x && flatAll xs
end
theorem SqT.hide {K : PySem.W.Frag} {H : Hp} {O O' : Addr → Prop} {a : Addr} {xs : List V} (hO : ∀ p, O' p → O p ∨ ∃ ys, H p = some (.lst ys)) (h : SqT K (cut O H) a xs) : SqT K (cut O' H) a xs := by
  rcases h with h | h
  · refine .inl ?_
    rcases h with h | ⟨o, h⟩
    · obtain ⟨h1, h2⟩ := cut_some.mp h
      refine .inl (cut_some.mpr ⟨fun z => ?_, h2⟩)
      rcases hO _ z with z | ⟨ys, e⟩
      · exact h1 z
      · rw [h2] at e
        cases e
    · obtain ⟨h1, h2⟩ := cut_some.mp h
      refine .inr ⟨o, cut_some.mpr ⟨fun z => ?_, h2⟩⟩
      rcases hO _ z with z | ⟨ys, e⟩
      · exact h1 z
      · rw [h2] at e
        cases e
  · exact .inr h
mutual
theorem Rp.hide {K : PySem.W.Frag} {H : Hp} {O O' : Addr → Prop} (hO : ∀ p, O' p → O p ∨ ∃ ys, H p = some (.lst ys)) : ∀ (d : D) (v : V), flat d = true → Rp K (cut O H) v d → Rp K (cut O' H) v d
  | .none, _, _, h => by cases h; exact .non
  | .bool b, _, _, h => by cases h; exact .bl b
  | .int i, _, _, h => by cases h; exact .int i
  | .str x, _, _, h => by cases h; exact .str x
  | .list ds, _, f, h => by cases f
  | .tuple ds, _, f, h => by
    cases h with
    | tup hs ha => exact .tup (SqT.hide hO hs) (RpAll.hide hO ds _ f ha)
  | .dict _, _, f, h => by cases f
theorem RpAll.hide {K : PySem.W.Frag} {H : Hp} {O O' : Addr → Prop} (hO : ∀ p, O' p → O p ∨ ∃ ys, H p = some (.lst ys)) : ∀ (ds : List D) (vs : List V), flatAll ds = true → RpAll K (cut O H) vs ds → RpAll K (cut O' H) vs ds
  | [], _, _, h => by cases h; exact .nil
  | d :: ds, _, f, h => by
    have f2 : (flat d && flatAll ds) = true := f
    rw [Bool.and_eq_true] at f2
    cases h with
    | cons h1 h2 => exact .cons (Rp.hide hO d _ f2.1 h1) (RpAll.hide hO ds _ f2.2 h2)
end
theorem RpAll.len {K : PySem.W.Frag} {H : Hp} : ∀ {ds : List D} {vs : List V}, RpAll K H vs ds → vs.length = ds.length
  | [], _, h => by cases h; rfl
  | d :: ds, _, h => by
    cases h with
    | cons h1 h2 => rw [List.length_cons, List.length_cons, RpAll.len h2]
theorem RpAll.get {K : PySem.W.Frag} {H : Hp} : ∀ {ds : List D} {vs : List V} {i : Nat} {d : D}, RpAll K H vs ds → ds[i]? = some d → ∃ v, vs[i]? = some v ∧ Rp K H v d
  | [], _, _, _, h, e => by simp at e
  | d :: ds, _, 0, _, h, e => by
    cases h with
    | cons h1 h2 =>
      simp at e
      subst e
      exact ⟨_, rfl, h1⟩
  | d :: ds, _, i + 1, d', h, e => by
    cases h with
    | cons h1 h2 =>
      obtain ⟨v, q1, q2⟩ := RpAll.get (i := i) (d := d') h2 (by simpa using e)
      exact ⟨v, by simpa using q1, q2⟩
theorem RpAll.getV {K : PySem.W.Frag} {H : Hp} {ds : List D} {vs : List V} {i : Nat} {v : V} (h : RpAll K H vs ds) (e : vs[i]? = some v) : ∃ d, ds[i]? = some d ∧ Rp K H v d := by
  have hl := RpAll.len h
  have hi : i < vs.length := (List.getElem?_eq_some_iff.mp e).1
  have e2 : ds[i]? = some ds[i] := List.getElem?_eq_getElem (by omega)
  obtain ⟨v', q1, q2⟩ := RpAll.get h e2
  rw [e] at q1
  cases q1
  exact ⟨_, e2, q2⟩
theorem RpAll.app {K : PySem.W.Frag} {H : Hp} : ∀ {ds es : List D} {vs ws : List V}, RpAll K H vs ds → RpAll K H ws es → RpAll K H (vs ++ ws) (ds ++ es)
  | [], _, _, _, h, g => by cases h; exact g
  | d :: ds, _, _, _, h, g => by
    cases h with
    | cons h1 h2 => exact .cons h1 (RpAll.app h2 g)
theorem RpAll.take {K : PySem.W.Frag} {H : Hp} : ∀ {ds : List D} {vs : List V} (n : Nat), RpAll K H vs ds → RpAll K H (vs.take n) (ds.take n)
  | _, _, 0, _ => .nil
  | [], _, n + 1, h => by cases h; exact .nil
  | d :: ds, _, n + 1, h => by
    cases h with
    | cons h1 h2 => exact .cons h1 (RpAll.take n h2)
theorem RpAll.drop {K : PySem.W.Frag} {H : Hp} : ∀ {ds : List D} {vs : List V} (n : Nat), RpAll K H vs ds → RpAll K H (vs.drop n) (ds.drop n)
  | _, _, 0, h => h
  | [], _, n + 1, h => by cases h; exact .nil
  | d :: ds, _, n + 1, h => by
    cases h with
    | cons h1 h2 => exact RpAll.drop n h2
theorem RpAll.rev {K : PySem.W.Frag} {H : Hp} : ∀ {ds : List D} {vs : List V}, RpAll K H vs ds → RpAll K H vs.reverse ds.reverse
  | [], _, h => by cases h; exact .nil
  | d :: ds, _, h => by
    cases h with
    | cons h1 h2 =>
      rw [List.reverse_cons, List.reverse_cons]
      exact RpAll.app (RpAll.rev h2) (.cons h1 .nil)
theorem RpAll.one {K : PySem.W.Frag} {H : Hp} {v : V} {d : D} (h : Rp K H v d) : RpAll K H [v] [d] := .cons h .nil
theorem RpAll.erase {K : PySem.W.Frag} {H : Hp} : ∀ {ds : List D} {vs : List V} (n : Nat), RpAll K H vs ds → RpAll K H (vs.eraseIdx n) (ds.eraseIdx n)
  | [], _, n, h => by cases h; exact .nil
  | d :: ds, _, 0, h => by
    cases h with
    | cons h1 h2 => exact h2
  | d :: ds, _, n + 1, h => by
    cases h with
    | cons h1 h2 => exact .cons h1 (RpAll.erase n h2)
theorem RpAll.put {K : PySem.W.Frag} {H : Hp} {v : V} {x : D} (hv : Rp K H v x) : ∀ {ds : List D} {vs : List V} (n : Nat), RpAll K H vs ds → RpAll K H (vs.set n v) (ds.set n x)
  | [], _, n, h => by cases h; exact .nil
  | d :: ds, _, 0, h => by
    cases h with
    | cons h1 h2 => exact .cons hv h2
  | d :: ds, _, n + 1, h => by
    cases h with
    | cons h1 h2 => exact .cons h1 (RpAll.put hv n h2)
theorem rp_ints {K : PySem.W.Frag} {H : Hp} : ∀ {ns : List Int} {vs : List V}, RpAll K H vs (ns.map PyData.int) → vs = ns.map V.int
  | [], _, h => by cases h; rfl
  | n :: ns, _, h => by
    cases h with
    | cons h1 h2 =>
      cases h1
      rw [List.map_cons, rp_ints h2]
theorem rp_bools {K : PySem.W.Frag} {H : Hp} : ∀ {ns : List Bool} {vs : List V}, RpAll K H vs (ns.map PyData.bool) → vs = ns.map V.bl
  | [], _, h => by cases h; rfl
  | n :: ns, _, h => by
    cases h with
    | cons h1 h2 =>
      cases h1
      rw [List.map_cons, rp_bools h2]
end V3
set_option Elab.async false
set_option linter.all false
set_option maxRecDepth 100000
set_option maxHeartbeats 4000000
namespace V3
open PySem PySem.Spec PyProof.Rows L2
/-! ### the draws -/
abbrev drK (g c : Addr) (n t : Int) : List (Key × V) := [(.inr "great", .ref g), (.inr "cells", .ref c), (.inr "left", .int n), (.inr "turn", .int t)]
/-- a dict of draws stands at d -/
def Dr (H : Hp) (d g c : Addr) (t : Int) : Prop := ∃ (gs cs : List Int) (n : Int), H d = some (.dK (drK g c n t)) ∧ H g = some (.lst (gs.map V.int)) ∧ H c = some (.lst (cs.map V.int)) ∧ g ≠ c ∧
  (∀ x ∈ gs, 0 ≤ x) ∧ (∀ x ∈ cs, 0 ≤ x ∧ x < 2147483629) ∧ 0 ≤ n ∧ 0 ≤ t
/-! ### values as one sees them -/
inductive U where
  | d (x : D)
  | dw (bs : List D)
  | tb (f : Int → Int) (ns : List Int)
  | dr
  | ob (fs : List (Str × D))
structure RR where
  dr : Option (Addr × Addr × Addr)
  hid : Addr → Prop
/-- what a def leans on -/
structure Am where
  K : PySem.W.Frag
  C : Addr
  R : RR
  TL : List (Addr × Str)
  Hs : Hp
  O0 : Addr → Prop
  E : XK
  e : Addr → Prop
  cls : Cls K C
  nB : NoAttr K C "blocks"
  insT : ∀ (H : Hp) (a dx : Addr) (fs : List (Str × V)), H a = some (.ins C dx fs) → TyX K H (.ref a) (.ref C)
  kD : PySem.W.kitOne K (.ref C) (.ref C) = some true
/-- all but the draws stands -/
def FrR (R : RR) (H H' : Hp) : Prop := (∀ b o, (∀ d g c, R.dr = some (d, g, c) → b ≠ d ∧ b ≠ g) → (∀ ps, o ≠ HO.tbl ps) → H b = some o → H' b = some o) ∧ ∀ b, There H b → There H' b
/-- what stood at the start, but for what may be written, stands -/
def Gr (am : Am) (H : Hp) : Prop := (∀ b o, ¬ am.O0 b → (∀ ps, o ≠ HO.tbl ps) → am.Hs b = some o → H b = some o) ∧ ∀ b, There am.Hs b → There H b
theorem FrR.refl (R : RR) (H : Hp) : FrR R H H := ⟨fun _ _ _ _ h => h, fun _ h => h⟩
theorem FrR.trans {R : RR} {H H1 H2 : Hp} (a : FrR R H H1) (b : FrR R H1 H2) : FrR R H H2 := ⟨fun c o h1 h2 h => b.1 c o h1 h2 (a.1 c o h1 h2 h), fun c h => b.2 c (a.2 c h)⟩
theorem FrR.of {R : RR} {H H' : Hp} (e : Same H H') : FrR R H H' := ⟨fun b o _ _ h => e b o h, fun b h => (Le.of e).there h⟩
theorem FrR.le {R : RR} {H H' : Hp} (e : Le H H') : FrR R H H' := ⟨fun b o _ t h => e b o t h, fun b h => e.there h⟩
structure Wd (R : RR) (TL : List (Addr × Str)) (H : Hp) (n : Nat) : Prop where
  hid : ∀ a, R.hid a → There H a
  tabs : LamX.Tabs TL H
  dr : ∀ d g c, R.dr = some (d, g, c) → R.hid d ∧ R.hid g ∧ R.hid c ∧ ∃ t : Int, t ≤ n ∧ Dr H d g c t
theorem tabs_keep {TL : List (Addr × Str)} {H H' : Hp} (e : ∀ b o, (∀ xs, o ≠ HO.lst xs) → (∀ kvs, o ≠ HO.dK kvs) → H b = some o → H' b = some o) (h : LamX.Tabs TL H) : LamX.Tabs TL H' := fun q hq => by
  obtain ⟨ps, h1, h2, h3⟩ := h q hq
  refine ⟨ps, e _ _ (fun xs => by intro z; cases z) (fun xs => by intro z; cases z) h1, h2, fun pos cv hc => ?_⟩
  obtain ⟨c, e3, e4⟩ := h3 pos cv hc
  exact ⟨c, e3, e _ _ (fun xs => by intro z; unfold LamX.CodeO at z; cases z) (fun xs => by intro z; unfold LamX.CodeO at z; cases z) e4⟩
theorem Dr.same {H H' : Hp} {d g c : Addr} {t : Int} (e : ∀ b o, b = d ∨ b = g ∨ b = c → H b = some o → H' b = some o) (h : Dr H d g c t) : Dr H' d g c t := by
  obtain ⟨gs, cs, n, h1, h2, h3, r⟩ := h
  exact ⟨gs, cs, n, e _ _ (.inl rfl) h1, e _ _ (.inr (.inl rfl)) h2, e _ _ (.inr (.inr rfl)) h3, r⟩
theorem Wd.same {R : RR} {TL : List (Addr × Str)} {H H' : Hp} {n : Nat} (e : Same H H') (h : Wd R TL H n) : Wd R TL H' n where
  hid a ha := (Le.of e).there (h.hid a ha)
  tabs := tabs_keep (fun b o _ _ q => e b o q) h.tabs
  dr d g c k := by
    obtain ⟨h1, h2, h3, t, ht, hd⟩ := h.dr d g c k
    exact ⟨h1, h2, h3, t, ht, hd.same fun b o _ q => e b o q⟩
theorem Wd.le {R : RR} {TL : List (Addr × Str)} {H : Hp} {n m : Nat} (h : Wd R TL H n) (k : n ≤ m) : Wd R TL H m where
  hid := h.hid
  tabs := h.tabs
  dr d g c q := by
    obtain ⟨h1, h2, h3, t, ht, hd⟩ := h.dr d g c q
    exact ⟨h1, h2, h3, t, by omega, hd⟩
/-- a list that is not hidden is written -/
theorem Wd.own {R : RR} {TL : List (Addr × Str)} {H : Hp} {n : Nat} {p : Addr} {xs ys : List V} (h : Wd R TL H n) (hp : ¬ R.hid p) (e : H p = some (.lst xs)) : Wd R TL (upd H p (.lst ys)) n where
  hid a ha := by
    have ne : a ≠ p := fun q => hp (q ▸ ha)
    obtain ⟨o, q1, q2⟩ := h.hid a ha
    exact ⟨o, by rw [upd_ne ne]; exact q1, q2⟩
  tabs := tabs_keep (fun b o h1 _ q => by
    have ne : b ≠ p := fun z => by
      rw [z, e] at q
      cases q
      exact h1 _ rfl
    rw [upd_ne ne]
    exact q) h.tabs
  dr d g c k := by
    obtain ⟨h1, h2, h3, t, ht, hd⟩ := h.dr d g c k
    refine ⟨h1, h2, h3, t, ht, hd.same fun b o hb q => ?_⟩
    have ne : b ≠ p := fun z => by
      subst z
      rcases hb with rfl | rfl | rfl
      · exact hp h1
      · exact hp h2
      · exact hp h3
    rw [upd_ne ne]
    exact q
/-- the fields of an object -/
def RpFs (K : PySem.W.Frag) (H : Hp) : List (Str × V) → List (Str × D) → Prop
  | [], [] => True
  | (x, v) :: vs, (y, d) :: fs => x = y ∧ Rp K H v d ∧ RpFs K H vs fs
  | _, _ => False
def flatFs : List (Str × D) → Bool
  | [] => true
  | f :: fs => flat f.2 && flatFs fs
theorem RpFs.le {K : PySem.W.Frag} {H H' : Hp} (e : Le H H') : ∀ {vs : List (Str × V)} {fs : List (Str × D)}, RpFs K H vs fs → RpFs K H' vs fs
  | [], [], _ => trivial
  | (_, _) :: _, (_, _) :: _, ⟨h1, h2, h3⟩ => ⟨h1, Rp.le e _ _ h2, RpFs.le e h3⟩
  | [], _ :: _, h => h.elim
  | _ :: _, [], h => h.elim
theorem RpFs.hide {K : PySem.W.Frag} {H : Hp} {O O' : Addr → Prop} (hO : ∀ p, O' p → O p ∨ ∃ ys, H p = some (.lst ys)) : ∀ {vs : List (Str × V)} {fs : List (Str × D)}, flatFs fs = true → RpFs K (cut O H) vs fs → RpFs K (cut O' H) vs fs
  | [], [], _, _ => trivial
  | (_, _) :: _, (_, _) :: _, f, ⟨h1, h2, h3⟩ => by
    have f2 := Bool.and_eq_true_iff.mp f
    exact ⟨h1, Rp.hide hO _ _ f2.1 h2, RpFs.hide hO f2.2 h3⟩
  | [], _ :: _, _, h => h.elim
  | _ :: _, [], _, h => h.elim
/-- v is u, in what of H is not hidden -/
def RepU (am : Am) (O : Addr → Prop) (H : Hp) (v : V) : U → Prop
  | .d x => Rp am.K (cut O H) v x
  | .dw bs => flatAll bs = true ∧ ∃ a dx t, v = .ref a ∧ cut O H a = some (.ins am.C dx [("blocks", .ref t)]) ∧ Rp am.K (cut O H) (.ref t) (.tuple bs)
  | .tb f ns => ∃ a kvs, v = .ref a ∧ cut O H a = some (.dK kvs) ∧ ∀ n ∈ ns, valV kvs (.inl n) = some (.int (f n))
  | .dr => ∃ d g c, am.R.dr = some (d, g, c) ∧ v = .ref d
  | .ob fs => flatFs fs = true ∧ ∃ a dx vs, v = .ref a ∧ cut O H a = some (.ins am.C dx vs) ∧ RpFs am.K (cut O H) vs fs
theorem RepU.le {am : Am} {O O' : Addr → Prop} {H H' : Hp} {v : V} {u : U} (e : Le (cut O H) (cut O' H')) (h : RepU am O H v u) : RepU am O' H' v u := by
  cases u with
  | d x => exact Rp.le e _ _ h
  | dw bs =>
    obtain ⟨f, a, dx, t, h1, h2, h3⟩ := h
    exact ⟨f, a, dx, t, h1, e _ _ (fun ps => by intro z; cases z) h2, Rp.le e _ _ h3⟩
  | tb f ns =>
    obtain ⟨a, kvs, h1, h2, h3⟩ := h
    exact ⟨a, kvs, h1, e _ _ (fun ps => by intro z; cases z) h2, h3⟩
  | dr => exact h
  | ob fs =>
    obtain ⟨f, a, dx, vs, h1, h2, h3⟩ := h
    exact ⟨f, a, dx, vs, h1, e _ _ (fun ps => by intro z; cases z) h2, h3.le e⟩
@[simp] def flatU : U → Bool
  | .d x => flat x
  | .dw _ => true
  | .tb _ _ => true
  | .dr => true
  | .ob _ => true
theorem RepU.hide {am : Am} {O O' : Addr → Prop} {H : Hp} {v : V} {u : U} (hO : ∀ p, O' p → O p ∨ ∃ ys, H p = some (.lst ys)) (f : flatU u = true) (h : RepU am O H v u) : RepU am O' H v u := by
  cases u with
  | d x => exact Rp.hide hO _ _ f h
  | dw bs =>
    obtain ⟨f, a, dx, t, h1, h2, h3⟩ := h
    refine ⟨f, a, dx, t, h1, ?_, Rp.hide hO _ _ f h3⟩
    obtain ⟨q1, q2⟩ := cut_some.mp h2
    refine cut_some.mpr ⟨fun z => ?_, q2⟩
    rcases hO _ z with z | ⟨ys, e⟩
    · exact q1 z
    · rw [q2] at e
      cases e
  | tb f ns =>
    obtain ⟨a, kvs, h1, h2, h3⟩ := h
    refine ⟨a, kvs, h1, ?_, h3⟩
    obtain ⟨q1, q2⟩ := cut_some.mp h2
    refine cut_some.mpr ⟨fun z => ?_, q2⟩
    rcases hO _ z with z | ⟨ys, e⟩
    · exact q1 z
    · rw [q2] at e
      cases e
  | dr => exact h
  | ob fs =>
    obtain ⟨f, a, dx, vs, h1, h2, h3⟩ := h
    refine ⟨f, a, dx, vs, h1, ?_, h3.hide hO f⟩
    obtain ⟨q1, q2⟩ := cut_some.mp h2
    refine cut_some.mpr ⟨fun z => ?_, q2⟩
    rcases hO _ z with z | ⟨ys, e⟩
    · exact q1 z
    · rw [q2] at e
      cases e
/-! ### slots -/
inductive Sl where
  | no
  | fz (u : U)
  | ow (ds : List D)
@[simp] def Sl.fzd : Sl → Sl
  | .no => .no
  | .fz u => .fz u
  | .ow ds => .fz (.d (.list ds))
abbrev Ro := List Sl
@[simp] def demAt (S : List Nat) : Nat → Ro → Ro
  | _, [] => []
  | n, s :: ρ => (if n ∈ S then s.fzd else s) :: demAt S (n + 1) ρ
abbrev dem (S : List Nat) (ρ : Ro) : Ro := demAt S 0 ρ
theorem demAt_get (S : List Nat) : ∀ (ρ : Ro) (n i : Nat), (demAt S n ρ)[i]? = (ρ[i]?).map fun s => if n + i ∈ S then s.fzd else s
  | [], n, i => by simp
  | s :: ρ, n, 0 => by simp
  | s :: ρ, n, i + 1 => by
    show (demAt S (n + 1) ρ)[i]? = _
    rw [demAt_get S ρ (n + 1) i]
    have e : n + 1 + i = n + (i + 1) := by omega
    rw [e]
    rfl
theorem dem_get (S : List Nat) (ρ : Ro) (i : Nat) : (dem S ρ)[i]? = (ρ[i]?).map fun s => if i ∈ S then s.fzd else s := by
  have h := demAt_get S ρ 0 i
  rw [Nat.zero_add] at h
  exact h
theorem dem_len (S : List Nat) : ∀ (ρ : Ro) (n : Nat), (demAt S n ρ).length = ρ.length
  | [], _ => rfl
  | s :: ρ, n => by
    show (demAt S (n + 1) ρ).length + 1 = ρ.length + 1
    rw [dem_len S ρ (n + 1)]
theorem dem_nil : ∀ (ρ : Ro) (n : Nat), demAt [] n ρ = ρ
  | [], _ => rfl
  | s :: ρ, n => by
    show (if n ∈ [] then s.fzd else s) :: demAt [] (n + 1) ρ = _
    rw [dem_nil ρ (n + 1), if_neg (by simp)]
/-- the list at p is slot i's own -/
def OwnAt (ρ : Ro) (σ : L2.St) (i : Nat) (p : Addr) : Prop := (∃ ds, ρ[i]? = some (Sl.ow ds)) ∧ σ[i]? = some (some (V.ref p))
def Hid (am : Am) (ρ : Ro) (σ : L2.St) (a : Addr) : Prop := am.R.hid a ∨ ∃ i, OwnAt ρ σ i a
structure Rl (am : Am) (ρ : Ro) (n : Nat) (σ : L2.St) (H : Hp) : Prop where
  len : ρ.length = σ.length
  fz : ∀ (i : Nat) (u : U), ρ[i]? = some (Sl.fz u) → ∃ v, σ[i]? = some (some v) ∧ RepU am (Hid am ρ σ) H v u
  ow : ∀ (i : Nat) (ds : List D), ρ[i]? = some (Sl.ow ds) → ∃ p vs, σ[i]? = some (some (V.ref p)) ∧ ((New am.Hs p ∨ am.O0 p) ∧ ¬ am.R.hid p) ∧ H p = some (.lst vs) ∧ RpAll am.K (cut (Hid am ρ σ) H) vs ds
  nd : ∀ (i j : Nat) (p : Addr), OwnAt ρ σ i p → OwnAt ρ σ j p → i = j
  od : ∀ d g c, am.R.dr = some (d, g, c) → am.O0 d ∧ am.O0 g
  gr : Gr am H
  wd : Wd am.R am.TL H n
  ex : ∀ C H' n', Gr am H' → Wd am.R am.TL H' n' → am.e C → am.E (.ref C) none H'
section
variable {am : Am} {ρ : Ro} {n n' : Nat} {σ : L2.St} {H H' : Hp}
theorem Rl.ownL (h : Rl am ρ n σ H) {i : Nat} {p : Addr} (o : OwnAt ρ σ i p) : (New am.Hs p ∨ am.O0 p) ∧ (∃ vs, H p = some (.lst vs)) ∧ ¬ am.R.hid p := by
  obtain ⟨⟨ds, e⟩, e2⟩ := o
  obtain ⟨p', vs, q1, q2, q3, q4⟩ := h.ow i ds e
  rw [e2] at q1
  cases q1
  exact ⟨q2.1, ⟨vs, q3⟩, q2.2⟩
theorem Rl.hidThere (h : Rl am ρ n σ H) {a : Addr} (z : Hid am ρ σ a) : There H a := by
  rcases z with z | ⟨i, z⟩
  · exact h.wd.hid a z
  · obtain ⟨_, ⟨vs, e⟩, _⟩ := h.ownL z
    exact .lst e
theorem Rl.new (h : Rl am ρ n σ H) {p : Addr} (e : New H p) : ¬ Hid am ρ σ p := fun z => e (h.hidThere z)
/-- what is new now was not there at the start -/
theorem Rl.new0 (h : Rl am ρ n σ H) {p : Addr} (e : New H p) : (New am.Hs p ∨ am.O0 p) ∧ ¬ am.R.hid p := by
  refine ⟨?_, fun z => h.new e (.inl z)⟩
  by_cases o : am.O0 p
  · exact .inr o
  · exact .inl fun ⟨x, q1, q2⟩ => e ⟨x, h.gr.1 p x o q2 q1, q2⟩
/-- what is not hidden and no draw of ours stands behind a step -/
theorem Rl.cutLe (h : Rl am ρ n σ H) (f : FrR am.R H H') (S : List Nat) : Le (cut (Hid am (dem S ρ) σ) H) (cut (Hid am (dem S ρ) σ) H') := Le.cut (fun a z => .inl z) fun a o hn t e => f.1 a o (fun d g c q => by
  obtain ⟨h1, h2, _, _⟩ := h.wd.dr d g c q
  exact ⟨fun z => hn (.inl (z ▸ h1)), fun z => hn (.inl (z ▸ h2))⟩) t e
theorem Rl.cutLe0 (h : Rl am ρ n σ H) (f : FrR am.R H H') : Le (cut (Hid am ρ σ) H) (cut (Hid am ρ σ) H') := by
  have q := h.cutLe f []
  rw [show dem [] ρ = ρ from dem_nil ρ 0] at q
  exact q
theorem Rl.keepOw (h : Rl am ρ n σ H) (f : FrR am.R H H') {i : Nat} {p : Addr} {vs : List V} (o : OwnAt ρ σ i p) (e : H p = some (.lst vs)) : H' p = some (.lst vs) := f.1 p _ (fun d g c q => by
  obtain ⟨h1, h2, _, _⟩ := h.wd.dr d g c q
  obtain ⟨_, _, h3⟩ := h.ownL o
  exact ⟨fun z => h3 (z ▸ h1), fun z => h3 (z ▸ h2)⟩) (fun ps z => by cases z) e
theorem Rl.step (h : Rl am ρ n σ H) (f : FrR am.R H H') (w : Wd am.R am.TL H' n') : Rl am ρ n' σ H' where
  len := h.len
  fz i u e := by
    obtain ⟨v, q1, q2⟩ := h.fz i u e
    exact ⟨v, q1, q2.le (h.cutLe0 f)⟩
  ow i ds e := by
    obtain ⟨p, vs, q1, q2, q3, q4⟩ := h.ow i ds e
    exact ⟨p, vs, q1, q2, h.keepOw f ⟨⟨ds, e⟩, q1⟩ q3, RpAll.le (h.cutLe0 f) _ _ q4⟩
  nd := h.nd
  od := h.od
  gr := ⟨fun b o h1 h2 e => f.1 b o (fun d g c q => by
    obtain ⟨a1, a2⟩ := h.od d g c q
    exact ⟨fun z => h1 (z ▸ a1), fun z => h1 (z ▸ a2)⟩) h2 (h.gr.1 b o h1 h2 e), fun b z => f.2 b (h.gr.2 b z)⟩
  wd := w
  ex := h.ex
theorem ownDem {S : List Nat} {i : Nat} {p : Addr} (o : OwnAt (dem S ρ) σ i p) : OwnAt ρ σ i p ∧ i ∉ S := by
  obtain ⟨⟨ds, e⟩, e2⟩ := o
  rw [dem_get] at e
  cases q : ρ[i]? with
  | none =>
    rw [q] at e
    cases e
  | some s =>
    rw [q] at e
    have e3 : (if i ∈ S then s.fzd else s) = .ow ds := Option.some.inj e
    by_cases hi : i ∈ S
    · rw [if_pos hi] at e3
      cases s <;> cases e3
    · rw [if_neg hi] at e3
      subst e3
      exact ⟨⟨⟨ds, q⟩, e2⟩, hi⟩
theorem hidDem {S : List Nat} {a : Addr} (z : Hid am (dem S ρ) σ a) : Hid am ρ σ a := by
  rcases z with z | ⟨i, z⟩
  · exact .inl z
  · exact .inr ⟨i, (ownDem z).1⟩
theorem hidDem2 {S S' : List Nat} (hS : ∀ i ∈ S', i ∈ S) {a : Addr} (z : Hid am (dem S ρ) σ a) : Hid am (dem S' ρ) σ a := by
  rcases z with z | ⟨i, z⟩
  · exact .inl z
  · obtain ⟨⟨⟨ds, e⟩, e2⟩, hi⟩ := ownDem z
    refine .inr ⟨i, ⟨ds, ?_⟩, e2⟩
    rw [dem_get, e]
    show some (if i ∈ S' then _ else _) = _
    rw [if_neg fun z => hi (hS i z)]
/-- the slots S are read: their lists are no longer ours -/
theorem Rl.dem (h : Rl am ρ n σ H) (S : List Nat) : Rl am (dem S ρ) n σ H where
  len := by rw [show (V3.dem S ρ).length = ρ.length from dem_len S ρ 0, h.len]
  fz i u e := by
    rw [dem_get] at e
    cases q : ρ[i]? with
    | none =>
      rw [q] at e
      cases e
    | some s =>
      rw [q] at e
      have e3 : (if i ∈ S then s.fzd else s) = .fz u := Option.some.inj e
      by_cases hi : i ∈ S
      · rw [if_pos hi] at e3
        cases s with
        | no => cases e3
        | fz u' =>
          cases e3
          obtain ⟨v, q1, q2⟩ := h.fz i _ q
          exact ⟨v, q1, q2.le (Le.cutSub fun a => hidDem)⟩
        | ow ds =>
          cases e3
          obtain ⟨p, vs, q1, q2, q3, q4⟩ := h.ow i ds q
          refine ⟨.ref p, q1, .lst (cut_some.mpr ⟨fun z => ?_, q3⟩) (RpAll.le (Le.cutSub fun a => hidDem) _ _ q4)⟩
          rcases z with z | ⟨j, z⟩
          · exact q2.2 z
          · obtain ⟨z1, z2⟩ := ownDem z
            rw [h.nd j i p z1 ⟨⟨ds, q⟩, q1⟩] at z2
            exact z2 hi
      · rw [if_neg hi] at e3
        subst e3
        obtain ⟨v, q1, q2⟩ := h.fz i _ q
        exact ⟨v, q1, q2.le (Le.cutSub fun a => hidDem)⟩
  ow i ds e := by
    rw [dem_get] at e
    cases q : ρ[i]? with
    | none =>
      rw [q] at e
      cases e
    | some s =>
      rw [q] at e
      have e3 : (if i ∈ S then s.fzd else s) = .ow ds := Option.some.inj e
      by_cases hi : i ∈ S
      · rw [if_pos hi] at e3
        cases s <;> cases e3
      · rw [if_neg hi] at e3
        subst e3
        obtain ⟨p, vs, q1, q2, q3, q4⟩ := h.ow i ds q
        exact ⟨p, vs, q1, q2, q3, RpAll.le (Le.cutSub fun a => hidDem) _ _ q4⟩
  nd i j p a b := h.nd i j p (ownDem a).1 (ownDem b).1
  od := h.od
  gr := h.gr
  wd := h.wd
  ex := h.ex
theorem set_get {α : Type} {l : List α} {i j : Nat} {x y : α} (h : (l.set i x)[j]? = some y) : (j = i ∧ i < l.length ∧ y = x) ∨ (j ≠ i ∧ l[j]? = some y) := by
  by_cases e : i = j
  · subst e
    by_cases hl : i < l.length
    · rw [List.getElem?_set_self hl] at h
      cases h
      exact .inl ⟨rfl, hl, rfl⟩
    · rw [List.getElem?_eq_none (by simpa using hl)] at h
      cases h
  · rw [List.getElem?_set_ne e] at h
    exact .inr ⟨fun z => e z.symm, h⟩
theorem own_set {s : Sl} {v : Option V} (hs : ∀ ds, s ≠ .ow ds) {i j : Nat} {p : Addr} (o : OwnAt (ρ.set i s) (σ.set i v) j p) : OwnAt ρ σ j p := by
  obtain ⟨⟨ds, e⟩, e2⟩ := o
  rcases set_get e with ⟨_, _, z⟩ | ⟨ne, e⟩
  · exact absurd z.symm (hs ds)
  · rcases set_get e2 with ⟨z, _⟩ | ⟨_, e2⟩
    · exact absurd z ne
    · exact ⟨⟨ds, e⟩, e2⟩
theorem hid_set {s : Sl} {v : Option V} (hs : ∀ ds, s ≠ .ow ds) {i : Nat} {a : Addr} (z : Hid am (ρ.set i s) (σ.set i v) a) : Hid am ρ σ a := by
  rcases z with z | ⟨j, z⟩
  · exact .inl z
  · exact .inr ⟨j, own_set hs z⟩
theorem Rl.setNo (h : Rl am ρ n σ H) (i : Nat) (v : Option V) : Rl am (ρ.set i .no) n (σ.set i v) H where
  len := by rw [List.length_set, List.length_set, h.len]
  fz j u e := by
    rcases set_get e with ⟨_, _, z⟩ | ⟨ne, e⟩
    · cases z
    · obtain ⟨v, q1, q2⟩ := h.fz j u e
      exact ⟨v, by rw [List.getElem?_set_ne (Ne.symm ne)]; exact q1, q2.le (Le.cutSub fun a => hid_set fun ds z => by cases z)⟩
  ow j ds e := by
    rcases set_get e with ⟨_, _, z⟩ | ⟨ne, e⟩
    · cases z
    · obtain ⟨p, vs, q1, q2, q3, q4⟩ := h.ow j ds e
      exact ⟨p, vs, by rw [List.getElem?_set_ne (Ne.symm ne)]; exact q1, q2, q3, RpAll.le (Le.cutSub fun a => hid_set fun ds z => by cases z) _ _ q4⟩
  nd i j p a b := h.nd i j p (own_set (fun ds z => by cases z) a) (own_set (fun ds z => by cases z) b)
  od := h.od
  gr := h.gr
  wd := h.wd
  ex := h.ex
theorem Rl.setFz (h : Rl am ρ n σ H) {v : V} {u : U} (i : Nat) (r : RepU am (Hid am ρ σ) H v u) : Rl am (ρ.set i (.fz u)) n (σ.set i (some v)) H where
  len := by rw [List.length_set, List.length_set, h.len]
  fz j u' e := by
    rcases set_get e with ⟨z1, z2, z⟩ | ⟨ne, e⟩
    · cases z
      subst z1
      exact ⟨v, by rw [List.getElem?_set_self (by rw [← h.len]; exact z2)], r.le (Le.cutSub fun a => hid_set fun ds z => by cases z)⟩
    · obtain ⟨v, q1, q2⟩ := h.fz j u' e
      exact ⟨v, by rw [List.getElem?_set_ne (Ne.symm ne)]; exact q1, q2.le (Le.cutSub fun a => hid_set fun ds z => by cases z)⟩
  ow j ds e := by
    rcases set_get e with ⟨_, _, z⟩ | ⟨ne, e⟩
    · cases z
    · obtain ⟨p, vs, q1, q2, q3, q4⟩ := h.ow j ds e
      exact ⟨p, vs, by rw [List.getElem?_set_ne (Ne.symm ne)]; exact q1, q2, q3, RpAll.le (Le.cutSub fun a => hid_set fun ds z => by cases z) _ _ q4⟩
  nd i j p a b := h.nd i j p (own_set (fun ds z => by cases z) a) (own_set (fun ds z => by cases z) b)
  od := h.od
  gr := h.gr
  wd := h.wd
  ex := h.ex
theorem own_setO {ds : List D} {p : Addr} {i j : Nat} {a : Addr} (o : OwnAt (ρ.set i (.ow ds)) (σ.set i (some (.ref p))) j a) : (j = i ∧ a = p) ∨ (j ≠ i ∧ OwnAt ρ σ j a) := by
  obtain ⟨⟨ds', e⟩, e2⟩ := o
  rcases set_get e with ⟨z1, _, _⟩ | ⟨ne, e⟩
  · rcases set_get e2 with ⟨_, _, z⟩ | ⟨ne, _⟩
    · cases z
      exact .inl ⟨z1, rfl⟩
    · exact absurd z1 ne
  · rcases set_get e2 with ⟨z, _⟩ | ⟨_, e2⟩
    · exact absurd z ne
    · exact .inr ⟨ne, ⟨ds', e⟩, e2⟩
theorem hid_setO {ds : List D} {p : Addr} {i : Nat} {a : Addr} (z : Hid am (ρ.set i (.ow ds)) (σ.set i (some (.ref p))) a) : a = p ∨ Hid am ρ σ a := by
  rcases z with z | ⟨j, z⟩
  · exact .inr (.inl z)
  · rcases own_setO z with ⟨_, z⟩ | ⟨_, z⟩
    · exact .inl z
    · exact .inr (.inr ⟨j, z⟩)
/-- a new list comes into slot i -/
theorem Rl.setOw (h : Rl am ρ n σ H) (f : FrR am.R H H') (w : Wd am.R am.TL H' n') {p : Addr} {vs : List V} {ds : List D} (i : Nat) (hp : New H p) (e : H' p = some (.lst vs)) (r : RpAll am.K (cut (fun a => a = p ∨ Hid am ρ σ a) H') vs ds) :
    Rl am (ρ.set i (.ow ds)) n' (σ.set i (some (.ref p))) H' := by
  have h' := h.step f w
  have L : Le (cut (Hid am ρ σ) H) (cut (Hid am (ρ.set i (.ow ds)) (σ.set i (some (.ref p)))) H') := Le.cut (fun a z => by
    rcases hid_setO z with z | z
    · exact .inr (by rw [z]; exact hp)
    · exact .inl z) fun a o hn t e => f.1 a o (fun d g c q => by
      obtain ⟨h1, h2, _, _⟩ := h.wd.dr d g c q
      exact ⟨fun z => hn (.inl (z ▸ h1)), fun z => hn (.inl (z ▸ h2))⟩) t e
  have pn : ¬ Hid am ρ σ p := h.new hp
  exact {
    len := by rw [List.length_set, List.length_set, h.len]
    fz := fun j u e => by
      rcases set_get e with ⟨_, _, z⟩ | ⟨ne, e⟩
      · cases z
      · obtain ⟨v, q1, q2⟩ := h.fz j u e
        exact ⟨v, by rw [List.getElem?_set_ne (Ne.symm ne)]; exact q1, q2.le L⟩
    ow := fun j ds' e' => by
      rcases set_get e' with ⟨z1, z2, z⟩ | ⟨ne, e'⟩
      · cases z
        subst z1
        refine ⟨p, vs, by rw [List.getElem?_set_self (by rw [← h.len]; exact z2)], h.new0 hp, e, RpAll.le (Le.cutSub fun a => hid_setO) _ _ r⟩
      · obtain ⟨p', vs', q1, q2, q3, q4⟩ := h.ow j ds' e'
        exact ⟨p', vs', by rw [List.getElem?_set_ne (Ne.symm ne)]; exact q1, q2, h.keepOw f ⟨⟨ds', e'⟩, q1⟩ q3, RpAll.le L _ _ q4⟩
    nd := fun i' j a x y => by
      rcases own_setO x with ⟨x1, x2⟩ | ⟨x1, x2⟩
      · rcases own_setO y with ⟨y1, y2⟩ | ⟨y1, y2⟩
        · rw [x1, y1]
        · exact absurd (.inr ⟨j, x2 ▸ y2⟩) pn
      · rcases own_setO y with ⟨y1, y2⟩ | ⟨y1, y2⟩
        · exact absurd (.inr ⟨i', y2 ▸ x2⟩) pn
        · exact h.nd i' j a x2 y2
    od := h.od
    gr := h'.gr
    wd := w
    ex := h.ex }
theorem own_setS {ds ds' : List D} {i j : Nat} {a : Addr} (hi : ρ[i]? = some (Sl.ow ds)) (o : OwnAt (ρ.set i (.ow ds')) σ j a) : OwnAt ρ σ j a := by
  obtain ⟨⟨ds2, e⟩, e2⟩ := o
  rcases set_get e with ⟨z1, _, _⟩ | ⟨ne, e⟩
  · subst z1
    exact ⟨⟨ds, hi⟩, e2⟩
  · exact ⟨⟨ds2, e⟩, e2⟩
/-- the list of slot i is written -/
theorem Rl.write (h : Rl am ρ n σ H) {i : Nat} {ds ds' : List D} {p : Addr} {vs' : List V} (hi : ρ[i]? = some (Sl.ow ds)) (hp : σ[i]? = some (some (V.ref p))) (r : RpAll am.K (cut (Hid am ρ σ) H) vs' ds') :
    Rl am (ρ.set i (.ow ds')) n σ (upd H p (.lst vs')) := by
  have own : OwnAt ρ σ i p := ⟨⟨ds, hi⟩, hp⟩
  obtain ⟨n0, ⟨xs, e0⟩, nh⟩ := h.ownL own
  have L : Le (cut (Hid am ρ σ) H) (cut (Hid am (ρ.set i (.ow ds')) σ) (upd H p (.lst vs'))) := Le.cut (fun a z => .inl (by
    rcases z with z | ⟨j, z⟩
    · exact .inl z
    · exact .inr ⟨j, own_setS hi z⟩)) fun a o hn t e => by
      have ne : a ≠ p := fun z => hn (.inr ⟨i, by rw [z]; exact own⟩)
      rw [upd_ne ne]
      exact e
  exact {
    len := by rw [List.length_set, h.len]
    fz := fun j u e => by
      rcases set_get e with ⟨_, _, z⟩ | ⟨ne, e⟩
      · cases z
      · obtain ⟨v, q1, q2⟩ := h.fz j u e
        exact ⟨v, q1, q2.le L⟩
    ow := fun j ds2 e => by
      rcases set_get e with ⟨z1, z2, z⟩ | ⟨ne, e⟩
      · cases z
        subst z1
        exact ⟨p, vs', hp, ⟨n0, nh⟩, upd_same, RpAll.le L _ _ r⟩
      · obtain ⟨p', vs2, q1, q2, q3, q4⟩ := h.ow j ds2 e
        have np : p' ≠ p := fun z => ne (h.nd j i p' ⟨⟨ds2, e⟩, q1⟩ (z ▸ own))
        exact ⟨p', vs2, q1, q2, by rw [upd_ne np]; exact q3, RpAll.le L _ _ q4⟩
    nd := fun i' j a x y => h.nd i' j a (own_setS hi x) (own_setS hi y)
    od := h.od
    gr := ⟨fun b o h1 h2 e => by
      have ne : b ≠ p := fun z => by
        rcases n0 with n0 | n0
        · exact n0 ⟨o, z ▸ e, h2⟩
        · exact h1 (z ▸ n0)
      rw [upd_ne ne]
      exact h.gr.1 b o h1 h2 e, fun b z => by
      by_cases hb : b = p
      · rw [hb]
        exact .lst upd_same
      · obtain ⟨o, q1, q2⟩ := h.gr.2 b z
        exact ⟨o, by rw [upd_ne hb]; exact q1, q2⟩⟩
    wd := h.wd.own nh e0
    ex := h.ex }
end
end V3
set_option Elab.async false
set_option linter.all false
set_option maxRecDepth 100000
set_option maxHeartbeats 4000000
namespace V3
open PySem PySem.Spec PyProof.Rows L2
/-! ### judgements: a reading t of the hand layer, and m, what it asks of values alone -/
theorem same_new {H : Hp} {p : Addr} {o : HO} (h : H p = none) : Same H (upd H p o) := fun b x e => by
  rw [upd_ne (ne_of_none e h)]
  exact e
abbrev TE3 := Ro → Nat → (Bool → U → Nat → Prop) → (Addr → Prop) → Prop
abbrev TT3 := Ro → Nat → (Bool → Nat → Prop) → (Addr → Prop) → Prop
abbrev TA3 := Ro → Nat → (List U → Nat → Prop) → (Addr → Prop) → Prop
abbrev TO3 := Ro → Nat → (Option Int → Nat → Prop) → (Addr → Prop) → Prop
abbrev RepA (am : Am) (O : Addr → Prop) (H : Hp) (vs : List V) (us : List U) : Prop := Paired (RepU am O H) vs us
theorem RepA.le {am : Am} {O O' : Addr → Prop} {H H' : Hp} (e : Le (cut O H) (cut O' H')) : ∀ {vs : List V} {us : List U}, RepA am O H vs us → RepA am O' H' vs us
  | _, _, .nil => .nil
  | _, _, .cons h t => .cons (h.le e) (RepA.le e t)
/-- v is u; fr: a new list -/
def RepV (am : Am) (O : Addr → Prop) (H H' : Hp) (fr : Bool) (v : V) (u : U) : Prop :=
  RepU am O H' v u ∧ (fr = true → ∃ p vs ds, v = .ref p ∧ u = .d (.list ds) ∧ New H p ∧ H' p = some (.lst vs) ∧ RpAll am.K (cut (fun a => a = p ∨ O a) H') vs ds)
theorem RepV.old {am : Am} {O : Addr → Prop} {H H' : Hp} {v : V} {u : U} (h : RepU am O H' v u) : RepV am O H H' false v u := ⟨h, fun z => by cases z⟩
/-- an expression; S: the slots whose lists may be what it gives -/
class LE (K : PySem.W.Frag) (C : Addr) (TL : List (Addr × Str)) (E : XK) (t : TE) (S : outParam (List Nat)) (m : outParam TE3) : Prop where
  s : ∀ (am : Am) (ρ : Ro) (n : Nat) (σ : L2.St) (H : Hp), am.K = K ∧ am.TL = TL ∧ am.E = E ∧ am.C = C → Rl am ρ n σ H → ∀ (Q : VK) (q : Bool → U → Nat → Prop), m ρ n q am.e →
    (∀ fr u n' v H', q fr u n' → FrR am.R H H' → Wd am.R am.TL H' n' → RepV am (Hid am (dem S ρ) σ) H H' fr v u → Q v H') → t σ H Q
class LT (K : PySem.W.Frag) (C : Addr) (TL : List (Addr × Str)) (E : XK) (t : TT) (m : outParam TT3) : Prop where
  s : ∀ (am : Am) (ρ : Ro) (n : Nat) (σ : L2.St) (H : Hp), am.K = K ∧ am.TL = TL ∧ am.E = E ∧ am.C = C → Rl am ρ n σ H → ∀ (Q : Bool → Hp → Prop) (q : Bool → Nat → Prop), m ρ n q am.e →
    (∀ b n' H', q b n' → FrR am.R H H' → Wd am.R am.TL H' n' → Q b H') → t σ H Q
class LA (K : PySem.W.Frag) (C : Addr) (TL : List (Addr × Str)) (E : XK) (t : TA) (S : outParam (List Nat)) (m : outParam TA3) : Prop where
  s : ∀ (am : Am) (ρ : Ro) (n : Nat) (σ : L2.St) (H : Hp), am.K = K ∧ am.TL = TL ∧ am.E = E ∧ am.C = C → Rl am ρ n σ H → ∀ (Q : List V → Hp → Prop) (q : List U → Nat → Prop), m ρ n q am.e →
    (∀ us n' vs H', q us n' → FrR am.R H H' → Wd am.R am.TL H' n' → RepA am (Hid am (dem S ρ) σ) H' vs us → Q vs H') → t σ H Q
class LO (K : PySem.W.Frag) (C : Addr) (TL : List (Addr × Str)) (E : XK) (t : TO) (m : outParam TO3) : Prop where
  s : ∀ (am : Am) (ρ : Ro) (n : Nat) (σ : L2.St) (H : Hp), am.K = K ∧ am.TL = TL ∧ am.E = E ∧ am.C = C → Rl am ρ n σ H → ∀ (Q : Option Int → Hp → Prop) (q : Option Int → Nat → Prop), m ρ n q am.e →
    (∀ b n' H', q b n' → FrR am.R H H' → Wd am.R am.TL H' n' → Q b H') → t σ H Q
theorem le_fr {am : Am} {ρ : Ro} {n : Nat} {σ : L2.St} {H H' : Hp} (h : Rl am ρ n σ H) {O : Addr → Prop} (hO : ∀ a, Hid am (dem [] ρ) σ a → O a) (f : FrR am.R H H') : Le (cut O H) (cut O H') := Le.cut (fun a z => .inl z) fun a o hn t e => f.1 a o (fun d g c q => by
  obtain ⟨h1, h2, _, _⟩ := h.wd.dr d g c q
  exact ⟨fun z => hn (hO _ (.inl (z ▸ h1))), fun z => hn (hO _ (.inl (z ▸ h2)))⟩) t e
theorem rl_cutS {am : Am} {ρ : Ro} {n : Nat} {σ : L2.St} {H H' : Hp} (h : Rl am ρ n σ H) (f : FrR am.R H H') {S S' : List Nat} (hS : ∀ i ∈ S, i ∈ S') : Le (cut (Hid am (dem S ρ) σ) H) (cut (Hid am (dem S' ρ) σ) H') :=
  (h.cutLe f S).trans (Le.cutSub fun a => hidDem2 hS)
section
variable {K : PySem.W.Frag} {C : Addr} {TL : List (Addr × Str)} {E : XK}
/-! ### names, constants -/
@[simp] def Sl.rd : Sl → Option U
  | .no => none
  | .fz u => some u
  | .ow ds => some (.d (.list ds))
@[simp] def rdAt : Ro → Nat → Option U
  | [], _ => none
  | s :: _, 0 => s.rd
  | _ :: ρ, i + 1 => rdAt ρ i
theorem rdAt_eq : ∀ (ρ : Ro) (i : Nat), rdAt ρ i = (ρ[i]?).bind Sl.rd
  | [], i => by simp
  | s :: ρ, 0 => by simp
  | s :: ρ, i + 1 => by
    show rdAt ρ i = _
    rw [rdAt_eq ρ i]
    simp
def ask {α : Type} (o : Option α) (k : α → Prop) : Prop := match o with
  | some x => k x
  | none => False
@[simp] theorem ask_s {α : Type} (x : α) (k : α → Prop) : ask (some x) k = k x := rfl
@[simp] theorem ask_n {α : Type} (k : α → Prop) : ask none k = False := rfl
theorem ask_some {α : Type} {o : Option α} {k : α → Prop} (h : ask o k) : ∃ x, o = some x ∧ k x := by
  cases o with
  | none => exact h.elim
  | some x => exact ⟨x, rfl, h⟩
@[simp ↓] theorem ask_rd (ρ : Ro) (i : Nat) (k : U → Prop) : ask (rdAt ρ i) k = if (rdAt ρ i).isSome = true then k ((rdAt ρ i).getD .dr) else False := by
  cases rdAt ρ i <;> simp
@[simp ↓] def mVar (i : Nat) : TE3 := fun ρ n q _ => ask (rdAt ρ i) fun u => q false u n
theorem slot_rd {am : Am} {ρ : Ro} {n : Nat} {σ : L2.St} {H : Hp} (h : Rl am ρ n σ H) {i : Nat} {u : U} (e : rdAt ρ i = some u) : ∃ v, σ[i]? = some (some v) ∧ RepU am (Hid am (dem [i] ρ) σ) H v u := by
  rw [rdAt_eq] at e
  have hd := h.dem [i]
  cases q : ρ[i]? with
  | none =>
    rw [q] at e
    cases e
  | some s =>
    have e2 : s.rd = some u := by
      rw [q] at e
      exact e
    have e3 : (dem [i] ρ)[i]? = some (Sl.fz u) := by
      rw [dem_get, q]
      show some (if i ∈ [i] then s.fzd else s) = _
      rw [if_pos (List.mem_singleton.mpr rfl)]
      cases s with
      | no => cases e2
      | fz u' =>
        cases e2
        rfl
      | ow ds =>
        cases e2
        rfl
    exact hd.fz i u e3
instance (i : Nat) : LE K C TL E (tVar i) [i] (mVar i) where
  s am ρ n σ H _ h Q q hm k := by
    unfold mVar ask at hm
    cases e : rdAt ρ i with
    | none =>
      rw [e] at hm
      exact hm.elim
    | some u =>
      rw [e] at hm
      obtain ⟨v, h1, h2⟩ := slot_rd h e
      exact ⟨v, h1, k false u n v H hm (FrR.refl _ _) h.wd (.old h2)⟩
@[simp ↓] def mC (u : U) : TE3 := fun _ n q _ => q false u n
instance (i : Int) : LE K C TL E (tC (.int i)) [] (mC (.d (.int i))) where
  s am ρ n σ H _ h Q q hm k := k _ _ n _ H hm (FrR.refl _ _) h.wd (.old (Rp.int i))
instance (i : Bool) : LE K C TL E (tC (.bl i)) [] (mC (.d (.bool i))) where
  s am ρ n σ H _ h Q q hm k := k _ _ n _ H hm (FrR.refl _ _) h.wd (.old (Rp.bl i))
instance : LE K C TL E (tC .non) [] (mC (.d .none)) where
  s am ρ n σ H _ h Q q hm k := k _ _ n _ H hm (FrR.refl _ _) h.wd (.old Rp.non)
instance (x : Str) : LE K C TL E (tC (.str x)) [] (mC (.d (.str x))) where
  s am ρ n σ H _ h Q q hm k := k _ _ n _ H hm (FrR.refl _ _) h.wd (.old (Rp.str x))
/-! ### arguments -/
@[simp ↓] def mNil : TA3 := fun _ n q _ => q [] n
@[simp ↓] def mCons (me : TE3) (ma : TA3) : TA3 := fun ρ n q e => me ρ n (fun _ u n1 => ma ρ n1 (fun us n2 => q (u :: us) n2) e) e
instance : LA K C TL E tNil [] mNil where
  s am ρ n σ H _ h Q q hm k := k _ n _ H hm (FrR.refl _ _) h.wd .nil
instance {te : TE} {ta : TA} {S1 S2 : List Nat} {me : TE3} {ma : TA3} [he : LE K C TL E te S1 me] [ha : LA K C TL E ta S2 ma] : LA K C TL E (tCons te ta) (S1 ++ S2) (mCons me ma) where
  s am ρ n σ H hE h Q q hm k := by
    refine he.s am ρ n σ H hE h _ _ hm fun fr u n1 v H1 hq f1 w1 r1 => ?_
    have h1 := h.step f1 w1
    refine ha.s am ρ n1 σ H1 hE h1 _ _ hq fun us n2 vs H2 hq2 f2 w2 r2 => ?_
    refine k _ n2 _ H2 hq2 (f1.trans f2) w2 (.cons (r1.1.le (rl_cutS h1 f2 fun i hi => List.mem_append_left _ hi)) (r2.le (rl_cutS (h1.step f2 w2) (FrR.refl _ _) fun i hi => List.mem_append_right _ hi)))
/-- a list of data -/
@[simp] def toDs : List U → Option (List D)
  | [] => some []
  | .d x :: us => (toDs us).map (x :: ·)
  | _ :: _ => none
theorem toDs_rep {am : Am} {O : Addr → Prop} {H : Hp} : ∀ {vs : List V} {us : List U} {ds : List D}, RepA am O H vs us → toDs us = some ds → RpAll am.K (cut O H) vs ds
  | _, _, _, .nil, e => by
    cases e
    exact .nil
  | v :: vs, u :: us, ds, .cons r t, e => by
    cases u with
    | d x =>
      have e2 : (toDs us).map (x :: ·) = some ds := e
      cases q : toDs us with
      | none =>
        rw [q] at e2
        cases e2
      | some ds' =>
        rw [q] at e2
        cases e2
        exact .cons r (toDs_rep t q)
    | dw bs => cases e
    | tb f ns => cases e
    | dr => cases e
    | ob fs => cases e
/-! ### a new object -/
theorem fresh_step {am : Am} {ρ : Ro} {n : Nat} {σ : L2.St} {H : Hp} (h : Rl am ρ n σ H) {p : Addr} (hp : H p = none) (o : HO) : FrR am.R H (upd H p o) ∧ Wd am.R am.TL (upd H p o) n :=
  ⟨.of (same_new hp), h.wd.same (same_new hp)⟩
theorem cut_new {am : Am} {ρ : Ro} {n : Nat} {σ : L2.St} {H : Hp} (h : Rl am ρ n σ H) (S : List Nat) {p : Addr} (hp : H p = none) (o : HO) : cut (Hid am (dem S ρ) σ) (upd H p o) p = some o :=
  cut_some.mpr ⟨fun z => (h.dem S).new (.of hp) z, upd_same⟩
theorem cut_grow {O : Addr → Prop} {H : Hp} {p : Addr} (hp : H p = none) (o : HO) : Le (cut O H) (cut O (upd H p o)) := Le.cut (fun a z => .inl z) fun a o' _ _ e => same_new hp a o' e
@[simp ↓] def mTup (ma : TA3) : TE3 := fun ρ n q e => ma ρ n (fun us n1 => ask (toDs us) fun ds => if ds.length ≤ 1000 then q false (.d (.tuple ds)) n1 else False) e
theorem le1000 {k : Nat} (h : k ≤ 1000) : k ≤ sizeLine := Nat.le_trans h (by decide)
instance {ta : TA} {S : List Nat} {ma : TA3} [ha : LA K C TL E ta S ma] : LE K C TL E (tTup ta) S (mTup ma) where
  s am ρ n σ H hE h Q q hm k := by
    refine ha.s am ρ n σ H hE h _ _ hm fun us n1 vs H1 hq f1 w1 r1 => ?_
    have h1 := h.step f1 w1
    unfold ask at hq
    cases e : toDs us with
    | none =>
      rw [e] at hq
      exact hq.elim
    | some ds =>
      rw [e] at hq
      have rd := toDs_rep r1 e
      have hl : ds.length ≤ 1000 := by
        by_cases z : ds.length ≤ 1000
        · exact z
        · have hq2 : (if ds.length ≤ 1000 then q false (.d (.tuple ds)) n1 else False) := hq
          rw [if_neg z] at hq2
          exact hq2.elim
      have hq2 : (if ds.length ≤ 1000 then q false (.d (.tuple ds)) n1 else False) := hq
      rw [if_pos hl] at hq2
      refine ⟨by rw [RpAll.len rd]; exact le1000 hl, fun p hp => ?_⟩
      obtain ⟨f2, w2⟩ := fresh_step h1 hp (.tup vs)
      exact k _ _ n1 _ _ hq2 (f1.trans f2) w2 (.old (Rp.tup (.inl (.inl (cut_new h1 S hp _))) (RpAll.le (cut_grow hp _) _ _ rd)))
@[simp ↓] def mLst (ma : TA3) : TE3 := fun ρ n q e => ma ρ n (fun us n1 => ask (toDs us) fun ds => if ds.length ≤ 1000 then q true (.d (.list ds)) n1 else False) e
theorem cut_own {am : Am} {ρ : Ro} {n : Nat} {σ : L2.St} {H : Hp} (h : Rl am ρ n σ H) (S : List Nat) {p : Addr} (hp : New H p) {vs : List V} {ds : List D} (r : RpAll am.K (cut (Hid am (dem S ρ) σ) H) vs ds) : RpAll am.K (cut (fun a => a = p ∨ Hid am (dem S ρ) σ a) H) vs ds :=
  RpAll.le (Le.cut (fun a z => by
    rcases z with z | z
    · exact .inr (z ▸ hp)
    · exact .inl z) fun a o _ _ e => e) _ _ r
instance {ta : TA} {S : List Nat} {ma : TA3} [ha : LA K C TL E ta S ma] : LE K C TL E (tLst ta) S (mLst ma) where
  s am ρ n σ H hE h Q q hm k := by
    refine ha.s am ρ n σ H hE h _ _ hm fun us n1 vs H1 hq f1 w1 r1 => ?_
    have h1 := h.step f1 w1
    unfold ask at hq
    cases e : toDs us with
    | none =>
      rw [e] at hq
      exact hq.elim
    | some ds =>
      rw [e] at hq
      have rd := toDs_rep r1 e
      have hl : ds.length ≤ 1000 := by
        by_cases z : ds.length ≤ 1000
        · exact z
        · have hq2 : (if ds.length ≤ 1000 then q true (.d (.list ds)) n1 else False) := hq
          rw [if_neg z] at hq2
          exact hq2.elim
      have hq2 : (if ds.length ≤ 1000 then q true (.d (.list ds)) n1 else False) := hq
      rw [if_pos hl] at hq2
      refine ⟨by rw [RpAll.len rd]; exact le1000 hl, fun p hp => ?_⟩
      obtain ⟨f2, w2⟩ := fresh_step h1 hp (.lst vs)
      have np : New H p := fun ⟨o, e1, e2⟩ => by
        by_cases hid : Hid am ρ σ p
        · exact absurd hid (h1.new (.of hp))
        · exact (New.of hp) ⟨o, f1.1 p o (fun d g c q' => by
            obtain ⟨a1, a2, _, _⟩ := h.wd.dr d g c q'
            exact ⟨fun z => hid (.inl (z ▸ a1)), fun z => hid (.inl (z ▸ a2))⟩) e2 e1, e2⟩
      exact k _ _ n1 _ _ hq2 (f1.trans f2) w2 ⟨Rp.lst (cut_new h1 S hp _) (RpAll.le (cut_grow hp _) _ _ rd), fun _ => ⟨p, vs, ds, rfl, rfl, np, upd_same, RpAll.le (cut_grow hp _) _ _ (cut_own h1 S (.of hp) rd)⟩⟩
end
end V3
set_option Elab.async false
set_option linter.all false
set_option maxRecDepth 100000
set_option maxHeartbeats 4000000
namespace V3
open PySem PySem.Spec PyProof.Rows L2
section
variable {K : PySem.W.Frag} {C : Addr} {TL : List (Addr × Str)} {E : XK}
theorem new_back {am : Am} {ρ : Ro} {n n1 : Nat} {σ : L2.St} {H H1 : Hp} (h : Rl am ρ n σ H) (f : FrR am.R H H1) (h1 : Rl am ρ n1 σ H1) {p : Addr} (np : New H1 p) : New H p := fun ⟨o, e1, e2⟩ => by
  have hid : ¬ Hid am ρ σ p := h1.new np
  exact np ⟨o, f.1 p o (fun d g c q' => by
    obtain ⟨a1, a2, _, _⟩ := h.wd.dr d g c q'
    exact ⟨fun z => hid (.inl (z ▸ a1)), fun z => hid (.inl (z ▸ a2))⟩) e2 e1, e2⟩
theorem RepV.back {am : Am} {ρ : Ro} {n n1 : Nat} {σ : L2.St} {H H1 H2 : Hp} (h : Rl am ρ n σ H) (f : FrR am.R H H1) (h1 : Rl am ρ n1 σ H1) {O : Addr → Prop} {fr : Bool} {v : V} {u : U} (r : RepV am O H1 H2 fr v u) : RepV am O H H2 fr v u :=
  ⟨r.1, fun z => by
    obtain ⟨p, vs, ds, a1, a2, a3, a4, a5⟩ := r.2 z
    exact ⟨p, vs, ds, a1, a2, new_back h f h1 a3, a4, a5⟩⟩
theorem RepV.sub {am : Am} {O O' : Addr → Prop} {H H' : Hp} {fr : Bool} {v : V} {u : U} (k : ∀ a, O' a → O a) (r : RepV am O H H' fr v u) : RepV am O' H H' fr v u :=
  ⟨r.1.le (Le.cutSub k), fun z => by
    obtain ⟨p, vs, ds, a1, a2, a3, a4, a5⟩ := r.2 z
    exact ⟨p, vs, ds, a1, a2, a3, a4, RpAll.le (Le.cutSub fun a q => q.imp id (k a)) _ _ a5⟩⟩
/-! ### operators by values -/
class LR (K : PySem.W.Frag) (r : R2) (m : outParam (U → U → (Bool → D → Prop) → Prop)) : Prop where
  s : ∀ (am : Am) (O : Addr → Prop) (H : Hp) (x y : V) (ux uy : U), am.K = K → (∀ a, O a → There H a) → RepU am O H x ux → RepU am O H y uy → ∀ (Q : VK) (q : Bool → D → Prop), m ux uy q →
    (∀ fr z v H', q fr z → Same H H' → RepV am O H H' fr v (.d z) → Q v H') → r x y H Q
class LU (K : PySem.W.Frag) (r : V → Hp → VK → Prop) (m : outParam (U → (Bool → D → Prop) → Prop)) : Prop where
  s : ∀ (am : Am) (O : Addr → Prop) (H : Hp) (x : V) (ux : U), am.K = K → (∀ a, O a → There H a) → RepU am O H x ux → ∀ (Q : VK) (q : Bool → D → Prop), m ux q →
    (∀ fr z v H', q fr z → Same H H' → RepV am O H H' fr v (.d z) → Q v H') → r x H Q
/-- a built-in called -/
class LC (K : PySem.W.Frag) (r : List V → Hp → VK → Prop) (m : outParam (List U → (Bool → D → Prop) → Prop)) : Prop where
  s : ∀ (am : Am) (O : Addr → Prop) (H : Hp) (xs : List V) (us : List U), am.K = K → (∀ a, O a → There H a) → RepA am O H xs us → ∀ (Q : VK) (q : Bool → D → Prop), m us q →
    (∀ fr z v H', q fr z → Same H H' → RepV am O H H' fr v (.d z) → Q v H') → r xs H Q
@[simp ↓] def mOp (mr : U → U → (Bool → D → Prop) → Prop) (ma mb : TE3) : TE3 := fun ρ n q e => ma ρ n (fun _ x n1 => mb ρ n1 (fun _ y n2 => mr x y fun fr z => q fr (.d z) n2) e) e
theorem hid_there {am : Am} {ρ : Ro} {n : Nat} {σ : L2.St} {H : Hp} (h : Rl am ρ n σ H) (S : List Nat) : ∀ a, Hid am (dem S ρ) σ a → There H a := fun a z => (h.dem S).hidThere z
theorem wd_same {R : RR} {TL : List (Addr × Str)} {H H' : Hp} {n : Nat} (h : Wd R TL H n) (e : Same H H') : Wd R TL H' n := h.same e
instance {r : R2} {ta tb : TE} {S1 S2 : List Nat} {ma mb : TE3} {mr : U → U → (Bool → D → Prop) → Prop} [ha : LE K C TL E ta S1 ma] [hb : LE K C TL E tb S2 mb] [hr : LR K r mr] : LE K C TL E (tOp r ta tb) (S1 ++ S2) (mOp mr ma mb) where
  s am ρ n σ H hE h Q q hm k := by
    refine ha.s am ρ n σ H hE h _ _ hm fun fr x n1 v H1 hq f1 w1 r1 => ?_
    have h1 := h.step f1 w1
    refine hb.s am ρ n1 σ H1 hE h1 _ _ hq fun fr2 y n2 v2 H2 hq2 f2 w2 r2 => ?_
    have h2 := h1.step f2 w2
    refine hr.s am (Hid am (dem (S1 ++ S2) ρ) σ) H2 v v2 x y hE.1 (hid_there h2 _) (r1.1.le (rl_cutS h1 f2 fun i hi => List.mem_append_left _ hi)) (r2.1.le (rl_cutS h2 (FrR.refl _ _) fun i hi => List.mem_append_right _ hi)) _ _ hq2 fun fr3 z v3 H3 hq3 sm r3 => ?_
    exact k _ _ n2 _ _ hq3 ((f1.trans f2).trans (.of sm)) (w2.same sm) (r3.back h (f1.trans f2) h2)
@[simp ↓] def mUn (mr : U → (Bool → D → Prop) → Prop) (ma : TE3) : TE3 := fun ρ n q e => ma ρ n (fun _ x n1 => mr x fun fr z => q fr (.d z) n1) e
instance {r : V → Hp → VK → Prop} {ta : TE} {S1 : List Nat} {ma : TE3} {mr : U → (Bool → D → Prop) → Prop} [ha : LE K C TL E ta S1 ma] [hr : LU K r mr] : LE K C TL E (tUn r ta) S1 (mUn mr ma) where
  s am ρ n σ H hE h Q q hm k := by
    refine ha.s am ρ n σ H hE h _ _ hm fun fr x n1 v H1 hq f1 w1 r1 => ?_
    have h1 := h.step f1 w1
    refine hr.s am (Hid am (dem S1 ρ) σ) H1 v x hE.1 (hid_there h1 _) r1.1 _ _ hq fun fr3 z v3 H3 hq3 sm r3 => ?_
    exact k _ _ n1 _ _ hq3 (f1.trans (.of sm)) (w1.same sm) (r3.back h f1 h1)
@[simp ↓] def mCB (mr : List U → (Bool → D → Prop) → Prop) (ma : TA3) : TE3 := fun ρ n q e => ma ρ n (fun us n1 => mr us fun fr z => q fr (.d z) n1) e
instance {r : List V → Hp → VK → Prop} {ta : TA} {S1 : List Nat} {ma : TA3} {mr : List U → (Bool → D → Prop) → Prop} [ha : LA K C TL E ta S1 ma] [hr : LC K r mr] : LE K C TL E (tCB r ta) S1 (mCB mr ma) where
  s am ρ n σ H hE h Q q hm k := by
    refine ha.s am ρ n σ H hE h _ _ hm fun us n1 vs H1 hq f1 w1 r1 => ?_
    have h1 := h.step f1 w1
    refine hr.s am (Hid am (dem S1 ρ) σ) H1 vs us hE.1 (hid_there h1 _) r1 _ _ hq fun fr3 z v3 H3 hq3 sm r3 => ?_
    exact k _ _ n1 _ _ hq3 (f1.trans (.of sm)) (w1.same sm) (r3.back h f1 h1)
def askI : U → (Int → Prop) → Prop
  | .d (.int i), k => k i
  | _, _ => False
def askB : U → (Bool → Prop) → Prop
  | .d (.bool i), k => k i
  | _, _ => False
def askL : U → (List D → Prop) → Prop
  | .d (.list i), k => k i
  | _, _ => False
def askT : U → (List D → Prop) → Prop
  | .d (.tuple i), k => k i
  | _, _ => False
@[simp] theorem askI_s (i : Int) (k : Int → Prop) : askI (.d (.int i)) k = k i := rfl
@[simp] theorem askB_s (i : Bool) (k : Bool → Prop) : askB (.d (.bool i)) k = k i := rfl
@[simp] theorem askL_s (i : List D) (k : List D → Prop) : askL (.d (.list i)) k = k i := rfl
@[simp] theorem askT_s (i : List D) (k : List D → Prop) : askT (.d (.tuple i)) k = k i := rfl
def isIU : U → Bool
  | .d (.int _) => true
  | _ => false
def intU : U → Int
  | .d (.int i) => i
  | _ => 0
def isBU : U → Bool
  | .d (.bool _) => true
  | _ => false
def boolU : U → Bool
  | .d (.bool i) => i
  | _ => false
def isLU : U → Bool
  | .d (.list _) => true
  | _ => false
def lstU : U → List D
  | .d (.list i) => i
  | _ => []
def isTU : U → Bool
  | .d (.tuple _) => true
  | _ => false
def tupU : U → List D
  | .d (.tuple i) => i
  | _ => []
@[simp] theorem isIU_s (i : Int) : isIU (.d (.int i)) = true := rfl
@[simp] theorem intU_s (i : Int) : intU (.d (.int i)) = i := rfl
@[simp ↓] theorem askI_if (u : U) (k : Int → Prop) : askI u k = ∃ i, u = .d (.int i) ∧ k i := by
  cases u with
  | d x => cases x <;> simp [askI]
  | _ => simp [askI]
@[simp] theorem isBU_s (i : Bool) : isBU (.d (.bool i)) = true := rfl
@[simp] theorem boolU_s (i : Bool) : boolU (.d (.bool i)) = i := rfl
@[simp ↓] theorem askB_if (u : U) (k : Bool → Prop) : askB u k = if isBU u = true then k (boolU u) else False := by
  cases u with
  | d x => cases x <;> simp [askB, isBU, boolU]
  | _ => simp [askB, isBU]
@[simp] theorem isLU_s (i : List D) : isLU (.d (.list i)) = true := rfl
@[simp] theorem lstU_s (i : List D) : lstU (.d (.list i)) = i := rfl
@[simp ↓] theorem askL_if (u : U) (k : List D → Prop) : askL u k = ∃ i, u = .d (.list i) ∧ k i := by
  cases u with
  | d x => cases x <;> simp [askL]
  | _ => simp [askL]
@[simp] theorem isTU_s (i : List D) : isTU (.d (.tuple i)) = true := rfl
@[simp] theorem tupU_s (i : List D) : tupU (.d (.tuple i)) = i := rfl
@[simp ↓] theorem askT_if (u : U) (k : List D → Prop) : askT u k = ∃ i, u = .d (.tuple i) ∧ k i := by
  cases u with
  | d x => cases x <;> simp [askT]
  | _ => simp [askT]
@[simp] theorem isIU_bool (i : Bool) : isIU (.d (.bool i)) = false := rfl
@[simp] theorem isIU_list (i : List D) : isIU (.d (.list i)) = false := rfl
@[simp] theorem isIU_tuple (i : List D) : isIU (.d (.tuple i)) = false := rfl
@[simp] theorem isIU_str (i : Str) : isIU (.d (.str i)) = false := rfl
@[simp] theorem isIU_none : isIU (.d .none) = false := rfl
@[simp] theorem isBU_int (i : Int) : isBU (.d (.int i)) = false := rfl
@[simp] theorem isBU_list (i : List D) : isBU (.d (.list i)) = false := rfl
@[simp] theorem isBU_tuple (i : List D) : isBU (.d (.tuple i)) = false := rfl
@[simp] theorem isBU_str (i : Str) : isBU (.d (.str i)) = false := rfl
@[simp] theorem isBU_none : isBU (.d .none) = false := rfl
@[simp] theorem isLU_int (i : Int) : isLU (.d (.int i)) = false := rfl
@[simp] theorem isLU_bool (i : Bool) : isLU (.d (.bool i)) = false := rfl
@[simp] theorem isLU_tuple (i : List D) : isLU (.d (.tuple i)) = false := rfl
@[simp] theorem isLU_str (i : Str) : isLU (.d (.str i)) = false := rfl
@[simp] theorem isLU_none : isLU (.d .none) = false := rfl
@[simp] theorem isTU_int (i : Int) : isTU (.d (.int i)) = false := rfl
@[simp] theorem isTU_bool (i : Bool) : isTU (.d (.bool i)) = false := rfl
@[simp] theorem isTU_list (i : List D) : isTU (.d (.list i)) = false := rfl
@[simp] theorem isTU_str (i : Str) : isTU (.d (.str i)) = false := rfl
@[simp] theorem isTU_none : isTU (.d .none) = false := rfl
theorem askI_rep {am : Am} {O : Addr → Prop} {H : Hp} {v : V} {u : U} {k : Int → Prop} (h : askI u k) (r : RepU am O H v u) : ∃ i, u = .d (.int i) ∧ v = .int i ∧ k i := by
  cases u with
  | d x =>
    cases x with
    | int i =>
      cases r
      exact ⟨i, rfl, rfl, h⟩
    | _ => exact h.elim
  | _ => exact h.elim
theorem askB_rep {am : Am} {O : Addr → Prop} {H : Hp} {v : V} {u : U} {k : Bool → Prop} (h : askB u k) (r : RepU am O H v u) : ∃ i, u = .d (.bool i) ∧ v = .bl i ∧ k i := by
  cases u with
  | d x =>
    cases x with
    | bool i =>
      cases r
      exact ⟨i, rfl, rfl, h⟩
    | _ => exact h.elim
  | _ => exact h.elim
theorem askL_rep {am : Am} {O : Addr → Prop} {H : Hp} {v : V} {u : U} {k : List D → Prop} (h : askL u k) (r : RepU am O H v u) : ∃ ds a vs, u = .d (.list ds) ∧ v = .ref a ∧ cut O H a = some (.lst vs) ∧ RpAll am.K (cut O H) vs ds ∧ k ds := by
  cases u with
  | d x =>
    cases x with
    | list i =>
      cases r with
      | lst h1 h2 => exact ⟨i, _, _, rfl, rfl, h1, h2, h⟩
    | _ => exact h.elim
  | _ => exact h.elim
theorem askT_rep {am : Am} {O : Addr → Prop} {H : Hp} {v : V} {u : U} {k : List D → Prop} (h : askT u k) (r : RepU am O H v u) : ∃ ds a vs, u = .d (.tuple ds) ∧ v = .ref a ∧ SqT am.K (cut O H) a vs ∧ RpAll am.K (cut O H) vs ds ∧ k ds := by
  cases u with
  | d x =>
    cases x with
    | tuple i =>
      cases r with
      | tup h1 h2 => exact ⟨i, _, _, rfl, rfl, h1, h2, h⟩
    | _ => exact h.elim
  | _ => exact h.elim
@[simp ↓] def mII (f : Int → Int → Int) : U → U → (Bool → D → Prop) → Prop := fun x y q => askI x fun i => askI y fun j => q false (.int (f i j))
@[simp ↓] def mIB (f : Int → Int → Bool) : U → U → (Bool → D → Prop) → Prop := fun x y q => askI x fun i => askI y fun j => q false (.bool (f i j))
@[simp ↓] def mIIc (C : Int → Int → Prop) (f : Int → Int → Int) : U → U → (Bool → D → Prop) → Prop := fun x y q => askI x fun i => askI y fun j => C i j ∧ q false (.int (f i j))
instance (f : Int → Int → Int) : LR K (rI0 fun i j => V.int (f i j)) (mII f) where
  s am O H x y ux uy hK hO rx ry Q q hm k := by
    obtain ⟨i, rfl, rfl, hm⟩ := askI_rep hm rx
    obtain ⟨j, rfl, rfl, hm⟩ := askI_rep hm ry
    exact ⟨i, j, rfl, rfl, k _ _ _ H hm (Same.refl _) (.old (Rp.int _))⟩
instance (f : Int → Int → Bool) : LR K (rI0 fun i j => V.bl (f i j)) (mIB f) where
  s am O H x y ux uy hK hO rx ry Q q hm k := by
    obtain ⟨i, rfl, rfl, hm⟩ := askI_rep hm rx
    obtain ⟨j, rfl, rfl, hm⟩ := askI_rep hm ry
    exact ⟨i, j, rfl, rfl, k _ _ _ H hm (Same.refl _) (.old (Rp.bl _))⟩
instance (C : Int → Int → Prop) (f : Int → Int → Int) : LR K (rI C fun i j => V.int (f i j)) (mIIc C f) where
  s am O H x y ux uy hK hO rx ry Q q hm k := by
    obtain ⟨i, rfl, rfl, hm⟩ := askI_rep hm rx
    obtain ⟨j, rfl, rfl, c, hm⟩ := askI_rep hm ry
    exact ⟨i, j, rfl, rfl, c, k _ _ _ H hm (Same.refl _) (.old (Rp.int _))⟩
@[simp ↓] def mNeg (f : Int → Int) : U → (Bool → D → Prop) → Prop := fun x q => askI x fun i => q false (.int (f i))
instance (f : Int → Int) : LU K (rU fun i => V.int (f i)) (mNeg f) where
  s am O H x ux hK hO rx Q q hm k := by
    obtain ⟨i, rfl, rfl, hm⟩ := askI_rep hm rx
    exact ⟨i, rfl, k _ _ _ H hm (Same.refl _) (.old (Rp.int _))⟩
/-! + of anything -/
def rAddU (K : PySem.W.Frag) : R2 := fun x y H Q => rI0 (fun i j => V.int (i + j)) x y H Q ∨ rCat x y H Q ∨ rCatA K x y H Q
theorem op_or {X : Cx} {f : Value → Value → Sem Value} {r r' : R2} (h : OpR X f r) (h' : OpR X f r') : OpR X f (fun x y H Q => r x y H Q ∨ r' x y H Q) := fun pins s σ H x y v u Q I rx ry q => by
  rcases q with q | q
  · exact h pins s σ H x y v u Q I rx ry q
  · exact h' pins s σ H x y v u Q I rx ry q
theorem op_addU {X : Cx} : OpR X (binaryOp .Add) (rAddU X.K) := op_or op_add (op_or op_cat op_catA)
def addU : U → U → (Bool → D → Prop) → Prop
  | .d (.int i), .d (.int j), q => q false (.int (i + j))
  | .d (.list xs), .d (.list ys), q => xs.length + ys.length ≤ sizeLine ∧ q true (.list (xs ++ ys))
  | .d (.tuple xs), .d (.tuple ys), q => xs.length + ys.length ≤ sizeLine ∧ q false (.tuple (xs ++ ys))
  | _, _, _ => False
@[simp] theorem addU_i (i j : Int) (q : Bool → D → Prop) : addU (.d (.int i)) (.d (.int j)) q = q false (.int (i + j)) := rfl
@[simp] theorem addU_l (xs ys : List D) (q : Bool → D → Prop) : addU (.d (.list xs)) (.d (.list ys)) q = (xs.length + ys.length ≤ sizeLine ∧ q true (.list (xs ++ ys))) := rfl
@[simp] theorem addU_t (xs ys : List D) (q : Bool → D → Prop) : addU (.d (.tuple xs)) (.d (.tuple ys)) q = (xs.length + ys.length ≤ sizeLine ∧ q false (.tuple (xs ++ ys))) := rfl
@[simp ↓] theorem addU_if (x y : U) (q : Bool → D → Prop) : addU x y q = if (isIU x && isIU y) = true then q false (.int (intU x + intU y)) else if (isLU x && isLU y) = true then (lstU x).length + (lstU y).length ≤ sizeLine ∧ q true (.list (lstU x ++ lstU y)) else
    if (isTU x && isTU y) = true then (tupU x).length + (tupU y).length ≤ sizeLine ∧ q false (.tuple (tupU x ++ tupU y)) else False := by
  cases x with
  | d x =>
    cases y with
    | d y => cases x <;> cases y <;> simp [addU, isIU, isLU, isTU, intU, lstU, tupU]
    | _ => cases x <;> simp [addU, isIU, isLU, isTU]
  | _ => simp [addU, isIU, isLU, isTU]
theorem new_list {am : Am} {O : Addr → Prop} {H : Hp} (hO : ∀ a, O a → There H a) {p : Addr} (hp : H p = none) {vs : List V} {ds : List D} (r : RpAll am.K (cut O H) vs ds) : RepV am O H (upd H p (.lst vs)) true (.ref p) (.d (.list ds)) := by
  have np : ¬ O p := fun z => (New.of hp) (hO p z)
  have r1 := RpAll.le (cut_grow hp (.lst vs)) _ _ r
  refine ⟨Rp.lst (cut_some.mpr ⟨np, upd_same⟩) r1, fun _ => ⟨p, vs, ds, rfl, rfl, .of hp, upd_same, RpAll.le (Le.cut (fun a z => ?_) fun a o _ _ e => same_new hp a o e) _ _ r⟩⟩
  rcases z with z | z
  · exact .inr (z ▸ .of hp)
  · exact .inl z
theorem new_tup {am : Am} {O : Addr → Prop} {H : Hp} (hO : ∀ a, O a → There H a) {p : Addr} (hp : H p = none) {vs : List V} {ds : List D} (r : RpAll am.K (cut O H) vs ds) : RepV am O H (upd H p (.tup vs)) false (.ref p) (.d (.tuple ds)) :=
  .old (Rp.tup (.inl (.inl (cut_some.mpr ⟨fun z => (New.of hp) (hO p z), upd_same⟩))) (RpAll.le (cut_grow hp (.tup vs)) _ _ r))
instance : LR K (rAddU K) addU where
  s am O H x y ux uy hK hO rx ry Q q hm k := by
    subst hK
    match ux, uy, hm with
    | .d (.int i), .d (.int j), hm =>
      cases rx
      cases ry
      exact .inl ⟨i, j, rfl, rfl, k _ _ _ H hm (Same.refl _) (.old (Rp.int _))⟩
    | .d (.list xs), .d (.list ys), hm =>
      cases rx with
      | lst a1 a2 =>
        cases ry with
        | lst b1 b2 =>
          refine .inr (.inl ⟨_, _, _, _, rfl, rfl, (cut_some.mp a1).2, (cut_some.mp b1).2, by rw [RpAll.len a2, RpAll.len b2]; exact hm.1, fun p hp => ?_⟩)
          exact k _ _ _ _ hm.2 (same_new hp) (new_list hO hp (RpAll.app a2 b2))
    | .d (.tuple xs), .d (.tuple ys), hm =>
      cases rx with
      | tup a1 a2 =>
        cases ry with
        | tup b1 b2 =>
          refine .inr (.inr ⟨_, _, _, _, rfl, rfl, SqT.le Le.cutAll a1, SqT.le Le.cutAll b1, by rw [RpAll.len a2, RpAll.len b2]; exact hm.1, fun e => ?_, fun e1 e2 => ?_, fun e1 e2 p hp => ?_⟩)
          · subst e
            have z : xs = [] := by
              have := RpAll.len a2
              exact List.length_eq_zero_iff.mp this.symm
            subst z
            exact k _ _ _ H hm.2 (Same.refl _) (.old (Rp.tup b1 b2))
          · subst e2
            have z : ys = [] := by
              have := RpAll.len b2
              exact List.length_eq_zero_iff.mp this.symm
            subst z
            exact k _ _ _ H hm.2 (Same.refl _) (.old (by rw [List.append_nil]; exact Rp.tup a1 a2))
          · exact k _ _ _ _ hm.2 (same_new hp) (new_tup hO hp (RpAll.app a2 b2))
/-! == and != of anything -/
theorem rep_dp {am : Am} {O : Addr → Prop} {H : Hp} {v : V} {x : D} (r : RepU am O H v (.d x)) (sh : SeqAt.shaped x = true) : L2.Dp am.K H v x := Rp.dp _ _ (Bool.and_eq_true_iff.mp sh).1 (Rp.le Le.cutAll _ _ r)
def eqU (f : Bool → Bool) : U → U → (Bool → D → Prop) → Prop
  | .d (.int i), .d (.int j), q => q false (.bool (f (decide (i = j))))
  | .d (.bool i), .d (.bool j), q => q false (.bool (f (decide (i = j))))
  | .d x, .d y, q => SeqAt.shaped x = true ∧ SeqAt.shaped y = true ∧ q false (.bool (f (PyData.eqv x y)))
  | _, _, _ => False
@[simp] theorem eqU_ii (f : Bool → Bool) (i j : Int) (q : Bool → D → Prop) : eqU f (.d (.int i)) (.d (.int j)) q = q false (.bool (f (decide (i = j)))) := rfl
@[simp] theorem eqU_bb (f : Bool → Bool) (i j : Bool) (q : Bool → D → Prop) : eqU f (.d (.bool i)) (.d (.bool j)) q = q false (.bool (f (decide (i = j)))) := rfl
@[simp] theorem eqU_ll (f : Bool → Bool) (i j : List D) (q : Bool → D → Prop) : eqU f (.d (.list i)) (.d (.list j)) q = (SeqAt.shaped (.list i) = true ∧ SeqAt.shaped (.list j) = true ∧ q false (.bool (f (PyData.eqv (.list i) (.list j))))) := rfl
@[simp] theorem eqU_tt (f : Bool → Bool) (i j : List D) (q : Bool → D → Prop) : eqU f (.d (.tuple i)) (.d (.tuple j)) q = (SeqAt.shaped (.tuple i) = true ∧ SeqAt.shaped (.tuple j) = true ∧ q false (.bool (f (PyData.eqv (.tuple i) (.tuple j))))) := rfl
theorem eqv_int (i j : Int) : PyData.eqv (.int i) (.int j) = decide (i = j) := by
  simp only [PyData.eqv]
  by_cases h : i = j
  · rw [decide_eq_true h, h]
    exact beq_self_eq_true j
  · rw [decide_eq_false h]
    exact beq_eq_false_iff_ne.mpr h
theorem shaped_int (i : Int) : SeqAt.shaped (.int i) = true := by
  show (PyData.canLay0 (.int i) && decide (PyData.depth (.int i) ≤ 64)) = true
  simp [PyData.canLay0, PyData.depth]
theorem shaped_bool (i : Bool) : SeqAt.shaped (.bool i) = true := by
  show (PyData.canLay0 (.bool i) && decide (PyData.depth (.bool i) ≤ 64)) = true
  simp [PyData.canLay0, PyData.depth]
theorem eqv_bool (i j : Bool) : PyData.eqv (.bool i) (.bool j) = decide (i = j) := by
  simp only [PyData.eqv]
  cases i <;> cases j <;> rfl
theorem eqU_of {f : Bool → Bool} {x y : U} {q : Bool → D → Prop} (h : eqU f x y q) : ∃ a b, x = .d a ∧ y = .d b ∧ SeqAt.shaped a = true ∧ SeqAt.shaped b = true ∧ q false (.bool (f (PyData.eqv a b))) := by
  unfold eqU at h
  split at h
  · exact ⟨_, _, rfl, rfl, shaped_int _, shaped_int _, by rw [eqv_int]; exact h⟩
  · exact ⟨_, _, rfl, rfl, shaped_bool _, shaped_bool _, by rw [eqv_bool]; exact h⟩
  · exact ⟨_, _, rfl, rfl, h.1, h.2.1, h.2.2⟩
  · exact h.elim
instance : LR K (rEqD K) (eqU id) where
  s am O H x y ux uy hK hO rx ry Q q hm k := by
    subst hK
    obtain ⟨a, b, rfl, rfl, h1, h2, h3⟩ := eqU_of hm
    exact ⟨a, b, rep_dp rx h1, rep_dp ry h2, h1, h2, k _ _ _ H h3 (Same.refl _) (.old (Rp.bl _))⟩
instance : LR K (rNeD K) (eqU not) where
  s am O H x y ux uy hK hO rx ry Q q hm k := by
    subst hK
    obtain ⟨a, b, rfl, rfl, h1, h2, h3⟩ := eqU_of hm
    exact ⟨a, b, rep_dp rx h1, rep_dp ry h2, h1, h2, k _ _ _ H h3 (Same.refl _) (.old (Rp.bl _))⟩
/-! is None, is True -/
def rIsN : R2 := fun x y H Q => y = .non ∧ Q (.bl (decide (x = .non))) H
def rNotN : R2 := fun x y H Q => y = .non ∧ Q (.bl (!decide (x = .non))) H
theorem op_isN3 {X : Cx} : OpR X (compareOp .Is) rIsN := op_isN
theorem op_notN3 {X : Cx} : OpR X (compareOp .IsNot) rNotN := op_notN
@[simp] def isNone : U → Bool
  | .d .none => true
  | _ => false
theorem isNone_rep {am : Am} {O : Addr → Prop} {H : Hp} {v : V} {u : U} (r : RepU am O H v u) : decide (v = .non) = isNone u := by
  cases u with
  | d x => cases r <;> simp
  | dw bs =>
    obtain ⟨_, a, dx, t, rfl, _⟩ := r
    simp
  | tb f ns =>
    obtain ⟨a, kvs, rfl, _⟩ := r
    simp
  | dr =>
    obtain ⟨d, g, c, _, rfl⟩ := r
    simp
  | ob fs =>
    obtain ⟨_, a, dx, vs, rfl, _⟩ := r
    simp
@[simp ↓] def mIsN (f : Bool → Bool) : U → U → (Bool → D → Prop) → Prop := fun x y q => if isNone y then q false (.bool (f (isNone x))) else False
theorem none_rep {am : Am} {O : Addr → Prop} {H : Hp} {v : V} {u : U} (r : RepU am O H v u) (e : isNone u = true) : v = .non := by
  rw [← isNone_rep r] at e
  exact of_decide_eq_true e
instance : LR K rIsN (mIsN id) where
  s am O H x y ux uy hK hO rx ry Q q hm k := by
    by_cases e : isNone uy = true
    · have hm2 : (if isNone uy = true then q false (.bool (id (isNone ux))) else False) := hm
      rw [if_pos e] at hm2
      exact ⟨none_rep ry e, k _ _ _ H hm2 (Same.refl _) (.old (by rw [isNone_rep rx]; exact Rp.bl _))⟩
    · have hm2 : (if isNone uy = true then q false (.bool (id (isNone ux))) else False) := hm
      rw [if_neg e] at hm2
      exact hm2.elim
instance : LR K rNotN (mIsN not) where
  s am O H x y ux uy hK hO rx ry Q q hm k := by
    by_cases e : isNone uy = true
    · have hm2 : (if isNone uy = true then q false (.bool (not (isNone ux))) else False) := hm
      rw [if_pos e] at hm2
      exact ⟨none_rep ry e, k _ _ _ H hm2 (Same.refl _) (.old (by rw [isNone_rep rx]; exact Rp.bl _))⟩
    · have hm2 : (if isNone uy = true then q false (.bool (not (isNone ux))) else False) := hm
      rw [if_neg e] at hm2
      exact hm2.elim
@[simp ↓] def mIsB (f : Bool → Bool) : U → U → (Bool → D → Prop) → Prop := fun x y q => askB x fun i => askB y fun j => q false (.bool (f (decide (i = j))))
instance : LR K rIsB (mIsB id) where
  s am O H x y ux uy hK hO rx ry Q q hm k := by
    obtain ⟨i, rfl, rfl, hm⟩ := askB_rep hm rx
    obtain ⟨j, rfl, rfl, hm⟩ := askB_rep hm ry
    exact ⟨i, j, rfl, rfl, k _ _ _ H hm (Same.refl _) (.old (Rp.bl _))⟩
instance : LR K rNotB (mIsB not) where
  s am O H x y ux uy hK hO rx ry Q q hm k := by
    obtain ⟨i, rfl, rfl, hm⟩ := askB_rep hm rx
    obtain ⟨j, rfl, rfl, hm⟩ := askB_rep hm ry
    exact ⟨i, j, rfl, rfl, k _ _ _ H hm (Same.refl _) (.old (Rp.bl _))⟩
/-! x[i] -/
@[simp] theorem atI_0 {α : Type} (xs : List α) : atI xs 0 = xs[0]? := by
  cases xs with
  | nil => rfl
  | cons x xs => exact atI_nat (j := 0) rfl
@[simp] theorem atI_c {α : Type} (xs : List α) (i : Nat) : atI xs (i : Int) = xs[i]? := by
  cases e : xs[i]? with
  | some x => exact atI_nat e
  | none =>
    unfold atI ixN
    have h := List.getElem?_eq_none_iff.mp e
    rw [if_pos (by omega), if_neg (by omega)]
    rfl
@[simp] theorem atI_1 {α : Type} (xs : List α) : atI xs 1 = xs[1]? := atI_c xs 1
@[simp] theorem atI_2 {α : Type} (xs : List α) : atI xs 2 = xs[2]? := atI_c xs 2
@[simp] theorem atI_3 {α : Type} (xs : List α) : atI xs 3 = xs[3]? := atI_c xs 3
@[simp] theorem atI_m1 {α : Type} (xs : List α) : atI xs (-1) = xs.getLast? := by
  cases xs with
  | nil => rfl
  | cons x xs =>
    unfold atI ixN
    rw [if_neg (by omega), if_pos (by simp; omega)]
    rw [List.getLast?_eq_getElem?]
    show (x :: xs)[_]? = _
    congr 1
    simp
    omega
def mIx : U → U → (Bool → D → Prop) → Prop
  | .d (.list xs), .d (.int i), q => ask (atI xs i) fun z => q false z
  | .d (.tuple xs), .d (.int i), q => ask (atI xs i) fun z => q false z
  | _, _, _ => False
@[simp] theorem mIx_l (xs : List D) (i : Int) (q : Bool → D → Prop) : mIx (.d (.list xs)) (.d (.int i)) q = ask (atI xs i) fun z => q false z := rfl
@[simp] theorem mIx_t (xs : List D) (i : Int) (q : Bool → D → Prop) : mIx (.d (.tuple xs)) (.d (.int i)) q = ask (atI xs i) fun z => q false z := rfl
theorem at_rep {K : PySem.W.Frag} {H : Hp} {vs : List V} {ds : List D} {i : Int} {z : D} (r : RpAll K H vs ds) (e : atI ds i = some z) : ∃ v, atI vs i = some v ∧ Rp K H v z := by
  unfold atI at e ⊢
  rw [RpAll.len r]
  cases q : ixN ds.length i with
  | none =>
    rw [q] at e
    cases e
  | some j =>
    rw [q] at e
    obtain ⟨v, h1, h2⟩ := RpAll.get (i := j) r e
    exact ⟨v, h1, h2⟩
instance : LR K (rIx K) mIx where
  s am O H x y ux uy hK hO rx ry Q q hm k := by
    subst hK
    match ux, uy, hm with
    | .d (.list xs), .d (.int i), hm =>
      cases ry
      cases rx with
      | lst a1 a2 =>
        have hm2 : ask (atI xs i) (fun z => q false z) := hm
        obtain ⟨z, e, hm2⟩ := ask_some hm2
        obtain ⟨v, h1, h2⟩ := at_rep a2 e
        exact .inl ⟨_, _, i, v, rfl, rfl, SqL.of (cut_some.mp a1).2, h1, k _ z _ H hm2 (Same.refl _) (.old h2)⟩
    | .d (.tuple xs), .d (.int i), hm =>
      cases ry
      cases rx with
      | tup a1 a2 =>
        have hm2 : ask (atI xs i) (fun z => q false z) := hm
        obtain ⟨z, e, hm2⟩ := ask_some hm2
        obtain ⟨v, h1, h2⟩ := at_rep a2 e
        exact .inr (.inl ⟨_, _, i, v, rfl, rfl, SqT.le Le.cutAll a1, h1, k _ z _ H hm2 (Same.refl _) (.old h2)⟩)
/-! a table read -/
@[simp ↓] def mDg (ma mb : TE3) : TE3 := fun ρ n q e => ma ρ n (fun _ x n1 => mb ρ n1 (fun _ y n2 => match x with
  | .tb f ns => askI y fun i => i ∈ ns ∧ q false (.d (.int (f i))) n2
  | _ => False) e) e
instance {ta tb : TE} {S1 S2 : List Nat} {ma mb : TE3} [ha : LE K C TL E ta S1 ma] [hb : LE K C TL E tb S2 mb] : LE K C TL E (tDGet ta tb) [] (mDg ma mb) where
  s am ρ n σ H hE h Q q hm k := by
    refine ha.s am ρ n σ H hE h _ _ hm fun fr x n1 v H1 hq f1 w1 r1 => ?_
    have h1 := h.step f1 w1
    refine hb.s am ρ n1 σ H1 hE h1 _ _ hq fun fr2 y n2 v2 H2 hq2 f2 w2 r2 => ?_
    have h2 := h1.step f2 w2
    match x, hq2, r1.1 with
    | .tb f ns, hq2, r1 =>
      obtain ⟨i, rfl, rfl, hi, hq2⟩ := askI_rep hq2 r2.1
      have r3 := RepU.le (rl_cutS h1 f2 (S := S1) (S' := S1) fun i hi => hi) (u := .tb f ns) r1
      obtain ⟨a, kvs, rfl, e, hv⟩ := r3
      refine ⟨a, .int (f i), rfl, ?_, k _ _ n2 _ H2 hq2 (f1.trans f2) w2 (.old (Rp.int _))⟩
      have q := DGet.k (k := .inl i) (cut_some.mp e).2
      rw [hv i hi] at q
      exact q
/-! in, not in -/
def rInU (K : PySem.W.Frag) : R2 := fun x y H Q => rInD K x y H Q ∨ rIn K false x y H Q
def rNotInU (K : PySem.W.Frag) : R2 := fun x y H Q => rNotInD K x y H Q ∨ rIn K true x y H Q
theorem op_inU {X : Cx} (hu : X.A.units + 65 < cLine) : OpR X (compareOp .In) (rInU X.K) := op_or (op_inD hu) op_in_seq
theorem op_notInU {X : Cx} (hu : X.A.units + 65 < cLine) : OpR X (compareOp .NotIn) (rNotInU X.K) := op_or (op_notInD hu) op_notIn_seq
def scalD : D → Bool
  | .none => true
  | .bool _ => true
  | .int _ => true
  | .str _ => true
  | _ => false
theorem scal_rep {K : PySem.W.Frag} {H : Hp} {v : V} {x : D} (r : Rp K H v x) (e : scalD x = true) : flatV v = true := by
  cases r <;> first | rfl | cases e
theorem scal_eq {K : PySem.W.Frag} {H : Hp} {v w : V} {x y : D} (r : Rp K H v x) (s : Rp K H w y) (e : scalD x = true) (f : scalD y = true) : eqV w v = PyData.eqv y x := by
  cases r <;> cases s <;> first | cases e; done | cases f; done | (simp [eqV, PyData.eqv]; done)
theorem scal_all {K : PySem.W.Frag} {H : Hp} : ∀ {vs : List V} {ds : List D}, RpAll K H vs ds → ds.all scalD = true → vs.all flatV = true
  | _, [], h, _ => by
    cases h
    rfl
  | _, d :: ds, h, e => by
    cases h with
    | cons h1 h2 =>
      rw [List.all_cons, Bool.and_eq_true] at e ⊢
      exact ⟨scal_rep h1 e.1, scal_all h2 e.2⟩
theorem scal_any {K : PySem.W.Frag} {H : Hp} {v : V} {x : D} (r : Rp K H v x) (ex : scalD x = true) : ∀ {vs : List V} {ds : List D}, RpAll K H vs ds → ds.all scalD = true → inV v vs = ds.any fun z => PyData.eqv z x
  | _, [], h, _ => by
    cases h
    rfl
  | _, d :: ds, h, e => by
    cases h with
    | cons h1 h2 =>
      rw [List.all_cons, Bool.and_eq_true] at e
      show (eqV _ v || inV v _) = _
      rw [scal_any r ex h2 e.2, scal_eq r h1 ex e.1]
      rfl
def mIn (f : Bool → Bool) : U → U → (Bool → D → Prop) → Prop
  | .d x, .d (.list ys), q => SeqAt.shaped x = true ∧ SeqAt.shaped (.list ys) = true ∧ q false (.bool (f (ys.any fun z => PyData.eqv z x)))
  | .d x, .d (.tuple ys), q => scalD x = true ∧ ys.all scalD = true ∧ q false (.bool (f (ys.any fun z => PyData.eqv z x)))
  | _, _, _ => False
@[simp] theorem mIn_l (f : Bool → Bool) (x : D) (ys : List D) (q : Bool → D → Prop) : mIn f (.d x) (.d (.list ys)) q = (SeqAt.shaped x = true ∧ SeqAt.shaped (.list ys) = true ∧ q false (.bool (f (ys.any fun z => PyData.eqv z x)))) := rfl
@[simp] theorem mIn_t (f : Bool → Bool) (x : D) (ys : List D) (q : Bool → D → Prop) : mIn f (.d x) (.d (.tuple ys)) q = (scalD x = true ∧ ys.all scalD = true ∧ q false (.bool (f (ys.any fun z => PyData.eqv z x)))) := rfl
instance : LR K (rInU K) (mIn id) where
  s am O H x y ux uy hK hO rx ry Q q hm k := by
    subst hK
    match ux, uy, hm with
    | .d a, .d (.list ys), hm => exact .inl ⟨a, ys, rep_dp rx hm.1, rep_dp ry hm.2.1, hm.1, hm.2.1, k _ _ _ H hm.2.2 (Same.refl _) (.old (Rp.bl _))⟩
    | .d a, .d (.tuple ys), hm =>
      cases ry with
      | tup a1 a2 => exact .inr ⟨_, _, rfl, .inr (SqT.le Le.cutAll a1), scal_rep rx hm.1, scal_all a2 hm.2.1, k _ _ _ H hm.2.2 (Same.refl _) (.old (by
          show Rp _ _ (.bl (inV x _)) _
          rw [scal_any rx hm.1 a2 hm.2.1]
          exact Rp.bl _))⟩
instance : LR K (rNotInU K) (mIn not) where
  s am O H x y ux uy hK hO rx ry Q q hm k := by
    subst hK
    match ux, uy, hm with
    | .d a, .d (.list ys), hm => exact .inl ⟨a, ys, rep_dp rx hm.1, rep_dp ry hm.2.1, hm.1, hm.2.1, k _ _ _ H hm.2.2 (Same.refl _) (.old (Rp.bl _))⟩
    | .d a, .d (.tuple ys), hm =>
      cases ry with
      | tup a1 a2 => exact .inr ⟨_, _, rfl, .inr (SqT.le Le.cutAll a1), scal_rep rx hm.1, scal_all a2 hm.2.1, k _ _ _ H hm.2.2 (Same.refl _) (.old (by
          show Rp _ _ (.bl (!inV x _)) _
          rw [scal_any rx hm.1 a2 hm.2.1]
          exact Rp.bl _))⟩
end
end V3
set_option Elab.async false
set_option linter.all false
set_option maxRecDepth 100000
set_option maxHeartbeats 4000000
namespace V3
open PySem PySem.Spec PyProof.Rows L2
section
variable {K : PySem.W.Frag} {C : Addr} {TL : List (Addr × Str)} {E : XK}
/-! ### tests -/
@[simp ↓] def mTest (me : TE3) : TT3 := fun ρ n q e => me ρ n (fun _ u n1 => askB u fun b => q b n1) e
instance {t : TE} {S : List Nat} {m : TE3} [h : LE K C TL E t S m] : LT K C TL E (tTest t) (mTest m) where
  s am ρ n σ H hE hr Q q hm k := by
    refine h.s am ρ n σ H hE hr _ _ hm fun fr u n1 v H1 hq f1 w1 r1 => ?_
    obtain ⟨b, rfl, rfl, hq⟩ := askB_rep hq r1.1
    exact ⟨b, rfl, k b n1 H1 hq f1 w1⟩
instance {t : TE} {S : List Nat} {m : TE3} [h : LE K C TL E t S m] : LT K C TL E (tB t) (mTest m) where
  s am ρ n σ H hE hr Q q hm k := by
    refine h.s am ρ n σ H hE hr _ _ hm fun fr u n1 v H1 hq f1 w1 r1 => ?_
    obtain ⟨b, rfl, rfl, hq⟩ := askB_rep hq r1.1
    exact ⟨b, rfl, k b n1 H1 hq f1 w1⟩
@[simp ↓] def mYes : TT3 := fun _ n q _ => q true n
instance : LT K C TL E tYes mYes where
  s am ρ n σ H hE hr Q q hm k := k true n H hm (FrR.refl _ _) hr.wd
@[simp ↓] def mAnd (mt mu : TT3) : TT3 := fun ρ n q e => mt ρ n (fun c n1 => if c = true then mu ρ n1 q e else q false n1) e
@[simp ↓] def mOr (mt mu : TT3) : TT3 := fun ρ n q e => mt ρ n (fun c n1 => if c = true then q true n1 else mu ρ n1 q e) e
@[simp ↓] def mNot (mt : TT3) : TT3 := fun ρ n q e => mt ρ n (fun c n1 => q (!c) n1) e
instance {t u : TT} {mt mu : TT3} [ht : LT K C TL E t mt] [hu : LT K C TL E u mu] : LT K C TL E (tAnd t u) (mAnd mt mu) where
  s am ρ n σ H hE hr Q q hm k := by
    refine ht.s am ρ n σ H hE hr _ _ hm fun b n1 H1 hq f1 w1 => ?_
    cases b with
    | true => exact hu.s am ρ n1 σ H1 hE (hr.step f1 w1) _ _ hq fun b2 n2 H2 hq2 f2 w2 => k b2 n2 H2 hq2 (f1.trans f2) w2
    | false => exact k false n1 H1 hq f1 w1
instance {t u : TT} {mt mu : TT3} [ht : LT K C TL E t mt] [hu : LT K C TL E u mu] : LT K C TL E (tOr t u) (mOr mt mu) where
  s am ρ n σ H hE hr Q q hm k := by
    refine ht.s am ρ n σ H hE hr _ _ hm fun b n1 H1 hq f1 w1 => ?_
    cases b with
    | false => exact hu.s am ρ n1 σ H1 hE (hr.step f1 w1) _ _ hq fun b2 n2 H2 hq2 f2 w2 => k b2 n2 H2 hq2 (f1.trans f2) w2
    | true => exact k true n1 H1 hq f1 w1
instance {t : TT} {mt : TT3} [ht : LT K C TL E t mt] : LT K C TL E (tNot t) (mNot mt) where
  s am ρ n σ H hE hr Q q hm k := ht.s am ρ n σ H hE hr _ _ hm fun b n1 H1 hq f1 w1 => k (!b) n1 H1 hq f1 w1
@[simp ↓] def mAndV (ma mb : TE3) : TE3 := fun ρ n q e => ma ρ n (fun _ u n1 => askB u fun c => if c = true then mb ρ n1 q e else q false (.d (.bool false)) n1) e
@[simp ↓] def mOrV (ma mb : TE3) : TE3 := fun ρ n q e => ma ρ n (fun _ u n1 => askB u fun c => if c = true then q false (.d (.bool true)) n1 else mb ρ n1 q e) e
@[simp ↓] def mNotV (ma : TE3) : TE3 := fun ρ n q e => ma ρ n (fun _ u n1 => askB u fun c => q false (.d (.bool (!c))) n1) e
theorem then_back {am : Am} {ρ : Ro} {n n1 : Nat} {σ : L2.St} {H H1 H2 : Hp} (h : Rl am ρ n σ H) (f : FrR am.R H H1) (w : Wd am.R am.TL H1 n1) {S S' : List Nat} (hS : ∀ i ∈ S, i ∈ S') {fr : Bool} {v : V} {u : U} (r : RepV am (Hid am (dem S ρ) σ) H1 H2 fr v u) : RepV am (Hid am (dem S' ρ) σ) H H2 fr v u :=
  (r.back h f (h.step f w)).sub fun a => hidDem2 hS
instance {ta tb : TE} {S1 S2 : List Nat} {ma mb : TE3} [ha : LE K C TL E ta S1 ma] [hb : LE K C TL E tb S2 mb] : LE K C TL E (tAndV ta tb) S2 (mAndV ma mb) where
  s am ρ n σ H hE hr Q q hm k := by
    refine ha.s am ρ n σ H hE hr _ _ hm fun fr u n1 v H1 hq f1 w1 r1 => ?_
    obtain ⟨b, rfl, rfl, hq⟩ := askB_rep hq r1.1
    refine ⟨b, rfl, ?_⟩
    cases b with
    | true => exact hb.s am ρ n1 σ H1 hE (hr.step f1 w1) _ _ hq fun fr2 u2 n2 v2 H2 hq2 f2 w2 r2 => k fr2 u2 n2 v2 H2 hq2 (f1.trans f2) w2 (then_back hr f1 w1 (fun _ z => z) r2)
    | false => exact k _ _ n1 _ H1 hq f1 w1 (.old (Rp.bl _))
instance {ta tb : TE} {S1 S2 : List Nat} {ma mb : TE3} [ha : LE K C TL E ta S1 ma] [hb : LE K C TL E tb S2 mb] : LE K C TL E (tOrV ta tb) S2 (mOrV ma mb) where
  s am ρ n σ H hE hr Q q hm k := by
    refine ha.s am ρ n σ H hE hr _ _ hm fun fr u n1 v H1 hq f1 w1 r1 => ?_
    obtain ⟨b, rfl, rfl, hq⟩ := askB_rep hq r1.1
    refine ⟨b, rfl, ?_⟩
    cases b with
    | false => exact hb.s am ρ n1 σ H1 hE (hr.step f1 w1) _ _ hq fun fr2 u2 n2 v2 H2 hq2 f2 w2 r2 => k fr2 u2 n2 v2 H2 hq2 (f1.trans f2) w2 (then_back hr f1 w1 (fun _ z => z) r2)
    | true => exact k _ _ n1 _ H1 hq f1 w1 (.old (Rp.bl _))
instance {ta : TE} {S1 : List Nat} {ma : TE3} [ha : LE K C TL E ta S1 ma] : LE K C TL E (tNotV ta) [] (mNotV ma) where
  s am ρ n σ H hE hr Q q hm k := by
    refine ha.s am ρ n σ H hE hr _ _ hm fun fr u n1 v H1 hq f1 w1 r1 => ?_
    obtain ⟨b, rfl, rfl, hq⟩ := askB_rep hq r1.1
    exact ⟨b, rfl, k _ _ n1 _ H1 hq f1 w1 (.old (Rp.bl _))⟩
@[simp ↓] def mIf (mt : TT3) (ma mb : TE3) : TE3 := fun ρ n q e => mt ρ n (fun c n1 => if c = true then ma ρ n1 q e else mb ρ n1 q e) e
instance {t : TT} {ta tb : TE} {S1 S2 : List Nat} {mt : TT3} {ma mb : TE3} [ht : LT K C TL E t mt] [ha : LE K C TL E ta S1 ma] [hb : LE K C TL E tb S2 mb] : LE K C TL E (tIf t ta tb) (S1 ++ S2) (mIf mt ma mb) where
  s am ρ n σ H hE hr Q q hm k := by
    refine ht.s am ρ n σ H hE hr _ _ hm fun b n1 H1 hq f1 w1 => ?_
    cases b with
    | true => exact ha.s am ρ n1 σ H1 hE (hr.step f1 w1) _ _ hq fun fr2 u2 n2 v2 H2 hq2 f2 w2 r2 => k fr2 u2 n2 v2 H2 hq2 (f1.trans f2) w2 (then_back hr f1 w1 (fun _ z => List.mem_append_left _ z) r2)
    | false => exact hb.s am ρ n1 σ H1 hE (hr.step f1 w1) _ _ hq fun fr2 u2 n2 v2 H2 hq2 f2 w2 r2 => k fr2 u2 n2 v2 H2 hq2 (f1.trans f2) w2 (then_back hr f1 w1 (fun _ z => List.mem_append_right _ z) r2)
@[simp ↓] def mChain (mr mr' : U → U → (Bool → D → Prop) → Prop) (ma mb mc : TE3) : TE3 := fun ρ n q e => ma ρ n (fun _ x n1 => mb ρ n1 (fun _ y n2 => mr x y fun _ z => askB (.d z) fun c => if c = true then mc ρ n2 (fun _ w n3 => mr' y w fun fr z' => q fr (.d z') n3) e else q false (.d (.bool false)) n2) e) e
instance {r r' : R2} {ta tb tc : TE} {S1 S2 S3 : List Nat} {ma mb mc : TE3} {mr mr' : U → U → (Bool → D → Prop) → Prop} [ha : LE K C TL E ta S1 ma] [hb : LE K C TL E tb S2 mb] [hc : LE K C TL E tc S3 mc] [hr : LR K r mr] [hr' : LR K r' mr'] : LE K C TL E (tChain r r' ta tb tc) (S1 ++ (S2 ++ S3)) (mChain mr mr' ma mb mc) where
  s am ρ n σ H hE h Q q hm k := by
    refine ha.s am ρ n σ H hE h _ _ hm fun fr x n1 v H1 hq f1 w1 r1 => ?_
    have h1 := h.step f1 w1
    refine hb.s am ρ n1 σ H1 hE h1 _ _ hq fun fr2 y n2 v2 H2 hq2 f2 w2 r2 => ?_
    have h2 := h1.step f2 w2
    refine hr.s am (Hid am (dem (S1 ++ (S2 ++ S3)) ρ) σ) H2 v v2 x y hE.1 (hid_there h2 _) (r1.1.le (rl_cutS h1 f2 fun i hi => List.mem_append_left _ hi)) (r2.1.le (rl_cutS h2 (FrR.refl _ _) fun i hi => List.mem_append_right _ (List.mem_append_left _ hi))) _ _ hq2 fun fr3 z v3 H3 hq3 sm r3 => ?_
    have w3 := w2.same sm
    have h3 := h2.step (.of sm) w3
    obtain ⟨b, e1, rfl, hq3⟩ := askB_rep hq3 r3.1
    refine ⟨b, rfl, ?_⟩
    cases b with
    | true =>
      refine hc.s am ρ n2 σ H3 hE h3 _ _ hq3 fun fr4 w n3 v4 H4 hq4 f4 w4 r4 => ?_
      have h4 := h3.step f4 w4
      refine hr'.s am (Hid am (dem (S1 ++ (S2 ++ S3)) ρ) σ) H4 v2 v4 y w hE.1 (hid_there h4 _) (r2.1.le (rl_cutS h2 ((FrR.of sm).trans f4) fun i hi => List.mem_append_right _ (List.mem_append_left _ hi))) (r4.1.le (rl_cutS h4 (FrR.refl _ _) fun i hi => List.mem_append_right _ (List.mem_append_right _ hi))) _ _ hq4 fun fr5 z5 v5 H5 hq5 sm5 r5 => ?_
      exact k _ _ n3 _ _ hq5 ((((f1.trans f2).trans (.of sm)).trans f4).trans (.of sm5)) (w4.same sm5) (r5.back h (((f1.trans f2).trans (.of sm)).trans f4) h4)
    | false => exact k _ _ n2 _ _ hq3 ((f1.trans f2).trans (.of sm)) w3 (.old (Rp.bl _))
/-! ### slices -/
@[simp ↓] def mNoPart : TO3 := fun _ n q _ => q none n
@[simp ↓] def mPart (me : TE3) : TO3 := fun ρ n q e => me ρ n (fun _ u n1 => askI u fun i => q (some i) n1) e
instance : LO K C TL E tNoPart mNoPart where
  s am ρ n σ H hE hr Q q hm k := k none n H hm (FrR.refl _ _) hr.wd
instance {t : TE} {S : List Nat} {m : TE3} [h : LE K C TL E t S m] : LO K C TL E (tPart t) (mPart m) where
  s am ρ n σ H hE hr Q q hm k := by
    refine h.s am ρ n σ H hE hr _ _ hm fun fr u n1 v H1 hq f1 w1 r1 => ?_
    obtain ⟨i, rfl, rfl, hq⟩ := askI_rep hq r1.1
    exact ⟨i, rfl, k _ n1 H1 hq f1 w1⟩
def cutD (xs : List D) (lo hi : Option Int) : List D := (xs.drop (HT.sIx xs.length 0 lo)).take (HT.sIx xs.length xs.length hi - HT.sIx xs.length 0 lo)
theorem cutD_rep {K : PySem.W.Frag} {H : Hp} {vs : List V} {ds : List D} (lo hi : Option Int) (r : RpAll K H vs ds) : RpAll K H (cutV vs lo hi) (cutD ds lo hi) := by
  unfold cutV cutD
  rw [RpAll.len r]
  exact RpAll.take _ (RpAll.drop _ r)
def rSlU (K : PySem.W.Frag) : V → Option Int → Option Int → Hp → VK → Prop := fun x lo hi H Q => rSlL K x lo hi H Q ∨ rSlA K x lo hi H Q
theorem sl_U {X : Cx} : SlR X (rSlU X.K) := by
  intro pins s σ H x v vl vu lo hi sl Q I rx hs pl pu h
  rcases h with h | h
  · exact sl_list pins s σ H x v vl vu lo hi sl Q I rx hs pl pu h
  · exact sl_tupA pins s σ H x v vl vu lo hi sl Q I rx hs pl pu h
@[simp] def slU (lo hi : Option Int) : U → (Bool → D → Prop) → Prop
  | .d (.list xs), q => q true (.list (cutD xs lo hi))
  | .d (.tuple xs), q => q false (.tuple (cutD xs lo hi))
  | _, _ => False
@[simp ↓] def mSl (me : TE3) (ml mh : TO3) : TE3 := fun ρ n q e => me ρ n (fun _ u n1 => ml ρ n1 (fun lo n2 => mh ρ n2 (fun hi n3 => slU lo hi u fun fr z => q fr (.d z) n3) e) e) e
instance {te : TE} {tl th : TO} {S : List Nat} {me : TE3} {ml mh : TO3} [he : LE K C TL E te S me] [hl : LO K C TL E tl ml] [hh : LO K C TL E th mh] : LE K C TL E (tSl (rSlU K) te tl th) S (mSl me ml mh) where
  s am ρ n σ H hE h Q q hm k := by
    obtain ⟨rfl, rfl, rfl, rfl⟩ := id hE
    refine he.s am ρ n σ H hE h _ _ hm fun fr u n1 v H1 hq f1 w1 r1 => ?_
    have h1 := h.step f1 w1
    refine hl.s am ρ n1 σ H1 hE h1 _ _ hq fun lo n2 H2 hq2 f2 w2 => ?_
    have h2 := h1.step f2 w2
    refine hh.s am ρ n2 σ H2 hE h2 _ _ hq2 fun hi n3 H3 hq3 f3 w3 => ?_
    have h3 := h2.step f3 w3
    have r3 := r1.1.le (rl_cutS h1 (f2.trans f3) (S' := S) fun i hi => hi)
    have f := (f1.trans f2).trans f3
    match u, hq3 with
    | .d (.list xs), hq3 =>
      cases r3 with
      | lst a1 a2 =>
        refine .inl ⟨_, _, rfl, SqL.of (cut_some.mp a1).2, fun p hp => ?_⟩
        exact k _ _ n3 _ _ hq3 (f.trans (.of (same_new hp))) (w3.same (same_new hp)) ((new_list (hid_there h3 S) hp (cutD_rep lo hi a2)).back h f h3)
    | .d (.tuple xs), hq3 =>
      cases r3 with
      | tup a1 a2 =>
        refine .inr ⟨_, _, rfl, SqT.le Le.cutAll a1, fun e => ?_, fun _ p hp => ?_⟩
        · refine k _ _ n3 _ _ hq3 f w3 (.old ?_)
          have e2 : cutD xs lo hi = xs := by
            unfold cutD
            rw [← RpAll.len a2, e.1, e.2, RpAll.len a2]
            simp
          show Rp _ _ _ _
          rw [e2]
          exact Rp.tup a1 a2
        · exact k _ _ n3 _ _ hq3 (f.trans (.of (same_new hp))) (w3.same (same_new hp)) ((new_tup (hid_there h3 S) hp (cutD_rep lo hi a2)).back h f h3)
/-! ### drawing.blocks -/
def askW : U → (List D → Prop) → Prop
  | .dw bs, k => k bs
  | _, _ => False
@[simp] theorem askW_s (i : List D) (k : List D → Prop) : askW (.dw i) k = k i := rfl
@[simp ↓] def mFld (me : TE3) : TE3 := fun ρ n q e => me ρ n (fun _ u n1 => askW u fun bs => q false (.d (.tuple bs)) n1) e
instance {te : TE} {S : List Nat} {me : TE3} [he : LE K C TL E te S me] : LE K C TL E (tFld K te "blocks") S (mFld me) where
  s am ρ n σ H hE h Q q hm k := by
    obtain ⟨rfl, rfl, rfl, rfl⟩ := id hE
    refine he.s am ρ n σ H hE h _ _ hm fun fr u n1 v H1 hq f1 w1 r1 => ?_
    match u, hq, r1.1 with
    | .dw bs, hq, r1 =>
      obtain ⟨fl, a, dx, t, rfl, h2, h3⟩ := r1
      exact ⟨a, am.C, dx, _, .ref t, rfl, (cut_some.mp h2).2, am.cls, am.nB, rfl, k _ _ n1 _ H1 hq f1 w1 (.old h3)⟩
end
end V3
set_option Elab.async false
set_option linter.all false
set_option maxRecDepth 100000
set_option maxHeartbeats 4000000
namespace V3
open PySem PySem.Spec PyProof.Rows L2
/-! ### statements -/
structure En3 where
  nx : Ro → Nat → Prop
  rt : Bool → U → Nat → Prop
  bk : Ro → Nat → Prop
  ct : Ro → Nat → Prop
abbrev TS3 := En3 → Ro → Nat → (Addr → Prop) → Prop
/-- what is given back -/
def RetV (am : Am) (H : Hp) (fr : Bool) (v : V) (u : U) : Prop :=
  RepU am am.R.hid H v u ∧ (fr = true → ∃ p vs ds, v = .ref p ∧ u = .d (.list ds) ∧ ((New am.Hs p ∨ am.O0 p) ∧ ¬ am.R.hid p) ∧ H p = some (.lst vs) ∧ RpAll am.K (cut (fun a => a = p ∨ am.R.hid a) H) vs ds)
structure EnR (am : Am) (D : Ends) (F : En3) : Prop where
  nx : ∀ ρ n σ H, F.nx ρ n → Rl am ρ n σ H → D.nx σ H
  bk : ∀ ρ n σ H, F.bk ρ n → Rl am ρ n σ H → D.bk σ H
  ct : ∀ ρ n σ H, F.ct ρ n → Rl am ρ n σ H → D.ct σ H
  rt : ∀ fr u n v H, F.rt fr u n → Gr am H → Wd am.R am.TL H n → RetV am H fr v u → D.rt v H
class LS (K : PySem.W.Frag) (C : Addr) (TL : List (Addr × Str)) (E : XK) (t : TS) (m : outParam TS3) : Prop where
  s : ∀ (am : Am) (ρ : Ro) (n : Nat) (σ : L2.St) (H : Hp) (D : Ends) (F : En3), am.K = K ∧ am.TL = TL ∧ am.E = E ∧ am.C = C → Rl am ρ n σ H → EnR am D F → m F ρ n am.e → t D σ H
section
variable {K : PySem.W.Frag} {C : Addr} {TL : List (Addr × Str)} {E : XK}
@[simp ↓] def mNext : TS3 := fun F ρ n _ => F.nx ρ n
instance : LS K C TL E tNext mNext where
  s am ρ n σ H D F hE h en hm := en.nx ρ n σ H hm h
@[simp ↓] def mSeq (mt mu : TS3) : TS3 := fun F ρ n e => mt { F with nx := fun ρ' n' => mu F ρ' n' e } ρ n e
instance {t u : TS} {mt mu : TS3} [ht : LS K C TL E t mt] [hu : LS K C TL E u mu] : LS K C TL E (tSeq t u) (mSeq mt mu) where
  s am ρ n σ H D F hE h en hm := ht.s am ρ n σ H { D with nx := u D } { F with nx := fun ρ' n' => mu F ρ' n' am.e } hE h ⟨fun ρ' n' σ' H' q r => hu.s am ρ' n' σ' H' D F hE r en q, en.bk, en.ct, en.rt⟩ hm
@[simp ↓] def mBreak : TS3 := fun F ρ n _ => F.bk ρ n
instance : LS K C TL E tBreak mBreak where
  s am ρ n σ H D F hE h en hm := en.bk ρ n σ H hm h
@[simp ↓] def mCont : TS3 := fun F ρ n _ => F.ct ρ n
instance : LS K C TL E tCont mCont where
  s am ρ n σ H D F hE h en hm := en.ct ρ n σ H hm h
@[simp ↓] def mIfS (mt : TT3) (ma mb : TS3) : TS3 := fun F ρ n e => mt ρ n (fun c n1 => if c = true then ma F ρ n1 e else mb F ρ n1 e) e
instance {c : TT} {t u : TS} {mc : TT3} {mt mu : TS3} [hc : LT K C TL E c mc] [ht : LS K C TL E t mt] [hu : LS K C TL E u mu] : LS K C TL E (tIfS c t u) (mIfS mc mt mu) where
  s am ρ n σ H D F hE h en hm := by
    refine hc.s am ρ n σ H hE h _ _ hm fun b n1 H1 hq f1 w1 => ?_
    cases b with
    | true => exact ht.s am ρ n1 σ H1 D F hE (h.step f1 w1) en hq
    | false => exact hu.s am ρ n1 σ H1 D F hE (h.step f1 w1) en hq
theorem ret_of {am : Am} {ρ : Ro} {n : Nat} {σ : L2.St} {H H1 : Hp} (h : Rl am ρ n σ H) {S : List Nat} {fr : Bool} {v : V} {u : U} (r : RepV am (Hid am (dem S ρ) σ) H H1 fr v u) : RetV am H1 fr v u :=
  ⟨r.1.le (Le.cutSub fun a z => .inl z), fun z => by
    obtain ⟨p, vs, ds, a1, a2, a3, a4, a5⟩ := r.2 z
    exact ⟨p, vs, ds, a1, a2, h.new0 a3, a4, RpAll.le (Le.cutSub fun a q => q.imp id fun y => .inl y) _ _ a5⟩⟩
@[simp ↓] def mRet (me : TE3) : TS3 := fun F ρ n e => me ρ n (fun fr u n1 => F.rt fr u n1) e
instance {te : TE} {S : List Nat} {me : TE3} [he : LE K C TL E te S me] : LS K C TL E (tRet te) (mRet me) where
  s am ρ n σ H D F hE h en hm := he.s am ρ n σ H hE h _ _ hm fun fr u n1 v H1 hq f1 w1 r1 => en.rt fr u n1 v H1 hq (h.step f1 w1).gr w1 (ret_of h r1)
@[simp] def isOw : Ro → Nat → Bool
  | [], _ => false
  | .ow _ :: _, 0 => true
  | _ :: _, 0 => false
  | _ :: ρ, i + 1 => isOw ρ i
theorem isOw_get : ∀ {ρ : Ro} {i : Nat}, isOw ρ i = true → ∃ ds, ρ[i]? = some (Sl.ow ds)
  | [], _, h => by cases h
  | .ow ds :: _, 0, _ => ⟨ds, rfl⟩
  | .no :: _, 0, h => by cases h
  | .fz _ :: _, 0, h => by cases h
  | s :: ρ, i + 1, h => isOw_get (ρ := ρ) (i := i) (by cases s <;> exact h)
@[simp ↓] def mRetVar (i : Nat) : TS3 := fun F ρ n _ => ask (rdAt ρ i) fun u => F.rt (isOw ρ i) u n
instance (priority := high) (i : Nat) : LS K C TL E (tRet (tVar i)) (mRetVar i) where
  s am ρ n σ H D F hE h en hm := by
    obtain ⟨u, e, hm⟩ := ask_some hm
    obtain ⟨v, h1, h2⟩ := slot_rd h e
    refine ⟨v, h1, en.rt _ u n v H hm h.gr h.wd ⟨h2.le (Le.cutSub fun a z => .inl z), fun o => ?_⟩⟩
    obtain ⟨ds, e2⟩ := isOw_get o
    obtain ⟨p, vs, q1, q2, q3, q4⟩ := h.ow i ds e2
    rw [h1] at q1
    cases q1
    rw [rdAt_eq, e2] at e
    cases e
    exact ⟨p, vs, ds, rfl, rfl, q2, q3, RpAll.le (Le.cutSub fun a z => by
      rcases z with z | z
      · exact .inr ⟨i, ⟨ds, e2⟩, by rw [z]; exact h1⟩
      · exact .inl z) _ _ q4⟩
@[simp ↓] def mRetN : TS3 := fun F _ n _ => F.rt false (.d .none) n
instance : LS K C TL E tRetN mRetN where
  s am ρ n σ H D F hE h en hm := en.rt _ _ n _ H hm h.gr h.wd ⟨Rp.non, fun z => by cases z⟩
/-! ### names given -/
def bind3 (S : List Nat) (i : Nat) : Bool → U → Ro → Ro
  | true, .d (.list ds), ρ => (if flatAll ds = true then ρ else dem S ρ).set i (.ow ds)
  | _, u, ρ => (if flatU u = true then ρ else dem S ρ).set i (.fz u)
@[simp] theorem bind3_l (S : List Nat) (i : Nat) (ds : List D) (ρ : Ro) : bind3 S i true (.d (.list ds)) ρ = (if flatAll ds = true then ρ else dem S ρ).set i (.ow ds) := rfl
@[simp] theorem bind3_d (S : List Nat) (i : Nat) (x : D) (ρ : Ro) : bind3 S i false (.d x) ρ = (if flat x = true then ρ else dem S ρ).set i (.fz (.d x)) := rfl
@[simp] theorem bind3_i (S : List Nat) (i : Nat) (b : Bool) (x : Int) (ρ : Ro) : bind3 S i b (.d (.int x)) ρ = ρ.set i (.fz (.d (.int x))) := by cases b <;> rfl
@[simp] theorem bind3_b (S : List Nat) (i : Nat) (b : Bool) (x : Bool) (ρ : Ro) : bind3 S i b (.d (.bool x)) ρ = ρ.set i (.fz (.d (.bool x))) := by cases b <;> rfl
@[simp] theorem bind3_s (S : List Nat) (i : Nat) (b : Bool) (x : Str) (ρ : Ro) : bind3 S i b (.d (.str x)) ρ = ρ.set i (.fz (.d (.str x))) := by cases b <;> rfl
@[simp] theorem bind3_n (S : List Nat) (i : Nat) (b : Bool) (ρ : Ro) : bind3 S i b (.d .none) ρ = ρ.set i (.fz (.d .none)) := by cases b <;> rfl
@[simp] theorem bind3_t (S : List Nat) (i : Nat) (b : Bool) (xs : List D) (ρ : Ro) : bind3 S i b (.d (.tuple xs)) ρ = (if flatAll xs = true then ρ else dem S ρ).set i (.fz (.d (.tuple xs))) := by cases b <;> rfl
@[simp] theorem bind3_o (S : List Nat) (i : Nat) (b : Bool) (fs : List (Str × D)) (ρ : Ro) : bind3 S i b (.ob fs) ρ = ρ.set i (.fz (.ob fs)) := by cases b <;> rfl
@[simp] theorem bind3_w (S : List Nat) (i : Nat) (b : Bool) (xs : List D) (ρ : Ro) : bind3 S i b (.dw xs) ρ = ρ.set i (.fz (.dw xs)) := by cases b <;> rfl
@[simp] theorem bind3_tb (S : List Nat) (i : Nat) (b : Bool) (f : Int → Int) (ns : List Int) (ρ : Ro) : bind3 S i b (.tb f ns) ρ = ρ.set i (.fz (.tb f ns)) := by cases b <;> rfl
@[simp] theorem bind3_r (S : List Nat) (i : Nat) (b : Bool) (ρ : Ro) : bind3 S i b .dr ρ = ρ.set i (.fz .dr) := by cases b <;> rfl
theorem bindFz {am : Am} {ρ : Ro} {n n' : Nat} {σ : L2.St} {H H' : Hp} (h : Rl am ρ n σ H) (f : FrR am.R H H') (w : Wd am.R am.TL H' n') {S : List Nat} {v : V} {u : U} (i : Nat) (r : RepU am (Hid am (dem S ρ) σ) H' v u) : Rl am ((if flatU u = true then ρ else dem S ρ).set i (.fz u)) n' (σ.set i (some v)) H' := by
  have h' := h.step f w
  by_cases fl : flatU u = true
  · rw [if_pos fl]
    refine h'.setFz i (r.hide (fun p z => ?_) fl)
    rcases z with z | ⟨j, z⟩
    · exact .inl (.inl z)
    · exact .inr (h'.ownL z).2.1
  · rw [if_neg fl]
    exact (h'.dem S).setFz i r
theorem bind_ok {am : Am} {ρ : Ro} {n n' : Nat} {σ : L2.St} {H H' : Hp} (h : Rl am ρ n σ H) (f : FrR am.R H H') (w : Wd am.R am.TL H' n') {S : List Nat} {fr : Bool} {v : V} {u : U} (i : Nat) (r : RepV am (Hid am (dem S ρ) σ) H H' fr v u) : Rl am (bind3 S i fr u ρ) n' (σ.set i (some v)) H' := by
  cases fr with
  | false => cases u <;> exact bindFz h f w i r.1
  | true =>
    obtain ⟨p, vs, ds, rfl, rfl, np, e, a⟩ := r.2 rfl
    show Rl am ((if flatAll ds = true then ρ else dem S ρ).set i (.ow ds)) n' _ H'
    by_cases fl : flatAll ds = true
    · rw [if_pos fl]
      refine h.setOw f w i np e (RpAll.hide (O := fun a => a = p ∨ Hid am (dem S ρ) σ a) (fun q z => ?_) _ _ fl a)
      rcases z with z | z | ⟨j, z⟩
      · exact .inl (.inl z)
      · exact .inl (.inr (.inl z))
      · exact .inr ((h.step f w).ownL z).2.1
    · rw [if_neg fl]
      exact (h.dem S).setOw f w i np e a
@[simp ↓] def mSet (S : List Nat) (i : Nat) (me : TE3) : TS3 := fun F ρ n e => me ρ n (fun fr u n1 => F.nx (bind3 S i fr u ρ) n1) e
instance {te : TE} {i : Nat} {S : List Nat} {me : TE3} [he : LE K C TL E te S me] : LS K C TL E (tAsg te (gName i)) (mSet S i me) where
  s am ρ n σ H D F hE h en hm := he.s am ρ n σ H hE h _ _ hm fun fr u n1 v H1 hq f1 w1 r1 => en.nx _ n1 _ H1 hq (bind_ok h f1 w1 i r1)
def flatF : Bool → U → Bool
  | true, .d (.list ds) => flatAll ds
  | _, u => flatU u
@[simp] theorem flatF_l (ds : List D) : flatF true (.d (.list ds)) = flatAll ds := rfl
@[simp] theorem flatF_d (x : D) : flatF false (.d x) = flat x := rfl
@[simp] theorem flatF_i (b : Bool) (x : Int) : flatF b (.d (.int x)) = true := by cases b <;> rfl
@[simp] theorem flatF_b (b : Bool) (x : Bool) : flatF b (.d (.bool x)) = true := by cases b <;> rfl
@[simp] theorem flatF_s (b : Bool) (x : Str) : flatF b (.d (.str x)) = true := by cases b <;> rfl
@[simp] theorem flatF_n (b : Bool) : flatF b (.d .none) = true := by cases b <;> rfl
@[simp] theorem flatF_t (b : Bool) (xs : List D) : flatF b (.d (.tuple xs)) = flatAll xs := by cases b <;> rfl
@[simp] theorem flatF_o (b : Bool) (fs : List (Str × D)) : flatF b (.ob fs) = true := by cases b <;> rfl
@[simp] theorem flatF_w (b : Bool) (xs : List D) : flatF b (.dw xs) = true := by cases b <;> rfl
@[simp] theorem flatF_tb (b : Bool) (f : Int → Int) (ns : List Int) : flatF b (.tb f ns) = true := by cases b <;> rfl
@[simp] theorem flatF_r (b : Bool) : flatF b .dr = true := by cases b <;> rfl
@[simp] theorem flat_i (i : Int) : flat (.int i) = true := rfl
@[simp] theorem flat_b (i : Bool) : flat (.bool i) = true := rfl
@[simp] theorem flat_n : flat .none = true := rfl
@[simp] theorem flat_s (i : Str) : flat (.str i) = true := rfl
@[simp] theorem flat_t (xs : List D) : flat (.tuple xs) = flatAll xs := rfl
@[simp] theorem flatAll_n : flatAll [] = true := rfl
@[simp] theorem flatAll_c (x : D) (xs : List D) : flatAll (x :: xs) = (flat x && flatAll xs) := rfl
@[simp ↓] def mPar (S1 S2 : List Nat) (i j : Nat) (ma mb : TE3) : TS3 := fun F ρ n e => ma ρ n (fun f1 x n1 => mb ρ n1 (fun f2 y n2 => if flatF f2 y = true then F.nx (bind3 S2 j f2 y (bind3 S1 i f1 x ρ)) n2 else False) e) e
theorem bind_flat {am : Am} {ρ : Ro} {n n' : Nat} {σ : L2.St} {H H' : Hp} (h : Rl am ρ n σ H) (f : FrR am.R H H') (w : Wd am.R am.TL H' n') (S : List Nat) {fr : Bool} {v : V} {u : U} (i : Nat) {O : Addr → Prop} (hO : ∀ a, am.R.hid a → O a) (fl : flatF fr u = true) (r : RepV am O H H' fr v u) : Rl am (bind3 S i fr u ρ) n' (σ.set i (some v)) H' := by
  have h' := h.step f w
  have hh : ∀ p, Hid am ρ σ p → O p ∨ ∃ ys, H' p = some (.lst ys) := fun p z => by
    rcases z with z | ⟨j, z⟩
    · exact .inl (hO p z)
    · exact .inr (h'.ownL z).2.1
  have fz : ∀ {u : U}, flatU u = true → RepU am O H' v u → Rl am ((if flatU u = true then ρ else dem S ρ).set i (.fz u)) n' (σ.set i (some v)) H' := fun fl r => by
    rw [if_pos fl]
    exact h'.setFz i (r.hide hh fl)
  cases fr with
  | false => cases u <;> exact fz fl r.1
  | true =>
    obtain ⟨p, vs, ds, rfl, rfl, np, e, a⟩ := r.2 rfl
    show Rl am ((if flatAll ds = true then ρ else dem S ρ).set i (.ow ds)) n' _ H'
    rw [if_pos (show flatAll ds = true from fl)]
    refine h.setOw f w i np e (RpAll.hide (O := fun a => a = p ∨ O a) (fun q z => ?_) _ _ fl a)
    rcases z with z | z
    · exact .inl (.inl z)
    · exact (hh q z).imp .inr id
theorem if_pos' {c : Prop} [Decidable c] {p : Prop} (h : if c then p else False) : c ∧ p := by
  by_cases hc : c
  · rw [if_pos hc] at h
    exact ⟨hc, h⟩
  · rw [if_neg hc] at h
    exact h.elim
instance {i j : Nat} {ta tb : TE} {S1 S2 : List Nat} {ma mb : TE3} [ha : LE K C TL E ta S1 ma] [hb : LE K C TL E tb S2 mb] : LS K C TL E (tPar i j (tCons ta (tCons tb tNil))) (mPar S1 S2 i j ma mb) where
  s am ρ n σ H D F hE h en hm := by
    refine ha.s am ρ n σ H hE h _ _ hm fun fr x n1 v H1 hq f1 w1 r1 => ?_
    have h1 := h.step f1 w1
    refine hb.s am ρ n1 σ H1 hE h1 _ _ hq fun fr2 y n2 v2 H2 hq2 f2 w2 r2 => ?_
    obtain ⟨fl, hq2⟩ := if_pos' hq2
    refine ⟨v, v2, rfl, en.nx _ n2 _ H2 hq2 ?_⟩
    exact bind_flat (bind_ok h f1 w1 i r1) f2 w2 S2 j (O := Hid am (dem S2 ρ) σ) (fun a z => .inl z) fl r2
/-! a, b = e -/
class HasLen (is : List Nat) (k : Nat) : Prop where
  e : is.length = k
instance : HasLen [] 0 := ⟨rfl⟩
instance {i : Nat} : HasLen [i] 1 := ⟨rfl⟩
instance {i j : Nat} : HasLen [i, j] 2 := ⟨rfl⟩
instance {i j k : Nat} : HasLen [i, j, k] 3 := ⟨rfl⟩
instance {i j k l : Nat} : HasLen [i, j, k, l] 4 := ⟨rfl⟩
@[simp] def setAll : List Nat → List D → Ro → Ro
  | i :: is, d :: ds, ρ => setAll is ds (ρ.set i (.fz (.d d)))
  | _, _, ρ => ρ
/-- a target: the slots, in order -/
class LG (K : PySem.W.Frag) (g : TG) (is : outParam (List Nat)) (tup : outParam Bool) : Prop where
  one : tup = false → ∃ i, is = [i] ∧ g = gName i
  many : tup = true → ∀ (v : V) (σ : L2.St) (H : Hp) (Q : L2.St → Hp → Prop) (a : Addr) (vs : List V), v = .ref a → SqT K H a vs → vs.length = is.length → Q ((is.zip vs).foldl (fun σ p => σ.set p.1 (some p.2)) σ) H → g v σ H Q
class LGs (gs : TGs) (is : outParam (List Nat)) : Prop where
  s : ∀ (vs : List V) (σ : L2.St) (H : Hp) (Q : L2.St → Hp → Prop), vs.length = is.length → Q ((is.zip vs).foldl (fun σ p => σ.set p.1 (some p.2)) σ) H → gs vs σ H Q
instance : LGs gNil [] where
  s vs σ H Q hl q := by
    have e : vs = [] := List.length_eq_zero_iff.mp hl
    subst e
    exact ⟨rfl, q⟩
instance {i : Nat} {gs : TGs} {is : List Nat} [h : LGs gs is] : LGs (gCons (gName i) gs) (i :: is) where
  s vs σ H Q hl q := by
    match vs, hl with
    | v :: vs, hl => exact ⟨v, vs, rfl, h.s vs _ H Q (by simpa using hl) q⟩
instance {i : Nat} : LG K (gName i) [i] false where
  one _ := ⟨i, rfl, rfl⟩
  many z := by cases z
instance {k : Nat} {gs : TGs} {is : List Nat} [h : LGs gs is] [hk : HasLen is k] : LG K (gTup K k gs) is true where
  one z := by cases z
  many _ v σ H Q a vs e hs hl q := ⟨a, vs, e, hs, by rw [hl]; exact hk.e, h.s vs σ H Q hl q⟩
/-- what an item leaves in the slots -/
def giv (is : List Nat) : Bool → D → Ro → (Ro → Prop) → Prop
  | false, d, ρ, k => match is with
    | [i] => k (ρ.set i (.fz (.d d)))
    | _ => False
  | true, .tuple ds, ρ, k => if ds.length = is.length then k (setAll is ds ρ) else False
  | true, _, _, _ => False
@[simp] theorem giv_1 (i : Nat) (d : D) (ρ : Ro) (k : Ro → Prop) : giv [i] false d ρ k = k (ρ.set i (.fz (.d d))) := rfl
@[simp] theorem giv_t (is : List Nat) (ds : List D) (ρ : Ro) (k : Ro → Prop) : giv is true (.tuple ds) ρ k = (if ds.length = is.length then k (setAll is ds ρ) else False) := rfl
theorem setAll_ok {am : Am} {n : Nat} {H : Hp} {O : Addr → Prop} : ∀ {is : List Nat} {ds : List D} {vs : List V} {ρ : Ro} {σ : L2.St}, (∀ a, Hid am ρ σ a → O a) → Rl am ρ n σ H → RpAll am.K (cut O H) vs ds → ds.length = is.length → Rl am (setAll is ds ρ) n ((is.zip vs).foldl (fun σ p => σ.set p.1 (some p.2)) σ) H
  | [], [], _, _, _, _, h, r, _ => by
    cases r
    exact h
  | i :: is, d :: ds, _, ρ, σ, hO, h, r, hl => by
    cases r with
    | cons r1 r2 =>
      show Rl am (setAll is ds (ρ.set i (.fz (.d d)))) n _ H
      exact setAll_ok (σ := σ.set i (some _)) (fun a z => hO a (hid_set (fun ds z => by cases z) z)) (h.setFz i (u := .d d) (Rp.le (Le.cutSub hO) _ _ r1)) r2 (by simpa using hl)
theorem giv_ok {am : Am} {ρ : Ro} {n : Nat} {σ : L2.St} {H : Hp} {g : TG} {is : List Nat} {tup : Bool} (hg : LG am.K g is tup) (h : Rl am ρ n σ H) {O : Addr → Prop} (hO : ∀ a, Hid am ρ σ a → O a) {d : D} {v : V} (r : Rp am.K (cut O H) v d) {k : Ro → Prop} (hk : giv is tup d ρ k) {Q : L2.St → Hp → Prop} (fin : ∀ ρ' σ', k ρ' → Rl am ρ' n σ' H → Q σ' H) : g v σ H Q := by
  cases tup with
  | false =>
    obtain ⟨i, rfl, rfl⟩ := hg.one rfl
    exact fin _ _ hk (h.setFz i (u := .d d) (Rp.le (Le.cutSub hO) _ _ r))
  | true =>
    match d, hk with
    | .tuple ds, hk =>
      obtain ⟨hl, hk⟩ := if_pos' hk
      cases r with
      | tup a1 a2 => exact hg.many rfl _ σ H Q _ _ rfl (SqT.le Le.cutAll a1) (by rw [RpAll.len a2, hl]) (fin _ _ hk (setAll_ok hO h a2 hl))
@[simp ↓] def mSetT (S is : List Nat) (me : TE3) : TS3 := fun F ρ n e => me ρ n (fun _ u n1 => askT u fun ds => giv is true (.tuple ds) (if flatAll ds = true then ρ else dem S ρ) fun ρ' => F.nx ρ' n1) e
instance (priority := low) {te : TE} {g : TG} {S is : List Nat} {me : TE3} [he : LE K C TL E te S me] [hg : LG K g is true] : LS K C TL E (tAsg te g) (mSetT S is me) where
  s am ρ n σ H D F hE h en hm := by
    obtain ⟨rfl, rfl, rfl, rfl⟩ := id hE
    refine he.s am ρ n σ H hE h _ _ hm fun fr u n1 v H1 hq f1 w1 r1 => ?_
    have h1 := h.step f1 w1
    obtain ⟨ds, a, vs, rfl, rfl, a1, a2, hq⟩ := askT_rep hq r1.1
    by_cases fl : flatAll ds = true
    · rw [if_pos fl] at hq
      refine giv_ok hg h1 (O := Hid am ρ σ) (fun a z => z) (Rp.hide (fun p z => ?_) (.tuple ds) _ fl (Rp.tup a1 a2)) hq fun ρ' σ' k r => en.nx ρ' n1 σ' H1 k r
      rcases z with z | ⟨j, z⟩
      · exact .inl (.inl z)
      · exact .inr (h1.ownL z).2.1
    · rw [if_neg fl] at hq
      exact giv_ok hg (h1.dem S) (fun a z => z) (Rp.tup a1 a2) hq fun ρ' σ' k r => en.nx ρ' n1 σ' H1 k r
end
end V3
set_option Elab.async false
set_option linter.all false
set_option maxRecDepth 100000
set_option maxHeartbeats 4000000
namespace V3
open PySem PySem.Spec PyProof.Rows L2
/-! ### what a loop walks -/
abbrev TI3 := Ro → Nat → (List D → Nat → Prop) → (Addr → Prop) → Prop
/-- J gives the items ds, as long as what is not in O stands -/
def ItOk (am : Am) (O : Addr → Prop) (J : It) (ds : List D) (H' : Hp) : Prop :=
  ∀ (H2 : Hp) (O2 : Addr → Prop), Le (cut O H') (cut O2 H2) → (∀ a, O2 a → There H2 a) → ∀ i, (∀ d, ds[i]? = some d → J.go i H2 ∧ ∀ x H3, J.yld i H2 x H3 → Same H2 H3 ∧ Rp am.K (cut O2 H3) x d) ∧ (ds.length ≤ i → J.stop i H2)
class LI (K : PySem.W.Frag) (C : Addr) (TL : List (Addr × Str)) (E : XK) (wi : TI) (S : outParam (List Nat)) (m : outParam TI3) : Prop where
  s : ∀ (am : Am) (ρ : Ro) (n : Nat) (σ : L2.St) (H : Hp), am.K = K ∧ am.TL = TL ∧ am.E = E ∧ am.C = C → Rl am ρ n σ H → ∀ (R : It → Hp → Prop) (q : List D → Nat → Prop), m ρ n q am.e →
    (∀ ds n' J H', q ds n' → FrR am.R H H' → Wd am.R am.TL H' n' → ItOk am (Hid am (dem S ρ) σ) J ds H' → R J H') → wi σ H R
section
variable {K : PySem.W.Frag} {C : Addr} {TL : List (Addr × Str)} {E : XK}
theorem it_lst {am : Am} {O : Addr → Prop} {a : Addr} {vs : List V} {ds : List D} {H : Hp} (h : cut O H a = some (.lst vs)) (r : RpAll am.K (cut O H) vs ds) : ItOk am O (Itl am.K a) ds H := fun H2 O2 le _ i => by
  have h2 := (cut_some.mp (le _ _ (fun ps z => by cases z) h)).2
  have r2 := RpAll.le le _ _ r
  refine ⟨fun d e => ?_, fun e => ⟨vs, SqL.of h2, by rw [RpAll.len r]; exact e⟩⟩
  obtain ⟨v, q1, q2⟩ := RpAll.get r2 e
  refine ⟨⟨vs, v, SqL.of h2, q1⟩, fun x H3 y => ?_⟩
  obtain ⟨rfl, y2⟩ := y
  have e3 := y2 vs (SqL.of h2)
  rw [q1] at e3
  cases e3
  exact ⟨Same.refl _, q2⟩
theorem it_tup {am : Am} {O : Addr → Prop} {a : Addr} {vs : List V} {ds : List D} {H : Hp} (h : SqT am.K (cut O H) a vs) (r : RpAll am.K (cut O H) vs ds) : ItOk am O (Itt am.K a) ds H := fun H2 O2 le _ i => by
  have h2 := SqT.le Le.cutAll (SqT.le le h)
  have r2 := RpAll.le le _ _ r
  refine ⟨fun d e => ?_, fun e => ⟨vs, h2, by rw [RpAll.len r]; exact e⟩⟩
  obtain ⟨v, q1, q2⟩ := RpAll.get r2 e
  refine ⟨⟨vs, v, h2, q1⟩, fun x H3 y => ?_⟩
  obtain ⟨rfl, y2⟩ := y
  have e3 := y2 vs h2
  rw [q1] at e3
  cases e3
  exact ⟨Same.refl _, q2⟩
/-- a list or a tuple -/
def iSeq (K : PySem.W.Frag) (te : TE) : TI := fun σ H R => te σ H fun v H1 => ∃ a, v = .ref a ∧ (((∃ xs, SqL K H1 a xs) ∧ R (Itl K a) H1) ∨ ((∃ xs, SqT K H1 a xs) ∧ R (Itt K a) H1))
theorem pi_seq {X : Cx} {tg l : Expr} {tl : TE} (hl : PE X l tl) : PI X tg l (iSeq X.K tl) := by
  refine ⟨fun pins s σ H R I h => ?_⟩
  refine thn (hl.run pins s σ H _ I h) fun v s1 ⟨x, H1, I1, r1, a, e, q⟩ => ?_
  have pe : ∀ {t : TE}, (∀ Q, t σ H1 Q → Q (.ref a) H1) → True := fun _ => trivial
  rcases q with ⟨⟨xs, hq⟩, q⟩ | ⟨⟨xs, hq⟩, q⟩
  · subst e
    cases r1
    obtain ⟨its, rv, p, hz⟩ := I1.list hq
    refine wpAny_pyIter_list p.isList ?_
    refine ⟨s1.heap.objs.size, [s1.heap.objs.size], _, _, H1, rfl, I1.kept (t' := s1.toks) fun b o e => Heap.get?_push_of_some _ e, turn_list a _, ⟨_, Heap.get?_push_size _ rfl, rfl, rfl⟩, fun b hb => ?_, q⟩
    have e : b = s1.heap.objs.size := by simpa using hb
    subst e
    exact I1.fpOk (Nat.le_refl _) (I1.hok.fresh (Nat.le_refl _))
  · subst e
    cases r1
    obtain ⟨its, rv, p, hz⟩ := I1.tuple hq
    refine wpAny_pyIter_tuple (show s1.heap.IsTuple a its.toArray from p) ?_
    refine ⟨s1.heap.objs.size, [s1.heap.objs.size], _, _, H1, rfl, I1.kept (t' := s1.toks) fun b o e => Heap.get?_push_of_some _ e, turn_tuple a _, ⟨_, Heap.get?_push_size _ rfl, rfl, rfl⟩, fun b hb => ?_, q⟩
    have e : b = s1.heap.objs.size := by simpa using hb
    subst e
    exact I1.fpOk (Nat.le_refl _) (I1.hok.fresh (Nat.le_refl _))
def askS : U → (List D → Prop) → Prop
  | .d (.list i), k => k i
  | .d (.tuple i), k => k i
  | _, _ => False
@[simp] theorem askS_l (i : List D) (k : List D → Prop) : askS (.d (.list i)) k = k i := rfl
@[simp] theorem askS_t (i : List D) (k : List D → Prop) : askS (.d (.tuple i)) k = k i := rfl
@[simp ↓] def mISeq (me : TE3) : TI3 := fun ρ n q e => me ρ n (fun _ u n1 => askS u fun ds => q ds n1) e
instance {te : TE} {S : List Nat} {me : TE3} [he : LE K C TL E te S me] : LI K C TL E (iSeq K te) S (mISeq me) where
  s am ρ n σ H hE h R q hm k := by
    obtain ⟨rfl, rfl, rfl, rfl⟩ := id hE
    refine he.s am ρ n σ H hE h _ _ hm fun fr u n1 v H1 hq f1 w1 r1 => ?_
    match u, hq, r1.1 with
    | .d (.list ds), hq, r =>
      cases r with
      | lst a1 a2 => exact ⟨_, rfl, .inl ⟨⟨_, SqL.of (cut_some.mp a1).2⟩, k ds n1 _ H1 hq f1 w1 (it_lst a1 a2)⟩⟩
    | .d (.tuple ds), hq, r =>
      cases r with
      | tup a1 a2 => exact ⟨_, rfl, .inr ⟨⟨_, SqT.le Le.cutAll a1⟩, k ds n1 _ H1 hq f1 w1 (it_tup a1 a2)⟩⟩
/-- the numbers from lo on, k of them -/
def upFrom (lo : Int) (k : Nat) : List D := (List.range k).map fun i => .int (lo + (i : Nat))
theorem it_rng {am : Am} {O : Addr → Prop} {lo : Int} {k : Nat} {H : Hp} : ItOk am O (Itr lo k) (upFrom lo k) H := fun H2 O2 le _ i => by
  unfold upFrom
  refine ⟨fun d e => ?_, fun e => ?_⟩
  · rw [List.getElem?_map] at e
    cases q : (List.range k)[i]? with
    | none =>
      rw [q] at e
      cases e
    | some j =>
      rw [q] at e
      cases e
      obtain ⟨hi, hj⟩ := List.getElem?_eq_some_iff.mp q
      rw [List.length_range] at hi
      rw [List.getElem_range] at hj
      subst hj
      refine ⟨hi, fun x H3 y => ?_⟩
      obtain ⟨rfl, rfl⟩ := y
      exact ⟨Same.refl _, .int _⟩
  · rw [List.length_map, List.length_range] at e
    exact e
@[simp ↓] def mIRng1 (ma : TA3) : TI3 := fun ρ n q e => ma ρ n (fun us n1 => match us with
  | [.d (.int j)] => (-(2 ^ 62) ≤ j ∧ j < 2 ^ 62) ∧ q (upFrom 0 j.toNat) n1
  | _ => False) e
instance {ta : TA} {S : List Nat} {ma : TA3} [ha : LA K C TL E ta S ma] : LI K C TL E (iRng1 ta) [] (mIRng1 ma) where
  s am ρ n σ H hE h R q hm k := by
    refine ha.s am ρ n σ H hE h _ _ hm fun us n1 vs H1 hq f1 w1 r1 => ?_
    match us, hq, r1 with
    | [.d (.int j)], hq, .cons r .nil =>
      cases r
      exact ⟨j, rfl, hq.1.1, hq.1.2, k _ n1 _ H1 hq.2 f1 w1 it_rng⟩
@[simp ↓] def mIRng2 (ma : TA3) : TI3 := fun ρ n q e => ma ρ n (fun us n1 => match us with
  | [.d (.int i), .d (.int j)] => (-(2 ^ 62) ≤ i ∧ i < 2 ^ 62 ∧ -(2 ^ 62) ≤ j ∧ j < 2 ^ 62) ∧ q (upFrom i (j - i).toNat) n1
  | _ => False) e
instance {ta : TA} {S : List Nat} {ma : TA3} [ha : LA K C TL E ta S ma] : LI K C TL E (iRng2 ta) [] (mIRng2 ma) where
  s am ρ n σ H hE h R q hm k := by
    refine ha.s am ρ n σ H hE h _ _ hm fun us n1 vs H1 hq f1 w1 r1 => ?_
    match us, hq, r1 with
    | [.d (.int i), .d (.int j)], hq, .cons r (.cons r2 .nil) =>
      cases r
      cases r2
      exact ⟨i, j, rfl, hq.1, k _ n1 _ H1 hq.2 f1 w1 it_rng⟩
/-! ### for -/
@[simp] def forL (is : List Nat) (tup : Bool) (mb : TS3) (F : En3) (e : Addr → Prop) : List D → Ro → Nat → Prop
  | [], ρ, n => F.nx ρ n
  | d :: ds, ρ, n => giv is tup d ρ fun ρ' => mb { F with nx := forL is tup mb F e ds, ct := forL is tup mb F e ds, bk := F.nx } ρ' n e
@[simp ↓] def mFor (S is : List Nat) (tup : Bool) (mi : TI3) (mb : TS3) : TS3 := fun F ρ n e => mi ρ n (fun ds n1 => forL is tup mb F e ds (dem S ρ) n1) e
/-- the loop's own start -/
def loopAm (am : Am) (ρ : Ro) (σ : L2.St) (H : Hp) : Am := { am with Hs := H, O0 := fun a => (∃ d g c, am.R.dr = some (d, g, c) ∧ (a = d ∨ a = g)) ∨ ∃ i, OwnAt ρ σ i a }
theorem loop_gr {am : Am} {ρ : Ro} {n : Nat} {σ : L2.St} {H H' : Hp} (h : Rl am ρ n σ H) (g : Gr (loopAm am ρ σ H) H') : Gr am H' := ⟨fun b o h1 h2 e => by
  refine g.1 b o (fun z => ?_) h2 (h.gr.1 b o h1 h2 e)
  rcases z with ⟨d, g', c, q, z⟩ | ⟨i, z⟩
  · obtain ⟨a1, a2⟩ := h.od d g' c q
    rcases z with z | z
    · exact h1 (z ▸ a1)
    · exact h1 (z ▸ a2)
  · rcases (h.ownL z).1 with y | y
    · exact y ⟨o, e, h2⟩
    · exact h1 y, fun b z => g.2 b (h.gr.2 b z)⟩
theorem loop_in {am : Am} {ρ : Ro} {n : Nat} {σ : L2.St} {H : Hp} (h : Rl am ρ n σ H) : Rl (loopAm am ρ σ H) ρ n σ H where
  len := h.len
  fz := h.fz
  ow i ds e := by
    obtain ⟨p, vs, q1, q2, q3, q4⟩ := h.ow i ds e
    exact ⟨p, vs, q1, ⟨.inr (.inr ⟨i, ⟨ds, e⟩, q1⟩), q2.2⟩, q3, q4⟩
  nd := h.nd
  od d g c q := ⟨.inl ⟨d, g, c, q, .inl rfl⟩, .inl ⟨d, g, c, q, .inr rfl⟩⟩
  gr := ⟨fun _ _ _ _ e => e, fun _ e => e⟩
  wd := h.wd
  ex C' H' n' g w e := h.ex C' H' n' (loop_gr h g) w e
theorem loop_new {am : Am} {ρ : Ro} {n : Nat} {σ : L2.St} {H : Hp} (h : Rl am ρ n σ H) {p : Addr} (z : (New H p ∨ (loopAm am ρ σ H).O0 p) ∧ ¬ am.R.hid p) : (New am.Hs p ∨ am.O0 p) ∧ ¬ am.R.hid p := by
  refine ⟨?_, z.2⟩
  rcases z.1 with y | ⟨d, g, c, q, y⟩ | ⟨i, y⟩
  · exact (by
      by_cases o : am.O0 p
      · exact .inr o
      · exact .inl fun ⟨x, q1, q2⟩ => y ⟨x, h.gr.1 p x o q2 q1, q2⟩)
  · obtain ⟨a1, a2⟩ := h.od d g c q
    rcases y with y | y
    · exact .inr (y ▸ a1)
    · exact .inr (y ▸ a2)
  · exact (h.ownL y).1
theorem loop_out {am : Am} {ρ ρ2 : Ro} {n n2 : Nat} {σ σ2 : L2.St} {H H2 : Hp} (h : Rl am ρ n σ H) (g : Rl (loopAm am ρ σ H) ρ2 n2 σ2 H2) : Rl am ρ2 n2 σ2 H2 where
  len := g.len
  fz := g.fz
  ow i ds e := by
    obtain ⟨p, vs, q1, q2, q3, q4⟩ := g.ow i ds e
    exact ⟨p, vs, q1, loop_new h q2, q3, q4⟩
  nd := g.nd
  od := h.od
  gr := loop_gr h g.gr
  wd := g.wd
  ex := h.ex
theorem loop_en {am : Am} {ρ : Ro} {n : Nat} {σ : L2.St} {H : Hp} {D : Ends} {F : En3} (h : Rl am ρ n σ H) (en : EnR am D F) : EnR (loopAm am ρ σ H) D F where
  nx ρ' n' σ' H' q r := en.nx ρ' n' σ' H' q (loop_out h r)
  bk ρ' n' σ' H' q r := en.bk ρ' n' σ' H' q (loop_out h r)
  ct ρ' n' σ' H' q r := en.ct ρ' n' σ' H' q (loop_out h r)
  rt fr u n' v H' q g w r := en.rt fr u n' v H' q (loop_gr h g) w ⟨r.1, fun z => by
    obtain ⟨p, vs, ds, a1, a2, a3, a4, a5⟩ := r.2 z
    exact ⟨p, vs, ds, a1, a2, loop_new h a3, a4, a5⟩⟩
theorem loop_le {am : Am} {ρ ρ2 : Ro} {n n2 : Nat} {σ σ2 : L2.St} {H H2 : Hp} (h : Rl am ρ n σ H) (g : Rl (loopAm am ρ σ H) ρ2 n2 σ2 H2) : Le (cut (Hid am ρ σ) H) (cut (Hid am ρ σ) H2) ∧ ∀ a, Hid am ρ σ a → There H2 a := by
  refine ⟨Le.cut (fun a z => .inl z) fun a o hn t e => g.gr.1 a o (fun z => ?_) t e, fun a z => g.gr.2 a (h.hidThere z)⟩
  rcases z with ⟨d, g', c, q, z⟩ | ⟨i, z⟩
  · obtain ⟨a1, a2, _, _⟩ := h.wd.dr d g' c q
    rcases z with z | z
    · exact hn (.inl (z ▸ a1))
    · exact hn (.inl (z ▸ a2))
  · exact hn (.inr ⟨i, z⟩)
instance {wi : TI} {g : TG} {tb : TS} {S is : List Nat} {tup : Bool} {mi : TI3} {mb : TS3} [hi : LI K C TL E wi S mi] [hg : LG K g is tup] [hb : LS K C TL E tb mb] : LS K C TL E (tFor wi g tb) (mFor S is tup mi mb) where
  s am ρ n σ H D F hE h en hm := by
    obtain ⟨rfl, rfl, rfl, rfl⟩ := id hE
    refine hi.s am ρ n σ H hE h _ _ hm fun ds n1 J H1 hq f1 w1 it => ?_
    have h1 := (h.step f1 w1).dem S
    have hE' : (loopAm am (dem S ρ) σ H1).K = am.K ∧ (loopAm am (dem S ρ) σ H1).TL = am.TL ∧ (loopAm am (dem S ρ) σ H1).E = am.E ∧ (loopAm am (dem S ρ) σ H1).C = am.C := ⟨rfl, rfl, rfl, rfl⟩
    refine ⟨fun i m σ2 H2 => m = ds.length - i ∧ i ≤ ds.length ∧ ∃ ρ2 n2, forL is tup mb F am.e (ds.drop i) ρ2 n2 ∧ Rl (loopAm am (dem S ρ) σ H1) ρ2 n2 σ2 H2, ⟨ds.length, by simp, Nat.zero_le _, dem S ρ, n1, hq, loop_in h1⟩, fun i m σ2 H2 w => ?_⟩
    obtain ⟨rfl, hi', ρ2, n2, hf, r2⟩ := w
    have nd : ∀ a, Hid (loopAm am (dem S ρ) σ H1) ρ2 σ2 a → (Hid am (dem S ρ) σ a ∨ New H1 a) := fun a z => by
      rcases z with z | ⟨j, z⟩
      · exact .inl (.inl z)
      · rcases (r2.ownL z).1 with y | ⟨d, g', c, q, y⟩ | y
        · exact .inr y
        · obtain ⟨a1, a2, _, _⟩ := h1.wd.dr d g' c q
          rcases y with y | y
          · exact .inl (.inl (y ▸ a1))
          · exact .inl (.inl (y ▸ a2))
        · exact .inl (.inr y)
    have le : Le (cut (Hid am (dem S ρ) σ) H1) (cut (Hid (loopAm am (dem S ρ) σ H1) ρ2 σ2) H2) := Le.cut nd fun a o hn t e => (cut_some.mp ((loop_le h1 r2).1 a o t (cut_some.mpr ⟨hn, e⟩))).2
    obtain ⟨it1, it2⟩ := it H2 _ le (fun a z => r2.hidThere z) i
    by_cases hlt : i < ds.length
    · have e : ds[i]? = some ds[i] := List.getElem?_eq_getElem hlt
      obtain ⟨go, y⟩ := it1 _ e
      refine .inr ⟨go, fun σ' H' => ∃ ρ' n', forL is tup mb F am.e (ds.drop (i + 1)) ρ' n' ∧ Rl (loopAm am (dem S ρ) σ H1) ρ' n' σ' H', fun σ' H' p => ⟨ds.length - (i + 1), by omega, rfl, hlt, p⟩, fun x H3 yl => ?_⟩
      obtain ⟨sm, rx⟩ := y x H3 yl
      rw [List.drop_eq_getElem_cons hlt] at hf
      have r3 := r2.step (FrR.of sm) (r2.wd.same sm)
      have r3' := r3
      refine giv_ok (am := loopAm am (dem S ρ) σ H1) hg r3 (O := Hid (loopAm am (dem S ρ) σ H1) ρ2 σ2) (fun a z => z) rx hf fun ρ4 σ4 hk r4 => ?_
      refine hb.s (loopAm am (dem S ρ) σ H1) ρ4 n2 σ4 H3 _ { F with nx := forL is tup mb F am.e (ds.drop (i + 1)), ct := forL is tup mb F am.e (ds.drop (i + 1)), bk := F.nx } hE' r4 ⟨fun ρ' n' σ' H' q r => ⟨ρ', n', q, r⟩, fun ρ' n' σ' H' q r => en.nx ρ' n' σ' H' q (loop_out h1 r), fun ρ' n' σ' H' q r => ⟨ρ', n', q, r⟩, (loop_en h1 en).rt⟩ hk
    · have e : i = ds.length := by omega
      subst e
      rw [List.drop_length] at hf
      exact .inl ⟨it2 (Nat.le_refl _), en.nx ρ2 n2 σ2 H2 hf (loop_out h1 r2)⟩
/-! ### comprehensions -/
@[simp] def lcL (is : List Nat) (tup : Bool) (mt : TT3) (me : TE3) (ρ : Ro) (e : Addr → Prop) : List D → Nat → (List D → Nat → Prop) → Prop
  | [], n, q => q [] n
  | d :: ds, n, q => giv is tup d ρ fun ρ' => mt ρ' n (fun b n1 => if b = true then me ρ' n1 (fun _ u n2 => match u with
    | .d x => lcL is tup mt me ρ e ds n2 fun xs n3 => q (x :: xs) n3
    | _ => False) e else lcL is tup mt me ρ e ds n1 q) e
@[simp] def wipe3 (ρ : Ro) : List Nat → Ro
  | [] => ρ
  | v :: vs => (wipe3 ρ vs).set v .no
theorem wipe_ok {am : Am} {ρ : Ro} {n : Nat} {σ : L2.St} {H : Hp} (h : Rl am ρ n σ H) : ∀ vs : List Nat, Rl am (wipe3 ρ vs) n (wipe σ vs) H
  | [] => h
  | v :: vs => (wipe_ok h vs).setNo v none
theorem wipe_hid {am : Am} {ρ : Ro} {σ : L2.St} {a : Addr} : ∀ {vs : List Nat}, Hid am (wipe3 ρ vs) (wipe σ vs) a → Hid am ρ σ a
  | [], h => h
  | v :: vs, h => wipe_hid (vs := vs) (hid_set (fun ds z => by cases z) h)
theorem wipe_set {σ : L2.St} {i : Nat} {x : Option V} : ∀ {vs : List Nat}, i ∈ vs → wipe (σ.set i x) vs = wipe σ vs
  | [], h => by cases h
  | v :: vs, h => by
    show (wipe (σ.set i x) vs).set v none = (wipe σ vs).set v none
    by_cases e : i = v
    · subst e
      have q : ∀ ws : List Nat, (wipe (σ.set i x) ws).set i none = (wipe σ ws).set i none := fun ws => by
        induction ws with
        | nil =>
          show (σ.set i x).set i none = σ.set i none
          rw [List.set_set]
        | cons w ws ih =>
          show ((wipe (σ.set i x) ws).set w none).set i none = ((wipe σ ws).set w none).set i none
          by_cases z : w = i
          · subst z
            rw [List.set_set, List.set_set, ih]
          · rw [List.set_comm _ _ z, List.set_comm _ _ z, ih]
      exact q vs
    · rcases List.mem_cons.mp h with z | z
      · exact absurd z e
      · rw [wipe_set z]
theorem wipe_fold {vs is : List Nat} (hs : ∀ i ∈ is, i ∈ vs) : ∀ {xs : List V} {σ : L2.St}, wipe ((is.zip xs).foldl (fun σ p => σ.set p.1 (some p.2)) σ) vs = wipe σ vs := by
  induction is with
  | nil =>
    intro xs σ
    rfl
  | cons i is ih =>
    intro xs σ
    cases xs with
    | nil => rfl
    | cons x xs =>
      show wipe ((is.zip xs).foldl _ (σ.set i (some x))) vs = _
      rw [ih fun j hj => hs j (List.mem_cons_of_mem _ hj), wipe_set (hs i (List.mem_cons_self ..))]
theorem wipe_idem (σ : L2.St) (vs : List Nat) : wipe (wipe σ vs) vs = wipe σ vs := by
  have q : ∀ ws : List Nat, (∀ w ∈ ws, w ∈ vs) → wipe (wipe σ ws) vs = wipe σ vs := fun ws => by
    induction ws with
    | nil => intro _; rfl
    | cons w ws ih =>
      intro h
      show wipe ((wipe σ ws).set w none) vs = _
      rw [wipe_set (h w (List.mem_cons_self ..)), ih fun z hz => h z (List.mem_cons_of_mem _ hz)]
  exact q vs fun _ z => z
/-- as giv_ok, with what the frame is behind it -/
theorem giv_ok2 {am : Am} {ρ : Ro} {n : Nat} {σ : L2.St} {H : Hp} {g : TG} {is : List Nat} {tup : Bool} (hg : LG am.K g is tup) (h : Rl am ρ n σ H) {O : Addr → Prop} (hO : ∀ a, Hid am ρ σ a → O a) {d : D} {v : V} (r : Rp am.K (cut O H) v d) {k : Ro → Prop} (hk : giv is tup d ρ k) {Q : L2.St → Hp → Prop} {vs : List Nat} (hv : ∀ i ∈ is, i ∈ vs) (fin : ∀ ρ' σ', k ρ' → Rl am ρ' n σ' H → (∀ i, i ∉ vs → ρ'[i]? = ρ[i]?) → wipe σ' vs = wipe σ vs → Q σ' H) : g v σ H Q := by
  cases tup with
  | false =>
    obtain ⟨i, rfl, rfl⟩ := hg.one rfl
    exact fin _ _ hk (h.setFz i (u := .d d) (Rp.le (Le.cutSub hO) _ _ r)) (fun j hj => List.getElem?_set_ne fun z => hj (by rw [← z]; exact hv i (List.mem_singleton.mpr rfl))) (wipe_set (hv i (List.mem_singleton.mpr rfl)))
  | true =>
    match d, hk with
    | .tuple ds, hk =>
      obtain ⟨hl, hk⟩ := if_pos' hk
      cases r with
      | tup a1 a2 =>
        refine hg.many rfl _ σ H Q _ _ rfl (SqT.le Le.cutAll a1) (by rw [RpAll.len a2, hl]) (fin _ _ hk (setAll_ok hO h a2 hl) ?_ (wipe_fold hv))
        have q : ∀ (is : List Nat) (ds : List D) (ρ : Ro), (∀ i ∈ is, i ∈ vs) → ∀ j, j ∉ vs → (setAll is ds ρ)[j]? = ρ[j]? := fun is => by
          induction is with
          | nil =>
            intro ds ρ _ j _
            cases ds <;> rfl
          | cons i is ih =>
            intro ds ρ hs j hj
            cases ds with
            | nil => rfl
            | cons d ds =>
              show (setAll is ds (ρ.set i (.fz (.d d))))[j]? = _
              rw [ih ds _ (fun k hk => hs k (List.mem_cons_of_mem _ hk)) j hj]
              exact List.getElem?_set_ne fun z => hj (by rw [← z]; exact hs i (List.mem_cons_self ..))
        exact q is ds ρ hv
theorem wipe_get {σ : L2.St} : ∀ {vs : List Nat} {i : Nat}, i ∉ vs → (wipe σ vs)[i]? = σ[i]?
  | [], _, _ => rfl
  | v :: vs, i, h => by
    show ((wipe σ vs).set v none)[i]? = _
    rw [List.getElem?_set_ne fun z => h (by rw [z]; exact List.mem_cons_self ..), wipe_get fun z => h (List.mem_cons_of_mem _ z)]
theorem wipe3_get {ρ : Ro} : ∀ {vs : List Nat} {i : Nat}, i ∉ vs → (wipe3 ρ vs)[i]? = ρ[i]?
  | [], _, _ => rfl
  | v :: vs, i, h => by
    show ((wipe3 ρ vs).set v .no)[i]? = _
    rw [List.getElem?_set_ne fun z => h (by rw [z]; exact List.mem_cons_self ..), wipe3_get fun z => h (List.mem_cons_of_mem _ z)]
/-- within a comprehension: its list is hidden, nothing is raised -/
def lcAm (am : Am) (Dl : Addr) : Am := { am with R := { am.R with hid := fun a => am.R.hid a ∨ a = Dl }, Hs := fun _ => none, O0 := fun a => ∃ d g c, am.R.dr = some (d, g, c) ∧ (a = d ∨ a = g), e := fun _ => False }
theorem lc_fr {am : Am} {Dl : Addr} {H H' : Hp} : FrR (lcAm am Dl).R H H' ↔ FrR am.R H H' := Iff.rfl
theorem lc_rep {am : Am} {Dl : Addr} {O : Addr → Prop} {H : Hp} {v : V} {u : U} : RepU (lcAm am Dl) O H v u ↔ RepU am O H v u := by
  cases u <;> exact Iff.rfl
theorem lc_hid {am : Am} {Dl : Addr} {ρ : Ro} {σ : L2.St} {a : Addr} : Hid (lcAm am Dl) ρ σ a ↔ (a = Dl ∨ Hid am ρ σ a) := by
  constructor
  · intro z
    rcases z with (z | z) | z
    · exact .inr (.inl z)
    · exact .inl z
    · exact .inr (.inr z)
  · intro z
    rcases z with z | z | z
    · exact .inl (.inr z)
    · exact .inl (.inl z)
    · exact .inr z
theorem lc_in {am : Am} {ρ : Ro} {n : Nat} {σ : L2.St} {H : Hp} (h : Rl am ρ n σ H) {Dl : Addr} (hD : H Dl = none) : Rl (lcAm am Dl) ρ n σ (upd H Dl (.lst [])) := by
  have L : Le (cut (Hid am ρ σ) H) (cut (Hid (lcAm am Dl) ρ σ) (upd H Dl (.lst []))) := Le.cut (fun a z => by
    rcases lc_hid.mp z with z | z
    · exact .inr (z ▸ .of hD)
    · exact .inl z) fun a o _ _ e => same_new hD a o e
  have w := h.wd.same (same_new (o := .lst []) hD)
  exact {
    len := h.len
    fz := fun i u e => by
      obtain ⟨v, q1, q2⟩ := h.fz i u e
      exact ⟨v, q1, lc_rep.mpr (q2.le L)⟩
    ow := fun i ds e => by
      obtain ⟨p, vs, q1, q2, q3, q4⟩ := h.ow i ds e
      refine ⟨p, vs, q1, ⟨.inl fun ⟨o, z, _⟩ => (by cases z), fun z => ?_⟩, same_new hD _ _ q3, RpAll.le L _ _ q4⟩
      rcases z with z | z
      · exact q2.2 z
      · rw [z, hD] at q3
        cases q3
    nd := h.nd
    od := fun d g c q => ⟨⟨d, g, c, q, .inl rfl⟩, ⟨d, g, c, q, .inr rfl⟩⟩
    gr := ⟨fun _ _ _ _ z => (by cases z), fun _ ⟨_, z, _⟩ => (by cases z)⟩
    wd := {
      hid := fun a z => by
        rcases z with z | z
        · exact w.hid a z
        · exact z ▸ .lst upd_same
      tabs := w.tabs
      dr := fun d g c q => by
        obtain ⟨a1, a2, a3, r⟩ := w.dr d g c q
        exact ⟨.inl a1, .inl a2, .inl a3, r⟩ }
    ex := fun _ _ _ _ _ z => z.elim }
/-- the comprehension's list is written -/
theorem lc_write {am : Am} {ρ : Ro} {n : Nat} {σ : L2.St} {H : Hp} {Dl : Addr} (hd : ∀ d g c, am.R.dr = some (d, g, c) → Dl ≠ d ∧ Dl ≠ g ∧ Dl ≠ c) (h : Rl (lcAm am Dl) ρ n σ H) {xs ys : List V} (e : H Dl = some (.lst xs)) : Rl (lcAm am Dl) ρ n σ (upd H Dl (.lst ys)) := by
  have L : Le (cut (Hid (lcAm am Dl) ρ σ) H) (cut (Hid (lcAm am Dl) ρ σ) (upd H Dl (.lst ys))) := Le.cut (fun a z => .inl z) fun a o hn t e => by
    have ne : a ≠ Dl := fun z => hn (lc_hid.mpr (.inl z))
    rw [upd_ne ne]
    exact e
  exact {
    len := h.len
    fz := fun i u e => by
      obtain ⟨v, q1, q2⟩ := h.fz i u e
      exact ⟨v, q1, q2.le L⟩
    ow := fun i ds e => by
      obtain ⟨p, vs, q1, q2, q3, q4⟩ := h.ow i ds e
      have ne : p ≠ Dl := fun z => q2.2 (.inr z)
      exact ⟨p, vs, q1, q2, by rw [upd_ne ne]; exact q3, RpAll.le L _ _ q4⟩
    nd := h.nd
    od := h.od
    gr := ⟨fun _ _ _ _ z => (by cases z), fun _ ⟨_, z, _⟩ => (by cases z)⟩
    wd := {
      hid := fun a z => by
        by_cases ne : a = Dl
        · exact ne ▸ .lst upd_same
        · obtain ⟨o, q1, q2⟩ := h.wd.hid a z
          exact ⟨o, by rw [upd_ne ne]; exact q1, q2⟩
      tabs := tabs_keep (fun b o h1 _ q => by
        have ne : b ≠ Dl := fun z => by
          rw [z, e] at q
          cases q
          exact h1 _ rfl
        rw [upd_ne ne]
        exact q) h.wd.tabs
      dr := fun d g c q => by
        obtain ⟨a1, a2, a3, t, ht, hr⟩ := h.wd.dr d g c q
        refine ⟨a1, a2, a3, t, ht, hr.same fun b o hb q' => ?_⟩
        have ne : b ≠ Dl := fun z => by
          obtain ⟨b1, b2, b3⟩ := hd d g c q
          rcases hb with y | y | y
          · exact b1 (z.symm.trans y)
          · exact b2 (z.symm.trans y)
          · exact b3 (z.symm.trans y)
        rw [upd_ne ne]
        exact q' }
    ex := fun _ _ _ _ _ z => z.elim }
class SubL (is vs : List Nat) : Prop where
  h : ∀ i ∈ is, i ∈ vs
instance {vs : List Nat} : SubL vs vs := ⟨fun _ z => z⟩
instance {a : Str} {i : Nat} : SubL [i] (List.map (fun (x : Str × Nat) => x.snd) [(a, i)]) := ⟨fun _ z => z⟩
instance {a b : Str} {i j : Nat} : SubL [i, j] (List.map (fun (x : Str × Nat) => x.snd) [(a, i), (b, j)]) := ⟨fun _ z => z⟩
instance {a b c : Str} {i j k : Nat} : SubL [i, j, k] (List.map (fun (x : Str × Nat) => x.snd) [(a, i), (b, j), (c, k)]) := ⟨fun _ z => z⟩
instance {a b c d : Str} {i j k l : Nat} : SubL [i, j, k, l] (List.map (fun (x : Str × Nat) => x.snd) [(a, i), (b, j), (c, k), (d, l)]) := ⟨fun _ z => z⟩
@[simp ↓] def mLc (Si is vs : List Nat) (tup : Bool) (mi : TI3) (mt : TT3) (me : TE3) : TE3 := fun ρ n q e => mi ρ n (fun ds n1 => ds.length < sizeLine ∧ lcL is tup mt me (wipe3 (dem Si ρ) vs) (fun _ => False) ds n1 (fun xs n2 => q true (.d (.list xs)) n2)) e
instance {wi : TI} {g : TG} {tt : TT} {te : TE} {vs : List Nat} {Si Se is : List Nat} {tup : Bool} {mi : TI3} {mt : TT3} {me : TE3} [hi : LI K C TL E wi Si mi] [hg : LG K g is tup] [hsub : SubL is vs] [ht : LT K C TL E tt mt] [he : LE K C TL E te Se me] : LE K C TL E (tLc wi g tt te vs) (Si ++ (Se ++ vs)) (mLc Si is vs tup mi mt me) where
  s am ρ n σ H hE h Q q hm k := by
    obtain ⟨rfl, rfl, rfl, rfl⟩ := id hE
    refine hi.s am ρ n σ H hE h _ _ hm fun ds n1 J H1 hq f1 w1 it => ?_
    obtain ⟨hz, hq⟩ := hq
    have h1 := h.step f1 w1
    have h1d := h1.dem Si
    intro Dl hD
    have hE' : (lcAm am Dl).K = am.K ∧ (lcAm am Dl).TL = am.TL ∧ (lcAm am Dl).E = am.E ∧ (lcAm am Dl).C = am.C := ⟨rfl, rfl, rfl, rfl⟩
    have hd : ∀ d g c, am.R.dr = some (d, g, c) → Dl ≠ d ∧ Dl ≠ g ∧ Dl ≠ c := fun d g' c q' => by
      obtain ⟨a1, a2, a3, _⟩ := w1.dr d g' c q'
      have nh : ∀ a, am.R.hid a → Dl ≠ a := fun a ha z => (New.of hD) (z ▸ w1.hid a ha)
      exact ⟨nh d a1, nh g' a2, nh c a3⟩
    have nd : New H1 Dl := .of hD
    have h0 := wipe_ok (lc_in h1d hD) vs
    have fD : FrR am.R H1 (upd H1 Dl (.lst [])) := .of (same_new hD)
    -- what is hidden from the items made
    have sub : ∀ (ρ' : Ro) (σ' : L2.St), (∀ i, i ∉ vs → ρ'[i]? = (wipe3 (dem Si ρ) vs)[i]?) → (∀ i, i ∉ vs → σ'[i]? = σ[i]?) → ∀ a, (a = Dl ∨ Hid am (dem (Si ++ (Se ++ vs)) ρ) σ a) → Hid (lcAm am Dl) (dem Se ρ') σ' a := fun ρ' σ' e1 e2 a z => by
      rcases z with z | z | ⟨i, z⟩
      · exact lc_hid.mpr (.inl z)
      · exact lc_hid.mpr (.inr (.inl z))
      · obtain ⟨⟨⟨es, y1⟩, y2⟩, ni⟩ := ownDem z
        have n1 : i ∉ Si := fun y => ni (List.mem_append_left _ y)
        have n2 : i ∉ Se := fun y => ni (List.mem_append_right _ (List.mem_append_left _ y))
        have n3 : i ∉ vs := fun y => ni (List.mem_append_right _ (List.mem_append_right _ y))
        refine .inr ⟨i, ⟨es, ?_⟩, by rw [e2 i n3]; exact y2⟩
        rw [dem_get, e1 i n3, wipe3_get n3, dem_get, y1]
        show some (if i ∈ Se then _ else (if i ∈ Si then _ else _)) = _
        rw [if_neg n2, if_neg n1]
    refine ⟨fun i m H2 => m = ds.length - i ∧ i ≤ ds.length ∧ ∃ n2 acc xs, H2 Dl = some (.lst acc) ∧ acc.length ≤ i ∧ RpAll am.K (cut (fun a => a = Dl ∨ Hid am (dem (Si ++ (Se ++ vs)) ρ) σ a) H2) acc xs ∧ FrR am.R H1 H2 ∧ Rl (lcAm am Dl) (wipe3 (dem Si ρ) vs) n2 (wipe σ vs) H2 ∧
      lcL is tup mt me (wipe3 (dem Si ρ) vs) (fun _ => False) (ds.drop i) n2 (fun ys n3 => q true (.d (.list (xs ++ ys))) n3), ⟨ds.length, by simp, Nat.zero_le _, n1, [], [], upd_same, Nat.le_refl _, .nil, fD, h0, hq⟩, fun i m H2 w => ?_⟩
    obtain ⟨rfl, hi', n2, acc, xs, eD, la, ra, fr, r2, hf⟩ := w
    have leO : Le (cut (Hid am (dem Si ρ) σ) H1) (cut (Hid (lcAm am Dl) (wipe3 (dem Si ρ) vs) (wipe σ vs)) H2) := Le.cut (fun a z => by
      rcases lc_hid.mp (wipe_hid z) with z | z
      · exact .inr (z ▸ nd)
      · exact .inl z) fun a o hn t e => fr.1 a o (fun d g' c q' => by
        obtain ⟨a1, a2, _, _⟩ := w1.dr d g' c q'
        exact ⟨fun z => hn (.inl (z ▸ a1)), fun z => hn (.inl (z ▸ a2))⟩) t e
    obtain ⟨it1, it2⟩ := it H2 _ leO (fun a z => r2.hidThere z) i
    by_cases hlt : i < ds.length
    · have e : ds[i]? = some ds[i] := List.getElem?_eq_getElem hlt
      obtain ⟨go, y⟩ := it1 _ e
      rw [List.drop_eq_getElem_cons hlt] at hf
      refine .inr ⟨go, fun H' => i + 1 ≤ ds.length ∧ ∃ n2 acc xs, H' Dl = some (.lst acc) ∧ acc.length ≤ i + 1 ∧ RpAll am.K (cut (fun a => a = Dl ∨ Hid am (dem (Si ++ (Se ++ vs)) ρ) σ a) H') acc xs ∧ FrR am.R H1 H' ∧ Rl (lcAm am Dl) (wipe3 (dem Si ρ) vs) n2 (wipe σ vs) H' ∧
        lcL is tup mt me (wipe3 (dem Si ρ) vs) (fun _ => False) (ds.drop (i + 1)) n2 (fun ys n3 => q true (.d (.list (xs ++ ys))) n3), fun H' p => ⟨ds.length - (i + 1), by omega, rfl, p⟩, fun x H3 yl => ?_⟩
      obtain ⟨sm, rx⟩ := y x H3 yl
      have r3 := r2.step (FrR.of sm) (r2.wd.same sm)
      refine giv_ok2 (am := lcAm am Dl) hg r3 (O := Hid (lcAm am Dl) (wipe3 (dem Si ρ) vs) (wipe σ vs)) (fun a z => z) rx hf hsub.h fun ρ4 σ4 hk r4 eρ eσ => ⟨eσ.trans (wipe_idem σ vs) |>.trans rfl, ?_⟩
      have eσ2 : ∀ i, i ∉ vs → σ4[i]? = σ[i]? := fun i hi => by
        have z1 := wipe_get (σ := σ4) hi
        have z2 := wipe_get (σ := wipe σ vs) hi
        have z3 := wipe_get (σ := σ) hi
        rw [← z1, eσ, z2, z3]
      have keepAcc : ∀ {Ha Hb : Hp}, FrR am.R Ha Hb → RpAll am.K (cut (fun a => a = Dl ∨ Hid am (dem (Si ++ (Se ++ vs)) ρ) σ a) Ha) acc xs → RpAll am.K (cut (fun a => a = Dl ∨ Hid am (dem (Si ++ (Se ++ vs)) ρ) σ a) Hb) acc xs := fun f r => RpAll.le (Le.cut (fun a z => .inl z) fun a o hn t e => f.1 a o (fun d g' c q' => by
        obtain ⟨a1, a2, _, _⟩ := w1.dr d g' c q'
        exact ⟨fun z => hn (.inr (.inl (z ▸ a1))), fun z => hn (.inr (.inl (z ▸ a2)))⟩) t e) _ _ r
      have keepD : ∀ {Ha Hb : Hp}, FrR am.R Ha Hb → Ha Dl = some (.lst acc) → Hb Dl = some (.lst acc) := fun f e => f.1 Dl _ (fun d g' c q' => ⟨(hd d g' c q').1, (hd d g' c q').2.1⟩) (fun ps z => by cases z) e
      refine ht.s (lcAm am Dl) ρ4 n2 σ4 H3 hE' r4 _ _ hk fun b n4 H4 hq4 f4 w4 => ?_
      have r5 := r3.step f4 w4
      have f04 := (fr.trans (.of sm)).trans f4
      cases b with
      | false => exact ⟨hlt, n4, acc, xs, keepD f4 (sm _ _ eD), by omega, keepAcc f4 (keepAcc (.of sm) ra), f04, r5, hq4⟩
      | true =>
        have r4' := r4.step f4 w4
        refine he.s (lcAm am Dl) ρ4 n4 σ4 H4 hE' r4' _ _ hq4 fun fr5 u n5 v H5 hq5 f5 w5 r6 => ?_
        match u, hq5, r6.1 with
        | .d z, hq5, rz =>
          have eD5 := keepD f5 (keepD f4 (sm _ _ eD))
          have rz2 : Rp am.K (cut (fun a => a = Dl ∨ Hid am (dem (Si ++ (Se ++ vs)) ρ) σ a) H5) v z := Rp.le (Le.cutSub (sub ρ4 σ4 eρ eσ2)) _ _ rz
          refine ⟨acc, eD5, by omega, hlt, n5, acc ++ [v], xs ++ [z], upd_same, by rw [List.length_append, List.length_singleton]; omega, ?_, ?_, lc_write hd (r5.step f5 w5) eD5, ?_⟩
          · refine RpAll.le (Le.cut (fun a z => .inl z) fun a o hn t e => ?_) _ _ (RpAll.app (keepAcc f5 (keepAcc f4 (keepAcc (.of sm) ra))) (.one rz2))
            rw [upd_ne fun z => hn (.inl z)]
            exact e
          · have f05 := f04.trans f5
            refine ⟨fun b o h1 h2 e => ?_, fun b z => ?_⟩
            · have ne : b ≠ Dl := fun z => by
                rw [z, hD] at e
                cases e
              rw [upd_ne ne]
              exact f05.1 b o h1 h2 e
            · by_cases ne : b = Dl
              · exact ne ▸ .lst upd_same
              · obtain ⟨o, q1, q2⟩ := f05.2 b z
                exact ⟨o, by rw [upd_ne ne]; exact q1, q2⟩
          · have ea : (fun (ys : List D) (n3 : Nat) => q true (.d (.list ((xs ++ [z]) ++ ys))) n3) = fun ys n3 => q true (.d (.list (xs ++ z :: ys))) n3 := by
              funext ys n3
              rw [List.append_assoc]
              rfl
            rw [ea]
            exact hq5
    · have e : i = ds.length := by omega
      subst e
      rw [List.drop_length] at hf
      refine .inl ⟨it2 (Nat.le_refl _), ?_⟩
      have hf2 : q true (.d (.list (xs ++ []))) n2 := hf
      rw [List.append_nil] at hf2
      have wE : Wd am.R am.TL H2 n2 := {
        hid := fun a z => r2.wd.hid a (.inl z)
        tabs := r2.wd.tabs
        dr := fun d g' c q' => by
          obtain ⟨_, _, _, r⟩ := r2.wd.dr d g' c q'
          obtain ⟨a1, a2, a3, _⟩ := w1.dr d g' c q'
          exact ⟨a1, a2, a3, r⟩ }
      refine k _ _ n2 _ H2 hf2 (f1.trans fr) wE ⟨Rp.lst (cut_some.mpr ⟨fun z => ?_, eD⟩) (RpAll.le (Le.cutSub fun a z => .inr z) _ _ ra), fun _ => ⟨Dl, acc, xs, rfl, rfl, new_back h f1 h1 nd, eD, ra⟩⟩
      exact (h1.dem _).new nd z
end
end V3
set_option Elab.async false
set_option linter.all false
set_option maxRecDepth 100000
set_option maxHeartbeats 4000000
namespace V3
open PySem PySem.Spec PyProof.Rows L2
abbrev VSp := List U → Nat → (U → Nat → Prop) → (Addr → Prop) → Prop
/-- a def's promise, of values -/
def toSp (K : PySem.W.Frag) (C : Addr) (TL : List (Addr × Str)) (fr : Bool) (sp : VSp) : Sp := fun vs H Q E => ∃ (am : Am) (us : List U) (n : Nat) (q : U → Nat → Prop) (e : Addr → Prop), am.K = K ∧ am.C = C ∧ am.TL = TL ∧ RepA am am.R.hid H vs us ∧ Wd am.R TL H n ∧ sp us n q e ∧
  (∀ u n' v H', q u n' → FrR am.R H H' → Wd am.R TL H' n' → RepV am am.R.hid H H' fr v u → Q v H') ∧ (∀ C' H' n', FrR am.R H H' → Wd am.R TL H' n' → e C' → E (.ref C') none H')
section
variable {K : PySem.W.Frag} {C : Addr} {TL : List (Addr × Str)} {E : XK}
theorem gr_step {am : Am} {ρ : Ro} {n : Nat} {σ : L2.St} {H H' : Hp} (h : Rl am ρ n σ H) (f : FrR am.R H H') : Gr am H' := ⟨fun b o h1 h2 e => f.1 b o (fun d g c q => by
    obtain ⟨a1, a2⟩ := h.od d g c q
    exact ⟨fun z => h1 (z ▸ a1), fun z => h1 (z ▸ a2)⟩) h2 (h.gr.1 b o h1 h2 e), fun b z => f.2 b (h.gr.2 b z)⟩
@[simp ↓] def mCall (fr : Bool) (sp : VSp) (ma : TA3) : TE3 := fun ρ n q e => ma ρ n (fun us n1 => sp us n1 (fun u n2 => q fr u n2) e) e
@[simp ↓] def mCall0 (fr : Bool) (sp : VSp) (ma : TA3) : TE3 := fun ρ n q e => ma ρ n (fun us n1 => sp us n1 (fun u n2 => q fr u n2) (fun _ => False)) e
theorem call_ok {am : Am} {ρ : Ro} {n : Nat} {σ : L2.St} {H H1 : Hp} {n1 : Nat} {S : List Nat} (h : Rl am ρ n σ H) (f1 : FrR am.R H H1) (w1 : Wd am.R am.TL H1 n1) {us : List U} {vs : List V} (r1 : RepA am (Hid am (dem S ρ) σ) H1 vs us) {fr : Bool} {sp : VSp} {q : Bool → U → Nat → Prop} {e : Addr → Prop} (hq : sp us n1 (fun u n2 => q fr u n2) e) {Q : VK} {E' : XK}
    (k : ∀ fr u n' v H', q fr u n' → FrR am.R H H' → Wd am.R am.TL H' n' → RepV am (Hid am (dem S ρ) σ) H H' fr v u → Q v H') (ke : ∀ C' H' n', FrR am.R H H' → Wd am.R am.TL H' n' → e C' → E' (.ref C') none H') : toSp am.K am.C am.TL fr sp (vs ++ []) H1 Q E' := by
  have h1 := h.step f1 w1
  rw [List.append_nil]
  have hw : ∀ {H' : Hp} {n' : Nat}, FrR am.R H1 H' → Wd am.R am.TL H' n' → Wd { am.R with hid := Hid am (dem S ρ) σ } am.TL H' n' := fun f w => {
    hid := fun a z => f.2 a ((h1.dem S).hidThere z)
    tabs := w.tabs
    dr := fun d g c q => by
      obtain ⟨a1, a2, a3, r⟩ := w.dr d g c q
      exact ⟨.inl a1, .inl a2, .inl a3, r⟩ }
  have hw2 : ∀ {H' : Hp} {n' : Nat}, Wd { am.R with hid := Hid am (dem S ρ) σ } am.TL H' n' → Wd am.R am.TL H' n' := fun w => {
    hid := fun a z => w.hid a (.inl z)
    tabs := w.tabs
    dr := fun d g c q => by
      obtain ⟨_, _, _, r⟩ := w.dr d g c q
      obtain ⟨a1, a2, a3, _⟩ := h.wd.dr d g c q
      exact ⟨a1, a2, a3, r⟩ }
  have rep : ∀ {O : Addr → Prop} {H' : Hp} {v : V} {u : U}, RepU am O H' v u ↔ RepU { am with R := { am.R with hid := Hid am (dem S ρ) σ } } O H' v u := fun {O H' v u} => by
    cases u <;> exact Iff.rfl
  have repA : ∀ {vs : List V} {us : List U} {O : Addr → Prop} {H' : Hp}, RepA am O H' vs us → RepA { am with R := { am.R with hid := Hid am (dem S ρ) σ } } O H' vs us := fun r => by
    induction r with
    | nil => exact .nil
    | cons r1 _ ih => exact .cons (rep.mp r1) ih
  refine ⟨{ am with R := { am.R with hid := Hid am (dem S ρ) σ } }, us, n1, _, e, rfl, rfl, rfl, repA r1, hw (FrR.refl _ _) w1, hq, fun u n' v H' hq' f' w' r' => ?_, fun C' H' n' f' w' z => ke C' H' n' (f1.trans f') (hw2 w') z⟩
  refine k fr u n' v H' hq' (f1.trans f') (hw2 w') ⟨rep.mpr r'.1, fun z => ?_⟩
  obtain ⟨p, vs, ds, a1, a2, a3, a4, a5⟩ := r'.2 z
  exact ⟨p, vs, ds, a1, a2, new_back h f1 h1 a3, a4, a5⟩
instance (priority := high) {ta : TA} {S : List Nat} {ma : TA3} {fr : Bool} {sp : VSp} [ha : LA K C TL E ta S ma] : LE K C TL E (tCall (toSp K C TL fr sp) [] E ta) S (mCall fr sp ma) where
  s am ρ n σ H hE h Q q hm k := by
    obtain ⟨rfl, rfl, rfl, rfl⟩ := id hE
    refine ha.s am ρ n σ H hE h _ _ hm fun us n1 vs H1 hq f1 w1 r1 => ?_
    exact call_ok h f1 w1 r1 hq k fun C' H' n' f w z => h.ex C' H' n' (gr_step h f) w z
instance {ta : TA} {S : List Nat} {ma : TA3} {fr : Bool} {sp : VSp} {E' : XK} [ha : LA K C TL E ta S ma] : LE K C TL E (tCall (toSp K C TL fr sp) [] E' ta) S (mCall0 fr sp ma) where
  s am ρ n σ H hE h Q q hm k := by
    obtain ⟨rfl, rfl, rfl, rfl⟩ := id hE
    refine ha.s am ρ n σ H hE h _ _ hm fun us n1 vs H1 hq f1 w1 r1 => ?_
    exact call_ok h f1 w1 r1 hq k fun C' H' n' f w z => z.elim
/-! ### raise -/
def tExc (t : L2.St → Hp → XK → Prop) (W : WX) : TS := fun _ σ H => t σ H fun cls d H' => W cls d σ H'
@[simp] def slotsOf : List U → Nat → Ro
  | [], 0 => []
  | [], k + 1 => .no :: slotsOf [] k
  | u :: us, 0 => .fz u :: slotsOf us 0
  | u :: us, k + 1 => .fz u :: slotsOf us k
theorem rep_len {am : Am} {O : Addr → Prop} {H : Hp} : ∀ {vs : List V} {us : List U}, RepA am O H vs us → vs.length = us.length
  | _, _, .nil => rfl
  | _, _, .cons _ t => by rw [List.length_cons, List.length_cons, rep_len t]
/-- the slots at the start: the arguments, then nothing -/
def ro0 (us : List U) (k : Nat) : Ro := us.map Sl.fz ++ List.replicate k .no
theorem start_rl {am : Am} {us : List U} {vs : List V} {n : Nat} {H : Hp} (r : RepA am am.R.hid H vs us) (w : Wd am.R am.TL H n) (k : Nat) (hHs : am.Hs = H) (hO : ∀ a, am.O0 a ↔ ∃ d g c, am.R.dr = some (d, g, c) ∧ (a = d ∨ a = g)) (ex : ∀ C' H' n', Gr am H' → Wd am.R am.TL H' n' → am.e C' → am.E (.ref C') none H') :
    Rl am (ro0 us k) n (vs.map some ++ List.replicate k none) H := by
  have no : ∀ {i : Nat} {ds : List D}, (ro0 us k)[i]? ≠ some (Sl.ow ds) := fun {i ds} z => by
    unfold ro0 at z
    rcases List.mem_append.mp (List.mem_of_getElem? z) with m | m
    · obtain ⟨u, _, e⟩ := List.mem_map.mp m
      cases e
    · cases (List.mem_replicate.mp m).2
  have hid : ∀ {a : Addr}, Hid am (ro0 us k) (vs.map some ++ List.replicate k none) a → am.R.hid a := fun z => by
    rcases z with z | ⟨i, ⟨ds, z⟩, _⟩
    · exact z
    · exact absurd z no
  exact {
    len := by
      unfold ro0
      rw [List.length_append, List.length_append, List.length_map, List.length_map, List.length_replicate, List.length_replicate, rep_len r]
    fz := fun i u e => by
      have hl := rep_len r
      unfold ro0 at e
      by_cases hi : i < us.length
      · rw [List.getElem?_append_left (by rw [List.length_map]; exact hi), List.getElem?_map] at e
        rw [List.getElem?_append_left (by rw [List.length_map, hl]; exact hi), List.getElem?_map]
        have q : ∀ {vs : List V} {us : List U} {i : Nat}, RepA am am.R.hid H vs us → (us[i]?).map Sl.fz = some (Sl.fz u) → ∃ v, (vs[i]?).map some = some (some v) ∧ RepU am am.R.hid H v u := fun {vs} {us} => by
          induction us generalizing vs with
          | nil =>
            intro i _ e
            simp at e
          | cons u0 us ih =>
            intro i r e
            cases r with
            | cons r1 r2 =>
              cases i with
              | zero =>
                simp at e
                subst e
                exact ⟨_, rfl, r1⟩
              | succ i =>
                obtain ⟨v, a1, a2⟩ := ih (i := i) r2 (by simpa using e)
                exact ⟨v, by simpa using a1, a2⟩
        obtain ⟨v, a1, a2⟩ := q r e
        exact ⟨v, a1, a2.le (Le.cutSub fun a => hid)⟩
      · rw [List.getElem?_append_right (by rw [List.length_map]; omega)] at e
        have m := List.mem_of_getElem? e
        cases (List.mem_replicate.mp m).2
    ow := fun i ds e => absurd e no
    nd := fun i j p a => by
      obtain ⟨⟨ds, e⟩, _⟩ := a
      exact absurd e no
    od := fun d g c q => ⟨(hO d).mpr ⟨d, g, c, q, .inl rfl⟩, (hO g).mpr ⟨d, g, c, q, .inr rfl⟩⟩
    gr := ⟨fun b o _ _ e => by rw [hHs] at e; exact e, fun b e => by rw [hHs] at e; exact e⟩
    wd := w
    ex := ex }
@[simp] def ends3 (fr : Bool) (q : U → Nat → Prop) : En3 := ⟨fun _ n' => if fr = true then False else q (.d .none) n', fun f u n' => if fr = true ∧ f = false then False else q u n', fun _ _ => False, fun _ _ => False⟩
theorem toSp_len {k : Nat} {fr : Bool} {sp : VSp} {vs : List V} {H : Hp} {Q : VK} (h : toSp K C TL fr sp vs H Q E) (hl : ∀ us n q e, sp us n q e → us.length = k) : vs.length = k := by
  obtain ⟨am, us, n, q, e, _, _, _, ra, _, hs, _⟩ := h
  rw [rep_len ra, hl us n q e hs]
/-- a def's body -/
theorem run3 {t : TS} {m : TS3} [ht : LS K C TL E t m] {N : List Str} {fr : Bool} {sp : VSp} {vs : List V} {H : Hp} {Q : VK} (hs : toSp K C TL fr sp vs H Q E)
    (pure : ∀ (us : List U) (n : Nat) (q : U → Nat → Prop) (e : Addr → Prop), sp us n q e → m (ends3 fr q) (ro0 us (N.length - us.length)) n e) :
    t { nx := fun _ H' => Q .non H', rt := Q } (L2.start N vs) H := by
  obtain ⟨am, us, n, q, e, rfl, rfl, rfl, ra, w, hsp, k, ke⟩ := hs
  have gq : ∀ {H' : Hp}, Gr { am with Hs := H, O0 := fun a => ∃ d g c, am.R.dr = some (d, g, c) ∧ (a = d ∨ a = g), E := E, e := e } H' → FrR am.R H H' := fun g => ⟨fun b o h1 h2 e' => g.1 b o (fun ⟨d, g', c, q', z⟩ => by
    obtain ⟨a1, a2⟩ := h1 d g' c q'
    rcases z with z | z
    · exact a1 z
    · exact a2 z) h2 e', g.2⟩
  have rep : ∀ {O : Addr → Prop} {H' : Hp} {v : V} {u : U}, RepU am O H' v u ↔ RepU { am with Hs := H, O0 := fun a => ∃ d g c, am.R.dr = some (d, g, c) ∧ (a = d ∨ a = g), E := E, e := e } O H' v u := fun {O H' v u} => by
    cases u <;> exact Iff.rfl
  have repA : ∀ {vs : List V} {us : List U} {O : Addr → Prop} {H' : Hp}, RepA am O H' vs us → RepA { am with Hs := H, O0 := fun a => ∃ d g c, am.R.dr = some (d, g, c) ∧ (a = d ∨ a = g), E := E, e := e } O H' vs us := fun r => by
    induction r with
    | nil => exact .nil
    | cons r1 _ ih => exact .cons (rep.mp r1) ih
  refine ht.s { am with Hs := H, O0 := fun a => ∃ d g c, am.R.dr = some (d, g, c) ∧ (a = d ∨ a = g), E := E, e := e } (ro0 us (N.length - vs.length)) n _ H _ (ends3 fr q) ⟨rfl, rfl, rfl, rfl⟩ (start_rl (repA ra) w _ rfl (fun _ => Iff.rfl) fun C' H' n' g w z => ke C' H' n' (gq g) w z) ⟨fun ρ' n' σ' H' hq r => ?_, fun _ _ _ _ z => False.elim z, fun _ _ _ _ z => False.elim z, fun f u n' v H' hq g w' r => ?_⟩ (by rw [rep_len ra]; exact pure us n q e hsp)
  · have hq : (if fr = true then False else q (.d .none) n') := hq
    by_cases hf : fr = true
    · rw [if_pos hf] at hq
      exact hq.elim
    · rw [if_neg hf] at hq
      refine k _ n' _ H' hq (gq r.gr) r.wd ⟨Rp.non, fun z => absurd z hf⟩
  · have hq : (if fr = true ∧ f = false then False else q u n') := hq
    by_cases hf : fr = true ∧ f = false
    · rw [if_pos hf] at hq
      exact hq.elim
    · rw [if_neg hf] at hq
      refine k u n' v H' hq (gq g) w' ⟨rep.mpr r.1, fun z => ?_⟩
      have ft : f = true := by
        cases f with
        | true => rfl
        | false => exact absurd ⟨z, rfl⟩ hf
      obtain ⟨p, vs', ds, a1, a2, a3, a4, a5⟩ := r.2 ft
      refine ⟨p, vs', ds, a1, a2, ?_, a4, a5⟩
      rcases a3.1 with y | ⟨d, g', c, q', y⟩
      · exact y
      · obtain ⟨b1, b2, _, _⟩ := w.dr d g' c q'
        exact absurd (by rcases y with y | y; exact y ▸ b1; exact y ▸ b2) a3.2
end
end V3
set_option Elab.async false
set_option linter.all false
set_option maxRecDepth 100000
set_option maxHeartbeats 4000000
namespace V3
open PySem PySem.Spec PyProof.Rows L2
section
variable {K : PySem.W.Frag} {C : Addr} {TL : List (Addr × Str)} {E : XK}
/-! ### raise -/
def tRz (E : XK) (C' : Addr) : TS := fun _ _ H => E (.ref C') none H
theorem ps_rz {X : Cx} {st : Stmt} {C' : Addr} {E : XK} (h : PS X st (fun _ σ H => (fun (_ : L2.St) (H : Hp) (Q : XK) => Q (.ref C') none H) σ H fun cls d H' => (fun (cls : Value) (d : Option Addr) (_ : L2.St) (H : Hp) => E cls d H) cls d σ H')) : PS X st (tRz E C') := h
@[simp ↓] def mRz (C' : Addr) : TS3 := fun _ _ _ e => e C'
instance {C' : Addr} : LS K C TL E (tRz E C') (mRz C') where
  s am ρ n σ H D F hE h en hm := by
    obtain ⟨rfl, rfl, rfl, rfl⟩ := id hE
    exact h.ex C' H _ h.gr h.wd hm
/-! ### types -/
@[simp] def pyTy : D → String
  | .none => "NoneType"
  | .bool _ => "bool"
  | .int _ => "int"
  | .str _ => "str"
  | .list _ => "list"
  | .tuple _ => "tuple"
  | .dict _ => "dict"
theorem ty_rep {am : Am} {O : Addr → Prop} {H : Hp} {v : V} {x : D} (r : RepU am O H v (.d x)) : TyX am.K H v (.type (pyTy x)) := by
  cases x with
  | none => cases r; exact .base .non
  | bool b => cases r; exact .base (.bl b)
  | int i => cases r; exact .base (.int i)
  | str z => cases r; exact .base (.str z)
  | list xs =>
    cases r with
    | lst a1 a2 => exact .base (.lst (cut_some.mp a1).2)
  | tuple xs =>
    cases r with
    | tup a1 a2 =>
      rcases SqT.le Le.cutAll a1 with (h | ⟨o, h⟩) | ⟨o, its, n, h, hc, _⟩
      · exact .base (.tup h)
      · exact .fTuple h
      · exact .kTuple h hc
  | dict xs =>
    cases r with
    | dnil a1 => exact .base (.dK (cut_some.mp a1).2)
/-- what isinstance(x, n) says -/
@[simp] def isTy (n : String) : D → Bool
  | .none => false
  | .bool _ => n == "bool" || n == "int"
  | .int _ => n == "int"
  | .str _ => n == "str"
  | .list _ => n == "list"
  | .tuple _ => n == "tuple"
  | .dict _ => n == "dict"
class Kn6 (n : String) : Prop where
  h : ∀ x : D, kitB (pyTy x) n = some (isTy n x)
instance : Kn6 "int" := ⟨fun x => match x with
  | .none => (by decide +kernel : kitB "NoneType" "int" = some false)
  | .bool _ => (by decide +kernel : kitB "bool" "int" = some ("int" == "bool" || "int" == "int"))
  | .int _ => (by decide +kernel : kitB "int" "int" = some ("int" == "int"))
  | .str _ => (by decide +kernel : kitB "str" "int" = some ("int" == "str"))
  | .list _ => (by decide +kernel : kitB "list" "int" = some ("int" == "list"))
  | .tuple _ => (by decide +kernel : kitB "tuple" "int" = some ("int" == "tuple"))
  | .dict _ => (by decide +kernel : kitB "dict" "int" = some ("int" == "dict"))⟩
instance : Kn6 "bool" := ⟨fun x => match x with
  | .none => (by decide +kernel : kitB "NoneType" "bool" = some false)
  | .bool _ => (by decide +kernel : kitB "bool" "bool" = some ("bool" == "bool" || "bool" == "int"))
  | .int _ => (by decide +kernel : kitB "int" "bool" = some ("bool" == "int"))
  | .str _ => (by decide +kernel : kitB "str" "bool" = some ("bool" == "str"))
  | .list _ => (by decide +kernel : kitB "list" "bool" = some ("bool" == "list"))
  | .tuple _ => (by decide +kernel : kitB "tuple" "bool" = some ("bool" == "tuple"))
  | .dict _ => (by decide +kernel : kitB "dict" "bool" = some ("bool" == "dict"))⟩
instance : Kn6 "str" := ⟨fun x => match x with
  | .none => (by decide +kernel : kitB "NoneType" "str" = some false)
  | .bool _ => (by decide +kernel : kitB "bool" "str" = some ("str" == "bool" || "str" == "int"))
  | .int _ => (by decide +kernel : kitB "int" "str" = some ("str" == "int"))
  | .str _ => (by decide +kernel : kitB "str" "str" = some ("str" == "str"))
  | .list _ => (by decide +kernel : kitB "list" "str" = some ("str" == "list"))
  | .tuple _ => (by decide +kernel : kitB "tuple" "str" = some ("str" == "tuple"))
  | .dict _ => (by decide +kernel : kitB "dict" "str" = some ("str" == "dict"))⟩
instance : Kn6 "list" := ⟨fun x => match x with
  | .none => (by decide +kernel : kitB "NoneType" "list" = some false)
  | .bool _ => (by decide +kernel : kitB "bool" "list" = some ("list" == "bool" || "list" == "int"))
  | .int _ => (by decide +kernel : kitB "int" "list" = some ("list" == "int"))
  | .str _ => (by decide +kernel : kitB "str" "list" = some ("list" == "str"))
  | .list _ => (by decide +kernel : kitB "list" "list" = some ("list" == "list"))
  | .tuple _ => (by decide +kernel : kitB "tuple" "list" = some ("list" == "tuple"))
  | .dict _ => (by decide +kernel : kitB "dict" "list" = some ("list" == "dict"))⟩
instance : Kn6 "tuple" := ⟨fun x => match x with
  | .none => (by decide +kernel : kitB "NoneType" "tuple" = some false)
  | .bool _ => (by decide +kernel : kitB "bool" "tuple" = some ("tuple" == "bool" || "tuple" == "int"))
  | .int _ => (by decide +kernel : kitB "int" "tuple" = some ("tuple" == "int"))
  | .str _ => (by decide +kernel : kitB "str" "tuple" = some ("tuple" == "str"))
  | .list _ => (by decide +kernel : kitB "list" "tuple" = some ("tuple" == "list"))
  | .tuple _ => (by decide +kernel : kitB "tuple" "tuple" = some ("tuple" == "tuple"))
  | .dict _ => (by decide +kernel : kitB "dict" "tuple" = some ("tuple" == "dict"))⟩
instance : Kn6 "dict" := ⟨fun x => match x with
  | .none => (by decide +kernel : kitB "NoneType" "dict" = some false)
  | .bool _ => (by decide +kernel : kitB "bool" "dict" = some ("dict" == "bool" || "dict" == "int"))
  | .int _ => (by decide +kernel : kitB "int" "dict" = some ("dict" == "int"))
  | .str _ => (by decide +kernel : kitB "str" "dict" = some ("dict" == "str"))
  | .list _ => (by decide +kernel : kitB "list" "dict" = some ("dict" == "list"))
  | .tuple _ => (by decide +kernel : kitB "tuple" "dict" = some ("dict" == "tuple"))
  | .dict _ => (by decide +kernel : kitB "dict" "dict" = some ("dict" == "dict"))⟩
def askD : U → (D → Prop) → Prop
  | .d x, k => k x
  | _, _ => False
@[simp] theorem askD_s (i : D) (k : D → Prop) : askD (.d i) k = k i := rfl
@[simp ↓] def mIsi (n : String) (me : TE3) : TE3 := fun ρ k q e => me ρ k (fun _ u n1 => askD u fun x => q false (.d (.bool (isTy n x))) n1) e
instance (priority := high) {te : TE} {S : List Nat} {me : TE3} {nm : String} [he : LE K C TL E te S me] [hk : Kn6 nm] : LE K C TL E (tCB (rIsi K) (tCons te (tCons (tC (.ty nm)) tNil))) [] (mIsi nm me) where
  s am ρ n σ H hE h Q q hm k := by
    obtain ⟨rfl, rfl, rfl, rfl⟩ := id hE
    refine he.s am ρ n σ H hE h _ _ hm fun fr u n1 v H1 hq f1 w1 r1 => ?_
    match u, hq, r1.1 with
    | .d x, hq, r => exact ⟨v, .ty nm, .type (pyTy x), .type nm, isTy nm x, rfl, .ty nm, ty_rep r, kit_ty (hk.h x), k _ _ n1 _ H1 hq f1 w1 (.old (Rp.bl _))⟩
@[simp ↓] def mIsW (me : TE3) : TE3 := fun ρ k q e => me ρ k (fun _ u n1 => match u with
  | .dw _ => q false (.d (.bool true)) n1
  | .ob _ => q false (.d (.bool true)) n1
  | _ => False) e
instance (priority := high) {te : TE} {S : List Nat} {me : TE3} [he : LE K C TL E te S me] : LE K C TL E (tCB (rIsi K) (tCons te (tCons (tC (.ref C)) tNil))) [] (mIsW me) where
  s am ρ n σ H hE h Q q hm k := by
    obtain ⟨rfl, rfl, rfl, rfl⟩ := id hE
    refine he.s am ρ n σ H hE h _ _ hm fun fr u n1 v H1 hq f1 w1 r1 => ?_
    match u, hq, r1.1 with
    | .dw bs, hq, r =>
      obtain ⟨_, a, dx, t, rfl, h2, _⟩ := r
      exact ⟨.ref a, .ref am.C, .ref am.C, .ref am.C, true, rfl, .own am.C, am.insT H1 a dx _ (cut_some.mp h2).2, am.kD, k _ _ n1 _ H1 hq f1 w1 (.old (Rp.bl _))⟩
    | .ob fs, hq, r =>
      obtain ⟨_, a, dx, t, rfl, h2, _⟩ := r
      exact ⟨.ref a, .ref am.C, .ref am.C, .ref am.C, true, rfl, .own am.C, am.insT H1 a dx _ (cut_some.mp h2).2, am.kD, k _ _ n1 _ H1 hq f1 w1 (.old (Rp.bl _))⟩
/-! isinstance(x, (a, b)) -/
@[simp ↓] def mIsi2 (n m : String) (me : TE3) : TE3 := fun ρ k q e => me ρ k (fun _ u n1 => askD u fun x => q false (.d (.bool (isTy n x || isTy m x))) n1) e
instance (priority := high) {te : TE} {S : List Nat} {me : TE3} {nm mm : String} [he : LE K C TL E te S me] [hk : Kn6 nm] [hm2 : Kn6 mm] : LE K C TL E (tCB (rIsiT K) (tCons te (tCons (tTup (tCons (tC (.ty nm)) (tCons (tC (.ty mm)) tNil))) tNil))) [] (mIsi2 nm mm me) where
  s am ρ n σ H hE h Q q hm k := by
    obtain ⟨rfl, rfl, rfl, rfl⟩ := id hE
    refine he.s am ρ n σ H hE h _ _ hm fun fr u n1 v H1 hq f1 w1 r1 => ?_
    match u, hq, r1.1 with
    | .d x, hq, r =>
      have h1 := h.step f1 w1
      refine ⟨by show 2 ≤ sizeLine; decide, fun p hp => ?_⟩
      obtain ⟨f2, w2⟩ := fresh_step h1 hp (.tup [.ty nm, .ty mm])
      refine ⟨v, p, _, .type (pyTy x), [.type nm, .type mm], (isTy nm x || isTy mm x), rfl, upd_same, .cons (.ty nm) (.cons (.ty mm) .nil), ty_rep (r.le (cut_grow hp _)), ?_, k _ _ n1 _ _ hq (f1.trans f2) w2 (.old (Rp.bl _))⟩
      exact kitAny_cons (kit_ty (hk.h x)) (fun z => by
        rw [z, Bool.false_or]
        exact kitAny_cons (kit_ty (hm2.h x)) (fun z => by
          rw [z]
          rfl) fun z => z) fun z => by
        rw [z]
        rfl
/-! ### len, list, tuple, abs, int, min, max, sum, any, all -/
def rLen3 (K : PySem.W.Frag) : List V → Hp → VK → Prop := fun xs H Q => ∃ x n, xs = [x] ∧ LenV K x H n ∧ Q (.int n) H
theorem call_len3 {X : Cx} : CallR X (.builtin "len") (rLen3 X.K) := call_len
@[simp ↓] def mLen : List U → (Bool → D → Prop) → Prop
  | [.d (.list xs)], q => q false (.int (xs.length : Nat))
  | [.d (.tuple xs)], q => q false (.int (xs.length : Nat))
  | _, _ => False
instance : LC K (rLen3 K) mLen where
  s am O H xs us hK hO ra Q q hm k := by
    subst hK
    match us, hm, ra with
    | [.d (.list ds)], hm, .cons r .nil =>
      cases r with
      | lst a1 a2 => exact ⟨_, _, rfl, .inl ⟨_, SqL.of (cut_some.mp a1).2, rfl⟩, k _ _ _ H hm (Same.refl _) (.old (by rw [RpAll.len a2]; exact Rp.int _))⟩
    | [.d (.tuple ds)], hm, .cons r .nil =>
      cases r with
      | tup a1 a2 => exact ⟨_, _, rfl, .inr ⟨_, SqT.le Le.cutAll a1, rfl⟩, k _ _ _ H hm (Same.refl _) (.old (by rw [RpAll.len a2]; exact Rp.int _))⟩
def rList3 (K : PySem.W.Frag) : List V → Hp → VK → Prop := fun xs H Q => ∃ p ys, xs = [.ref p] ∧ (SqL K H p ys ∨ SqT K H p ys) ∧ ∀ l, H l = none → Q (.ref l) (upd H l (.lst ys))
theorem call_list3 {X : Cx} : CallR X (.type "list") (rList3 X.K) := call_list_of
@[simp ↓] def mList : List U → (Bool → D → Prop) → Prop
  | [.d (.list xs)], q => q true (.list xs)
  | [.d (.tuple xs)], q => q true (.list xs)
  | _, _ => False
instance : LC K (rList3 K) mList where
  s am O H xs us hK hO ra Q q hm k := by
    subst hK
    match us, hm, ra with
    | [.d (.list ds)], hm, .cons r .nil =>
      cases r with
      | lst a1 a2 => exact ⟨_, _, rfl, .inl (SqL.of (cut_some.mp a1).2), fun p hp => k _ _ _ _ hm (same_new hp) (new_list hO hp a2)⟩
    | [.d (.tuple ds)], hm, .cons r .nil =>
      cases r with
      | tup a1 a2 => exact ⟨_, _, rfl, .inr (SqT.le Le.cutAll a1), fun p hp => k _ _ _ _ hm (same_new hp) (new_list hO hp a2)⟩
def rTup3 (K : PySem.W.Frag) : List V → Hp → VK → Prop := fun xs H Q => ∃ p ys, xs = [.ref p] ∧ ((SqL K H p ys ∧ ∀ l, H l = none → Q (.ref l) (upd H l (.tup ys))) ∨ (SqT K H p ys ∧ Q (.ref p) H))
theorem call_tup3 {X : Cx} : CallR X (.type "tuple") (rTup3 X.K) := call_tuple_of
@[simp ↓] def mTuple : List U → (Bool → D → Prop) → Prop
  | [.d (.list xs)], q => q false (.tuple xs)
  | [.d (.tuple xs)], q => q false (.tuple xs)
  | _, _ => False
instance : LC K (rTup3 K) mTuple where
  s am O H xs us hK hO ra Q q hm k := by
    subst hK
    match us, hm, ra with
    | [.d (.list ds)], hm, .cons r .nil =>
      cases r with
      | lst a1 a2 => exact ⟨_, _, rfl, .inl ⟨SqL.of (cut_some.mp a1).2, fun p hp => k _ _ _ _ hm (same_new hp) (new_tup hO hp a2)⟩⟩
    | [.d (.tuple ds)], hm, .cons r .nil =>
      cases r with
      | tup a1 a2 => exact ⟨_, _, rfl, .inr ⟨SqT.le Le.cutAll a1, k _ _ _ H hm (Same.refl _) (.old (Rp.tup a1 a2))⟩⟩
def rAbs3 : List V → Hp → VK → Prop := fun xs H Q => ∃ i, xs = [.int i] ∧ Q (.int (if i < 0 then -i else i)) H
theorem call_abs3 {X : Cx} : CallR X (.builtin "abs") rAbs3 := call_abs
@[simp ↓] def mAbs : List U → (Bool → D → Prop) → Prop
  | [.d (.int i)], q => q false (.int (if i < 0 then -i else i))
  | _, _ => False
instance : LC K rAbs3 mAbs where
  s am O H xs us hK hO ra Q q hm k := by
    match us, hm, ra with
    | [.d (.int i)], hm, .cons r .nil =>
      cases r
      exact ⟨i, rfl, k _ _ _ H hm (Same.refl _) (.old (Rp.int _))⟩
def rInt3 : List V → Hp → VK → Prop := fun xs H Q => (∃ i, xs = [.int i] ∧ Q (.int i) H) ∨ ∃ k, xs = [.bl k] ∧ Q (.int (if k then 1 else 0)) H
theorem call_int3 {X : Cx} : CallR X (.type "int") rInt3 := call_int1
@[simp ↓] def mInt : List U → (Bool → D → Prop) → Prop
  | [.d (.int i)], q => q false (.int i)
  | [.d (.bool k)], q => q false (.int (if k then 1 else 0))
  | _, _ => False
instance : LC K rInt3 mInt where
  s am O H xs us hK hO ra Q q hm k := by
    match us, hm, ra with
    | [.d (.int i)], hm, .cons r .nil =>
      cases r
      exact .inl ⟨i, rfl, k _ _ _ H hm (Same.refl _) (.old (Rp.int _))⟩
    | [.d (.bool i)], hm, .cons r .nil =>
      cases r
      exact .inr ⟨i, rfl, k _ _ _ H hm (Same.refl _) (.old (Rp.int _))⟩
theorem call_or {X : Cx} {f : Value} {r r' : List V → Hp → VK → Prop} (h : CallR X f r) (h' : CallR X f r') : CallR X f (fun xs H Q => r xs H Q ∨ r' xs H Q) := fun pins s σ H xs us Q I r q => by
  rcases q with q | q
  · exact h pins s σ H xs us Q I r q
  · exact h' pins s σ H xs us Q I r q
@[simp] def toIs : List D → Option (List Int)
  | [] => some []
  | .int i :: ds => (toIs ds).map (i :: ·)
  | _ :: _ => none
theorem toIs_map (ns : List Int) : toIs (ns.map PyData.int) = some ns := by
  induction ns with
  | nil => rfl
  | cons n ns ih =>
    show (toIs (ns.map PyData.int)).map _ = _
    rw [ih]
    rfl
theorem toIs_eq : ∀ {ds : List D} {ns : List Int}, toIs ds = some ns → ds = ns.map PyData.int
  | [], _, h => by
    cases h
    rfl
  | d :: ds, ns, h => by
    cases d with
    | int i =>
      have h2 : (toIs ds).map (i :: ·) = some ns := h
      cases q : toIs ds with
      | none =>
        rw [q] at h2
        cases h2
      | some ms =>
        rw [q] at h2
        cases h2
        rw [toIs_eq q]
        rfl
    | _ => cases h
theorem fold_min (n : Int) : ∀ ns : List Int, (ns.foldl min n) ∈ n :: ns ∧ ∀ y ∈ n :: ns, ns.foldl min n ≤ y
  | [] => ⟨List.mem_singleton.mpr rfl, fun y h => by
    rw [List.mem_singleton.mp h]
    exact Int.le_refl _⟩
  | m :: ns => by
    obtain ⟨h1, h2⟩ := fold_min (min n m) ns
    show (ns.foldl min (min n m)) ∈ _ ∧ ∀ y ∈ _, ns.foldl min (min n m) ≤ y
    have h3 := h2 (min n m) (List.mem_cons_self ..)
    refine ⟨?_, fun y hy => ?_⟩
    · rcases List.mem_cons.mp h1 with e | e
      · rw [e]
        by_cases h : n ≤ m
        · rw [Int.min_eq_left h]
          exact List.mem_cons_self ..
        · rw [Int.min_eq_right (by omega)]
          exact List.mem_cons_of_mem _ (List.mem_cons_self ..)
      · exact List.mem_cons_of_mem _ (List.mem_cons_of_mem _ e)
    · rcases List.mem_cons.mp hy with e | e
      · subst e
        omega
      · rcases List.mem_cons.mp e with e | e
        · subst e
          omega
        · exact h2 y (List.mem_cons_of_mem _ e)
theorem fold_max (n : Int) : ∀ ns : List Int, (ns.foldl max n) ∈ n :: ns ∧ ∀ y ∈ n :: ns, y ≤ ns.foldl max n
  | [] => ⟨List.mem_singleton.mpr rfl, fun y h => by
    rw [List.mem_singleton.mp h]
    exact Int.le_refl _⟩
  | m :: ns => by
    obtain ⟨h1, h2⟩ := fold_max (max n m) ns
    show (ns.foldl max (max n m)) ∈ _ ∧ ∀ y ∈ _, y ≤ ns.foldl max (max n m)
    have h3 := h2 (max n m) (List.mem_cons_self ..)
    refine ⟨?_, fun y hy => ?_⟩
    · rcases List.mem_cons.mp h1 with e | e
      · rw [e]
        by_cases h : n ≤ m
        · rw [Int.max_eq_right h]
          exact List.mem_cons_of_mem _ (List.mem_cons_self ..)
        · rw [Int.max_eq_left (by omega)]
          exact List.mem_cons_self ..
      · exact List.mem_cons_of_mem _ (List.mem_cons_of_mem _ e)
    · rcases List.mem_cons.mp hy with e | e
      · subst e
        omega
      · rcases List.mem_cons.mp e with e | e
        · subst e
          omega
        · exact h2 y (List.mem_cons_of_mem _ e)
theorem depth_ints : ∀ ns : List Int, PyData.depthAll (ns.map PyData.int) = 0
  | [] => by simp [PyData.depthAll]
  | n :: ns => by
    rw [List.map_cons]
    simp only [PyData.depthAll, PyData.depth, depth_ints ns]
    omega
theorem alike_ints (ns : List Int) : PySem.W.AlikeAll (ns.map PyData.int) := ⟨fun x hx y hy => by
  obtain ⟨n, _, rfl⟩ := List.mem_map.mp hx
  obtain ⟨m, _, rfl⟩ := List.mem_map.mp hy
  simp [PySem.W.alike], fun x hx => by
  obtain ⟨n, _, rfl⟩ := List.mem_map.mp hx
  intro z
  cases z⟩
theorem reads_ints {h : Heap} : ∀ {ns : List Int} {us : List Value}, Vals (ns.map V.int) us → ReadsAll h us (ns.map PyData.int) (ns.flatMap fun _ => [])
  | [], _, r => by
    cases r
    exact ReadsAll.nil
  | n :: ns, _, r => by
    cases r with
    | cons r1 r2 =>
      obtain ⟨t, rfl⟩ := r1
      exact ReadsAll.cons (Reads.int n t) (reads_ints r2)
def rMinT (K : PySem.W.Frag) : List V → Hp → VK → Prop := fun vs H Q => ∃ (a : Addr) (ns : List Int), vs = [V.ref a] ∧ SqT K H a (ns.map V.int) ∧ 0 < ns.length ∧ ∀ m, m ∈ ns → (∀ y, y ∈ ns → m ≤ y) → Q (.int m) H
def rMaxT (K : PySem.W.Frag) : List V → Hp → VK → Prop := fun vs H Q => ∃ (a : Addr) (ns : List Int), vs = [V.ref a] ∧ SqT K H a (ns.map V.int) ∧ 0 < ns.length ∧ ∀ m, m ∈ ns → (∀ y, y ∈ ns → y ≤ m) → Q (.int m) H
theorem cr_minT {X : Cx} (hc : X.calm = true) (hu : X.A.units + 1 < cLine) : CallR X (.builtin "min") (rMinT X.K) := by
  intro pins s σ H vs us Q I r h
  obtain ⟨a, ns, rfl, hs, hne, q⟩ := h
  obtain ⟨its, rv, hl, _⟩ := I.tuple hs
  rw [Vals.ref1 r]
  match ns, hne, rv with
  | n :: ns, _, rv =>
    refine PySem.W.min_tuple_data (I.ok.hd hc) (vs := its.toArray) hl (x := .int n) (xs := ns.map .int) (as := (n :: ns).flatMap fun _ => []) (reads_ints (ns := n :: ns) rv) (alike_ints (n :: ns)) (by rw [show PyData.int n :: ns.map PyData.int = (n :: ns).map PyData.int from rfl, depth_ints]; omega) fun i v h' tk bs hv hr hk => ?_
    rw [PySem.W.minD_ints] at hr
    obtain ⟨t, rfl⟩ : ∃ t, v = .int (ns.foldl min n) t := by
      cases hr with
      | int i t => exact ⟨t, rfl⟩
    obtain ⟨h1, h2⟩ := fold_min n ns
    exact ⟨.int _, H, I.kept hk, ⟨_, rfl⟩, q _ h1 h2⟩
theorem cr_maxT {X : Cx} (hc : X.calm = true) (hu : X.A.units + 1 < cLine) : CallR X (.builtin "max") (rMaxT X.K) := by
  intro pins s σ H vs us Q I r h
  obtain ⟨a, ns, rfl, hs, hne, q⟩ := h
  obtain ⟨its, rv, hl, _⟩ := I.tuple hs
  rw [Vals.ref1 r]
  match ns, hne, rv with
  | n :: ns, _, rv =>
    refine PySem.W.max_tuple_data (I.ok.hd hc) (vs := its.toArray) hl (x := .int n) (xs := ns.map .int) (as := (n :: ns).flatMap fun _ => []) (reads_ints (ns := n :: ns) rv) (alike_ints (n :: ns)) (by rw [show PyData.int n :: ns.map PyData.int = (n :: ns).map PyData.int from rfl, depth_ints]; omega) fun i v h' tk bs hv hr hk => ?_
    rw [PySem.W.maxD_ints] at hr
    obtain ⟨t, rfl⟩ : ∃ t, v = .int (ns.foldl max n) t := by
      cases hr with
      | int i t => exact ⟨t, rfl⟩
    obtain ⟨h1, h2⟩ := fold_max n ns
    exact ⟨.int _, H, I.kept hk, ⟨_, rfl⟩, q _ h1 h2⟩
def rMin3 (K : PySem.W.Frag) : List V → Hp → VK → Prop := fun xs H Q => (∃ i j, xs = [.int i, .int j] ∧ Q (.int (if j < i then j else i)) H) ∨ rMin K xs H Q ∨ rMinT K xs H Q
def rMax3 (K : PySem.W.Frag) : List V → Hp → VK → Prop := fun xs H Q => (∃ i j, xs = [.int i, .int j] ∧ Q (.int (if j > i then j else i)) H) ∨ rMax K xs H Q ∨ rMaxT K xs H Q
theorem call_min3 {X : Cx} (hc : X.calm = true) (hu : X.A.units + 1 < cLine) : CallR X (.builtin "min") (rMin3 X.K) := call_or (call_min2 hc) (call_or (cr_min hc) (cr_minT hc hu))
theorem call_max3 {X : Cx} (hc : X.calm = true) (hu : X.A.units + 1 < cLine) : CallR X (.builtin "max") (rMax3 X.K) := call_or (call_max2 hc) (call_or (cr_max hc) (cr_maxT hc hu))
@[simp ↓] def mMin : List U → (Bool → D → Prop) → Prop
  | [.d (.int i), .d (.int j)], q => q false (.int (min i j))
  | [.d (.list xs)], q => ask (toIs xs) fun ns => ns ≠ [] ∧ ∀ m, m ∈ ns → (∀ y ∈ ns, m ≤ y) → q false (.int m)
  | [.d (.tuple xs)], q => ask (toIs xs) fun ns => ns ≠ [] ∧ ∀ m, m ∈ ns → (∀ y ∈ ns, m ≤ y) → q false (.int m)
  | _, _ => False
@[simp ↓] def mMax : List U → (Bool → D → Prop) → Prop
  | [.d (.int i), .d (.int j)], q => q false (.int (max i j))
  | [.d (.list xs)], q => ask (toIs xs) fun ns => ns ≠ [] ∧ ∀ m, m ∈ ns → (∀ y ∈ ns, y ≤ m) → q false (.int m)
  | [.d (.tuple xs)], q => ask (toIs xs) fun ns => ns ≠ [] ∧ ∀ m, m ∈ ns → (∀ y ∈ ns, y ≤ m) → q false (.int m)
  | _, _ => False
theorem min_if (i j : Int) : (if j < i then j else i) = min i j := by
  by_cases h : j < i
  · rw [if_pos h]
    omega
  · rw [if_neg h]
    omega
theorem max_if (i j : Int) : (if j > i then j else i) = max i j := by
  by_cases h : i < j
  · rw [if_pos h]
    omega
  · rw [if_neg h]
    omega
instance : LC K (rMin3 K) mMin where
  s am O H xs us hK hO ra Q q hm k := by
    subst hK
    match us, hm, ra with
    | [.d (.int i), .d (.int j)], hm, .cons r (.cons r2 .nil) =>
      cases r
      cases r2
      refine .inl ⟨i, j, rfl, ?_⟩
      rw [min_if]
      exact k _ _ _ H hm (Same.refl _) (.old (Rp.int _))
    | [.d (.list ds)], hm, .cons r .nil =>
      obtain ⟨ns, e, hne, hm⟩ := ask_some (k := fun ns => ns ≠ [] ∧ ∀ m, m ∈ ns → (∀ y ∈ ns, m ≤ y) → q false (.int m)) hm
      cases r with
      | lst a1 a2 =>
        rw [toIs_eq e] at a2
        have e2 := rp_ints a2
        subst e2
        exact .inr (.inl ⟨_, ns, rfl, SqL.of (cut_some.mp a1).2, List.length_pos_iff.mpr hne, fun m h1 h2 => k _ _ _ H (hm m h1 h2) (Same.refl _) (.old (Rp.int _))⟩)
    | [.d (.tuple ds)], hm, .cons r .nil =>
      obtain ⟨ns, e, hne, hm⟩ := ask_some (k := fun ns => ns ≠ [] ∧ ∀ m, m ∈ ns → (∀ y ∈ ns, m ≤ y) → q false (.int m)) hm
      cases r with
      | tup a1 a2 =>
        rw [toIs_eq e] at a2
        have e2 := rp_ints a2
        subst e2
        exact .inr (.inr ⟨_, ns, rfl, SqT.le Le.cutAll a1, List.length_pos_iff.mpr hne, fun m h1 h2 => k _ _ _ H (hm m h1 h2) (Same.refl _) (.old (Rp.int _))⟩)
instance : LC K (rMax3 K) mMax where
  s am O H xs us hK hO ra Q q hm k := by
    subst hK
    match us, hm, ra with
    | [.d (.int i), .d (.int j)], hm, .cons r (.cons r2 .nil) =>
      cases r
      cases r2
      refine .inl ⟨i, j, rfl, ?_⟩
      rw [max_if]
      exact k _ _ _ H hm (Same.refl _) (.old (Rp.int _))
    | [.d (.list ds)], hm, .cons r .nil =>
      obtain ⟨ns, e, hne, hm⟩ := ask_some (k := fun ns => ns ≠ [] ∧ ∀ m, m ∈ ns → (∀ y ∈ ns, y ≤ m) → q false (.int m)) hm
      cases r with
      | lst a1 a2 =>
        rw [toIs_eq e] at a2
        have e2 := rp_ints a2
        subst e2
        exact .inr (.inl ⟨_, ns, rfl, SqL.of (cut_some.mp a1).2, List.length_pos_iff.mpr hne, fun m h1 h2 => k _ _ _ H (hm m h1 h2) (Same.refl _) (.old (Rp.int _))⟩)
    | [.d (.tuple ds)], hm, .cons r .nil =>
      obtain ⟨ns, e, hne, hm⟩ := ask_some (k := fun ns => ns ≠ [] ∧ ∀ m, m ∈ ns → (∀ y ∈ ns, y ≤ m) → q false (.int m)) hm
      cases r with
      | tup a1 a2 =>
        rw [toIs_eq e] at a2
        have e2 := rp_ints a2
        subst e2
        exact .inr (.inr ⟨_, ns, rfl, SqT.le Le.cutAll a1, List.length_pos_iff.mpr hne, fun m h1 h2 => k _ _ _ H (hm m h1 h2) (Same.refl _) (.old (Rp.int _))⟩)
@[simp ↓] def mSum : List U → (Bool → D → Prop) → Prop
  | [.d (.list xs)], q => ask (toIs xs) fun ns => q false (.int ns.sum)
  | _, _ => False
instance : LC K (rSum K) mSum where
  s am O H xs us hK hO ra Q q hm k := by
    subst hK
    match us, hm, ra with
    | [.d (.list ds)], hm, .cons r .nil =>
      obtain ⟨ns, e, hm⟩ := ask_some (k := fun ns => q false (.int (List.sum ns))) hm
      cases r with
      | lst a1 a2 =>
        rw [toIs_eq e] at a2
        have e2 := rp_ints a2
        subst e2
        exact ⟨_, ns, rfl, SqL.of (cut_some.mp a1).2, k _ _ _ H hm (Same.refl _) (.old (Rp.int _))⟩
@[simp] def toBs : List D → Option (List Bool)
  | [] => some []
  | .bool i :: ds => (toBs ds).map (i :: ·)
  | _ :: _ => none
theorem toBs_map (ns : List Bool) : toBs (ns.map PyData.bool) = some ns := by
  induction ns with
  | nil => rfl
  | cons n ns ih =>
    show (toBs (ns.map PyData.bool)).map _ = _
    rw [ih]
    rfl
theorem toBs_eq : ∀ {ds : List D} {ns : List Bool}, toBs ds = some ns → ds = ns.map PyData.bool
  | [], _, h => by
    cases h
    rfl
  | d :: ds, ns, h => by
    cases d with
    | bool i =>
      have h2 : (toBs ds).map (i :: ·) = some ns := h
      cases q : toBs ds with
      | none =>
        rw [q] at h2
        cases h2
      | some ms =>
        rw [q] at h2
        cases h2
        rw [toBs_eq q]
        rfl
    | _ => cases h
@[simp ↓] def mAnyAll (f : List Bool → Bool) : List U → (Bool → D → Prop) → Prop
  | [.d (.list xs)], q => ask (toBs xs) fun ns => q false (.bool (f ns))
  | _, _ => False
instance : LC K (rAny K) (mAnyAll fun bs => bs.any id) where
  s am O H xs us hK hO ra Q q hm k := by
    subst hK
    match us, hm, ra with
    | [.d (.list ds)], hm, .cons r .nil =>
      obtain ⟨ns, e, hm⟩ := ask_some (k := fun ns => q false (.bool (List.any ns id))) hm
      cases r with
      | lst a1 a2 =>
        rw [toBs_eq e] at a2
        have e2 := rp_bools a2
        subst e2
        exact ⟨_, ns, rfl, SqL.of (cut_some.mp a1).2, k _ _ _ H hm (Same.refl _) (.old (Rp.bl _))⟩
instance : LC K (rAll K) (mAnyAll fun bs => bs.all id) where
  s am O H xs us hK hO ra Q q hm k := by
    subst hK
    match us, hm, ra with
    | [.d (.list ds)], hm, .cons r .nil =>
      obtain ⟨ns, e, hm⟩ := ask_some (k := fun ns => q false (.bool (List.all ns id))) hm
      cases r with
      | lst a1 a2 =>
        rw [toBs_eq e] at a2
        have e2 := rp_bools a2
        subst e2
        exact ⟨_, ns, rfl, SqL.of (cut_some.mp a1).2, k _ _ _ H hm (Same.refl _) (.old (Rp.bl _))⟩
end
end V3
set_option Elab.async false
set_option linter.all false
set_option maxRecDepth 100000
set_option maxHeartbeats 4000000
namespace V3
open PySem PySem.Spec PyProof.Rows L2
/-! ### the rules with the written part named -/
theorem un65 {A : Around} {k : Nat} (hr : Room k A) : A.units + 65 < cLine := by
  have := hr.un
  omega
section
variable {X : Cx} {K : PySem.W.Frag}
theorem ix3 (K : PySem.W.Frag) (h : X.K = K := by rfl) : IxR X (rIx K) := h ▸ ix_seq
theorem add3 (K : PySem.W.Frag) (h : X.K = K := by rfl) : OpR X (binaryOp .Add) (rAddU K) := h ▸ op_addU
theorem eq3 (K : PySem.W.Frag) (hu : X.A.units + 64 < cLine) (h : X.K = K := by rfl) : OpR X (compareOp .Eq) (rEqD K) := h ▸ op_eqD hu
theorem ne3 (K : PySem.W.Frag) (hu : X.A.units + 64 < cLine) (h : X.K = K := by rfl) : OpR X (compareOp .NotEq) (rNeD K) := h ▸ op_neD hu
theorem in3 (K : PySem.W.Frag) (hu : X.A.units + 65 < cLine) (h : X.K = K := by rfl) : OpR X (compareOp .In) (rInU K) := h ▸ op_inU hu
theorem notIn3 (K : PySem.W.Frag) (hu : X.A.units + 65 < cLine) (h : X.K = K := by rfl) : OpR X (compareOp .NotIn) (rNotInU K) := h ▸ op_notInU hu
theorem sl3 (K : PySem.W.Frag) (h : X.K = K := by rfl) : SlR X (rSlU K) := h ▸ sl_U
theorem len3 (K : PySem.W.Frag) (h : X.K = K := by rfl) : CallR X (.builtin "len") (rLen3 K) := h ▸ call_len3
theorem list3 (K : PySem.W.Frag) (h : X.K = K := by rfl) : CallR X (.type "list") (rList3 K) := h ▸ call_list3
theorem tup3 (K : PySem.W.Frag) (h : X.K = K := by rfl) : CallR X (.type "tuple") (rTup3 K) := h ▸ call_tup3
theorem min3 (K : PySem.W.Frag) (hc : X.calm = true) (hu : X.A.units + 1 < cLine) (h : X.K = K := by rfl) : CallR X (.builtin "min") (rMin3 K) := h ▸ call_min3 hc hu
theorem max3 (K : PySem.W.Frag) (hc : X.calm = true) (hu : X.A.units + 1 < cLine) (h : X.K = K := by rfl) : CallR X (.builtin "max") (rMax3 K) := h ▸ call_max3 hc hu
theorem sum3 (K : PySem.W.Frag) (hc : X.calm = true) (h : X.K = K := by rfl) : CallR X (.builtin "sum") (rSum K) := h ▸ cr_sum hc
theorem any3 (K : PySem.W.Frag) (hc : X.calm = true) (h : X.K = K := by rfl) : CallR X (.builtin "any") (rAny K) := h ▸ cr_any hc
theorem all3 (K : PySem.W.Frag) (hc : X.calm = true) (h : X.K = K := by rfl) : CallR X (.builtin "all") (rAll K) := h ▸ cr_all hc
theorem isi3 (K : PySem.W.Frag) (h : X.K = K := by rfl) : CallR X (.builtin "isinstance") (rIsi K) := h ▸ call_isi
theorem isiT3 (K : PySem.W.Frag) (h : X.K = K := by rfl) : CallR X (.builtin "isinstance") (rIsiT K) := h ▸ call_isiT
theorem seq3 (K : PySem.W.Frag) {tg l : Expr} {tl : TE} (hl : PE X l tl) (h : X.K = K := by rfl) : PI X tg l (iSeq K tl) := h ▸ pi_seq hl
theorem fld3 (K : PySem.W.Frag) {e : Expr} {f : Str} {pos : Pos} {ta : TE} (he : PE X e ta) (hb : attributeBase e f X.env (eval e X.env) = eval e X.env) (h : X.K = K := by rfl) : PE X (.Attribute e f pos) (tFld K ta f) := h ▸ pe_fld he hb
theorem tupG3 (K : PySem.W.Frag) {es : List Expr} {t : TGs} {n : Nat} {k : _} {pos : Pos} (hc : X.calm = true) (h' : PGs X es t) (hn : (assignEach es X.env).length = n := by rfl) (hst : (assignEach es X.env).findIdx? (·.1) = none := by rfl) (h : X.K = K := by rfl) : PG X (.Tuple es k pos) (gTup K n t) := h ▸ pg_tup hc h' hn hst
end
section
variable {K : PySem.W.Frag} {C : Addr} {TL : List (Addr × Str)} {E : XK}
/-- a place where ways meet -/
@[simp ↓] def mCut (mt mu : TS3) : TS3 := fun F ρ n e => ∃ Mid : Ro → Nat → Prop, mt { F with nx := Mid } ρ n e ∧ ∀ ρ' n', Mid ρ' n' → mu F ρ' n' e
instance {t u : TS} {mt mu : TS3} [ht : LS K C TL E t mt] [hu : LS K C TL E u mu] : LS K C TL E (C8.tCut t u) (mCut mt mu) where
  s am ρ n σ H D F hE h en hm := by
    obtain ⟨Mid, h1, h2⟩ := hm
    exact ⟨fun σ' H' => ∃ ρ' n', Mid ρ' n' ∧ Rl am ρ' n' σ' H' ∧ EnR am D F, ht.s am ρ n σ H _ { F with nx := Mid } hE h ⟨fun ρ' n' σ' H' q r => ⟨ρ', n', q, r, en⟩, en.bk, en.ct, en.rt⟩ h1, fun σ' H' ⟨ρ', n', q, r, _⟩ => hu.s am ρ' n' σ' H' D F hE r en (h2 ρ' n' q)⟩
@[simp ↓] def mDrop (me : TE3) : TS3 := fun F ρ n e => me ρ n (fun _ _ n1 => F.nx ρ n1) e
instance {te : TE} {S : List Nat} {me : TE3} [he : LE K C TL E te S me] : LS K C TL E (tDrop te) (mDrop me) where
  s am ρ n σ H D F hE h en hm := he.s am ρ n σ H hE h _ _ hm fun fr u n1 v H1 hq f1 w1 _ => en.nx ρ n1 σ H1 hq (h.step f1 w1)
/-! ### x.append(e), x.extend(e), x.pop(k) -/
@[simp] def owAt : Ro → Nat → Option (List D)
  | [], _ => none
  | .ow ds :: _, 0 => some ds
  | _ :: _, 0 => none
  | _ :: ρ, i + 1 => owAt ρ i
theorem owAt_eq : ∀ {ρ : Ro} {i : Nat} {ds : List D}, owAt ρ i = some ds → ρ[i]? = some (Sl.ow ds)
  | [], _, _, h => by cases h
  | .ow ds :: _, 0, _, h => by
    cases h
    rfl
  | .no :: _, 0, _, h => by cases h
  | .fz _ :: _, 0, _, h => by cases h
  | s :: ρ, i + 1, ds, h => by
    have h2 : owAt ρ i = some ds := by cases s <;> exact h
    rw [List.getElem?_cons_succ]
    exact owAt_eq h2
@[simp ↓] def mApp (S : List Nat) (i : Nat) (me : TE3) : TS3 := fun F ρ n e => ask (owAt ρ i) fun ds => me ρ n (fun _ u n1 => askD u fun x => ds.length < sizeLine ∧ (if flat x = true then F.nx (ρ.set i (.ow (ds ++ [x]))) n1 else i ∉ S ∧ F.nx ((dem S ρ).set i (.ow (ds ++ [x]))) n1)) e
/-- an item comes behind the list of slot i -/
theorem app_ok {am : Am} {ρ : Ro} {n : Nat} {σ : L2.St} {H : Hp} (h : Rl am ρ n σ H) {i : Nat} {ds : List D} {p : Addr} {vs : List V} {S : List Nat} {v : V} {x : D} (hi : ρ[i]? = some (Sl.ow ds)) (hp : σ[i]? = some (some (V.ref p))) (e : H p = some (.lst vs)) (r : RpAll am.K (cut (Hid am ρ σ) H) vs ds)
    (rx : Rp am.K (cut (Hid am (dem S ρ) σ) H) v x) {k : Ro → Prop} (hk : if flat x = true then k (ρ.set i (.ow (ds ++ [x]))) else i ∉ S ∧ k ((dem S ρ).set i (.ow (ds ++ [x])))) : ∃ ρ', k ρ' ∧ Rl am ρ' n σ (upd H p (.lst (vs ++ [v]))) := by
  by_cases f : flat x = true
  · rw [if_pos f] at hk
    refine ⟨_, hk, h.write hi hp (RpAll.app r (.one (Rp.hide (fun q z => ?_) _ _ f rx)))⟩
    rcases z with z | ⟨j, z⟩
    · exact .inl (.inl z)
    · exact .inr (h.ownL z).2.1
  · rw [if_neg f] at hk
    have hi2 : (dem S ρ)[i]? = some (Sl.ow ds) := by
      rw [dem_get, hi]
      show some (if i ∈ S then _ else _) = _
      rw [if_neg hk.1]
    exact ⟨_, hk.2, (h.dem S).write hi2 hp (RpAll.app (RpAll.le (Le.cutSub fun a => hidDem) _ _ r) (.one rx))⟩
instance (priority := high) {te : TE} {i : Nat} {S : List Nat} {me : TE3} [he : LE K C TL E te S me] : LS K C TL E (tDrop (tBM K "list" rAppend (tVar i) (tCons te tNil))) (mApp S i me) where
  s am ρ n σ H D F hE h en hm := by
    obtain ⟨rfl, rfl, rfl, rfl⟩ := id hE
    obtain ⟨ds, e, hm⟩ := ask_some hm
    have hi := owAt_eq e
    obtain ⟨p, vs, q1, q2, q3, q4⟩ := h.ow i ds hi
    refine ⟨.ref p, q1, .inl ⟨rfl, vs, SqL.of q3⟩, he.s am ρ n σ H hE h _ _ hm fun fr u n1 v H1 hq f1 w1 r1 => ?_⟩
    have h1 := h.step f1 w1
    match u, hq, r1.1 with
    | .d x, hq, rx =>
      have e1 := h.keepOw f1 ⟨⟨ds, hi⟩, q1⟩ q3
      have r4 := RpAll.le (h.cutLe0 f1) _ _ q4
      obtain ⟨ρ', hk, r5⟩ := app_ok h1 hi q1 e1 r4 rx (k := fun ρ' => F.nx ρ' n1) hq.2
      exact ⟨p, vs, v, rfl, rfl, e1, by rw [RpAll.len r4]; exact hq.1, en.nx ρ' n1 σ _ hk r5⟩
@[simp ↓] def mExt (S : List Nat) (i : Nat) (me : TE3) : TS3 := fun F ρ n e => ask (owAt ρ i) fun ds => me ρ n (fun _ u n1 => askL u fun xs => ds.length + xs.length ≤ sizeLine ∧ flatAll xs = true ∧ F.nx (ρ.set i (.ow (ds ++ xs))) n1) e
instance (priority := high) {te : TE} {i : Nat} {S : List Nat} {me : TE3} [he : LE K C TL E te S me] : LS K C TL E (tDrop (tBM K "list" rExtend (tVar i) (tCons te tNil))) (mExt S i me) where
  s am ρ n σ H D F hE h en hm := by
    obtain ⟨rfl, rfl, rfl, rfl⟩ := id hE
    obtain ⟨ds, e, hm⟩ := ask_some hm
    have hi := owAt_eq e
    obtain ⟨p, vs, q1, q2, q3, q4⟩ := h.ow i ds hi
    refine ⟨.ref p, q1, .inl ⟨rfl, vs, SqL.of q3⟩, he.s am ρ n σ H hE h _ _ hm fun fr u n1 v H1 hq f1 w1 r1 => ?_⟩
    have h1 := h.step f1 w1
    obtain ⟨xs, a, ws, rfl, rfl, a1, a2, hl, fl, hq⟩ := askL_rep hq r1.1
    have e1 := h.keepOw f1 ⟨⟨ds, hi⟩, q1⟩ q3
    have r4 := RpAll.le (h.cutLe0 f1) _ _ q4
    refine ⟨p, a, vs, ws, rfl, rfl, e1, (cut_some.mp a1).2, by rw [RpAll.len r4, RpAll.len a2]; exact hl, en.nx _ n1 σ _ hq (h1.write hi q1 (RpAll.app r4 (RpAll.hide (fun q z => ?_) _ _ fl a2)))⟩
    rcases z with z | ⟨j, z⟩
    · exact .inl (.inl z)
    · exact .inr (h1.ownL z).2.1
/-- an item taken out of the list of slot j: which one, what is left -/
@[simp] def popD (ds : List D) (i : Int) (k : D → List D → Prop) : Prop := ((-(2 ^ 63) ≤ i ∧ i < 2 ^ 63) ∧ ask (ixN ds.length i) fun j => ask ds[j]? fun x => flat x = true ∧ k x (ds.eraseIdx j))
@[simp ↓] def mPopTo (i j : Nat) (me : TE3) : TS3 := fun F ρ n e => ask (owAt ρ j) fun ds => me ρ n (fun _ u n1 => askI u fun k => popD ds k fun x rest => F.nx ((ρ.set j (.ow rest)).set i (.fz (.d x))) n1) e
theorem ixN_seq {n : Nat} {i : Int} {j : Nat} (h : ixN n i = some j) : seqIndex? i n = some j := by
  unfold ixN at h
  unfold seqIndex?
  split at h
  · split at h
    · cases h
      simp
      omega
    · cases h
  · split at h
    · cases h
      simp
      omega
    · cases h
@[simp] theorem toBs_f {α : Type} (g : α → Bool) : ∀ as : List α, toBs (as.map fun a => PyData.bool (g a)) = some (as.map g)
  | [] => rfl
  | a :: as => by
    show (toBs (as.map fun a => PyData.bool (g a))).map _ = _
    rw [toBs_f g as]
    rfl
@[simp] theorem toIs_f {α : Type} (g : α → Int) : ∀ as : List α, toIs (as.map fun a => PyData.int (g a)) = some (as.map g)
  | [] => rfl
  | a :: as => by
    show (toIs (as.map fun a => PyData.int (g a))).map _ = _
    rw [toIs_f g as]
    rfl
theorem few {k : Nat} (h : k ≤ 10000) : k < sizeLine := Nat.lt_of_le_of_lt h (by decide)
/-! ### loops and comprehensions over what is known -/
theorem lcL_pure {is : List Nat} {tup : Bool} {mt : TT3} {me : TE3} {ρ : Ro} {e : Addr → Prop} {α : Type} (D0 : α → D) (f : α → D) (p : α → Bool) : ∀ (as : List α) (n : Nat) (q : List D → Nat → Prop),
    (∀ a ∈ as, ∀ (n : Nat) (Kt : D → Nat → Prop) (Ks : Nat → Prop), (if p a = true then Kt (f a) n else Ks n) → giv is tup (D0 a) ρ fun ρ' => mt ρ' n (fun b n1 => if b = true then me ρ' n1 (fun _ u n2 => match u with
      | .d x => Kt x n2
      | _ => False) e else Ks n1) e) → q ((as.filter p).map f) n → lcL is tup mt me ρ e (as.map D0) n q
  | [], n, q, _, h => h
  | a :: as, n, q, hit, h => by
    show giv is tup (D0 a) ρ fun ρ' => mt ρ' n (fun b n1 => if b = true then me ρ' n1 (fun _ u n2 => match u with
      | .d x => lcL is tup mt me ρ e (as.map D0) n2 fun xs n3 => q (x :: xs) n3
      | _ => False) e else lcL is tup mt me ρ e (as.map D0) n1 q) e
    refine hit a (List.mem_cons_self ..) n (fun x n2 => lcL is tup mt me ρ e (as.map D0) n2 fun xs n3 => q (x :: xs) n3) (fun n1 => lcL is tup mt me ρ e (as.map D0) n1 q) ?_
    by_cases hp : p a = true
    · rw [if_pos hp]
      refine lcL_pure D0 f p as n _ (fun b hb => hit b (List.mem_cons_of_mem _ hb)) ?_
      rw [List.filter_cons_of_pos hp] at h
      exact h
    · rw [if_neg hp]
      refine lcL_pure D0 f p as n _ (fun b hb => hit b (List.mem_cons_of_mem _ hb)) ?_
      rw [List.filter_cons_of_neg hp] at h
      exact h
/-- all are taken -/
theorem lcL_all {is : List Nat} {tup : Bool} {mt : TT3} {me : TE3} {ρ : Ro} {e : Addr → Prop} {α : Type} (D0 : α → D) (f : α → D) (as : List α) (n : Nat) (q : List D → Nat → Prop)
    (hit : ∀ a ∈ as, ∀ (n : Nat) (Kt : D → Nat → Prop) (Ks : Nat → Prop), Kt (f a) n → giv is tup (D0 a) ρ fun ρ' => mt ρ' n (fun b n1 => if b = true then me ρ' n1 (fun _ u n2 => match u with
      | .d x => Kt x n2
      | _ => False) e else Ks n1) e) (h : q (as.map f) n) : lcL is tup mt me ρ e (as.map D0) n q := by
  refine lcL_pure D0 f (fun _ => true) as n q (fun a ha n Kt Ks k => hit a ha n Kt Ks (by simpa using k)) ?_
  have e : as.filter (fun _ => true) = as := List.filter_eq_self.mpr fun _ _ => rfl
  rw [e]
  exact h
/-- the same over the items as they stand -/
theorem lcL_id {is : List Nat} {tup : Bool} {mt : TT3} {me : TE3} {ρ : Ro} {e : Addr → Prop} (f : D → D) (as : List D) (n : Nat) (q : List D → Nat → Prop)
    (hit : ∀ a ∈ as, ∀ (n : Nat) (Kt : D → Nat → Prop) (Ks : Nat → Prop), Kt (f a) n → giv is tup a ρ fun ρ' => mt ρ' n (fun b n1 => if b = true then me ρ' n1 (fun _ u n2 => match u with
      | .d x => Kt x n2
      | _ => False) e else Ks n1) e) (h : q (as.map f) n) : lcL is tup mt me ρ e as n q := by
  have z := lcL_all (is := is) (tup := tup) (mt := mt) (me := me) (ρ := ρ) (e := e) (fun d => d) f as n q hit h
  rw [List.map_id'] at z
  exact z
/-- over the numbers from 0 on -/
theorem lcL_up {is : List Nat} {tup : Bool} {mt : TT3} {me : TE3} {ρ : Ro} {e : Addr → Prop} (f : Nat → D) (lo : Int) (k : Nat) (n : Nat) (q : List D → Nat → Prop)
    (hit : ∀ i, i < k → ∀ (n : Nat) (Kt : D → Nat → Prop) (Ks : Nat → Prop), Kt (f i) n → giv is tup (.int (lo + (i : Nat))) ρ fun ρ' => mt ρ' n (fun b n1 => if b = true then me ρ' n1 (fun _ u n2 => match u with
      | .d x => Kt x n2
      | _ => False) e else Ks n1) e) (h : q ((List.range k).map f) n) : lcL is tup mt me ρ e (upFrom lo k) n q :=
  lcL_all (fun (i : Nat) => PyData.int (lo + (i : Nat))) f (List.range k) n q (fun i hi => hit i (List.mem_range.mp hi)) h
@[simp] theorem upFrom_len (lo : Int) (k : Nat) : (upFrom lo k).length = k := by
  unfold upFrom
  rw [List.length_map, List.length_range]
/-- a loop by what holds ahead of each turn, of the items left -/
theorem forL_ind {is : List Nat} {tup : Bool} {mb : TS3} {F : En3} {e : Addr → Prop} (Pv : List D → Ro → Nat → Prop) (h0 : ∀ ρ n, Pv [] ρ n → F.nx ρ n)
    (hs : ∀ d ds ρ n (G : Ro → Nat → Prop), (∀ ρ n, Pv ds ρ n → G ρ n) → Pv (d :: ds) ρ n → giv is tup d ρ fun ρ' => mb { F with nx := G, ct := G, bk := F.nx } ρ' n e) : ∀ (ds : List D) (ρ : Ro) (n : Nat), Pv ds ρ n → forL is tup mb F e ds ρ n
  | [], ρ, n, h => h0 ρ n h
  | d :: ds, ρ, n, h => hs d ds ρ n _ (fun ρ n p => forL_ind Pv h0 hs ds ρ n p) h
end
end V3
set_option Elab.async false
set_option linter.all false
set_option maxRecDepth 100000
set_option maxHeartbeats 4000000
set_option synthInstance.maxSize 100000
set_option synthInstance.maxHeartbeats 0
namespace G21
open PySem PySem.Spec PyProof.Rows L2 V3
/-! ### blocks, bodies, spots as data -/
abbrev pr (a b : Int) : D := .tuple [.int a, .int b]
abbrev qd (a b c d : Int) : D := .tuple [.int a, .int b, .int c, .int d]
abbrev bkD (b : Bk) : D := qd b.l b.d b.r b.u
abbrev rt (q : U → Nat → Prop) (n : Nat) (x : D) : Prop := q (.d x) n
def isN : D → Bool
  | .int _ => true
  | _ => false
@[simp ↓] def sp_num : VSp := fun us n q _ => ∃ x, us = [.d x] ∧ q (.d (.bool (isN x))) n
@[simp ↓] def sp_box_of : VSp := fun us n q _ => ∃ l d r u a b, us = [.d (qd l d r u), .d (pr a b)] ∧ q (.d (qd (l - a) (d - b) r u)) n
def inB (x y l d r u : Int) : Bool := (decide (l < x) && decide (x < r)) && (decide (d < y) && decide (y < u))
@[simp ↓] def sp_lies_in : VSp := fun us n q _ => ∃ x y l d r u, us = [.d (pr x y), .d (qd l d r u)] ∧ q (.d (.bool (inB x y l d r u))) n
def isIxD (m : Int) : D → Bool
  | .int i => decide (0 ≤ i) && decide (i < m)
  | _ => false
@[simp ↓] def sp_index : VSp := fun us n q _ => ∃ x m, us = [.d x, .d (.int m)] ∧ q (.d (.bool (isIxD m x))) n
def isSzD : D → Bool
  | .int i => decide (1 ≤ i)
  | _ => false
@[simp ↓] def sp_size : VSp := fun us n q _ => ∃ x, us = [.d x] ∧ q (.d (.bool (isSzD x))) n
def isBd : D → Bool
  | .tuple [a, b] => isSzD a && isSzD b
  | _ => false
@[simp ↓] def sp_body : VSp := fun us n q _ => ∃ x : D, us = [.d x] ∧ (∀ xs, x = .tuple xs → xs.length ≤ 1000) ∧ q (.d (.bool (isBd x))) n
@[simp ↓] def sp_chk_body (BB : Addr) : VSp := fun us n q e => ∃ x : D, us = [.d x] ∧ (∀ xs, x = .tuple xs → xs.length ≤ 1000) ∧ (isBd x = true → q (.d .none) n) ∧ (isBd x = false → e BB)
def bar1 (x y a b : Int) (k : Bk) : Bool := inB x y (k.l - a) (k.d - b) k.r k.u
def freeB (bs : List Bk) (a b x y : Int) : Bool := !(bs.any (bar1 x y a b))
def sp_free : VSp := fun us n q _ => ∃ bs a b x y, us = [.dw (bs.map bkD), .d (pr a b), .d (pr x y)] ∧ bs.length ≤ 12 ∧ q (.d (.bool (freeB bs a b x y))) n
section
variable {P : Program} {w : World} {K : PySem.W.Frag} {mg : Str → Option Value} {base : Heap} {TL : List (Addr × Str)}
theorem ok_q_is_number (T : Txt K mg) : FnOk P w K mg base CX0 1 T.q_is_number.a T.q_is_number.d ["thing"] (toSp K T.C TL false sp_num) := by
  refine T.q_is_number.F.ok c_q_is_number (fun vs H Q E h => toSp_len h fun us n q e hs => ?_) (fun cdv A outer s H vs Q E hr h => ?_)
  · (first | (obtain ⟨rfl, _⟩ := hs; rfl) | (obtain ⟨_, hs⟩ := hs; (first | (obtain ⟨rfl, _⟩ := hs; rfl) | (obtain ⟨_, hs⟩ := hs; (first | (obtain ⟨rfl, _⟩ := hs; rfl) | (obtain ⟨_, hs⟩ := hs; (first | (obtain ⟨rfl, _⟩ := hs; rfl) | (obtain ⟨_, hs⟩ := hs; (first | (obtain ⟨rfl, _⟩ := hs; rfl) | (obtain ⟨_, hs⟩ := hs; (first | (obtain ⟨rfl, _⟩ := hs; rfl) | (obtain ⟨_, hs⟩ := hs; (first | (obtain ⟨rfl, _⟩ := hs; rfl) | (obtain ⟨_, hs⟩ := hs; (first | (obtain ⟨rfl, _⟩ := hs; rfl) | (obtain ⟨_, hs⟩ := hs; (first | (obtain ⟨rfl, _⟩ := hs; rfl) | (obtain ⟨_, hs⟩ := hs; (first | (obtain ⟨rfl, _⟩ := hs; rfl) | (obtain ⟨_, hs⟩ := hs; (first | (obtain ⟨rfl, _⟩ := hs; rfl) | (obtain ⟨_, hs⟩ := hs; (first | (obtain ⟨rfl, _⟩ := hs; rfl) | (obtain ⟨_, hs⟩ := hs; (first | (obtain ⟨rfl, _⟩ := hs; rfl) | (obtain ⟨_, hs⟩ := hs; (first | (obtain ⟨rfl, _⟩ := hs; rfl) | (obtain ⟨_, hs⟩ := hs; (first | (obtain ⟨rfl, _⟩ := hs; rfl) | (obtain ⟨_, hs⟩ := hs; (first | (obtain ⟨rfl, _⟩ := hs; rfl) | (obtain ⟨_, hs⟩ := hs; (obtain ⟨rfl, _⟩ := hs; rfl)))))))))))))))))))))))))))))))))
  · refine ⟨_,
      (pss_one (ps_ret (pe_and (pe_callB (isi3 K) (by rfl) T.z_isinstance (by decide +kernel) (pa_cons (pv 0) (pa_cons (pe_bltn (v := .ty "int") (u := .type "int") rfl T.z_int (by decide +kernel) rfl) pa_nil))) (pe_one (pe_not (pe_callB (isi3 K) (by rfl) T.z_isinstance (by decide +kernel) (pa_cons (pv 0) (pa_cons (pe_bltn (v := .ty "bool") (u := .type "bool") rfl T.z_bool (by decide +kernel) rfl) pa_nil))))))))
      , run3 (K := K) (C := T.C) (TL := TL) h fun us n q e hs => ?_⟩
    obtain ⟨x, rfl, hq⟩ := hs
    cases x <;> simpa [ro0, isN] using hq
theorem ok_q_is_size (T : Txt K mg) : FnOk P w K mg base CX0 2 T.q_is_size.a T.q_is_size.d ["thing"] (toSp K T.C TL false sp_size) := by
  refine T.q_is_size.F.ok c_q_is_size (fun vs H Q E h => toSp_len h fun us n q e hs => ?_) (fun cdv A outer s H vs Q E hr h => ?_)
  · (first | (obtain ⟨rfl, _⟩ := hs; rfl) | (obtain ⟨_, hs⟩ := hs; (first | (obtain ⟨rfl, _⟩ := hs; rfl) | (obtain ⟨_, hs⟩ := hs; (first | (obtain ⟨rfl, _⟩ := hs; rfl) | (obtain ⟨_, hs⟩ := hs; (first | (obtain ⟨rfl, _⟩ := hs; rfl) | (obtain ⟨_, hs⟩ := hs; (first | (obtain ⟨rfl, _⟩ := hs; rfl) | (obtain ⟨_, hs⟩ := hs; (first | (obtain ⟨rfl, _⟩ := hs; rfl) | (obtain ⟨_, hs⟩ := hs; (first | (obtain ⟨rfl, _⟩ := hs; rfl) | (obtain ⟨_, hs⟩ := hs; (first | (obtain ⟨rfl, _⟩ := hs; rfl) | (obtain ⟨_, hs⟩ := hs; (first | (obtain ⟨rfl, _⟩ := hs; rfl) | (obtain ⟨_, hs⟩ := hs; (first | (obtain ⟨rfl, _⟩ := hs; rfl) | (obtain ⟨_, hs⟩ := hs; (first | (obtain ⟨rfl, _⟩ := hs; rfl) | (obtain ⟨_, hs⟩ := hs; (first | (obtain ⟨rfl, _⟩ := hs; rfl) | (obtain ⟨_, hs⟩ := hs; (first | (obtain ⟨rfl, _⟩ := hs; rfl) | (obtain ⟨_, hs⟩ := hs; (first | (obtain ⟨rfl, _⟩ := hs; rfl) | (obtain ⟨_, hs⟩ := hs; (first | (obtain ⟨rfl, _⟩ := hs; rfl) | (obtain ⟨_, hs⟩ := hs; (first | (obtain ⟨rfl, _⟩ := hs; rfl) | (obtain ⟨_, hs⟩ := hs; (obtain ⟨rfl, _⟩ := hs; rfl)))))))))))))))))))))))))))))))))
  · refine ⟨_,
      (pss_one (ps_ret (pe_and (pe_call (ok_q_is_number T (TL := TL)) (hr.mono (by decide)) rfl T.q_is_number.g T.q_is_number.k T.q_is_number.b .nil pass0 (pa_cons (pv 0) pa_nil)) (pe_one (pe_cmpR op_ge (pv 0) pe_int (nomark _))))))
      , run3 (K := K) (C := T.C) (TL := TL) h fun us n q e hs => ?_⟩
    obtain ⟨x, rfl, hq⟩ := hs
    cases x <;> simpa [ro0, sp_num, isN, isSzD] using hq
theorem ok_q_is_body (T : Txt K mg) : FnOk P w K mg base CX0 3 T.q_is_body.a T.q_is_body.d ["thing"] (toSp K T.C TL false sp_body) := by
  refine T.q_is_body.F.ok c_q_is_body (fun vs H Q E h => toSp_len h fun us n q e hs => ?_) (fun cdv A outer s H vs Q E hr h => ?_)
  · (first | (obtain ⟨rfl, _⟩ := hs; rfl) | (obtain ⟨_, hs⟩ := hs; (first | (obtain ⟨rfl, _⟩ := hs; rfl) | (obtain ⟨_, hs⟩ := hs; (first | (obtain ⟨rfl, _⟩ := hs; rfl) | (obtain ⟨_, hs⟩ := hs; (first | (obtain ⟨rfl, _⟩ := hs; rfl) | (obtain ⟨_, hs⟩ := hs; (first | (obtain ⟨rfl, _⟩ := hs; rfl) | (obtain ⟨_, hs⟩ := hs; (first | (obtain ⟨rfl, _⟩ := hs; rfl) | (obtain ⟨_, hs⟩ := hs; (first | (obtain ⟨rfl, _⟩ := hs; rfl) | (obtain ⟨_, hs⟩ := hs; (first | (obtain ⟨rfl, _⟩ := hs; rfl) | (obtain ⟨_, hs⟩ := hs; (first | (obtain ⟨rfl, _⟩ := hs; rfl) | (obtain ⟨_, hs⟩ := hs; (first | (obtain ⟨rfl, _⟩ := hs; rfl) | (obtain ⟨_, hs⟩ := hs; (first | (obtain ⟨rfl, _⟩ := hs; rfl) | (obtain ⟨_, hs⟩ := hs; (first | (obtain ⟨rfl, _⟩ := hs; rfl) | (obtain ⟨_, hs⟩ := hs; (first | (obtain ⟨rfl, _⟩ := hs; rfl) | (obtain ⟨_, hs⟩ := hs; (first | (obtain ⟨rfl, _⟩ := hs; rfl) | (obtain ⟨_, hs⟩ := hs; (first | (obtain ⟨rfl, _⟩ := hs; rfl) | (obtain ⟨_, hs⟩ := hs; (first | (obtain ⟨rfl, _⟩ := hs; rfl) | (obtain ⟨_, hs⟩ := hs; (obtain ⟨rfl, _⟩ := hs; rfl)))))))))))))))))))))))))))))))))
  · refine ⟨_,
      (pss_one (ps_ret (pe_and (pe_callB (isi3 K) (by rfl) T.z_isinstance (by decide +kernel) (pa_cons (pv 0) (pa_cons (pe_bltn (v := .ty "tuple") (u := .type "tuple") rfl T.z_tuple (by decide +kernel) rfl) pa_nil))) (pe_and (pe_cmpR (eq3 K hr.units) (pe_callB (len3 K) (by rfl) T.z_len (by decide +kernel) (pa_cons (pv 0) pa_nil)) pe_int (nomark _)) (pe_and (pe_call (ok_q_is_size T (TL := TL)) (hr.mono (by decide)) rfl T.q_is_size.g T.q_is_size.k T.q_is_size.b .nil pass0 (pa_cons (pe_ix (ix3 K) (pv 0) pe_int (fun _ _ => rfl)) pa_nil)) (pe_one (pe_call (ok_q_is_size T (TL := TL)) (hr.mono (by decide)) rfl T.q_is_size.g T.q_is_size.k T.q_is_size.b .nil pass0 (pa_cons (pe_ix (ix3 K) (pv 0) pe_int (fun _ _ => rfl)) pa_nil))))))))
      , run3 (K := K) (C := T.C) (TL := TL) h fun us n q e hs => ?_⟩
    obtain ⟨x, rfl, hl, hq⟩ := hs
    cases x with
    | tuple xs =>
      have hl := hl xs rfl
      match xs, hl, hq with
      | [], _, hq => simpa [ro0, isBd] using hq
      | [y], _, hq => simpa [ro0, isBd] using hq
      | [y, z], _, hq =>
        simp [ro0, isBd] at hq ⊢
        cases h : isSzD y <;> simpa [h] using hq
      | y :: z :: w :: ws, hl, hq =>
        simp [ro0, isBd] at hq ⊢
        exact hq
    | _ => simpa [ro0, isBd] using hq
theorem ok_q_check_body (T : Txt K mg) : FnOk P w K mg base (L2.CX P w) 4 T.q_check_body.a T.q_check_body.d ["body"] (toSp K T.C TL false (sp_chk_body T.x_BadBody.C)) := by
  refine T.q_check_body.F.okX c_q_check_body (fun vs H Q E h => toSp_len h fun us n q e hs => ?_) (fun cdv A outer s H vs Q E hr h => ?_)
  · (first | (obtain ⟨rfl, _⟩ := hs; rfl) | (obtain ⟨_, hs⟩ := hs; (first | (obtain ⟨rfl, _⟩ := hs; rfl) | (obtain ⟨_, hs⟩ := hs; (first | (obtain ⟨rfl, _⟩ := hs; rfl) | (obtain ⟨_, hs⟩ := hs; (first | (obtain ⟨rfl, _⟩ := hs; rfl) | (obtain ⟨_, hs⟩ := hs; (first | (obtain ⟨rfl, _⟩ := hs; rfl) | (obtain ⟨_, hs⟩ := hs; (first | (obtain ⟨rfl, _⟩ := hs; rfl) | (obtain ⟨_, hs⟩ := hs; (first | (obtain ⟨rfl, _⟩ := hs; rfl) | (obtain ⟨_, hs⟩ := hs; (first | (obtain ⟨rfl, _⟩ := hs; rfl) | (obtain ⟨_, hs⟩ := hs; (first | (obtain ⟨rfl, _⟩ := hs; rfl) | (obtain ⟨_, hs⟩ := hs; (first | (obtain ⟨rfl, _⟩ := hs; rfl) | (obtain ⟨_, hs⟩ := hs; (first | (obtain ⟨rfl, _⟩ := hs; rfl) | (obtain ⟨_, hs⟩ := hs; (first | (obtain ⟨rfl, _⟩ := hs; rfl) | (obtain ⟨_, hs⟩ := hs; (first | (obtain ⟨rfl, _⟩ := hs; rfl) | (obtain ⟨_, hs⟩ := hs; (first | (obtain ⟨rfl, _⟩ := hs; rfl) | (obtain ⟨_, hs⟩ := hs; (first | (obtain ⟨rfl, _⟩ := hs; rfl) | (obtain ⟨_, hs⟩ := hs; (first | (obtain ⟨rfl, _⟩ := hs; rfl) | (obtain ⟨_, hs⟩ := hs; (obtain ⟨rfl, _⟩ := hs; rfl)))))))))))))))))))))))))))))))))
  · refine ⟨_,
      (pss_one (ps_if (pt_not (pt_val (pe_call (ok_q_is_body T (TL := TL)) (hr.mono (by decide)) rfl T.q_is_body.g T.q_is_body.k T.q_is_body.b .nil pass0 (pa_cons (pv 0) pa_nil))))
      (pss_one (ps_rz (C' := T.x_BadBody.C) (ps_raise rfl (takes_of rfl rfl rfl rfl) (pmk_own PySem.F.excBase_ValueError T.x_BadBody.q T.x_BadBody.g T.x_BadBody.k (raises_own T.x_BadBody.b T.x_BadBody.t) (by exact rfl)))))
      pss_nil))
      , run3 (K := K) (C := T.C) (TL := TL) h fun us n q e hs => ?_⟩
    obtain ⟨x, rfl, hl, h1, h2⟩ := hs
    simp [ro0]
    refine ⟨hl, ?_⟩
    cases hf : isBd x
    · simpa [hf] using h2 hf
    · simpa [hf] using h1 hf
end
end G21
set_option Elab.async false
set_option linter.all false
set_option maxRecDepth 100000
set_option maxHeartbeats 4000000
set_option synthInstance.maxSize 100000
set_option synthInstance.maxHeartbeats 0
namespace G21
open PySem PySem.Spec PyProof.Rows L2 V3
/-! ### draws, as values -/
theorem fr_wd {R : RR} {TL : List (Addr × Str)} {H H' : Hp} {n n' : Nat} {d g c : Addr} {t : Int} (hR : R.dr = some (d, g, c)) (w : Wd R TL H n) (f : Fr d g H H') (D : Dr H' d g c t) (ht : t ≤ n') : FrR R H H' ∧ Wd R TL H' n' := by
  obtain ⟨a1, a2, a3, t0, _, gs0, cs0, n0, e1, e2, _⟩ := w.dr d g c hR
  obtain ⟨gs, cs, m, p1, p2, p3, _⟩ := id D
  have th : ∀ b, There H b → There H' b := fun b ⟨o, q1, q2⟩ => by
    by_cases h1 : b = d
    · subst h1
      exact ⟨_, p1, fun ps z => by cases z⟩
    · by_cases h2 : b = g
      · subst h2
        exact ⟨_, p2, fun ps z => by cases z⟩
      · exact ⟨o, f b o h1 h2 q1, q2⟩
  refine ⟨⟨fun b o h1 _ e => f b o (h1 d g c hR).1 (h1 d g c hR).2 e, th⟩, fun a z => th a (w.hid a z), ?_, fun d' g' c' q => ?_⟩
  · refine tabs_keep (fun b o h1 h2 e => f b o (fun z => ?_) (fun z => ?_) e) w.tabs
    · subst z
      rw [e1] at e
      cases e
      exact h2 _ rfl
    · subst z
      rw [e2] at e
      cases e
      exact h1 _ rfl
  · rw [hR] at q
    cases q
    exact ⟨a1, a2, a3, t, ht, D⟩
theorem top_ex : ∃ k : Nat, k = 1000000000000 := ⟨_, rfl⟩
noncomputable def topD : Nat := Classical.choose top_ex
theorem topD_eq : topD = 1000000000000 := Classical.choose_spec top_ex
theorem cap_ex : ∃ k : Int, k = 1000000000 := ⟨_, rfl⟩
noncomputable def capD : Int := Classical.choose cap_ex
theorem capD_eq : capD = 1000000000 := Classical.choose_spec cap_ex
@[simp ↓] def sp_take : VSp := fun us n q _ => ∃ m : Int, us = [.dr, .d (.int m)] ∧ n ≤ topD ∧ 0 < m ∧ m < capD ∧ ∀ x : Int, 0 ≤ x → x < m → q (.d (.int x)) (n + 1)
section
variable {P : Program} {w : World} {K : PySem.W.Frag} {mg : Str → Option Value} {base : Heap} {TL : List (Addr × Str)}
theorem ok_l_take (T : Txt K mg) : FnOk P w K mg base CX0 2 T.l_take.a T.l_take.d ["draw", "many"] (toSp K T.C TL false sp_take) := (ok0_l_take T).imp fun vs H Q E h => by
  obtain ⟨am, us, n, q, e, hK, hC, hTL, ra, w, ⟨m, rfl, hn, h0, h1, hq⟩, k, ke⟩ := h
  cases ra with
  | cons r1 ra =>
    cases ra with
    | cons r2 ra =>
      cases ra
      obtain ⟨d, g, c, hR, rfl⟩ := r1
      cases r2
      obtain ⟨_, _, _, t, ht, D⟩ := w.dr d g c hR
      refine ⟨d, g, c, t, m, rfl, D, by rw [topD_eq] at hn; omega, h0, by rw [capD_eq] at h1; exact h1, fun H' r t' hr0 hr1 ht' f D' => ?_⟩
      obtain ⟨f', w'⟩ := fr_wd (n' := n + 1) hR w f D' (by omega)
      exact k _ (n + 1) _ _ (hq r hr0 hr1) f' w' (.old (Rp.int _))
@[simp] def asL : D → Option (List D)
  | .list xs => some xs
  | .tuple xs => some xs
  | _ => none
@[simp ↓] def sp_pick : VSp := fun us n q _ => ∃ x : D, us = [.dr, .d x] ∧ V3.ask (asL x) fun xs => n ≤ topD ∧ xs ≠ [] ∧ xs.length < 100000 ∧ ∀ y ∈ xs, q (.d y) (n + 1)
theorem atI_lt {xs : List D} {i : Int} (h0 : 0 ≤ i) (h1 : i < xs.length) : ∃ x ∈ xs, atI xs i = some x := by
  obtain ⟨k, rfl⟩ := Int.eq_ofNat_of_zero_le h0
  have hk : k < xs.length := by omega
  refine ⟨xs[k], List.getElem_mem hk, ?_⟩
  have e : ixN xs.length (k : Int) = some k := by
    unfold ixN
    simp [hk]
  unfold atI
  rw [e]
  simp [hk]
theorem ok_l_pick (T : Txt K mg) : FnOk P w K mg base CX0 3 T.l_pick.a T.l_pick.d ["draw", "some"] (toSp K T.C TL false sp_pick) := by
  refine T.l_pick.F.ok c_l_pick (fun vs H Q E h => toSp_len h fun us n q e hs => ?_) (fun cdv A outer s H vs Q E hr h => ?_)
  · (first | (obtain ⟨rfl, _⟩ := hs; rfl) | (obtain ⟨_, hs⟩ := hs; (first | (obtain ⟨rfl, _⟩ := hs; rfl) | (obtain ⟨_, hs⟩ := hs; (first | (obtain ⟨rfl, _⟩ := hs; rfl) | (obtain ⟨_, hs⟩ := hs; (first | (obtain ⟨rfl, _⟩ := hs; rfl) | (obtain ⟨_, hs⟩ := hs; (first | (obtain ⟨rfl, _⟩ := hs; rfl) | (obtain ⟨_, hs⟩ := hs; (first | (obtain ⟨rfl, _⟩ := hs; rfl) | (obtain ⟨_, hs⟩ := hs; (first | (obtain ⟨rfl, _⟩ := hs; rfl) | (obtain ⟨_, hs⟩ := hs; (first | (obtain ⟨rfl, _⟩ := hs; rfl) | (obtain ⟨_, hs⟩ := hs; (first | (obtain ⟨rfl, _⟩ := hs; rfl) | (obtain ⟨_, hs⟩ := hs; (first | (obtain ⟨rfl, _⟩ := hs; rfl) | (obtain ⟨_, hs⟩ := hs; (first | (obtain ⟨rfl, _⟩ := hs; rfl) | (obtain ⟨_, hs⟩ := hs; (first | (obtain ⟨rfl, _⟩ := hs; rfl) | (obtain ⟨_, hs⟩ := hs; (first | (obtain ⟨rfl, _⟩ := hs; rfl) | (obtain ⟨_, hs⟩ := hs; (first | (obtain ⟨rfl, _⟩ := hs; rfl) | (obtain ⟨_, hs⟩ := hs; (first | (obtain ⟨rfl, _⟩ := hs; rfl) | (obtain ⟨_, hs⟩ := hs; (first | (obtain ⟨rfl, _⟩ := hs; rfl) | (obtain ⟨_, hs⟩ := hs; (obtain ⟨rfl, _⟩ := hs; rfl)))))))))))))))))))))))))))))))))
  · refine ⟨_,
      (pss_one (ps_ret (pe_ix (ix3 K) (pv 1) (pe_call (ok_l_take T (TL := TL)) (hr.mono (by decide)) rfl T.l_take.g T.l_take.k T.l_take.b .nil pass0 (pa_cons (pv 0) (pa_cons (pe_callB (len3 K) (by rfl) T.z_len (by decide +kernel) (pa_cons (pv 1) pa_nil)) pa_nil))) (fun _ _ => rfl))))
      , run3 (K := K) (C := T.C) (TL := TL) h fun us n q e hs => ?_⟩
    obtain ⟨x, rfl, hq⟩ := hs
    obtain ⟨xs, hx, hn, hne, hl, h2⟩ := V3.ask_some hq
    have hp : 0 < xs.length := List.length_pos_iff.mpr hne
    cases x <;> cases hx <;> simp [ro0]
    all_goals
      refine ⟨hn, hp, by rw [capD_eq]; omega, fun i h0 h1 => ?_⟩
      obtain ⟨y, hy, e⟩ := atI_lt h0 h1
      rw [e]
      exact h2 y hy
end
end G21
set_option Elab.async false
set_option linter.all false
set_option maxRecDepth 100000
set_option maxHeartbeats 4000000
/-! len(set(xs)) of a list or tuple of ints -/
namespace V3
open PySem PySem.Spec PyProof.Rows L2
/-- m is how many different numbers ns has -/
def Diff (ns : List Int) (m : Nat) : Prop := ∃ L : List Int, L.Nodup ∧ (∀ k, k ∈ L ↔ k ∈ ns) ∧ L.length = m
theorem diff_of {w : World} {h : Heap} {a : Addr} {ns : List Int} {n : Nat} (R : SetR w h a (fun j => decide (j ∈ ns)) n) : Diff ns n := by
  obtain ⟨o, es, ep, t, _, _, _, _, nd, mem, _, _, sz, _⟩ := R
  refine ⟨es.toList.map keyOf, nd, fun k => ?_, by rw [List.length_map, Array.length_toList, sz]⟩
  rw [← mem k]
  exact ⟨fun z => of_decide_eq_true z, fun z => decide_eq_true z⟩
def tLenSetI (K : PySem.W.Frag) (ta : TE) : TE := fun σ H Q => ta σ H fun x H1 => ∃ l, ∃ ns : List Int, x = .ref l ∧ (SqL K H1 l (ns.map V.int) ∨ SqT K H1 l (ns.map V.int)) ∧ ns.length < 1000 ∧ ∀ m, Diff ns m → Q (.int (m : Nat)) H1
section
variable {X : Cx}
theorem pe_lenSetI {a : Expr} {ta : TE} {p p2 q pos : Pos} (hc : X.calm = true) (hg : Gl X "len") (hm : X.mg "len" = none) (hg2 : Gl X "set") (hm2 : X.mg "set" = none) (ha : PE X a ta)
    (na : starEach [a] X.env = (false, eval a X.env) :: starEach [] X.env := by rfl) : PE X (.Call (.Name "len" p) [.Call (.Name "set" p2) [a] [] q] [] pos) (tLenSetI X.K ta) := by
  refine ⟨fun pins s σ H Q I h => ?_⟩
  refine Call_ (ld_blt I hg hm boot_len ?_)
  refine PyProof.Rows.callWith_builtin1 (PyProof.Rows.args_cons ?_ rfl) rfl rfl
  refine Call_ (ld_blt I hg2 hm2 boot_set ?_)
  refine PyProof.Rows.callWith_type1 (PyProof.Rows.args_cons (thn (ha.run pins s σ H _ I h) fun v s1 ⟨x, H1, I1, r1, q1⟩ => PyProof.Rows.args_nil ?_) na) na rfl
  obtain ⟨l, ns, rfl, hq, h1, q1⟩ := q1
  cases r1
  have fin : ∀ (h' : Heap) (tk c : Nat), SetR X.w h' s1.heap.objs.size (fun j => decide (j ∈ ns)) c → (∀ b o, s1.heap.get? b = some o → h'.get? b = some o) →
      wpAny (model X.prog X.w) X.A (spliced (backTo pos (starEach [] X.env))) (fun vs s₂ => wpAny (model X.prog X.w) X.A (call (.builtin "len") (Value.ref s1.heap.objs.size :: vs)) (EP X pins σ Q) X.xe s₂) X.xe { s1 with heap := h', toks := tk } := fun h' tk c R hk => by
    refine PyProof.Rows.args_nil ?_
    have dif := diff_of R
    obtain ⟨o, es, ep, t, ho, hex, hd, _, _, _, hb, hf, hn, _⟩ := R
    have I2 : Inv X pins σ H1 { s1 with heap := h', toks := tk } := I1.kept hk
    refine call_len_set ho hex hd hf (by unfold scanBound at hb; omega) ⟨.int c, H1, I2.tok _, ⟨_, by rw [hn]⟩, q1 c dif⟩
  have ia : ∀ {ns : List Int} {us : List Value}, Vals (ns.map V.int) us → IntsAre us ns := fun {ns} => by
    induction ns with
    | nil =>
      intro us r
      cases r
      exact .nil
    | cons n ns ih =>
      intro us r
      cases r with
      | cons r1 r2 =>
        obtain ⟨t, rfl⟩ := r1
        exact .cons n t (ih r2)
  rcases hq with hq | hq
  · obtain ⟨its, r, pl, hz⟩ := I1.list hq
    exact GS.call_set_listI ns (I1.ok.hd hc) pl.isList (by simpa using ia r) (by unfold scanBound; omega) fun h' tk c R _ k => fin h' tk c R k
  · obtain ⟨its, r, pl, hz⟩ := I1.tuple hq
    exact call_set_tupI ns (I1.ok.hd hc) pl (by simpa using ia r) (by unfold scanBound; omega) fun h' tk c R _ k => fin h' tk c R k
end
section
variable {K : PySem.W.Frag} {C : Addr} {TL : List (Addr × Str)} {E : XK}
theorem lenSet3 {X : Cx} (K : PySem.W.Frag) {a : Expr} {ta : TE} {p p2 q pos : Pos} (hc : X.calm = true) (hg : Gl X "len") (hm : X.mg "len" = none) (hg2 : Gl X "set") (hm2 : X.mg "set" = none) (ha : PE X a ta)
    (na : starEach [a] X.env = (false, eval a X.env) :: starEach [] X.env := by rfl) (h : X.K = K := by rfl) : PE X (.Call (.Name "len" p) [.Call (.Name "set" p2) [a] [] q] [] pos) (tLenSetI K ta) := h ▸ pe_lenSetI hc hg hm hg2 hm2 ha na
@[simp ↓] def mLenSet (me : TE3) : TE3 := fun ρ n q e => me ρ n (fun _ u n1 => askS u fun xs => ask (toIs xs) fun ns => ns.length < 1000 ∧ ∀ m, Diff ns m → q false (.d (.int (m : Nat))) n1) e
instance {te : TE} {S : List Nat} {me : TE3} [he : LE K C TL E te S me] : LE K C TL E (tLenSetI K te) [] (mLenSet me) where
  s am ρ n σ H hE h Q q hm k := by
    obtain ⟨rfl, rfl, rfl, rfl⟩ := id hE
    refine he.s am ρ n σ H hE h _ _ hm fun fr u n1 v H1 hq f1 w1 r1 => ?_
    match u, hq, r1.1 with
    | .d (.list ds), hq, r =>
      have hq : ask (toIs ds) (fun ns => ns.length < 1000 ∧ ∀ m, Diff ns m → q false (.d (.int (m : Nat))) n1) := hq
      obtain ⟨ns, e, hl, hq⟩ := ask_some hq
      cases r with
      | lst a1 a2 =>
        rw [toIs_eq e] at a2
        have e2 := rp_ints a2
        subst e2
        exact ⟨_, ns, rfl, .inl (SqL.of (cut_some.mp a1).2), hl, fun m dm => k _ _ n1 _ H1 (hq m dm) f1 w1 (.old (Rp.int _))⟩
    | .d (.tuple ds), hq, r =>
      have hq : ask (toIs ds) (fun ns => ns.length < 1000 ∧ ∀ m, Diff ns m → q false (.d (.int (m : Nat))) n1) := hq
      obtain ⟨ns, e, hl, hq⟩ := ask_some hq
      cases r with
      | tup a1 a2 =>
        rw [toIs_eq e] at a2
        have e2 := rp_ints a2
        subst e2
        exact ⟨_, ns, rfl, .inr (SqT.le Le.cutAll a1), hl, fun m dm => k _ _ n1 _ H1 (hq m dm) f1 w1 (.old (Rp.int _))⟩
end
end V3
set_option Elab.async false
set_option linter.all false
set_option maxRecDepth 100000
set_option maxHeartbeats 4000000
namespace V3
open PySem PySem.Spec PyProof.Rows L2
section
variable {K : PySem.W.Frag} {C : Addr} {TL : List (Addr × Str)} {E : XK}
/-! ### sorted: ints, tuples of ints of one length -/
def tupI (ns : List Int) : D := .tuple (ns.map .int)
@[simp] def toTs : List D → Option (List (List Int))
  | [] => some []
  | .tuple xs :: ds => match toIs xs, toTs ds with
    | some ns, some L => some (ns :: L)
    | _, _ => none
  | _ :: _ => none
theorem toTs_eq : ∀ {ds : List D} {L : List (List Int)}, toTs ds = some L → ds = L.map tupI
  | [], _, h => by
    cases h
    rfl
  | d :: ds, L, h => by
    cases d with
    | tuple xs =>
      have h2 : (match toIs xs, toTs ds with
        | some ns, some L => some (ns :: L)
        | _, _ => none) = some L := h
      cases e1 : toIs xs with
      | none =>
        rw [e1] at h2
        cases h2
      | some ns =>
        cases e2 : toTs ds with
        | none =>
          rw [e1, e2] at h2
          cases h2
        | some L2 =>
          rw [e1, e2] at h2
          cases h2
          rw [toIs_eq e1, toTs_eq e2]
          rfl
    | _ => cases h
theorem toTs_map : ∀ L : List (List Int), toTs (L.map tupI) = some L
  | [] => rfl
  | ns :: L => by
    show (match toIs (ns.map PyData.int), toTs (L.map tupI) with
      | some ns, some L => some (ns :: L)
      | _, _ => none) = _
    rw [toIs_map, toTs_map L]
theorem tups_rep {am : Am} {O : Addr → Prop} {H : Hp} : ∀ {L : List (List Int)} {vs : List V}, RpAll am.K (cut O H) vs (L.map tupI) → ∃ as : List Addr, vs = as.map V.ref ∧ Paired (fun a ns => SqT am.K (cut O H) a (ns.map V.int)) as L
  | [], _, h => by
    cases h
    exact ⟨[], rfl, .nil⟩
  | ns :: L, _, h => by
    cases h with
    | cons h1 h2 =>
      cases h1 with
      | tup a1 a2 =>
        obtain ⟨as, rfl, p⟩ := tups_rep h2
        have e := rp_ints a2
        subst e
        exact ⟨_ :: as, rfl, .cons a1 p⟩
def rSorted3 (K : PySem.W.Frag) (d : Nat) : List V → Hp → VK → Prop := fun vs H Q => rSortedI K vs H Q ∨ GS.rSortL K d vs H Q
theorem call_sorted3 {X : Cx} (d : Nat) (hd : 1 ≤ d) : CallR X (.builtin "sorted") (rSorted3 X.K d) := call_or cr_sortedI (GS.cr_sortL hd)
theorem sorted3 {X : Cx} (K : PySem.W.Frag) (d : Nat) (hd : 1 ≤ d) (h : X.K = K := by rfl) : CallR X (.builtin "sorted") (rSorted3 K d) := h ▸ call_sorted3 d hd
@[simp ↓] def mSorted (d : Nat) : List U → (Bool → D → Prop) → Prop
  | [.d (.list xs)], q => (∃ ns : List Int, xs = ns.map .int ∧ ∀ ms : List Int, ms.Perm ns → ms.Pairwise (· ≤ ·) → q true (.list (ms.map .int))) ∨
      (∃ L : List (List Int), xs = L.map tupI ∧ (∀ l ∈ L, l.length = d) ∧ ∀ M : List (List Int), M.Perm L → M.Pairwise (fun a b => HT.lexLt b a = false) → q true (.list (M.map tupI)))
  | _, _ => False
theorem pd_perm {α β : Type} {F : α → β → Prop} : ∀ {as bs : List α}, as.Perm bs → ∀ {xs : List β}, Paired F bs xs → ∃ ys, ys.Perm xs ∧ Paired F as ys := fun {as bs} h => by
  induction h with
  | nil => exact fun p => ⟨_, .refl _, p⟩
  | cons a _ ih =>
    intro xs p
    cases p with
    | cons r t =>
      obtain ⟨ys, h1, h2⟩ := ih t
      exact ⟨_ :: ys, h1.cons _, .cons r h2⟩
  | swap a b l =>
    intro xs p
    cases p with
    | cons r t =>
      cases t with
      | cons r2 t2 => exact ⟨_, .swap _ _ _, .cons r2 (.cons r t2)⟩
  | trans _ _ ih1 ih2 =>
    intro xs p
    obtain ⟨ys, h1, h2⟩ := ih2 p
    obtain ⟨zs, h3, h4⟩ := ih1 h2
    exact ⟨zs, h3.trans h1, h4⟩
theorem pd_pw {α β : Type} {F : α → β → Prop} {R : α → α → Prop} {S : β → β → Prop} (hRS : ∀ a b x y, F a x → F b y → R a b → S x y) : ∀ {as : List α} {xs : List β}, Paired F as xs → as.Pairwise R → xs.Pairwise S
  | _, _, .nil, _ => .nil
  | _, _, .cons (a := a) (b := x) r t, p => by
    obtain ⟨p1, p2⟩ := List.pairwise_cons.mp p
    refine List.pairwise_cons.mpr ⟨fun y hy => ?_, pd_pw hRS t p2⟩
    have q : ∀ {as : List α} {xs : List β}, Paired F as xs → ∀ y ∈ xs, ∃ b ∈ as, F b y := fun {as xs} p => by
      induction p with
      | nil => exact fun y h => absurd h (by simp)
      | cons r _ ih =>
        intro y h
        rcases List.mem_cons.mp h with e | h
        · exact ⟨_, List.mem_cons_self .., by rw [e]; exact r⟩
        · obtain ⟨b, h1, h2⟩ := ih y h
          exact ⟨b, List.mem_cons_of_mem _ h1, h2⟩
    obtain ⟨b, hb, fb⟩ := q t y hy
    exact hRS _ _ _ _ r fb (p1 b hb)
theorem perm_map_ref : ∀ {ys : List V} {as : List Addr}, ys.Perm (as.map V.ref) → ∃ bs : List Addr, ys = bs.map V.ref ∧ bs.Perm as := fun {ys as} h => by
  refine ⟨ys.filterMap (fun v => match v with
    | .ref a => some a
    | _ => none), ?_, ?_⟩
  · have q : ∀ y ∈ ys, ∃ a, y = V.ref a := fun y hy => by
      obtain ⟨a, _, e⟩ := List.mem_map.mp (h.mem_iff.mp hy)
      exact ⟨a, e.symm⟩
    clear h
    induction ys with
    | nil => rfl
    | cons y ys ih =>
      obtain ⟨a, rfl⟩ := q y (List.mem_cons_self ..)
      have e := ih fun z hz => q z (List.mem_cons_of_mem _ hz)
      show V.ref a :: ys = V.ref a :: _
      rw [← e]
  · have z := h.filterMap (fun v => match v with
      | V.ref a => some a
      | _ => none)
    have e : ∀ as : List Addr, (as.map V.ref).filterMap (fun v => match v with
      | V.ref a => some a
      | _ => none) = as := fun as => by
      induction as with
      | nil => rfl
      | cons a as ih =>
        show a :: (as.map V.ref).filterMap _ = _
        rw [ih]
    rw [e as] at z
    exact z
theorem lex_self (ns : List Int) : HT.lexLt ns ns = false := by
  induction ns with
  | nil => rfl
  | cons n ns ih => rw [HT.lexLt_cons, if_pos rfl, ih]
instance {d : Nat} : LC K (rSorted3 K d) (mSorted d) where
  s am O H xs us hK hO ra Q q hm k := by
    subst hK
    match us, hm, ra with
    | [.d (.list ds)], hm, .cons r .nil =>
      cases r with
      | lst a1 a2 =>
        rcases hm with ⟨ns, rfl, hm⟩ | ⟨L, rfl, hd, hm⟩
        · have e2 := rp_ints a2
          subst e2
          refine .inl ⟨_, ns, rfl, SqL.of (cut_some.mp a1).2, fun ms p h1 h2 hp => k _ _ _ _ (hm ms h1 h2) (same_new hp) (new_list hO hp ?_)⟩
          have q : ∀ ms : List Int, RpAll am.K (cut O H) (ms.map V.int) (ms.map .int) := fun ms => by
            induction ms with
            | nil => exact .nil
            | cons m ms ih => exact .cons (.int m) ih
          exact q ms
        · obtain ⟨as, rfl, pd⟩ := tups_rep a2
          have tp : ∀ {as : List Addr} {L : List (List Int)}, Paired (fun a ns => SqT am.K (cut O H) a (ns.map V.int)) as L → (∀ l ∈ L, l.length = d) → ∀ x ∈ as.map V.ref, ∃ ns, TupI am.K H x ns ∧ ns.length = d := fun {as L} p => by
            induction p with
            | nil => exact fun _ x h => absurd h (by simp)
            | cons r _ ih =>
              intro hl x h
              rcases List.mem_cons.mp h with e | h
              · exact ⟨_, ⟨_, e, SqT.le Le.cutAll r⟩, hl _ (List.mem_cons_self ..)⟩
              · exact ih (fun l hl' => hl l (List.mem_cons_of_mem _ hl')) x h
          refine .inr ⟨_, _, rfl, SqL.of (cut_some.mp a1).2, tp pd hd, fun ys p hperm hpw hp => ?_⟩
          obtain ⟨bs, rfl, hb⟩ := perm_map_ref hperm
          obtain ⟨M, h1, h2⟩ := pd_perm hb pd
          refine k _ _ _ _ (hm M h1 (pd_pw (R := fun a b => ∀ n m, TupI am.K H (.ref a) n → TupI am.K H (.ref b) m → HT.lexLt m n = false) (fun a b x y f g r => r x y ⟨a, rfl, SqT.le Le.cutAll f⟩ ⟨b, rfl, SqT.le Le.cutAll g⟩) h2 (List.pairwise_map.mp hpw))) (same_new hp) (new_list hO hp ?_)
          have q : ∀ {bs : List Addr} {M : List (List Int)}, Paired (fun a ns => SqT am.K (cut O H) a (ns.map V.int)) bs M → RpAll am.K (cut O H) (bs.map V.ref) (M.map tupI) := fun {bs M} p => by
            induction p with
            | nil => exact .nil
            | cons r _ ih =>
              refine .cons (.tup r ?_) ih
              have q : ∀ ms : List Int, RpAll am.K (cut O H) (ms.map V.int) (ms.map .int) := fun ms => by
                induction ms with
                | nil => exact .nil
                | cons m ms ih => exact .cons (.int m) ih
              exact q _
          exact q h2
end
end V3
set_option Elab.async false
set_option linter.all false
set_option maxRecDepth 100000
set_option maxHeartbeats 4000000
namespace V3
open PySem PySem.Spec PyProof.Rows L2
def tEither (t t' : TE) : TE := fun σ H Q => t σ H Q ∨ t' σ H Q
section
variable {X : Cx}
theorem pe_or {e : Expr} {t t' : TE} (h : PE X e t) (h' : PE X e t') : PE X e (tEither t t') := ⟨fun pins s σ H Q I q => q.elim (h.run pins s σ H Q I) (h'.run pins s σ H Q I)⟩
theorem setT3 {P : Program} {w : World} (K : PySem.W.Frag) (hc : X.calm = true) (hu : X.A.units + 64 < cLine) (h : X.K = K := by rfl) (h2 : X.prog = P := by rfl) (h3 : X.w = w := by rfl) : CallR X (.type "set") (rSetOfT K P w) := h ▸ h2 ▸ h3 ▸ cr_setOfT hc hu
theorem lenT3 {P : Program} {w : World} (K : PySem.W.Frag) (h : X.K = K := by rfl) (h2 : X.prog = P := by rfl) (h3 : X.w = w := by rfl) : CallR X (.builtin "len") (GS.rLenT K P w) := h ▸ h2 ▸ h3 ▸ GS.call_lenT
end
section
variable {K : PySem.W.Frag} {C : Addr} {TL : List (Addr × Str)} {E : XK}
@[simp ↓] def mEither (m1 m2 : TE3) : TE3 := fun ρ n q e => m1 ρ n q e ∨ m2 ρ n q e
instance {t1 t2 : TE} {S1 S2 : List Nat} {m1 m2 : TE3} [h1 : LE K C TL E t1 S1 m1] [h2 : LE K C TL E t2 S2 m2] : LE K C TL E (tEither t1 t2) (S1 ++ S2) (mEither m1 m2) where
  s am ρ n σ H hE h Q q hm k := by
    rcases hm with hm | hm
    · exact .inl (h1.s am ρ n σ H hE h Q q hm fun fr u n' v H' hq f w r => k fr u n' v H' hq f w (r.sub fun a z => hidDem2 (fun i hi => List.mem_append_left _ hi) z))
    · exact .inr (h2.s am ρ n σ H hE h Q q hm fun fr u n' v H' hq f w r => k fr u n' v H' hq f w (r.sub fun a z => hidDem2 (fun i hi => List.mem_append_right _ hi) z))
/-- how many tuples of ints there are in a list without doubles -/
@[simp ↓] def mLenSetT (me : TE3) : TE3 := fun ρ n q e => me ρ n (fun _ u n1 => askL u fun xs => ∃ L : List (List Int), xs = L.map tupI ∧ L.length < 64 ∧ L.Nodup ∧ q false (.d (.int (L.length : Nat))) n1) e
theorem zip_fst {α β : Type} : ∀ {as : List α} {bs : List β}, as.length = bs.length → (as.zip bs).map (·.1) = as
  | [], [], _ => rfl
  | a :: as, b :: bs, h => by
    show a :: (as.zip bs).map (·.1) = _
    rw [zip_fst (by simpa using h)]
theorem zip_snd {α β : Type} : ∀ {as : List α} {bs : List β}, as.length = bs.length → (as.zip bs).map (·.2) = bs
  | [], [], _ => rfl
  | a :: as, b :: bs, h => by
    show b :: (as.zip bs).map (·.2) = _
    rw [zip_snd (by simpa using h)]
theorem pd_zip {α β : Type} {F : α → β → Prop} : ∀ {as : List α} {bs : List β}, Paired F as bs → as.length = bs.length ∧ ∀ p ∈ as.zip bs, F p.1 p.2
  | _, _, .nil => ⟨rfl, fun p h => absurd h (by simp)⟩
  | _, _, .cons r t => by
    obtain ⟨h1, h2⟩ := pd_zip t
    refine ⟨by rw [List.length_cons, List.length_cons, h1], fun p h => ?_⟩
    rcases List.mem_cons.mp h with e | h
    · rw [e]
      exact r
    · exact h2 p h
instance {P : Program} {w : World} {te : TE} {S : List Nat} {me : TE3} [he : LE K C TL E te S me] : LE K C TL E (tCB (GS.rLenT K P w) (tCons (tCB (rSetOfT K P w) (tCons te tNil)) tNil)) [] (mLenSetT me) where
  s am ρ n σ H hE h Q q hm k := by
    obtain ⟨rfl, rfl, rfl, rfl⟩ := id hE
    refine he.s am ρ n σ H hE h _ _ hm fun fr u n1 v H1 hq f1 w1 r1 => ?_
    have h1 := h.step f1 w1
    obtain ⟨xs, a, vs, rfl, rfl, a1, a2, L, rfl, hl, nd, hq⟩ := askL_rep hq r1.1
    obtain ⟨as, rfl, pd⟩ := tups_rep a2
    obtain ⟨ln, pz⟩ := pd_zip pd
    refine ⟨a, as.zip L, rfl, ?_, fun p hp => SqT.le Le.cutAll (pz p hp), by rw [List.length_zip, ln]; omega, fun p M hp h3 h4 => ?_⟩
    · have e : (as.zip L).map (fun p => V.ref p.1) = as.map V.ref := by
        rw [← zip_fst (as := as) (bs := L) ln, List.map_map, zip_fst ln]
        rfl
      rw [e]
      exact SqL.of (cut_some.mp a1).2
    · obtain ⟨f2, w2⟩ := fresh_step h1 hp (SetTO P w p M)
      refine ⟨p, M, rfl, upd_same, fun z hz => SqT.le (Le.of (same_new hp)) (SqT.le Le.cutAll (pz z (h3 z hz))), fun nd2 => ?_⟩
      have e : M.length = L.length := by
        rw [← List.length_map (f := fun z : Addr × List Int => z.2) (as := M)]
        refine GS.nodup_len nd2 nd (fun x hx => ?_) (fun x hx => ?_)
        · obtain ⟨z, hz, rfl⟩ := List.mem_map.mp hx
          have m := List.mem_map_of_mem (f := fun z : Addr × List Int => z.2) (h3 z hz)
          rw [zip_snd ln] at m
          exact m
        · rw [← zip_snd (as := as) (bs := L) ln] at hx
          obtain ⟨z, hz, rfl⟩ := List.mem_map.mp hx
          exact h4 z hz
      exact k _ _ n1 _ _ hq (f1.trans f2) w2 (.old (by rw [e]; exact Rp.int _))
end
end V3
set_option Elab.async false
set_option linter.all false
set_option maxRecDepth 100000
set_option maxHeartbeats 4000000
namespace V3
open PySem PySem.Spec PyProof.Rows L2
section
variable {K : PySem.W.Frag} {C : Addr} {TL : List (Addr × Str)} {E : XK}
/-! ### x.append(y.pop(k)) -/
theorem write_le {am : Am} {ρ : Ro} {n : Nat} {σ : L2.St} {H : Hp} {p : Addr} {i : Nat} {ds ds' : List D} {vs' : List V} (h : Rl am ρ n σ H) (hi : ρ[i]? = some (Sl.ow ds)) (hp : σ[i]? = some (some (V.ref p))) : Le (cut (Hid am ρ σ) H) (cut (Hid am (ρ.set i (.ow ds')) σ) (upd H p (.lst vs'))) := by
  have own : OwnAt ρ σ i p := ⟨⟨ds, hi⟩, hp⟩
  exact Le.cut (fun a z => .inl (by
    rcases z with z | ⟨j, z⟩
    · exact .inl z
    · exact .inr ⟨j, own_setS hi z⟩)) fun a o hn t e => by
      have ne : a ≠ p := fun z => hn (.inr ⟨i, by rw [z]; exact own⟩)
      rw [upd_ne ne]
      exact e
@[simp ↓] def mAppPop (i j : Nat) (me : TE3) : TS3 := fun F ρ n e => i ≠ j ∧ ask (owAt ρ i) fun ds => ask (owAt ρ j) fun es => me ρ n (fun _ u n1 => askI u fun k => ds.length < sizeLine ∧ popD es k fun x rest => F.nx ((ρ.set j (.ow rest)).set i (.ow (ds ++ [x]))) n1) e
instance (priority := high + 1) {te : TE} {i j : Nat} {S : List Nat} {me : TE3} [he : LE K C TL E te S me] : LS K C TL E (tDrop (tBM K "list" rAppend (tVar i) (tCons (tBM K "list" rPopAt (tVar j) (tCons te tNil)) tNil))) (mAppPop i j me) where
  s am ρ n σ H D F hE h en hm := by
    obtain ⟨rfl, rfl, rfl, rfl⟩ := id hE
    obtain ⟨nij, hm⟩ := hm
    obtain ⟨ds, e, hm⟩ := ask_some hm
    obtain ⟨es, e2, hm⟩ := ask_some hm
    have hi := owAt_eq e
    have hj := owAt_eq e2
    obtain ⟨p, vs, q1, q2, q3, q4⟩ := h.ow i ds hi
    obtain ⟨p2, ws, b1, b2, b3, b4⟩ := h.ow j es hj
    refine ⟨.ref p, q1, .inl ⟨rfl, vs, SqL.of q3⟩, .ref p2, b1, .inl ⟨rfl, ws, SqL.of b3⟩, he.s am ρ n σ H hE h _ _ hm fun fr u n1 v H1 hq f1 w1 r1 => ?_⟩
    have h1 := h.step f1 w1
    match u, hq, r1.1 with
    | .d (.int k), hq, r =>
      cases r
      obtain ⟨hz, hk, hq⟩ := hq
      obtain ⟨j', ej, hq⟩ := ask_some hq
      obtain ⟨x, ex, fl, hq⟩ := ask_some hq
      have e1 := h.keepOw f1 ⟨⟨ds, hi⟩, q1⟩ q3
      have e3 := h.keepOw f1 ⟨⟨es, hj⟩, b1⟩ b3
      have r4 := RpAll.le (h.cutLe0 f1) _ _ q4
      have r5 := RpAll.le (h.cutLe0 f1) _ _ b4
      obtain ⟨y, y1, y2⟩ := RpAll.get r5 ex
      refine ⟨p2, ws, k, j', y, rfl, rfl, e3, hk.1, hk.2, by rw [RpAll.len r5]; exact ixN_seq ej, y1, ?_⟩
      have h2 := h1.write hj b1 (RpAll.erase j' r5)
      have hi2 : (ρ.set j (.ow (es.eraseIdx j')))[i]? = some (Sl.ow ds) := by rw [List.getElem?_set_ne (Ne.symm nij)]; exact hi
      obtain ⟨p', vs', c1, c2, c3, c4⟩ := h2.ow i ds hi2
      rw [q1] at c1
      cases c1
      refine ⟨p, vs', y, rfl, rfl, c3, by rw [RpAll.len c4]; exact hz, en.nx _ n1 σ _ hq (h2.write hi2 q1 (RpAll.app c4 (.one ?_)))⟩
      exact Rp.le (write_le h1 hj b1) _ _ y2
/-! ### a, b, c = x, y, z -/
@[simp ↓] def mPar3 (S1 S2 S3 : List Nat) (i j l : Nat) (ma mb mc : TE3) : TS3 := fun F ρ n e => ma ρ n (fun f1 x n1 => mb ρ n1 (fun f2 y n2 => mc ρ n2 (fun f3 z n3 => if flatF f2 y = true then (if flatF f3 z = true then F.nx (bind3 S3 l f3 z (bind3 S2 j f2 y (bind3 S1 i f1 x ρ))) n3 else False) else False) e) e) e
instance {i j l : Nat} {ta tb tc : TE} {S1 S2 S3 : List Nat} {ma mb mc : TE3} [ha : LE K C TL E ta S1 ma] [hb : LE K C TL E tb S2 mb] [hc : LE K C TL E tc S3 mc] : LS K C TL E (tPar3 i j l (tCons ta (tCons tb (tCons tc tNil)))) (mPar3 S1 S2 S3 i j l ma mb mc) where
  s am ρ n σ H D F hE h en hm := by
    refine ha.s am ρ n σ H hE h _ _ hm fun fr x n1 v H1 hq f1 w1 r1 => ?_
    have h1 := h.step f1 w1
    refine hb.s am ρ n1 σ H1 hE h1 _ _ hq fun fr2 y n2 v2 H2 hq2 f2 w2 r2 => ?_
    have h2 := h1.step f2 w2
    refine hc.s am ρ n2 σ H2 hE h2 _ _ hq2 fun fr3 z n3 v3 H3 hq3 f3 w3 r3 => ?_
    obtain ⟨fl2, hq3⟩ := if_pos' hq3
    obtain ⟨fl3, hq3⟩ := if_pos' hq3
    refine ⟨v, v2, v3, rfl, en.nx _ n3 _ H3 hq3 ?_⟩
    exact bind_flat (bind_flat (bind_ok h f1 w1 i r1) f2 w2 S2 j (O := Hid am (dem S2 ρ) σ) (fun a z => .inl z) fl2 r2) f3 w3 S3 l (O := Hid am (dem S3 ρ) σ) (fun a z => .inl z) fl3 r3
/-! ### enumerate -/
def numD (ds : List D) : List D := (ds.zipIdx).map fun p => .tuple [.int (p.2 : Nat), p.1]
theorem numD_get {ds : List D} {i : Nat} {d : D} (h : (numD ds)[i]? = some d) : ∃ x, ds[i]? = some x ∧ d = .tuple [.int (i : Nat), x] := by
  unfold numD at h
  rw [List.getElem?_map, List.getElem?_zipIdx] at h
  cases e : ds[i]? with
  | none =>
    rw [e] at h
    cases h
  | some x =>
    rw [e] at h
    simp at h
    exact ⟨x, rfl, h.symm⟩
theorem numD_len (ds : List D) : (numD ds).length = ds.length := by
  unfold numD
  simp
theorem rp_num {am : Am} {O2 : Addr → Prop} {H2 H3 : Hp} {T : Addr} {i : Nat} {x : V} {d : D} (hO : ∀ a, O2 a → There H2 a) (hT : H2 T = none) (e : H3 = upd H2 T (.tup [.int (i : Nat), x])) (r : Rp am.K (cut O2 H2) x d) : Same H2 H3 ∧ Rp am.K (cut O2 H3) (.ref T) (.tuple [.int (i : Nat), d]) := by
  subst e
  have s := same_new (o := .tup [.int (i : Nat), x]) hT
  refine ⟨s, ?_⟩
  have nO : ¬ O2 T := fun z => by
    obtain ⟨o, q1, _⟩ := hO T z
    rw [hT] at q1
    cases q1
  refine .tup (xs := [.int (i : Nat), x]) (SqT.of (cut_some.mpr ⟨nO, upd_same⟩)) (.cons (Rp.int _) (.cons ?_ .nil))
  exact Rp.le (Le.cut (fun a z => .inl z) fun a o _ _ e => s a o e) _ _ r
theorem it_enum {am : Am} {O : Addr → Prop} {a : Addr} {vs : List V} {ds : List D} {H : Hp} (h : cut O H a = some (.lst vs)) (r : RpAll am.K (cut O H) vs ds) : ItOk am O (Ite am.K a) (numD ds) H := fun H2 O2 le th i => by
  have h2 := (cut_some.mp (le _ _ (fun ps z => by cases z) h)).2
  have r2 := RpAll.le le _ _ r
  refine ⟨fun d e => ?_, fun e => ⟨vs, SqL.of h2, by rw [RpAll.len r]; rw [numD_len] at e; exact e⟩⟩
  obtain ⟨x, e1, rfl⟩ := numD_get e
  obtain ⟨v, q1, q2⟩ := RpAll.get r2 e1
  refine ⟨⟨vs, v, SqL.of h2, q1⟩, fun y H3 w => ?_⟩
  obtain ⟨T, x', rfl, hT, e3, w⟩ := w
  have e4 := w vs (SqL.of h2)
  rw [q1] at e4
  cases e4
  exact rp_num th hT e3 q2
theorem it_enumT {am : Am} {O : Addr → Prop} {a : Addr} {vs : List V} {ds : List D} {H : Hp} (h : SqT am.K (cut O H) a vs) (r : RpAll am.K (cut O H) vs ds) : ItOk am O (GS.IeT am.K a) (numD ds) H := fun H2 O2 le th i => by
  have h2 := SqT.le Le.cutAll (SqT.le le h)
  have r2 := RpAll.le le _ _ r
  refine ⟨fun d e => ?_, fun e => ⟨vs, h2, by rw [RpAll.len r]; rw [numD_len] at e; exact e⟩⟩
  obtain ⟨x, e1, rfl⟩ := numD_get e
  obtain ⟨v, q1, q2⟩ := RpAll.get r2 e1
  refine ⟨⟨vs, v, h2, q1⟩, fun y H3 w => ?_⟩
  obtain ⟨T, x', rfl, hT, e3, w⟩ := w
  have e4 := w vs h2
  rw [q1] at e4
  cases e4
  exact rp_num th hT e3 q2
def iEnT (K : PySem.W.Frag) (ta : TA) : TI := fun σ H R => ta σ H fun vs H1 => ∃ a xs, vs = [.ref a] ∧ SqT K H1 a xs ∧ R (GS.IeT K a) H1
def iEn3 (K : PySem.W.Frag) (ta : TA) : TI := fun σ H R => iEnum K ta σ H R ∨ iEnT K ta σ H R
@[simp ↓] def mEn3 (ma : TA3) : TI3 := fun ρ n q e => ma ρ n (fun us n1 => match us with
    | [.d (.list ds)] => q (numD ds) n1
    | _ => False) e ∨ ma ρ n (fun us n1 => match us with
    | [.d (.tuple ds)] => q (numD ds) n1
    | _ => False) e
instance {ta : TA} {S : List Nat} {ma : TA3} [ha : LA K C TL E ta S ma] : LI K C TL E (iEn3 K ta) S (mEn3 ma) where
  s am ρ n σ H hE h R q hm k := by
    obtain ⟨rfl, rfl, rfl, rfl⟩ := id hE
    rcases hm with hm | hm
    · refine .inl (ha.s am ρ n σ H hE h _ _ hm fun us n1 vs H1 hq f1 w1 r1 => ?_)
      match us, hq, r1 with
      | [.d (.list ds)], hq, .cons r .nil =>
        cases r with
        | lst a1 a2 => exact ⟨_, _, rfl, SqL.of (cut_some.mp a1).2, k _ n1 _ H1 hq f1 w1 (it_enum a1 a2)⟩
    · refine .inr (ha.s am ρ n σ H hE h _ _ hm fun us n1 vs H1 hq f1 w1 r1 => ?_)
      match us, hq, r1 with
      | [.d (.tuple ds)], hq, .cons r .nil =>
        cases r with
        | tup a1 a2 => exact ⟨_, _, rfl, SqT.le Le.cutAll a1, k _ n1 _ H1 hq f1 w1 (it_enumT a1 a2)⟩
end
section
variable {X : Cx} {K : PySem.W.Frag}
theorem enum3 (K : PySem.W.Frag) {e : Expr} {ta : TA} {p pos tpos : Pos} {elts : List Expr} {kk : Nat} (hg : Gl X "enumerate") (hm : X.mg "enumerate" = none) (ha : PA X [e] ta) (hs : starEach [e] X.env = [(false, eval e X.env)] := by rfl) (h : X.K = K := by rfl) :
    PI X (.Tuple elts kk tpos) (.Call (.Name "enumerate" p) [e] [] pos) (iEn3 K ta) := by
  subst h
  exact ⟨fun pins s σ H R I h => h.elim ((pi_enum hg hm ha hs).run pins s σ H R I) ((GS.pi_enumT hg hm ha hs).run pins s σ H R I)⟩
theorem bm3 (K : PySem.W.Frag) {o e : Expr} {es : List Expr} {to : TE} {t : TA} {name : Str} {apos cpos : Pos} {T id : String} {r : V → List V → Hp → VK → Prop} (pa : PlainAttrs T) (slot : Slot T name id) (hty : typeOf (.builtin id) = pure (.type "method_descriptor")) (hm : MtR X id r) (ho : PE X o to) (ha : PA X (e :: es) t)
    (hbase : attributeBase o name X.env (eval o X.env) = eval o X.env := by rfl)
    (hfew : ((backTo cpos (starEach (e :: es) X.env)).all (fun x => !x.1) && (backToKw cpos (keywordEach [] X.env)).all (fun x => x.1.isSome)
      && decide ((e :: es).length + ([] : List Keyword).length + (if ([] : List Keyword).isEmpty then 0 else 1) < 30)) = true := by rfl)
    (hline : (apos.endLine == cpos.line) = true := by rfl) (hs : starEach (e :: es) X.env = (false, eval e X.env) :: starEach es X.env := by rfl) (hplain : (backTo cpos (starEach es X.env)).any (·.1) = false := by rfl) (h : X.K = K := by rfl) :
    PE X (.Call (.Attribute o name apos) (e :: es) [] cpos) (tBM K T r to t) := by
  subst h
  exact pe_bm pa slot hty hm ho ha hbase hfew hline hs hplain
end
end V3
set_option Elab.async false
set_option linter.all false
set_option maxRecDepth 100000
set_option maxHeartbeats 4000000
set_option synthInstance.maxSize 100000
set_option synthInstance.maxHeartbeats 0
namespace G21
open PySem PySem.Spec PyProof.Rows L2 V3
@[simp ↓] def sp_shuf : VSp := fun us n q _ => ∃ xs, us = [.dr, .d (.list xs)] ∧ n + 100 ≤ topD ∧ xs.length ≤ 100 ∧ V3.flatAll xs = true ∧ ∀ ys : List D, ys.Perm xs → q (.d (.list ys)) (n + xs.length)
theorem ixN_nat {n k : Nat} (h : k < n) : ixN n (k : Int) = some k := by
  unfold ixN
  simp [h]
theorem flat_in {xs : List D} (h : V3.flatAll xs = true) {x : D} (hx : x ∈ xs) : V3.flat x = true := by
  induction xs with
  | nil => cases hx
  | cons y ys ih =>
    have h : (V3.flat y && V3.flatAll ys) = true := h
    obtain ⟨h1, h2⟩ := Bool.and_eq_true_iff.mp h
    rcases List.mem_cons.mp hx with e | hx
    · rw [e]
      exact h1
    · exact ih h2 hx
theorem perm_erase {α : Type} : ∀ {xs : List α} {k : Nat} (h : k < xs.length), ([xs[k]] ++ xs.eraseIdx k).Perm xs
  | x :: xs, 0, _ => .refl _
  | x :: xs, k + 1, h => by
    simp
    exact List.Perm.trans (.swap _ _ _) (.cons _ (perm_erase (by simpa using h)))
section
variable {P : Program} {w : World} {K : PySem.W.Frag} {mg : Str → Option Value} {base : Heap} {TL : List (Addr × Str)}
end
end G21
set_option Elab.async false
set_option linter.all false
set_option maxRecDepth 100000
set_option maxHeartbeats 4000000
set_option synthInstance.maxSize 100000
set_option synthInstance.maxHeartbeats 0
namespace G21
open PySem PySem.Spec PyProof.Rows L2 V3
/-- a comprehension whose items are drawn: c draws each, R of each -/
theorem lcL_draw {is : List Nat} {tup : Bool} {mt : TT3} {me : TE3} {ρ : Ro} {e : Addr → Prop} (R : D → Prop) (c : Nat) : ∀ (ds : List D) (n : Nat) (q : List D → Nat → Prop),
    (∀ d ∈ ds, ∀ (m : Nat) (Kt : D → Nat → Prop) (Ks : Nat → Prop), n ≤ m → m + c ≤ n + c * ds.length → (∀ x, R x → Kt x (m + c)) → giv is tup d ρ fun ρ' => mt ρ' m (fun b n1 => if b = true then me ρ' n1 (fun _ u n2 => match u with
      | .d x => Kt x n2
      | _ => False) e else Ks n1) e) → (∀ xs : List D, xs.length = ds.length → (∀ x ∈ xs, R x) → q xs (n + c * ds.length)) → lcL is tup mt me ρ e ds n q
  | [], n, q, _, h => h [] rfl (fun x z => by cases z)
  | d :: ds, n, q, hit, h => by
    have e1 : n + c + c * ds.length = n + c * (d :: ds).length := by
      rw [List.length_cons, Nat.mul_succ]
      omega
    refine hit d (List.mem_cons_self ..) n (fun x n2 => lcL is tup mt me ρ e ds n2 fun xs n3 => q (x :: xs) n3) (fun n1 => lcL is tup mt me ρ e ds n1 q) (Nat.le_refl _) (by omega) fun x hx => ?_
    refine lcL_draw R c ds (n + c) _ (fun y hy m Kt Ks h1 h2 k => hit y (List.mem_cons_of_mem _ hy) m Kt Ks (by omega) (by omega) k) fun xs hl hxs => ?_
    show q (x :: xs) (n + c + c * ds.length)
    rw [e1]
    refine h _ (by rw [List.length_cons, List.length_cons, hl]) fun y hy => ?_
    rcases List.mem_cons.mp hy with z | z
    · rw [z]
      exact hx
    · exact hxs y z
def inR (lo hi : Int) (b : Bk) : Prop := lo ≤ b.l ∧ lo ≤ b.d ∧ b.r ≤ hi ∧ b.u ≤ hi
@[simp ↓] def sp_block : VSp := fun us n q _ => ∃ m : Int, us = [.dr, .d (.int m)] ∧ n + 100 ≤ topD ∧ 0 < m ∧ m ≤ 20 ∧ ∀ b : Bk, b.ok → inR 0 30 b → q (.d (bkD b)) (n + 4)
theorem pick6 {y : D} (h : y ∈ [PyData.int 0, .int 0, .int 1, .int 2, .int 3, .int 6]) : ∃ z : Int, y = .int z ∧ 0 ≤ z ∧ z ≤ 6 := by
  simp only [List.mem_cons, List.not_mem_nil, or_false] at h
  rcases h with rfl | rfl | rfl | rfl | rfl | rfl <;> exact ⟨_, rfl, by decide, by decide⟩
theorem pick7 {y : D} (h : y ∈ [PyData.int 0, .int 0, .int 0, .int 1, .int 1, .int 2, .int 3]) : ∃ z : Int, y = .int z ∧ 0 ≤ z ∧ z ≤ 3 := by
  simp only [List.mem_cons, List.not_mem_nil, or_false] at h
  rcases h with rfl | rfl | rfl | rfl | rfl | rfl | rfl <;> exact ⟨_, rfl, by decide, by decide⟩
theorem pick3 {y : D} (h : y ∈ [PyData.int 0, .int 1, .int 1]) : ∃ z : Int, y = .int z ∧ 0 ≤ z ∧ z ≤ 1 := by
  simp only [List.mem_cons, List.not_mem_nil, or_false] at h
  rcases h with rfl | rfl | rfl <;> exact ⟨_, rfl, by decide, by decide⟩
@[simp ↓] def sp_pen : VSp := fun us n q _ => ∃ w t : Int, us = [.dr, .d (.int 2), .d (.int 2), .d (.int w), .d (.int t)] ∧ n + 100 ≤ topD ∧ 2 ≤ w ∧ w ≤ 6 ∧ 2 ≤ t ∧ t ≤ 6 ∧ ∀ bs : List Bk, (∀ b ∈ bs, b.ok ∧ inR 0 30 b) → bs.Nodup → bs.length = 4 → q (.d (.list (bs.map bkD))) (n + 6)
section
variable {P : Program} {w : World} {K : PySem.W.Frag} {mg : Str → Option Value} {base : Heap} {TL : List (Addr × Str)}
end
end G21
set_option Elab.async false
set_option linter.all false
set_option maxRecDepth 100000
set_option maxHeartbeats 4000000
set_option synthInstance.maxSize 100000
set_option synthInstance.maxHeartbeats 0
namespace G21
open PySem PySem.Spec PyProof.Rows L2 V3
@[simp ↓] def sp_stretched : VSp := fun us n q _ => ∃ (bs : List Bk) (f g : Int → Int) (ns ms : List Int), us = [.d (.list (bs.map bkD)), .tb f ns, .tb g ms] ∧ bs.length ≤ 100 ∧ (∀ b ∈ bs, b.l ∈ ns ∧ b.r ∈ ns ∧ b.d ∈ ms ∧ b.u ∈ ms) ∧ q (.d (.list ((bs.map (stB f g)).map bkD))) n
@[simp ↓] def sp_lnumber : VSp := fun us n q _ => ∃ x, us = [.d x] ∧ q (.d (.bool (isN x))) n
@[simp ↓] def sp_lhere : VSp := fun us n q _ => ∃ (x : D) (m : Int), us = [.d x, .d (.int m)] ∧ q (.d (.bool (isIxD m x))) n
@[simp ↓] def sp_lsays : VSp := fun us n q _ => ∃ a b : Bool, us = [.d (.bool a), .d (.bool b)] ∧ q (.d (.bool (a == b))) n
@[simp ↓] def sp_lheart : VSp := fun us n q _ => ∃ (bs : List Bk) (a b : Int) (i : Int) (k : Bk), us = [.d (.list (bs.map bkD)), .d (pr a b), .d (.int i)] ∧ atI bs i = some k ∧ q (.d (pr (k.l - a + k.r) (k.d - b + k.u))) n
@[simp ↓] def sp_lbarred : VSp := fun us n q _ => ∃ (bs : List Bk) (a b x y : Int), us = [.d (.list (bs.map bkD)), .d (pr a b), .d (pr x y)] ∧ bs.length ≤ 100 ∧ ∀ ks : List D, (ks = [] ↔ freeB bs a b x y = true) → V3.flatAll ks = true → ks.length ≤ 100 → SeqAt.shaped (.list ks) = true → q (.d (.list ks)) n
theorem atI_map {α β : Type} (f : α → β) {xs : List α} {i : Int} {x : α} (h : atI xs i = some x) : atI (xs.map f) i = some (f x) := by
  unfold atI at h ⊢
  rw [List.length_map]
  cases e : ixN xs.length i with
  | none =>
    rw [e] at h
    cases h
  | some j =>
    rw [e] at h
    have h : xs[j]? = some x := h
    show (xs.map f)[j]? = _
    rw [List.getElem?_map, h]
    rfl
def numFrom : Nat → List D → List D
  | _, [] => []
  | k, d :: ds => .tuple [.int (k : Nat), d] :: numFrom (k + 1) ds
theorem numFrom_eq : ∀ (ds : List D) (k : Nat), numFrom k ds = (ds.zipIdx k).map fun p => PyData.tuple [.int (p.2 : Nat), p.1]
  | [], _ => rfl
  | d :: ds, k => by
    show _ :: numFrom (k + 1) ds = _
    rw [numFrom_eq ds (k + 1)]
    rfl
theorem numD_from (ds : List D) : V3.numD ds = numFrom 0 ds := (numFrom_eq ds 0).symm
theorem flat_ints : ∀ ks : List Int, V3.flatAll (ks.map PyData.int) = true
  | [] => rfl
  | k :: ks => by
    show (V3.flat (.int k) && V3.flatAll (ks.map PyData.int)) = true
    rw [flat_ints ks]
    rfl
theorem shaped_ints (ks : List Int) : SeqAt.shaped (.list (ks.map PyData.int)) = true := GS.shaped_is _
section
variable {P : Program} {w : World} {K : PySem.W.Frag} {mg : Str → Option Value} {base : Heap} {TL : List (Addr × Str)}
theorem ok_l_is_number (T : Txt K mg) : FnOk P w K mg base CX0 1 T.l_is_number.a T.l_is_number.d ["item"] (toSp K T.C TL false sp_lnumber) := by
  refine T.l_is_number.F.ok c_l_is_number (fun vs H Q E h => toSp_len h fun us n q e hs => ?_) (fun cdv A outer s H vs Q E hr h => ?_)
  · (first | (obtain ⟨rfl, _⟩ := hs; rfl) | (obtain ⟨_, hs⟩ := hs; (first | (obtain ⟨rfl, _⟩ := hs; rfl) | (obtain ⟨_, hs⟩ := hs; (first | (obtain ⟨rfl, _⟩ := hs; rfl) | (obtain ⟨_, hs⟩ := hs; (first | (obtain ⟨rfl, _⟩ := hs; rfl) | (obtain ⟨_, hs⟩ := hs; (first | (obtain ⟨rfl, _⟩ := hs; rfl) | (obtain ⟨_, hs⟩ := hs; (first | (obtain ⟨rfl, _⟩ := hs; rfl) | (obtain ⟨_, hs⟩ := hs; (first | (obtain ⟨rfl, _⟩ := hs; rfl) | (obtain ⟨_, hs⟩ := hs; (first | (obtain ⟨rfl, _⟩ := hs; rfl) | (obtain ⟨_, hs⟩ := hs; (first | (obtain ⟨rfl, _⟩ := hs; rfl) | (obtain ⟨_, hs⟩ := hs; (first | (obtain ⟨rfl, _⟩ := hs; rfl) | (obtain ⟨_, hs⟩ := hs; (first | (obtain ⟨rfl, _⟩ := hs; rfl) | (obtain ⟨_, hs⟩ := hs; (first | (obtain ⟨rfl, _⟩ := hs; rfl) | (obtain ⟨_, hs⟩ := hs; (first | (obtain ⟨rfl, _⟩ := hs; rfl) | (obtain ⟨_, hs⟩ := hs; (first | (obtain ⟨rfl, _⟩ := hs; rfl) | (obtain ⟨_, hs⟩ := hs; (first | (obtain ⟨rfl, _⟩ := hs; rfl) | (obtain ⟨_, hs⟩ := hs; (first | (obtain ⟨rfl, _⟩ := hs; rfl) | (obtain ⟨_, hs⟩ := hs; (obtain ⟨rfl, _⟩ := hs; rfl)))))))))))))))))))))))))))))))))
  · refine ⟨_,
      (pss_one (ps_ret (pe_and (pe_callB (isi3 K) (by rfl) T.z_isinstance (by decide +kernel) (pa_cons (pv 0) (pa_cons (pe_bltn (v := .ty "int") (u := .type "int") rfl T.z_int (by decide +kernel) rfl) pa_nil))) (pe_one (pe_not (pe_callB (isi3 K) (by rfl) T.z_isinstance (by decide +kernel) (pa_cons (pv 0) (pa_cons (pe_bltn (v := .ty "bool") (u := .type "bool") rfl T.z_bool (by decide +kernel) rfl) pa_nil))))))))
      , run3 (K := K) (C := T.C) (TL := TL) h fun us n q e hs => ?_⟩
    obtain ⟨x, rfl, hq⟩ := hs
    cases x <;> simpa [ro0, isN] using hq
end
end G21
set_option Elab.async false
set_option linter.all false
set_option maxRecDepth 100000
set_option maxHeartbeats 4000000
set_option synthInstance.maxSize 100000
set_option synthInstance.maxHeartbeats 0
namespace G21
open PySem PySem.Spec PyProof.Rows L2 V3
def oD : Option Int → D
  | none => .none
  | some n => .int n
@[simp] theorem oD_n : oD none = .none := rfl
@[simp] theorem oD_s (n : Int) : oD (some n) = .int n := rfl
def lsO : Option Int → Option Int → Option Int
  | none, q => q
  | some p, none => some p
  | some p, some q => some (min p q)
abbrev cD (c : Option Int × Option Int) : D := .tuple [oD c.1, oD c.2]
@[simp ↓] def sp_lleast : VSp := fun us n q _ => ∃ (a b : Option Int), us = [.d (oD a), .d (oD b)] ∧ q (.d (oD (lsO a b))) n
def hdO (c b : Option Int × Option Int) : Bool := decide (lsO c.1 b.1 = b.1) && decide (lsO c.2 b.2 = b.2)
@[simp ↓] def sp_lholds : VSp := fun us n q _ => ∃ (c b : Option Int × Option Int), us = [.d (cD c), .d (cD b)] ∧ q (.d (.bool (hdO c b))) n
@[simp ↓] def sp_lrank : VSp := fun us n q _ => ∃ (a : Option Int), us = [.d (oD a)] ∧ q (.d (match a with
  | none => pr 1 0
  | some k => pr 0 k)) n
def isNums (m : Int) : D → Bool
  | .tuple xs => decide ((xs.length : Int) = m) && xs.all isN
  | _ => false
@[simp ↓] def sp_lnums : VSp := fun us n q _ => ∃ (x : D) (m : Int), us = [.d x, .d (.int m)] ∧ (∀ xs, x = .tuple xs → xs.length ≤ 1000) ∧ q (.d (.bool (isNums m x))) n
theorem oD_inj {a b : Option Int} (h : oD a = oD b) : a = b := by
  cases a <;> cases b <;> simp at h ⊢
  exact h
theorem eq_oD (a b : Option Int) (k : Bool → D → Prop) : V3.eqU id (.d (oD a)) (.d (oD b)) k = k false (.bool (decide (a = b))) := by
  cases a <;> cases b <;> simp [V3.eqU, PyData.eqv, SeqAt.shaped, PyData.canLay0, PyData.depth]
/-- a list of ones, for the items that p takes -/
theorem ones_sh (p : D → Bool) (xs : List D) : SeqAt.shaped (.list ((xs.filter p).map fun _ => PyData.int 1)) = true := by
  have e : ((xs.filter p).map fun _ => PyData.int 1) = ((xs.filter p).map fun _ => (1 : Int)).map PyData.int := by
    rw [List.map_map]
    rfl
  rw [e]
  exact shaped_ints _
theorem ones_eq (p : D → Bool) (xs : List D) : PyData.eqv (.list ((xs.filter p).map fun _ => PyData.int 1)) (.list []) = xs.all (fun x => !p x) := by
  induction xs with
  | nil => rfl
  | cons x xs ih =>
    by_cases h : p x = true
    · rw [List.filter_cons_of_pos h, List.all_cons, h]
      rfl
    · rw [List.filter_cons_of_neg h, List.all_cons, ih]
      simp [h]
theorem lcL_ones {is : List Nat} {tup : Bool} {mt : TT3} {me : TE3} {ρ : Ro} {e : Addr → Prop} (p : D → Bool) (xs : List D) (n : Nat) (q : List D → Nat → Prop)
    (hit : ∀ a ∈ xs, ∀ (n : Nat) (Kt : D → Nat → Prop) (Ks : Nat → Prop), (if p a = true then Kt (.int 1) n else Ks n) → giv is tup a ρ fun ρ' => mt ρ' n (fun b n1 => if b = true then me ρ' n1 (fun _ u n2 => match u with
      | .d x => Kt x n2
      | _ => False) e else Ks n1) e) (h : q ((xs.filter p).map fun _ => PyData.int 1) n) : lcL is tup mt me ρ e xs n q := by
  have z := lcL_pure (is := is) (tup := tup) (mt := mt) (me := me) (ρ := ρ) (e := e) (fun d => d) (fun _ => PyData.int 1) p xs n q hit h
  rw [List.map_id'] at z
  exact z
section
variable {P : Program} {w : World} {K : PySem.W.Frag} {mg : Str → Option Value} {base : Heap} {TL : List (Addr × Str)}
theorem ok_l_least (T : Txt K mg) : FnOk P w K mg base CX0 1 T.l_least.a T.l_least.d ["one", "other"] (toSp K T.C TL false sp_lleast) := by
  refine T.l_least.F.ok c_l_least (fun vs H Q E h => toSp_len h fun us n q e hs => ?_) (fun cdv A outer s H vs Q E hr h => ?_)
  · (first | (obtain ⟨rfl, _⟩ := hs; rfl) | (obtain ⟨_, hs⟩ := hs; (first | (obtain ⟨rfl, _⟩ := hs; rfl) | (obtain ⟨_, hs⟩ := hs; (first | (obtain ⟨rfl, _⟩ := hs; rfl) | (obtain ⟨_, hs⟩ := hs; (first | (obtain ⟨rfl, _⟩ := hs; rfl) | (obtain ⟨_, hs⟩ := hs; (first | (obtain ⟨rfl, _⟩ := hs; rfl) | (obtain ⟨_, hs⟩ := hs; (first | (obtain ⟨rfl, _⟩ := hs; rfl) | (obtain ⟨_, hs⟩ := hs; (first | (obtain ⟨rfl, _⟩ := hs; rfl) | (obtain ⟨_, hs⟩ := hs; (first | (obtain ⟨rfl, _⟩ := hs; rfl) | (obtain ⟨_, hs⟩ := hs; (first | (obtain ⟨rfl, _⟩ := hs; rfl) | (obtain ⟨_, hs⟩ := hs; (first | (obtain ⟨rfl, _⟩ := hs; rfl) | (obtain ⟨_, hs⟩ := hs; (first | (obtain ⟨rfl, _⟩ := hs; rfl) | (obtain ⟨_, hs⟩ := hs; (first | (obtain ⟨rfl, _⟩ := hs; rfl) | (obtain ⟨_, hs⟩ := hs; (first | (obtain ⟨rfl, _⟩ := hs; rfl) | (obtain ⟨_, hs⟩ := hs; (first | (obtain ⟨rfl, _⟩ := hs; rfl) | (obtain ⟨_, hs⟩ := hs; (first | (obtain ⟨rfl, _⟩ := hs; rfl) | (obtain ⟨_, hs⟩ := hs; (first | (obtain ⟨rfl, _⟩ := hs; rfl) | (obtain ⟨_, hs⟩ := hs; (obtain ⟨rfl, _⟩ := hs; rfl)))))))))))))))))))))))))))))))))
  · refine ⟨_,
      (pss_cons (ps_if (pt_cmpR op_isN3 (pv 0) pe_non (nomark _))
      (pss_one (ps_ret (pv 1)))
      pss_nil)
      (pss_one (ps_ret (pe_ifExp (pt_cmpR op_isN3 (pv 1) pe_non (nomark _)) (pv 0) (pe_callB (min3 K rfl (hu_of hr)) (by rfl) T.z_min (by decide +kernel) (pa_cons (pv 0) (pa_cons (pv 1) pa_nil)))))))
      , run3 (K := K) (C := T.C) (TL := TL) h fun us n q e hs => ?_⟩
    obtain ⟨a, b, rfl, hq⟩ := hs
    cases a <;> cases b <;> simp [ro0] at hq ⊢ <;> exact hq
theorem ok_l_rank (T : Txt K mg) : FnOk P w K mg base CX0 1 T.l_rank.a T.l_rank.d ["item"] (toSp K T.C TL false sp_lrank) := by
  refine T.l_rank.F.ok c_l_rank (fun vs H Q E h => toSp_len h fun us n q e hs => ?_) (fun cdv A outer s H vs Q E hr h => ?_)
  · (first | (obtain ⟨rfl, _⟩ := hs; rfl) | (obtain ⟨_, hs⟩ := hs; (first | (obtain ⟨rfl, _⟩ := hs; rfl) | (obtain ⟨_, hs⟩ := hs; (first | (obtain ⟨rfl, _⟩ := hs; rfl) | (obtain ⟨_, hs⟩ := hs; (first | (obtain ⟨rfl, _⟩ := hs; rfl) | (obtain ⟨_, hs⟩ := hs; (first | (obtain ⟨rfl, _⟩ := hs; rfl) | (obtain ⟨_, hs⟩ := hs; (first | (obtain ⟨rfl, _⟩ := hs; rfl) | (obtain ⟨_, hs⟩ := hs; (first | (obtain ⟨rfl, _⟩ := hs; rfl) | (obtain ⟨_, hs⟩ := hs; (first | (obtain ⟨rfl, _⟩ := hs; rfl) | (obtain ⟨_, hs⟩ := hs; (first | (obtain ⟨rfl, _⟩ := hs; rfl) | (obtain ⟨_, hs⟩ := hs; (first | (obtain ⟨rfl, _⟩ := hs; rfl) | (obtain ⟨_, hs⟩ := hs; (first | (obtain ⟨rfl, _⟩ := hs; rfl) | (obtain ⟨_, hs⟩ := hs; (first | (obtain ⟨rfl, _⟩ := hs; rfl) | (obtain ⟨_, hs⟩ := hs; (first | (obtain ⟨rfl, _⟩ := hs; rfl) | (obtain ⟨_, hs⟩ := hs; (first | (obtain ⟨rfl, _⟩ := hs; rfl) | (obtain ⟨_, hs⟩ := hs; (first | (obtain ⟨rfl, _⟩ := hs; rfl) | (obtain ⟨_, hs⟩ := hs; (first | (obtain ⟨rfl, _⟩ := hs; rfl) | (obtain ⟨_, hs⟩ := hs; (obtain ⟨rfl, _⟩ := hs; rfl)))))))))))))))))))))))))))))))))
  · refine ⟨_,
      (pss_one (ps_ret (pe_ifExp (pt_cmpR op_isN3 (pv 0) pe_non (nomark _)) (pe_tup (pa_cons pe_int (pa_cons pe_int pa_nil))) (pe_tup (pa_cons pe_int (pa_cons (pv 0) pa_nil))))))
      , run3 (K := K) (C := T.C) (TL := TL) h fun us n q e hs => ?_⟩
    obtain ⟨a, rfl, hq⟩ := hs
    cases a <;> simp [ro0] at hq ⊢ <;> exact hq
theorem ok_l_holds (T : Txt K mg) : FnOk P w K mg base CX0 2 T.l_holds.a T.l_holds.d ["corner", "body"] (toSp K T.C TL false sp_lholds) := by
  refine T.l_holds.F.ok c_l_holds (fun vs H Q E h => toSp_len h fun us n q e hs => ?_) (fun cdv A outer s H vs Q E hr h => ?_)
  · (first | (obtain ⟨rfl, _⟩ := hs; rfl) | (obtain ⟨_, hs⟩ := hs; (first | (obtain ⟨rfl, _⟩ := hs; rfl) | (obtain ⟨_, hs⟩ := hs; (first | (obtain ⟨rfl, _⟩ := hs; rfl) | (obtain ⟨_, hs⟩ := hs; (first | (obtain ⟨rfl, _⟩ := hs; rfl) | (obtain ⟨_, hs⟩ := hs; (first | (obtain ⟨rfl, _⟩ := hs; rfl) | (obtain ⟨_, hs⟩ := hs; (first | (obtain ⟨rfl, _⟩ := hs; rfl) | (obtain ⟨_, hs⟩ := hs; (first | (obtain ⟨rfl, _⟩ := hs; rfl) | (obtain ⟨_, hs⟩ := hs; (first | (obtain ⟨rfl, _⟩ := hs; rfl) | (obtain ⟨_, hs⟩ := hs; (first | (obtain ⟨rfl, _⟩ := hs; rfl) | (obtain ⟨_, hs⟩ := hs; (first | (obtain ⟨rfl, _⟩ := hs; rfl) | (obtain ⟨_, hs⟩ := hs; (first | (obtain ⟨rfl, _⟩ := hs; rfl) | (obtain ⟨_, hs⟩ := hs; (first | (obtain ⟨rfl, _⟩ := hs; rfl) | (obtain ⟨_, hs⟩ := hs; (first | (obtain ⟨rfl, _⟩ := hs; rfl) | (obtain ⟨_, hs⟩ := hs; (first | (obtain ⟨rfl, _⟩ := hs; rfl) | (obtain ⟨_, hs⟩ := hs; (first | (obtain ⟨rfl, _⟩ := hs; rfl) | (obtain ⟨_, hs⟩ := hs; (first | (obtain ⟨rfl, _⟩ := hs; rfl) | (obtain ⟨_, hs⟩ := hs; (obtain ⟨rfl, _⟩ := hs; rfl)))))))))))))))))))))))))))))))))
  · refine ⟨_,
      (pss_one (ps_ret (pe_and (pe_cmpR (eq3 K hr.units) (pe_call (ok_l_least T (TL := TL)) (hr.mono (by decide)) rfl T.l_least.g T.l_least.k T.l_least.b .nil pass0 (pa_cons (pe_ix (ix3 K) (pv 0) pe_int (fun _ _ => rfl)) (pa_cons (pe_ix (ix3 K) (pv 1) pe_int (fun _ _ => rfl)) pa_nil))) (pe_ix (ix3 K) (pv 1) pe_int (fun _ _ => rfl)) (nomark _)) (pe_one (pe_cmpR (eq3 K hr.units) (pe_call (ok_l_least T (TL := TL)) (hr.mono (by decide)) rfl T.l_least.g T.l_least.k T.l_least.b .nil pass0 (pa_cons (pe_ix (ix3 K) (pv 0) pe_int (fun _ _ => rfl)) (pa_cons (pe_ix (ix3 K) (pv 1) pe_int (fun _ _ => rfl)) pa_nil))) (pe_ix (ix3 K) (pv 1) pe_int (fun _ _ => rfl)) (nomark _))))))
      , run3 (K := K) (C := T.C) (TL := TL) h fun us n q e hs => ?_⟩
    obtain ⟨⟨c1, c2⟩, ⟨b1, b2⟩, rfl, hq⟩ := hs
    simp [ro0]
    refine ⟨c1, b1, ⟨rfl, rfl⟩, ?_⟩
    rw [eq_oD]
    unfold hdO at hq
    by_cases h1 : lsO c1 b1 = b1
    · simp [h1] at hq ⊢
      refine ⟨c2, b2, ⟨rfl, rfl⟩, ?_⟩
      rw [eq_oD]
      exact hq
    · simp [h1] at hq ⊢
      exact hq
end
end G21
set_option Elab.async false
set_option linter.all false
set_option maxRecDepth 100000
set_option maxHeartbeats 4000000
set_option synthInstance.maxSize 100000
set_option synthInstance.maxHeartbeats 0
namespace G21
open PySem PySem.Spec PyProof.Rows L2 V3
abbrev Co : Type := Option Int × Option Int
/-- a corner holds a body -/
def cle (c : Co) (A B : Int) : Prop := (∀ k, c.1 = some k → A ≤ k) ∧ ∀ k, c.2 = some k → B ≤ k
theorem ones_eqA {α : Type} (p : α → Bool) (as : List α) : PyData.eqv (.list ((as.filter p).map fun _ => PyData.int 1)) (.list []) = as.all (fun x => !p x) := by
  induction as with
  | nil => rfl
  | cons x xs ih =>
    by_cases h : p x = true
    · rw [List.filter_cons_of_pos h, List.all_cons, h]
      rfl
    · rw [List.filter_cons_of_neg h, List.all_cons, ih]
      simp [h]
theorem ones_shA {α : Type} (p : α → Bool) (as : List α) : SeqAt.shaped (.list ((as.filter p).map fun _ => PyData.int 1)) = true := by
  have e : ((as.filter p).map fun _ => PyData.int 1) = ((as.filter p).map fun _ => (1 : Int)).map PyData.int := by
    rw [List.map_map]
    rfl
  rw [e]
  exact shaped_ints _
/-! ### staircases: their one form -/
def ltO (p q : Option Int) : Prop := match p, q with
  | some a, some b => a < b
  | some _, none => True
  | none, _ => False
def leO (p q : Option Int) : Prop := match p, q with
  | some a, some b => a ≤ b
  | _, none => True
  | none, some _ => False
theorem leO_refl (p : Option Int) : leO p p := by
  cases p <;> simp [leO]
theorem leO_anti {p q : Option Int} (h : leO p q) (g : leO q p) : p = q := by
  cases p <;> cases q <;> simp [leO] at h g ⊢
  omega
theorem leO_trans {p q r : Option Int} (h : leO p q) (g : leO q r) : leO p r := by
  cases p <;> cases q <;> cases r <;> simp [leO] at h g ⊢
  omega
theorem ltO_not {p q : Option Int} (h : ltO p q) : ¬ leO q p := by
  cases p <;> cases q <;> simp [ltO, leO] at h ⊢
  omega
theorem ltO_tri (p q : Option Int) : ltO p q ∨ p = q ∨ ltO q p := by
  cases p <;> cases q <;> simp [ltO]
  omega
def leC (c d : Co) : Prop := leO c.1 d.1 ∧ leO c.2 d.2
/-- steps that go down, in one row -/
def Can (cs : List Co) : Prop := cs.Pairwise fun c d => ltO c.1 d.1 ∧ ltO d.2 c.2
def heldI (cs : List Co) (A B : Int) : Prop := ∃ c ∈ cs, cle c A B
theorem can_anti {cs : List Co} (h : Can cs) {c d : Co} (hc : c ∈ cs) (hd : d ∈ cs) (l : leC c d) : c = d := by
  induction cs with
  | nil => cases hc
  | cons x xs ih =>
    obtain ⟨h1, h2⟩ := List.pairwise_cons.mp h
    rcases List.mem_cons.mp hc with e1 | m1
    · rcases List.mem_cons.mp hd with e2 | m2
      · rw [e1, e2]
      · rw [e1] at l
        exact absurd l.2 (ltO_not (h1 d m2).2)
    · rcases List.mem_cons.mp hd with e2 | m2
      · rw [e2] at l
        exact absurd l.1 (ltO_not (h1 c m1).1)
      · exact ih h2 m1 m2
/-- a number above all that stand there -/
def topN : List Co → Int
  | [] => 1
  | c :: cs => max (max (c.1.getD 0 + 1) (c.2.getD 0 + 1)) (topN cs)
theorem topN_one : ∀ cs : List Co, 1 ≤ topN cs
  | [] => by simp [topN]
  | c :: cs => by
    have := topN_one cs
    simp only [topN]
    omega
theorem topN_le : ∀ {cs : List Co} {c : Co}, c ∈ cs → (∀ k, c.1 = some k → k < topN cs) ∧ ∀ k, c.2 = some k → k < topN cs
  | x :: xs, c, h => by
    rcases List.mem_cons.mp h with rfl | h
    · refine ⟨fun k e => ?_, fun k e => ?_⟩ <;> simp only [topN, e, Option.getD_some] <;> omega
    · obtain ⟨a, b⟩ := topN_le h
      refine ⟨fun k e => ?_, fun k e => ?_⟩
      · have := a k e
        simp only [topN]
        omega
      · have := b k e
        simp only [topN]
        omega
theorem can_sub {cs ds : List Co} (pos : ∀ c ∈ cs, (∀ k, c.1 = some k → 1 ≤ k) ∧ ∀ k, c.2 = some k → 1 ≤ k) (same : ∀ A B : Int, 1 ≤ A → 1 ≤ B → heldI cs A B → heldI ds A B) {c : Co} (hc : c ∈ cs) : ∃ d ∈ ds, leC c d := by
  obtain ⟨p1, p2⟩ := pos c hc
  have t1 := topN_one ds
  have g1 : 1 ≤ c.1.getD (topN ds) := by
    cases e : c.1 with
    | none => simpa using t1
    | some k => simpa using p1 k e
  have g2 : 1 ≤ c.2.getD (topN ds) := by
    cases e : c.2 with
    | none => simpa using t1
    | some k => simpa using p2 k e
  obtain ⟨d, hd, d1, d2⟩ := same _ _ g1 g2 ⟨c, hc, fun k e => by rw [e]; simp, fun k e => by rw [e]; simp⟩
  obtain ⟨u1, u2⟩ := topN_le hd
  refine ⟨d, hd, ?_, ?_⟩
  · cases e : d.1 with
    | none => cases c.1 <;> simp [leO]
    | some k =>
      have := d1 k e
      have := u1 k e
      cases ec : c.1 with
      | none =>
        rw [ec] at d1
        have := d1 k e
        simp at this
        omega
      | some j =>
        rw [ec] at d1
        have := d1 k e
        simpa [leO] using this
  · cases e : d.2 with
    | none => cases c.2 <;> simp [leO]
    | some k =>
      have := u2 k e
      cases ec : c.2 with
      | none =>
        rw [ec] at d2
        have := d2 k e
        simp at this
        omega
      | some j =>
        rw [ec] at d2
        have := d2 k e
        simpa [leO] using this
theorem can_mem {cs ds : List Co} (h : Can cs) (pc : ∀ c ∈ cs, (∀ k, c.1 = some k → 1 ≤ k) ∧ ∀ k, c.2 = some k → 1 ≤ k) (pd : ∀ c ∈ ds, (∀ k, c.1 = some k → 1 ≤ k) ∧ ∀ k, c.2 = some k → 1 ≤ k)
    (same : ∀ A B : Int, 1 ≤ A → 1 ≤ B → (heldI cs A B ↔ heldI ds A B)) {c : Co} (hc : c ∈ cs) : c ∈ ds := by
  obtain ⟨d, hd, l1⟩ := can_sub pc (fun A B a b z => (same A B a b).mp z) hc
  obtain ⟨c', hc', l2⟩ := can_sub pd (fun A B a b z => (same A B a b).mpr z) hd
  have e := can_anti h hc hc' ⟨leO_trans l1.1 l2.1, leO_trans l1.2 l2.2⟩
  subst e
  have e2 : c = d := Prod.ext (leO_anti l1.1 l2.1) (leO_anti l1.2 l2.2)
  exact e2 ▸ hd
theorem can_nodup {cs : List Co} (h : Can cs) : cs.Nodup := by
  refine List.Pairwise.imp ?_ h
  intro a b z e
  exact ltO_not z.1 (by rw [e]; exact leO_refl _)
theorem can_list : ∀ {cs ds : List Co}, Can cs → Can ds → (∀ c, c ∈ cs ↔ c ∈ ds) → cs = ds
  | [], [], _, _, _ => rfl
  | [], d :: ds, _, _, h => by
    have := (h d).mpr List.mem_cons_self
    cases this
  | c :: cs, [], _, _, h => by
    have := (h c).mp List.mem_cons_self
    cases this
  | c :: cs, d :: ds, hc, hd, h => by
    obtain ⟨c1, c2⟩ := List.pairwise_cons.mp hc
    obtain ⟨d1, d2⟩ := List.pairwise_cons.mp hd
    have e : c = d := by
      rcases List.mem_cons.mp ((h c).mp List.mem_cons_self) with z | z
      · exact z
      · rcases List.mem_cons.mp ((h d).mpr List.mem_cons_self) with y | y
        · exact y.symm
        · have q1 := (d1 c z).1
          have q2 := (c1 d y).1
          revert q1 q2
          cases c.1 <;> cases d.1 <;> simp [ltO]
          omega
    subst e
    have nc : c ∉ cs := (List.nodup_cons.mp (can_nodup hc)).1
    have nd : c ∉ ds := (List.nodup_cons.mp (can_nodup hd)).1
    rw [can_list c2 d2 fun x => ⟨fun z => ?_, fun z => ?_⟩]
    · rcases List.mem_cons.mp ((h x).mp (List.mem_cons_of_mem _ z)) with y | y
      · exact absurd (y ▸ z) nc
      · exact y
    · rcases List.mem_cons.mp ((h x).mpr (List.mem_cons_of_mem _ z)) with y | y
      · exact absurd (y ▸ z) nd
      · exact y
/-- one staircase for each lot of bodies -/
theorem can_eq {cs ds : List Co} (hc : Can cs) (hd : Can ds) (pc : ∀ c ∈ cs, (∀ k, c.1 = some k → 1 ≤ k) ∧ ∀ k, c.2 = some k → 1 ≤ k) (pd : ∀ c ∈ ds, (∀ k, c.1 = some k → 1 ≤ k) ∧ ∀ k, c.2 = some k → 1 ≤ k)
    (same : ∀ A B : Int, 1 ≤ A → 1 ≤ B → (heldI cs A B ↔ heldI ds A B)) : cs = ds :=
  can_list hc hd fun c => ⟨can_mem hc pc pd same, can_mem hd pd pc fun A B a b => (same A B a b).symm⟩
/-! ### what is greatest in a list of corners -/
def maxC (cs : List Co) (c : Co) : Prop := ∀ o ∈ cs, leC c o → o = c
theorem leC_refl (c : Co) : leC c c := ⟨leO_refl _, leO_refl _⟩
theorem leC_trans {a b c : Co} (h : leC a b) (g : leC b c) : leC a c := ⟨leO_trans h.1 g.1, leO_trans h.2 g.2⟩
theorem leC_anti {a b : Co} (h : leC a b) (g : leC b a) : a = b := Prod.ext (leO_anti h.1 g.1) (leO_anti h.2 g.2)
theorem max_above (cs : List Co) {c : Co} (hc : c ∈ cs) : ∀ L : List Co, (∀ x ∈ L, x ∈ cs) → ∃ d ∈ cs, leC c d ∧ maxC L d
  | [], _ => ⟨c, hc, leC_refl c, fun _ h => by cases h⟩
  | e :: L, hL => by
    obtain ⟨d, hd, l, m⟩ := max_above cs hc L fun x hx => hL x (List.mem_cons_of_mem _ hx)
    by_cases le : leC d e
    · refine ⟨e, hL e List.mem_cons_self, leC_trans l le, fun o ho lo => ?_⟩
      rcases List.mem_cons.mp ho with z | z
      · exact z
      · have q := m o z (leC_trans le lo)
        rw [q] at lo ⊢
        exact leC_anti le lo
    · refine ⟨d, hd, l, fun o ho lo => ?_⟩
      rcases List.mem_cons.mp ho with z | z
      · exact absurd (z ▸ lo) le
      · exact m o z lo
theorem hdO_le (o c : Co) : hdO o c = true ↔ leC c o := by
  obtain ⟨o1, o2⟩ := o
  obtain ⟨c1, c2⟩ := c
  unfold hdO leC
  rw [Bool.and_eq_true, decide_eq_true_eq, decide_eq_true_eq]
  refine and_congr ?_ ?_
  · cases o1 <;> cases c1 <;> simp [lsO, leO]
    omega
  · cases o2 <;> cases c2 <;> simp [lsO, leO]
    omega
theorem max_not {cs : List Co} {c : Co} : cs.all (fun o => !(!decide (o = c) && hdO o c)) = true ↔ maxC cs c := by
  rw [List.all_eq_true]
  refine forall_congr' fun o => forall_congr' fun _ => ?_
  rw [← hdO_le]
  by_cases e : o = c <;> cases h : hdO o c <;> simp [e]
/-- the greatest ones, in the order of their widths -/
theorem can_sorted {cs : List Co} : ∀ {fs : List Co}, fs.Nodup → (∀ c ∈ fs, c ∈ cs ∧ maxC cs c) → fs.Pairwise (fun c d => leO c.1 d.1) → Can fs
  | [], _, _, _ => List.Pairwise.nil
  | c :: fs, nd, hm, hs => by
    obtain ⟨n1, n2⟩ := List.nodup_cons.mp nd
    obtain ⟨s1, s2⟩ := List.pairwise_cons.mp hs
    refine List.pairwise_cons.mpr ⟨fun d hd => ?_, can_sorted n2 (fun x hx => hm x (List.mem_cons_of_mem _ hx)) s2⟩
    obtain ⟨c1, c2⟩ := hm c List.mem_cons_self
    obtain ⟨d1, d2⟩ := hm d (List.mem_cons_of_mem _ hd)
    have ne : d ≠ c := fun e => n1 (e ▸ hd)
    have l1 := s1 d hd
    have nl : ¬ leO c.2 d.2 := fun z => ne (c2 d d1 ⟨l1, z⟩)
    have g2 : ltO d.2 c.2 := by
      rcases ltO_tri c.2 d.2 with z | z | z
      · exfalso
        revert z nl
        cases c.2 <;> cases d.2 <;> simp [ltO, leO]
        omega
      · exact absurd (z ▸ leO_refl _) nl
      · exact z
    refine ⟨?_, g2⟩
    rcases ltO_tri c.1 d.1 with z | z | z
    · exact z
    · exfalso
      refine ne (d2 c c1 ⟨by rw [z]; exact leO_refl _, ?_⟩).symm
      revert g2
      cases c.2 <;> cases d.2 <;> simp [ltO, leO]
      omega
    · exact absurd l1 (ltO_not z)
end G21
set_option Elab.async false
set_option linter.all false
set_option maxRecDepth 100000
set_option maxHeartbeats 4000000
namespace V3
open PySem PySem.Spec PyProof.Rows L2
section
variable {K : PySem.W.Frag} {C : Addr} {TL : List (Addr × Str)} {E : XK}
/-! ### list(reversed(x)) -/
@[simp ↓] def mListRev (me : TE3) : TE3 := fun ρ n q e => me ρ n (fun _ u n1 => match u with
    | .d (.list xs) => q true (.d (.list xs.reverse)) n1
    | .d (.tuple xs) => q true (.d (.list xs.reverse)) n1
    | _ => False) e
instance {te : TE} {S : List Nat} {me : TE3} [he : LE K C TL E te S me] : LE K C TL E (tListRev K te) S (mListRev me) where
  s am ρ n σ H hE h Q q hm k := by
    obtain ⟨rfl, rfl, rfl, rfl⟩ := id hE
    refine he.s am ρ n σ H hE h _ _ hm fun fr u n1 v H1 hq f1 w1 r1 => ?_
    have h1 := h.step f1 w1
    match u, hq, r1.1 with
    | .d (.list xs), hq, r =>
      cases r with
      | lst a1 a2 => exact ⟨_, _, rfl, .inl (SqL.of (cut_some.mp a1).2), fun p hp => k _ _ n1 _ _ hq (f1.trans (.of (same_new hp))) (w1.same (same_new hp)) ((new_list (hid_there h1 S) hp (RpAll.rev a2)).back h f1 h1)⟩
    | .d (.tuple xs), hq, r =>
      cases r with
      | tup a1 a2 => exact ⟨_, _, rfl, .inr (SqT.le Le.cutAll a1), fun p hp => k _ _ n1 _ _ hq (f1.trans (.of (same_new hp))) (w1.same (same_new hp)) ((new_list (hid_there h1 S) hp (RpAll.rev a2)).back h f1 h1)⟩
/-! ### sorted(set(ints)) -/
@[simp ↓] def mSortSet (me : TE3) : TE3 := fun ρ n q e => me ρ n (fun _ u n1 => askL u fun xs => ∃ ns : List Int, xs = ns.map PyData.int ∧ ns.length < 64 ∧
  ∀ line : List Int, line.Pairwise (· < ·) → (∀ j, j ∈ line ↔ j ∈ ns) → line.length ≤ ns.length → q true (.d (.list (line.map PyData.int))) n1) e
theorem ints_rep {K : PySem.W.Frag} {H : Hp} (ns : List Int) : RpAll K H (ns.map V.int) (ns.map PyData.int) := by
  induction ns with
  | nil => exact .nil
  | cons m ms ih => exact .cons (.int m) ih
instance (priority := high) {w : World} {te : TE} {S : List Nat} {me : TE3} [he : LE K C TL E te S me] : LE K C TL E (tCB (rSortedSet w) (tCons (tCB (GS.rSetL K w) (tCons te tNil)) tNil)) [] (mSortSet me) where
  s am ρ n σ H hE h Q q hm k := by
    obtain ⟨rfl, rfl, rfl, rfl⟩ := id hE
    refine he.s am ρ n σ H hE h _ _ hm fun fr u n1 v H1 hq f1 w1 r1 => ?_
    have h1 := h.step f1 w1
    obtain ⟨xs, a, vs, rfl, rfl, a1, a2, ns, rfl, hl, hq⟩ := askL_rep hq r1.1
    have e := rp_ints a2
    subst e
    refine ⟨a, ns, rfl, SqL.of (cut_some.mp a1).2, by omega, fun p m hp hm => ?_⟩
    obtain ⟨f2, w2⟩ := fresh_step h1 hp (SetO w p (fun j => decide (j ∈ ns)) m)
    have h2 := h1.step f2 w2
    refine ⟨p, _, m, rfl, upd_same, by omega, fun line l2 up mem hlen hp2 => ?_⟩
    obtain ⟨f3, w3⟩ := fresh_step h2 hp2 (.lst (line.map V.int))
    refine k _ _ n1 _ _ (hq line up (fun j => by rw [mem j]; simp) (by omega)) ((f1.trans f2).trans f3) w3 ((new_list (hid_there h2 []) hp2 (ints_rep line)).back h (f1.trans f2) h2)
/-! ### x.index(y), among ints -/
@[simp ↓] def mIndex (mo me : TE3) : TE3 := fun ρ n q e => mo ρ n (fun _ u n1 => askL u fun xs => me ρ n1 (fun _ w n2 => askI w fun k => ∃ (ns : List Int) (j : Nat), xs = ns.map PyData.int ∧ ns[j]? = some k ∧ (∀ i, i < j → ns[i]? ≠ some k) ∧ q false (.d (.int (j : Nat))) n2) e) e
theorem ints_flat (ns : List Int) : (ns.map V.int).all flatV = true := by
  induction ns with
  | nil => rfl
  | cons m ms ih =>
    rw [List.map_cons, List.all_cons, ih]
    rfl
instance (priority := high) {to te : TE} {S1 S2 : List Nat} {mo me : TE3} [ho : LE K C TL E to S1 mo] [he : LE K C TL E te S2 me] : LE K C TL E (tBM K "list" (rIndex K) to (tCons te tNil)) [] (mIndex mo me) where
  s am ρ n σ H hE h Q q hm k := by
    obtain ⟨rfl, rfl, rfl, rfl⟩ := id hE
    refine ho.s am ρ n σ H hE h _ _ hm fun fr u n1 v H1 hq f1 w1 r1 => ?_
    have h1 := h.step f1 w1
    obtain ⟨xs, a, vs, rfl, rfl, a1, a2, hq⟩ := askL_rep hq r1.1
    refine ⟨.inl ⟨rfl, vs, SqL.of (cut_some.mp a1).2⟩, ?_⟩
    refine he.s am ρ n1 σ H1 hE h1 _ _ hq fun fr2 u2 n2 v2 H2 hq2 f2 w2 r2 => ?_
    obtain ⟨i, rfl, rfl, ns, j, rfl, hj, hno, hq2⟩ := askI_rep hq2 r2.1
    have e := rp_ints a2
    subst e
    have a3 : Rp am.K (cut (Hid am (dem S1 ρ) σ) H2) (.ref a) (.list (ns.map PyData.int)) := r1.1.le (rl_cutS h1 f2 (S' := S1) fun i hi => hi)
    cases a3 with
    | lst b1 b2 =>
      have e := rp_ints b2
      subst e
      refine ⟨a, ns.map V.int, .int i, j, .int i, rfl, rfl, SqL.of (cut_some.mp b1).2, rfl, ints_flat _, by rw [List.getElem?_map, hj]; rfl, by simp [eqV], fun m z' hm hz => ?_, k _ _ n2 _ H2 hq2 (f1.trans f2) w2 (.old (Rp.int _))⟩
      rw [List.getElem?_map] at hz
      cases e : ns[m]? with
      | none =>
        rw [e] at hz
        cases hz
      | some y =>
        rw [e] at hz
        cases hz
        have := hno m hm
        rw [e] at this
        have ne : ¬ y = i := fun z => this (by rw [z])
        simp [eqV, ne]
/-! ### f(a, k = b) -/
@[simp ↓] def mCallK (fr : Bool) (sp : VSp) (i j : Nat) (ma mk : TA3) : TE3 := fun ρ n q e => ma ρ n (fun us n1 => mk ρ n1 (fun ws n2 => (us.length = i ∧ ws.length = j) ∧ sp (us ++ ws) n2 (fun u n3 => q fr u n3) e) e) e
@[simp ↓] def mCallK0 (fr : Bool) (sp : VSp) (i j : Nat) (ma mk : TA3) : TE3 := fun ρ n q e => ma ρ n (fun us n1 => mk ρ n1 (fun ws n2 => (us.length = i ∧ ws.length = j) ∧ sp (us ++ ws) n2 (fun u n3 => q fr u n3) (fun _ => False)) e) e
theorem rep_app {am : Am} {O : Addr → Prop} {H : Hp} : ∀ {vs ws : List V} {us xs : List U}, RepA am O H vs us → RepA am O H ws xs → RepA am O H (vs ++ ws) (us ++ xs)
  | _, _, _, _, .nil, h => h
  | _, _, _, _, .cons r t, h => .cons r (rep_app t h)
theorem repA_sub {am : Am} {O O' : Addr → Prop} {H : Hp} {vs : List V} {us : List U} (k : ∀ a, O' a → O a) (r : RepA am O H vs us) : RepA am O' H vs us := r.le (Le.cutSub k)
instance (priority := high) {ta tk : TA} {S1 S2 : List Nat} {ma mk : TA3} {fr : Bool} {sp : VSp} {i j : Nat} [ha : LA K C TL E ta S1 ma] [hk : LA K C TL E tk S2 mk] : LE K C TL E (tCallK (toSp K C TL fr sp) (GS.gA i j) E ta tk) (S1 ++ S2) (mCallK fr sp i j ma mk) where
  s am ρ n σ H hE h Q q hm k := by
    obtain ⟨rfl, rfl, rfl, rfl⟩ := id hE
    refine ha.s am ρ n σ H hE h _ _ hm fun us n1 vs H1 hq f1 w1 r1 => ?_
    have h1 := h.step f1 w1
    refine hk.s am ρ n1 σ H1 hE h1 _ _ hq fun ws n2 zs H2 hq2 f2 w2 r2 => ?_
    obtain ⟨⟨l1, l2⟩, hq2⟩ := hq2
    have e : GS.gA i j vs zs = (vs ++ zs) ++ [] := by
      unfold GS.gA
      rw [if_pos ⟨by rw [rep_len r1, l1], by rw [rep_len r2, l2]⟩, List.append_nil]
    rw [e]
    exact call_ok h (f1.trans f2) w2 (rep_app (r1.le (rl_cutS h1 f2 fun i hi => List.mem_append_left _ hi)) (r2.le (rl_cutS (h1.step f2 w2) (FrR.refl _ _) fun i hi => List.mem_append_right _ hi))) hq2 k fun C' H' n' f w z => h.ex C' H' n' (gr_step h f) w z
instance {ta tk : TA} {S1 S2 : List Nat} {ma mk : TA3} {fr : Bool} {sp : VSp} {i j : Nat} {E' : XK} [ha : LA K C TL E ta S1 ma] [hk : LA K C TL E tk S2 mk] : LE K C TL E (tCallK (toSp K C TL fr sp) (GS.gA i j) E' ta tk) (S1 ++ S2) (mCallK0 fr sp i j ma mk) where
  s am ρ n σ H hE h Q q hm k := by
    obtain ⟨rfl, rfl, rfl, rfl⟩ := id hE
    refine ha.s am ρ n σ H hE h _ _ hm fun us n1 vs H1 hq f1 w1 r1 => ?_
    have h1 := h.step f1 w1
    refine hk.s am ρ n1 σ H1 hE h1 _ _ hq fun ws n2 zs H2 hq2 f2 w2 r2 => ?_
    obtain ⟨⟨l1, l2⟩, hq2⟩ := hq2
    have e : GS.gA i j vs zs = (vs ++ zs) ++ [] := by
      unfold GS.gA
      rw [if_pos ⟨by rw [rep_len r1, l1], by rw [rep_len r2, l2]⟩, List.append_nil]
    rw [e]
    exact call_ok h (f1.trans f2) w2 (rep_app (r1.le (rl_cutS h1 f2 fun i hi => List.mem_append_left _ hi)) (r2.le (rl_cutS (h1.step f2 w2) (FrR.refl _ _) fun i hi => List.mem_append_right _ hi))) hq2 k fun C' H' n' f w z => z.elim
/-! ### {} -/
@[simp ↓] def mDnew : TE3 := fun _ n q _ => q false (.d (.dict [])) n
end
end V3
set_option Elab.async false
set_option linter.all false
set_option maxRecDepth 100000
set_option maxHeartbeats 4000000
/-! x, y = [..], [[..], [..]]: a list of one's own, and a list of lists that is only read -/
namespace V3
open PySem PySem.Spec PyProof.Rows L2
section
variable {K : PySem.W.Frag} {C : Addr} {TL : List (Addr × Str)} {E : XK}
def tParN (i j : Nat) (ta tb : TE) : TS := tPar i j (tCons ta (tCons tb tNil))
theorem parN {X : Cx} {s : Stmt} {i j : Nat} {ta tb : TE} (h : PS X s (tPar i j (tCons ta (tCons tb tNil)))) : PS X s (tParN i j ta tb) := h
@[simp ↓] def mParN (S2 : List Nat) (i j : Nat) (ma mb : TE3) : TS3 := fun F ρ n e => ma ρ n (fun f1 x n1 => f1 = true ∧ askL x fun ds => flatAll ds = true ∧ mb ρ n1 (fun _ y n2 => askD y fun z => F.nx (((dem S2 ρ).set i (.ow ds)).set j (.fz (.d z))) n2) (fun _ => False)) e
theorem hid_in {am : Am} {ρ : Ro} {n n1 : Nat} {σ : L2.St} {H H1 : Hp} (h : Rl am ρ n σ H) (f : FrR am.R H H1) (w : Wd am.R am.TL H1 n1) {p : Addr} {vs : List V} (hp : New H p) (e : H1 p = some (.lst vs)) : Rl (lcAm am p) ρ n1 σ H1 := by
  have L : Le (cut (Hid am ρ σ) H) (cut (Hid (lcAm am p) ρ σ) H1) := Le.cut (fun a z => by
    rcases lc_hid.mp z with z | z
    · exact .inr (z ▸ hp)
    · exact .inl z) fun a o hn t e => f.1 a o (fun d g c q => by
      obtain ⟨h1, h2, _, _⟩ := h.wd.dr d g c q
      exact ⟨fun z => hn (.inl (z ▸ h1)), fun z => hn (.inl (z ▸ h2))⟩) t e
  exact {
    len := h.len
    fz := fun i u e => by
      obtain ⟨v, q1, q2⟩ := h.fz i u e
      exact ⟨v, q1, lc_rep.mpr (q2.le L)⟩
    ow := fun i ds e' => by
      obtain ⟨p', vs', q1, q2, q3, q4⟩ := h.ow i ds e'
      refine ⟨p', vs', q1, ⟨.inl fun ⟨o, z, _⟩ => (by cases z), fun z => ?_⟩, h.keepOw f ⟨⟨ds, e'⟩, q1⟩ q3, RpAll.le L _ _ q4⟩
      rcases z with z | z
      · exact q2.2 z
      · exact hp (z ▸ .lst q3)
    nd := h.nd
    od := fun d g c q => ⟨⟨d, g, c, q, .inl rfl⟩, ⟨d, g, c, q, .inr rfl⟩⟩
    gr := ⟨fun _ _ _ _ z => (by cases z), fun _ ⟨_, z, _⟩ => (by cases z)⟩
    wd := {
      hid := fun a z => by
        rcases z with z | z
        · exact w.hid a z
        · exact z ▸ .lst e
      tabs := w.tabs
      dr := fun d g c q => by
        obtain ⟨a1, a2, a3, r⟩ := w.dr d g c q
        exact ⟨.inl a1, .inl a2, .inl a3, r⟩ }
    ex := fun _ _ _ _ _ z => z.elim }
instance {i j : Nat} {ta tb : TE} {S1 S2 : List Nat} {ma mb : TE3} [ha : LE K C TL E ta S1 ma] [hb : LE K C TL E tb S2 mb] : LS K C TL E (tParN i j ta tb) (mParN S2 i j ma mb) where
  s am ρ n σ H D F hE h en hm := by
    obtain ⟨rfl, rfl, rfl, rfl⟩ := id hE
    refine ha.s am ρ n σ H hE h _ _ hm fun fr x n1 v H1 hq f1 w1 r1 => ?_
    obtain ⟨rfl, hq⟩ := hq
    obtain ⟨p, vs, ds, rfl, rfl, np, e, a⟩ := r1.2 rfl
    obtain ⟨fl, hq⟩ := hq
    have h1 := hid_in h f1 w1 np e
    refine hb.s (lcAm am p) ρ n1 σ H1 ⟨rfl, rfl, rfl, rfl⟩ h1 _ _ hq fun fr2 y n2 v2 H2 hq2 f2 w2 r2 => ?_
    match y, hq2, r2.1 with
    | .d z, hq2, r3 =>
      have f2' : FrR am.R H1 H2 := lc_fr.mp f2
      have w2' : Wd am.R am.TL H2 n2 := {
        hid := fun a z => w2.hid a (.inl z)
        tabs := w2.tabs
        dr := fun d g c q => by
          obtain ⟨_, _, _, r⟩ := w2.dr d g c q
          obtain ⟨a1, a2, a3, _⟩ := h.wd.dr d g c q
          exact ⟨a1, a2, a3, r⟩ }
      have e2 : H2 p = some (.lst vs) := f2'.1 p _ (fun d g c q => by
        obtain ⟨a1, a2, _, _⟩ := h.wd.dr d g c q
        exact ⟨fun z => np (h.wd.hid p (z ▸ a1)), fun z => np (h.wd.hid p (z ▸ a2))⟩) (fun ps z => by cases z) e
      have h1' := h.step f1 w1
      have a1 : RpAll am.K (cut (fun a => a = p ∨ Hid am (dem S2 ρ) σ a) H1) vs ds := RpAll.hide (O := fun a => a = p ∨ Hid am (dem S1 ρ) σ a) (fun q z => by
        rcases z with z | z | ⟨k, z⟩
        · exact .inl (.inl z)
        · exact .inl (.inr (.inl z))
        · exact .inr ((h1'.dem S2).ownL ⟨z.1, z.2⟩).2.1) _ _ fl a
      have L2 : Le (cut (fun a => a = p ∨ Hid am (dem S2 ρ) σ a) H1) (cut (fun a => a = p ∨ Hid am (dem S2 ρ) σ a) H2) := Le.cut (fun a z => .inl z) fun a o hn t e => f2'.1 a o (fun d g c q => by
        obtain ⟨b1, b2, _, _⟩ := h.wd.dr d g c q
        exact ⟨fun z => hn (.inr (.inl (z ▸ b1))), fun z => hn (.inr (.inl (z ▸ b2)))⟩) t e
      have r4 := (h.dem S2).setOw (f1.trans f2') w2' i np e2 (RpAll.le L2 _ _ a1)
      refine ⟨.ref p, v2, rfl, en.nx _ n2 _ H2 hq2 (r4.setFz j ?_)⟩
      have r3 : Rp am.K (cut (Hid (lcAm am p) (dem S2 ρ) σ) H2) v2 z := r3
      exact Rp.le (Le.cutSub fun a q => lc_hid.mpr (hid_setO q)) _ _ r3
/-! ### the truth of a list, of a tuple -/
def tTru (K : PySem.W.Frag) (te : TE) : TT := fun σ H Q => te σ H fun x H' => ∃ k, TruV K x H' k ∧ Q k H'
theorem tru3 {X : Cx} (K : PySem.W.Frag) {a : Expr} {ta : TE} (ha : PE X a ta) (he : ∀ whole, isTrue a X.env whole = (do let v ← whole; standAt a.pos; holding [v] (truthy v))) (h : X.K = K := by rfl) : PT X a (tTru K ta) := h ▸ pt_truth ha he
@[simp ↓] def mTru (me : TE3) : TT3 := fun ρ n q e => me ρ n (fun _ u n1 => askS u fun ds => q (!ds.isEmpty) n1) e
theorem rpAll_empty {K : PySem.W.Frag} {H : Hp} {vs : List V} {ds : List D} (r : RpAll K H vs ds) : vs.isEmpty = ds.isEmpty := by
  cases r <;> rfl
instance {te : TE} {S : List Nat} {me : TE3} [he : LE K C TL E te S me] : LT K C TL E (tTru K te) (mTru me) where
  s am ρ n σ H hE h Q q hm k := by
    obtain ⟨rfl, rfl, rfl, rfl⟩ := id hE
    refine he.s am ρ n σ H hE h _ _ hm fun fr u n1 v H1 hq f1 w1 r1 => ?_
    match u, hq, r1.1 with
    | .d (.list ds), hq, r =>
      cases r with
      | lst a1 a2 => exact ⟨_, .inl ⟨_, SqL.of (cut_some.mp a1).2, rfl⟩, by rw [rpAll_empty a2]; exact k _ n1 H1 hq f1 w1⟩
    | .d (.tuple ds), hq, r =>
      cases r with
      | tup a1 a2 => exact ⟨_, .inr (.inl ⟨_, SqT.le Le.cutAll a1, rfl⟩), by rw [rpAll_empty a2]; exact k _ n1 H1 hq f1 w1⟩
end
end V3
set_option Elab.async false
set_option linter.all false
set_option maxRecDepth 100000
set_option maxHeartbeats 4000000
/-! while -/
namespace V3
open PySem PySem.Spec PyProof.Rows L2
section
variable {K : PySem.W.Frag} {C : Addr} {TL : List (Addr × Str)} {E : XK}
@[simp ↓] def mWhile (mc : TT3) (mb : TS3) : TS3 := fun F ρ n e => ∃ W : Nat → Ro → Nat → Prop, (∃ m, W m ρ n) ∧ ∀ m ρ n, W m ρ n →
  mc ρ n (fun b n1 => if b = true then mb { F with nx := fun ρ' n' => ∃ m', m' < m ∧ W m' ρ' n', ct := fun ρ' n' => ∃ m', m' < m ∧ W m' ρ' n', bk := F.nx } ρ n1 e else F.nx ρ n1) e
instance {c : TT} {tb : TS} {mc : TT3} {mb : TS3} [hc : LT K C TL E c mc] [hb : LS K C TL E tb mb] : LS K C TL E (tWhile c tb) (mWhile mc mb) where
  s am ρ n σ H D F hE h en hm := by
    obtain ⟨W, ⟨m0, w0⟩, turn⟩ := hm
    refine ⟨fun m σ H => ∃ ρ n, W m ρ n ∧ Rl am ρ n σ H, ⟨m0, ρ, n, w0, h⟩, ?_⟩
    rintro m σ1 H1 ⟨ρ1, n1, w, r⟩
    refine hc.s am ρ1 n1 σ1 H1 hE r _ _ (turn m ρ1 n1 w) fun b n2 H2 hq f1 w1 => ?_
    cases b with
    | true =>
      exact ⟨fun σ' H' => ∃ ρ' n', (∃ m', m' < m ∧ W m' ρ' n') ∧ Rl am ρ' n' σ' H', fun σ' H' ⟨ρ', n', ⟨m', l, w'⟩, r'⟩ => ⟨m', l, ρ', n', w', r'⟩,
        hb.s am ρ1 n2 σ1 H2 _ { F with nx := fun ρ' n' => ∃ m', m' < m ∧ W m' ρ' n', ct := fun ρ' n' => ∃ m', m' < m ∧ W m' ρ' n', bk := F.nx } hE (r.step f1 w1) ⟨fun ρ' n' σ' H' q r' => ⟨ρ', n', q, r'⟩, fun ρ' n' σ' H' q r' => en.nx ρ' n' σ' H' q r', fun ρ' n' σ' H' q r' => ⟨ρ', n', q, r'⟩, en.rt⟩ hq⟩
    | false => exact en.nx ρ1 n2 σ1 H2 hq (r.step f1 w1)
end
end V3
set_option Elab.async false
set_option linter.all false
set_option maxRecDepth 100000
set_option maxHeartbeats 4000000
/-! x += e and x -= e of numbers -/
namespace V3
open PySem PySem.Spec PyProof.Rows L2
section
variable {K : PySem.W.Frag} {C : Addr} {TL : List (Addr × Str)} {E : XK}
@[simp ↓] def mAug (i : Nat) (f : Int → Int → Int) (me : TE3) : TS3 := fun F ρ n e => ask (rdAt ρ i) fun u => askI u fun x => me ρ n (fun _ w n1 => askI w fun y => F.nx (ρ.set i (.fz (.d (.int (f x y))))) n1) e
instance {te : TE} {i : Nat} {f : Int → Int → Int} {S : List Nat} {me : TE3} [he : LE K C TL E te S me] : LS K C TL E (tAug i te (ipI f)) (mAug i f me) where
  s am ρ n σ H D F hE h en hm := by
    obtain ⟨u, e1, h1⟩ := ask_some hm
    obtain ⟨v, q1, r1⟩ := slot_rd h e1
    obtain ⟨x, rfl, rfl, h2⟩ := askI_rep h1 r1
    refine ⟨_, q1, he.s am ρ n σ H hE h _ _ h2 fun fr w n1 v H1 hq f1 w1 r2 => ?_⟩
    obtain ⟨y, rfl, rfl, h3⟩ := askI_rep hq r2.1
    exact ⟨x, y, rfl, rfl, en.nx _ n1 _ H1 h3 ((h.step f1 w1).setFz i (.int _))⟩
end
end V3
set_option Elab.async false
set_option linter.all false
set_option maxRecDepth 100000
set_option maxHeartbeats 4000000
namespace V3
open PySem PySem.Spec PyProof.Rows L2
section
variable {X : Cx}
theorem sortK3 {P : Program} {w : World} (K : PySem.W.Frag) {mg : Str → Option Value} {base : Heap} {k d : Nat} (hd : 1 ≤ d) (hr : Room (k + 1) X.A) (h : X.K = K := by rfl) (h1 : X.prog = P := by rfl) (h2 : X.w = w := by rfl) (h3 : X.mg = mg := by rfl) (h4 : X.base = base := by rfl) :
    CallRK X (.builtin "sorted") ["key"] (GS.rSortK P w K mg base k d) := h ▸ h1 ▸ h2 ▸ h3 ▸ h4 ▸ GS.cr_sortKey hd hr
theorem setL3 (K : PySem.W.Frag) (w : World) (hc : X.calm = true) (h : X.K = K := by rfl) (h2 : X.w = w := by rfl) : CallR X (.type "set") (GS.rSetL K w) := h ▸ h2 ▸ GS.cr_setL hc
theorem sortedSet3 (w : World) (hc : X.calm = true) (h2 : X.w = w := by rfl) : CallR X (.builtin "sorted") (rSortedSet w) := h2 ▸ cr_sortedSet hc
theorem idx3 (K : PySem.W.Frag) (h : X.K = K := by rfl) : MtR X "list.index" (rIndex K) := h ▸ mt_index
end
section
variable {K : PySem.W.Frag} {C : Addr} {TL : List (Addr × Str)} {E : XK}
instance : LE K C TL E tDNewK [] mDnew where
  s am ρ n σ H hE h Q q hm k := fun p hp => by
    obtain ⟨f2, w2⟩ := fresh_step h hp (.dK [])
    exact k _ _ n _ _ hm f2 w2 (.old (Rp.dnil (cut_new h [] hp _)))
/-! ### sorted(xs, key = f), f a lambda that makes tuples of ints -/
def spKeyD (K : PySem.W.Frag) (dom : D → Prop) (kz : D → List Int) : Sp := fun vs H Q _ => ∃ (v : V) (x : D), vs = [v] ∧ dom x ∧ Rp K H v x ∧ ∀ t, H t = none → Q (.ref t) (upd H t (.tup ((kz x).map V.int)))
def isTup : D → Bool
  | .tuple _ => true
  | _ => false
@[simp] theorem isTup_t (xs : List D) : isTup (.tuple xs) = true := rfl
@[simp ↓] def mSortK (P : Program) (w : World) (K : PySem.W.Frag) (mg : Str → Option Value) (base : Heap) (k d : Nat) (qn : Str) (params : Arguments) (body : Expr) (scope : Scope) (me : TE3) : TE3 := fun ρ n q e => me ρ n (fun _ u n1 => askL u fun xs => ∃ (dom : D → Prop) (kz : D → List Int),
  GS.LamRun P w K mg base CX0 k qn params body scope 1 (spKeyD K dom kz) ∧ (∀ x ∈ xs, dom x ∧ (kz x).length = d ∧ isTup x = true) ∧ ∀ ys : List D, ys.Perm xs → q true (.d (.list ys)) n1) e
theorem rp_perm {K : PySem.W.Frag} {H : Hp} {vs ws : List V} (p : ws.Perm vs) : ∀ {ds : List D}, RpAll K H vs ds → ∃ es : List D, es.Perm ds ∧ RpAll K H ws es := by
  induction p with
  | nil => exact fun r => ⟨_, .refl _, r⟩
  | cons x _ ih =>
    intro ds r
    cases r with
    | cons r1 r2 =>
      obtain ⟨es, e1, e2⟩ := ih r2
      exact ⟨_ :: es, e1.cons _, .cons r1 e2⟩
  | swap x y l =>
    intro ds r
    cases r with
    | cons r1 r2 =>
      cases r2 with
      | cons r3 r4 => exact ⟨_, .swap _ _ _, .cons r3 (.cons r1 r4)⟩
  | trans _ _ ih1 ih2 =>
    intro ds r
    obtain ⟨es, e1, e2⟩ := ih2 r
    obtain ⟨fs, f1, f2⟩ := ih1 e2
    exact ⟨fs, f1.trans e1, f2⟩
theorem rp_mem {K : PySem.W.Frag} {H : Hp} : ∀ {vs : List V} {ds : List D} {v : V}, RpAll K H vs ds → v ∈ vs → ∃ x ∈ ds, Rp K H v x
  | _, [], _, h, m => by
    cases h
    cases m
  | _, d :: ds, v, h, m => by
    cases h with
    | cons h1 h2 =>
      rcases List.mem_cons.mp m with z | z
      · exact ⟨d, List.mem_cons_self .., z ▸ h1⟩
      · obtain ⟨x, q1, q2⟩ := rp_mem h2 z
        exact ⟨x, List.mem_cons_of_mem _ q1, q2⟩
open Classical in
instance (priority := high) {P : Program} {w : World} {mg : Str → Option Value} {base : Heap} {k d : Nat} {qn : Str} {params : Arguments} {body : Expr} {scope : Scope} {te : TE} {S : List Nat} {me : TE3} [he : LE K C TL E te S me] :
    LE K C TL E (tCKw (GS.rSortK P w K mg base k d) (tCons te tNil) (tCons (GS.tLamV TL qn params body scope) tNil)) S (mSortK P w K mg base k d qn params body scope me) where
  s am ρ n σ H hE h Q q hm kk := by
    obtain ⟨rfl, rfl, rfl, rfl⟩ := id hE
    refine he.s am ρ n σ H hE h _ _ hm fun fr u n1 v H1 hq f1 w1 r1 => ?_
    have h1 := h.step f1 w1
    obtain ⟨xs, a, vs, rfl, rfl, a1, a2, dom, kz, run, hdom, hq⟩ := askL_rep hq r1.1
    refine ⟨h1.wd.tabs, fun H2 f c' ext tabs hf hc => ?_⟩
    have le12 : Le H1 H2 := fun b o t e => ext b o e t
    have hc2 : ∀ (o : HO), Le H1 (upd H2 f o) := fun o => le12.trans (Le.of (same_new hf))
    have cutle : ∀ (O : Addr → Prop) (o : HO), Le (cut O H1) (cut O (upd H2 f o)) := fun O o => Le.cut (fun a z => .inl z) fun a o' _ t e => hc2 o a o' t e
    let kv : V → D := fun v => if g : ∃ x ∈ xs, Rp am.K (cut (Hid am (dem S ρ) σ) H1) v x then choose g else .none
    have kvs : ∀ v ∈ vs, kv v ∈ xs ∧ Rp am.K (cut (Hid am (dem S ρ) σ) H1) v (kv v) := fun v hv => by
      have g := rp_mem a2 hv
      have e : kv v = choose g := dif_pos g
      rw [e]
      exact ⟨(choose_spec g).1, (choose_spec g).2⟩
    refine ⟨a, f, c', qn, params, body, scope, vs, fun v => kz (kv v), spKeyD am.K dom kz, rfl, rfl, SqL.of ?_, fun v hv => ?_, upd_same, same_new hf _ _ hc, run, fun v hv => ?_, fun ys p H3 s3 hp perm _ => ?_⟩
    · exact hc2 _ _ _ (fun ps z => by cases z) (cut_some.mp a1).2
    · obtain ⟨m1, m2⟩ := kvs v hv
      obtain ⟨_, _, it⟩ := hdom _ m1
      cases e : kv v with
      | tuple ds =>
        rw [e] at m2
        cases m2
        exact ⟨_, rfl⟩
      | _ =>
        rw [e] at it
        cases it
    · obtain ⟨m1, m2⟩ := kvs v hv
      obtain ⟨d1, d2, _⟩ := hdom _ m1
      refine ⟨d2, fun H4 s4 => ⟨v, kv v, rfl, d1, ?_, fun t ht => ⟨t, rfl, same_new ht, upd_same⟩⟩⟩
      exact Rp.le (Le.cutAll.trans ((hc2 _).trans (Le.of s4))) _ _ m2
    · have f4 : FrR am.R H1 (upd H3 p (.lst ys)) := .le ((hc2 _).trans ((Le.of s3).trans (Le.of (same_new hp))))
      have w4 : Wd am.R am.TL (upd H3 p (.lst ys)) n1 := {
        hid := fun a z => ((hc2 _).trans ((Le.of s3).trans (Le.of (same_new hp)))).there (w1.hid a z)
        tabs := (tabs.ext (same_new hf)).ext fun b o e => same_new hp b o (s3 b o e)
        dr := fun d g c q => by
          obtain ⟨b1, b2, b3, t, b4, b5⟩ := w1.dr d g c q
          obtain ⟨gs, cs, m, c1, c2, c3, r⟩ := b5
          have kp := (hc2 (GS.LamO c' qn params body scope f)).trans ((Le.of s3).trans (Le.of (same_new (o := .lst ys) hp)))
          exact ⟨b1, b2, b3, t, b4, gs, cs, m, kp _ _ (fun ps z => by cases z) c1, kp _ _ (fun ps z => by cases z) c2, kp _ _ (fun ps z => by cases z) c3, r⟩ }
      obtain ⟨es, e1, e2⟩ := rp_perm perm a2
      have np : New H1 p := fun ⟨o, q1, q2⟩ => by
        have z := s3 _ _ (hc2 _ _ _ q2 q1)
        rw [hp] at z
        cases z
      have no : ¬ Hid am (dem S ρ) σ p := (h1.dem S).new np
      have L : Le (cut (Hid am (dem S ρ) σ) H1) (cut (Hid am (dem S ρ) σ) (upd H3 p (.lst ys))) := Le.cut (fun a z => .inl z) fun a o' _ t e => same_new hp _ _ (s3 _ _ (hc2 _ _ _ t e))
      refine kk _ _ n1 _ _ (hq es e1) (f1.trans f4) w4 (RepV.back h f1 h1 ⟨Rp.lst (cut_some.mpr ⟨no, upd_same⟩) (RpAll.le L _ _ e2), fun _ => ⟨p, ys, es, rfl, rfl, np, upd_same, ?_⟩⟩)
      refine RpAll.le (Le.cut (fun a z => ?_) fun a o' _ t e => same_new hp _ _ (s3 _ _ (hc2 _ _ _ t e))) _ _ e2
      rcases z with z | z
      · exact .inr (z ▸ np)
      · exact .inl z
end
end V3
set_option Elab.async false
set_option linter.all false
set_option maxRecDepth 100000
set_option maxHeartbeats 4000000
/-! isinstance(_law_caught(lambda: a call), X), told by values -/
namespace V3
open PySem PySem.Spec PyProof.Rows L2 G21
/-- what is known of a class of refusals -/
class ExcF (K : PySem.W.Frag) (CS X : Addr) : Prop where
  x : ExcC K X
  kit : PySem.W.kitOne K (.ref X) (.ref X) = some true
  exm : PySem.W.exmOne K (.ref X) (.ref CS) = some true
@[simp] def Sl.frz : Sl → Sl
  | .no => .no
  | .fz (.d x) => .fz (.d x)
  | .fz (.dw xs) => .fz (.dw xs)
  | .fz (.tb f ns) => .fz (.tb f ns)
  | .fz (.ob fs) => .fz (.ob fs)
  | .fz .dr => .no
  | .ow ds => .fz (.d (.list ds))
@[simp] def frzRo : Ro → Ro
  | [] => []
  | s :: ρ => s.frz :: frzRo ρ
theorem frz_get : ∀ (ρ : Ro) (i : Nat), (frzRo ρ)[i]? = (ρ[i]?).map Sl.frz
  | [], i => by simp
  | s :: ρ, 0 => by simp
  | s :: ρ, i + 1 => by simp [frz_get ρ i]
theorem frz_len : ∀ ρ : Ro, (frzRo ρ).length = ρ.length
  | [] => rfl
  | s :: ρ => by simp [frz_len ρ]
@[simp ↓] def mCaught (X : Addr) (me : TE3) : TE3 := fun ρ n q _ => me (frzRo ρ) n (fun _ _ _ => False) (fun c => c = X ∧ q false (.d (.bool true)) n)
theorem frz_ow {s : Sl} {ds : List D} : s.frz ≠ .ow ds := by
  cases s with
  | no => intro z; cases z
  | fz u => cases u <;> (intro z; cases z)
  | ow ds => intro z; cases z
section
variable {K : PySem.W.Frag} {C : Addr} {TL : List (Addr × Str)} {E : XK}
instance (priority := high) {CS X : Addr} {t : XK → TE} {S : List Nat} {me : TE3} [hf : ExcF K CS X] [ht : ∀ E' : XK, LE K C TL E' (t E') S me] : LE K C TL E (tCB (rIsT K) (tCons (LamX.tLam TL (TTc K CS) t) (tCons (tC (.ref X)) tNil))) [] (mCaught X me) where
  s am ρ n σ H hE h Q q hm k := by
    obtain ⟨rfl, rfl, rfl, rfl⟩ := id hE
    refine ⟨h.wd.tabs, fun H1 eN T1 => ?_⟩
    let S0 := List.range ρ.length
    have hd := h.dem S0
    have low : ∀ a, ¬ ∃ i, OwnAt (frzRo ρ) σ i a := fun a ⟨i, ⟨ds, e⟩, _⟩ => by
      rw [frz_get] at e
      cases z : ρ[i]? with
      | none =>
        rw [z] at e
        cases e
      | some s =>
        rw [z] at e
        exact frz_ow (Option.some.inj e)
    let E1 : XK := fun cls d H' => d = none ∧ PySem.W.exmOne am.K cls (.ref CS) = some true ∧ ∀ a, H' a = none → (tCons (tC (.ref X)) tNil) σ (upd H' a (GS.ExT cls a)) (fun xs H2 => rIsT am.K (.ref a :: xs) H2 Q)
    let R1 : RR := { dr := none, hid := am.R.hid }
    let am1 : Am := { am with R := R1, Hs := H1, O0 := fun _ => False, E := E1, e := fun c => c = X ∧ q false (.d (.bool true)) n }
    have st1 : ∀ b o, (∀ ps, o ≠ HO.tbl ps) → H b = some o → H1 b = some o := fun b o z e => eN b o e z
    have w1 : Wd am1.R am1.TL H1 n := {
      hid := fun a z => by
        obtain ⟨o, q1, q2⟩ := h.wd.hid a z
        exact ⟨o, st1 a o q2 q1, q2⟩
      tabs := T1
      dr := fun d g c z => by cases z }
    have lec : Le (cut (Hid am (dem S0 ρ) σ) H) (cut (Hid am1 (frzRo ρ) σ) H1) := Le.cut (fun a z => by
      rcases z with z | z
      · exact .inl (.inl z)
      · exact absurd z (low a)) fun a o _ t e => st1 a o t e
    have r1 : Rl am1 (frzRo ρ) n σ H1 := {
      len := by rw [frz_len, h.len]
      fz := fun i u e => by
        rw [frz_get] at e
        cases z : ρ[i]? with
        | none =>
          rw [z] at e
          cases e
        | some s =>
          rw [z] at e
          have e := Option.some.inj e
          have hi : i ∈ S0 := List.mem_range.mpr (List.getElem?_eq_some_iff.mp z).1
          have ez : (dem S0 ρ)[i]? = some s.fzd := by
            rw [dem_get, z]
            show some (if i ∈ S0 then s.fzd else s) = _
            rw [if_pos hi]
          cases s with
          | no => cases e
          | fz u' =>
            obtain ⟨v, q1, q2⟩ := hd.fz i u' ez
            cases u' with
            | d x =>
              cases e
              exact ⟨v, q1, Rp.le lec _ _ q2⟩
            | dw xs =>
              cases e
              obtain ⟨f, a, dx, t, h1, h2, h3⟩ := q2
              exact ⟨v, q1, f, a, dx, t, h1, lec _ _ (fun ps => by intro z; cases z) h2, Rp.le lec _ _ h3⟩
            | tb f ns =>
              cases e
              obtain ⟨a, kvs, h1, h2, h3⟩ := q2
              exact ⟨v, q1, a, kvs, h1, lec _ _ (fun ps => by intro z; cases z) h2, h3⟩
            | ob fs =>
              cases e
              obtain ⟨f, a, dx, vs, h1, h2, h3⟩ := q2
              exact ⟨v, q1, f, a, dx, vs, h1, lec _ _ (fun ps => by intro z; cases z) h2, h3.le lec⟩
            | dr => cases e
          | ow ds =>
            cases e
            obtain ⟨v, q1, q2⟩ := hd.fz i (.d (.list ds)) ez
            exact ⟨v, q1, Rp.le lec _ _ q2⟩
      ow := fun i ds e => by
        rw [frz_get] at e
        cases z : ρ[i]? with
        | none =>
          rw [z] at e
          cases e
        | some s =>
          rw [z] at e
          exact absurd (Option.some.inj e) frz_ow
      nd := fun i j p a _ => absurd ⟨i, a⟩ (low p)
      od := fun d g c z => by cases z
      gr := ⟨fun b o _ _ e => e, fun b z => z⟩
      wd := w1
      ex := fun c H' n' g w ⟨z, hq⟩ => by
        subst z
        refine ⟨rfl, hf.exm, fun a ha => ?_⟩
        have sm : Same H' (upd H' a (GS.ExT (.ref c) a)) := same_new ha
        refine ⟨a, c, c, true, rfl, hf.x, upd_same, hf.kit, ?_⟩
        have st : ∀ b o, (∀ ps, o ≠ HO.tbl ps) → H b = some o → upd H' a (GS.ExT (.ref c) a) b = some o := fun b o t e => sm _ _ (g.1 b o (fun z => z) t (st1 b o t e))
        have w2 := w.same sm
        refine k false (.d (.bool true)) n (.bl true) _ hq ⟨fun b o _ t e => st b o t e, fun b ⟨o, e, t⟩ => ⟨o, st b o t e, t⟩⟩ ⟨w2.hid, w2.tabs, fun d g' c' z => ?_⟩ (.old (Rp.bl true))
        obtain ⟨a1, a2, a3, t, ht, hD⟩ := h.wd.dr d g' c' z
        refine ⟨a1, a2, a3, t, ht, ?_⟩
        obtain ⟨gs, cs, m, z1, z2, z3, r⟩ := hD
        exact ⟨gs, cs, m, st _ _ (fun ps => by intro z; cases z) z1, st _ _ (fun ps => by intro z; cases z) z2, st _ _ (fun ps => by intro z; cases z) z3, r⟩ }
    exact (ht E1).s am1 (frzRo ρ) n σ H1 ⟨rfl, rfl, rfl, rfl⟩ r1 _ (fun _ _ _ => False) hm fun fr u n' v H' z _ _ _ => z.elim
end
end V3
set_option Elab.async false
set_option linter.all false
set_option maxRecDepth 100000
set_option maxHeartbeats 4000000
/-! isinstance(_law_caught(lambda: f(..)), X), where the arguments may draw -/
namespace V3
open PySem PySem.Spec PyProof.Rows L2 G21
@[simp] def Sl.frd : Sl → Sl
  | .no => .no
  | .fz (.d x) => .fz (.d x)
  | .fz (.dw xs) => .fz (.dw xs)
  | .fz (.tb f ns) => .fz (.tb f ns)
  | .fz (.ob fs) => .fz (.ob fs)
  | .fz .dr => .fz .dr
  | .ow ds => .fz (.d (.list ds))
@[simp] def frdRo : Ro → Ro
  | [] => []
  | s :: ρ => s.frd :: frdRo ρ
theorem frd_get : ∀ (ρ : Ro) (i : Nat), (frdRo ρ)[i]? = (ρ[i]?).map Sl.frd
  | [], i => by simp
  | s :: ρ, 0 => by simp
  | s :: ρ, i + 1 => by simp [frd_get ρ i]
theorem frd_len : ∀ ρ : Ro, (frdRo ρ).length = ρ.length
  | [] => rfl
  | s :: ρ => by simp [frd_len ρ]
theorem frd_ow {s : Sl} {ds : List D} : s.frd ≠ .ow ds := by
  cases s with
  | no => intro z; cases z
  | fz u => cases u <;> (intro z; cases z)
  | ow ds => intro z; cases z
@[simp] def noDr : List U → Bool
  | [] => true
  | .d _ :: us => noDr us
  | .dw _ :: us => noDr us
  | .tb _ _ :: us => noDr us
  | .ob _ :: us => noDr us
  | .dr :: _ => false
theorem rep_noDr {am am2 : Am} (hK : am.K = am2.K) (hC : am.C = am2.C) {O : Addr → Prop} {H : Hp} : ∀ {us : List U} {vs : List V}, noDr us = true → RepA am O H vs us → RepA am2 O H vs us
  | [], _, _, .nil => .nil
  | .d x :: us, _, h, .cons r t => .cons (by
      have r : Rp am.K (cut O H) _ x := r
      show Rp am2.K (cut O H) _ x
      rw [← hK]
      exact r) (rep_noDr hK hC h t)
  | .dw bs :: us, _, h, .cons r t => .cons (by
      obtain ⟨f, a, dx, t, h1, h2, h3⟩ := r
      exact ⟨f, a, dx, t, h1, by rw [← hC]; exact h2, by rw [← hK]; exact h3⟩) (rep_noDr hK hC h t)
  | .tb f ns :: us, _, h, .cons r t => .cons (by
      obtain ⟨a, kvs, h1, h2, h3⟩ := r
      exact ⟨a, kvs, h1, h2, h3⟩) (rep_noDr hK hC h t)
  | .dr :: _, _, h, _ => by cases h
  | .ob fs :: us, _, h, .cons r t => .cons (by
      obtain ⟨f, a, dx, vs, h1, h2, h3⟩ := r
      exact ⟨f, a, dx, vs, h1, by rw [← hC]; exact h2, by rw [← hK]; exact h3⟩) (rep_noDr hK hC h t)
@[simp ↓] def mCaughtC (X : Addr) (sp : VSp) (ma : TA3) : TE3 := fun ρ n q _ => ma (frdRo ρ) n (fun us n1 => noDr us = true ∧ sp us n1 (fun _ _ => False) (fun c => c = X ∧ q false (.d (.bool true)) n1)) (fun _ => False)
section
variable {K : PySem.W.Frag} {C : Addr} {TL : List (Addr × Str)} {E : XK}
instance (priority := high + 1) {CS X : Addr} {ta : XK → TA} {S : List Nat} {ma : TA3} {fr : Bool} {sp : VSp} [hf : ExcF K CS X] [ht : ∀ E' : XK, LA K C TL E' (ta E') S ma] : LE K C TL E (tCB (rIsT K) (tCons (LamX.tLam TL (TTc K CS) (fun E' => tCall (toSp K C TL fr sp) [] E' (ta E'))) (tCons (tC (.ref X)) tNil))) [] (mCaughtC X sp ma) where
  s am ρ n σ H hE h Q q hm k := by
    obtain ⟨rfl, rfl, rfl, rfl⟩ := id hE
    refine ⟨h.wd.tabs, fun H1 eN T1 => ?_⟩
    let S0 := List.range ρ.length
    have hd := h.dem S0
    have low : ∀ a, ¬ ∃ i, OwnAt (frdRo ρ) σ i a := fun a ⟨i, ⟨ds, e⟩, _⟩ => by
      rw [frd_get] at e
      cases z : ρ[i]? with
      | none =>
        rw [z] at e
        cases e
      | some s =>
        rw [z] at e
        exact frd_ow (Option.some.inj e)
    let E1 : XK := fun cls d H' => d = none ∧ PySem.W.exmOne am.K cls (.ref CS) = some true ∧ ∀ a, H' a = none → (tCons (tC (.ref X)) tNil) σ (upd H' a (GS.ExT cls a)) (fun xs H2 => rIsT am.K (.ref a :: xs) H2 Q)
    let am1 : Am := { am with Hs := H1, O0 := fun a => ∃ d g c, am.R.dr = some (d, g, c) ∧ (a = d ∨ a = g), E := E1, e := fun _ => False }
    have st1 : ∀ b o, (∀ ps, o ≠ HO.tbl ps) → H b = some o → H1 b = some o := fun b o z e => eN b o e z
    have w1 : Wd am1.R am1.TL H1 n := {
      hid := fun a z => by
        obtain ⟨o, q1, q2⟩ := h.wd.hid a z
        exact ⟨o, st1 a o q2 q1, q2⟩
      tabs := T1
      dr := fun d g c z => by
        obtain ⟨a1, a2, a3, t, ht, hD⟩ := h.wd.dr d g c z
        refine ⟨a1, a2, a3, t, ht, ?_⟩
        obtain ⟨gs, cs, m, z1, z2, z3, r⟩ := hD
        exact ⟨gs, cs, m, st1 _ _ (fun ps => by intro z; cases z) z1, st1 _ _ (fun ps => by intro z; cases z) z2, st1 _ _ (fun ps => by intro z; cases z) z3, r⟩ }
    have lec : Le (cut (Hid am (dem S0 ρ) σ) H) (cut (Hid am1 (frdRo ρ) σ) H1) := Le.cut (fun a z => by
      rcases z with z | z
      · exact .inl (.inl z)
      · exact absurd z (low a)) fun a o _ t e => st1 a o t e
    have r1 : Rl am1 (frdRo ρ) n σ H1 := {
      len := by rw [frd_len, h.len]
      fz := fun i u e => by
        rw [frd_get] at e
        cases z : ρ[i]? with
        | none =>
          rw [z] at e
          cases e
        | some s =>
          rw [z] at e
          have e := Option.some.inj e
          have hi : i ∈ S0 := List.mem_range.mpr (List.getElem?_eq_some_iff.mp z).1
          have ez : (dem S0 ρ)[i]? = some s.fzd := by
            rw [dem_get, z]
            show some (if i ∈ S0 then s.fzd else s) = _
            rw [if_pos hi]
          cases s with
          | no => cases e
          | fz u' =>
            obtain ⟨v, q1, q2⟩ := hd.fz i u' ez
            cases u' with
            | d x =>
              cases e
              exact ⟨v, q1, Rp.le lec _ _ q2⟩
            | dw xs =>
              cases e
              obtain ⟨f, a, dx, t, h1, h2, h3⟩ := q2
              exact ⟨v, q1, f, a, dx, t, h1, lec _ _ (fun ps => by intro z; cases z) h2, Rp.le lec _ _ h3⟩
            | tb f ns =>
              cases e
              obtain ⟨a, kvs, h1, h2, h3⟩ := q2
              exact ⟨v, q1, a, kvs, h1, lec _ _ (fun ps => by intro z; cases z) h2, h3⟩
            | ob fs =>
              cases e
              obtain ⟨f, a, dx, vs, h1, h2, h3⟩ := q2
              exact ⟨v, q1, f, a, dx, vs, h1, lec _ _ (fun ps => by intro z; cases z) h2, h3.le lec⟩
            | dr =>
              cases e
              exact ⟨v, q1, q2⟩
          | ow ds =>
            cases e
            obtain ⟨v, q1, q2⟩ := hd.fz i (.d (.list ds)) ez
            exact ⟨v, q1, Rp.le lec _ _ q2⟩
      ow := fun i ds e => by
        rw [frd_get] at e
        cases z : ρ[i]? with
        | none =>
          rw [z] at e
          cases e
        | some s =>
          rw [z] at e
          exact absurd (Option.some.inj e) frd_ow
      nd := fun i j p a _ => absurd ⟨i, a⟩ (low p)
      od := fun d g c z => ⟨⟨d, g, c, z, .inl rfl⟩, d, g, c, z, .inr rfl⟩
      gr := ⟨fun b o _ _ e => e, fun b z => z⟩
      wd := w1
      ex := fun c H' n' g w z => z.elim }
    refine (ht E1).s am1 (frdRo ρ) n σ H1 ⟨rfl, rfl, rfl, rfl⟩ r1 _ _ hm fun us n1 vs H2 hq f2 w2 r2 => ?_
    obtain ⟨nd, hsp⟩ := hq
    show toSp am.K am.C am.TL fr sp (vs ++ []) H2 _ E1
    rw [List.append_nil]
    let am2 : Am := { am with R := { dr := none, hid := am.R.hid } }
    have r3 : RepA am1 am.R.hid H2 vs us := r2.le (Le.cutSub fun a z => .inl z)
    refine ⟨am2, us, n1, _, _, rfl, rfl, rfl, rep_noDr (am := am1) (am2 := am2) rfl rfl nd r3, ⟨w2.hid, w2.tabs, fun d g c z => by cases z⟩, hsp, (fun _ _ _ _ z => z.elim), fun c H' n' f w z => ?_⟩
    obtain ⟨z, hq⟩ := z
    subst z
    refine ⟨rfl, hf.exm, fun a ha => ?_⟩
    have sm : Same H' (upd H' a (GS.ExT (.ref c) a)) := same_new ha
    refine ⟨a, c, c, true, rfl, hf.x, upd_same, hf.kit, ?_⟩
    have st2 : ∀ b o, (∀ ps, o ≠ HO.tbl ps) → H2 b = some o → upd H' a (GS.ExT (.ref c) a) b = some o := fun b o t e => sm _ _ (f.1 b o (fun d g c z => by cases z) t e)
    have fr2 : FrR am.R H2 (upd H' a (GS.ExT (.ref c) a)) := ⟨fun b o _ t e => st2 b o t e, fun b ⟨o, e, t⟩ => ⟨o, st2 b o t e, t⟩⟩
    have fr1 : FrR am.R H H1 := ⟨fun b o _ t e => st1 b o t e, fun b ⟨o, e, t⟩ => ⟨o, st1 b o t e, t⟩⟩
    have w4 := w.same sm
    refine k false (.d (.bool true)) n1 (.bl true) _ hq ((fr1.trans f2).trans fr2) ⟨w4.hid, w4.tabs, fun d g' c' z => ?_⟩ (.old (Rp.bl true))
    obtain ⟨a1, a2, a3, t, ht, hD⟩ := w2.dr d g' c' z
    refine ⟨a1, a2, a3, t, ht, ?_⟩
    obtain ⟨gs, cs, m, z1, z2, z3, r⟩ := hD
    exact ⟨gs, cs, m, st2 _ _ (fun ps => by intro z; cases z) z1, st2 _ _ (fun ps => by intro z; cases z) z2, st2 _ _ (fun ps => by intro z; cases z) z3, r⟩
end
end V3
set_option Elab.async false
set_option linter.all false
set_option maxRecDepth 100000
set_option maxHeartbeats 4000000
/-! isinstance(_law_caught(lambda: f(..)), X), where f may come back; isinstance(x, Drawing) of data -/
namespace V3
open PySem PySem.Spec PyProof.Rows L2 G21
@[simp ↓] def mCaughtN (X : Addr) (sp : VSp) (ma : TA3) : TE3 := fun ρ n q _ => ma (frdRo ρ) n (fun us n1 => noDr us = true ∧ sp us n1 (fun _ _ => q false (.d (.bool false)) n1) (fun c => c = X ∧ q false (.d (.bool true)) n1)) (fun _ => False)
class ExcN (K : PySem.W.Frag) (X : Addr) : Prop where
  n : PySem.W.kitOne K (.type "NoneType") (.ref X) = some false
def rIsTU (K : PySem.W.Frag) : List V → Hp → VK → Prop := fun xs H Q => rIsT K xs H Q ∨ rIsi K xs H Q
theorem isTU3 {X : Cx} (K : PySem.W.Frag) (h : X.K = K := by rfl) : CallR X (.builtin "isinstance") (rIsTU K) := by
  subst h
  exact call_or call_isT call_isi
section
variable {K : PySem.W.Frag} {C : Addr} {TL : List (Addr × Str)} {E : XK}
instance (priority := high + 1) {CS X : Addr} {ta : XK → TA} {S : List Nat} {ma : TA3} {fr : Bool} {sp : VSp} [hf : ExcF K CS X] [hn : ExcN K X] [ht : ∀ E' : XK, LA K C TL E' (ta E') S ma] : LE K C TL E (tCB (rIsTU K) (tCons (LamX.tLam TL (TTc K CS) (fun E' => tCall (toSp K C TL fr sp) [] E' (ta E'))) (tCons (tC (.ref X)) tNil))) [] (mCaughtN X sp ma) where
  s am ρ n σ H hE h Q q hm k := by
    obtain ⟨rfl, rfl, rfl, rfl⟩ := id hE
    refine ⟨h.wd.tabs, fun H1 eN T1 => ?_⟩
    let S0 := List.range ρ.length
    have hd := h.dem S0
    have low : ∀ a, ¬ ∃ i, OwnAt (frdRo ρ) σ i a := fun a ⟨i, ⟨ds, e⟩, _⟩ => by
      rw [frd_get] at e
      cases z : ρ[i]? with
      | none =>
        rw [z] at e
        cases e
      | some s =>
        rw [z] at e
        exact frd_ow (Option.some.inj e)
    let E1 : XK := fun cls d H' => d = none ∧ PySem.W.exmOne am.K cls (.ref CS) = some true ∧ ∀ a, H' a = none → (tCons (tC (.ref X)) tNil) σ (upd H' a (GS.ExT cls a)) (fun xs H2 => rIsTU am.K (.ref a :: xs) H2 Q)
    let am1 : Am := { am with Hs := H1, O0 := fun a => ∃ d g c, am.R.dr = some (d, g, c) ∧ (a = d ∨ a = g), E := E1, e := fun _ => False }
    have st1 : ∀ b o, (∀ ps, o ≠ HO.tbl ps) → H b = some o → H1 b = some o := fun b o z e => eN b o e z
    have w1 : Wd am1.R am1.TL H1 n := {
      hid := fun a z => by
        obtain ⟨o, q1, q2⟩ := h.wd.hid a z
        exact ⟨o, st1 a o q2 q1, q2⟩
      tabs := T1
      dr := fun d g c z => by
        obtain ⟨a1, a2, a3, t, ht, hD⟩ := h.wd.dr d g c z
        refine ⟨a1, a2, a3, t, ht, ?_⟩
        obtain ⟨gs, cs, m, z1, z2, z3, r⟩ := hD
        exact ⟨gs, cs, m, st1 _ _ (fun ps => by intro z; cases z) z1, st1 _ _ (fun ps => by intro z; cases z) z2, st1 _ _ (fun ps => by intro z; cases z) z3, r⟩ }
    have lec : Le (cut (Hid am (dem S0 ρ) σ) H) (cut (Hid am1 (frdRo ρ) σ) H1) := Le.cut (fun a z => by
      rcases z with z | z
      · exact .inl (.inl z)
      · exact absurd z (low a)) fun a o _ t e => st1 a o t e
    have r1 : Rl am1 (frdRo ρ) n σ H1 := {
      len := by rw [frd_len, h.len]
      fz := fun i u e => by
        rw [frd_get] at e
        cases z : ρ[i]? with
        | none =>
          rw [z] at e
          cases e
        | some s =>
          rw [z] at e
          have e := Option.some.inj e
          have hi : i ∈ S0 := List.mem_range.mpr (List.getElem?_eq_some_iff.mp z).1
          have ez : (dem S0 ρ)[i]? = some s.fzd := by
            rw [dem_get, z]
            show some (if i ∈ S0 then s.fzd else s) = _
            rw [if_pos hi]
          cases s with
          | no => cases e
          | fz u' =>
            obtain ⟨v, q1, q2⟩ := hd.fz i u' ez
            cases u' with
            | d x =>
              cases e
              exact ⟨v, q1, Rp.le lec _ _ q2⟩
            | dw xs =>
              cases e
              obtain ⟨f, a, dx, t, h1, h2, h3⟩ := q2
              exact ⟨v, q1, f, a, dx, t, h1, lec _ _ (fun ps => by intro z; cases z) h2, Rp.le lec _ _ h3⟩
            | tb f ns =>
              cases e
              obtain ⟨a, kvs, h1, h2, h3⟩ := q2
              exact ⟨v, q1, a, kvs, h1, lec _ _ (fun ps => by intro z; cases z) h2, h3⟩
            | ob fs =>
              cases e
              obtain ⟨f, a, dx, vs, h1, h2, h3⟩ := q2
              exact ⟨v, q1, f, a, dx, vs, h1, lec _ _ (fun ps => by intro z; cases z) h2, h3.le lec⟩
            | dr =>
              cases e
              exact ⟨v, q1, q2⟩
          | ow ds =>
            cases e
            obtain ⟨v, q1, q2⟩ := hd.fz i (.d (.list ds)) ez
            exact ⟨v, q1, Rp.le lec _ _ q2⟩
      ow := fun i ds e => by
        rw [frd_get] at e
        cases z : ρ[i]? with
        | none =>
          rw [z] at e
          cases e
        | some s =>
          rw [z] at e
          exact absurd (Option.some.inj e) frd_ow
      nd := fun i j p a _ => absurd ⟨i, a⟩ (low p)
      od := fun d g c z => ⟨⟨d, g, c, z, .inl rfl⟩, d, g, c, z, .inr rfl⟩
      gr := ⟨fun b o _ _ e => e, fun b z => z⟩
      wd := w1
      ex := fun c H' n' g w z => z.elim }
    refine (ht E1).s am1 (frdRo ρ) n σ H1 ⟨rfl, rfl, rfl, rfl⟩ r1 _ _ hm fun us n1 vs H2 hq f2 w2 r2 => ?_
    obtain ⟨nd, hsp⟩ := hq
    show toSp am.K am.C am.TL fr sp (vs ++ []) H2 _ E1
    rw [List.append_nil]
    let am2 : Am := { am with R := { dr := none, hid := am.R.hid } }
    have r3 : RepA am1 am.R.hid H2 vs us := r2.le (Le.cutSub fun a z => .inl z)
    have fr1 : FrR am.R H H1 := ⟨fun b o _ t e => st1 b o t e, fun b ⟨o, e, t⟩ => ⟨o, st1 b o t e, t⟩⟩
    refine ⟨am2, us, n1, _, _, rfl, rfl, rfl, rep_noDr (am := am1) (am2 := am2) rfl rfl nd r3, ⟨w2.hid, w2.tabs, fun d g c z => by cases z⟩, hsp, (fun u n' v H' hq f w _ => ?_), fun c H' n' f w z => ?_⟩
    · have st2 : ∀ b o, (∀ ps, o ≠ HO.tbl ps) → H2 b = some o → H' b = some o := fun b o t e => f.1 b o (fun d g c z => by cases z) t e
      have fr2 : FrR am.R H2 H' := ⟨fun b o _ t e => st2 b o t e, fun b ⟨o, e, t⟩ => ⟨o, st2 b o t e, t⟩⟩
      refine ⟨V.non, rfl, .inr ⟨.non, .ref X, .type "NoneType", .ref X, false, rfl, .own X, ty_rep (am := am) (O := fun _ => False) (H := H') (x := .none) Rp.non, hn.n, ?_⟩⟩
      refine k false (.d (.bool false)) n1 (.bl false) _ hq ((fr1.trans f2).trans fr2) ⟨w.hid, w.tabs, fun d g' c' z => ?_⟩ (.old (Rp.bl false))
      obtain ⟨a1, a2, a3, t, ht, hD⟩ := w2.dr d g' c' z
      refine ⟨a1, a2, a3, t, ht, ?_⟩
      obtain ⟨gs, cs, m, z1, z2, z3, r⟩ := hD
      exact ⟨gs, cs, m, st2 _ _ (fun ps => by intro z; cases z) z1, st2 _ _ (fun ps => by intro z; cases z) z2, st2 _ _ (fun ps => by intro z; cases z) z3, r⟩
    obtain ⟨z, hq⟩ := z
    subst z
    refine ⟨rfl, hf.exm, fun a ha => ?_⟩
    have sm : Same H' (upd H' a (GS.ExT (.ref c) a)) := same_new ha
    refine .inl ⟨a, c, c, true, rfl, hf.x, upd_same, hf.kit, ?_⟩
    have st2 : ∀ b o, (∀ ps, o ≠ HO.tbl ps) → H2 b = some o → upd H' a (GS.ExT (.ref c) a) b = some o := fun b o t e => sm _ _ (f.1 b o (fun d g c z => by cases z) t e)
    have fr2 : FrR am.R H2 (upd H' a (GS.ExT (.ref c) a)) := ⟨fun b o _ t e => st2 b o t e, fun b ⟨o, e, t⟩ => ⟨o, st2 b o t e, t⟩⟩
    have w4 := w.same sm
    refine k false (.d (.bool true)) n1 (.bl true) _ hq ((fr1.trans f2).trans fr2) ⟨w4.hid, w4.tabs, fun d g' c' z => ?_⟩ (.old (Rp.bl true))
    obtain ⟨a1, a2, a3, t, ht, hD⟩ := w2.dr d g' c' z
    refine ⟨a1, a2, a3, t, ht, ?_⟩
    obtain ⟨gs, cs, m, z1, z2, z3, r⟩ := hD
    exact ⟨gs, cs, m, st2 _ _ (fun ps => by intro z; cases z) z1, st2 _ _ (fun ps => by intro z; cases z) z2, st2 _ _ (fun ps => by intro z; cases z) z3, r⟩
/-! isinstance(x, Drawing), x data too -/
class KnC (K : PySem.W.Frag) (C : Addr) : Prop where
  k : ∀ x : D, (∀ kvs, x ≠ .dict kvs) → PySem.W.kitOne K (.type (pyTy x)) (.ref C) = some false
@[simp ↓] def mIsW2 (me : TE3) : TE3 := fun ρ k q e => me ρ k (fun _ u n1 => match u with
  | .dw _ => q false (.d (.bool true)) n1
  | .ob _ => q false (.d (.bool true)) n1
  | .d (.dict _) => False
  | .d _ => q false (.d (.bool false)) n1
  | _ => False) e
instance (priority := high + 1) {te : TE} {S : List Nat} {me : TE3} [hc : KnC K C] [he : LE K C TL E te S me] : LE K C TL E (tCB (rIsi K) (tCons te (tCons (tC (.ref C)) tNil))) [] (mIsW2 me) where
  s am ρ n σ H hE h Q q hm k := by
    obtain ⟨rfl, rfl, rfl, rfl⟩ := id hE
    refine he.s am ρ n σ H hE h _ _ hm fun fr u n1 v H1 hq f1 w1 r1 => ?_
    match u, hq, r1.1 with
    | .dw bs, hq, r =>
      obtain ⟨_, a, dx, t, rfl, h2, _⟩ := r
      exact ⟨.ref a, .ref am.C, .ref am.C, .ref am.C, true, rfl, .own am.C, am.insT H1 a dx _ (cut_some.mp h2).2, am.kD, k _ _ n1 _ H1 hq f1 w1 (.old (Rp.bl _))⟩
    | .ob fs, hq, r =>
      obtain ⟨_, a, dx, t, rfl, h2, _⟩ := r
      exact ⟨.ref a, .ref am.C, .ref am.C, .ref am.C, true, rfl, .own am.C, am.insT H1 a dx _ (cut_some.mp h2).2, am.kD, k _ _ n1 _ H1 hq f1 w1 (.old (Rp.bl _))⟩
    | .d x, hq, r =>
      have nd : ∀ kvs, x ≠ .dict kvs := fun kvs z => by
        subst z
        exact hq
      have hq2 : q false (.d (.bool false)) n1 := by
        cases x <;> first | exact hq | exact hq.elim
      exact ⟨v, .ref am.C, .type (pyTy x), .ref am.C, false, rfl, .own am.C, ty_rep r, hc.k x nd, k _ _ n1 _ H1 hq2 f1 w1 (.old (Rp.bl _))⟩
end
end V3
set_option Elab.async false
set_option linter.all false
set_option maxRecDepth 100000
set_option maxHeartbeats 4000000
/-! fields of objects of one's own class -/
namespace V3
open PySem PySem.Spec PyProof.Rows L2
/-- the class has no attribute of that name -/
class FieldC (K : PySem.W.Frag) (C : Addr) (f : Str) : Prop where
  n : NoAttr K C f
def askO : U → (List (Str × D) → Prop) → Prop
  | .ob fs, k => k fs
  | _, _ => False
@[simp] theorem askO_s (i : List (Str × D)) (k : List (Str × D) → Prop) : askO (.ob i) k = k i := rfl
def getF (f : Str) (fs : List (Str × D)) : Option D := fs.lookup f
theorem RpFs.get {K : PySem.W.Frag} {H : Hp} {f : Str} {d : D} : ∀ {vs : List (Str × V)} {fs : List (Str × D)}, RpFs K H vs fs → getF f fs = some d → ∃ v, vs.lookup f = some v ∧ Rp K H v d
  | [], [], _, e => by cases e
  | (x, v) :: vs, (y, b) :: fs, ⟨h1, h2, h3⟩, e => by
    subst h1
    unfold getF at e
    rw [List.lookup_cons] at e
    rw [List.lookup_cons]
    cases q : f == x with
    | true =>
      rw [q] at e
      cases e
      exact ⟨v, rfl, h2⟩
    | false =>
      rw [q] at e
      exact RpFs.get h3 e
  | [], _ :: _, h, _ => h.elim
  | _ :: _, [], h, _ => h.elim
section
variable {K : PySem.W.Frag} {C : Addr} {TL : List (Addr × Str)} {E : XK}
@[simp ↓] def mFldO (f : Str) (me : TE3) : TE3 := fun ρ n q e => me ρ n (fun _ u n1 => askO u fun fs => ask (getF f fs) fun d => q false (.d d) n1) e
instance {te : TE} {S : List Nat} {me : TE3} {f : Str} [hf : FieldC K C f] [he : LE K C TL E te S me] : LE K C TL E (tFld K te f) S (mFldO f me) where
  s am ρ n σ H hE h Q q hm k := by
    obtain ⟨rfl, rfl, rfl, rfl⟩ := id hE
    refine he.s am ρ n σ H hE h _ _ hm fun fr u n1 v H1 hq f1 w1 r1 => ?_
    match u, hq, r1.1 with
    | .ob fs, hq, r1 =>
      obtain ⟨d, e, hq⟩ := ask_some hq
      obtain ⟨fl, a, dx, vs, rfl, h2, h3⟩ := r1
      obtain ⟨v, l, r⟩ := h3.get e
      exact ⟨a, am.C, dx, _, v, rfl, (cut_some.mp h2).2, am.cls, hf.n, l, k _ _ n1 _ H1 hq f1 w1 (.old r)⟩
end
end V3
set_option Elab.async false
set_option linter.all false
set_option maxRecDepth 100000
set_option maxHeartbeats 4000000
set_option synthInstance.maxSize 100000
set_option synthInstance.maxHeartbeats 0
namespace G21
open PySem PySem.Spec PyProof.Rows L2 V3
def posC (c : Co) : Prop := (∀ k, c.1 = some k → 1 ≤ k) ∧ ∀ k, c.2 = some k → 1 ≤ k
/-- more than -/
def abO : Option Int → Option Int → Bool
  | _, none => false
  | none, some _ => true
  | some j, some k => decide (k < j)
theorem abO_lt {p q : Option Int} (h : ltO p q) : abO q p = true := by
  cases p <;> cases q <;> simp [ltO, abO] at h ⊢
  exact h
@[simp ↓] def sp_above : VSp := fun us n q _ => ∃ a b : Option Int, us = [.d (oD a), .d (oD b)] ∧ q (.d (.bool (abO a b))) n
def enB (c d : Co) : Bool := !abO d.1 c.1 && !abO d.2 c.2
@[simp ↓] def sp_encl : VSp := fun us n q _ => ∃ c d : Co, us = [.d (cD c), .d (cD d)] ∧ q (.d (.bool (enB c d))) n
def hasB (cs : List Co) (d : Co) : Bool := cs.any fun c => enB c d
@[simp ↓] def sp_has : VSp := fun us n q _ => ∃ (cs : List Co) (d : Co), us = [.d (.tuple (cs.map cD)), .d (cD d)] ∧ cs.length ≤ 300 ∧ q (.d (.bool (hasB cs d))) n
@[simp ↓] def sp_corner : VSp := fun us n q _ => ∃ c : Co, us = [.d (cD c)] ∧ posC c ∧ q (.d (.bool true)) n
@[simp ↓] def sp_step : VSp := fun us n q _ => ∃ c f : Co, us = [.d (cD c), .d (cD f)] ∧ q (.d (.bool (abO f.1 c.1 && abO c.2 f.2))) n
@[simp ↓] def sp_isst : VSp := fun us n q _ => ∃ cs : List Co, us = [.d (.tuple (cs.map cD))] ∧ Can cs ∧ (∀ c ∈ cs, posC c) ∧ cs.length ≤ 300 ∧ q (.d (.bool true)) n
def isPr : D → Bool
  | .tuple [a, b] => isN a && isN b
  | _ => false
@[simp ↓] def sp_npair : VSp := fun us n q _ => ∃ a b : Int, us = [.d (pr a b)] ∧ q (.d (.bool true)) n
/-- a place -/
abbrev plD (m x y : Int) : D := .tuple [.int m, pr x y]
@[simp ↓] def sp_place : VSp := fun us n q _ => ∃ m x y : Int, us = [.d (plD m x y)] ∧ 0 ≤ m ∧ q (.d (.bool true)) n
@[simp ↓] def sp_great : VSp := fun us n q _ => ∃ (cs : List Co) (c d : Co) (i : Int), us = [.d (.tuple (cs.map cD)), .d (.int i)] ∧ cs.head? = some c ∧ cs.getLast? = some d ∧ q (.d (oD (if i = 0 then d.1 else c.2))) n
@[simp ↓] def sp_grown : VSp := fun us n q _ => ∃ l b s : Int, us = [.d (.int l), .d (.int b), .d (.int s)] ∧ q (.d (.int (max l (s + b)))) n
def plainB (m : Option Int) (l b : Int) : Int := match m with
  | none => b
  | some k => max l (k + b) - k
@[simp ↓] def sp_plain : VSp := fun us n q _ => ∃ (cs : List Co) (c d : Co) (l b : Int × Int) (i : Int), us = [.d (.tuple (cs.map cD)), .d (pr l.1 l.2), .d (pr b.1 b.2), .d (.int i)] ∧ (i = 0 ∨ i = 1) ∧ cs.head? = some c ∧ cs.getLast? = some d ∧
  q (.d (.int (if i = 0 then plainB d.1 l.1 b.1 else plainB c.2 l.2 b.2))) n
/-- what a form does to a body -/
@[simp ↓] def sp_behind : VSp := fun us n q _ => ∃ (fs : List (Str × D)) (l b s : Int × Int), us = [.ob fs, .d (pr s.1 s.2)] ∧ getF "least" fs = some (pr l.1 l.2) ∧ getF "by" fs = some (pr b.1 b.2) ∧
  q (.d (pr (max l.1 (s.1 + b.1)) (max l.2 (s.2 + b.2)))) n
instance {K : PySem.W.Frag} {mg : Str → Option Value} (T : Txt K mg) : FieldC K T.C "start" := ⟨T.nF_start⟩
instance {K : PySem.W.Frag} {mg : Str → Option Value} (T : Txt K mg) : FieldC K T.C "end" := ⟨T.nF_end⟩
instance {K : PySem.W.Frag} {mg : Str → Option Value} (T : Txt K mg) : FieldC K T.C "stairs" := ⟨T.nF_stairs⟩
instance {K : PySem.W.Frag} {mg : Str → Option Value} (T : Txt K mg) : FieldC K T.C "least" := ⟨T.nF_least⟩
instance {K : PySem.W.Frag} {mg : Str → Option Value} (T : Txt K mg) : FieldC K T.C "by" := ⟨T.nF_by⟩
section
variable {P : Program} {w : World} {K : PySem.W.Frag} {mg : Str → Option Value} {base : Heap} {TL : List (Addr × Str)}
theorem ok_q_is_above (T : Txt K mg) : FnOk P w K mg base CX0 1 T.q_is_above.a T.q_is_above.d ["one", "other"] (toSp K T.C TL false sp_above) := by
  refine T.q_is_above.F.ok c_q_is_above (fun vs H Q E h => toSp_len h fun us n q e hs => ?_) (fun cdv A outer s H vs Q E hr h => ?_)
  · (first | (obtain ⟨rfl, _⟩ := hs; rfl) | (obtain ⟨_, hs⟩ := hs; (first | (obtain ⟨rfl, _⟩ := hs; rfl) | (obtain ⟨_, hs⟩ := hs; (first | (obtain ⟨rfl, _⟩ := hs; rfl) | (obtain ⟨_, hs⟩ := hs; (first | (obtain ⟨rfl, _⟩ := hs; rfl) | (obtain ⟨_, hs⟩ := hs; (first | (obtain ⟨rfl, _⟩ := hs; rfl) | (obtain ⟨_, hs⟩ := hs; (first | (obtain ⟨rfl, _⟩ := hs; rfl) | (obtain ⟨_, hs⟩ := hs; (first | (obtain ⟨rfl, _⟩ := hs; rfl) | (obtain ⟨_, hs⟩ := hs; (first | (obtain ⟨rfl, _⟩ := hs; rfl) | (obtain ⟨_, hs⟩ := hs; (first | (obtain ⟨rfl, _⟩ := hs; rfl) | (obtain ⟨_, hs⟩ := hs; (first | (obtain ⟨rfl, _⟩ := hs; rfl) | (obtain ⟨_, hs⟩ := hs; (first | (obtain ⟨rfl, _⟩ := hs; rfl) | (obtain ⟨_, hs⟩ := hs; (first | (obtain ⟨rfl, _⟩ := hs; rfl) | (obtain ⟨_, hs⟩ := hs; (first | (obtain ⟨rfl, _⟩ := hs; rfl) | (obtain ⟨_, hs⟩ := hs; (first | (obtain ⟨rfl, _⟩ := hs; rfl) | (obtain ⟨_, hs⟩ := hs; (first | (obtain ⟨rfl, _⟩ := hs; rfl) | (obtain ⟨_, hs⟩ := hs; (first | (obtain ⟨rfl, _⟩ := hs; rfl) | (obtain ⟨_, hs⟩ := hs; (obtain ⟨rfl, _⟩ := hs; rfl)))))))))))))))))))))))))))))))))
  · refine ⟨_,
      (pss_one (ps_ret (pe_and (pe_cmpR op_notN3 (pv 1) pe_non (nomark _)) (pe_one (pe_or (pe_cmpR op_isN3 (pv 0) pe_non (nomark _)) (pe_one (pe_cmpR op_gt (pv 0) (pv 1) (nomark _))))))))
      , run3 (K := K) (C := T.C) (TL := TL) h fun us n q e hs => ?_⟩
    obtain ⟨a, b, rfl, hq⟩ := hs
    cases a <;> cases b <;> simp [ro0, abO] at hq ⊢ <;> exact hq
theorem ok_q_encloses (T : Txt K mg) : FnOk P w K mg base CX0 2 T.q_encloses.a T.q_encloses.d ["corner", "inner"] (toSp K T.C TL false sp_encl) := by
  refine T.q_encloses.F.ok c_q_encloses (fun vs H Q E h => toSp_len h fun us n q e hs => ?_) (fun cdv A outer s H vs Q E hr h => ?_)
  · (first | (obtain ⟨rfl, _⟩ := hs; rfl) | (obtain ⟨_, hs⟩ := hs; (first | (obtain ⟨rfl, _⟩ := hs; rfl) | (obtain ⟨_, hs⟩ := hs; (first | (obtain ⟨rfl, _⟩ := hs; rfl) | (obtain ⟨_, hs⟩ := hs; (first | (obtain ⟨rfl, _⟩ := hs; rfl) | (obtain ⟨_, hs⟩ := hs; (first | (obtain ⟨rfl, _⟩ := hs; rfl) | (obtain ⟨_, hs⟩ := hs; (first | (obtain ⟨rfl, _⟩ := hs; rfl) | (obtain ⟨_, hs⟩ := hs; (first | (obtain ⟨rfl, _⟩ := hs; rfl) | (obtain ⟨_, hs⟩ := hs; (first | (obtain ⟨rfl, _⟩ := hs; rfl) | (obtain ⟨_, hs⟩ := hs; (first | (obtain ⟨rfl, _⟩ := hs; rfl) | (obtain ⟨_, hs⟩ := hs; (first | (obtain ⟨rfl, _⟩ := hs; rfl) | (obtain ⟨_, hs⟩ := hs; (first | (obtain ⟨rfl, _⟩ := hs; rfl) | (obtain ⟨_, hs⟩ := hs; (first | (obtain ⟨rfl, _⟩ := hs; rfl) | (obtain ⟨_, hs⟩ := hs; (first | (obtain ⟨rfl, _⟩ := hs; rfl) | (obtain ⟨_, hs⟩ := hs; (first | (obtain ⟨rfl, _⟩ := hs; rfl) | (obtain ⟨_, hs⟩ := hs; (first | (obtain ⟨rfl, _⟩ := hs; rfl) | (obtain ⟨_, hs⟩ := hs; (first | (obtain ⟨rfl, _⟩ := hs; rfl) | (obtain ⟨_, hs⟩ := hs; (obtain ⟨rfl, _⟩ := hs; rfl)))))))))))))))))))))))))))))))))
  · refine ⟨_,
      (pss_one (ps_ret (pe_and (pe_not (pe_call (ok_q_is_above T (TL := TL)) (hr.mono (by decide)) rfl T.q_is_above.g T.q_is_above.k T.q_is_above.b .nil pass0 (pa_cons (pe_ix (ix3 K) (pv 1) pe_int (fun _ _ => rfl)) (pa_cons (pe_ix (ix3 K) (pv 0) pe_int (fun _ _ => rfl)) pa_nil)))) (pe_one (pe_not (pe_call (ok_q_is_above T (TL := TL)) (hr.mono (by decide)) rfl T.q_is_above.g T.q_is_above.k T.q_is_above.b .nil pass0 (pa_cons (pe_ix (ix3 K) (pv 1) pe_int (fun _ _ => rfl)) (pa_cons (pe_ix (ix3 K) (pv 0) pe_int (fun _ _ => rfl)) pa_nil))))))))
      , run3 (K := K) (C := T.C) (TL := TL) h fun us n q e hs => ?_⟩
    obtain ⟨⟨c1, c2⟩, ⟨d1, d2⟩, rfl, hq⟩ := hs
    simp [ro0]
    refine ⟨d1, c1, ⟨rfl, rfl⟩, ?_⟩
    unfold enB at hq
    cases h : abO d1 c1
    · simp [h] at hq ⊢
      exact ⟨d2, c2, ⟨rfl, rfl⟩, hq⟩
    · simp [h] at hq ⊢
      exact hq
theorem ok_q_has (T : Txt K mg) : FnOk P w K mg base CX0 3 T.q_has.a T.q_has.d ["stairs", "corner"] (toSp K T.C TL false sp_has) := by
  refine T.q_has.F.ok c_q_has (fun vs H Q E h => toSp_len h fun us n q e hs => ?_) (fun cdv A outer s H vs Q E hr h => ?_)
  · (first | (obtain ⟨rfl, _⟩ := hs; rfl) | (obtain ⟨_, hs⟩ := hs; (first | (obtain ⟨rfl, _⟩ := hs; rfl) | (obtain ⟨_, hs⟩ := hs; (first | (obtain ⟨rfl, _⟩ := hs; rfl) | (obtain ⟨_, hs⟩ := hs; (first | (obtain ⟨rfl, _⟩ := hs; rfl) | (obtain ⟨_, hs⟩ := hs; (first | (obtain ⟨rfl, _⟩ := hs; rfl) | (obtain ⟨_, hs⟩ := hs; (first | (obtain ⟨rfl, _⟩ := hs; rfl) | (obtain ⟨_, hs⟩ := hs; (first | (obtain ⟨rfl, _⟩ := hs; rfl) | (obtain ⟨_, hs⟩ := hs; (first | (obtain ⟨rfl, _⟩ := hs; rfl) | (obtain ⟨_, hs⟩ := hs; (first | (obtain ⟨rfl, _⟩ := hs; rfl) | (obtain ⟨_, hs⟩ := hs; (first | (obtain ⟨rfl, _⟩ := hs; rfl) | (obtain ⟨_, hs⟩ := hs; (first | (obtain ⟨rfl, _⟩ := hs; rfl) | (obtain ⟨_, hs⟩ := hs; (first | (obtain ⟨rfl, _⟩ := hs; rfl) | (obtain ⟨_, hs⟩ := hs; (first | (obtain ⟨rfl, _⟩ := hs; rfl) | (obtain ⟨_, hs⟩ := hs; (first | (obtain ⟨rfl, _⟩ := hs; rfl) | (obtain ⟨_, hs⟩ := hs; (first | (obtain ⟨rfl, _⟩ := hs; rfl) | (obtain ⟨_, hs⟩ := hs; (first | (obtain ⟨rfl, _⟩ := hs; rfl) | (obtain ⟨_, hs⟩ := hs; (obtain ⟨rfl, _⟩ := hs; rfl)))))))))))))))))))))))))))))))))
  · refine ⟨_,
      (pss_one (ps_ret (pe_callB (any3 K rfl) (by rfl) T.z_any (by decide +kernel) (pa_cons (pe_lc (own := [("own", 2)]) (g := gName 2) (by rfl) c_q_has.nd (seq3 K (pv 0)) (blkOk_by (own := [("own", 2)]) (N := N_q_has) (sc := defScope S_q_has) (by decide +kernel)) (fun _ _ _ _ _ => pg_name (i := 2) c_q_has.nd rfl (Or.inl rfl)) (fun _ _ _ _ _ => pts_nil) (fun _ _ _ _ _ => (pe_call (ok_q_encloses T (TL := TL)) (hr.mono (by decide)) rfl T.q_encloses.g T.q_encloses.k T.q_encloses.b .nil pass0 (pa_cons (pv 2) (pa_cons (pv 1) pa_nil))))) pa_nil))))
      , run3 (K := K) (C := T.C) (TL := TL) h fun us n q e hs => ?_⟩
    obtain ⟨cs, d, rfl, hl, hq⟩ := hs
    simp [ro0]
    refine ⟨few (by omega), lcL_all cD (fun c => .bool (enB c d)) cs n _ (fun c _ n Kt Ks h => ?_) ?_⟩
    · simp
      exact ⟨c.1, c.2, d.1, d.2, ⟨⟨rfl, rfl⟩, rfl, rfl⟩, h⟩
    · rw [toBs_f]
      show q (.d (.bool ((cs.map fun c => enB c d).any id))) n
      rw [List.any_map]
      exact hq
theorem ok_q_is_step (T : Txt K mg) : FnOk P w K mg base CX0 2 T.q_is_step.a T.q_is_step.d ["corner", "further"] (toSp K T.C TL false sp_step) := by
  refine T.q_is_step.F.ok c_q_is_step (fun vs H Q E h => toSp_len h fun us n q e hs => ?_) (fun cdv A outer s H vs Q E hr h => ?_)
  · (first | (obtain ⟨rfl, _⟩ := hs; rfl) | (obtain ⟨_, hs⟩ := hs; (first | (obtain ⟨rfl, _⟩ := hs; rfl) | (obtain ⟨_, hs⟩ := hs; (first | (obtain ⟨rfl, _⟩ := hs; rfl) | (obtain ⟨_, hs⟩ := hs; (first | (obtain ⟨rfl, _⟩ := hs; rfl) | (obtain ⟨_, hs⟩ := hs; (first | (obtain ⟨rfl, _⟩ := hs; rfl) | (obtain ⟨_, hs⟩ := hs; (first | (obtain ⟨rfl, _⟩ := hs; rfl) | (obtain ⟨_, hs⟩ := hs; (first | (obtain ⟨rfl, _⟩ := hs; rfl) | (obtain ⟨_, hs⟩ := hs; (first | (obtain ⟨rfl, _⟩ := hs; rfl) | (obtain ⟨_, hs⟩ := hs; (first | (obtain ⟨rfl, _⟩ := hs; rfl) | (obtain ⟨_, hs⟩ := hs; (first | (obtain ⟨rfl, _⟩ := hs; rfl) | (obtain ⟨_, hs⟩ := hs; (first | (obtain ⟨rfl, _⟩ := hs; rfl) | (obtain ⟨_, hs⟩ := hs; (first | (obtain ⟨rfl, _⟩ := hs; rfl) | (obtain ⟨_, hs⟩ := hs; (first | (obtain ⟨rfl, _⟩ := hs; rfl) | (obtain ⟨_, hs⟩ := hs; (first | (obtain ⟨rfl, _⟩ := hs; rfl) | (obtain ⟨_, hs⟩ := hs; (first | (obtain ⟨rfl, _⟩ := hs; rfl) | (obtain ⟨_, hs⟩ := hs; (first | (obtain ⟨rfl, _⟩ := hs; rfl) | (obtain ⟨_, hs⟩ := hs; (obtain ⟨rfl, _⟩ := hs; rfl)))))))))))))))))))))))))))))))))
  · refine ⟨_,
      (pss_one (ps_ret (pe_and (pe_call (ok_q_is_above T (TL := TL)) (hr.mono (by decide)) rfl T.q_is_above.g T.q_is_above.k T.q_is_above.b .nil pass0 (pa_cons (pe_ix (ix3 K) (pv 1) pe_int (fun _ _ => rfl)) (pa_cons (pe_ix (ix3 K) (pv 0) pe_int (fun _ _ => rfl)) pa_nil))) (pe_one (pe_call (ok_q_is_above T (TL := TL)) (hr.mono (by decide)) rfl T.q_is_above.g T.q_is_above.k T.q_is_above.b .nil pass0 (pa_cons (pe_ix (ix3 K) (pv 0) pe_int (fun _ _ => rfl)) (pa_cons (pe_ix (ix3 K) (pv 1) pe_int (fun _ _ => rfl)) pa_nil)))))))
      , run3 (K := K) (C := T.C) (TL := TL) h fun us n q e hs => ?_⟩
    obtain ⟨⟨c1, c2⟩, ⟨f1, f2⟩, rfl, hq⟩ := hs
    simp [ro0]
    refine ⟨f1, c1, ⟨rfl, rfl⟩, ?_⟩
    cases h : abO f1 c1
    · simp [h] at hq ⊢
      exact hq
    · simp [h] at hq ⊢
      exact ⟨c2, f2, ⟨rfl, rfl⟩, hq⟩
theorem ok_q_is_corner (T : Txt K mg) : FnOk P w K mg base CX0 3 T.q_is_corner.a T.q_is_corner.d ["thing"] (toSp K T.C TL false sp_corner) := by
  refine T.q_is_corner.F.ok c_q_is_corner (fun vs H Q E h => toSp_len h fun us n q e hs => ?_) (fun cdv A outer s H vs Q E hr h => ?_)
  · (first | (obtain ⟨rfl, _⟩ := hs; rfl) | (obtain ⟨_, hs⟩ := hs; (first | (obtain ⟨rfl, _⟩ := hs; rfl) | (obtain ⟨_, hs⟩ := hs; (first | (obtain ⟨rfl, _⟩ := hs; rfl) | (obtain ⟨_, hs⟩ := hs; (first | (obtain ⟨rfl, _⟩ := hs; rfl) | (obtain ⟨_, hs⟩ := hs; (first | (obtain ⟨rfl, _⟩ := hs; rfl) | (obtain ⟨_, hs⟩ := hs; (first | (obtain ⟨rfl, _⟩ := hs; rfl) | (obtain ⟨_, hs⟩ := hs; (first | (obtain ⟨rfl, _⟩ := hs; rfl) | (obtain ⟨_, hs⟩ := hs; (first | (obtain ⟨rfl, _⟩ := hs; rfl) | (obtain ⟨_, hs⟩ := hs; (first | (obtain ⟨rfl, _⟩ := hs; rfl) | (obtain ⟨_, hs⟩ := hs; (first | (obtain ⟨rfl, _⟩ := hs; rfl) | (obtain ⟨_, hs⟩ := hs; (first | (obtain ⟨rfl, _⟩ := hs; rfl) | (obtain ⟨_, hs⟩ := hs; (first | (obtain ⟨rfl, _⟩ := hs; rfl) | (obtain ⟨_, hs⟩ := hs; (first | (obtain ⟨rfl, _⟩ := hs; rfl) | (obtain ⟨_, hs⟩ := hs; (first | (obtain ⟨rfl, _⟩ := hs; rfl) | (obtain ⟨_, hs⟩ := hs; (first | (obtain ⟨rfl, _⟩ := hs; rfl) | (obtain ⟨_, hs⟩ := hs; (first | (obtain ⟨rfl, _⟩ := hs; rfl) | (obtain ⟨_, hs⟩ := hs; (obtain ⟨rfl, _⟩ := hs; rfl)))))))))))))))))))))))))))))))))
  · refine ⟨_,
      (pss_cons (ps_if (PW.pt (pw_or (pt_not (pt_val (pe_callB (isi3 K) (by rfl) T.z_isinstance (by decide +kernel) (pa_cons (pv 0) (pa_cons (pe_bltn (v := .ty "tuple") (u := .type "tuple") rfl T.z_tuple (by decide +kernel) rfl) pa_nil))))) (pw_or1 (pt_cmpR (ne3 K hr.units) (pe_callB (len3 K) (by rfl) T.z_len (by decide +kernel) (pa_cons (pv 0) pa_nil)) pe_int (nomark _)))))
      (pss_one (ps_ret pe_bl))
      pss_nil)
      (pss_one (ps_ret (pe_callB (all3 K rfl) (by rfl) T.z_all (by decide +kernel) (pa_cons (pe_lc (own := [("item", 1)]) (g := gName 1) (by rfl) c_q_is_corner.nd (seq3 K (pv 0)) (blkOk_by (own := [("item", 1)]) (N := N_q_is_corner) (sc := defScope S_q_is_corner) (by decide +kernel)) (fun _ _ _ _ _ => pg_name (i := 1) c_q_is_corner.nd rfl (Or.inl rfl)) (fun _ _ _ _ _ => pts_nil) (fun _ _ _ _ _ => (pe_or (pe_cmpR op_isN3 (pv 1) pe_non (nomark _)) (pe_one (pe_call (ok_q_is_size T (TL := TL)) (hr.mono (by decide)) rfl T.q_is_size.g T.q_is_size.k T.q_is_size.b .nil pass0 (pa_cons (pv 1) pa_nil)))))) pa_nil)))))
      , run3 (K := K) (C := T.C) (TL := TL) h fun us n q e hs => ?_⟩
    obtain ⟨⟨c1, c2⟩, rfl, ⟨h1, h2⟩, hq⟩ := hs
    have k1 : ∀ k, c1 = some k → isSzD (.int k) = true := fun k e => decide_eq_true (h1 k e)
    have k2 : ∀ k, c2 = some k → isSzD (.int k) = true := fun k e => decide_eq_true (h2 k e)
    cases c1 <;> cases c2 <;> simp [ro0, k1, k2] <;> exact ⟨few (by omega), hq⟩
theorem ok_q_is_stairs (T : Txt K mg) : FnOk P w K mg base CX0 4 T.q_is_stairs.a T.q_is_stairs.d ["thing"] (toSp K T.C TL false sp_isst) := by
  refine T.q_is_stairs.F.ok c_q_is_stairs (fun vs H Q E h => toSp_len h fun us n q e hs => ?_) (fun cdv A outer s H vs Q E hr h => ?_)
  · (first | (obtain ⟨rfl, _⟩ := hs; rfl) | (obtain ⟨_, hs⟩ := hs; (first | (obtain ⟨rfl, _⟩ := hs; rfl) | (obtain ⟨_, hs⟩ := hs; (first | (obtain ⟨rfl, _⟩ := hs; rfl) | (obtain ⟨_, hs⟩ := hs; (first | (obtain ⟨rfl, _⟩ := hs; rfl) | (obtain ⟨_, hs⟩ := hs; (first | (obtain ⟨rfl, _⟩ := hs; rfl) | (obtain ⟨_, hs⟩ := hs; (first | (obtain ⟨rfl, _⟩ := hs; rfl) | (obtain ⟨_, hs⟩ := hs; (first | (obtain ⟨rfl, _⟩ := hs; rfl) | (obtain ⟨_, hs⟩ := hs; (first | (obtain ⟨rfl, _⟩ := hs; rfl) | (obtain ⟨_, hs⟩ := hs; (first | (obtain ⟨rfl, _⟩ := hs; rfl) | (obtain ⟨_, hs⟩ := hs; (first | (obtain ⟨rfl, _⟩ := hs; rfl) | (obtain ⟨_, hs⟩ := hs; (first | (obtain ⟨rfl, _⟩ := hs; rfl) | (obtain ⟨_, hs⟩ := hs; (first | (obtain ⟨rfl, _⟩ := hs; rfl) | (obtain ⟨_, hs⟩ := hs; (first | (obtain ⟨rfl, _⟩ := hs; rfl) | (obtain ⟨_, hs⟩ := hs; (first | (obtain ⟨rfl, _⟩ := hs; rfl) | (obtain ⟨_, hs⟩ := hs; (first | (obtain ⟨rfl, _⟩ := hs; rfl) | (obtain ⟨_, hs⟩ := hs; (first | (obtain ⟨rfl, _⟩ := hs; rfl) | (obtain ⟨_, hs⟩ := hs; (obtain ⟨rfl, _⟩ := hs; rfl)))))))))))))))))))))))))))))))))
  · refine ⟨_,
      (pss_cons (ps_if (PW.pt (pw_or (pt_not (pt_val (pe_callB (isi3 K) (by rfl) T.z_isinstance (by decide +kernel) (pa_cons (pv 0) (pa_cons (pe_bltn (v := .ty "tuple") (u := .type "tuple") rfl T.z_tuple (by decide +kernel) rfl) pa_nil))))) (pw_or1 (pt_not (pt_val (pe_callB (all3 K rfl) (by rfl) T.z_all (by decide +kernel) (pa_cons (pe_lc (own := [("corner", 1)]) (g := gName 1) (by rfl) c_q_is_stairs.nd (seq3 K (pv 0)) (blkOk_by (own := [("corner", 1)]) (N := N_q_is_stairs) (sc := defScope S_q_is_stairs) (by decide +kernel)) (fun _ _ _ _ _ => pg_name (i := 1) c_q_is_stairs.nd rfl (Or.inl rfl)) (fun _ _ _ _ _ => pts_nil) (fun _ _ _ _ _ => (pe_call (ok_q_is_corner T (TL := TL)) (hr.mono (by decide)) rfl T.q_is_corner.g T.q_is_corner.k T.q_is_corner.b .nil pass0 (pa_cons (pv 1) pa_nil)))) pa_nil)))))))
      (pss_one (ps_ret pe_bl))
      pss_nil)
      (pss_one (ps_ret (pe_callB (all3 K rfl) (by rfl) T.z_all (by decide +kernel) (pa_cons (pe_lc (own := [("k", 2)]) (g := gName 2) (by rfl) c_q_is_stairs.nd (pi_range1 rfl T.z_range (pa_cons (pe_op op_sub (pe_callB (len3 K) (by rfl) T.z_len (by decide +kernel) (pa_cons (pv 0) pa_nil)) pe_int) pa_nil)) (blkOk_by (own := [("k", 2)]) (N := N_q_is_stairs) (sc := defScope S_q_is_stairs) (by decide +kernel)) (fun _ _ _ _ _ => pg_name (i := 2) c_q_is_stairs.nd rfl (Or.inl rfl)) (fun _ _ _ _ _ => pts_nil) (fun _ _ _ _ _ => (pe_call (ok_q_is_step T (TL := TL)) (hr.mono (by decide)) rfl T.q_is_step.g T.q_is_step.k T.q_is_step.b .nil pass0 (pa_cons (pe_ix (ix3 K) (pv 0) (pv 2) (fun _ _ => rfl)) (pa_cons (pe_ix (ix3 K) (pv 0) (pe_op (add3 K) (pv 2) pe_int) (fun _ _ => rfl)) pa_nil))))) pa_nil)))))
      , run3 (K := K) (C := T.C) (TL := TL) h fun us n q e hs => ?_⟩
    obtain ⟨cs, rfl, hc, hp, hl, hq⟩ := hs
    simp [ro0]
    refine ⟨few (by omega), lcL_all cD (fun _ => .bool true) cs n _ (fun c hc n Kt Ks h => ?_) ?_⟩
    · simp
      exact ⟨c.1, c.2, ⟨rfl, rfl⟩, hp c hc, h⟩
    have nf : ¬ false ∈ cs.map (fun _ => true) := fun z => by
      obtain ⟨_, _, z⟩ := List.mem_map.mp z
      cases z
    rw [toBs_f]
    show if false ∈ cs.map (fun _ => true) then _ else _
    rw [if_neg nf]
    refine ⟨by omega, few (by omega), lcL_up (fun _ => .bool true) 0 (cs.length - 1) n _ (fun i hi n Kt Ks h => ?_) ?_⟩
    · have h1 : i < cs.length := by omega
      have h2 : i + 1 < cs.length := by omega
      have st := List.pairwise_iff_getElem.mp hc i (i + 1) h1 h2 (by omega)
      have g1 : (cs.map cD)[i]? = some (cD cs[i]) := by simp [h1]
      have g2 : (cs.map cD)[i + 1]? = some (cD cs[i + 1]) := by simp [h2]
      have a1 : atI (cs.map cD) ((i : Int) + 1) = some (cD cs[i + 1]) := by
        rw [show ((i : Int) + 1) = ((i + 1 : Nat) : Int) from rfl, atI_c]
        exact g2
      have e1 : (abO cs[i + 1].1 cs[i].1 && abO cs[i].2 cs[i + 1].2) = true := by
        rw [abO_lt st.1, abO_lt st.2]
        rfl
      simp [a1, h1]
      refine ⟨cs[i].1, cs[i].2, cs[i + 1].1, cs[i + 1].2, ⟨⟨rfl, rfl⟩, rfl, rfl⟩, ?_⟩
      rw [e1]
      exact h
    · rw [toBs_f]
      show q (.d (.bool (((List.range (cs.length - 1)).map fun _ => true).all id))) n
      have e : (((List.range (cs.length - 1)).map fun _ => true).all id) = true := by simp
      rw [e]
      exact hq
theorem ok_q_is_number_pair (T : Txt K mg) : FnOk P w K mg base CX0 2 T.q_is_number_pair.a T.q_is_number_pair.d ["thing"] (toSp K T.C TL false sp_npair) := by
  refine T.q_is_number_pair.F.ok c_q_is_number_pair (fun vs H Q E h => toSp_len h fun us n q e hs => ?_) (fun cdv A outer s H vs Q E hr h => ?_)
  · (first | (obtain ⟨rfl, _⟩ := hs; rfl) | (obtain ⟨_, hs⟩ := hs; (first | (obtain ⟨rfl, _⟩ := hs; rfl) | (obtain ⟨_, hs⟩ := hs; (first | (obtain ⟨rfl, _⟩ := hs; rfl) | (obtain ⟨_, hs⟩ := hs; (first | (obtain ⟨rfl, _⟩ := hs; rfl) | (obtain ⟨_, hs⟩ := hs; (first | (obtain ⟨rfl, _⟩ := hs; rfl) | (obtain ⟨_, hs⟩ := hs; (first | (obtain ⟨rfl, _⟩ := hs; rfl) | (obtain ⟨_, hs⟩ := hs; (first | (obtain ⟨rfl, _⟩ := hs; rfl) | (obtain ⟨_, hs⟩ := hs; (first | (obtain ⟨rfl, _⟩ := hs; rfl) | (obtain ⟨_, hs⟩ := hs; (first | (obtain ⟨rfl, _⟩ := hs; rfl) | (obtain ⟨_, hs⟩ := hs; (first | (obtain ⟨rfl, _⟩ := hs; rfl) | (obtain ⟨_, hs⟩ := hs; (first | (obtain ⟨rfl, _⟩ := hs; rfl) | (obtain ⟨_, hs⟩ := hs; (first | (obtain ⟨rfl, _⟩ := hs; rfl) | (obtain ⟨_, hs⟩ := hs; (first | (obtain ⟨rfl, _⟩ := hs; rfl) | (obtain ⟨_, hs⟩ := hs; (first | (obtain ⟨rfl, _⟩ := hs; rfl) | (obtain ⟨_, hs⟩ := hs; (first | (obtain ⟨rfl, _⟩ := hs; rfl) | (obtain ⟨_, hs⟩ := hs; (first | (obtain ⟨rfl, _⟩ := hs; rfl) | (obtain ⟨_, hs⟩ := hs; (obtain ⟨rfl, _⟩ := hs; rfl)))))))))))))))))))))))))))))))))
  · refine ⟨_,
      (pss_one (ps_ret (pe_and (pe_callB (isi3 K) (by rfl) T.z_isinstance (by decide +kernel) (pa_cons (pv 0) (pa_cons (pe_bltn (v := .ty "tuple") (u := .type "tuple") rfl T.z_tuple (by decide +kernel) rfl) pa_nil))) (pe_and (pe_cmpR (eq3 K hr.units) (pe_callB (len3 K) (by rfl) T.z_len (by decide +kernel) (pa_cons (pv 0) pa_nil)) pe_int (nomark _)) (pe_and (pe_call (ok_q_is_number T (TL := TL)) (hr.mono (by decide)) rfl T.q_is_number.g T.q_is_number.k T.q_is_number.b .nil pass0 (pa_cons (pe_ix (ix3 K) (pv 0) pe_int (fun _ _ => rfl)) pa_nil)) (pe_one (pe_call (ok_q_is_number T (TL := TL)) (hr.mono (by decide)) rfl T.q_is_number.g T.q_is_number.k T.q_is_number.b .nil pass0 (pa_cons (pe_ix (ix3 K) (pv 0) pe_int (fun _ _ => rfl)) pa_nil))))))))
      , run3 (K := K) (C := T.C) (TL := TL) h fun us n q e hs => ?_⟩
    obtain ⟨a, b, rfl, hq⟩ := hs
    simp [ro0, isN]
    exact hq
theorem ok_q_is_any_place (T : Txt K mg) : FnOk P w K mg base CX0 3 T.q_is_any_place.a T.q_is_any_place.d ["thing"] (toSp K T.C TL false sp_place) := by
  refine T.q_is_any_place.F.ok c_q_is_any_place (fun vs H Q E h => toSp_len h fun us n q e hs => ?_) (fun cdv A outer s H vs Q E hr h => ?_)
  · (first | (obtain ⟨rfl, _⟩ := hs; rfl) | (obtain ⟨_, hs⟩ := hs; (first | (obtain ⟨rfl, _⟩ := hs; rfl) | (obtain ⟨_, hs⟩ := hs; (first | (obtain ⟨rfl, _⟩ := hs; rfl) | (obtain ⟨_, hs⟩ := hs; (first | (obtain ⟨rfl, _⟩ := hs; rfl) | (obtain ⟨_, hs⟩ := hs; (first | (obtain ⟨rfl, _⟩ := hs; rfl) | (obtain ⟨_, hs⟩ := hs; (first | (obtain ⟨rfl, _⟩ := hs; rfl) | (obtain ⟨_, hs⟩ := hs; (first | (obtain ⟨rfl, _⟩ := hs; rfl) | (obtain ⟨_, hs⟩ := hs; (first | (obtain ⟨rfl, _⟩ := hs; rfl) | (obtain ⟨_, hs⟩ := hs; (first | (obtain ⟨rfl, _⟩ := hs; rfl) | (obtain ⟨_, hs⟩ := hs; (first | (obtain ⟨rfl, _⟩ := hs; rfl) | (obtain ⟨_, hs⟩ := hs; (first | (obtain ⟨rfl, _⟩ := hs; rfl) | (obtain ⟨_, hs⟩ := hs; (first | (obtain ⟨rfl, _⟩ := hs; rfl) | (obtain ⟨_, hs⟩ := hs; (first | (obtain ⟨rfl, _⟩ := hs; rfl) | (obtain ⟨_, hs⟩ := hs; (first | (obtain ⟨rfl, _⟩ := hs; rfl) | (obtain ⟨_, hs⟩ := hs; (first | (obtain ⟨rfl, _⟩ := hs; rfl) | (obtain ⟨_, hs⟩ := hs; (first | (obtain ⟨rfl, _⟩ := hs; rfl) | (obtain ⟨_, hs⟩ := hs; (obtain ⟨rfl, _⟩ := hs; rfl)))))))))))))))))))))))))))))))))
  · refine ⟨_,
      (pss_cons (ps_if (PW.pt (pw_or (pt_not (pt_val (pe_callB (isi3 K) (by rfl) T.z_isinstance (by decide +kernel) (pa_cons (pv 0) (pa_cons (pe_bltn (v := .ty "tuple") (u := .type "tuple") rfl T.z_tuple (by decide +kernel) rfl) pa_nil))))) (pw_or (pt_cmpR (ne3 K hr.units) (pe_callB (len3 K) (by rfl) T.z_len (by decide +kernel) (pa_cons (pv 0) pa_nil)) pe_int (nomark _)) (pw_or (pt_not (pt_val (pe_call (ok_q_is_number T (TL := TL)) (hr.mono (by decide)) rfl T.q_is_number.g T.q_is_number.k T.q_is_number.b .nil pass0 (pa_cons (pe_ix (ix3 K) (pv 0) pe_int (fun _ _ => rfl)) pa_nil)))) (pw_or1 (pt_cmpR op_lt (pe_ix (ix3 K) (pv 0) pe_int (fun _ _ => rfl)) pe_int (nomark _)))))))
      (pss_one (ps_ret pe_bl))
      pss_nil)
      (pss_one (ps_ret (pe_call (ok_q_is_number_pair T (TL := TL)) (hr.mono (by decide)) rfl T.q_is_number_pair.g T.q_is_number_pair.k T.q_is_number_pair.b .nil pass0 (pa_cons (pe_ix (ix3 K) (pv 0) pe_int (fun _ _ => rfl)) pa_nil)))))
      , run3 (K := K) (C := T.C) (TL := TL) h fun us n q e hs => ?_⟩
    obtain ⟨m, x, y, rfl, hm, hq⟩ := hs
    simp [ro0, isN, hm]
    rw [if_neg (by omega)]
    exact hq
theorem ok_q_greatest (T : Txt K mg) : FnOk P w K mg base CX0 1 T.q_greatest.a T.q_greatest.d ["stairs", "index"] (toSp K T.C TL false sp_great) := by
  refine T.q_greatest.F.ok c_q_greatest (fun vs H Q E h => toSp_len h fun us n q e hs => ?_) (fun cdv A outer s H vs Q E hr h => ?_)
  · (first | (obtain ⟨rfl, _⟩ := hs; rfl) | (obtain ⟨_, hs⟩ := hs; (first | (obtain ⟨rfl, _⟩ := hs; rfl) | (obtain ⟨_, hs⟩ := hs; (first | (obtain ⟨rfl, _⟩ := hs; rfl) | (obtain ⟨_, hs⟩ := hs; (first | (obtain ⟨rfl, _⟩ := hs; rfl) | (obtain ⟨_, hs⟩ := hs; (first | (obtain ⟨rfl, _⟩ := hs; rfl) | (obtain ⟨_, hs⟩ := hs; (first | (obtain ⟨rfl, _⟩ := hs; rfl) | (obtain ⟨_, hs⟩ := hs; (first | (obtain ⟨rfl, _⟩ := hs; rfl) | (obtain ⟨_, hs⟩ := hs; (first | (obtain ⟨rfl, _⟩ := hs; rfl) | (obtain ⟨_, hs⟩ := hs; (first | (obtain ⟨rfl, _⟩ := hs; rfl) | (obtain ⟨_, hs⟩ := hs; (first | (obtain ⟨rfl, _⟩ := hs; rfl) | (obtain ⟨_, hs⟩ := hs; (first | (obtain ⟨rfl, _⟩ := hs; rfl) | (obtain ⟨_, hs⟩ := hs; (first | (obtain ⟨rfl, _⟩ := hs; rfl) | (obtain ⟨_, hs⟩ := hs; (first | (obtain ⟨rfl, _⟩ := hs; rfl) | (obtain ⟨_, hs⟩ := hs; (first | (obtain ⟨rfl, _⟩ := hs; rfl) | (obtain ⟨_, hs⟩ := hs; (first | (obtain ⟨rfl, _⟩ := hs; rfl) | (obtain ⟨_, hs⟩ := hs; (first | (obtain ⟨rfl, _⟩ := hs; rfl) | (obtain ⟨_, hs⟩ := hs; (obtain ⟨rfl, _⟩ := hs; rfl)))))))))))))))))))))))))))))))))
  · refine ⟨_,
      (pss_one (ps_ret (pe_ifExp (pt_cmpR (eq3 K hr.units) (pv 1) pe_int (nomark _)) (pe_ix (ix3 K) (pe_ix (ix3 K) (pv 0) (pe_un un_neg pe_int) (fun _ _ => rfl)) pe_int (fun _ _ => rfl)) (pe_ix (ix3 K) (pe_ix (ix3 K) (pv 0) pe_int (fun _ _ => rfl)) pe_int (fun _ _ => rfl)))))
      , run3 (K := K) (C := T.C) (TL := TL) h fun us n q e hs => ?_⟩
    obtain ⟨cs, ⟨c1, c2⟩, ⟨d1, d2⟩, i, rfl, h1, h2, hq⟩ := hs
    rw [List.head?_eq_getElem?] at h1
    by_cases hi : i = 0
    · simp [ro0, hi, h2] at hq ⊢
      exact hq
    · simp [ro0, hi, h1] at hq ⊢
      exact hq
theorem ok_q_grown (T : Txt K mg) : FnOk P w K mg base CX0 1 T.q_grown.a T.q_grown.d ["least", "by", "size"] (toSp K T.C TL false sp_grown) := by
  refine T.q_grown.F.ok c_q_grown (fun vs H Q E h => toSp_len h fun us n q e hs => ?_) (fun cdv A outer s H vs Q E hr h => ?_)
  · (first | (obtain ⟨rfl, _⟩ := hs; rfl) | (obtain ⟨_, hs⟩ := hs; (first | (obtain ⟨rfl, _⟩ := hs; rfl) | (obtain ⟨_, hs⟩ := hs; (first | (obtain ⟨rfl, _⟩ := hs; rfl) | (obtain ⟨_, hs⟩ := hs; (first | (obtain ⟨rfl, _⟩ := hs; rfl) | (obtain ⟨_, hs⟩ := hs; (first | (obtain ⟨rfl, _⟩ := hs; rfl) | (obtain ⟨_, hs⟩ := hs; (first | (obtain ⟨rfl, _⟩ := hs; rfl) | (obtain ⟨_, hs⟩ := hs; (first | (obtain ⟨rfl, _⟩ := hs; rfl) | (obtain ⟨_, hs⟩ := hs; (first | (obtain ⟨rfl, _⟩ := hs; rfl) | (obtain ⟨_, hs⟩ := hs; (first | (obtain ⟨rfl, _⟩ := hs; rfl) | (obtain ⟨_, hs⟩ := hs; (first | (obtain ⟨rfl, _⟩ := hs; rfl) | (obtain ⟨_, hs⟩ := hs; (first | (obtain ⟨rfl, _⟩ := hs; rfl) | (obtain ⟨_, hs⟩ := hs; (first | (obtain ⟨rfl, _⟩ := hs; rfl) | (obtain ⟨_, hs⟩ := hs; (first | (obtain ⟨rfl, _⟩ := hs; rfl) | (obtain ⟨_, hs⟩ := hs; (first | (obtain ⟨rfl, _⟩ := hs; rfl) | (obtain ⟨_, hs⟩ := hs; (first | (obtain ⟨rfl, _⟩ := hs; rfl) | (obtain ⟨_, hs⟩ := hs; (first | (obtain ⟨rfl, _⟩ := hs; rfl) | (obtain ⟨_, hs⟩ := hs; (obtain ⟨rfl, _⟩ := hs; rfl)))))))))))))))))))))))))))))))))
  · refine ⟨_,
      (pss_one (ps_ret (pe_callB (max3 K rfl (hu_of hr)) (by rfl) T.z_max (by decide +kernel) (pa_cons (pv 0) (pa_cons (pe_op (add3 K) (pv 2) (pv 1)) pa_nil)))))
      , run3 (K := K) (C := T.C) (TL := TL) h fun us n q e hs => ?_⟩
    obtain ⟨l, b, s, rfl, hq⟩ := hs
    simp [ro0]
    exact hq
theorem ok_q_plain_by (T : Txt K mg) : FnOk P w K mg base CX0 2 T.q_plain_by.a T.q_plain_by.d ["stairs", "least", "by", "index"] (toSp K T.C TL false sp_plain) := by
  refine T.q_plain_by.F.ok c_q_plain_by (fun vs H Q E h => toSp_len h fun us n q e hs => ?_) (fun cdv A outer s H vs Q E hr h => ?_)
  · (first | (obtain ⟨rfl, _⟩ := hs; rfl) | (obtain ⟨_, hs⟩ := hs; (first | (obtain ⟨rfl, _⟩ := hs; rfl) | (obtain ⟨_, hs⟩ := hs; (first | (obtain ⟨rfl, _⟩ := hs; rfl) | (obtain ⟨_, hs⟩ := hs; (first | (obtain ⟨rfl, _⟩ := hs; rfl) | (obtain ⟨_, hs⟩ := hs; (first | (obtain ⟨rfl, _⟩ := hs; rfl) | (obtain ⟨_, hs⟩ := hs; (first | (obtain ⟨rfl, _⟩ := hs; rfl) | (obtain ⟨_, hs⟩ := hs; (first | (obtain ⟨rfl, _⟩ := hs; rfl) | (obtain ⟨_, hs⟩ := hs; (first | (obtain ⟨rfl, _⟩ := hs; rfl) | (obtain ⟨_, hs⟩ := hs; (first | (obtain ⟨rfl, _⟩ := hs; rfl) | (obtain ⟨_, hs⟩ := hs; (first | (obtain ⟨rfl, _⟩ := hs; rfl) | (obtain ⟨_, hs⟩ := hs; (first | (obtain ⟨rfl, _⟩ := hs; rfl) | (obtain ⟨_, hs⟩ := hs; (first | (obtain ⟨rfl, _⟩ := hs; rfl) | (obtain ⟨_, hs⟩ := hs; (first | (obtain ⟨rfl, _⟩ := hs; rfl) | (obtain ⟨_, hs⟩ := hs; (first | (obtain ⟨rfl, _⟩ := hs; rfl) | (obtain ⟨_, hs⟩ := hs; (first | (obtain ⟨rfl, _⟩ := hs; rfl) | (obtain ⟨_, hs⟩ := hs; (first | (obtain ⟨rfl, _⟩ := hs; rfl) | (obtain ⟨_, hs⟩ := hs; (obtain ⟨rfl, _⟩ := hs; rfl)))))))))))))))))))))))))))))))))
  · refine ⟨_,
      (pss_cons (ps_set (i := 4) c_q_plain_by.nd rfl (Or.inl rfl) (pe_call (ok_q_greatest T (TL := TL)) (hr.mono (by decide)) rfl T.q_greatest.g T.q_greatest.k T.q_greatest.b .nil pass0 (pa_cons (pv 0) (pa_cons (pv 3) pa_nil))))
      (pss_one (ps_ret (pe_ifExp (pt_cmpR op_isN3 (pv 4) pe_non (nomark _)) (pe_ix (ix3 K) (pv 2) (pv 3) (fun _ _ => rfl)) (pe_op op_sub (pe_call (ok_q_grown T (TL := TL)) (hr.mono (by decide)) rfl T.q_grown.g T.q_grown.k T.q_grown.b .nil pass0 (pa_cons (pe_ix (ix3 K) (pv 1) (pv 3) (fun _ _ => rfl)) (pa_cons (pe_ix (ix3 K) (pv 2) (pv 3) (fun _ _ => rfl)) (pa_cons (pv 4) pa_nil)))) (pv 4))))))
      , run3 (K := K) (C := T.C) (TL := TL) h fun us n q e hs => ?_⟩
    obtain ⟨cs, c, d, l, b, i, rfl, hi, h1, h2, hq⟩ := hs
    simp [ro0]
    refine ⟨cs, c.1, c.2, d.1, d.2, i, ⟨rfl, rfl⟩, h1, h2, ?_⟩
    rcases hi with rfl | rfl
    · cases e : d.1 <;> simp [e, plainB] at hq ⊢
      · exact hq
      · exact ⟨_, _, _, ⟨rfl, rfl, rfl⟩, hq⟩
    · cases e : c.2 <;> simp [e, plainB] at hq ⊢
      · exact hq
      · exact ⟨_, _, _, ⟨rfl, rfl, rfl⟩, hq⟩
theorem ok_q_body_behind (T : Txt K mg) : FnOk P w K mg base CX0 2 T.q_body_behind.a T.q_body_behind.d ["form", "body"] (toSp K T.C TL false sp_behind) := by
  refine T.q_body_behind.F.ok c_q_body_behind (fun vs H Q E h => toSp_len h fun us n q e hs => ?_) (fun cdv A outer s H vs Q E hr h => ?_)
  · (first | (obtain ⟨rfl, _⟩ := hs; rfl) | (obtain ⟨_, hs⟩ := hs; (first | (obtain ⟨rfl, _⟩ := hs; rfl) | (obtain ⟨_, hs⟩ := hs; (first | (obtain ⟨rfl, _⟩ := hs; rfl) | (obtain ⟨_, hs⟩ := hs; (first | (obtain ⟨rfl, _⟩ := hs; rfl) | (obtain ⟨_, hs⟩ := hs; (first | (obtain ⟨rfl, _⟩ := hs; rfl) | (obtain ⟨_, hs⟩ := hs; (first | (obtain ⟨rfl, _⟩ := hs; rfl) | (obtain ⟨_, hs⟩ := hs; (first | (obtain ⟨rfl, _⟩ := hs; rfl) | (obtain ⟨_, hs⟩ := hs; (first | (obtain ⟨rfl, _⟩ := hs; rfl) | (obtain ⟨_, hs⟩ := hs; (first | (obtain ⟨rfl, _⟩ := hs; rfl) | (obtain ⟨_, hs⟩ := hs; (first | (obtain ⟨rfl, _⟩ := hs; rfl) | (obtain ⟨_, hs⟩ := hs; (first | (obtain ⟨rfl, _⟩ := hs; rfl) | (obtain ⟨_, hs⟩ := hs; (first | (obtain ⟨rfl, _⟩ := hs; rfl) | (obtain ⟨_, hs⟩ := hs; (first | (obtain ⟨rfl, _⟩ := hs; rfl) | (obtain ⟨_, hs⟩ := hs; (first | (obtain ⟨rfl, _⟩ := hs; rfl) | (obtain ⟨_, hs⟩ := hs; (first | (obtain ⟨rfl, _⟩ := hs; rfl) | (obtain ⟨_, hs⟩ := hs; (first | (obtain ⟨rfl, _⟩ := hs; rfl) | (obtain ⟨_, hs⟩ := hs; (obtain ⟨rfl, _⟩ := hs; rfl)))))))))))))))))))))))))))))))))
  · refine ⟨_,
      (pss_one (ps_ret (pe_tup (pa_cons (pe_call (ok_q_grown T (TL := TL)) (hr.mono (by decide)) rfl T.q_grown.g T.q_grown.k T.q_grown.b .nil pass0 (pa_cons (pe_ix (ix3 K) (fld3 K (pv 0) rfl) pe_int (fun _ _ => rfl)) (pa_cons (pe_ix (ix3 K) (fld3 K (pv 0) rfl) pe_int (fun _ _ => rfl)) (pa_cons (pe_ix (ix3 K) (pv 1) pe_int (fun _ _ => rfl)) pa_nil)))) (pa_cons (pe_call (ok_q_grown T (TL := TL)) (hr.mono (by decide)) rfl T.q_grown.g T.q_grown.k T.q_grown.b .nil pass0 (pa_cons (pe_ix (ix3 K) (fld3 K (pv 0) rfl) pe_int (fun _ _ => rfl)) (pa_cons (pe_ix (ix3 K) (fld3 K (pv 0) rfl) pe_int (fun _ _ => rfl)) (pa_cons (pe_ix (ix3 K) (pv 1) pe_int (fun _ _ => rfl)) pa_nil)))) pa_nil)))))
      , run3 (K := K) (C := T.C) (TL := TL) h fun us n q e hs => ?_⟩
    obtain ⟨fs, l, b, s, rfl, h1, h2, hq⟩ := hs
    simp [ro0, h1, h2]
    exact ⟨_, _, _, ⟨rfl, rfl, rfl⟩, _, _, _, ⟨rfl, rfl, rfl⟩, hq⟩
end
end G21
set_option Elab.async false
set_option linter.all false
set_option maxRecDepth 100000
set_option maxHeartbeats 4000000
set_option synthInstance.maxSize 100000
set_option synthInstance.maxHeartbeats 0
namespace G21
open PySem PySem.Spec PyProof.Rows L2 V3
/-! ### an object is made: its fields are set one after another -/
theorem tabs_keep2 {TL : List (Addr × Str)} {H H' : Hp} (e : ∀ b o, ((∃ ps, o = HO.tbl ps) ∨ ∃ f, o = HO.ext f) → H b = some o → H' b = some o) (h : LamX.Tabs TL H) : LamX.Tabs TL H' := fun q hq => by
  obtain ⟨ps, h1, h2, h3⟩ := h q hq
  refine ⟨ps, e _ _ (.inl ⟨_, rfl⟩) h1, h2, fun pos cv hc => ?_⟩
  obtain ⟨c, e3, e4⟩ := h3 pos cv hc
  exact ⟨c, e3, e _ _ (.inr ⟨_, rfl⟩) e4⟩
def initAm (am : Am) (m : Addr) (E : XK) : Am := { am with R := { am.R with hid := fun a => a = m ∨ am.R.hid a }, Hs := fun _ => none, O0 := fun a => ∃ d g c, am.R.dr = some (d, g, c) ∧ (a = d ∨ a = g), E := E, e := fun _ => False }
theorem init_rep {am : Am} {m : Addr} {E : XK} {O : Addr → Prop} {H : Hp} {v : V} {u : U} (h : RepU am O H v u) : RepU (initAm am m E) O H v u := by
  cases u <;> exact h
/-- between two statements of __init__ -/
structure IniS (am : Am) (E : XK) (m dx : Addr) (H0 : Hp) (fs : List (Str × D)) (ro : Ro) (n : Nat) (σ : L2.St) (H : Hp) : Prop where
  rl : Rl (initAm am m E) ro n σ H
  sf : σ[0]? = some (some (.ref m))
  nm : ∀ d g c, am.R.dr = some (d, g, c) → m ≠ d ∧ m ≠ g ∧ m ≠ c
  hd : ∀ d g c, am.R.dr = some (d, g, c) → am.R.hid d ∧ am.R.hid g ∧ am.R.hid c
  ob : ∃ vs, H m = some (.ins am.C dx vs) ∧ RpFs am.K (cut (fun a => a = m ∨ am.R.hid a) H) vs fs
  fr : ∀ b o, b ≠ m → (∀ d g c, am.R.dr = some (d, g, c) → b ≠ d ∧ b ≠ g) → (∀ ps, o ≠ HO.tbl ps) → H0 b = some o → H b = some o
theorem IniS.step {am : Am} {E : XK} {m dx : Addr} {H0 H H' : Hp} {fs : List (Str × D)} {ro : Ro} {n n' : Nat} {σ : L2.St} (i : IniS am E m dx H0 fs ro n σ H) (f : FrR (initAm am m E).R H H') (w : Wd (initAm am m E).R am.TL H' n') : IniS am E m dx H0 fs ro n' σ H' where
  rl := i.rl.step f w
  sf := i.sf
  nm := i.nm
  hd := i.hd
  ob := by
    obtain ⟨vs, h1, h2⟩ := i.ob
    refine ⟨vs, f.1 m _ (fun d g c q => ⟨(i.nm d g c q).1, (i.nm d g c q).2.1⟩) (fun ps z => by cases z) h1, h2.le (Le.cut (fun a z => .inl z) fun a o hn t e => f.1 a o (fun d g c q => ?_) t e)⟩
    obtain ⟨a1, a2, _⟩ := i.hd d g c q
    exact ⟨fun z => hn (.inr (z ▸ a1)), fun z => hn (.inr (z ▸ a2))⟩
  fr := fun b o h1 h2 h3 e => f.1 b o h2 h3 (i.fr b o h1 h2 h3 e)
theorem putF_app {f : Str} {v : V} {K : PySem.W.Frag} {H : Hp} {d : D} : ∀ {vs : List (Str × V)} {fs : List (Str × D)}, RpFs K H vs fs → getF f fs = none → Rp K H v d → RpFs K H (putF f v vs) (fs ++ [(f, d)])
  | [], [], _, _, r => ⟨rfl, r, trivial⟩
  | (x, w) :: vs, (y, b) :: fs, ⟨h1, h2, h3⟩, e, r => by
    subst h1
    unfold getF at e
    rw [List.lookup_cons] at e
    cases q : f == x with
    | true =>
      rw [q] at e
      cases e
    | false =>
      rw [q] at e
      have ne : x ≠ f := fun z => by
        rw [z] at q
        simp at q
      show RpFs K H (if x = f then (x, v) :: vs else (x, w) :: putF f v vs) ((x, b) :: (fs ++ [(f, d)]))
      rw [if_neg ne]
      exact ⟨rfl, h2, putF_app h3 e r⟩
  | [], _ :: _, h, _, _ => h.elim
  | _ :: _, [], h, _, _ => h.elim
theorem putF_len (f : Str) (v : V) : ∀ vs : List (Str × V), vs.length < 1000 → True := fun _ _ => trivial
theorem IniS.put {am : Am} {E : XK} {m dx : Addr} {H0 H : Hp} {fs : List (Str × D)} {ro : Ro} {n : Nat} {σ : L2.St} {f : Str} {v : V} {d : D} {vs : List (Str × V)} (i : IniS am E m dx H0 fs ro n σ H) (h1 : H m = some (.ins am.C dx vs)) (h2 : RpFs am.K (cut (fun a => a = m ∨ am.R.hid a) H) vs fs)
    (e : getF f fs = none) (r : Rp am.K (cut (fun a => a = m ∨ am.R.hid a) H) v d) : IniS am E m dx H0 (fs ++ [(f, d)]) ro n σ (upd H m (.ins am.C dx (putF f v vs))) where
  rl := {
    len := i.rl.len
    fz := fun j u z => by
      obtain ⟨v, q1, q2⟩ := i.rl.fz j u z
      refine ⟨v, q1, q2.le (Le.cut (fun a z => .inl z) fun a o hn _ e => ?_)⟩
      have ne : a ≠ m := fun z => hn (.inl (.inl z))
      rw [upd_ne ne]
      exact e
    ow := fun j ds z => by
      obtain ⟨p, ws, q1, q2, q3, q4⟩ := i.rl.ow j ds z
      have ne : p ≠ m := fun z => q2.2 (.inl z)
      refine ⟨p, ws, q1, q2, by rw [upd_ne ne]; exact q3, RpAll.le (Le.cut (fun a z => .inl z) fun a o hn _ e => ?_) _ _ q4⟩
      have ne : a ≠ m := fun z => hn (.inl (.inl z))
      rw [upd_ne ne]
      exact e
    nd := i.rl.nd
    od := i.rl.od
    gr := ⟨fun _ _ _ _ z => (by cases z), fun _ ⟨_, z, _⟩ => (by cases z)⟩
    wd := {
      hid := fun a z => by
        by_cases ne : a = m
        · rw [ne]
          exact ⟨_, upd_same, fun ps z => by cases z⟩
        · obtain ⟨o, q1, q2⟩ := i.rl.wd.hid a z
          exact ⟨o, by rw [upd_ne ne]; exact q1, q2⟩
      tabs := tabs_keep2 (fun b o h q => by
        have ne : b ≠ m := fun z => by
          rw [z, h1] at q
          cases q
          rcases h with ⟨_, y⟩ | ⟨_, y⟩ <;> cases y
        rw [upd_ne ne]
        exact q) i.rl.wd.tabs
      dr := fun d g c q => by
        obtain ⟨a1, a2, a3, tt, ht, hr⟩ := i.rl.wd.dr d g c q
        refine ⟨a1, a2, a3, tt, ht, hr.same fun b o hb q' => ?_⟩
        obtain ⟨n1, n2, n3⟩ := i.nm d g c q
        have ne : b ≠ m := by
          rcases hb with z | z | z
          · exact fun y => n1 (y.symm.trans z)
          · exact fun y => n2 (y.symm.trans z)
          · exact fun y => n3 (y.symm.trans z)
        rw [upd_ne ne]
        exact q' }
    ex := i.rl.ex }
  sf := i.sf
  nm := i.nm
  hd := i.hd
  ob := by
    have c : Le (cut (fun a => a = m ∨ am.R.hid a) H) (cut (fun a => a = m ∨ am.R.hid a) (upd H m (.ins am.C dx (putF f v vs)))) := Le.cut (fun a z => .inl z) fun a o hn _ e => by
      have ne : a ≠ m := fun z => hn (.inl z)
      rw [upd_ne ne]
      exact e
    exact ⟨_, upd_same, putF_app (h2.le c) e (Rp.le c _ _ r)⟩
  fr := fun b o h1 h2 h3 e => by
    rw [upd_ne h1]
    exact i.fr b o h1 h2 h3 e
theorem fs_len {K : PySem.W.Frag} {H : Hp} : ∀ {vs : List (Str × V)} {fs : List (Str × D)}, RpFs K H vs fs → vs.length = fs.length
  | [], [], _ => rfl
  | (_, _) :: _, (_, _) :: _, ⟨_, _, h⟩ => by rw [List.length_cons, List.length_cons, fs_len h]
  | [], _ :: _, h => h.elim
  | _ :: _, [], h => h.elim
theorem use_ifI {K : PySem.W.Frag} {C : Addr} {TL : List (Addr × Str)} {E : XK} {c : TT} {t1 t2 u : TS} {mc : TT3} {D : Ends} {am : Am} {m dx : Addr} {H0 H : Hp} {fs : List (Str × V3.D)} {ro : Ro} {n : Nat} {σ : L2.St} [hc : V3.LT K C TL E c mc] (hE : am.K = K ∧ am.TL = TL ∧ am.C = C)
    (i : IniS am E m dx H0 fs ro n σ H) (b0 : Bool) (hm : mc ro n (fun b n' => b = b0 ∧ n' = n) (fun _ => False)) (k : ∀ H', IniS am E m dx H0 fs ro n σ H' → if b0 = true then t1 { D with nx := u D } σ H' else t2 { D with nx := u D } σ H') : tSeq (tIfS c t1 t2) u D σ H :=
  hc.s (initAm am m E) ro n σ H ⟨hE.1, hE.2.1, rfl, hE.2.2⟩ i.rl _ _ hm fun b n' H' q f w => by
    obtain ⟨rfl, rfl⟩ := q
    exact k H' (i.step f w)
theorem use_fldI {K : PySem.W.Frag} {C : Addr} {TL : List (Addr × Str)} {E : XK} {tv : TE} {f : Str} {S : List Nat} {mc : TE3} {D : Ends} {am : Am} {m dx : Addr} {H0 H : Hp} {fs : List (Str × V3.D)} {ro : Ro} {n : Nat} {σ : L2.St} [hc : LE K C TL E tv S mc] [hf : FieldC K C f] (hE : am.K = K ∧ am.TL = TL ∧ am.C = C)
    (i : IniS am E m dx H0 fs ro n σ H) (d : V3.D) (hl : fs.length < 900) (he : getF f fs = none) (hm : mc ro n (fun fr u n' => u = .d d ∧ n' = n) (fun _ => False)) (k : ∀ H', IniS am E m dx H0 (fs ++ [(f, d)]) ro n σ H' → D.nx σ H') : sFld K (tVar 0) tv f D σ H :=
  hc.s (initAm am m E) ro n σ H ⟨hE.1, hE.2.1, rfl, hE.2.2⟩ i.rl _ _ hm fun fr u n' v H' q ff w r => by
    obtain ⟨rfl, rfl⟩ := q
    have i2 := i.step ff w
    obtain ⟨vs, h1, h2⟩ := i2.ob
    obtain ⟨rfl, rfl, rfl⟩ := hE
    refine ⟨.ref m, i.sf, m, am.C, dx, vs, rfl, h1, am.cls, hf.n, by rw [fs_len h2]; omega, k _ (i2.put h1 h2 he ?_)⟩
    exact Rp.le (Le.cutSub fun a z => .inl z) _ _ r.1
end G21
set_option Elab.async false
set_option linter.all false
set_option maxRecDepth 100000
set_option maxHeartbeats 4000000
/-! sorted(xs, key = f) by values, with the order told -/
namespace V3
open PySem PySem.Spec PyProof.Rows L2
/-- a tuple's items are its own -/
def SqF (K : PySem.W.Frag) (H : Hp) : Prop := ∀ (a : Addr) (xs ys : List V), SqT K H a xs → SqT K H a ys → xs = ys
def rSortU (P : Program) (w : World) (K : PySem.W.Frag) (mg : Str → Option Value) (base : Heap) (k d : Nat) : List V → List V → Hp → VK → Prop := fun vs zs H Q => SqF K H → GS.rSortK P w K mg base k d vs zs H Q
theorem sortU3 {X : Cx} {P : Program} {w : World} (K : PySem.W.Frag) {mg : Str → Option Value} {base : Heap} {k d : Nat} (hd : 1 ≤ d) (hr : Room (k + 1) X.A) (h : X.K = K := by rfl) (h1 : X.prog = P := by rfl) (h2 : X.w = w := by rfl) (h3 : X.mg = mg := by rfl) (h4 : X.base = base := by rfl) :
    CallRK X (.builtin "sorted") ["key"] (rSortU P w K mg base k d) := by
  intro pins s σ H vs zs us ws Q I r1 r2 z
  exact sortK3 (X := X) K hd hr h h1 h2 h3 h4 pins s σ H vs zs us ws Q I r1 r2 (z fun a xs ys p q => I.tuple_inj (h ▸ p) (h ▸ q))
mutual
theorem rp_one {K : PySem.W.Frag} {H : Hp} (F : SqF K H) : ∀ (d d' : D) (v : V), flat d = true → flat d' = true → Rp K H v d → Rp K H v d' → d = d'
  | .none, _, _, _, f, h, g => by
    cases h
    cases g
    rfl
  | .bool b, _, _, _, f, h, g => by
    cases h
    cases g
    rfl
  | .int i, _, _, _, f, h, g => by
    cases h
    cases g
    rfl
  | .str x, _, _, _, f, h, g => by
    cases h
    cases g
    rfl
  | .list ds, _, _, e, _, _, _ => by cases e
  | .dict ds, _, _, e, _, _, _ => by cases e
  | .tuple ds, d', _, e, f, h, g => by
    cases h with
    | tup hs ha =>
      cases g with
      | tup gs ga =>
        have z := F _ _ _ hs gs
        subst z
        rw [rp_ones F ds _ _ e f ha ga]
      | lst gs ga => cases f
      | dnil gs => cases f
theorem rp_ones {K : PySem.W.Frag} {H : Hp} (F : SqF K H) : ∀ (ds ds' : List D) (vs : List V), flatAll ds = true → flatAll ds' = true → RpAll K H vs ds → RpAll K H vs ds' → ds = ds'
  | [], _, _, _, _, h, g => by
    cases h
    cases g
    rfl
  | d :: ds, ds', _, e, f, h, g => by
    have e2 : (flat d && flatAll ds) = true := e
    rw [Bool.and_eq_true] at e2
    cases h with
    | cons h1 h2 =>
      cases g with
      | cons g1 g2 =>
        rename_i d' es'
        have f2 : (flat d' && flatAll es') = true := f
        rw [Bool.and_eq_true] at f2
        rw [rp_one F d _ _ e2.1 f2.1 h1 g1, rp_ones F ds _ _ e2.2 f2.2 h2 g2]
end
theorem rp_map {K : PySem.W.Frag} {H : Hp} (F : SqF K H) {kv : V → D} : ∀ {ys : List V} {es : List D}, (∀ v ∈ ys, flat (kv v) = true) → (∀ x ∈ es, flat x = true) → (∀ v ∈ ys, Rp K H v (kv v)) → RpAll K H ys es → es = ys.map kv
  | _, [], _, _, _, h => by
    cases h
    rfl
  | _, e :: es, a, b, c, h => by
    cases h with
    | cons h1 h2 =>
      rw [List.map_cons, rp_one F e _ _ (b _ List.mem_cons_self) (a _ List.mem_cons_self) h1 (c _ List.mem_cons_self), ← rp_map F (fun v hv => a v (List.mem_cons_of_mem _ hv)) (fun x hx => b x (List.mem_cons_of_mem _ hx)) (fun v hv => c v (List.mem_cons_of_mem _ hv)) h2]
section
variable {K : PySem.W.Frag} {C : Addr} {TL : List (Addr × Str)} {E : XK}
@[simp ↓] def mSortU (P : Program) (w : World) (K : PySem.W.Frag) (mg : Str → Option Value) (base : Heap) (k d : Nat) (qn : Str) (params : Arguments) (body : Expr) (scope : Scope) (me : TE3) : TE3 := fun ρ n q e => me ρ n (fun _ u n1 => askL u fun xs => ∃ (dom : D → Prop) (kz : D → List Int),
  GS.LamRun P w K mg base CX0 k qn params body scope 1 (spKeyD K dom kz) ∧ (∀ x ∈ xs, dom x ∧ (kz x).length = d ∧ isTup x = true ∧ flat x = true) ∧ ∀ ys : List D, ys.Perm xs → ys.Pairwise (fun x y => HT.lexLt (kz y) (kz x) = false) → q true (.d (.list ys)) n1) e
open Classical in
instance (priority := high) {P : Program} {w : World} {mg : Str → Option Value} {base : Heap} {k d : Nat} {qn : Str} {params : Arguments} {body : Expr} {scope : Scope} {te : TE} {S : List Nat} {me : TE3} [he : LE K C TL E te S me] :
    LE K C TL E (tCKw (rSortU P w K mg base k d) (tCons te tNil) (tCons (GS.tLamV TL qn params body scope) tNil)) S (mSortU P w K mg base k d qn params body scope me) where
  s am ρ n σ H hE h Q q hm kk := by
    obtain ⟨rfl, rfl, rfl, rfl⟩ := id hE
    refine he.s am ρ n σ H hE h _ _ hm fun fr u n1 v H1 hq f1 w1 r1 => ?_
    have h1 := h.step f1 w1
    obtain ⟨xs, a, vs, rfl, rfl, a1, a2, dom, kz, run, hdom, hq⟩ := askL_rep hq r1.1
    refine ⟨h1.wd.tabs, fun H2 f c' ext tabs hf hc => ?_⟩
    have le12 : Le H1 H2 := fun b o t e => ext b o e t
    have hc2 : ∀ (o : HO), Le H1 (upd H2 f o) := fun o => le12.trans (Le.of (same_new hf))
    have cutle : ∀ (O : Addr → Prop) (o : HO), Le (cut O H1) (cut O (upd H2 f o)) := fun O o => Le.cut (fun a z => .inl z) fun a o' _ t e => hc2 o a o' t e
    let kv : V → D := fun v => if g : ∃ x ∈ xs, Rp am.K (cut (Hid am (dem S ρ) σ) H1) v x then choose g else .none
    have kvs : ∀ v ∈ vs, kv v ∈ xs ∧ Rp am.K (cut (Hid am (dem S ρ) σ) H1) v (kv v) := fun v hv => by
      have g := rp_mem a2 hv
      have e : kv v = choose g := dif_pos g
      rw [e]
      exact ⟨(choose_spec g).1, (choose_spec g).2⟩
    intro F
    refine ⟨a, f, c', qn, params, body, scope, vs, fun v => kz (kv v), spKeyD am.K dom kz, rfl, rfl, SqL.of ?_, fun v hv => ?_, upd_same, same_new hf _ _ hc, run, fun v hv => ?_, fun ys p H3 s3 hp perm srt => ?_⟩
    · exact hc2 _ _ _ (fun ps z => by cases z) (cut_some.mp a1).2
    · obtain ⟨m1, m2⟩ := kvs v hv
      obtain ⟨_, _, it, _⟩ := hdom _ m1
      cases e : kv v with
      | tuple ds =>
        rw [e] at m2
        cases m2
        exact ⟨_, rfl⟩
      | _ =>
        rw [e] at it
        cases it
    · obtain ⟨m1, m2⟩ := kvs v hv
      obtain ⟨d1, d2, _, _⟩ := hdom _ m1
      refine ⟨d2, fun H4 s4 => ⟨v, kv v, rfl, d1, ?_, fun t ht => ⟨t, rfl, same_new ht, upd_same⟩⟩⟩
      exact Rp.le (Le.cutAll.trans ((hc2 _).trans (Le.of s4))) _ _ m2
    · have f4 : FrR am.R H1 (upd H3 p (.lst ys)) := .le ((hc2 _).trans ((Le.of s3).trans (Le.of (same_new hp))))
      have w4 : Wd am.R am.TL (upd H3 p (.lst ys)) n1 := {
        hid := fun a z => ((hc2 _).trans ((Le.of s3).trans (Le.of (same_new hp)))).there (w1.hid a z)
        tabs := (tabs.ext (same_new hf)).ext fun b o e => same_new hp b o (s3 b o e)
        dr := fun d g c q => by
          obtain ⟨b1, b2, b3, t, b4, b5⟩ := w1.dr d g c q
          obtain ⟨gs, cs, m, c1, c2, c3, r⟩ := b5
          have kp := (hc2 (GS.LamO c' qn params body scope f)).trans ((Le.of s3).trans (Le.of (same_new (o := .lst ys) hp)))
          exact ⟨b1, b2, b3, t, b4, gs, cs, m, kp _ _ (fun ps z => by cases z) c1, kp _ _ (fun ps z => by cases z) c2, kp _ _ (fun ps z => by cases z) c3, r⟩ }
      obtain ⟨es, e1, e2⟩ := rp_perm perm a2
      have np : New H1 p := fun ⟨o, q1, q2⟩ => by
        have z := s3 _ _ (hc2 _ _ _ q2 q1)
        rw [hp] at z
        cases z
      have no : ¬ Hid am (dem S ρ) σ p := (h1.dem S).new np
      have L : Le (cut (Hid am (dem S ρ) σ) H1) (cut (Hid am (dem S ρ) σ) (upd H3 p (.lst ys))) := Le.cut (fun a z => .inl z) fun a o' _ t e => same_new hp _ _ (s3 _ _ (hc2 _ _ _ t e))
      have ek : es = ys.map kv := rp_map F (fun v hv => (hdom _ ((kvs v (perm.mem_iff.mp hv)).1)).2.2.2) (fun x hx => (hdom _ (e1.mem_iff.mp hx)).2.2.2) (fun v hv => Rp.le (Le.cutAll.trans (hc2 _)) _ _ (kvs v (perm.mem_iff.mp hv)).2) (RpAll.le (Le.cutAll.trans (hc2 _)) _ _ e2)
      refine kk _ _ n1 _ _ (hq es e1 (by rw [ek]; exact List.pairwise_map.mpr srt)) (f1.trans f4) w4 (RepV.back h f1 h1 ⟨Rp.lst (cut_some.mpr ⟨no, upd_same⟩) (RpAll.le L _ _ e2), fun _ => ⟨p, ys, es, rfl, rfl, np, upd_same, ?_⟩⟩)
      refine RpAll.le (Le.cut (fun a z => ?_) fun a o' _ t e => same_new hp _ _ (s3 _ _ (hc2 _ _ _ t e))) _ _ e2
      rcases z with z | z
      · exact .inr (z ▸ np)
      · exact .inl z
end
end V3
set_option Elab.async false
set_option linter.all false
set_option maxRecDepth 100000
set_option maxHeartbeats 4000000
set_option synthInstance.maxSize 100000
set_option synthInstance.maxHeartbeats 0
namespace G21
open PySem PySem.Spec PyProof.Rows L2 V3
def stairQ : Str := Str.ofString "_law_staircase.<locals>.<lambda>"
/-- law's staircase, its code and its table of lambdas -/
structure TzS {K : PySem.W.Frag} {mg : Str → Option Value} (T : Txt K mg) (base : Heap) (TL : List (Addr × Str)) where
  c : Addr
  P : Addr
  h : T.l_staircase.d.code = .ref c
  TBstaircase : LamX.TabB base mg c P
  mstaircase : (P, stairQ) ∈ TL
  ustaircase : ∀ p ∈ TL, p.1 = P → p.2 = stairQ
@[simp ↓] def sp_stair : VSp := fun us n q _ => ∃ (x : D) (cs : List Co), us = [.d x] ∧ asL x = some (cs.map cD) ∧ cs.length ≤ 300 ∧ ∀ cs' : List Co, Can cs' → (∀ c ∈ cs', c ∈ cs) → (∀ c ∈ cs, ∃ d ∈ cs', leC c d) → cs'.length ≤ cs.length → q (.d (.tuple (cs'.map cD))) n
theorem flat_cos (cs : List Co) : V3.flatAll (cs.map cD) = true := by
  induction cs with
  | nil => rfl
  | cons c cs ih =>
    show (V3.flat (cD c) && V3.flatAll (cs.map cD)) = true
    rw [ih]
    obtain ⟨a, b⟩ := c
    cases a <;> cases b <;> rfl
theorem flat_cD (c : Co) : V3.flat (cD c) = true := by
  obtain ⟨a, b⟩ := c
  cases a <;> cases b <;> rfl
theorem lay_cos : ∀ cs : List Co, PyData.canLayAll0 (cs.map cD) = true
  | [] => by simp [PyData.canLayAll0]
  | c :: cs => by
    obtain ⟨a, b⟩ := c
    rw [List.map_cons]
    cases a <;> cases b <;> simp [cD, oD, PyData.canLayAll0, PyData.canLay0, lay_cos cs]
theorem deep_cos : ∀ cs : List Co, PyData.depthAll (cs.map cD) ≤ 1
  | [] => by simp [PyData.depthAll]
  | c :: cs => by
    have ih := deep_cos cs
    obtain ⟨a, b⟩ := c
    rw [List.map_cons]
    cases a <;> cases b <;> simp only [cD, oD, PyData.depthAll, PyData.depth] <;> omega
theorem shaped_cos (cs : List Co) : SeqAt.shaped (.list (cs.map cD)) = true := by
  have h := deep_cos cs
  have h3 : PyData.depth (.list (cs.map cD)) ≤ 64 := by
    simp only [PyData.depth]
    omega
  simp [SeqAt.shaped, PyData.canLay0, lay_cos cs, h3]
theorem shaped_cD (c : Co) : SeqAt.shaped (cD c) = true := by
  obtain ⟨a, b⟩ := c
  cases a <;> cases b <;> simp [SeqAt.shaped, cD, oD, PyData.canLay0, PyData.canLayAll0, PyData.depth, PyData.depthAll]
theorem shaped_cT (cs : List Co) : SeqAt.shaped (.tuple (cs.map cD)) = true := by
  have h := deep_cos cs
  have h3 : PyData.depth (.tuple (cs.map cD)) ≤ 64 := by
    simp only [PyData.depth]
    omega
  simp [SeqAt.shaped, PyData.canLay0, lay_cos cs, h3]
/-- a loop over a list of data: what is done, what is left -/
theorem forL_map {is : List Nat} {tup : Bool} {mb : TS3} {F : En3} {e : Addr → Prop} {α : Type} (D0 : α → D) (I : List α → List α → Ro → Nat → Prop) :
    ∀ (left done : List α) (ρ : Ro) (n : Nat), (∀ done ρ m, I done [] ρ m → F.nx ρ m) →
    (∀ done x left ρ m (G : Ro → Nat → Prop), (∀ ρ' m', I (done ++ [x]) left ρ' m' → G ρ' m') → I done (x :: left) ρ m → giv is tup (D0 x) ρ fun ρ' => mb { F with nx := G, ct := G, bk := F.nx } ρ' m e) →
    I done left ρ n → forL is tup mb F e (left.map D0) ρ n
  | [], done, ρ, n, h0, _, i => h0 done ρ n i
  | x :: left, done, ρ, n, h0, hs, i => hs done x left ρ n _ (fun ρ' m' i' => forL_map D0 I left (done ++ [x]) ρ' m' h0 hs i') i
def keyC : D → List Int
  | .tuple (.none :: _) => [1, 0]
  | .tuple (.int n :: _) => [0, n]
  | _ => []
theorem keyC_at (c : Co) : keyC (cD c) = rankN c.1 := by
  obtain ⟨a, b⟩ := c
  cases a <;> rfl
theorem rankN_len (p : Option Int) : (rankN p).length = 2 := by cases p <;> rfl
theorem perm_map {α β : Type} {f : α → β} {xs : List α} {ys : List β} (h : ys.Perm (xs.map f)) : ∃ zs : List α, ys = zs.map f ∧ zs.Perm xs := by
  generalize e : xs.map f = ws at h
  induction h generalizing xs with
  | nil =>
    cases xs with
    | nil => exact ⟨[], rfl, .refl _⟩
    | cons _ _ => cases e
  | cons y _ ih =>
    cases xs with
    | nil => cases e
    | cons x xs =>
      injection e with e1 e2
      subst e1
      obtain ⟨zs, rfl, p⟩ := ih e2
      exact ⟨x :: zs, rfl, p.cons _⟩
  | swap y y' l =>
    match xs, e with
    | x :: x' :: xs, e =>
      injection e with e1 e2
      injection e2 with e2 e3
      subst e1 e2 e3
      exact ⟨x' :: x :: xs, rfl, .swap _ _ _⟩
  | trans _ _ ih1 ih2 =>
    obtain ⟨zs, rfl, p⟩ := ih2 e
    obtain ⟨ws, rfl, p2⟩ := ih1 rfl
    exact ⟨ws, rfl, p2.trans p⟩
/-- a comprehension of which it does not matter which items it takes -/
theorem lcL_sub {is : List Nat} {tup : Bool} {mt : TT3} {me : TE3} {ρ : Ro} {e : Addr → Prop} (R : D → Prop) : ∀ (ds : List D) (n : Nat) (q : List D → Nat → Prop),
    (∀ d ∈ ds, ∀ (m : Nat) (Kt : D → Nat → Prop) (Ks : Nat → Prop), (∀ x, R x → Kt x m) → Ks m → giv is tup d ρ fun ρ' => mt ρ' m (fun b n1 => if b = true then me ρ' n1 (fun _ u n2 => match u with
      | .d x => Kt x n2
      | _ => False) e else Ks n1) e) → (∀ xs : List D, xs.length ≤ ds.length → (∀ x ∈ xs, R x) → q xs n) → lcL is tup mt me ρ e ds n q
  | [], n, q, _, h => h [] (Nat.le_refl _) (fun x z => by cases z)
  | d :: ds, n, q, hit, h => by
    refine hit d (List.mem_cons_self ..) n (fun x n2 => lcL is tup mt me ρ e ds n2 fun xs n3 => q (x :: xs) n3) (fun n1 => lcL is tup mt me ρ e ds n1 q) (fun x hx => ?_) ?_
    · refine lcL_sub R ds n _ (fun y hy m Kt Ks k1 k2 => hit y (List.mem_cons_of_mem _ hy) m Kt Ks k1 k2) fun xs hl hxs => h _ (by simp; exact hl) fun y hy => ?_
      rcases List.mem_cons.mp hy with z | z
      · rw [z]
        exact hx
      · exact hxs y z
    · exact lcL_sub R ds n _ (fun y hy m Kt Ks k1 k2 => hit y (List.mem_cons_of_mem _ hy) m Kt Ks k1 k2) fun xs hl hxs => h xs (by simp; omega) hxs
theorem ones_shaped {xs : List D} (h : ∀ x ∈ xs, x = .int 1) : SeqAt.shaped (.list xs) = true := by
  have e : xs = (xs.map fun _ => (1 : Int)).map PyData.int := by
    rw [List.map_map]
    exact (List.map_id' xs).symm.trans (List.map_congr_left fun x hx => h x hx)
  rw [e]
  exact shaped_ints _
theorem eqv_cD (o c : Co) : PyData.eqv (cD o) (cD c) = decide (o = c) := by
  obtain ⟨a, b⟩ := o
  obtain ⟨a', b'⟩ := c
  cases a <;> cases b <;> cases a' <;> cases b' <;> simp [PyData.eqv, PyData.eqvAll, cD, oD]
  all_goals
    rw [Bool.eq_iff_iff]
    simp
theorem any_cD (fs : List Co) (c : Co) : ((fs.map cD).any fun z => PyData.eqv z (cD c)) = decide (c ∈ fs) := by
  rw [List.any_map, Bool.eq_iff_iff, List.any_eq_true, decide_eq_true_eq]
  refine ⟨fun ⟨o, ho, e⟩ => ?_, fun h => ⟨c, h, ?_⟩⟩
  · have e : PyData.eqv (cD o) (cD c) = true := e
    rw [eqv_cD, decide_eq_true_eq] at e
    exact e ▸ ho
  · show PyData.eqv (cD c) (cD c) = true
    rw [eqv_cD]
    simp
theorem rank_le {p q : Option Int} (h : HT.lexLt (rankN q) (rankN p) = false) : leO p q := by
  cases p with
  | none =>
    cases q with
    | none => trivial
    | some b =>
      exfalso
      simp [rankN, HT.lexLt_cons] at h
  | some a =>
    cases q with
    | none => trivial
    | some b =>
      simp [rankN, HT.lexLt_cons] at h
      show a ≤ b
      by_cases e : b = a
      · omega
      · simp [e] at h
        omega
section
variable {P : Program} {w : World} {K : PySem.W.Frag} {mg : Str → Option Value} {base : Heap} {TL : List (Addr × Str)}
theorem ok_l_staircase (T : Txt K mg) (Y : TzS T base TL) : FnOk P w K mg base CX0 6 T.l_staircase.a T.l_staircase.d ["corners"] (toSp K T.C TL false sp_stair) := by
  refine okC T.l_staircase.F Y.h c_l_staircase (fun vs H Q E h => toSp_len h fun us n q e hs => ?_) (fun A outer s H vs Q E hr h => ?_)
  · obtain ⟨x, cs, rfl, _⟩ := hs
    rfl
  · refine ⟨_,
      (pss_cons (ps_set (i := 1) c_l_staircase.nd rfl (Or.inl rfl) (pe_lst pa_nil))
      (pss_cons (ps_for PassesOwn.never rfl (seq3 K (pv 0)) (pg_name (i := 2) c_l_staircase.nd rfl (Or.inr rfl))
      (pss_one (ps_if (PW.pt (pw_and (pt_cmpR (eq3 K hr.units) (pe_lc (own := [("other", 3)]) (g := gName 3) (by rfl) c_l_staircase.nd (seq3 K (pv 0)) (blkOk_by (own := [("other", 3)]) (N := N_l_staircase) (sc := defScope S_l_staircase) (by decide +kernel)) (fun _ _ _ _ _ => pg_name (i := 3) c_l_staircase.nd rfl (Or.inl rfl)) (fun _ _ _ _ _ => (pts_one (PW.pt (pw_and (pt_cmpR (ne3 K hr.units) (pv 3) (pv 2) (nomark _)) (pw_and1 (pt_val (pe_call (ok_l_holds T (TL := TL)) (hr.mono (by decide)) rfl T.l_holds.g T.l_holds.k T.l_holds.b .nil pass0 (pa_cons (pv 3) (pa_cons (pv 2) pa_nil))))))))) (fun _ _ _ _ _ => pe_int)) (pe_lst pa_nil) (nomark _)) (pw_and1 (pt_cmpR (notIn3 K (un65 hr)) (pv 2) (pv 1) rfl))))
      (pss_one (ps_expr (bm3 K PySem.F.plainAttrs_list PySem.F.slot_list_append PySem.F.type_list_append mt_append (pv 1) (pa_cons (pv 2) pa_nil))))
      pss_nil)))
      (pss_one (ps_ret (pe_callTy (tup3 K) (by rfl) T.z_tuple (by decide +kernel) (pa_cons (pe_callBK (sortU3 (P := P) (w := w) (mg := mg) (base := base) K (k := 2) (d := 2) (by decide) (hr.mono (by decide))) rfl T.z_sorted (by decide +kernel) (pa_cons (pv 1) pa_nil) (pk_cons (GS.pe_lamV (T := TL) Y.TBstaircase rfl Y.mstaircase Y.ustaircase rfl (by decide +kernel)) pk_nil)) pa_nil))))))
      , run3 (K := K) (C := T.C) (TL := TL) h fun us n q e hs => ?_⟩
    obtain ⟨x, cs, rfl, hx, hl, hq⟩ := hs
    cases x <;> cases hx <;> simp [ro0]
    all_goals
      refine forL_map cD (fun done left ρ m => ∃ (fs : List Co) (z1 z2 : Sl) (u : U), m = n ∧ ρ = [.fz u, .ow (fs.map cD), z1, z2] ∧ (u = .d (.list (cs.map cD)) ∨ u = .d (.tuple (cs.map cD))) ∧ fs.Nodup ∧ (∀ c, c ∈ fs ↔ c ∈ done ∧ maxC cs c) ∧ done ++ left = cs ∧ fs.length ≤ done.length) cs [] _ _ ?_ ?_ ?_
      · rintro done ρ m ⟨fs, z1, z2, u, rfl, rfl, hu, h1, h2, h3, h4⟩
        rw [List.append_nil] at h3
        subst h3
        simp
        refine ⟨fun x => ∃ c : Co, x = cD c, keyC, ?run, fun c a b hab e => by subst e; exact ⟨⟨(a, b), rfl⟩, by rw [keyC_at]; exact rankN_len _, rfl, flat_cD (a, b)⟩, fun ys hp hs => ?_⟩
        case run =>
          refine GS.lam_run (N := ["corner"]) (ps := ["corner"]) ⟨rfl, rfl, rfl, by decide +kernel, rfl, by decide +kernel, by decide +kernel⟩ (fun pm cv ctv us hl => match us, hl with | [_], _ => rfl) (fun f c' A outer s H vs Q E hr h => ?_)
          obtain ⟨v, x, rfl, ⟨c, rfl⟩, hr1, k⟩ := h
          refine ⟨_, pe_call (ok0_l_rank T) (hr.mono (by decide)) rfl T.l_rank.g T.l_rank.k T.l_rank.b .nil pass0 (pa_cons (pe_ix ix_tup (pv 0) pe_int (fun _ _ => rfl)) pa_nil), ?_⟩
          cases hr1 with
          | tup b1 b2 =>
            cases b2 with
            | cons r1 b2 =>
              rw [keyC_at] at k
              refine ⟨.ref _, rfl, _, _, 0, vO c.1, rfl, rfl, b1, atI_nat (j := 0) ?_, c.1, rfl, fun z hz => k z hz⟩
              obtain ⟨c1, c2⟩ := c
              cases c1 <;> cases r1 <;> rfl
        · obtain ⟨cs', rfl, hp'⟩ := perm_map hp
          have mem : ∀ c, c ∈ cs' ↔ c ∈ done ∧ maxC done c := fun c => (hp'.mem_iff).trans (h2 c)
          refine hq cs' (can_sorted (hp'.nodup_iff.mpr h1) (fun c hc => (mem c).mp hc) ?_) (fun c hc => ((mem c).mp hc).1) (fun c hc => ?_) (by rw [hp'.length_eq]; exact h4)
          · refine List.Pairwise.imp ?_ (List.pairwise_map.mp hs)
            intro c d hcd
            rw [keyC_at, keyC_at] at hcd
            exact rank_le hcd
          · obtain ⟨d, hd, l, m⟩ := max_above done hc done fun _ h => h
            exact ⟨d, (mem d).mpr ⟨hd, m⟩, l⟩
      · rintro done c left ρ m G hG ⟨fs, z1, z2, u, rfl, rfl, hu, h1, h2, h3, h4⟩
        have hlen : done.length + (left.length + 1) = cs.length := by
          rw [← h3]
          simp
        have hll : fs.length < sizeLine := few (by omega)
        have old : (c ∈ fs ∨ ¬ maxC cs c) → ∀ z : Sl, G [Sl.fz u, Sl.ow (fs.map cD), Sl.fz (U.d (cD c)), z] m := fun hc z => hG _ _ ⟨fs, _, _, u, rfl, rfl, hu, h1, fun d => by
          rw [h2 d, List.mem_append, List.mem_singleton]
          refine ⟨fun q => ⟨.inl q.1, q.2⟩, fun ⟨q1, q2⟩ => ?_⟩
          rcases q1 with q1 | q1
          · exact ⟨q1, q2⟩
          · rcases hc with hc | hc
            · exact (h2 d).mp (q1 ▸ hc)
            · exact absurd (q1 ▸ q2) hc, by rw [← h3]; simp, by simp; omega⟩
        have new : c ∉ fs → maxC cs c → ∀ z : Sl, G [Sl.fz u, Sl.ow (fs.map cD ++ [cD c]), Sl.fz (U.d (cD c)), z] m := fun hc hm z => hG _ _ ⟨fs ++ [c], _, _, u, rfl, by rw [List.map_append]; rfl, hu, List.nodup_append.mpr ⟨h1, by simp, fun x hx y hy e => hc (by rw [List.mem_singleton.mp hy] at e; exact e ▸ hx)⟩, fun d => by
          rw [List.mem_append, List.mem_append, List.mem_singleton, h2 d]
          refine ⟨fun q => ?_, fun ⟨q1, q2⟩ => ?_⟩
          · rcases q with q | q
            · exact ⟨.inl q.1, q.2⟩
            · exact ⟨.inr q, q ▸ hm⟩
          · rcases q1 with q1 | q1
            · exact .inl ⟨q1, q2⟩
            · exact .inr q1, by rw [← h3]; simp, by simp; omega⟩
        rcases hu with rfl | rfl <;> simp
        all_goals
          refine ⟨few (by omega), lcL_pure cD (fun _ => PyData.int 1) (fun o => !decide (o = c) && hdO o c) cs m _ (fun o _ m Kt Ks k => ?_) ?_⟩
          · simp
            refine ⟨shaped_cD _, shaped_cD _, ?_⟩
            rw [show (PyData.tuple [oD o.fst, oD o.snd]).eqv (PyData.tuple [oD c.fst, oD c.snd]) = decide (o = c) from eqv_cD o c]
            by_cases e : o = c
            · simp only [e, decide_true, Bool.not_true, Bool.false_and, Bool.false_eq_true, if_false, if_true] at k ⊢
              exact k
            · simp only [e, decide_false, Bool.not_false, Bool.true_and, Bool.false_eq_true, if_false] at k ⊢
              exact ⟨o.1, o.2, c.1, c.2, ⟨⟨rfl, rfl⟩, rfl, rfl⟩, k⟩
          · refine ⟨ones_shA _ _, by rfl, ?_⟩
            rw [ones_eqA]
            by_cases hm : maxC cs c
            · rw [if_pos (max_not.mpr hm)]
              refine ⟨shaped_cD _, shaped_cos _, ?_⟩
              rw [any_cD]
              by_cases hc : c ∈ fs
              · simp only [hc, decide_true, Bool.not_true, Bool.false_eq_true, if_false]
                exact old (.inl hc) _
              · simp only [hc, decide_false, Bool.not_false, if_true]
                exact ⟨hll, new hc hm _⟩
            · rw [if_neg fun z => hm (max_not.mp z)]
              exact old (.inr hm) _
      · refine ⟨[], _, _, _, rfl, rfl, ?_, List.nodup_nil, (fun c => by simp), rfl, Nat.le_refl _⟩
        first
        | exact .inl rfl
        | exact .inr rfl
end
end G21
set_option Elab.async false
set_option linter.all false
set_option maxRecDepth 100000
set_option maxHeartbeats 4000000
set_option synthInstance.maxSize 100000
set_option synthInstance.maxHeartbeats 0
namespace G21
open PySem PySem.Spec PyProof.Rows L2 V3
def nLw (cs : List Co) (l b : Int × Int) : Int × Int := if cs = [] then (1, 1) else (max l.1 (1 + b.1), max l.2 (1 + b.2))
def nBy (cs : List Co) (l b : Int × Int) : Int × Int := match cs.head?, cs.getLast? with
  | some c, some d => (plainB d.1 l.1 b.1, plainB c.2 l.2 b.2)
  | _, _ => (0, 0)
def fldF (s e : D) (cs : List Co) (l b : Int × Int) : List (Str × D) := [("start", s), ("end", e), ("stairs", .tuple (cs.map cD)), ("least", pr l.1 l.2), ("by", pr b.1 b.2)]
@[simp] theorem get_start (s e : D) (cs : List Co) (l b : Int × Int) : getF "start" (fldF s e cs l b) = some s := rfl
@[simp] theorem get_end (s e : D) (cs : List Co) (l b : Int × Int) : getF "end" (fldF s e cs l b) = some e := rfl
@[simp] theorem get_stairs (s e : D) (cs : List Co) (l b : Int × Int) : getF "stairs" (fldF s e cs l b) = some (.tuple (cs.map cD)) := rfl
@[simp] theorem get_least (s e : D) (cs : List Co) (l b : Int × Int) : getF "least" (fldF s e cs l b) = some (pr l.1 l.2) := rfl
@[simp] theorem get_by (s e : D) (cs : List Co) (l b : Int × Int) : getF "by" (fldF s e cs l b) = some (pr b.1 b.2) := rfl
def spIF (K : PySem.W.Frag) (C : Addr) (TL : List (Addr × Str)) : Sp := fun vs H Q _ => ∃ (am : Am) (m dx : Addr) (v1 v2 v3 v4 v5 : V) (m1 x1 y1 m2 x2 y2 : Int) (cs : List Co) (l b : Int × Int) (n : Nat), am.K = K ∧ am.C = C ∧ am.TL = TL ∧ vs = [.ref m, v1, v2, v3, v4, v5] ∧ H m = some (.ins C dx []) ∧ (∀ a, am.R.hid a → a ≠ m) ∧
  RepA am (fun a => a = m ∨ am.R.hid a) H [v1, v2, v3, v4, v5] [.d (plD m1 x1 y1), .d (plD m2 x2 y2), .d (.tuple (cs.map cD)), .d (pr l.1 l.2), .d (pr b.1 b.2)] ∧ Wd am.R TL H n ∧ 0 ≤ m1 ∧ 0 ≤ m2 ∧ Can cs ∧ (∀ c ∈ cs, posC c) ∧ cs.length ≤ 300 ∧ 1 ≤ l.1 ∧ 1 ≤ l.2 ∧
  ∀ H', (∀ b o, b ≠ m → (∀ d g c, am.R.dr = some (d, g, c) → b ≠ d ∧ b ≠ g) → (∀ ps, o ≠ HO.tbl ps) → H b = some o → H' b = some o) → Wd am.R TL H' n →
    (∃ vs, H' m = some (.ins C dx vs) ∧ RpFs K (cut (fun a => a = m ∨ am.R.hid a) H') vs (fldF (plD m1 x1 y1) (plD m2 x2 y2) cs (nLw cs l b) (nBy cs l b))) → Q .non H'
theorem use_fldS {K : PySem.W.Frag} {C : Addr} {TL : List (Addr × Str)} {E : XK} {tv : TE} {f : Str} {S : List Nat} {mc : TE3} {u : TS} {D : Ends} {am : Am} {m dx : Addr} {H0 H : Hp} {fs : List (Str × V3.D)} {ro : Ro} {n : Nat} {σ : L2.St} [hc : LE K C TL E tv S mc] [hf : FieldC K C f] (hE : am.K = K ∧ am.TL = TL ∧ am.C = C)
    (i : IniS am E m dx H0 fs ro n σ H) (d : V3.D) (hl : fs.length < 900) (he : getF f fs = none) (hm : mc ro n (fun fr u n' => u = .d d ∧ n' = n) (fun _ => False)) (k : ∀ H', IniS am E m dx H0 (fs ++ [(f, d)]) ro n σ H' → u D σ H') : tSeq (sFld K (tVar 0) tv f) u D σ H :=
  use_fldI (D := { D with nx := u D }) hE i d hl he hm k
theorem use_ifL {K : PySem.W.Frag} {C : Addr} {TL : List (Addr × Str)} {E : XK} {c : TT} {t1 t2 : TS} {mc : TT3} {D : Ends} {am : Am} {m dx : Addr} {H0 H : Hp} {fs : List (Str × V3.D)} {ro : Ro} {n : Nat} {σ : L2.St} [hc : V3.LT K C TL E c mc] (hE : am.K = K ∧ am.TL = TL ∧ am.C = C)
    (i : IniS am E m dx H0 fs ro n σ H) (b0 : Bool) (hm : mc ro n (fun b n' => b = b0 ∧ n' = n) (fun _ => False)) (k : ∀ H', IniS am E m dx H0 fs ro n σ H' → if b0 = true then t1 D σ H' else t2 D σ H') : tIfS c t1 t2 D σ H :=
  hc.s (initAm am m E) ro n σ H ⟨hE.1, hE.2.1, rfl, hE.2.2⟩ i.rl _ _ hm fun b n' H' q f w => by
    obtain ⟨rfl, rfl⟩ := q
    exact k H' (i.step f w)
section
variable {P : Program} {w : World} {K : PySem.W.Frag} {mg : Str → Option Value} {base : Heap} {TL : List (Addr × Str)}
theorem ok_q_Form_init (T : Txt K mg) : FnOk P w K mg base (L2.CX P w) 6 T.fI T.dI ["self", "start", "end", "stairs", "least", "by"] (spIF K T.C TL) := by
  refine T.FI.okX c_q_Form_init (fun vs H Q E h => ?_) (fun cdv A outer s H vs Q E hr h => ?_)
  · obtain ⟨am, m, dx, v1, v2, v3, v4, v5, m1, x1, y1, m2, x2, y2, cs, l, b, n, _, _, _, rfl, _⟩ := h
    rfl
  · obtain ⟨am, m, dx, v1, v2, v3, v4, v5, m1, x1, y1, m2, x2, y2, cs, l, b, n, hK, hC, hTL, rfl, hm, hnm, hv, hw, hm1, hm2, hcan, hpos, hlen, hl1, hl2, k⟩ := h
    refine ⟨_,
      (pss_cons (ps_if (pt_not (pt_val (pe_call (ok_q_is_any_place T (TL := TL)) (hr.mono (by decide)) rfl T.q_is_any_place.g T.q_is_any_place.k T.q_is_any_place.b .nil pass0 (pa_cons (pv 1) pa_nil))))
      (pss_one (ps_rz (C' := T.x_BadStart.C) (ps_raise rfl (takes_of rfl rfl rfl rfl) (pmk_own PySem.F.excBase_ValueError T.x_BadStart.q T.x_BadStart.g T.x_BadStart.k (raises_own T.x_BadStart.b T.x_BadStart.t) (by exact rfl)))))
      pss_nil)
      (pss_cons (ps_if (pt_not (pt_val (pe_call (ok_q_is_any_place T (TL := TL)) (hr.mono (by decide)) rfl T.q_is_any_place.g T.q_is_any_place.k T.q_is_any_place.b .nil pass0 (pa_cons (pv 2) pa_nil))))
      (pss_one (ps_rz (C' := T.x_BadEnd.C) (ps_raise rfl (takes_of rfl rfl rfl rfl) (pmk_own PySem.F.excBase_ValueError T.x_BadEnd.q T.x_BadEnd.g T.x_BadEnd.k (raises_own T.x_BadEnd.b T.x_BadEnd.t) (by exact rfl)))))
      pss_nil)
      (pss_cons (ps_if (pt_not (pt_val (pe_call (ok_q_is_stairs T (TL := TL)) (hr.mono (by decide)) rfl T.q_is_stairs.g T.q_is_stairs.k T.q_is_stairs.b .nil pass0 (pa_cons (pv 3) pa_nil))))
      (pss_one (ps_rz (C' := T.x_BadStairs.C) (ps_raise rfl (takes_of rfl rfl rfl rfl) (pmk_own PySem.F.excBase_ValueError T.x_BadStairs.q T.x_BadStairs.g T.x_BadStairs.k (raises_own T.x_BadStairs.b T.x_BadStairs.t) (by exact rfl)))))
      pss_nil)
      (pss_cons (ps_if (pt_not (pt_val (pe_call (ok_q_is_body T (TL := TL)) (hr.mono (by decide)) rfl T.q_is_body.g T.q_is_body.k T.q_is_body.b .nil pass0 (pa_cons (pv 4) pa_nil))))
      (pss_one (ps_rz (C' := T.x_BadLeast.C) (ps_raise rfl (takes_of rfl rfl rfl rfl) (pmk_own PySem.F.excBase_ValueError T.x_BadLeast.q T.x_BadLeast.g T.x_BadLeast.k (raises_own T.x_BadLeast.b T.x_BadLeast.t) (by exact rfl)))))
      pss_nil)
      (pss_cons (ps_if (pt_not (pt_val (pe_call (ok_q_is_number_pair T (TL := TL)) (hr.mono (by decide)) rfl T.q_is_number_pair.g T.q_is_number_pair.k T.q_is_number_pair.b .nil pass0 (pa_cons (pv 5) pa_nil))))
      (pss_one (ps_rz (C' := T.x_BadBy.C) (ps_raise rfl (takes_of rfl rfl rfl rfl) (pmk_own PySem.F.excBase_ValueError T.x_BadBy.q T.x_BadBy.g T.x_BadBy.k (raises_own T.x_BadBy.b T.x_BadBy.t) (by exact rfl)))))
      pss_nil)
      (pss_cons (ps_fld (pv 0) (pv 1) rfl)
      (pss_cons (ps_fld (pv 0) (pv 2) rfl)
      (pss_cons (ps_fld (pv 0) (pv 3) rfl)
      (pss_one (ps_if (pt_cmpR (eq3 K hr.units) (pv 3) (pe_tup pa_nil) (nomark _))
      (pss_cons (ps_fld (pv 0) (pe_tup (pa_cons pe_int (pa_cons pe_int pa_nil))) rfl)
      (pss_one (ps_fld (pv 0) (pe_tup (pa_cons pe_int (pa_cons pe_int pa_nil))) rfl)))
      (pss_cons (ps_fld (pv 0) (pe_tup (pa_cons (pe_call (ok_q_grown T (TL := TL)) (hr.mono (by decide)) rfl T.q_grown.g T.q_grown.k T.q_grown.b .nil pass0 (pa_cons (pe_ix (ix3 K) (pv 4) pe_int (fun _ _ => rfl)) (pa_cons (pe_ix (ix3 K) (pv 5) pe_int (fun _ _ => rfl)) (pa_cons pe_int pa_nil)))) (pa_cons (pe_call (ok_q_grown T (TL := TL)) (hr.mono (by decide)) rfl T.q_grown.g T.q_grown.k T.q_grown.b .nil pass0 (pa_cons (pe_ix (ix3 K) (pv 4) pe_int (fun _ _ => rfl)) (pa_cons (pe_ix (ix3 K) (pv 5) pe_int (fun _ _ => rfl)) (pa_cons pe_int pa_nil)))) pa_nil))) rfl)
      (pss_one (ps_fld (pv 0) (pe_tup (pa_cons (pe_call (ok_q_plain_by T (TL := TL)) (hr.mono (by decide)) rfl T.q_plain_by.g T.q_plain_by.k T.q_plain_by.b .nil pass0 (pa_cons (pv 3) (pa_cons (pv 4) (pa_cons (pv 5) (pa_cons pe_int pa_nil))))) (pa_cons (pe_call (ok_q_plain_by T (TL := TL)) (hr.mono (by decide)) rfl T.q_plain_by.g T.q_plain_by.k T.q_plain_by.b .nil pass0 (pa_cons (pv 3) (pa_cons (pv 4) (pa_cons (pv 5) (pa_cons pe_int pa_nil))))) pa_nil))) rfl)))))))))))))
      , ?_⟩
    have ro : Rl (initAm am m E) [.no, .fz (.d (plD m1 x1 y1)), .fz (.d (plD m2 x2 y2)), .fz (.d (.tuple (cs.map cD))), .fz (.d (pr l.1 l.2)), .fz (.d (pr b.1 b.2))] n (L2.start N_q_Form_init [.ref m, v1, v2, v3, v4, v5]) H := {
      len := rfl
      fz := fun i u e => by
        have low : ∀ a, Hid (initAm am m E) [.no, .fz (.d (plD m1 x1 y1)), .fz (.d (plD m2 x2 y2)), .fz (.d (.tuple (cs.map cD))), .fz (.d (pr l.1 l.2)), .fz (.d (pr b.1 b.2))] (L2.start N_q_Form_init [.ref m, v1, v2, v3, v4, v5]) a → a = m ∨ am.R.hid a := fun a z => by
          rcases z with z | ⟨j, ⟨ds, z⟩, _⟩
          · exact z
          · match j, z with
            | 0, z => cases z
            | 1, z => cases z
            | 2, z => cases z
            | 3, z => cases z
            | 4, z => cases z
            | 5, z => cases z
            | j + 6, z => simp at z
        cases hv with | cons r1 hv => cases hv with | cons r2 hv => cases hv with | cons r3 hv => cases hv with | cons r4 hv => cases hv with | cons r5 hv =>
        match i, e with
        | 1, e =>
          cases e
          exact ⟨v1, rfl, init_rep (RepU.le (Le.cutSub low) r1)⟩
        | 2, e =>
          cases e
          exact ⟨v2, rfl, init_rep (RepU.le (Le.cutSub low) r2)⟩
        | 3, e =>
          cases e
          exact ⟨v3, rfl, init_rep (RepU.le (Le.cutSub low) r3)⟩
        | 4, e =>
          cases e
          exact ⟨v4, rfl, init_rep (RepU.le (Le.cutSub low) r4)⟩
        | 5, e =>
          cases e
          exact ⟨v5, rfl, init_rep (RepU.le (Le.cutSub low) r5)⟩
        | i + 6, e => simp at e
      ow := fun i ds e => by
        match i, e with
        | 0, e => cases e
        | 1, e => cases e
        | 2, e => cases e
        | 3, e => cases e
        | 4, e => cases e
        | 5, e => cases e
        | i + 6, e => simp at e
      nd := fun i j p a => by
        obtain ⟨⟨ds, e⟩, _⟩ := a
        match i, e with
        | 0, e => cases e
        | 1, e => cases e
        | 2, e => cases e
        | 3, e => cases e
        | 4, e => cases e
        | 5, e => cases e
        | i + 6, e => simp at e
      od := fun d g c q => ⟨⟨d, g, c, q, .inl rfl⟩, ⟨d, g, c, q, .inr rfl⟩⟩
      gr := ⟨fun _ _ _ _ z => (by cases z), fun _ ⟨_, z, _⟩ => (by cases z)⟩
      wd := {
        hid := fun a z => by
          rcases z with z | z
          · rw [z]
            exact ⟨_, hm, fun ps z => by cases z⟩
          · exact hw.hid a z
        tabs := hTL ▸ hw.tabs
        dr := fun d g c q => by
          obtain ⟨a1, a2, a3, r⟩ := hw.dr d g c q
          exact ⟨.inr a1, .inr a2, .inr a3, r⟩ }
      ex := fun _ _ _ _ _ z => z.elim }
    have i0 : IniS am E m dx H [] _ n _ H := {
      rl := ro
      sf := rfl
      nm := fun d g c q => by
        obtain ⟨a1, a2, a3, _⟩ := hw.dr d g c q
        exact ⟨fun z => hnm _ a1 z.symm, fun z => hnm _ a2 z.symm, fun z => hnm _ a3 z.symm⟩
      hd := fun d g c q => by
        obtain ⟨a1, a2, a3, _⟩ := hw.dr d g c q
        exact ⟨a1, a2, a3⟩
      ob := ⟨[], hC ▸ hm, trivial⟩
      fr := fun b o _ _ _ e => e }
    have hE : am.K = K ∧ am.TL = TL ∧ am.C = T.C := ⟨hK, hTL, hC⟩
    have tr : (0 : Nat) = 0 := rfl
    refine use_ifI (C := T.C) (K := K) (TL := TL) hE i0 false ?_ fun H1 i1 => ?_
    · simp
      exact hm1
    rw [if_neg Bool.false_ne_true]
    unfold tNext
    dsimp only
    refine use_ifI (C := T.C) (K := K) (TL := TL) hE i1 false ?_ fun H2 i2 => ?_
    · simp
      exact hm2
    rw [if_neg Bool.false_ne_true]
    dsimp only
    refine use_ifI (C := T.C) (K := K) (TL := TL) hE i2 false ?_ fun H3 i3 => ?_
    · simp
      exact ⟨cs, rfl, hcan, fun a b h => hpos (a, b) h, hlen⟩
    rw [if_neg Bool.false_ne_true]
    dsimp only
    refine use_ifI (C := T.C) (K := K) (TL := TL) hE i3 false ?_ fun H4 i4 => ?_
    · simp [isBd, isSzD, hl1, hl2]
    rw [if_neg Bool.false_ne_true]
    dsimp only
    refine use_ifI (C := T.C) (K := K) (TL := TL) hE i4 false ?_ fun H5 i5 => ?_
    · simp
    rw [if_neg Bool.false_ne_true]
    dsimp only
    refine use_fldS (C := T.C) (K := K) (TL := TL) hE i5 (plD m1 x1 y1) (by simp) rfl ?_ fun H6 i6 => ?_
    · simp
    refine use_fldS (C := T.C) (K := K) (TL := TL) hE i6 (plD m2 x2 y2) (by simp) rfl ?_ fun H7 i7 => ?_
    · simp
    refine use_fldS (C := T.C) (K := K) (TL := TL) hE i7 (.tuple (cs.map cD)) (by simp) rfl ?_ fun H8 i8 => ?_
    · simp
    have fin : ∀ H', IniS am E m dx H (fldF (plD m1 x1 y1) (plD m2 x2 y2) cs (nLw cs l b) (nBy cs l b)) [.no, .fz (.d (plD m1 x1 y1)), .fz (.d (plD m2 x2 y2)), .fz (.d (.tuple (cs.map cD))), .fz (.d (pr l.1 l.2)), .fz (.d (pr b.1 b.2))] n (L2.start N_q_Form_init [.ref m, v1, v2, v3, v4, v5]) H' → Q .non H' := fun H' i => by
      refine k H' i.fr ?_ ?_
      · have w := i.rl.wd
        exact {
          hid := fun a z => w.hid a (.inr z)
          tabs := hTL ▸ w.tabs
          dr := fun d g c q => by
            obtain ⟨_, _, _, r⟩ := w.dr d g c q
            obtain ⟨a1, a2, a3⟩ := i.hd d g c q
            exact ⟨a1, a2, a3, r⟩ }
      · obtain ⟨vs, q1, q2⟩ := i.ob
        rw [hK] at q2
        exact ⟨vs, hC ▸ q1, q2⟩
    by_cases hcs : cs = []
    · refine use_ifL (C := T.C) (K := K) (TL := TL) hE i8 true ?_ fun H9 i9 => ?_
      · simp [hcs]
        exact ⟨rfl, rfl⟩
      rw [if_pos rfl]
      refine use_fldS (C := T.C) (K := K) (TL := TL) hE i9 (pr (nLw cs l b).1 (nLw cs l b).2) (by simp) rfl ?_ fun H10 i10 => ?_
      · simp [hcs, nLw]
      refine use_fldI (C := T.C) (K := K) (TL := TL) hE i10 (pr (nBy cs l b).1 (nBy cs l b).2) (by simp) rfl ?_ fun H11 i11 => ?_
      · simp [hcs, nBy]
      exact fin H11 i11
    · obtain ⟨c, hc⟩ : ∃ c, cs.head? = some c := by
        cases cs with
        | nil => exact absurd rfl hcs
        | cons c _ => exact ⟨c, rfl⟩
      obtain ⟨d, hd⟩ : ∃ d, cs.getLast? = some d := ⟨_, List.getLast?_eq_some_getLast hcs⟩
      refine use_ifL (C := T.C) (K := K) (TL := TL) hE i8 false ?_ fun H9 i9 => ?_
      · simp
        refine ⟨shaped_cT _, rfl, ?_⟩
        cases cs with
        | nil => exact absurd rfl hcs
        | cons c cs => rfl
      rw [if_neg Bool.false_ne_true]
      refine use_fldS (C := T.C) (K := K) (TL := TL) hE i9 (pr (nLw cs l b).1 (nLw cs l b).2) (by simp) rfl ?_ fun H10 i10 => ?_
      · simp
        exact ⟨_, _, _, ⟨rfl, rfl, rfl⟩, _, _, _, ⟨rfl, rfl, rfl⟩, by simp [nLw, hcs], by simp [nLw, hcs]⟩
      refine use_fldI (C := T.C) (K := K) (TL := TL) hE i10 (pr (nBy cs l b).1 (nBy cs l b).2) (by simp) rfl ?_ fun H11 i11 => ?_
      · simp
        exact ⟨cs, c.1, c.2, d.1, d.2, l.1, l.2, b.1, b.2, 0, ⟨rfl, ⟨rfl, rfl⟩, ⟨rfl, rfl⟩, rfl⟩, .inl rfl, hc, hd, cs, c.1, c.2, d.1, d.2, l.1, l.2, b.1, b.2, 1, ⟨rfl, ⟨rfl, rfl⟩, ⟨rfl, rfl⟩, rfl⟩, .inr rfl, hc, hd, by simp [nBy, hc, hd], by simp [nBy, hc, hd]⟩
      exact fin H11 i11
end
end G21
set_option Elab.async false
set_option linter.all false
set_option maxRecDepth 100000
set_option maxHeartbeats 4000000
set_option synthInstance.maxSize 100000
set_option synthInstance.maxHeartbeats 0
namespace G21
open PySem PySem.Spec PyProof.Rows L2 V3
theorem upd_none {H : Hp} {x : Addr} {o : HO} (h : H x = none) : ∀ b y, H b = some y → upd H x o b = some y := fun b y e => by
  rw [upd_ne (ne_of_none e h)]
  exact e
def askF (us : List U) (k : List (Str × D) → Prop) : Prop := ∃ (m1 x1 y1 m2 x2 y2 : Int) (cs : List Co) (l b : Int × Int), us = [.d (plD m1 x1 y1), .d (plD m2 x2 y2), .d (.tuple (cs.map cD)), .d (pr l.1 l.2), .d (pr b.1 b.2)] ∧
  0 ≤ m1 ∧ 0 ≤ m2 ∧ Can cs ∧ (∀ c ∈ cs, posC c) ∧ cs.length ≤ 300 ∧ 1 ≤ l.1 ∧ 1 ≤ l.2 ∧ k (fldF (plD m1 x1 y1) (plD m2 x2 y2) cs (nLw cs l b) (nBy cs l b))
@[simp ↓] def mMakeF (ma : TA3) : TE3 := fun ρ n q e => ma ρ n (fun us n1 => askF us fun fs => q false (.ob fs) n1) e
theorem flat_pl (m x y : Int) : V3.flat (plD m x y) = true := rfl
theorem flat_fldF (m1 x1 y1 m2 x2 y2 : Int) (cs : List Co) (l b : Int × Int) : flatFs (fldF (plD m1 x1 y1) (plD m2 x2 y2) cs l b) = true := by
  have h : V3.flat (.tuple (cs.map cD)) = true := flat_cos cs
  show (true && (true && (V3.flat (.tuple (cs.map cD)) && (true && (true && true))))) = true
  rw [h]
  rfl
section
variable {K : PySem.W.Frag} {C : Addr} {TL : List (Addr × Str)} {E : XK}
instance mkLE {ta : TA} {S : List Nat} {ma : TA3} {E' : XK} [ha : LA K C TL E ta S ma] : LE K C TL E (tMake C (spIF K C TL) [] E' ta) S (mMakeF ma) where
  s am ρ n σ H hE h Q q hm k := by
    obtain ⟨rfl, rfl, rfl, rfl⟩ := id hE
    refine ha.s am ρ n σ H hE h _ _ hm fun us n1 vs H1 hq f1 w1 r1 => ?_
    have h1 := h.step f1 w1
    obtain ⟨m1, x1, y1, m2, x2, y2, cs, l, b, rfl, hm1, hm2, hcan, hpos, hlen, hl1, hl2, hk⟩ := hq
    obtain ⟨v1, v2, v3, v4, v5, rfl⟩ : ∃ v1 v2 v3 v4 v5 : V, vs = [v1, v2, v3, v4, v5] := by
      cases r1 with | cons r1 t => cases t with | cons r2 t => cases t with | cons r3 t => cases t with | cons r4 t => cases t with | cons r5 t =>
      cases t
      exact ⟨_, _, _, _, _, rfl⟩
    show ∀ x dx, H1 x = none → H1 dx = none → dx ≠ x → _
    intro x dx hx hdx hne
    have st : ∀ b y, H1 b = some y → upd (upd H1 dx (.own x)) x (.ins am.C dx []) b = some y := fun b y e => by
      rw [upd_ne (ne_of_none e hx)]
      exact upd_none hdx b y e
    have sm : Same H1 (upd (upd H1 dx (.own x)) x (.ins am.C dx [])) := fun b y e => st b y e
    have hn : ∀ a, Hid am (dem S ρ) σ a → a ≠ x := fun a z e => by
      obtain ⟨o, q1, _⟩ := (h1.dem S).hidThere z
      rw [e, hx] at q1
      cases q1
    have f2 : FrR am.R H1 (upd (upd H1 dx (.own x)) x (.ins am.C dx [])) := .of sm
    have w2 : Wd am.R am.TL (upd (upd H1 dx (.own x)) x (.ins am.C dx [])) n1 := w1.same sm
    refine ⟨{ am with R := { am.R with hid := Hid am (dem S ρ) σ } }, x, dx, v1, v2, v3, v4, v5, m1, x1, y1, m2, x2, y2, cs, l, b, n1, rfl, rfl, rfl, rfl, upd_same, hn, ?_, ?_, hm1, hm2, hcan, hpos, hlen, hl1, hl2, fun H' g1 g2 g3 => ⟨rfl, ?_⟩⟩
    · have lec : Le (cut (Hid am (dem S ρ) σ) H1) (cut (fun a => a = x ∨ Hid am (dem S ρ) σ a) (upd (upd H1 dx (.own x)) x (.ins am.C dx []))) := Le.cut (fun a z => by
        rcases z with z | z
        · exact .inr (by
            rw [z]
            intro ⟨o, q1, _⟩
            rw [hx] at q1
            cases q1)
        · exact .inl z) fun a o _ _ e => st a o e
      cases r1 with | cons r1 t => cases t with | cons r2 t => cases t with | cons r3 t => cases t with | cons r4 t => cases t with | cons r5 t =>
      exact .cons (Rp.le lec _ _ r1) (.cons (Rp.le lec _ _ r2) (.cons (Rp.le lec _ _ r3) (.cons (Rp.le lec _ _ r4) (.cons (Rp.le lec _ _ r5) .nil))))
    · exact {
        hid := fun a z => f2.2 a ((h1.dem S).hidThere z)
        tabs := w2.tabs
        dr := fun d g c q => by
          obtain ⟨a1, a2, a3, r⟩ := w2.dr d g c q
          exact ⟨.inl a1, .inl a2, .inl a3, r⟩ }
    · have w3 : Wd am.R am.TL H' n1 := {
        hid := fun a z => g2.hid a (.inl z)
        tabs := g2.tabs
        dr := fun d g c q => by
          obtain ⟨_, _, _, r⟩ := g2.dr d g c q
          obtain ⟨a1, a2, a3, _⟩ := h.wd.dr d g c q
          exact ⟨a1, a2, a3, r⟩ }
      have f3 : FrR am.R H H' := by
        refine ⟨fun b o h2 h3 e => ?_, fun b z => ?_⟩
        · have e1 := f1.1 b o h2 h3 e
          refine g1 b o (ne_of_none e1 hx) h2 h3 (st b o e1)
        · obtain ⟨o, q1, q2⟩ := f1.2 b z
          by_cases hb : ∃ d g c, am.R.dr = some (d, g, c) ∧ (b = d ∨ b = g)
          · obtain ⟨d, g, c, hd, hb⟩ := hb
            obtain ⟨_, _, _, t', _, gs, cs, nn, p1, p2, _⟩ := g2.dr d g c hd
            rcases hb with rfl | rfl
            · exact ⟨_, p1, fun ps z => by cases z⟩
            · exact ⟨_, p2, fun ps z => by cases z⟩
          · exact ⟨o, g1 b o (ne_of_none q1 hx) (fun d g c q => ⟨fun z => hb ⟨d, g, c, q, .inl z⟩, fun z => hb ⟨d, g, c, q, .inr z⟩⟩) q2 (st b o q1), q2⟩
      obtain ⟨ws, g4, g5⟩ := g3
      exact k _ _ n1 _ _ hk f3 w3 (.old ⟨flat_fldF .., x, dx, ws, rfl, cut_some.mpr ⟨fun z => hn x z rfl, g4⟩, g5.le (Le.cutSub fun a z => .inr z)⟩)
end
end G21
set_option Elab.async false
set_option linter.all false
set_option maxRecDepth 100000
set_option maxHeartbeats 4000000
/-! comprehensions of two clauses, whose items are flat -/
namespace V3
open PySem PySem.Spec PyProof.Rows L2
@[simp] def lcI (is : List Nat) (tup : Bool) (mt : TT3) (me : TE3) (ρ : Ro) (e : Addr → Prop) : List D → List D → Nat → (List D → Nat → Prop) → Prop
  | [], acc, n, k => k acc n
  | x :: es, acc, n, k => giv is tup x ρ fun ρ' => mt ρ' n (fun b n1 => if b = true then me ρ' n1 (fun _ u n2 => match u with
    | .d z => acc.length < sizeLine ∧ flat z = true ∧ lcI is tup mt me ρ e es (acc ++ [z]) n2 k
    | _ => False) e else lcI is tup mt me ρ e es acc n1 k) e
@[simp] def lcO (is : List Nat) (tup : Bool) (mt : TT3) (mi1 : TI3) (Si1 is1 vs1 : List Nat) (tup1 : Bool) (mt1 : TT3) (me : TE3) (ρ : Ro) (e : Addr → Prop) : List D → List D → Nat → (List D → Nat → Prop) → Prop
  | [], acc, n, q => q acc n
  | d :: ds, acc, n, q => giv is tup d ρ fun ρ' => mt ρ' n (fun b n1 => if b = true then mi1 ρ' n1 (fun es n2 => lcI is1 tup1 mt1 me (wipe3 (dem Si1 ρ') vs1) e es acc n2 (fun acc' n3 => lcO is tup mt mi1 Si1 is1 vs1 tup1 mt1 me ρ e ds acc' n3 q)) e else lcO is tup mt mi1 Si1 is1 vs1 tup1 mt1 me ρ e ds acc n1 q) e
@[simp ↓] def mLc2 (Si is vs : List Nat) (tup : Bool) (mi : TI3) (mt : TT3) (mi1 : TI3) (Si1 is1 vs1 : List Nat) (tup1 : Bool) (mt1 : TT3) (me : TE3) : TE3 := fun ρ n q e => mi ρ n (fun ds n1 => lcO is tup mt mi1 Si1 is1 vs1 tup1 mt1 me (wipe3 (dem Si ρ) vs) (fun _ => False) ds [] n1 (fun xs n2 => q true (.d (.list xs)) n2)) e
instance {a b : Str} {i j : Nat} : SubL [i] (List.map (fun (x : Str × Nat) => x.snd) [(a, i), (b, j)]) := ⟨fun k z => by
  rw [List.mem_singleton.mp z]
  exact List.mem_cons_self⟩
section
variable {K : PySem.W.Frag} {C : Addr} {TL : List (Addr × Str)} {E : XK}
instance {wi wi1 : TI} {g g1 : TG} {tt tt1 : TT} {te : TE} {vs vs1 : List Nat} {Si Si1 Se is is1 : List Nat} {tup tup1 : Bool} {mi mi1 : TI3} {mt mt1 : TT3} {me : TE3} [hi : LI K C TL E wi Si mi] [hg : LG K g is tup] [hsub : SubL is vs] [ht : LT K C TL E tt mt] [hi1 : LI K C TL E wi1 Si1 mi1] [hg1 : LG K g1 is1 tup1] [hsub1 : SubL is1 vs1] [ht1 : LT K C TL E tt1 mt1] [he : LE K C TL E te Se me] :
    LE K C TL E (tLc2 wi g tt wi1 g1 tt1 te vs vs1) [] (mLc2 Si is vs tup mi mt mi1 Si1 is1 vs1 tup1 mt1 me) where
  s am ρ n σ H hE h Q q hm k := by
    obtain ⟨rfl, rfl, rfl, rfl⟩ := id hE
    refine hi.s am ρ n σ H hE h _ _ hm fun ds n1 J H1 hq f1 w1 it => ?_
    have h1 := h.step f1 w1
    have h1d := h1.dem Si
    intro Dl hD
    have hE' : (lcAm am Dl).K = am.K ∧ (lcAm am Dl).TL = am.TL ∧ (lcAm am Dl).E = am.E ∧ (lcAm am Dl).C = am.C := ⟨rfl, rfl, rfl, rfl⟩
    have hd : ∀ d g c, am.R.dr = some (d, g, c) → Dl ≠ d ∧ Dl ≠ g ∧ Dl ≠ c := fun d g' c q' => by
      obtain ⟨a1, a2, a3, _⟩ := w1.dr d g' c q'
      have nh : ∀ a, am.R.hid a → Dl ≠ a := fun a ha z => (New.of hD) (z ▸ w1.hid a ha)
      exact ⟨nh d a1, nh g' a2, nh c a3⟩
    have nd : New H1 Dl := .of hD
    have h0 := wipe_ok (lc_in h1d hD) vs
    have fD : FrR am.R H1 (upd H1 Dl (.lst [])) := .of (same_new hD)
    let OO : Addr → Prop := fun a => a = Dl ∨ Hid am ρ σ a
    -- what is made so far stands behind steps that leave Dl alone
    have keepD : ∀ {Ha Hb : Hp} {acc : List V}, FrR am.R Ha Hb → Ha Dl = some (.lst acc) → Hb Dl = some (.lst acc) := fun f e => f.1 Dl _ (fun d g' c q' => ⟨(hd d g' c q').1, (hd d g' c q').2.1⟩) (fun ps z => by cases z) e
    have keepAcc : ∀ {Ha Hb : Hp} {acc : List V} {xs : List D}, FrR am.R Ha Hb → RpAll am.K (cut OO Ha) acc xs → RpAll am.K (cut OO Hb) acc xs := fun f r => RpAll.le (Le.cut (fun a z => .inl z) fun a o hn t e => f.1 a o (fun d g' c q' => by
      obtain ⟨a1, a2, _, _⟩ := w1.dr d g' c q'
      exact ⟨fun z => hn (.inr (.inl (z ▸ a1))), fun z => hn (.inr (.inl (z ▸ a2)))⟩) t e) _ _ r
    have wrD : ∀ {Ha : Hp} {ys : List V}, FrR am.R H1 Ha → FrR am.R H1 (upd Ha Dl (.lst ys)) := fun {Ha ys} f => by
      refine ⟨fun b o h1 h2 e => ?_, fun b z => ?_⟩
      · have ne : b ≠ Dl := fun z => by
          rw [z, hD] at e
          cases e
        rw [upd_ne ne]
        exact f.1 b o h1 h2 e
      · by_cases ne : b = Dl
        · exact ne ▸ .lst upd_same
        · obtain ⟨o, q1, q2⟩ := f.2 b z
          exact ⟨o, by rw [upd_ne ne]; exact q1, q2⟩
    -- hidden lists of slots are lists
    have lists : ∀ {Ha : Hp}, FrR am.R H1 Ha → ∀ a, Hid am ρ σ a → am.R.hid a ∨ ∃ ys, Ha a = some (.lst ys) := fun {Ha} f a z => by
      rcases z with z | ⟨j, z⟩
      · exact .inl z
      · obtain ⟨o1, ⟨ys, o2⟩, o3⟩ := h1.ownL z
        exact .inr ⟨ys, f.1 a _ (fun d g' c q' => by
          obtain ⟨a1, a2, _, _⟩ := w1.dr d g' c q'
          exact ⟨fun y => o3 (y ▸ a1), fun y => o3 (y ▸ a2)⟩) (fun ps y => by cases y) o2⟩
    refine ⟨fun i m H2 => m = ds.length - i ∧ i ≤ ds.length ∧ ∃ n2 acc xs, H2 Dl = some (.lst acc) ∧ RpAll am.K (cut OO H2) acc xs ∧ FrR am.R H1 H2 ∧ Rl (lcAm am Dl) (wipe3 (dem Si ρ) vs) n2 (wipe σ vs) H2 ∧
      lcO is tup mt mi1 Si1 is1 vs1 tup1 mt1 me (wipe3 (dem Si ρ) vs) (fun _ => False) (ds.drop i) xs n2 (fun ys n3 => q true (.d (.list ys)) n3), ⟨ds.length, by simp, Nat.zero_le _, n1, [], [], upd_same, .nil, fD, h0, hq⟩, fun i m H2 w => ?_⟩
    obtain ⟨rfl, hi', n2, acc, xs, eD, ra, fr, r2, hf⟩ := w
    have leO : Le (cut (Hid am (dem Si ρ) σ) H1) (cut (Hid (lcAm am Dl) (wipe3 (dem Si ρ) vs) (wipe σ vs)) H2) := Le.cut (fun a z => by
      rcases lc_hid.mp (wipe_hid z) with z | z
      · exact .inr (z ▸ nd)
      · exact .inl z) fun a o hn t e => fr.1 a o (fun d g' c q' => by
        obtain ⟨a1, a2, _, _⟩ := w1.dr d g' c q'
        exact ⟨fun z => hn (.inl (z ▸ a1)), fun z => hn (.inl (z ▸ a2))⟩) t e
    obtain ⟨it1, it2⟩ := it H2 _ leO (fun a z => r2.hidThere z) i
    by_cases hlt : i < ds.length
    · have e : ds[i]? = some ds[i] := List.getElem?_eq_getElem hlt
      obtain ⟨go, y⟩ := it1 _ e
      rw [List.drop_eq_getElem_cons hlt] at hf
      refine .inr ⟨go, fun H' => i + 1 ≤ ds.length ∧ ∃ n2 acc xs, H' Dl = some (.lst acc) ∧ RpAll am.K (cut OO H') acc xs ∧ FrR am.R H1 H' ∧ Rl (lcAm am Dl) (wipe3 (dem Si ρ) vs) n2 (wipe σ vs) H' ∧
        lcO is tup mt mi1 Si1 is1 vs1 tup1 mt1 me (wipe3 (dem Si ρ) vs) (fun _ => False) (ds.drop (i + 1)) xs n2 (fun ys n3 => q true (.d (.list ys)) n3), fun H' p => ⟨ds.length - (i + 1), by omega, rfl, p⟩, fun x H3 yl => ?_⟩
      obtain ⟨sm, rx⟩ := y x H3 yl
      have r3 := r2.step (FrR.of sm) (r2.wd.same sm)
      refine giv_ok2 (am := lcAm am Dl) hg r3 (O := Hid (lcAm am Dl) (wipe3 (dem Si ρ) vs) (wipe σ vs)) (fun a z => z) rx hf hsub.h fun ρ4 σ4 hk r4 eρ eσ => ⟨eσ.trans (wipe_idem σ vs) |>.trans rfl, ?_⟩
      refine ht.s (lcAm am Dl) ρ4 n2 σ4 H3 hE' r4 _ _ hk fun b n4 H4 hq4 f4 w4 => ?_
      have r5 := r3.step f4 w4
      have f04 := (fr.trans (.of sm)).trans f4
      have eD4 := keepD f4 (sm _ _ eD)
      have ra4 := keepAcc f4 (keepAcc (.of sm) ra)
      cases b with
      | false => exact ⟨hlt, n4, acc, xs, eD4, ra4, f04, r5, hq4⟩
      | true =>
        have r4' := r4.step f4 w4
        refine hi1.s (lcAm am Dl) ρ4 n4 σ4 H4 hE' r4' _ _ hq4 fun es n5 J1 H5 hq5 f5 w5 itI => ?_
        have r6 := (r4'.step f5 w5)
        have rI0 := wipe_ok (r6.dem Si1) vs1
        refine ⟨fun j m H6 => m = es.length - j ∧ j ≤ es.length ∧ ∃ n6 acc xs, H6 Dl = some (.lst acc) ∧ RpAll am.K (cut OO H6) acc xs ∧ FrR am.R H1 H6 ∧ Rl (lcAm am Dl) (wipe3 (dem Si ρ) vs) n6 (wipe σ vs) H6 ∧ Rl (lcAm am Dl) (wipe3 (dem Si1 ρ4) vs1) n6 (wipe σ4 vs1) H6 ∧
          (∀ b o, b ≠ Dl → (∀ d g c, am.R.dr = some (d, g, c) → b ≠ d ∧ b ≠ g) → (∀ ps, o ≠ HO.tbl ps) → H5 b = some o → H6 b = some o) ∧
          lcI is1 tup1 mt1 me (wipe3 (dem Si1 ρ4) vs1) (fun _ => False) (es.drop j) xs n6 (fun acc' n3 => lcO is tup mt mi1 Si1 is1 vs1 tup1 mt1 me (wipe3 (dem Si ρ) vs) (fun _ => False) (ds.drop (i + 1)) acc' n3 (fun ys n3 => q true (.d (.list ys)) n3)),
          ⟨es.length, by simp, Nat.zero_le _, n5, acc, xs, keepD f5 eD4, keepAcc f5 ra4, f04.trans f5, r5.step f5 w5, rI0, (fun b o _ _ _ e => e), hq5⟩, fun j m H6 w => ?_⟩
        obtain ⟨rfl, hj, n6, acc, xs, eD6, ra6, fr6, rO, rI, frI, hf6⟩ := w
        have leI : Le (cut (Hid (lcAm am Dl) (dem Si1 ρ4) σ4) H5) (cut (Hid (lcAm am Dl) (wipe3 (dem Si1 ρ4) vs1) (wipe σ4 vs1)) H6) := Le.cut (fun a z => .inl (wipe_hid z)) fun a o hn t e => frI a o (fun z => hn (lc_hid.mpr (.inl z))) (fun d g' c q' => by
          obtain ⟨a1, a2, _, _⟩ := w1.dr d g' c q'
          exact ⟨fun z => hn (.inl (.inl (z ▸ a1))), fun z => hn (.inl (.inl (z ▸ a2)))⟩) t e
        obtain ⟨jt1, jt2⟩ := itI H6 _ leI (fun a z => rI.hidThere z) j
        by_cases hjt : j < es.length
        · have ej : es[j]? = some es[j] := List.getElem?_eq_getElem hjt
          obtain ⟨goj, yj⟩ := jt1 _ ej
          rw [List.drop_eq_getElem_cons hjt] at hf6
          refine .inr ⟨goj, fun H' => j + 1 ≤ es.length ∧ ∃ n6 acc xs, H' Dl = some (.lst acc) ∧ RpAll am.K (cut OO H') acc xs ∧ FrR am.R H1 H' ∧ Rl (lcAm am Dl) (wipe3 (dem Si ρ) vs) n6 (wipe σ vs) H' ∧ Rl (lcAm am Dl) (wipe3 (dem Si1 ρ4) vs1) n6 (wipe σ4 vs1) H' ∧
            (∀ b o, b ≠ Dl → (∀ d g c, am.R.dr = some (d, g, c) → b ≠ d ∧ b ≠ g) → (∀ ps, o ≠ HO.tbl ps) → H5 b = some o → H' b = some o) ∧
            lcI is1 tup1 mt1 me (wipe3 (dem Si1 ρ4) vs1) (fun _ => False) (es.drop (j + 1)) xs n6 (fun acc' n3 => lcO is tup mt mi1 Si1 is1 vs1 tup1 mt1 me (wipe3 (dem Si ρ) vs) (fun _ => False) (ds.drop (i + 1)) acc' n3 (fun ys n3 => q true (.d (.list ys)) n3)), fun H' p => ⟨es.length - (j + 1), by omega, rfl, p⟩, fun x6 H7 yl6 => ?_⟩
          obtain ⟨sm6, rx6⟩ := yj x6 H7 yl6
          have fs6 : FrR am.R H6 H7 := FrR.of sm6
          have rI7 := rI.step (FrR.of sm6) (rI.wd.same sm6)
          have rO7 := rO.step (FrR.of sm6) (rO.wd.same sm6)
          refine giv_ok2 (am := lcAm am Dl) hg1 rI7 (O := Hid (lcAm am Dl) (wipe3 (dem Si1 ρ4) vs1) (wipe σ4 vs1)) (fun a z => z) rx6 hf6 hsub1.h fun ρ8 σ8 hk8 r8 eρ8 eσ8 => ⟨eσ8.trans (wipe_idem σ4 vs1) |>.trans rfl, ?_⟩
          refine ht1.s (lcAm am Dl) ρ8 n6 σ8 H7 hE' r8 _ _ hk8 fun b8 n9 H9 hq9 f9 w9 => ?_
          have eD9 := keepD f9 (keepD fs6 eD6)
          have ra9 := keepAcc f9 (keepAcc fs6 ra6)
          have fr9 := (fr6.trans fs6).trans f9
          have step9 : ∀ b o, b ≠ Dl → (∀ d g c, am.R.dr = some (d, g, c) → b ≠ d ∧ b ≠ g) → (∀ ps, o ≠ HO.tbl ps) → H5 b = some o → H9 b = some o := fun b o ne hb t e => f9.1 b o hb t (fs6.1 b o hb t (frI b o ne hb t e))
          cases b8 with
          | false => exact ⟨hjt, n9, acc, xs, eD9, ra9, fr9, rO7.step f9 w9, rI7.step f9 w9, step9, hq9⟩
          | true =>
            refine he.s (lcAm am Dl) ρ8 n9 σ8 H9 hE' (r8.step f9 w9) _ _ hq9 fun fr10 u n10 v H10 hq10 f10 w10 r10 => ?_
            match u, hq10, r10.1 with
            | .d z, hq10, rz =>
              obtain ⟨hlen, hflat, hq10⟩ := hq10
              have eD10 := keepD f10 eD9
              have ra10 := keepAcc f10 ra9
              have fr10' := fr9.trans f10
              have rz2 : Rp am.K (cut OO H10) v z := by
                refine Rp.hide (O := Hid (lcAm am Dl) (dem Se ρ8) σ8) (fun p hp => ?_) _ _ hflat rz
                rcases hp with hp | hp
                · exact .inl (lc_hid.mpr (.inl hp))
                · rcases lists fr10' p hp with y | y
                  · exact .inl (lc_hid.mpr (.inr (.inl y)))
                  · exact .inr y
              refine ⟨acc, eD10, by rw [RpAll.len ra10]; exact hlen, hjt, n10, acc ++ [v], xs ++ [z], upd_same, ?_, wrD fr10', lc_write hd ((rO7.step f9 w9).step f10 w10) eD10, lc_write hd ((rI7.step f9 w9).step f10 w10) eD10, fun b o ne hb t e => ?_, hq10⟩
              · refine RpAll.le (Le.cut (fun a z => .inl z) fun a o hn t e => ?_) _ _ (RpAll.app ra10 (.one rz2))
                rw [upd_ne fun z => hn (.inl z)]
                exact e
              · rw [upd_ne ne]
                exact f10.1 b o hb t (step9 b o ne hb t e)
        · have e6 : j = es.length := by omega
          subst e6
          rw [List.drop_length] at hf6
          exact .inl ⟨jt2 (Nat.le_refl _), hlt, n6, acc, xs, eD6, ra6, fr6, rO, hf6⟩
    · have e : i = ds.length := by omega
      subst e
      rw [List.drop_length] at hf
      refine .inl ⟨it2 (Nat.le_refl _), ?_⟩
      have hf2 : q true (.d (.list xs)) n2 := hf
      have wE : Wd am.R am.TL H2 n2 := {
        hid := fun a z => r2.wd.hid a (.inl z)
        tabs := r2.wd.tabs
        dr := fun d g' c q' => by
          obtain ⟨_, _, _, r⟩ := r2.wd.dr d g' c q'
          obtain ⟨a1, a2, a3, _⟩ := w1.dr d g' c q'
          exact ⟨a1, a2, a3, r⟩ }
      have sub : ∀ a, Hid am (dem [] ρ) σ a → Hid am ρ σ a := fun a z => hidDem z
      refine k _ _ n2 _ H2 hf2 (f1.trans fr) wE ⟨Rp.lst (cut_some.mpr ⟨fun z => ?_, eD⟩) (RpAll.le (Le.cutSub fun a z => .inr (sub a z)) _ _ ra), fun _ => ⟨Dl, acc, xs, rfl, rfl, new_back h f1 h1 nd, eD, RpAll.le (Le.cutSub fun a z => z.imp id (sub a)) _ _ ra⟩⟩
      exact (h1.dem _).new nd z
end
end V3
set_option Elab.async false
set_option linter.all false
set_option maxRecDepth 100000
set_option maxHeartbeats 4000000
/-! comprehensions of two clauses over tuples of variables, objects among them -/
namespace V3
open PySem PySem.Spec PyProof.Rows L2
abbrev TI3U := Ro → Nat → (List U → Nat → Prop) → (Addr → Prop) → Prop
@[simp] def givU (is : List Nat) (u : U) (ρ : Ro) (k : Ro → Prop) : Prop := match is with
  | [i] => k (ρ.set i (.fz u))
  | _ => False
def ItOkU (am : Am) (O : Addr → Prop) (J : It) (ds : List U) (H' : Hp) : Prop :=
  ∀ (H2 : Hp) (O2 : Addr → Prop), Le (cut O H') (cut O2 H2) → (∀ a, O2 a → There H2 a) → ∀ i, (∀ d, ds[i]? = some d → J.go i H2 ∧ ∀ x H3, J.yld i H2 x H3 → Same H2 H3 ∧ RepU am O2 H3 x d) ∧ (ds.length ≤ i → J.stop i H2)
class LIU (K : PySem.W.Frag) (C : Addr) (TL : List (Addr × Str)) (E : XK) (wi : TI) (S : outParam (List Nat)) (m : outParam TI3U) : Prop where
  s : ∀ (am : Am) (ρ : Ro) (n : Nat) (σ : L2.St) (H : Hp), am.K = K ∧ am.TL = TL ∧ am.E = E ∧ am.C = C → Rl am ρ n σ H → ∀ (R : It → Hp → Prop) (q : List U → Nat → Prop), m ρ n q am.e →
    (∀ ds n' J H', q ds n' → FrR am.R H H' → Wd am.R am.TL H' n' → ItOkU am (Hid am (dem S ρ) σ) J ds H' → R J H') → wi σ H R
theorem giv_okU {am : Am} {ρ : Ro} {n : Nat} {σ : L2.St} {H : Hp} {g : TG} {is : List Nat} (hg : LG am.K g is false) (h : Rl am ρ n σ H) {O : Addr → Prop} (hO : ∀ a, Hid am ρ σ a → O a) {d : U} {v : V} (r : RepU am O H v d) {k : Ro → Prop} (hk : givU is d ρ k) {Q : L2.St → Hp → Prop} {vs : List Nat} (hv : ∀ i ∈ is, i ∈ vs) (fin : ∀ ρ' σ', k ρ' → Rl am ρ' n σ' H → (∀ i, i ∉ vs → ρ'[i]? = ρ[i]?) → wipe σ' vs = wipe σ vs → Q σ' H) : g v σ H Q := by
  obtain ⟨i, rfl, rfl⟩ := hg.one rfl
  exact fin _ _ hk (h.setFz i (u := d) (RepU.le (Le.cutSub hO) r)) (fun j hj => List.getElem?_set_ne fun z => hj (by rw [← z]; exact hv i (List.mem_singleton.mpr rfl))) (wipe_set (hv i (List.mem_singleton.mpr rfl)))
theorem rep_lc {am : Am} {Dl : Addr} {O : Addr → Prop} {H : Hp} {v : V} {u : U} (h : RepU am O H v u) : RepU (lcAm am Dl) O H v u := by
  cases u <;> exact h
@[simp] def lcIU (is : List Nat) (mt : TT3) (me : TE3) (ρ : Ro) (e : Addr → Prop) : List U → List D → Nat → (List D → Nat → Prop) → Prop
  | [], acc, n, k => k acc n
  | x :: es, acc, n, k => givU is x ρ fun ρ' => mt ρ' n (fun b n1 => if b = true then me ρ' n1 (fun _ u n2 => match u with
    | .d z => acc.length < sizeLine ∧ flat z = true ∧ lcIU is mt me ρ e es (acc ++ [z]) n2 k
    | _ => False) e else lcIU is mt me ρ e es acc n1 k) e
@[simp] def lcOU (is : List Nat) (mt : TT3) (mi1 : TI3U) (Si1 is1 vs1 : List Nat) (mt1 : TT3) (me : TE3) (ρ : Ro) (e : Addr → Prop) : List U → List D → Nat → (List D → Nat → Prop) → Prop
  | [], acc, n, q => q acc n
  | d :: ds, acc, n, q => givU is d ρ fun ρ' => mt ρ' n (fun b n1 => if b = true then mi1 ρ' n1 (fun es n2 => lcIU is1 mt1 me (wipe3 (dem Si1 ρ') vs1) e es acc n2 (fun acc' n3 => lcOU is mt mi1 Si1 is1 vs1 mt1 me ρ e ds acc' n3 q)) e else lcOU is mt mi1 Si1 is1 vs1 mt1 me ρ e ds acc n1 q) e
@[simp ↓] def mLc2U (Si is vs : List Nat) (mi : TI3U) (mt : TT3) (mi1 : TI3U) (Si1 is1 vs1 : List Nat) (mt1 : TT3) (me : TE3) : TE3 := fun ρ n q e => mi ρ n (fun ds n1 => lcOU is mt mi1 Si1 is1 vs1 mt1 me (wipe3 (dem Si ρ) vs) (fun _ => False) ds [] n1 (fun xs n2 => q true (.d (.list xs)) n2)) e
section
variable {K : PySem.W.Frag} {C : Addr} {TL : List (Addr × Str)} {E : XK}
instance {wi wi1 : TI} {g g1 : TG} {tt tt1 : TT} {te : TE} {vs vs1 : List Nat} {Si Si1 Se is is1 : List Nat} {mi mi1 : TI3U} {mt mt1 : TT3} {me : TE3} [hi : LIU K C TL E wi Si mi] [hg : LG K g is false] [hsub : SubL is vs] [ht : LT K C TL E tt mt] [hi1 : LIU K C TL E wi1 Si1 mi1] [hg1 : LG K g1 is1 false] [hsub1 : SubL is1 vs1] [ht1 : LT K C TL E tt1 mt1] [he : LE K C TL E te Se me] :
    LE K C TL E (tLc2 wi g tt wi1 g1 tt1 te vs vs1) [] (mLc2U Si is vs mi mt mi1 Si1 is1 vs1 mt1 me) where
  s am ρ n σ H hE h Q q hm k := by
    obtain ⟨rfl, rfl, rfl, rfl⟩ := id hE
    refine hi.s am ρ n σ H hE h _ _ hm fun ds n1 J H1 hq f1 w1 it => ?_
    have h1 := h.step f1 w1
    have h1d := h1.dem Si
    intro Dl hD
    have hE' : (lcAm am Dl).K = am.K ∧ (lcAm am Dl).TL = am.TL ∧ (lcAm am Dl).E = am.E ∧ (lcAm am Dl).C = am.C := ⟨rfl, rfl, rfl, rfl⟩
    have hd : ∀ d g c, am.R.dr = some (d, g, c) → Dl ≠ d ∧ Dl ≠ g ∧ Dl ≠ c := fun d g' c q' => by
      obtain ⟨a1, a2, a3, _⟩ := w1.dr d g' c q'
      have nh : ∀ a, am.R.hid a → Dl ≠ a := fun a ha z => (New.of hD) (z ▸ w1.hid a ha)
      exact ⟨nh d a1, nh g' a2, nh c a3⟩
    have nd : New H1 Dl := .of hD
    have h0 := wipe_ok (lc_in h1d hD) vs
    have fD : FrR am.R H1 (upd H1 Dl (.lst [])) := .of (same_new hD)
    let OO : Addr → Prop := fun a => a = Dl ∨ Hid am ρ σ a
    -- what is made so far stands behind steps that leave Dl alone
    have keepD : ∀ {Ha Hb : Hp} {acc : List V}, FrR am.R Ha Hb → Ha Dl = some (.lst acc) → Hb Dl = some (.lst acc) := fun f e => f.1 Dl _ (fun d g' c q' => ⟨(hd d g' c q').1, (hd d g' c q').2.1⟩) (fun ps z => by cases z) e
    have keepAcc : ∀ {Ha Hb : Hp} {acc : List V} {xs : List D}, FrR am.R Ha Hb → RpAll am.K (cut OO Ha) acc xs → RpAll am.K (cut OO Hb) acc xs := fun f r => RpAll.le (Le.cut (fun a z => .inl z) fun a o hn t e => f.1 a o (fun d g' c q' => by
      obtain ⟨a1, a2, _, _⟩ := w1.dr d g' c q'
      exact ⟨fun z => hn (.inr (.inl (z ▸ a1))), fun z => hn (.inr (.inl (z ▸ a2)))⟩) t e) _ _ r
    have wrD : ∀ {Ha : Hp} {ys : List V}, FrR am.R H1 Ha → FrR am.R H1 (upd Ha Dl (.lst ys)) := fun {Ha ys} f => by
      refine ⟨fun b o h1 h2 e => ?_, fun b z => ?_⟩
      · have ne : b ≠ Dl := fun z => by
          rw [z, hD] at e
          cases e
        rw [upd_ne ne]
        exact f.1 b o h1 h2 e
      · by_cases ne : b = Dl
        · exact ne ▸ .lst upd_same
        · obtain ⟨o, q1, q2⟩ := f.2 b z
          exact ⟨o, by rw [upd_ne ne]; exact q1, q2⟩
    -- hidden lists of slots are lists
    have lists : ∀ {Ha : Hp}, FrR am.R H1 Ha → ∀ a, Hid am ρ σ a → am.R.hid a ∨ ∃ ys, Ha a = some (.lst ys) := fun {Ha} f a z => by
      rcases z with z | ⟨j, z⟩
      · exact .inl z
      · obtain ⟨o1, ⟨ys, o2⟩, o3⟩ := h1.ownL z
        exact .inr ⟨ys, f.1 a _ (fun d g' c q' => by
          obtain ⟨a1, a2, _, _⟩ := w1.dr d g' c q'
          exact ⟨fun y => o3 (y ▸ a1), fun y => o3 (y ▸ a2)⟩) (fun ps y => by cases y) o2⟩
    refine ⟨fun i m H2 => m = ds.length - i ∧ i ≤ ds.length ∧ ∃ n2 acc xs, H2 Dl = some (.lst acc) ∧ RpAll am.K (cut OO H2) acc xs ∧ FrR am.R H1 H2 ∧ Rl (lcAm am Dl) (wipe3 (dem Si ρ) vs) n2 (wipe σ vs) H2 ∧
      lcOU is mt mi1 Si1 is1 vs1 mt1 me (wipe3 (dem Si ρ) vs) (fun _ => False) (ds.drop i) xs n2 (fun ys n3 => q true (.d (.list ys)) n3), ⟨ds.length, by simp, Nat.zero_le _, n1, [], [], upd_same, .nil, fD, h0, hq⟩, fun i m H2 w => ?_⟩
    obtain ⟨rfl, hi', n2, acc, xs, eD, ra, fr, r2, hf⟩ := w
    have leO : Le (cut (Hid am (dem Si ρ) σ) H1) (cut (Hid (lcAm am Dl) (wipe3 (dem Si ρ) vs) (wipe σ vs)) H2) := Le.cut (fun a z => by
      rcases lc_hid.mp (wipe_hid z) with z | z
      · exact .inr (z ▸ nd)
      · exact .inl z) fun a o hn t e => fr.1 a o (fun d g' c q' => by
        obtain ⟨a1, a2, _, _⟩ := w1.dr d g' c q'
        exact ⟨fun z => hn (.inl (z ▸ a1)), fun z => hn (.inl (z ▸ a2))⟩) t e
    obtain ⟨it1, it2⟩ := it H2 _ leO (fun a z => r2.hidThere z) i
    by_cases hlt : i < ds.length
    · have e : ds[i]? = some ds[i] := List.getElem?_eq_getElem hlt
      obtain ⟨go, y⟩ := it1 _ e
      rw [List.drop_eq_getElem_cons hlt] at hf
      refine .inr ⟨go, fun H' => i + 1 ≤ ds.length ∧ ∃ n2 acc xs, H' Dl = some (.lst acc) ∧ RpAll am.K (cut OO H') acc xs ∧ FrR am.R H1 H' ∧ Rl (lcAm am Dl) (wipe3 (dem Si ρ) vs) n2 (wipe σ vs) H' ∧
        lcOU is mt mi1 Si1 is1 vs1 mt1 me (wipe3 (dem Si ρ) vs) (fun _ => False) (ds.drop (i + 1)) xs n2 (fun ys n3 => q true (.d (.list ys)) n3), fun H' p => ⟨ds.length - (i + 1), by omega, rfl, p⟩, fun x H3 yl => ?_⟩
      obtain ⟨sm, rx⟩ := y x H3 yl
      have r3 := r2.step (FrR.of sm) (r2.wd.same sm)
      refine giv_okU (am := lcAm am Dl) hg r3 (O := Hid (lcAm am Dl) (wipe3 (dem Si ρ) vs) (wipe σ vs)) (fun a z => z) (rep_lc rx) hf hsub.h fun ρ4 σ4 hk r4 eρ eσ => ⟨eσ.trans (wipe_idem σ vs) |>.trans rfl, ?_⟩
      refine ht.s (lcAm am Dl) ρ4 n2 σ4 H3 hE' r4 _ _ hk fun b n4 H4 hq4 f4 w4 => ?_
      have r5 := r3.step f4 w4
      have f04 := (fr.trans (.of sm)).trans f4
      have eD4 := keepD f4 (sm _ _ eD)
      have ra4 := keepAcc f4 (keepAcc (.of sm) ra)
      cases b with
      | false => exact ⟨hlt, n4, acc, xs, eD4, ra4, f04, r5, hq4⟩
      | true =>
        have r4' := r4.step f4 w4
        refine hi1.s (lcAm am Dl) ρ4 n4 σ4 H4 hE' r4' _ _ hq4 fun es n5 J1 H5 hq5 f5 w5 itI => ?_
        have r6 := (r4'.step f5 w5)
        have rI0 := wipe_ok (r6.dem Si1) vs1
        refine ⟨fun j m H6 => m = es.length - j ∧ j ≤ es.length ∧ ∃ n6 acc xs, H6 Dl = some (.lst acc) ∧ RpAll am.K (cut OO H6) acc xs ∧ FrR am.R H1 H6 ∧ Rl (lcAm am Dl) (wipe3 (dem Si ρ) vs) n6 (wipe σ vs) H6 ∧ Rl (lcAm am Dl) (wipe3 (dem Si1 ρ4) vs1) n6 (wipe σ4 vs1) H6 ∧
          (∀ b o, b ≠ Dl → (∀ d g c, am.R.dr = some (d, g, c) → b ≠ d ∧ b ≠ g) → (∀ ps, o ≠ HO.tbl ps) → H5 b = some o → H6 b = some o) ∧
          lcIU is1 mt1 me (wipe3 (dem Si1 ρ4) vs1) (fun _ => False) (es.drop j) xs n6 (fun acc' n3 => lcOU is mt mi1 Si1 is1 vs1 mt1 me (wipe3 (dem Si ρ) vs) (fun _ => False) (ds.drop (i + 1)) acc' n3 (fun ys n3 => q true (.d (.list ys)) n3)),
          ⟨es.length, by simp, Nat.zero_le _, n5, acc, xs, keepD f5 eD4, keepAcc f5 ra4, f04.trans f5, r5.step f5 w5, rI0, (fun b o _ _ _ e => e), hq5⟩, fun j m H6 w => ?_⟩
        obtain ⟨rfl, hj, n6, acc, xs, eD6, ra6, fr6, rO, rI, frI, hf6⟩ := w
        have leI : Le (cut (Hid (lcAm am Dl) (dem Si1 ρ4) σ4) H5) (cut (Hid (lcAm am Dl) (wipe3 (dem Si1 ρ4) vs1) (wipe σ4 vs1)) H6) := Le.cut (fun a z => .inl (wipe_hid z)) fun a o hn t e => frI a o (fun z => hn (lc_hid.mpr (.inl z))) (fun d g' c q' => by
          obtain ⟨a1, a2, _, _⟩ := w1.dr d g' c q'
          exact ⟨fun z => hn (.inl (.inl (z ▸ a1))), fun z => hn (.inl (.inl (z ▸ a2)))⟩) t e
        obtain ⟨jt1, jt2⟩ := itI H6 _ leI (fun a z => rI.hidThere z) j
        by_cases hjt : j < es.length
        · have ej : es[j]? = some es[j] := List.getElem?_eq_getElem hjt
          obtain ⟨goj, yj⟩ := jt1 _ ej
          rw [List.drop_eq_getElem_cons hjt] at hf6
          refine .inr ⟨goj, fun H' => j + 1 ≤ es.length ∧ ∃ n6 acc xs, H' Dl = some (.lst acc) ∧ RpAll am.K (cut OO H') acc xs ∧ FrR am.R H1 H' ∧ Rl (lcAm am Dl) (wipe3 (dem Si ρ) vs) n6 (wipe σ vs) H' ∧ Rl (lcAm am Dl) (wipe3 (dem Si1 ρ4) vs1) n6 (wipe σ4 vs1) H' ∧
            (∀ b o, b ≠ Dl → (∀ d g c, am.R.dr = some (d, g, c) → b ≠ d ∧ b ≠ g) → (∀ ps, o ≠ HO.tbl ps) → H5 b = some o → H' b = some o) ∧
            lcIU is1 mt1 me (wipe3 (dem Si1 ρ4) vs1) (fun _ => False) (es.drop (j + 1)) xs n6 (fun acc' n3 => lcOU is mt mi1 Si1 is1 vs1 mt1 me (wipe3 (dem Si ρ) vs) (fun _ => False) (ds.drop (i + 1)) acc' n3 (fun ys n3 => q true (.d (.list ys)) n3)), fun H' p => ⟨es.length - (j + 1), by omega, rfl, p⟩, fun x6 H7 yl6 => ?_⟩
          obtain ⟨sm6, rx6⟩ := yj x6 H7 yl6
          have fs6 : FrR am.R H6 H7 := FrR.of sm6
          have rI7 := rI.step (FrR.of sm6) (rI.wd.same sm6)
          have rO7 := rO.step (FrR.of sm6) (rO.wd.same sm6)
          refine giv_okU (am := lcAm am Dl) hg1 rI7 (O := Hid (lcAm am Dl) (wipe3 (dem Si1 ρ4) vs1) (wipe σ4 vs1)) (fun a z => z) rx6 hf6 hsub1.h fun ρ8 σ8 hk8 r8 eρ8 eσ8 => ⟨eσ8.trans (wipe_idem σ4 vs1) |>.trans rfl, ?_⟩
          refine ht1.s (lcAm am Dl) ρ8 n6 σ8 H7 hE' r8 _ _ hk8 fun b8 n9 H9 hq9 f9 w9 => ?_
          have eD9 := keepD f9 (keepD fs6 eD6)
          have ra9 := keepAcc f9 (keepAcc fs6 ra6)
          have fr9 := (fr6.trans fs6).trans f9
          have step9 : ∀ b o, b ≠ Dl → (∀ d g c, am.R.dr = some (d, g, c) → b ≠ d ∧ b ≠ g) → (∀ ps, o ≠ HO.tbl ps) → H5 b = some o → H9 b = some o := fun b o ne hb t e => f9.1 b o hb t (fs6.1 b o hb t (frI b o ne hb t e))
          cases b8 with
          | false => exact ⟨hjt, n9, acc, xs, eD9, ra9, fr9, rO7.step f9 w9, rI7.step f9 w9, step9, hq9⟩
          | true =>
            refine he.s (lcAm am Dl) ρ8 n9 σ8 H9 hE' (r8.step f9 w9) _ _ hq9 fun fr10 u n10 v H10 hq10 f10 w10 r10 => ?_
            match u, hq10, r10.1 with
            | .d z, hq10, rz =>
              obtain ⟨hlen, hflat, hq10⟩ := hq10
              have eD10 := keepD f10 eD9
              have ra10 := keepAcc f10 ra9
              have fr10' := fr9.trans f10
              have rz2 : Rp am.K (cut OO H10) v z := by
                refine Rp.hide (O := Hid (lcAm am Dl) (dem Se ρ8) σ8) (fun p hp => ?_) _ _ hflat rz
                rcases hp with hp | hp
                · exact .inl (lc_hid.mpr (.inl hp))
                · rcases lists fr10' p hp with y | y
                  · exact .inl (lc_hid.mpr (.inr (.inl y)))
                  · exact .inr y
              refine ⟨acc, eD10, by rw [RpAll.len ra10]; exact hlen, hjt, n10, acc ++ [v], xs ++ [z], upd_same, ?_, wrD fr10', lc_write hd ((rO7.step f9 w9).step f10 w10) eD10, lc_write hd ((rI7.step f9 w9).step f10 w10) eD10, fun b o ne hb t e => ?_, hq10⟩
              · refine RpAll.le (Le.cut (fun a z => .inl z) fun a o hn t e => ?_) _ _ (RpAll.app ra10 (.one rz2))
                rw [upd_ne fun z => hn (.inl z)]
                exact e
              · rw [upd_ne ne]
                exact f10.1 b o hb t (step9 b o ne hb t e)
        · have e6 : j = es.length := by omega
          subst e6
          rw [List.drop_length] at hf6
          exact .inl ⟨jt2 (Nat.le_refl _), hlt, n6, acc, xs, eD6, ra6, fr6, rO, hf6⟩
    · have e : i = ds.length := by omega
      subst e
      rw [List.drop_length] at hf
      refine .inl ⟨it2 (Nat.le_refl _), ?_⟩
      have hf2 : q true (.d (.list xs)) n2 := hf
      have wE : Wd am.R am.TL H2 n2 := {
        hid := fun a z => r2.wd.hid a (.inl z)
        tabs := r2.wd.tabs
        dr := fun d g' c q' => by
          obtain ⟨_, _, _, r⟩ := r2.wd.dr d g' c q'
          obtain ⟨a1, a2, a3, _⟩ := w1.dr d g' c q'
          exact ⟨a1, a2, a3, r⟩ }
      have sub : ∀ a, Hid am (dem [] ρ) σ a → Hid am ρ σ a := fun a z => hidDem z
      refine k _ _ n2 _ H2 hf2 (f1.trans fr) wE ⟨Rp.lst (cut_some.mpr ⟨fun z => ?_, eD⟩) (RpAll.le (Le.cutSub fun a z => .inr (sub a z)) _ _ ra), fun _ => ⟨Dl, acc, xs, rfl, rfl, new_back h f1 h1 nd, eD, RpAll.le (Le.cutSub fun a z => z.imp id (sub a)) _ _ ra⟩⟩
      exact (h1.dem _).new nd z
theorem RepA.len {am : Am} {O : Addr → Prop} {H : Hp} {vs : List V} {us : List U} (h : RepA am O H vs us) : vs.length = us.length := Paired.length h
theorem RepA.get {am : Am} {O : Addr → Prop} {H : Hp} : ∀ {vs : List V} {us : List U} {i : Nat} {u : U}, RepA am O H vs us → us[i]? = some u → ∃ v, vs[i]? = some v ∧ RepU am O H v u
  | _, _, _, _, .nil, e => by simp at e
  | _, _, 0, _, .cons r _, e => by
    simp at e
    subst e
    exact ⟨_, rfl, r⟩
  | _, _, i + 1, u, .cons _ t, e => by
    obtain ⟨v, h1, h2⟩ := RepA.get (i := i) (u := u) t (by simpa using e)
    exact ⟨v, by simpa using h1, h2⟩
theorem it_tupU {am : Am} {O : Addr → Prop} {a : Addr} {vs : List V} {us : List U} {H : Hp} (h : SqT am.K (cut O H) a vs) (r : RepA am O H vs us) : ItOkU am O (Itt am.K a) us H := fun H2 O2 le _ i => by
  have h2 := SqT.le Le.cutAll (SqT.le le h)
  have r2 := RepA.le le r
  refine ⟨fun d e => ?_, fun e => ⟨vs, h2, by rw [RepA.len r]; exact e⟩⟩
  obtain ⟨v, q1, q2⟩ := RepA.get r2 e
  refine ⟨⟨vs, v, h2, q1⟩, fun x H3 y => ?_⟩
  obtain ⟨rfl, y2⟩ := y
  have e3 := y2 vs h2
  rw [q1] at e3
  cases e3
  exact ⟨Same.refl _, q2⟩
@[simp ↓] def mITupU (ma : TA3) : TI3U := fun ρ n q e => ma ρ n (fun us n1 => if us.length ≤ 1000 then q us n1 else False) e
instance {ta : TA} {S : List Nat} {ma : TA3} [ha : LA K C TL E ta S ma] : LIU K C TL E (iSeq K (tTup ta)) S (mITupU ma) where
  s am ρ n σ H hE h R q hm k := by
    obtain ⟨rfl, rfl, rfl, rfl⟩ := id hE
    refine ha.s am ρ n σ H hE h _ _ hm fun us n1 vs H1 hq f1 w1 r1 => ?_
    have h1 := h.step f1 w1
    have hl : us.length ≤ 1000 := by
      by_cases z : us.length ≤ 1000
      · exact z
      · rw [if_neg z] at hq
        exact hq.elim
    rw [if_pos hl] at hq
    refine ⟨by rw [RepA.len r1]; exact le1000 hl, fun p hp => ?_⟩
    obtain ⟨f2, w2⟩ := fresh_step h1 hp (.tup vs)
    exact ⟨p, rfl, .inr ⟨⟨vs, .inl (.inl upd_same)⟩, k us n1 _ _ hq (f1.trans f2) w2 (it_tupU (.inl (.inl (cut_new h1 S hp _))) (RepA.le (cut_grow hp _) r1))⟩⟩
end
end V3
set_option Elab.async false
set_option linter.all false
set_option maxRecDepth 100000
set_option maxHeartbeats 4000000
set_option synthInstance.maxSize 100000
set_option synthInstance.maxHeartbeats 0
namespace G21
open PySem PySem.Spec PyProof.Rows L2 V3
instance {K : PySem.W.Frag} {mg : Str → Option Value} (T : Txt K mg) : KnC K T.C := ⟨fun x h => match x with
  | .none => T.kNoneType
  | .bool _ => T.kbool
  | .int _ => T.kint
  | .str _ => T.kstr
  | .list _ => T.klist
  | .tuple _ => T.ktuple
  | .dict kvs => absurd rfl (h kvs)⟩
@[simp ↓] def sp_chk_form (BF : Addr) : VSp := fun us n q e => ∃ u : U, us = [u] ∧ ((∃ fs, u = .ob fs ∧ q (.d .none) n) ∨ ∃ x : D, u = .d x ∧ (∀ kvs, x ≠ .dict kvs) ∧ e BF)
/-- a form that was made -/
structure Fm where
  e : D
  cs : List Co
  l : Int × Int
  b : Int × Int
abbrev fmU (s : D) (f : Fm) : U := .ob (fldF s f.e f.cs f.l f.b)
def behI (l b s : Int × Int) : Int × Int := (max l.1 (s.1 + b.1), max l.2 (s.2 + b.2))
def hasI (f : Fm) (s : Int × Int) : Bool := hasB f.cs (some s.1, some s.2)
@[simp ↓] def sp_endsize (BF BB : Addr) : VSp := fun us n q e => ∃ (s : D) (f : Fm) (p : Int × Int), us = [fmU s f, .d (pr p.1 p.2)] ∧ 1 ≤ p.1 ∧ 1 ≤ p.2 ∧ f.cs.length ≤ 300 ∧ q (.d (if hasI f p = true then pr (behI f.l f.b p).1 (behI f.l f.b p).2 else .none)) n
/-- the forms part there -/
def prtB (f g : Fm) (p : Int × Int) : Bool := (hasI f p != hasI g p) || (hasI f p && (!(PyData.eqv f.e g.e) || !decide (behI f.l f.b p = behI g.l g.b p)))
@[simp ↓] def sp_parted : VSp := fun us n q _ => ∃ (s t : D) (f g : Fm) (p : Int × Int), us = [fmU s f, fmU t g, .d (pr p.1 p.2)] ∧ f.cs.length ≤ 300 ∧ g.cs.length ≤ 300 ∧ SeqAt.shaped f.e = true ∧ SeqAt.shaped g.e = true ∧ (∃ xs, f.e = .tuple xs) ∧ (∃ xs, g.e = .tuple xs) ∧ q (.d (.bool (prtB f g p))) n
theorem shaped_pr2 (a b : Int) : SeqAt.shaped (pr a b) = true := by
  simp [SeqAt.shaped, PyData.canLay0, PyData.canLayAll0, PyData.depth, PyData.depthAll]
theorem eqv_pr2 (a b c d : Int) : PyData.eqv (pr a b) (pr c d) = decide ((a, b) = (c, d)) := by
  simp [PyData.eqv, PyData.eqvAll]
  rw [Bool.eq_iff_iff]
  simp
section
variable {P : Program} {w : World} {K : PySem.W.Frag} {mg : Str → Option Value} {base : Heap} {TL : List (Addr × Str)}
theorem ok_q_check_form (T : Txt K mg) : FnOk P w K mg base (L2.CX P w) 1 T.q_check_form.a T.q_check_form.d ["form"] (toSp K T.C TL false (sp_chk_form T.x_BadForm.C)) := by
  refine T.q_check_form.F.okX c_q_check_form (fun vs H Q E h => toSp_len h fun us n q e hs => ?_) (fun cdv A outer s H vs Q E hr h => ?_)
  · (first | (obtain ⟨rfl, _⟩ := hs; rfl) | (obtain ⟨_, hs⟩ := hs; (first | (obtain ⟨rfl, _⟩ := hs; rfl) | (obtain ⟨_, hs⟩ := hs; (first | (obtain ⟨rfl, _⟩ := hs; rfl) | (obtain ⟨_, hs⟩ := hs; (first | (obtain ⟨rfl, _⟩ := hs; rfl) | (obtain ⟨_, hs⟩ := hs; (first | (obtain ⟨rfl, _⟩ := hs; rfl) | (obtain ⟨_, hs⟩ := hs; (first | (obtain ⟨rfl, _⟩ := hs; rfl) | (obtain ⟨_, hs⟩ := hs; (first | (obtain ⟨rfl, _⟩ := hs; rfl) | (obtain ⟨_, hs⟩ := hs; (first | (obtain ⟨rfl, _⟩ := hs; rfl) | (obtain ⟨_, hs⟩ := hs; (first | (obtain ⟨rfl, _⟩ := hs; rfl) | (obtain ⟨_, hs⟩ := hs; (first | (obtain ⟨rfl, _⟩ := hs; rfl) | (obtain ⟨_, hs⟩ := hs; (first | (obtain ⟨rfl, _⟩ := hs; rfl) | (obtain ⟨_, hs⟩ := hs; (first | (obtain ⟨rfl, _⟩ := hs; rfl) | (obtain ⟨_, hs⟩ := hs; (first | (obtain ⟨rfl, _⟩ := hs; rfl) | (obtain ⟨_, hs⟩ := hs; (first | (obtain ⟨rfl, _⟩ := hs; rfl) | (obtain ⟨_, hs⟩ := hs; (first | (obtain ⟨rfl, _⟩ := hs; rfl) | (obtain ⟨_, hs⟩ := hs; (first | (obtain ⟨rfl, _⟩ := hs; rfl) | (obtain ⟨_, hs⟩ := hs; (obtain ⟨rfl, _⟩ := hs; rfl)))))))))))))))))))))))))))))))))
  · refine ⟨_,
      (pss_one (ps_if (pt_not (pt_val (pe_callB (isi3 K) (by rfl) T.z_isinstance (by decide +kernel) (pa_cons (pv 0) (pa_cons (pe_glob (v := .ref T.C) (u := .ref T.C) rfl T.gC rfl) pa_nil)))))
      (pss_one (ps_rz (C' := T.x_BadForm.C) (ps_raise rfl (takes_of rfl rfl rfl rfl) (pmk_own PySem.F.excBase_ValueError T.x_BadForm.q T.x_BadForm.g T.x_BadForm.k (raises_own T.x_BadForm.b T.x_BadForm.t) (by exact rfl)))))
      pss_nil))
      , run3 (K := K) (C := T.C) (TL := TL) h fun us n q e hs => ?_⟩
    obtain ⟨u, rfl, hq⟩ := hs
    rcases hq with ⟨xs, rfl, hq⟩ | ⟨x, rfl, hnd, hq⟩
    · simpa [ro0] using hq
    · cases x <;> first | simpa [ro0] using hq | exact absurd rfl (hnd _)
theorem ok_q_end_size (T : Txt K mg) : FnOk P w K mg base (L2.CX P w) 5 T.q_end_size.a T.q_end_size.d ["form", "body"] (toSp K T.C TL false (sp_endsize T.x_BadForm.C T.x_BadBody.C)) := by
  refine T.q_end_size.F.okX c_q_end_size (fun vs H Q E h => toSp_len h fun us n q e hs => ?_) (fun cdv A outer s H vs Q E hr h => ?_)
  · (first | (obtain ⟨rfl, _⟩ := hs; rfl) | (obtain ⟨_, hs⟩ := hs; (first | (obtain ⟨rfl, _⟩ := hs; rfl) | (obtain ⟨_, hs⟩ := hs; (first | (obtain ⟨rfl, _⟩ := hs; rfl) | (obtain ⟨_, hs⟩ := hs; (first | (obtain ⟨rfl, _⟩ := hs; rfl) | (obtain ⟨_, hs⟩ := hs; (first | (obtain ⟨rfl, _⟩ := hs; rfl) | (obtain ⟨_, hs⟩ := hs; (first | (obtain ⟨rfl, _⟩ := hs; rfl) | (obtain ⟨_, hs⟩ := hs; (first | (obtain ⟨rfl, _⟩ := hs; rfl) | (obtain ⟨_, hs⟩ := hs; (first | (obtain ⟨rfl, _⟩ := hs; rfl) | (obtain ⟨_, hs⟩ := hs; (first | (obtain ⟨rfl, _⟩ := hs; rfl) | (obtain ⟨_, hs⟩ := hs; (first | (obtain ⟨rfl, _⟩ := hs; rfl) | (obtain ⟨_, hs⟩ := hs; (first | (obtain ⟨rfl, _⟩ := hs; rfl) | (obtain ⟨_, hs⟩ := hs; (first | (obtain ⟨rfl, _⟩ := hs; rfl) | (obtain ⟨_, hs⟩ := hs; (first | (obtain ⟨rfl, _⟩ := hs; rfl) | (obtain ⟨_, hs⟩ := hs; (first | (obtain ⟨rfl, _⟩ := hs; rfl) | (obtain ⟨_, hs⟩ := hs; (first | (obtain ⟨rfl, _⟩ := hs; rfl) | (obtain ⟨_, hs⟩ := hs; (first | (obtain ⟨rfl, _⟩ := hs; rfl) | (obtain ⟨_, hs⟩ := hs; (obtain ⟨rfl, _⟩ := hs; rfl)))))))))))))))))))))))))))))))))
  · refine ⟨_,
      (pss_cons (ps_expr (pe_call (ok_q_check_form T (TL := TL)) (hr.mono (by decide)) rfl T.q_check_form.g T.q_check_form.k T.q_check_form.b .nil (passes_call (takes_of rfl rfl rfl rfl) (fun _ _ _ _ h => h)) (pa_cons (pv 0) pa_nil)))
      (pss_cons (ps_expr (pe_call (ok_q_check_body T (TL := TL)) (hr.mono (by decide)) rfl T.q_check_body.g T.q_check_body.k T.q_check_body.b .nil (passes_call (takes_of rfl rfl rfl rfl) (fun _ _ _ _ h => h)) (pa_cons (pv 1) pa_nil)))
      (pss_one (ps_ret (pe_ifExp (pt_val (pe_call (ok_q_has T (TL := TL)) (hr.mono (by decide)) rfl T.q_has.g T.q_has.k T.q_has.b .nil pass0 (pa_cons (fld3 K (pv 0) rfl) (pa_cons (pv 1) pa_nil)))) (pe_call (ok_q_body_behind T (TL := TL)) (hr.mono (by decide)) rfl T.q_body_behind.g T.q_body_behind.k T.q_body_behind.b .nil pass0 (pa_cons (pv 0) (pa_cons (pv 1) pa_nil))) pe_non)))))
      , run3 (K := K) (C := T.C) (TL := TL) h fun us n q e hs => ?_⟩
    obtain ⟨s, f, p, rfl, h1, h2, hl, hq⟩ := hs
    simp [ro0]
    refine ⟨fun _ => ⟨f.cs, some p.1, some p.2, ⟨rfl, rfl, rfl⟩, hl, ?_⟩, fun z => ?_⟩
    · by_cases h : hasI f p = true
      · have h' : hasB f.cs (some p.1, some p.2) = true := h
        rw [if_pos h']
        rw [if_pos h] at hq
        exact ⟨_, f.l.1, f.l.2, f.b.1, f.b.2, p.1, p.2, ⟨rfl, rfl, rfl⟩, rfl, rfl, hq⟩
      · have h' : ¬ hasB f.cs (some p.1, some p.2) = true := h
        rw [if_neg h']
        rw [if_neg h] at hq
        exact hq
    · simp [isBd, isSzD, h1, h2] at z
theorem ok_q_is_parted (T : Txt K mg) : FnOk P w K mg base CX0 4 T.q_is_parted.a T.q_is_parted.d ["one", "other", "body"] (toSp K T.C TL false sp_parted) := by
  refine T.q_is_parted.F.ok c_q_is_parted (fun vs H Q E h => toSp_len h fun us n q e hs => ?_) (fun cdv A outer s H vs Q E hr h => ?_)
  · (first | (obtain ⟨rfl, _⟩ := hs; rfl) | (obtain ⟨_, hs⟩ := hs; (first | (obtain ⟨rfl, _⟩ := hs; rfl) | (obtain ⟨_, hs⟩ := hs; (first | (obtain ⟨rfl, _⟩ := hs; rfl) | (obtain ⟨_, hs⟩ := hs; (first | (obtain ⟨rfl, _⟩ := hs; rfl) | (obtain ⟨_, hs⟩ := hs; (first | (obtain ⟨rfl, _⟩ := hs; rfl) | (obtain ⟨_, hs⟩ := hs; (first | (obtain ⟨rfl, _⟩ := hs; rfl) | (obtain ⟨_, hs⟩ := hs; (first | (obtain ⟨rfl, _⟩ := hs; rfl) | (obtain ⟨_, hs⟩ := hs; (first | (obtain ⟨rfl, _⟩ := hs; rfl) | (obtain ⟨_, hs⟩ := hs; (first | (obtain ⟨rfl, _⟩ := hs; rfl) | (obtain ⟨_, hs⟩ := hs; (first | (obtain ⟨rfl, _⟩ := hs; rfl) | (obtain ⟨_, hs⟩ := hs; (first | (obtain ⟨rfl, _⟩ := hs; rfl) | (obtain ⟨_, hs⟩ := hs; (first | (obtain ⟨rfl, _⟩ := hs; rfl) | (obtain ⟨_, hs⟩ := hs; (first | (obtain ⟨rfl, _⟩ := hs; rfl) | (obtain ⟨_, hs⟩ := hs; (first | (obtain ⟨rfl, _⟩ := hs; rfl) | (obtain ⟨_, hs⟩ := hs; (first | (obtain ⟨rfl, _⟩ := hs; rfl) | (obtain ⟨_, hs⟩ := hs; (first | (obtain ⟨rfl, _⟩ := hs; rfl) | (obtain ⟨_, hs⟩ := hs; (obtain ⟨rfl, _⟩ := hs; rfl)))))))))))))))))))))))))))))))))
  · refine ⟨_,
      (pss_cons (ps_if (pt_cmpR (ne3 K hr.units) (pe_call (ok_q_has T (TL := TL)) (hr.mono (by decide)) rfl T.q_has.g T.q_has.k T.q_has.b .nil pass0 (pa_cons (fld3 K (pv 0) rfl) (pa_cons (pv 2) pa_nil))) (pe_call (ok_q_has T (TL := TL)) (hr.mono (by decide)) rfl T.q_has.g T.q_has.k T.q_has.b .nil pass0 (pa_cons (fld3 K (pv 1) rfl) (pa_cons (pv 2) pa_nil))) (nomark _))
      (pss_one (ps_ret pe_bl))
      pss_nil)
      (pss_cons (ps_if (pt_not (pt_val (pe_call (ok_q_has T (TL := TL)) (hr.mono (by decide)) rfl T.q_has.g T.q_has.k T.q_has.b .nil pass0 (pa_cons (fld3 K (pv 0) rfl) (pa_cons (pv 2) pa_nil)))))
      (pss_one (ps_ret pe_bl))
      pss_nil)
      (pss_one (ps_ret (pe_or (pe_cmpR (ne3 K hr.units) (fld3 K (pv 0) rfl) (fld3 K (pv 1) rfl) (nomark _)) (pe_one (pe_cmpR (ne3 K hr.units) (pe_call (ok_q_body_behind T (TL := TL)) (hr.mono (by decide)) rfl T.q_body_behind.g T.q_body_behind.k T.q_body_behind.b .nil pass0 (pa_cons (pv 0) (pa_cons (pv 2) pa_nil))) (pe_call (ok_q_body_behind T (TL := TL)) (hr.mono (by decide)) rfl T.q_body_behind.g T.q_body_behind.k T.q_body_behind.b .nil pass0 (pa_cons (pv 1) (pa_cons (pv 2) pa_nil))) (nomark _))))))))
      , run3 (K := K) (C := T.C) (TL := TL) h fun us n q e hs => ?_⟩
    obtain ⟨s, t, f, g, p, rfl, h1, h2, s1, s2, ⟨xs, ex⟩, ⟨ys, ey⟩, hq⟩ := hs
    obtain ⟨fe, fc, fl, fb⟩ := f
    obtain ⟨ge, gc, gl, gb⟩ := g
    dsimp only at ex ey h1 h2 s1 s2
    subst ex
    subst ey
    unfold prtB at hq
    dsimp only at hq
    simp [ro0]
    refine ⟨fc, some p.1, some p.2, ⟨rfl, rfl, rfl⟩, h1, gc, some p.1, some p.2, ⟨rfl, rfl, rfl⟩, h2, ?_⟩
    show if hasI ⟨.tuple xs, fc, fl, fb⟩ p = hasI ⟨.tuple ys, gc, gl, gb⟩ p then _ else _
    by_cases e1 : hasI ⟨.tuple xs, fc, fl, fb⟩ p = hasI ⟨.tuple ys, gc, gl, gb⟩ p
    · rw [if_pos e1]
      rw [← e1] at hq
      refine ⟨fc, some p.1, some p.2, ⟨rfl, rfl, rfl⟩, h1, ?_⟩
      show if hasI ⟨.tuple xs, fc, fl, fb⟩ p = true then _ else _
      by_cases e2 : hasI ⟨.tuple xs, fc, fl, fb⟩ p = true
      · rw [if_pos e2]
        rw [e2] at hq
        refine ⟨s1, s2, ?_⟩
        cases e3 : (PyData.tuple xs).eqv (.tuple ys) with
        | false =>
          simp [e3] at hq ⊢
          exact hq
        | true =>
          have hq' : q (.d (.bool (!decide (behI fl fb p = behI gl gb p)))) n := by simpa [e3] using hq
          simp [e3]
          refine ⟨_, fl.1, fl.2, fb.1, fb.2, p.1, p.2, ⟨rfl, rfl, rfl⟩, rfl, rfl, _, gl.1, gl.2, gb.1, gb.2, p.1, p.2, ⟨rfl, rfl, rfl⟩, rfl, rfl, shaped_pr2 .., shaped_pr2 .., ?_⟩
          rw [eqv_pr2]
          exact hq'
      · rw [if_neg e2]
        simp [e2] at hq
        exact hq
    · rw [if_neg e1]
      have e4 : (hasI ⟨.tuple xs, fc, fl, fb⟩ p != hasI ⟨.tuple ys, gc, gl, gb⟩ p) = true := bne_iff_ne.mpr e1
      rw [e4, Bool.true_or] at hq
      exact hq
end
end G21
set_option Elab.async false
set_option linter.all false
set_option maxRecDepth 100000
set_option maxHeartbeats 4000000
set_option synthInstance.maxSize 100000
set_option synthInstance.maxHeartbeats 0
namespace G21
open PySem PySem.Spec PyProof.Rows L2 V3
theorem lcI_pure {is : List Nat} {tup : Bool} {mt : TT3} {me : TE3} {ρ : Ro} {e : Addr → Prop} {β : Type} (D1 : β → D) (g : β → D) (p : β → Bool) : ∀ (bs : List β) (acc : List D) (n : Nat) (k : List D → Nat → Prop),
    (∀ b ∈ bs, ∀ (m : Nat) (Kt : D → Nat → Prop) (Ks : Nat → Prop), (if p b = true then Kt (g b) m else Ks m) → giv is tup (D1 b) ρ fun ρ' => mt ρ' m (fun c n1 => if c = true then me ρ' n1 (fun _ u n2 => match u with
      | .d x => Kt x n2
      | _ => False) e else Ks n1) e) → (∀ b ∈ bs, V3.flat (g b) = true) → acc.length + bs.length ≤ 5000 → k (acc ++ (bs.filter p).map g) n → lcI is tup mt me ρ e (bs.map D1) acc n k
  | [], acc, n, k, _, _, _, h => by
    simpa using h
  | b :: bs, acc, n, k, hit, hf, hl, h => by
    rw [List.length_cons] at hl
    refine hit b List.mem_cons_self n (fun z n2 => acc.length < sizeLine ∧ V3.flat z = true ∧ lcI is tup mt me ρ e (bs.map D1) (acc ++ [z]) n2 k) (fun n1 => lcI is tup mt me ρ e (bs.map D1) acc n1 k) ?_
    cases hp : p b
    · rw [List.filter_cons_of_neg (by rw [hp]; decide)] at h
      simp only [Bool.false_eq_true, if_false]
      exact lcI_pure D1 g p bs acc n k (fun c hc => hit c (List.mem_cons_of_mem _ hc)) (fun c hc => hf c (List.mem_cons_of_mem _ hc)) (by omega) h
    · rw [List.filter_cons_of_pos hp, List.map_cons] at h
      simp only [if_true]
      refine ⟨few (by omega), hf b List.mem_cons_self, lcI_pure D1 g p bs (acc ++ [g b]) n k (fun c hc => hit c (List.mem_cons_of_mem _ hc)) (fun c hc => hf c (List.mem_cons_of_mem _ hc)) (by simp; omega) ?_⟩
      rw [List.append_assoc]
      exact h
theorem lcO_flat {is : List Nat} {tup : Bool} {mt : TT3} {mi1 : TI3} {Si1 is1 vs1 : List Nat} {tup1 : Bool} {mt1 : TT3} {me : TE3} {ρ : Ro} {e : Addr → Prop} {α : Type} (D0 : α → D) (f : α → List D) (c : Nat) : ∀ (as : List α) (acc : List D) (n : Nat) (q : List D → Nat → Prop),
    (∀ a ∈ as, ∀ (acc : List D) (m : Nat) (Kk : List D → Nat → Prop), acc.length + c ≤ 5000 → Kk (acc ++ f a) m → giv is tup (D0 a) ρ fun ρ' => mt ρ' m (fun b n1 => if b = true then mi1 ρ' n1 (fun es n2 => lcI is1 tup1 mt1 me (wipe3 (dem Si1 ρ') vs1) e es acc n2 Kk) e else Kk acc n1) e) →
    (∀ a ∈ as, (f a).length ≤ c) → acc.length + as.length * c ≤ 5000 → q (acc ++ as.flatMap f) n → lcO is tup mt mi1 Si1 is1 vs1 tup1 mt1 me ρ e (as.map D0) acc n q
  | [], acc, n, q, _, _, _, h => by
    simpa using h
  | a :: as, acc, n, q, hit, hc, hl, h => by
    rw [List.length_cons, Nat.succ_mul] at hl
    have ha := hc a List.mem_cons_self
    refine hit a List.mem_cons_self acc n _ (by omega) ?_
    refine lcO_flat D0 f c as (acc ++ f a) n q (fun b hb => hit b (List.mem_cons_of_mem _ hb)) (fun b hb => hc b (List.mem_cons_of_mem _ hb)) (by simp; omega) ?_
    rw [List.flatMap_cons, ← List.append_assoc] at h
    exact h
def coI (i : Int) (c : Co) : Option Int := if i = 0 then c.1 else c.2
def axI (i : Int) (p : Int × Int) : Int := if i = 0 then p.1 else p.2
def telS (f g : Fm) (i : Int) : List Int := (1 :: ((f.cs ++ g.cs).filter fun c => (coI i c).isSome).map fun c => (coI i c).getD 0 + 1) ++ [axI i f.l - axI i f.b, axI i f.l - axI i g.b, axI i g.l - axI i f.b, axI i g.l - axI i g.b]
def isTel (f g : Fm) (i : Int) (ns : List Int) : Prop := ns.Pairwise (· < ·) ∧ ∀ j : Int, j ∈ ns ↔ 1 ≤ j ∧ ∃ s ∈ telS f g i, j = s - 1 ∨ j = s ∨ j = s + 1
@[simp ↓] def sp_telling : VSp := fun us n q _ => ∃ (s t : D) (f g : Fm) (i : Int), us = [fmU s f, fmU t g, .d (.int i)] ∧ (i = 0 ∨ i = 1) ∧ f.cs.length + g.cs.length ≤ 16 ∧ ∀ ns : List Int, isTel f g i ns → ns.length ≤ 63 → q (.d (.list (ns.map PyData.int))) n
theorem co_at {i : Int} (h : i = 0 ∨ i = 1) (c : Co) : atI [oD c.1, oD c.2] i = some (oD (coI i c)) := by
  rcases h with rfl | rfl <;> rfl
theorem ax_at {i : Int} (h : i = 0 ∨ i = 1) (p : Int × Int) : atI [PyData.int p.1, PyData.int p.2] i = some (.int (axI i p)) := by
  rcases h with rfl | rfl <;> rfl
theorem tup_app (cs ds : List Co) : cs.map cD ++ ds.map cD = (cs ++ ds).map cD := List.map_append.symm
section
variable {P : Program} {w : World} {K : PySem.W.Frag} {mg : Str → Option Value} {base : Heap} {TL : List (Addr × Str)}
theorem ok_q_telling_sizes (T : Txt K mg) : FnOk P w K mg base CX0 1 T.q_telling_sizes.a T.q_telling_sizes.d ["one", "other", "index"] (toSp K T.C TL true sp_telling) := by
  refine T.q_telling_sizes.F.ok c_q_telling_sizes (fun vs H Q E h => toSp_len h fun us n q e hs => ?_) (fun cdv A outer s H vs Q E hr h => ?_)
  · (first | (obtain ⟨rfl, _⟩ := hs; rfl) | (obtain ⟨_, hs⟩ := hs; (first | (obtain ⟨rfl, _⟩ := hs; rfl) | (obtain ⟨_, hs⟩ := hs; (first | (obtain ⟨rfl, _⟩ := hs; rfl) | (obtain ⟨_, hs⟩ := hs; (first | (obtain ⟨rfl, _⟩ := hs; rfl) | (obtain ⟨_, hs⟩ := hs; (first | (obtain ⟨rfl, _⟩ := hs; rfl) | (obtain ⟨_, hs⟩ := hs; (first | (obtain ⟨rfl, _⟩ := hs; rfl) | (obtain ⟨_, hs⟩ := hs; (first | (obtain ⟨rfl, _⟩ := hs; rfl) | (obtain ⟨_, hs⟩ := hs; (first | (obtain ⟨rfl, _⟩ := hs; rfl) | (obtain ⟨_, hs⟩ := hs; (first | (obtain ⟨rfl, _⟩ := hs; rfl) | (obtain ⟨_, hs⟩ := hs; (first | (obtain ⟨rfl, _⟩ := hs; rfl) | (obtain ⟨_, hs⟩ := hs; (first | (obtain ⟨rfl, _⟩ := hs; rfl) | (obtain ⟨_, hs⟩ := hs; (first | (obtain ⟨rfl, _⟩ := hs; rfl) | (obtain ⟨_, hs⟩ := hs; (first | (obtain ⟨rfl, _⟩ := hs; rfl) | (obtain ⟨_, hs⟩ := hs; (first | (obtain ⟨rfl, _⟩ := hs; rfl) | (obtain ⟨_, hs⟩ := hs; (first | (obtain ⟨rfl, _⟩ := hs; rfl) | (obtain ⟨_, hs⟩ := hs; (first | (obtain ⟨rfl, _⟩ := hs; rfl) | (obtain ⟨_, hs⟩ := hs; (obtain ⟨rfl, _⟩ := hs; rfl)))))))))))))))))))))))))))))))))
  · refine ⟨_,
      (pss_cons (ps_set (i := 3) c_q_telling_sizes.nd rfl (Or.inl rfl) (pe_op (add3 K) (pe_lst (pa_cons pe_int pa_nil)) (pe_lc (own := [("corner", 5)]) (g := gName 5) (by rfl) c_q_telling_sizes.nd (seq3 K (pe_op (add3 K) (fld3 K (pv 0) rfl) (fld3 K (pv 1) rfl))) (blkOk_by (own := [("corner", 5)]) (N := N_q_telling_sizes) (sc := defScope S_q_telling_sizes) (by decide +kernel)) (fun _ _ _ _ _ => pg_name (i := 5) c_q_telling_sizes.nd rfl (Or.inl rfl)) (fun _ _ _ _ _ => (pts_one (pt_cmpR op_notN3 (pe_ix (ix3 K) (pv 5) (pv 2) (fun _ _ => rfl)) pe_non (nomark _)))) (fun _ _ _ _ _ => (pe_op (add3 K) (pe_ix (ix3 K) (pv 5) (pv 2) (fun _ _ => rfl)) pe_int)))))
      (pss_cons (ps_expr (bm3 K PySem.F.plainAttrs_list PySem.F.slot_list_extend PySem.F.type_list_extend mt_extend (pv 3) (pa_cons (pe_lc2 (own := [("form", 6), ("second", 7)]) (g := gName 6) (g1 := gName 7) (vs1 := [7]) (by rfl) c_q_telling_sizes.nd (seq3 K (pe_tup (pa_cons (pv 0) (pa_cons (pv 1) pa_nil)))) (blkOk_by (own := [("form", 6), ("second", 7)]) (N := N_q_telling_sizes) (sc := defScope S_q_telling_sizes) (by decide +kernel)) (by decide) (fun _ _ _ _ _ => pg_name (i := 6) c_q_telling_sizes.nd rfl (Or.inl rfl)) (fun _ _ _ _ _ => pts_nil) (fun _ _ _ _ _ => (seq3 K (pe_tup (pa_cons (pv 0) (pa_cons (pv 1) pa_nil))))) (fun _ _ _ _ _ => pg_name (i := 7) c_q_telling_sizes.nd rfl (Or.inl rfl)) (fun _ _ _ _ _ => pts_nil) (fun _ _ _ _ _ => (pe_op op_sub (pe_ix (ix3 K) (fld3 K (pv 6) rfl) (pv 2) (fun _ _ => rfl)) (pe_ix (ix3 K) (fld3 K (pv 7) rfl) (pv 2) (fun _ _ => rfl))))) pa_nil)))
      (pss_cons (ps_set (i := 4) c_q_telling_sizes.nd rfl (Or.inl rfl) (pe_callB (sortedSet3 w rfl) (by rfl) T.z_sorted (by decide +kernel) (pa_cons (pe_callTy (setL3 K w rfl) (by rfl) T.z_set (by decide +kernel) (pa_cons (pe_lc2 (own := [("size", 8), ("k", 9)]) (g := gName 8) (g1 := gName 9) (vs1 := [9]) (by rfl) c_q_telling_sizes.nd (seq3 K (pv 3)) (blkOk_by (own := [("size", 8), ("k", 9)]) (N := N_q_telling_sizes) (sc := defScope S_q_telling_sizes) (by decide +kernel)) (by decide) (fun _ _ _ _ _ => pg_name (i := 8) c_q_telling_sizes.nd rfl (Or.inl rfl)) (fun _ _ _ _ _ => pts_nil) (fun _ _ _ _ _ => (seq3 K (pe_tup (pa_cons (pe_un un_neg pe_int) (pa_cons pe_int (pa_cons pe_int pa_nil)))))) (fun _ _ _ _ _ => pg_name (i := 9) c_q_telling_sizes.nd rfl (Or.inl rfl)) (fun _ _ _ _ _ => pts_nil) (fun _ _ _ _ _ => (pe_op (add3 K) (pv 8) (pv 9)))) pa_nil)) pa_nil)))
      (pss_one (ps_ret (pe_lc (own := [("size", 8)]) (g := gName 8) (by rfl) c_q_telling_sizes.nd (seq3 K (pv 4)) (blkOk_by (own := [("size", 8)]) (N := N_q_telling_sizes) (sc := defScope S_q_telling_sizes) (by decide +kernel)) (fun _ _ _ _ _ => pg_name (i := 8) c_q_telling_sizes.nd rfl (Or.inl rfl)) (fun _ _ _ _ _ => (pts_one (pt_cmpR op_ge (pv 8) pe_int (nomark _)))) (fun _ _ _ _ _ => (pv 8))))))))
      , run3 (K := K) (C := T.C) (TL := TL) h fun us n q e hs => ?_⟩
    obtain ⟨s, t, f, g, i, rfl, hi, h1, hq⟩ := hs
    have bd : ∀ k : Nat, k ≤ 9000 → k ≤ sizeLine := fun k hk => Nat.le_of_lt (few (by omega))
    simp [ro0, -V3.lcO]
    rw [tup_app]
    refine ⟨bd _ (by omega), few (by omega), lcL_pure cD (fun c => .int ((coI i c).getD 0 + 1)) (fun c => (coI i c).isSome) (f.cs ++ g.cs) n _ (fun c _ n Kt Ks h => ?_) ?_⟩
    · simp
      rw [co_at hi]
      cases e : coI i c <;> simp [e] at h ⊢ <;> exact h
    have lc := List.length_filter_le (fun c => (coI i c).isSome) (f.cs ++ g.cs)
    rw [List.length_append] at lc
    rw [ax_at hi, ax_at hi, ax_at hi, ax_at hi]
    have eL : PyData.int 1 :: (((f.cs ++ g.cs).filter fun c => (coI i c).isSome).map (fun c => PyData.int ((coI i c).getD 0 + 1)) ++ [PyData.int (axI i f.l - axI i f.b), PyData.int (axI i f.l - axI i g.b), PyData.int (axI i g.l - axI i f.b), PyData.int (axI i g.l - axI i g.b)]) = (telS f g i).map PyData.int := by
      unfold telS
      simp [List.map_map]
      rfl
    have lt : (telS f g i).length ≤ 21 := by
      unfold telS
      simp
      rw [List.filter_append, List.length_append] at lc
      omega
    generalize hL : ((f.cs ++ g.cs).filter fun c => (coI i c).isSome).map (fun c => PyData.int ((coI i c).getD 0 + 1)) = L at eL ⊢
    have lL : L.length ≤ 16 := by
      rw [← hL, List.length_map]
      omega
    simp [-V3.lcO]
    rw [eL]
    refine ⟨bd _ (by omega), few (by omega), few (by omega), few (by omega), few (by omega), bd _ (by omega), ?_⟩
    refine lcO_flat PyData.int (fun s => [PyData.int (s - 1), .int s, .int (s + 1)]) 3 (telS f g i) [] n _ (fun s hs acc m Kk hacc hk => ?_) (fun s hs => by simp) (by simp; omega) ?_
    · simp
      refine ⟨few (by omega), few (by omega), few (by omega), ?_⟩
      rw [← Int.sub_eq_add_neg]
      exact hk
    have l3 : ((telS f g i).flatMap fun s => [s - 1, s, s + 1]).length = 3 * (telS f g i).length := by
      generalize telS f g i = L
      induction L with
      | nil => rfl
      | cons a L ih =>
        rw [List.flatMap_cons, List.length_append, ih, List.length_cons]
        simp
        omega
    refine ⟨(telS f g i).flatMap fun s => [s - 1, s, s + 1], by rw [List.nil_append, List.map_flatMap]; rfl, by omega, fun line up mem ll => ⟨few (by omega), ?_⟩⟩
    refine lcL_pure PyData.int PyData.int (fun j => decide (1 ≤ j)) line n _ (fun j _ n Kt Ks h => ?_) ?_
    · simp at h ⊢
      exact h
    refine hq _ ⟨List.Pairwise.filter _ up, fun j => ?_⟩ (Nat.le_trans (List.length_filter_le _ _) (by omega))
    rw [List.mem_filter, decide_eq_true_eq, mem]
    simp only [List.mem_flatMap, List.mem_cons, List.not_mem_nil, or_false]
    exact ⟨fun ⟨h, l⟩ => ⟨l, h⟩, fun ⟨l, h⟩ => ⟨h, l⟩⟩
end
end G21
set_option Elab.async false
set_option linter.all false
set_option maxRecDepth 100000
set_option maxHeartbeats 4000000
set_option synthInstance.maxSize 100000
set_option synthInstance.maxHeartbeats 0
namespace G21
open PySem PySem.Spec PyProof.Rows L2 V3
theorem any_cong {α : Type} {p q : α → Bool} : ∀ {xs : List α}, (∀ x ∈ xs, p x = q x) → xs.any p = xs.any q
  | [], _ => rfl
  | x :: xs, h => by
    rw [List.any_cons, List.any_cons, h x List.mem_cons_self, any_cong fun y m => h y (List.mem_cons_of_mem _ m)]
theorem top_le : ∀ (ns : List Int) (a : Int), (∃ j ∈ ns, j ≤ a) → ∃ w ∈ ns, w ≤ a ∧ ∀ j ∈ ns, j ≤ a → j ≤ w
  | [], _, ⟨j, h, _⟩ => by cases h
  | n :: ns, a, h => by
    by_cases t : ∃ j ∈ ns, j ≤ a
    · obtain ⟨w, w1, w2, w3⟩ := top_le ns a t
      by_cases hn : n ≤ a ∧ w < n
      · refine ⟨n, List.mem_cons_self, hn.1, fun j hj l => ?_⟩
        rcases List.mem_cons.mp hj with rfl | m
        · omega
        · have := w3 j m l
          omega
      · refine ⟨w, List.mem_cons_of_mem _ w1, w2, fun j hj l => ?_⟩
        rcases List.mem_cons.mp hj with rfl | m
        · by_cases q : w < j
          · exact absurd ⟨l, q⟩ hn
          · omega
        · exact w3 j m l
    · obtain ⟨j, hj, l⟩ := h
      rcases List.mem_cons.mp hj with rfl | m
      · refine ⟨j, List.mem_cons_self, l, fun k hk lk => ?_⟩
        rcases List.mem_cons.mp hk with rfl | m
        · omega
        · exact absurd ⟨k, m, lk⟩ t
      · exact absurd ⟨j, m, l⟩ t
theorem oneD {L1 B1 L2 B2 a w : Int} (h : w ≤ a) (hv : ∀ v ∈ [L1 - B1, L1 - B2, L2 - B1, L2 - B2], ∀ t : Int, (t = v - 1 ∨ t = v ∨ t = v + 1) → t ≤ w ∨ a < t) (e : max L1 (w + B1) = max L2 (w + B2)) : max L1 (a + B1) = max L2 (a + B2) := by
  have k : ∀ v ∈ [L1 - B1, L1 - B2, L2 - B1, L2 - B2], (v - 1 ≤ w ∨ a < v - 1) ∧ (v ≤ w ∨ a < v) ∧ (v + 1 ≤ w ∨ a < v + 1) := fun v m => ⟨hv v m _ (.inl rfl), hv v m _ (.inr (.inl rfl)), hv v m _ (.inr (.inr rfl))⟩
  have k1 := k (L1 - B1) (by simp)
  have k2 := k (L1 - B2) (by simp)
  have k3 := k (L2 - B1) (by simp)
  have k4 := k (L2 - B2) (by simp)
  omega
/-- between two telling sizes nothing changes -/
theorem tel_gap {f g : Fm} {i : Int} {ns : List Int} (h : isTel f g i ns) {a : Int} (ha : 1 ≤ a) : ∃ w ∈ ns, 1 ≤ w ∧ w ≤ a ∧ ∀ s ∈ telS f g i, ∀ t : Int, (t = s - 1 ∨ t = s ∨ t = s + 1) → t ≤ w ∨ a < t := by
  have m1 : (1 : Int) ∈ ns := (h.2 1).mpr ⟨Int.le_refl _, 1, by unfold telS; simp, .inr (.inl rfl)⟩
  obtain ⟨w, w1, w2, w3⟩ := top_le ns a ⟨1, m1, ha⟩
  refine ⟨w, w1, ((h.2 w).mp w1).1, w2, fun s hs t ht => ?_⟩
  have lw := ((h.2 w).mp w1).1
  by_cases t1 : 1 ≤ t
  · by_cases ta : t ≤ a
    · exact .inl (w3 t ((h.2 t).mpr ⟨t1, s, hs, ht⟩) ta)
    · exact .inr (by omega)
  · exact .inl (by omega)
theorem tel_co {f g : Fm} {i : Int} {c : Co} {k : Int} (h : c ∈ f.cs ∨ c ∈ g.cs) (e : coI i c = some k) : k + 1 ∈ telS f g i := by
  unfold telS
  refine List.mem_append_left _ (List.mem_cons_of_mem _ (List.mem_map.mpr ⟨c, List.mem_filter.mpr ⟨List.mem_append.mpr h, by rw [e]; rfl⟩, by rw [e]; rfl⟩))
theorem tel_df {f g : Fm} {i : Int} : ∀ v ∈ [axI i f.l - axI i f.b, axI i f.l - axI i g.b, axI i g.l - axI i f.b, axI i g.l - axI i g.b], v ∈ telS f g i := fun v h => List.mem_append_right _ h
/-- a body that parts two forms: so does a telling width not above its own -/
theorem has_gap0 {f g : Fm} {a w b : Int} (l : w ≤ a) (h : ∀ s ∈ telS f g 0, ∀ t : Int, (t = s - 1 ∨ t = s ∨ t = s + 1) → t ≤ w ∨ a < t) {cs : List Co} (hc : ∀ c ∈ cs, c ∈ f.cs ∨ c ∈ g.cs) : hasB cs (some w, some b) = hasB cs (some a, some b) := by
  unfold hasB
  refine any_cong fun c hm => ?_
  have e : abO (some w) c.1 = abO (some a) c.1 := by
    cases q : c.1 with
    | none => rfl
    | some k =>
      have := h _ (tel_co (i := 0) (hc c hm) q) _ (.inr (.inl rfl))
      show decide (k < w) = decide (k < a)
      rw [decide_eq_decide]
      omega
  unfold enB
  rw [e]
theorem has_gap1 {f g : Fm} {a w b : Int} (l : w ≤ a) (h : ∀ s ∈ telS f g 1, ∀ t : Int, (t = s - 1 ∨ t = s ∨ t = s + 1) → t ≤ w ∨ a < t) {cs : List Co} (hc : ∀ c ∈ cs, c ∈ f.cs ∨ c ∈ g.cs) : hasB cs (some b, some w) = hasB cs (some b, some a) := by
  unfold hasB
  refine any_cong fun c hm => ?_
  have e : abO (some w) c.2 = abO (some a) c.2 := by
    cases q : c.2 with
    | none => rfl
    | some k =>
      have := h _ (tel_co (i := 1) (hc c hm) q) _ (.inr (.inl rfl))
      show decide (k < w) = decide (k < a)
      rw [decide_eq_decide]
      omega
  unfold enB
  rw [e]
theorem prt_of {f g : Fm} {p q : Int × Int} (h1 : hasI f q = hasI f p) (h2 : hasI g q = hasI g p) (h3 : behI f.l f.b q = behI g.l g.b q → behI f.l f.b p = behI g.l g.b p) (h : prtB f g p = true) : prtB f g q = true := by
  unfold prtB at h ⊢
  rw [h1, h2]
  by_cases e : behI f.l f.b q = behI g.l g.b q
  · have e2 := h3 e
    simp [e2] at h
    simp [e]
    exact h
  · simp [e]
    by_cases e1 : hasI f p = hasI g p
    · right
      cases z : hasI f p
      · simp [z, ← e1] at h
      · rfl
    · left
      exact e1
theorem prt_gap0 {f g : Fm} {ns : List Int} (h : isTel f g 0 ns) {a b : Int} (ha : 1 ≤ a) (hp : prtB f g (a, b) = true) : ∃ w ∈ ns, 1 ≤ w ∧ w ≤ a ∧ prtB f g (w, b) = true := by
  obtain ⟨w, w1, w2, w3, w4⟩ := tel_gap h ha
  refine ⟨w, w1, w2, w3, prt_of (p := (a, b)) (q := (w, b)) (has_gap0 w3 w4 fun c m => .inl m) (has_gap0 w3 w4 fun c m => .inr m) (fun e => ?_) hp⟩
  have e1 : max f.l.1 (w + f.b.1) = max g.l.1 (w + g.b.1) := congrArg Prod.fst e
  have e2 : max f.l.2 (b + f.b.2) = max g.l.2 (b + g.b.2) := congrArg Prod.snd e
  exact Prod.ext (oneD w3 (fun v m => w4 v (tel_df v m)) e1) e2
theorem prt_gap1 {f g : Fm} {ns : List Int} (h : isTel f g 1 ns) {a b : Int} (hb : 1 ≤ b) (hp : prtB f g (a, b) = true) : ∃ w ∈ ns, 1 ≤ w ∧ w ≤ b ∧ prtB f g (a, w) = true := by
  obtain ⟨w, w1, w2, w3, w4⟩ := tel_gap h hb
  refine ⟨w, w1, w2, w3, prt_of (p := (a, b)) (q := (a, w)) (has_gap1 w3 w4 fun c m => .inl m) (has_gap1 w3 w4 fun c m => .inr m) (fun e => ?_) hp⟩
  have e1 : max f.l.1 (a + f.b.1) = max g.l.1 (a + g.b.1) := congrArg Prod.fst e
  have e2 : max f.l.2 (w + f.b.2) = max g.l.2 (w + g.b.2) := congrArg Prod.snd e
  exact Prod.ext e1 (oneD w3 (fun v m => w4 v (tel_df v m)) e2)
/-- the first body, by width and then by height, that parts two forms; none, where none does -/
def lxB (p q : Int × Int) : Prop := p.1 < q.1 ∨ (p.1 = q.1 ∧ p.2 < q.2)
def fstP (f g : Fm) : Option (Int × Int) → Prop
  | none => ∀ p : Int × Int, 1 ≤ p.1 → 1 ≤ p.2 → prtB f g p = false
  | some p => 1 ≤ p.1 ∧ 1 ≤ p.2 ∧ prtB f g p = true ∧ ∀ q : Int × Int, 1 ≤ q.1 → 1 ≤ q.2 → lxB q p → prtB f g q = false
end G21
set_option Elab.async false
set_option linter.all false
set_option maxRecDepth 100000
set_option maxHeartbeats 4000000
set_option synthInstance.maxSize 100000
set_option synthInstance.maxHeartbeats 0
namespace G21
open PySem PySem.Spec PyProof.Rows L2 V3
/-- a loop over a list of data: what is done, what is left -/
theorem forL_mapW {is : List Nat} {tup : Bool} {mb : TS3} {F : En3} {e : Addr → Prop} {α : Type} (D0 : α → D) (I : List α → List α → Ro → Nat → Prop) :
    ∀ (left done : List α) (ρ : Ro) (n : Nat), (∀ done ρ m, I done [] ρ m → F.nx ρ m) →
    (∀ done x left ρ m (G : Ro → Nat → Prop), (∀ ρ' m', I (done ++ [x]) left ρ' m' → G ρ' m') → I done (x :: left) ρ m → giv is tup (D0 x) ρ fun ρ' => mb { F with nx := G, ct := G, bk := F.nx } ρ' m e) →
    I done left ρ n → forL is tup mb F e (left.map D0) ρ n
  | [], done, ρ, n, h0, _, i => h0 done ρ n i
  | x :: left, done, ρ, n, h0, hs, i => hs done x left ρ n _ (fun ρ' m' i' => forL_mapW D0 I left (done ++ [x]) ρ' m' h0 hs i') i
theorem lt_before {ns done left : List Int} {x w : Int} (h : ns.Pairwise (· < ·)) (e : ns = done ++ x :: left) (m : w ∈ ns) (l : w < x) : w ∈ done := by
  subst e
  rcases List.mem_append.mp m with q | q
  · exact q
  · obtain ⟨_, h2, _⟩ := List.pairwise_append.mp h
    rcases List.mem_cons.mp q with rfl | q
    · omega
    · have := (List.pairwise_cons.mp h2).1 w q
      omega
def rD : Option (Int × Int) → D
  | none => .none
  | some p => pr p.1 p.2
def okE (e : D) : Prop := SeqAt.shaped e = true ∧ ∃ xs, e = .tuple xs
@[simp ↓] def sp_formp (BF : Addr) : VSp := fun us n q e => ∃ u v : U, us = [u, v] ∧ ((∃ x, u = .d x ∧ (∀ kvs, x ≠ .dict kvs) ∧ e BF) ∨ ∃ (s : D) (f : Fm), u = fmU s f ∧ ((∃ y, v = .d y ∧ (∀ kvs, y ≠ .dict kvs) ∧ e BF) ∨
  ∃ (t : D) (g : Fm), v = fmU t g ∧ f.cs.length + g.cs.length ≤ 16 ∧ okE f.e ∧ okE g.e ∧ ∀ r, fstP f g r → q (.d (rD r)) n))
section
variable {P : Program} {w : World} {K : PySem.W.Frag} {mg : Str → Option Value} {base : Heap} {TL : List (Addr × Str)}
theorem ok_q_form_parting (T : Txt K mg) : FnOk P w K mg base (L2.CX P w) 6 T.q_form_parting.a T.q_form_parting.d ["one", "other"] (toSp K T.C TL false (sp_formp T.x_BadForm.C)) := by
  refine T.q_form_parting.F.okX c_q_form_parting (fun vs H Q E h => toSp_len h fun us n q e hs => ?_) (fun cdv A outer s H vs Q E hr h => ?_)
  · (first | (obtain ⟨rfl, _⟩ := hs; rfl) | (obtain ⟨_, hs⟩ := hs; (first | (obtain ⟨rfl, _⟩ := hs; rfl) | (obtain ⟨_, hs⟩ := hs; (first | (obtain ⟨rfl, _⟩ := hs; rfl) | (obtain ⟨_, hs⟩ := hs; (first | (obtain ⟨rfl, _⟩ := hs; rfl) | (obtain ⟨_, hs⟩ := hs; (first | (obtain ⟨rfl, _⟩ := hs; rfl) | (obtain ⟨_, hs⟩ := hs; (first | (obtain ⟨rfl, _⟩ := hs; rfl) | (obtain ⟨_, hs⟩ := hs; (first | (obtain ⟨rfl, _⟩ := hs; rfl) | (obtain ⟨_, hs⟩ := hs; (first | (obtain ⟨rfl, _⟩ := hs; rfl) | (obtain ⟨_, hs⟩ := hs; (first | (obtain ⟨rfl, _⟩ := hs; rfl) | (obtain ⟨_, hs⟩ := hs; (first | (obtain ⟨rfl, _⟩ := hs; rfl) | (obtain ⟨_, hs⟩ := hs; (first | (obtain ⟨rfl, _⟩ := hs; rfl) | (obtain ⟨_, hs⟩ := hs; (first | (obtain ⟨rfl, _⟩ := hs; rfl) | (obtain ⟨_, hs⟩ := hs; (first | (obtain ⟨rfl, _⟩ := hs; rfl) | (obtain ⟨_, hs⟩ := hs; (first | (obtain ⟨rfl, _⟩ := hs; rfl) | (obtain ⟨_, hs⟩ := hs; (first | (obtain ⟨rfl, _⟩ := hs; rfl) | (obtain ⟨_, hs⟩ := hs; (first | (obtain ⟨rfl, _⟩ := hs; rfl) | (obtain ⟨_, hs⟩ := hs; (obtain ⟨rfl, _⟩ := hs; rfl)))))))))))))))))))))))))))))))))
  · refine ⟨_,
      (pss_cons (ps_expr (pe_call (ok_q_check_form T (TL := TL)) (hr.mono (by decide)) rfl T.q_check_form.g T.q_check_form.k T.q_check_form.b .nil (passes_call (takes_of rfl rfl rfl rfl) (fun _ _ _ _ h => h)) (pa_cons (pv 0) pa_nil)))
      (pss_cons (ps_expr (pe_call (ok_q_check_form T (TL := TL)) (hr.mono (by decide)) rfl T.q_check_form.g T.q_check_form.k T.q_check_form.b .nil (passes_call (takes_of rfl rfl rfl rfl) (fun _ _ _ _ h => h)) (pa_cons (pv 1) pa_nil)))
      (pss_cons (ps_set (i := 2) c_q_form_parting.nd rfl (Or.inl rfl) (pe_call (ok_q_telling_sizes T (TL := TL)) (hr.mono (by decide)) rfl T.q_telling_sizes.g T.q_telling_sizes.k T.q_telling_sizes.b .nil pass0 (pa_cons (pv 0) (pa_cons (pv 1) (pa_cons pe_int pa_nil)))))
      (pss_cons (ps_for (passes_of rfl) rfl (seq3 K (pe_call (ok_q_telling_sizes T (TL := TL)) (hr.mono (by decide)) rfl T.q_telling_sizes.g T.q_telling_sizes.k T.q_telling_sizes.b .nil pass0 (pa_cons (pv 0) (pa_cons (pv 1) (pa_cons pe_int pa_nil))))) (pg_name (i := 3) c_q_form_parting.nd rfl (Or.inl rfl))
      (pss_one (ps_for (passes_of rfl) rfl (seq3 K (pv 2)) (pg_name (i := 4) c_q_form_parting.nd rfl (Or.inl rfl))
      (pss_one (ps_if (pt_val (pe_call (ok_q_is_parted T (TL := TL)) (hr.mono (by decide)) rfl T.q_is_parted.g T.q_is_parted.k T.q_is_parted.b .nil pass0 (pa_cons (pv 0) (pa_cons (pv 1) (pa_cons (pe_tup (pa_cons (pv 3) (pa_cons (pv 4) pa_nil))) pa_nil)))))
      (pss_one (ps_ret (pe_tup (pa_cons (pv 3) (pa_cons (pv 4) pa_nil)))))
      pss_nil)))))
      (pss_one (ps_ret pe_non))))))
      , run3 (K := K) (C := T.C) (TL := TL) h fun us n q e hs => ?_⟩
    obtain ⟨u, v, rfl, hs⟩ := hs
    rcases hs with ⟨x, rfl, nx, he⟩ | ⟨s, f, rfl, hs⟩
    · simp [ro0]
      exact ⟨nx, he⟩
    rcases hs with ⟨y, rfl, ny, he⟩ | ⟨t, g, rfl, hl, ⟨s1, x1⟩, ⟨s2, x2⟩, hq⟩
    · simp [ro0]
      exact ⟨ny, he⟩
    · simp [ro0, -V3.forL]
      refine ⟨s, t, f, g, 1, ⟨rfl, rfl, rfl⟩, .inr rfl, hl, fun hs hh lh => ⟨s, t, f, g, 0, ⟨rfl, rfl, rfl⟩, .inl rfl, hl, fun ws hw lw => ?_⟩⟩
      refine forL_mapW PyData.int (fun done left ρ m => m = n ∧ ws = done ++ left ∧ (∀ x ∈ done, ∀ y ∈ hs, prtB f g (x, y) = false) ∧ ∃ z2 z3 z4 : Sl, ρ = [.fz (fmU s f), .fz (fmU t g), z2, z3, z4] ∧ (z2 = .ow (hs.map PyData.int) ∨ z2 = .fz (.d (.list (hs.map PyData.int))))) ws [] _ _ ?_ ?_ ⟨rfl, rfl, (fun x h => by cases h), _, _, _, rfl, .inl rfl⟩
      · rintro done ρ m ⟨rfl, e, no, _⟩
        refine hq none fun p h1 h2 => ?_
        cases hp : prtB f g p with
        | false => rfl
        | true =>
          obtain ⟨w, w1, w2, w3, w4⟩ := prt_gap0 hw h1 (b := p.2) hp
          obtain ⟨y, y1, y2, y3, y4⟩ := prt_gap1 hh h2 w4
          rw [no w (by rw [e, List.append_nil] at w1; exact w1) y y1] at y4
          cases y4
      · rintro done x left ρ m G hG ⟨rfl, e, no, z2, z3, z4, rfl, hz⟩
        have st : ∀ z : Sl, (z = .ow (hs.map PyData.int) ∨ z = .fz (.d (.list (hs.map PyData.int)))) → rdAt [Sl.fz (fmU s f), .fz (fmU t g), z, .fz (.d (.int x)), z4] 2 = some (.d (.list (hs.map PyData.int))) := fun z h => by
          rcases h with rfl | rfl <;> rfl
        rcases hz with rfl | rfl <;> simp [-V3.forL]
        all_goals
          refine forL_mapW PyData.int (fun done2 left2 ρ k => k = m ∧ hs = done2 ++ left2 ∧ (∀ y ∈ done2, prtB f g (x, y) = false) ∧ ∃ z4 : Sl, ρ = [.fz (fmU s f), .fz (fmU t g), .fz (.d (.list (hs.map PyData.int))), .fz (.d (.int x)), z4]) hs [] _ _ ?_ ?_ ⟨rfl, rfl, (fun x h => by cases h), _, rfl⟩
        all_goals first
          | (rintro done2 ρ k ⟨rfl, e2, no2, z4, rfl⟩
             refine hG _ _ ⟨rfl, by rw [e, List.append_assoc]; rfl, fun x' hx' y hy => ?_, _, _, _, rfl, .inr rfl⟩
             rcases List.mem_append.mp hx' with h | h
             · exact no x' h y hy
             · rw [List.mem_singleton.mp h]
               exact no2 y (by rw [e2, List.append_nil] at hy; exact hy))
          | skip
        all_goals
          rintro done2 y left2 ρ k G2 hG2 ⟨rfl, e2, no2, z4, rfl⟩
          simp
          refine ⟨s, t, f, g, x, y, ⟨rfl, rfl, rfl, rfl⟩, by omega, by omega, s1, s2, x1, x2, ?_⟩
          by_cases hp : prtB f g (x, y) = true
          · rw [if_pos hp]
            refine hq (some (x, y)) ⟨((hw.2 x).mp (by rw [e]; simp)).1, ((hh.2 y).mp (by rw [e2]; simp)).1, hp, fun p h1 h2 lx => ?_⟩
            cases hb : prtB f g p with
            | false => rfl
            | true =>
              obtain ⟨w, w1, w2, w3, w4⟩ := prt_gap0 hw h1 (b := p.2) hb
              obtain ⟨v, v1, v2, v3, v4⟩ := prt_gap1 hh h2 w4
              unfold lxB at lx
              dsimp only at lx
              by_cases wx : w < x
              · rw [no w (lt_before hw.1 e w1 wx) v v1] at v4
                cases v4
              · have wx2 : w = x := by omega
                rw [wx2, no2 v (lt_before hh.1 e2 v1 (by omega))] at v4
                cases v4
          · rw [if_neg hp]
            refine hG2 _ _ ⟨rfl, by rw [e2, List.append_assoc]; rfl, fun z hz => ?_, _, rfl⟩
            rcases List.mem_append.mp hz with h | h
            · exact no2 z h
            · rw [List.mem_singleton.mp h]
              exact Bool.eq_false_iff.mpr hp
end
end G21
set_option Elab.async false
set_option linter.all false
set_option maxRecDepth 100000
set_option maxHeartbeats 4000000
/-! zip of two lists, of two tuples, told by values -/
namespace V3
open PySem PySem.Spec PyProof.Rows L2
section
variable {K : PySem.W.Frag} {C : Addr} {TL : List (Addr × Str)} {E : XK}
def zipD : List D → List D → List D
  | x :: xs, y :: ys => .tuple [x, y] :: zipD xs ys
  | _, _ => []
theorem zipD_get : ∀ {xs ys : List D} {i : Nat} {d : D}, (zipD xs ys)[i]? = some d → ∃ x y, xs[i]? = some x ∧ ys[i]? = some y ∧ d = .tuple [x, y]
  | x :: xs, y :: ys, 0, d, h => by
    cases h
    exact ⟨x, y, rfl, rfl, rfl⟩
  | x :: xs, y :: ys, i + 1, d, h => zipD_get (xs := xs) (ys := ys) (i := i) h
  | [], ys, i, d, h => by cases h
  | _ :: _, [], i, d, h => by cases h
theorem zipD_len : ∀ {xs ys : List D} {i : Nat}, (zipD xs ys).length ≤ i → xs.length ≤ i ∨ ys.length ≤ i
  | x :: xs, y :: ys, 0, h => by cases h
  | x :: xs, y :: ys, i + 1, h => by
    rcases zipD_len (xs := xs) (ys := ys) (i := i) (Nat.le_of_succ_le_succ h) with z | z
    · exact .inl (Nat.succ_le_succ z)
    · exact .inr (Nat.succ_le_succ z)
  | [], ys, i, h => .inl (Nat.zero_le _)
  | _ :: _, [], i, h => .inr (Nat.zero_le _)
theorem rp_two {am : Am} {O2 : Addr → Prop} {H2 H3 : Hp} {T : Addr} {x y : V} {d c : D} (hO : ∀ a, O2 a → There H2 a) (hT : H2 T = none) (e : H3 = upd H2 T (.tup [x, y])) (r : Rp am.K (cut O2 H2) x d) (r' : Rp am.K (cut O2 H2) y c) : Same H2 H3 ∧ Rp am.K (cut O2 H3) (.ref T) (.tuple [d, c]) := by
  subst e
  have s := same_new (o := .tup [x, y]) hT
  refine ⟨s, ?_⟩
  have nO : ¬ O2 T := fun z => by
    obtain ⟨o, q1, _⟩ := hO T z
    rw [hT] at q1
    cases q1
  have le : Le (cut O2 H2) (cut O2 (upd H2 T (.tup [x, y]))) := Le.cut (fun a z => .inl z) fun a o _ _ e => s a o e
  exact .tup (xs := [x, y]) (SqT.of (cut_some.mpr ⟨nO, upd_same⟩)) (.cons (Rp.le le _ _ r) (.cons (Rp.le le _ _ r') .nil))
theorem it_zip {am : Am} {O : Addr → Prop} {a b : Addr} {vs ws : List V} {ds es : List D} {H : Hp} (h : cut O H a = some (.lst vs)) (g : cut O H b = some (.lst ws)) (r : RpAll am.K (cut O H) vs ds) (r' : RpAll am.K (cut O H) ws es) : ItOk am O (Itz am.K a b) (zipD ds es) H := fun H2 O2 le th i => by
  have h2 := (cut_some.mp (le _ _ (fun ps z => by cases z) h)).2
  have g2 := (cut_some.mp (le _ _ (fun ps z => by cases z) g)).2
  have r2 := RpAll.le le _ _ r
  have r3 := RpAll.le le _ _ r'
  refine ⟨fun d e => ?_, fun e => ⟨vs, ws, SqL.of h2, SqL.of g2, by rw [RpAll.len r, RpAll.len r']; exact zipD_len e⟩⟩
  obtain ⟨x, y, e1, e2, rfl⟩ := zipD_get e
  obtain ⟨v, q1, q2⟩ := RpAll.get r2 e1
  obtain ⟨u, p1, p2⟩ := RpAll.get r3 e2
  refine ⟨⟨vs, ws, v, u, SqL.of h2, SqL.of g2, q1, p1⟩, fun z H3 w => ?_⟩
  obtain ⟨T, x', y', rfl, hT, e3, w1, w2⟩ := w
  have e4 := w1 vs (SqL.of h2)
  have e5 := w2 ws (SqL.of g2)
  rw [q1] at e4
  rw [p1] at e5
  cases e4
  cases e5
  exact rp_two th hT e3 q2 p2
theorem it_zipT {am : Am} {O : Addr → Prop} {a b : Addr} {vs ws : List V} {ds es : List D} {H : Hp} (h : SqT am.K (cut O H) a vs) (g : SqT am.K (cut O H) b ws) (r : RpAll am.K (cut O H) vs ds) (r' : RpAll am.K (cut O H) ws es) : ItOk am O (RZ.ItzT am.K a b) (zipD ds es) H := fun H2 O2 le th i => by
  have h2 := SqT.le Le.cutAll (SqT.le le h)
  have g2 := SqT.le Le.cutAll (SqT.le le g)
  have r2 := RpAll.le le _ _ r
  have r3 := RpAll.le le _ _ r'
  refine ⟨fun d e => ?_, fun e => ⟨vs, ws, h2, g2, by rw [RpAll.len r, RpAll.len r']; exact zipD_len e⟩⟩
  obtain ⟨x, y, e1, e2, rfl⟩ := zipD_get e
  obtain ⟨v, q1, q2⟩ := RpAll.get r2 e1
  obtain ⟨u, p1, p2⟩ := RpAll.get r3 e2
  refine ⟨⟨vs, ws, v, u, h2, g2, q1, p1⟩, fun z H3 w => ?_⟩
  obtain ⟨T, x', y', rfl, hT, e3, w1, w2⟩ := w
  have e4 := w1 vs h2
  have e5 := w2 ws g2
  rw [q1] at e4
  rw [p1] at e5
  cases e4
  cases e5
  exact rp_two th hT e3 q2 p2
@[simp ↓] def mZip (ma : TA3) : TI3 := fun ρ n q e => ma ρ n (fun us n1 => match us with
    | [.d (.list ds), .d (.list es)] => q (zipD ds es) n1
    | [.d (.tuple ds), .d (.tuple es)] => q (zipD ds es) n1
    | _ => False) e
instance {ta : TA} {S : List Nat} {ma : TA3} [ha : LA K C TL E ta S ma] : LI K C TL E (RZ.iZipA K ta) S (mZip ma) where
  s am ρ n σ H hE h R q hm k := by
    obtain ⟨rfl, rfl, rfl, rfl⟩ := id hE
    refine ha.s am ρ n σ H hE h _ _ hm fun us n1 vs H1 hq f1 w1 r1 => ?_
    match us, hq, r1 with
    | [.d (.list ds), .d (.list es)], hq, .cons r (.cons r' .nil) =>
      cases r with
      | lst a1 a2 =>
        cases r' with
        | lst b1 b2 => exact ⟨_, _, _, _, rfl, .inl ⟨SqL.of (cut_some.mp a1).2, SqL.of (cut_some.mp b1).2, k _ n1 _ H1 hq f1 w1 (it_zip a1 b1 a2 b2)⟩⟩
    | [.d (.tuple ds), .d (.tuple es)], hq, .cons r (.cons r' .nil) =>
      cases r with
      | tup a1 a2 =>
        cases r' with
        | tup b1 b2 => exact ⟨_, _, _, _, rfl, .inr ⟨SqT.le Le.cutAll a1, SqT.le Le.cutAll b1, k _ n1 _ H1 hq f1 w1 (it_zipT a1 b1 a2 b2)⟩⟩
end
section
variable {X : Cx}
theorem zip3 (K : PySem.W.Frag) {e e2 : Expr} {ta : TA} {p pos tpos : Pos} {elts : List Expr} {kk : Nat} (hg : Gl X "zip") (hm : X.mg "zip" = none) (ha : PA X [e, e2] ta)
    (hs : starEach [e, e2] X.env = (false, eval e X.env) :: starEach [e2] X.env := by rfl) (hpl : (backTo pos (starEach [e2] X.env)).any (·.1) = false := by rfl) (h : X.K = K := by rfl) :
    PI X (.Tuple elts kk tpos) (.Call (.Name "zip" p) [e, e2] [] pos) (RZ.iZipA K ta) := by
  subst h
  exact RZ.pi_zipA hg hm ha hs hpl
end
end V3
set_option Elab.async false
set_option linter.all false
set_option maxRecDepth 100000
set_option maxHeartbeats 4000000
set_option synthInstance.maxSize 100000
set_option synthInstance.maxHeartbeats 0
namespace G21
open PySem PySem.Spec PyProof.Rows L2 V3
/-- the pairs that lie between the corners -/
def gapsO : Option Int → List Co → List (Option Int × Option Int)
  | w, [] => [(w, some 0)]
  | w, c :: cs => (w, c.2) :: gapsO c.1 cs
theorem gaps_zip : ∀ (w : Option Int) (cs : List Co), (w :: cs.map fun c => c.1).zip ((cs.map fun c => c.2) ++ [some 0]) = gapsO w cs
  | w, [] => rfl
  | w, c :: cs => by
    rw [List.map_cons, List.map_cons, List.cons_append, List.zip_cons_cons, gaps_zip c.1 cs]
    rfl
def bothS (p : Option Int × Option Int) : Bool := p.1.isSome && p.2.isSome
def notP (cs : List Co) : List (Int × Int) := ((gapsO (some 0) cs).filter bothS).map fun p => (p.1.getD 0 + 1, p.2.getD 0 + 1)
theorem gaps_len : ∀ (w : Option Int) (cs : List Co), (gapsO w cs).length = cs.length + 1
  | _, [] => rfl
  | _, c :: cs => by
    show (gapsO c.1 cs).length + 1 = _
    rw [gaps_len, List.length_cons]
theorem enB_cle {c : Co} {A B : Int} : enB c (some A, some B) = true ↔ cle c A B := by
  obtain ⟨c1, c2⟩ := c
  unfold enB cle
  cases c1 <;> cases c2 <;> simp [abO] <;> omega
theorem has_held {cs : List Co} {A B : Int} : hasB cs (some A, some B) = true ↔ heldI cs A B := by
  unfold hasB heldI
  rw [List.any_eq_true]
  exact ⟨fun ⟨c, m, h⟩ => ⟨c, m, enB_cle.mp h⟩, fun ⟨c, m, h⟩ => ⟨c, m, enB_cle.mpr h⟩⟩
theorem gaps_below {x y : Int} (hy : 1 ≤ y) : ∀ (cs : List Co) (a : Int), a < x → ¬ heldI cs x y → ∃ p q : Int, (some p, some q) ∈ gapsO (some a) cs ∧ p < x ∧ q < y
  | [], a, ha, _ => ⟨a, 0, List.mem_cons_self, ha, by omega⟩
  | c :: cs, a, ha, h => by
    have hc : ¬ cle c x y := fun z => h ⟨c, List.mem_cons_self, z⟩
    have hs : ¬ heldI cs x y := fun ⟨d, m, z⟩ => h ⟨d, List.mem_cons_of_mem _ m, z⟩
    by_cases k : ∃ k, c.1 = some k ∧ k < x
    · obtain ⟨k, e, l⟩ := k
      obtain ⟨p, q, m, h1, h2⟩ := gaps_below hy cs k l hs
      exact ⟨p, q, List.mem_cons_of_mem _ (by rw [e]; exact m), h1, h2⟩
    · have : ∃ q, c.2 = some q ∧ q < y := by
        cases e2 : c.2 with
        | none =>
          refine absurd ⟨fun j ej => ?_, fun j ej => ?_⟩ hc
          · by_cases t : j < x
            · exact absurd ⟨j, ej, t⟩ k
            · omega
          · rw [e2] at ej
            cases ej
        | some q =>
          by_cases t : q < y
          · exact ⟨q, rfl, t⟩
          · refine absurd ⟨fun j ej => ?_, fun j ej => ?_⟩ hc
            · by_cases t : j < x
              · exact absurd ⟨j, ej, t⟩ k
              · omega
            · rw [e2] at ej
              cases ej
              omega
      obtain ⟨q, e, l⟩ := this
      exact ⟨a, q, by rw [← e]; exact List.mem_cons_self, ha, l⟩
theorem gaps_ge {p : Int} {o : Option Int} : ∀ (cs : List Co) (a : Int), Can cs → (∀ c ∈ cs, ltO (some a) c.1) → (some p, o) ∈ gapsO (some a) cs → a ≤ p
  | [], a, _, _, m => by
    rcases List.mem_cons.mp m with e | e
    · cases e
      omega
    · cases e
  | c :: cs, a, h, hl, m => by
    rcases List.mem_cons.mp m with e | e
    · cases e
      omega
    · have l := hl c List.mem_cons_self
      cases q : c.1 with
      | none =>
        rw [q] at e
        cases cs with
        | nil =>
          rcases List.mem_cons.mp e with e | e <;> cases e
        | cons d ds =>
          have := ((List.pairwise_cons.mp h).1 d List.mem_cons_self).1
          rw [q] at this
          cases this
      | some k =>
        rw [q] at e l
        have l : a < k := l
        have := gaps_ge cs k (List.pairwise_cons.mp h).2 (fun d hd => by
          have := ((List.pairwise_cons.mp h).1 d hd).1
          rw [q] at this
          exact this) e
        omega
theorem gaps_not {p q : Int} : ∀ (cs : List Co) (a : Int), Can cs → (∀ c ∈ cs, ltO (some a) c.1) → (some p, some q) ∈ gapsO (some a) cs → ¬ heldI cs (p + 1) (q + 1)
  | [], _, _, _, _ => fun ⟨_, m, _⟩ => by cases m
  | c :: cs, a, h, hl, m => by
    obtain ⟨h1, h2⟩ := List.pairwise_cons.mp h
    rintro ⟨d, hd, d1, d2⟩
    rcases List.mem_cons.mp m with e | e
    · obtain ⟨e1, e2⟩ := Prod.mk.inj e
      rcases List.mem_cons.mp hd with y | y
      · subst y
        have := d2 q e2.symm
        omega
      · have l := (h1 d y).2
        rw [← e2] at l
        cases ed : d.2 with
        | none =>
          rw [ed] at l
          cases l
        | some j =>
          rw [ed] at l
          have l : j < q := l
          have := d2 j ed
          omega
    · cases qc : c.1 with
      | none =>
        rw [qc] at e
        cases cs with
        | nil =>
          rcases List.mem_cons.mp e with e | e <;> cases e
        | cons x ds =>
          have := (h1 x List.mem_cons_self).1
          rw [qc] at this
          cases this
      | some k =>
        rw [qc] at e
        have hk : ∀ d ∈ cs, ltO (some k) d.1 := fun d hd => by
          have := (h1 d hd).1
          rw [qc] at this
          exact this
        have ge := gaps_ge cs k h2 hk e
        rcases List.mem_cons.mp hd with y | y
        · subst y
          have := d1 k qc
          omega
        · exact gaps_not cs k h2 hk e ⟨d, y, d1, d2⟩
/-- what is not held lies above a notch; no notch is held -/
theorem not_above {cs : List Co} {x y : Int} (hx : 1 ≤ x) (hy : 1 ≤ y) (h : ¬ heldI cs x y) : ∃ p ∈ notP cs, p.1 ≤ x ∧ p.2 ≤ y := by
  obtain ⟨p, q, m, h1, h2⟩ := gaps_below hy cs 0 (by omega) h
  exact ⟨(p + 1, q + 1), List.mem_map.mpr ⟨_, List.mem_filter.mpr ⟨m, rfl⟩, rfl⟩, by dsimp only; omega, by dsimp only; omega⟩
theorem not_held {cs : List Co} (h : Can cs) (hp : ∀ c ∈ cs, posC c) : ∀ p ∈ notP cs, ¬ heldI cs p.1 p.2 := fun p m => by
  obtain ⟨⟨a, b⟩, mm, rfl⟩ := List.mem_map.mp m
  obtain ⟨m1, m2⟩ := List.mem_filter.mp mm
  cases a with
  | none => cases m2
  | some a =>
    cases b with
    | none => cases m2
    | some b =>
      refine gaps_not cs 0 h (fun c hc => ?_) m1
      cases e : c.1 with
      | none => trivial
      | some k =>
        have := (hp c hc).1 k e
        show (0 : Int) < k
        omega
@[simp ↓] def sp_notches : VSp := fun us n q _ => ∃ cs : List Co, us = [.d (.tuple (cs.map cD))] ∧ cs.length ≤ 300 ∧ q (.d (.list ((notP cs).map fun p => pr p.1 p.2))) n
theorem zip_gaps : ∀ (w : Option Int) (cs : List Co), zipD (oD w :: cs.map fun c => oD c.1) ((cs.map fun c => oD c.2) ++ [PyData.int 0]) = (gapsO w cs).map fun p => PyData.tuple [oD p.1, oD p.2]
  | w, [] => rfl
  | w, c :: cs => by
    rw [List.map_cons, List.map_cons, List.cons_append]
    show PyData.tuple [oD w, oD c.2] :: zipD _ _ = PyData.tuple [oD w, oD c.2] :: _
    rw [zip_gaps c.1 cs]
section
variable {P : Program} {w : World} {K : PySem.W.Frag} {mg : Str → Option Value} {base : Heap} {TL : List (Addr × Str)}
theorem ok_q_notches_of (T : Txt K mg) : FnOk P w K mg base CX0 1 T.q_notches_of.a T.q_notches_of.d ["stairs"] (toSp K T.C TL true sp_notches) := by
  refine T.q_notches_of.F.ok c_q_notches_of (fun vs H Q E h => toSp_len h fun us n q e hs => ?_) (fun cdv A outer s H vs Q E hr h => ?_)
  · (first | (obtain ⟨rfl, _⟩ := hs; rfl) | (obtain ⟨_, hs⟩ := hs; (first | (obtain ⟨rfl, _⟩ := hs; rfl) | (obtain ⟨_, hs⟩ := hs; (first | (obtain ⟨rfl, _⟩ := hs; rfl) | (obtain ⟨_, hs⟩ := hs; (first | (obtain ⟨rfl, _⟩ := hs; rfl) | (obtain ⟨_, hs⟩ := hs; (first | (obtain ⟨rfl, _⟩ := hs; rfl) | (obtain ⟨_, hs⟩ := hs; (first | (obtain ⟨rfl, _⟩ := hs; rfl) | (obtain ⟨_, hs⟩ := hs; (first | (obtain ⟨rfl, _⟩ := hs; rfl) | (obtain ⟨_, hs⟩ := hs; (first | (obtain ⟨rfl, _⟩ := hs; rfl) | (obtain ⟨_, hs⟩ := hs; (first | (obtain ⟨rfl, _⟩ := hs; rfl) | (obtain ⟨_, hs⟩ := hs; (first | (obtain ⟨rfl, _⟩ := hs; rfl) | (obtain ⟨_, hs⟩ := hs; (first | (obtain ⟨rfl, _⟩ := hs; rfl) | (obtain ⟨_, hs⟩ := hs; (first | (obtain ⟨rfl, _⟩ := hs; rfl) | (obtain ⟨_, hs⟩ := hs; (first | (obtain ⟨rfl, _⟩ := hs; rfl) | (obtain ⟨_, hs⟩ := hs; (first | (obtain ⟨rfl, _⟩ := hs; rfl) | (obtain ⟨_, hs⟩ := hs; (first | (obtain ⟨rfl, _⟩ := hs; rfl) | (obtain ⟨_, hs⟩ := hs; (first | (obtain ⟨rfl, _⟩ := hs; rfl) | (obtain ⟨_, hs⟩ := hs; (obtain ⟨rfl, _⟩ := hs; rfl)))))))))))))))))))))))))))))))))
  · refine ⟨_,
      (pss_cons (ps_set (i := 1) c_q_notches_of.nd rfl (Or.inl rfl) (pe_op (add3 K) (pe_lst (pa_cons pe_int pa_nil)) (pe_lc (own := [("corner", 3)]) (g := gName 3) (by rfl) c_q_notches_of.nd (seq3 K (pv 0)) (blkOk_by (own := [("corner", 3)]) (N := N_q_notches_of) (sc := defScope S_q_notches_of) (by decide +kernel)) (fun _ _ _ _ _ => pg_name (i := 3) c_q_notches_of.nd rfl (Or.inl rfl)) (fun _ _ _ _ _ => pts_nil) (fun _ _ _ _ _ => (pe_ix (ix3 K) (pv 3) pe_int (fun _ _ => rfl))))))
      (pss_cons (ps_set (i := 2) c_q_notches_of.nd rfl (Or.inl rfl) (pe_op (add3 K) (pe_lc (own := [("corner", 3)]) (g := gName 3) (by rfl) c_q_notches_of.nd (seq3 K (pv 0)) (blkOk_by (own := [("corner", 3)]) (N := N_q_notches_of) (sc := defScope S_q_notches_of) (by decide +kernel)) (fun _ _ _ _ _ => pg_name (i := 3) c_q_notches_of.nd rfl (Or.inl rfl)) (fun _ _ _ _ _ => pts_nil) (fun _ _ _ _ _ => (pe_ix (ix3 K) (pv 3) pe_int (fun _ _ => rfl)))) (pe_lst (pa_cons pe_int pa_nil))))
      (pss_one (ps_ret (pe_lc (own := [("width", 4), ("height", 5)]) (g := gTup K 2 (gCons (gName 4) (gCons (gName 5) gNil))) (by rfl) c_q_notches_of.nd (zip3 K (by rfl) T.z_zip (pa_cons (pv 1) (pa_cons (pv 2) pa_nil))) (blkOk_by (own := [("width", 4), ("height", 5)]) (N := N_q_notches_of) (sc := defScope S_q_notches_of) (by decide +kernel)) (fun _ _ _ _ _ => tupG3 K (n := 2) rfl (pgs_cons (pg_name (i := 4) c_q_notches_of.nd rfl (Or.inl rfl) (hf := Or.inr rfl)) (pgs_cons (pg_name (i := 5) c_q_notches_of.nd rfl (Or.inl rfl) (hf := Or.inr rfl)) pgs_nil))) (fun _ _ _ _ _ => (pts_one (PW.pt (pw_and (pt_cmpR op_notN3 (pv 4) pe_non (nomark _)) (pw_and1 (pt_cmpR op_notN3 (pv 5) pe_non (nomark _))))))) (fun _ _ _ _ _ => (pe_tup (pa_cons (pe_op (add3 K) (pv 4) pe_int) (pa_cons (pe_op (add3 K) (pv 5) pe_int) pa_nil)))))))))
      , run3 (K := K) (C := T.C) (TL := TL) h fun us n q e hs => ?_⟩
    obtain ⟨cs, rfl, hl, hq⟩ := hs
    have bd : ∀ k : Nat, k ≤ 9000 → k ≤ sizeLine := fun k hk => Nat.le_of_lt (few (by omega))
    simp [ro0]
    refine ⟨few (by omega), lcL_all cD (fun c => oD c.1) cs n _ (fun c _ n Kt Ks h => ?_) ⟨bd _ (by simp; omega), few (by omega), lcL_all cD (fun c => oD c.2) cs n _ (fun c _ n Kt Ks h => ?_) ⟨bd _ (by simp; omega), ?_⟩⟩⟩
    · simp
      exact h
    · simp
      exact h
    have z : zipD (PyData.int 0 :: cs.map fun c => oD c.1) ((cs.map fun c => oD c.2) ++ [PyData.int 0]) = (gapsO (some 0) cs).map fun p => PyData.tuple [oD p.1, oD p.2] := zip_gaps (some 0) cs
    rw [z]
    refine ⟨few (by rw [List.length_map, gaps_len]; omega), lcL_pure (fun p : Option Int × Option Int => PyData.tuple [oD p.1, oD p.2]) (fun p => pr (p.1.getD 0 + 1) (p.2.getD 0 + 1)) bothS (gapsO (some 0) cs) n _ (fun p _ n Kt Ks h => ?_) ?_⟩
    · obtain ⟨a, b⟩ := p
      cases a <;> cases b <;> simp [bothS] at h ⊢ <;> exact h
    · unfold notP at hq
      rw [List.map_map] at hq
      exact hq
end
end G21
set_option Elab.async false
set_option linter.all false
set_option maxRecDepth 100000
set_option maxHeartbeats 4000000
set_option synthInstance.maxSize 100000
set_option synthInstance.maxHeartbeats 0
namespace G21
open PySem PySem.Spec PyProof.Rows L2 V3
def LstP (ps : List (Int × Int)) : Prop := ps.Pairwise fun p o => p.1 < o.1 ∧ o.2 < p.2
structure LsI (ls done : List (Int × Int)) : Prop where
  lst : LstP ls
  sub : ∀ p ∈ ls, p ∈ done
  cov : ∀ p ∈ done, ∃ l ∈ ls, l.1 ≤ p.1 ∧ l.2 ≤ p.2
def leP (p o : Int × Int) : Prop := p.1 < o.1 ∨ (p.1 = o.1 ∧ p.2 ≤ o.2)
theorem ls_skip {ls done : List (Int × Int)} {b l : Int × Int} (h : LsI ls done) (hs : ∀ p ∈ done, leP p b) (hl : l ∈ ls) (hy : l.2 ≤ b.2) : LsI ls (done ++ [b]) where
  lst := h.lst
  sub p hp := List.mem_append_left _ (h.sub p hp)
  cov p hp := by
    rcases List.mem_append.mp hp with m | m
    · exact h.cov p m
    · rw [List.mem_singleton.mp m]
      refine ⟨l, hl, ?_, hy⟩
      rcases hs l (h.sub l hl) with z | z
      · omega
      · omega
theorem ls_put {ls done : List (Int × Int)} {b : Int × Int} (h : LsI ls done) (hs : ∀ p ∈ done, leP p b) (hy : ∀ l ∈ ls, b.2 < l.2) : LsI (ls ++ [b]) (done ++ [b]) where
  lst := List.pairwise_append.mpr ⟨h.lst, List.pairwise_singleton .., fun l hl o ho => by
    rw [List.mem_singleton.mp ho]
    refine ⟨?_, hy l hl⟩
    rcases hs l (h.sub l hl) with z | z
    · exact z
    · have := hy l hl
      omega⟩
  sub p hp := by
    rcases List.mem_append.mp hp with m | m
    · exact List.mem_append_left _ (h.sub p m)
    · exact List.mem_append_right _ m
  cov p hp := by
    rcases List.mem_append.mp hp with m | m
    · obtain ⟨l, hl, q⟩ := h.cov p m
      exact ⟨l, List.mem_append_left _ hl, q⟩
    · exact ⟨p, List.mem_append_right _ m, Int.le_refl _, Int.le_refl _⟩
theorem ls_last {ls : List (Int × Int)} {l : Int × Int} (h : LstP ls) (e : ls.getLast? = some l) : ∀ o ∈ ls, l.2 ≤ o.2 := by
  obtain ⟨ys, rfl⟩ := List.getLast?_eq_some_iff.mp e
  intro o ho
  obtain ⟨_, _, z⟩ := List.pairwise_append.mp h
  rcases List.mem_append.mp ho with m | m
  · have := (z o m l (List.mem_singleton.mpr rfl)).2
    omega
  · rw [List.mem_singleton.mp m]
    exact Int.le_refl _
theorem lex_leP {p o : Int × Int} (h : HT.lexLt [o.1, o.2] [p.1, p.2] = false) : leP p o := by
  rw [HT.lexLt_cons] at h
  by_cases e : o.1 = p.1
  · rw [if_pos e, HT.lexLt_cons] at h
    right
    refine ⟨e.symm, ?_⟩
    by_cases e2 : o.2 = p.2
    · omega
    · rw [if_neg e2] at h
      have := of_decide_eq_false h
      omega
  · rw [if_neg e] at h
    have := of_decide_eq_false h
    left
    omega
end G21
set_option Elab.async false
set_option linter.all false
set_option maxRecDepth 100000
set_option maxHeartbeats 4000000
set_option synthInstance.maxSize 100000
set_option synthInstance.maxHeartbeats 0
namespace G21
open PySem PySem.Spec PyProof.Rows L2 V3
def lenB (x : D) : Prop := ∀ xs, x = .tuple xs → xs.length ≤ 1000
abbrev pD (p : Int × Int) : D := pr p.1 p.2
theorem pD_tup (ps : List (Int × Int)) : ps.map pD = (ps.map fun p => [p.1, p.2]).map tupI := by
  rw [List.map_map]
  rfl
theorem perm_map2 {α β : Type} {f : α → β} {xs : List α} {ys : List β} (h : ys.Perm (xs.map f)) : ∃ zs : List α, ys = zs.map f ∧ zs.Perm xs := by
  generalize e : xs.map f = ws at h
  induction h generalizing xs with
  | nil =>
    cases xs with
    | nil => exact ⟨[], rfl, .refl _⟩
    | cons _ _ => cases e
  | cons y _ ih =>
    cases xs with
    | nil => cases e
    | cons x xs =>
      injection e with e1 e2
      subst e1
      obtain ⟨zs, rfl, p⟩ := ih e2
      exact ⟨x :: zs, rfl, p.cons _⟩
  | swap y y' l =>
    match xs, e with
    | x :: x' :: xs, e =>
      injection e with e1 e2
      injection e2 with e2 e3
      subst e1 e2 e3
      exact ⟨x' :: x :: xs, rfl, .swap _ _ _⟩
  | trans _ _ ih1 ih2 =>
    obtain ⟨zs, rfl, p⟩ := ih2 e
    obtain ⟨ws, rfl, p2⟩ := ih1 rfl
    exact ⟨ws, rfl, p2.trans p⟩
theorem pw_two {ls : List (Int × Int)} (h : LstP ls) {l p : Int × Int} (hl : l ∈ ls) (hp : p ∈ ls) (ne : l ≠ p) : (l.1 < p.1 ∧ p.2 < l.2) ∨ (p.1 < l.1 ∧ l.2 < p.2) := by
  induction ls with
  | nil => cases hl
  | cons x xs ih =>
    obtain ⟨h1, h2⟩ := List.pairwise_cons.mp h
    rcases List.mem_cons.mp hl with rfl | ml <;> rcases List.mem_cons.mp hp with rfl | mp
    · exact absurd rfl ne
    · exact .inl (h1 p mp)
    · exact .inr (h1 l ml)
    · exact ih h2 ml mp
/-- loads that a body cannot carry -/
def ovr (cs : List Co) (s p : Int × Int) : Prop := 0 ≤ p.1 ∧ 0 ≤ p.2 ∧ ¬ heldI cs (s.1 + p.1) (s.2 + p.2)
def minL (cs : List Co) (s : Int × Int) (L : List (Int × Int)) : Prop := L.Pairwise lxB ∧ ∀ p, p ∈ L ↔ ovr cs s p ∧ ∀ q, ovr cs s q → q.1 ≤ p.1 → q.2 ≤ p.2 → q = p
@[simp ↓] def sp_leastl (BF BB : Addr) : VSp := fun us n q e => ∃ (u : U) (y : D), us = [u, .d y] ∧ ((∃ x, u = .d x ∧ (∀ kvs, x ≠ .dict kvs) ∧ e BF) ∨
  ∃ (s : D) (f : Fm), u = fmU s f ∧ lenB y ∧ f.cs.length ≤ 20 ∧ Can f.cs ∧ (∀ c ∈ f.cs, posC c) ∧ (isBd y = false → e BB) ∧ ∀ a : Int × Int, y = pD a → 1 ≤ a.1 → 1 ≤ a.2 → ∀ L, minL f.cs a L → L.length ≤ 30 → q (.d (.list (L.map pD))) n)
theorem bd_of {y : D} (h : isBd y = true) : ∃ a b : Int, y = pr a b ∧ 1 ≤ a ∧ 1 ≤ b := by
  cases y with
  | tuple xs =>
    match xs, h with
    | [a, b], h =>
      cases a <;> cases b <;> simp [isBd, isSzD] at h
      exact ⟨_, _, rfl, h⟩
    | [], h => cases h
    | [_], h => cases h
    | _ :: _ :: _ :: _, h => cases h
  | _ => cases h
theorem held_mono {cs : List Co} {x y x' y' : Int} (h : heldI cs x y) (hx : x' ≤ x) (hy : y' ≤ y) : heldI cs x' y' := by
  obtain ⟨c, m, c1, c2⟩ := h
  refine ⟨c, m, fun k e => ?_, fun k e => ?_⟩
  · have := c1 k e
    omega
  · have := c2 k e
    omega
def ldI (a p : Int × Int) : Int × Int := (max 0 (p.1 - a.1), max 0 (p.2 - a.2))
theorem ls_min {cs : List Co} {a : Int × Int} {zs ls : List (Int × Int)} (h : Can cs) (hp : ∀ c ∈ cs, posC c) (a1 : 1 ≤ a.1) (a2 : 1 ≤ a.2) (hz : zs.Perm ((notP cs).map (ldI a))) (li : LsI ls zs) : minL cs a ls := by
  have ov : ∀ p ∈ zs, ovr cs a p := fun p m => by
    obtain ⟨n, hn, rfl⟩ := List.mem_map.mp (hz.mem_iff.mp m)
    refine ⟨by show 0 ≤ max 0 _; omega, by show 0 ≤ max 0 _; omega, fun z => not_held h hp n hn (held_mono z ?_ ?_)⟩
    · show n.1 ≤ a.1 + max 0 (n.1 - a.1)
      omega
    · show n.2 ≤ a.2 + max 0 (n.2 - a.2)
      omega
  have dn : ∀ q, ovr cs a q → ∃ l ∈ ls, l.1 ≤ q.1 ∧ l.2 ≤ q.2 := fun q ⟨q1, q2, q3⟩ => by
    obtain ⟨n, hn, n1, n2⟩ := not_above (by omega) (by omega) q3
    obtain ⟨l, m, l1, l2⟩ := li.cov (ldI a n) (hz.mem_iff.mpr (List.mem_map.mpr ⟨n, hn, rfl⟩))
    have e1 : (ldI a n).1 = max 0 (n.1 - a.1) := rfl
    have e2 : (ldI a n).2 = max 0 (n.2 - a.2) := rfl
    exact ⟨l, m, by omega, by omega⟩
  have anti : ∀ l ∈ ls, ∀ p ∈ ls, l.1 ≤ p.1 → l.2 ≤ p.2 → l = p := fun l ml p mp h1 h2 => by
    by_cases e : l = p
    · exact e
    · rcases pw_two li.lst ml mp e with z | z <;> omega
  refine ⟨li.lst.imp fun z => .inl z.1, fun p => ⟨fun m => ⟨ov p (li.sub p m), fun q hq h1 h2 => ?_⟩, fun ⟨o, mn⟩ => ?_⟩⟩
  · obtain ⟨l, ml, l1, l2⟩ := dn q hq
    have e := anti l ml p m (by omega) (by omega)
    subst e
    exact Prod.ext (by omega) (by omega)
  · obtain ⟨l, ml, l1, l2⟩ := dn p o
    have e := mn l (ov l (li.sub l ml)) l1 l2
    rw [← e]
    exact ml
section
variable {P : Program} {w : World} {K : PySem.W.Frag} {mg : Str → Option Value} {base : Heap} {TL : List (Addr × Str)}
theorem ok_q_least_loads (T : Txt K mg) : FnOk P w K mg base (L2.CX P w) 5 T.q_least_loads.a T.q_least_loads.d ["form", "body"] (toSp K T.C TL true (sp_leastl T.x_BadForm.C T.x_BadBody.C)) := by
  refine T.q_least_loads.F.okX c_q_least_loads (fun vs H Q E h => toSp_len h fun us n q e hs => ?_) (fun cdv A outer s H vs Q E hr h => ?_)
  · (first | (obtain ⟨rfl, _⟩ := hs; rfl) | (obtain ⟨_, hs⟩ := hs; (first | (obtain ⟨rfl, _⟩ := hs; rfl) | (obtain ⟨_, hs⟩ := hs; (first | (obtain ⟨rfl, _⟩ := hs; rfl) | (obtain ⟨_, hs⟩ := hs; (first | (obtain ⟨rfl, _⟩ := hs; rfl) | (obtain ⟨_, hs⟩ := hs; (first | (obtain ⟨rfl, _⟩ := hs; rfl) | (obtain ⟨_, hs⟩ := hs; (first | (obtain ⟨rfl, _⟩ := hs; rfl) | (obtain ⟨_, hs⟩ := hs; (first | (obtain ⟨rfl, _⟩ := hs; rfl) | (obtain ⟨_, hs⟩ := hs; (first | (obtain ⟨rfl, _⟩ := hs; rfl) | (obtain ⟨_, hs⟩ := hs; (first | (obtain ⟨rfl, _⟩ := hs; rfl) | (obtain ⟨_, hs⟩ := hs; (first | (obtain ⟨rfl, _⟩ := hs; rfl) | (obtain ⟨_, hs⟩ := hs; (first | (obtain ⟨rfl, _⟩ := hs; rfl) | (obtain ⟨_, hs⟩ := hs; (first | (obtain ⟨rfl, _⟩ := hs; rfl) | (obtain ⟨_, hs⟩ := hs; (first | (obtain ⟨rfl, _⟩ := hs; rfl) | (obtain ⟨_, hs⟩ := hs; (first | (obtain ⟨rfl, _⟩ := hs; rfl) | (obtain ⟨_, hs⟩ := hs; (first | (obtain ⟨rfl, _⟩ := hs; rfl) | (obtain ⟨_, hs⟩ := hs; (first | (obtain ⟨rfl, _⟩ := hs; rfl) | (obtain ⟨_, hs⟩ := hs; (obtain ⟨rfl, _⟩ := hs; rfl)))))))))))))))))))))))))))))))))
  · refine ⟨_,
      (pss_cons (ps_expr (pe_call (ok_q_check_form T (TL := TL)) (hr.mono (by decide)) rfl T.q_check_form.g T.q_check_form.k T.q_check_form.b .nil (passes_call (takes_of rfl rfl rfl rfl) (fun _ _ _ _ h => h)) (pa_cons (pv 0) pa_nil)))
      (pss_cons (ps_expr (pe_call (ok_q_check_body T (TL := TL)) (hr.mono (by decide)) rfl T.q_check_body.g T.q_check_body.k T.q_check_body.b .nil (passes_call (takes_of rfl rfl rfl rfl) (fun _ _ _ _ h => h)) (pa_cons (pv 1) pa_nil)))
      (pss_cons (ps_setLc (i := 2) (own := [("notch", 5)]) (g := gName 5) (by rfl) c_q_least_loads.nd rfl rfl (sw_true rfl rfl rfl (by decide +kernel)) (seq3 K (pe_call (ok_q_notches_of T (TL := TL)) (hr.mono (by decide)) rfl T.q_notches_of.g T.q_notches_of.k T.q_notches_of.b .nil pass0 (pa_cons (fld3 K (pv 0) rfl) pa_nil))) (blkOk_by (own := [("notch", 5)]) (N := N_q_least_loads) (sc := defScope S_q_least_loads) (by decide +kernel)) (fun _ _ _ _ _ => pg_name (i := 5) c_q_least_loads.nd rfl (Or.inl rfl)) (fun _ _ _ _ _ => pts_nil) (fun _ _ _ _ _ => (pe_tup (pa_cons (pe_callB (max3 K rfl (hu_of hr)) (by rfl) T.z_max (by decide +kernel) (pa_cons pe_int (pa_cons (pe_op op_sub (pe_ix (ix3 K) (pv 5) pe_int (fun _ _ => rfl)) (pe_ix (ix3 K) (pv 1) pe_int (fun _ _ => rfl))) pa_nil))) (pa_cons (pe_callB (max3 K rfl (hu_of hr)) (by rfl) T.z_max (by decide +kernel) (pa_cons pe_int (pa_cons (pe_op op_sub (pe_ix (ix3 K) (pv 5) pe_int (fun _ _ => rfl)) (pe_ix (ix3 K) (pv 1) pe_int (fun _ _ => rfl))) pa_nil))) pa_nil)))))
      (pss_cons (ps_set (i := 3) c_q_least_loads.nd rfl (Or.inl rfl) (pe_lst pa_nil))
      (pss_cons (ps_for (passes_of rfl) rfl (seq3 K (pe_callB (sorted3 K 2 (by decide)) (by rfl) T.z_sorted (by decide +kernel) (pa_cons (pv 2) pa_nil))) (pg_name (i := 4) c_q_least_loads.nd rfl (Or.inl rfl))
      (pss_one (ps_if (PW.pt (pw_or (pt_not (tru3 K (pv 3) (fun _ => rfl))) (pw_or1 (pt_cmpR op_lt (pe_ix (ix3 K) (pv 4) pe_int (fun _ _ => rfl)) (pe_ix (ix3 K) (pe_ix (ix3 K) (pv 3) (pe_un un_neg pe_int) (fun _ _ => rfl)) pe_int (fun _ _ => rfl)) (nomark _)))))
      (pss_one (ps_expr (bm3 K PySem.F.plainAttrs_list PySem.F.slot_list_append PySem.F.type_list_append mt_append (pv 3) (pa_cons (pv 4) pa_nil))))
      pss_nil)))
      (pss_one (ps_ret (pv 3))))))))
      , run3 (K := K) (C := T.C) (TL := TL) h fun us n q e hs => ?_⟩
    obtain ⟨u, y, rfl, hs⟩ := hs
    rcases hs with ⟨x, rfl, nx, he⟩ | ⟨s, f, rfl, hy, hl, hcan, hpos, hbad, hq⟩
    · simp [ro0]
      exact ⟨nx, he⟩
    simp [ro0, -V3.forL]
    refine ⟨hy, fun hb => ?_, hbad⟩
    obtain ⟨a, b, rfl, h1, h2⟩ := bd_of hb
    have nl : (notP f.cs).length ≤ 21 := by
      unfold notP
      rw [List.length_map]
      have := List.length_filter_le bothS (gapsO (some 0) f.cs)
      rw [gaps_len] at this
      omega
    refine ⟨f.cs, rfl, by omega, few (by omega), lcL_all (fun p : Int × Int => pr p.1 p.2) (fun p => pD (ldI (a, b) p)) (notP f.cs) n _ (fun p _ n Kt Ks h => ?_) ?_⟩
    · simp
      exact h
    refine .inr ⟨((notP f.cs).map (ldI (a, b))).map fun p => [p.1, p.2], by rw [List.map_map, List.map_map]; rfl, (fun l hm => by obtain ⟨p, _, rfl⟩ := List.mem_map.mp hm; rfl), fun M pm so => ?_⟩
    obtain ⟨zs, rfl, pz⟩ := perm_map2 pm
    rw [← pD_tup]
    have so2 : zs.Pairwise leP := (List.pairwise_map.mp so).imp fun h => lex_leP h
    have lz : zs.length = (notP f.cs).length := by
      rw [pz.length_eq, List.length_map]
    refine forL_mapW pD (fun done left ρ m => ∃ (ls : List (Int × Int)) (z4 z5 : Sl), m = n ∧ ρ = [.fz (fmU s f), .fz (.d (pr a b)), .fz (.d (.list ((notP f.cs).map fun p => pD (ldI (a, b) p)))), .ow (ls.map pD), z4, z5] ∧ done ++ left = zs ∧ LsI ls done ∧ ls.length ≤ done.length) zs [] _ _ ?_ ?_ ?_
    · rintro done ρ m ⟨ls, z4, z5, rfl, rfl, hd, li, hlen⟩
      rw [List.append_nil] at hd
      subst hd
      simp
      exact hq (a, b) rfl h1 h2 ls (ls_min hcan hpos h1 h2 pz li) (by omega)
    · rintro done b0 left ρ m G hG ⟨ls, z4, z5, rfl, rfl, hd, li, hlen⟩
      have hsb : ∀ p ∈ done, leP p b0 := fun p hp' => by
        rw [← hd] at so2
        exact (List.pairwise_append.mp so2).2.2 p hp' b0 List.mem_cons_self
      have hdl : done.length < (notP f.cs).length := by
        rw [← lz, ← hd]
        simp
      have hd2 : (done ++ [b0]) ++ left = zs := by rw [← hd]; simp
      have put : LsI (ls ++ [b0]) (done ++ [b0]) → ∀ z, ls.length < sizeLine ∧ G [Sl.fz (fmU s f), .fz (.d (pr a b)), .fz (.d (.list ((notP f.cs).map fun p => pD (ldI (a, b) p)))), Sl.ow (List.map pD ls ++ [pD b0]), Sl.fz (U.d (pD b0)), z] m := fun h z => ⟨few (by omega), hG _ _ ⟨ls ++ [b0], _, _, rfl, by rw [List.map_append]; rfl, hd2, h, by simp; omega⟩⟩
      simp
      by_cases hn : ls = []
      · rw [if_pos hn]
        refine put (ls_put li hsb fun l hl' => ?_) _
        rw [hn] at hl'
        cases hl'
      · simp only [hn, if_false]
        have hlast := List.getLast?_eq_some_getLast hn
        rw [hlast]
        refine ⟨_, rfl, ?_⟩
        by_cases hlt : b0.2 < (ls.getLast hn).2
        · rw [if_pos hlt]
          exact put (ls_put li hsb fun l hl' => Int.lt_of_lt_of_le hlt (ls_last li.lst hlast l hl')) _
        · rw [if_neg hlt]
          exact hG _ _ ⟨ls, _, _, rfl, rfl, hd2, ls_skip li hsb (List.getLast_mem hn) (by omega), by simp; omega⟩
    · exact ⟨[], _, _, rfl, rfl, rfl, ⟨List.Pairwise.nil, (fun p hp => by cases hp), (fun p hp => by cases hp)⟩, Nat.le_refl _⟩
end
end G21
set_option Elab.async false
set_option linter.all false
set_option maxRecDepth 100000
set_option maxHeartbeats 4000000
set_option synthInstance.maxSize 100000
set_option synthInstance.maxHeartbeats 0
namespace G21
open PySem PySem.Spec PyProof.Rows L2 V3
@[simp ↓] def sp_lheld : VSp := fun us n q _ => ∃ (cs : List Co) (A B : Int), us = [.d (.tuple (cs.map cD)), .d (pr A B)] ∧ cs.length ≤ 300 ∧ q (.d (.bool (hasB cs (some A, some B)))) n
theorem held_cle {c : Co} {A B : Int} : hdO c (some A, some B) = true ↔ cle c A B := by
  rw [hdO_le]
  obtain ⟨c1, c2⟩ := c
  unfold leC cle
  refine and_congr ?_ ?_
  · cases c1 <;> simp [leO]
  · cases c2 <;> simp [leO]

@[simp ↓] def sp_grow : VSp := fun us n q _ => ∃ l b s : Int × Int, us = [.d (pD l), .d (pD b), .d (pD s)] ∧ q (.d (pD (behI l b s))) n
@[simp ↓] def sp_lsize : VSp := fun us n q _ => ∃ x, us = [.d x] ∧ q (.d (.bool (isSzD x))) n
@[simp ↓] def sp_lbody : VSp := fun us n q _ => ∃ a b : Int, us = [.d (pr a b)] ∧ 1 ≤ a ∧ 1 ≤ b ∧ q (.d (.bool true)) n
def rowL (m : Nat) (as : List Nat) : List (Int × Int) := as.flatMap fun (a : Nat) => (List.range m).map fun (b : Nat) => (1 + ((a : Nat) : Int), 1 + ((b : Nat) : Int))
def bodL (m : Nat) : List (Int × Int) := rowL m (List.range m)
theorem row_len (m : Nat) : ∀ as : List Nat, (rowL m as).length = as.length * m
  | [] => by simp [rowL]
  | a :: as => by
    have := row_len m as
    unfold rowL at this ⊢
    rw [List.flatMap_cons, List.length_append, this, List.length_cons, Nat.succ_mul]
    simp
    omega
@[simp ↓] def sp_fewb : VSp := fun us n q _ => ∃ m : Nat, us = [.d (.int (m : Nat))] ∧ m ≤ 20 ∧ q (.d (.list ((bodL m).map pD))) n
@[simp ↓] def sp_drsize : VSp := fun us n q _ => us = [.dr] ∧ n + 100 ≤ topD ∧ ∀ k : Int, 1 ≤ k → k ≤ 100000 → q (.d (.int k)) (n + 5)
theorem flat_pDs : ∀ ps : List (Int × Int), V3.flatAll (ps.map pD) = true
  | [] => rfl
  | _ :: ps => flat_pDs ps
section
variable {P : Program} {w : World} {K : PySem.W.Frag} {mg : Str → Option Value} {base : Heap} {TL : List (Addr × Str)}
theorem ok_l_held (T : Txt K mg) : FnOk P w K mg base CX0 3 T.l_held.a T.l_held.d ["stairs", "body"] (toSp K T.C TL false sp_lheld) := by
  refine T.l_held.F.ok c_l_held (fun vs H Q E h => toSp_len h fun us n q e hs => ?_) (fun cdv A outer s H vs Q E hr h => ?_)
  · (first | (obtain ⟨rfl, _⟩ := hs; rfl) | (obtain ⟨_, hs⟩ := hs; (first | (obtain ⟨rfl, _⟩ := hs; rfl) | (obtain ⟨_, hs⟩ := hs; (first | (obtain ⟨rfl, _⟩ := hs; rfl) | (obtain ⟨_, hs⟩ := hs; (first | (obtain ⟨rfl, _⟩ := hs; rfl) | (obtain ⟨_, hs⟩ := hs; (first | (obtain ⟨rfl, _⟩ := hs; rfl) | (obtain ⟨_, hs⟩ := hs; (first | (obtain ⟨rfl, _⟩ := hs; rfl) | (obtain ⟨_, hs⟩ := hs; (first | (obtain ⟨rfl, _⟩ := hs; rfl) | (obtain ⟨_, hs⟩ := hs; (first | (obtain ⟨rfl, _⟩ := hs; rfl) | (obtain ⟨_, hs⟩ := hs; (first | (obtain ⟨rfl, _⟩ := hs; rfl) | (obtain ⟨_, hs⟩ := hs; (first | (obtain ⟨rfl, _⟩ := hs; rfl) | (obtain ⟨_, hs⟩ := hs; (first | (obtain ⟨rfl, _⟩ := hs; rfl) | (obtain ⟨_, hs⟩ := hs; (first | (obtain ⟨rfl, _⟩ := hs; rfl) | (obtain ⟨_, hs⟩ := hs; (first | (obtain ⟨rfl, _⟩ := hs; rfl) | (obtain ⟨_, hs⟩ := hs; (first | (obtain ⟨rfl, _⟩ := hs; rfl) | (obtain ⟨_, hs⟩ := hs; (first | (obtain ⟨rfl, _⟩ := hs; rfl) | (obtain ⟨_, hs⟩ := hs; (first | (obtain ⟨rfl, _⟩ := hs; rfl) | (obtain ⟨_, hs⟩ := hs; (obtain ⟨rfl, _⟩ := hs; rfl)))))))))))))))))))))))))))))))))
  · refine ⟨_,
      (pss_one (ps_ret (pe_cmpR (ne3 K hr.units) (pe_lc (own := [("corner", 2)]) (g := gName 2) (by rfl) c_l_held.nd (seq3 K (pv 0)) (blkOk_by (own := [("corner", 2)]) (N := N_l_held) (sc := defScope S_l_held) (by decide +kernel)) (fun _ _ _ _ _ => pg_name (i := 2) c_l_held.nd rfl (Or.inl rfl)) (fun _ _ _ _ _ => (pts_one (pt_val (pe_call (ok_l_holds T (TL := TL)) (hr.mono (by decide)) rfl T.l_holds.g T.l_holds.k T.l_holds.b .nil pass0 (pa_cons (pv 2) (pa_cons (pv 1) pa_nil)))))) (fun _ _ _ _ _ => pe_int)) (pe_lst pa_nil) (nomark _))))
      , run3 (K := K) (C := T.C) (TL := TL) h fun us n q e hs => ?_⟩
    obtain ⟨cs, A, B, rfl, hl, hq⟩ := hs
    have hq : ∀ b : Bool, (b = true ↔ heldI cs A B) → q (.d (.bool b)) n := fun b hb => by
      have e : b = hasB cs (some A, some B) := by rw [Bool.eq_iff_iff, hb, has_held]
      rw [e]
      exact hq
    simp [ro0, -V3.forL]
    refine ⟨few (by omega), lcL_pure cD (fun _ => PyData.int 1) (fun c => hdO c (some A, some B)) cs n _ (fun c _ m Kt Ks k => ?_) ?_⟩
    · simp
      refine ⟨c.1, c.2, some A, some B, ⟨⟨rfl, rfl⟩, rfl, rfl⟩, ?_⟩
      cases h : hdO c (some A, some B)
      · rw [h] at k
        simpa using k
      · rw [h] at k
        simpa using k
    · refine ⟨ones_shA _ _, by rfl, hq _ ?_⟩
      rw [ones_eqA, Bool.not_eq_true', Bool.eq_false_iff, ne_eq, List.all_eq_true]
      constructor
      · intro z
        by_cases e : ∃ c ∈ cs, hdO c (some A, some B) = true
        · obtain ⟨c, hc, h⟩ := e
          exact ⟨c, hc, held_cle.mp h⟩
        · exact absurd (fun c hc => by
            cases h : hdO c (some A, some B) with
            | false => rfl
            | true => exact absurd ⟨c, hc, h⟩ e) z
      · rintro ⟨c, hc, h⟩ z
        have := z c hc
        rw [held_cle.mpr h] at this
        cases this
theorem ok_l_grow (T : Txt K mg) : FnOk P w K mg base CX0 1 T.l_grow.a T.l_grow.d ["least", "by", "body"] (toSp K T.C TL false sp_grow) := by
  refine T.l_grow.F.ok c_l_grow (fun vs H Q E h => toSp_len h fun us n q e hs => ?_) (fun cdv A outer s H vs Q E hr h => ?_)
  · (first | (obtain ⟨rfl, _⟩ := hs; rfl) | (obtain ⟨_, hs⟩ := hs; (first | (obtain ⟨rfl, _⟩ := hs; rfl) | (obtain ⟨_, hs⟩ := hs; (first | (obtain ⟨rfl, _⟩ := hs; rfl) | (obtain ⟨_, hs⟩ := hs; (first | (obtain ⟨rfl, _⟩ := hs; rfl) | (obtain ⟨_, hs⟩ := hs; (first | (obtain ⟨rfl, _⟩ := hs; rfl) | (obtain ⟨_, hs⟩ := hs; (first | (obtain ⟨rfl, _⟩ := hs; rfl) | (obtain ⟨_, hs⟩ := hs; (first | (obtain ⟨rfl, _⟩ := hs; rfl) | (obtain ⟨_, hs⟩ := hs; (first | (obtain ⟨rfl, _⟩ := hs; rfl) | (obtain ⟨_, hs⟩ := hs; (first | (obtain ⟨rfl, _⟩ := hs; rfl) | (obtain ⟨_, hs⟩ := hs; (first | (obtain ⟨rfl, _⟩ := hs; rfl) | (obtain ⟨_, hs⟩ := hs; (first | (obtain ⟨rfl, _⟩ := hs; rfl) | (obtain ⟨_, hs⟩ := hs; (first | (obtain ⟨rfl, _⟩ := hs; rfl) | (obtain ⟨_, hs⟩ := hs; (first | (obtain ⟨rfl, _⟩ := hs; rfl) | (obtain ⟨_, hs⟩ := hs; (first | (obtain ⟨rfl, _⟩ := hs; rfl) | (obtain ⟨_, hs⟩ := hs; (first | (obtain ⟨rfl, _⟩ := hs; rfl) | (obtain ⟨_, hs⟩ := hs; (first | (obtain ⟨rfl, _⟩ := hs; rfl) | (obtain ⟨_, hs⟩ := hs; (obtain ⟨rfl, _⟩ := hs; rfl)))))))))))))))))))))))))))))))))
  · refine ⟨_,
      (pss_one (ps_ret (pe_tup (pa_cons (pe_callB (max3 K rfl (hu_of hr)) (by rfl) T.z_max (by decide +kernel) (pa_cons (pe_ix (ix3 K) (pv 0) pe_int (fun _ _ => rfl)) (pa_cons (pe_op (add3 K) (pe_ix (ix3 K) (pv 2) pe_int (fun _ _ => rfl)) (pe_ix (ix3 K) (pv 1) pe_int (fun _ _ => rfl))) pa_nil))) (pa_cons (pe_callB (max3 K rfl (hu_of hr)) (by rfl) T.z_max (by decide +kernel) (pa_cons (pe_ix (ix3 K) (pv 0) pe_int (fun _ _ => rfl)) (pa_cons (pe_op (add3 K) (pe_ix (ix3 K) (pv 2) pe_int (fun _ _ => rfl)) (pe_ix (ix3 K) (pv 1) pe_int (fun _ _ => rfl))) pa_nil))) pa_nil)))))
      , run3 (K := K) (C := T.C) (TL := TL) h fun us n q e hs => ?_⟩
    obtain ⟨l, b, s, rfl, hq⟩ := hs
    simp [ro0]
    exact hq
theorem ok_l_is_size (T : Txt K mg) : FnOk P w K mg base CX0 2 T.l_is_size.a T.l_is_size.d ["thing"] (toSp K T.C TL false sp_lsize) := by
  refine T.l_is_size.F.ok c_l_is_size (fun vs H Q E h => toSp_len h fun us n q e hs => ?_) (fun cdv A outer s H vs Q E hr h => ?_)
  · (first | (obtain ⟨rfl, _⟩ := hs; rfl) | (obtain ⟨_, hs⟩ := hs; (first | (obtain ⟨rfl, _⟩ := hs; rfl) | (obtain ⟨_, hs⟩ := hs; (first | (obtain ⟨rfl, _⟩ := hs; rfl) | (obtain ⟨_, hs⟩ := hs; (first | (obtain ⟨rfl, _⟩ := hs; rfl) | (obtain ⟨_, hs⟩ := hs; (first | (obtain ⟨rfl, _⟩ := hs; rfl) | (obtain ⟨_, hs⟩ := hs; (first | (obtain ⟨rfl, _⟩ := hs; rfl) | (obtain ⟨_, hs⟩ := hs; (first | (obtain ⟨rfl, _⟩ := hs; rfl) | (obtain ⟨_, hs⟩ := hs; (first | (obtain ⟨rfl, _⟩ := hs; rfl) | (obtain ⟨_, hs⟩ := hs; (first | (obtain ⟨rfl, _⟩ := hs; rfl) | (obtain ⟨_, hs⟩ := hs; (first | (obtain ⟨rfl, _⟩ := hs; rfl) | (obtain ⟨_, hs⟩ := hs; (first | (obtain ⟨rfl, _⟩ := hs; rfl) | (obtain ⟨_, hs⟩ := hs; (first | (obtain ⟨rfl, _⟩ := hs; rfl) | (obtain ⟨_, hs⟩ := hs; (first | (obtain ⟨rfl, _⟩ := hs; rfl) | (obtain ⟨_, hs⟩ := hs; (first | (obtain ⟨rfl, _⟩ := hs; rfl) | (obtain ⟨_, hs⟩ := hs; (first | (obtain ⟨rfl, _⟩ := hs; rfl) | (obtain ⟨_, hs⟩ := hs; (first | (obtain ⟨rfl, _⟩ := hs; rfl) | (obtain ⟨_, hs⟩ := hs; (obtain ⟨rfl, _⟩ := hs; rfl)))))))))))))))))))))))))))))))))
  · refine ⟨_,
      (pss_one (ps_ret (pe_and (pe_call (ok_l_is_number T (TL := TL)) (hr.mono (by decide)) rfl T.l_is_number.g T.l_is_number.k T.l_is_number.b .nil pass0 (pa_cons (pv 0) pa_nil)) (pe_one (pe_cmpR op_ge (pv 0) pe_int (nomark _))))))
      , run3 (K := K) (C := T.C) (TL := TL) h fun us n q e hs => ?_⟩
    obtain ⟨x, rfl, hq⟩ := hs
    cases x <;> simpa [ro0, isN, isSzD] using hq
theorem ok_l_is_body (T : Txt K mg) : FnOk P w K mg base CX0 3 T.l_is_body.a T.l_is_body.d ["thing"] (toSp K T.C TL false sp_lbody) := by
  refine T.l_is_body.F.ok c_l_is_body (fun vs H Q E h => toSp_len h fun us n q e hs => ?_) (fun cdv A outer s H vs Q E hr h => ?_)
  · (first | (obtain ⟨rfl, _⟩ := hs; rfl) | (obtain ⟨_, hs⟩ := hs; (first | (obtain ⟨rfl, _⟩ := hs; rfl) | (obtain ⟨_, hs⟩ := hs; (first | (obtain ⟨rfl, _⟩ := hs; rfl) | (obtain ⟨_, hs⟩ := hs; (first | (obtain ⟨rfl, _⟩ := hs; rfl) | (obtain ⟨_, hs⟩ := hs; (first | (obtain ⟨rfl, _⟩ := hs; rfl) | (obtain ⟨_, hs⟩ := hs; (first | (obtain ⟨rfl, _⟩ := hs; rfl) | (obtain ⟨_, hs⟩ := hs; (first | (obtain ⟨rfl, _⟩ := hs; rfl) | (obtain ⟨_, hs⟩ := hs; (first | (obtain ⟨rfl, _⟩ := hs; rfl) | (obtain ⟨_, hs⟩ := hs; (first | (obtain ⟨rfl, _⟩ := hs; rfl) | (obtain ⟨_, hs⟩ := hs; (first | (obtain ⟨rfl, _⟩ := hs; rfl) | (obtain ⟨_, hs⟩ := hs; (first | (obtain ⟨rfl, _⟩ := hs; rfl) | (obtain ⟨_, hs⟩ := hs; (first | (obtain ⟨rfl, _⟩ := hs; rfl) | (obtain ⟨_, hs⟩ := hs; (first | (obtain ⟨rfl, _⟩ := hs; rfl) | (obtain ⟨_, hs⟩ := hs; (first | (obtain ⟨rfl, _⟩ := hs; rfl) | (obtain ⟨_, hs⟩ := hs; (first | (obtain ⟨rfl, _⟩ := hs; rfl) | (obtain ⟨_, hs⟩ := hs; (first | (obtain ⟨rfl, _⟩ := hs; rfl) | (obtain ⟨_, hs⟩ := hs; (obtain ⟨rfl, _⟩ := hs; rfl)))))))))))))))))))))))))))))))))
  · refine ⟨_,
      (pss_one (ps_ret (pe_and (pe_callB (isi3 K) (by rfl) T.z_isinstance (by decide +kernel) (pa_cons (pv 0) (pa_cons (pe_bltn (v := .ty "tuple") (u := .type "tuple") rfl T.z_tuple (by decide +kernel) rfl) pa_nil))) (pe_and (pe_cmpR (eq3 K hr.units) (pe_callB (len3 K) (by rfl) T.z_len (by decide +kernel) (pa_cons (pv 0) pa_nil)) pe_int (nomark _)) (pe_and (pe_call (ok_l_is_size T (TL := TL)) (hr.mono (by decide)) rfl T.l_is_size.g T.l_is_size.k T.l_is_size.b .nil pass0 (pa_cons (pe_ix (ix3 K) (pv 0) pe_int (fun _ _ => rfl)) pa_nil)) (pe_one (pe_call (ok_l_is_size T (TL := TL)) (hr.mono (by decide)) rfl T.l_is_size.g T.l_is_size.k T.l_is_size.b .nil pass0 (pa_cons (pe_ix (ix3 K) (pv 0) pe_int (fun _ _ => rfl)) pa_nil))))))))
      , run3 (K := K) (C := T.C) (TL := TL) h fun us n q e hs => ?_⟩
    obtain ⟨a, b, rfl, h1, h2, hq⟩ := hs
    simp [ro0, isSzD, h1, h2]
    exact hq
theorem ok_l_few_bodies (T : Txt K mg) : FnOk P w K mg base CX0 1 T.l_few_bodies.a T.l_few_bodies.d ["many"] (toSp K T.C TL true sp_fewb) := by
  refine T.l_few_bodies.F.ok c_l_few_bodies (fun vs H Q E h => toSp_len h fun us n q e hs => ?_) (fun cdv A outer s H vs Q E hr h => ?_)
  · (first | (obtain ⟨rfl, _⟩ := hs; rfl) | (obtain ⟨_, hs⟩ := hs; (first | (obtain ⟨rfl, _⟩ := hs; rfl) | (obtain ⟨_, hs⟩ := hs; (first | (obtain ⟨rfl, _⟩ := hs; rfl) | (obtain ⟨_, hs⟩ := hs; (first | (obtain ⟨rfl, _⟩ := hs; rfl) | (obtain ⟨_, hs⟩ := hs; (first | (obtain ⟨rfl, _⟩ := hs; rfl) | (obtain ⟨_, hs⟩ := hs; (first | (obtain ⟨rfl, _⟩ := hs; rfl) | (obtain ⟨_, hs⟩ := hs; (first | (obtain ⟨rfl, _⟩ := hs; rfl) | (obtain ⟨_, hs⟩ := hs; (first | (obtain ⟨rfl, _⟩ := hs; rfl) | (obtain ⟨_, hs⟩ := hs; (first | (obtain ⟨rfl, _⟩ := hs; rfl) | (obtain ⟨_, hs⟩ := hs; (first | (obtain ⟨rfl, _⟩ := hs; rfl) | (obtain ⟨_, hs⟩ := hs; (first | (obtain ⟨rfl, _⟩ := hs; rfl) | (obtain ⟨_, hs⟩ := hs; (first | (obtain ⟨rfl, _⟩ := hs; rfl) | (obtain ⟨_, hs⟩ := hs; (first | (obtain ⟨rfl, _⟩ := hs; rfl) | (obtain ⟨_, hs⟩ := hs; (first | (obtain ⟨rfl, _⟩ := hs; rfl) | (obtain ⟨_, hs⟩ := hs; (first | (obtain ⟨rfl, _⟩ := hs; rfl) | (obtain ⟨_, hs⟩ := hs; (first | (obtain ⟨rfl, _⟩ := hs; rfl) | (obtain ⟨_, hs⟩ := hs; (obtain ⟨rfl, _⟩ := hs; rfl)))))))))))))))))))))))))))))))))
  · refine ⟨_,
      (pss_cons (ps_set (i := 1) c_l_few_bodies.nd rfl (Or.inl rfl) (pe_lst pa_nil))
      (pss_cons (ps_for PassesOwn.never rfl (pi_range2 rfl T.z_range (pa_cons pe_int (pa_cons (pe_op (add3 K) (pv 0) pe_int) pa_nil))) (pg_name (i := 2) c_l_few_bodies.nd rfl (Or.inr rfl))
      (pss_one (ps_set (i := 1) c_l_few_bodies.nd rfl (Or.inl rfl) (pe_op (add3 K) (pv 1) (pe_lc (own := [("b", 3)]) (g := gName 3) (by rfl) c_l_few_bodies.nd (pi_range2 rfl T.z_range (pa_cons pe_int (pa_cons (pe_op (add3 K) (pv 0) pe_int) pa_nil))) (blkOk_by (own := [("b", 3)]) (N := N_l_few_bodies) (sc := defScope S_l_few_bodies) (by decide +kernel)) (fun _ _ _ _ _ => pg_name (i := 3) c_l_few_bodies.nd rfl (Or.inl rfl)) (fun _ _ _ _ _ => pts_nil) (fun _ _ _ _ _ => (pe_tup (pa_cons (pv 2) (pa_cons (pv 3) pa_nil)))))))))
      (pss_one (ps_ret (pv 1)))))
      , run3 (K := K) (C := T.C) (TL := TL) h fun us n q e hs => ?_⟩
    obtain ⟨m, rfl, hm, hq⟩ := hs
    simp [ro0, -V3.forL]
    have e1 : upFrom 1 m = (List.range m).map (fun a : Nat => PyData.int (1 + (a : Nat))) := rfl
    refine ⟨by omega, ?_⟩
    rw [e1]
    refine forL_mapW (fun a : Nat => PyData.int (1 + (a : Nat))) (fun done left ρ k => k = n ∧ done ++ left = List.range m ∧ ∃ z2 z3 : Sl, ρ = [.fz (.d (.int (m : Nat))), .ow ((rowL m done).map pD), z2, z3]) (List.range m) [] _ _ ?_ ?_ ⟨rfl, rfl, _, _, rfl⟩
    · rintro done ρ k ⟨rfl, hd, z2, z3, rfl⟩
      rw [List.append_nil] at hd
      subst hd
      simp
      exact hq
    · rintro done a left ρ k G hG ⟨rfl, hd, z2, z3, rfl⟩
      have hlen := congrArg List.length hd
      simp at hlen
      have hb : (rowL m done).length ≤ 20 * 20 := by
        rw [row_len]
        exact Nat.mul_le_mul (by omega) hm
      simp
      refine ⟨by omega, few (by omega), lcL_up (fun b => pr (1 + (a : Nat)) (1 + (b : Nat))) 1 m _ _ (fun b _ n Kt Ks h => ?_) ⟨Nat.le_of_lt (few (by simp; omega)), ?_⟩⟩
      · simp
        exact h
      · have ez : (rowL m done).map pD ++ (List.range m).map (fun b : Nat => pr (1 + ((a : Nat) : Int)) (1 + ((b : Nat) : Int))) = (rowL m (done ++ [a])).map pD := by
          unfold rowL
          rw [List.flatMap_append, List.map_append, List.flatMap_cons, List.flatMap_nil, List.append_nil, List.map_map]
          rfl
        rw [ez, if_pos (flat_pDs _)]
        exact hG _ _ ⟨rfl, by rw [List.append_assoc]; exact hd, _, _, rfl⟩
theorem ok_l_size (T : Txt K mg) : FnOk P w K mg base CX0 4 T.l_size.a T.l_size.d ["draw"] (toSp K T.C TL false sp_drsize) := by
  refine T.l_size.F.ok c_l_size (fun vs H Q E h => toSp_len h fun us n q e hs => ?_) (fun cdv A outer s H vs Q E hr h => ?_)
  · (first | (obtain ⟨rfl, _⟩ := hs; rfl) | (obtain ⟨_, hs⟩ := hs; (first | (obtain ⟨rfl, _⟩ := hs; rfl) | (obtain ⟨_, hs⟩ := hs; (first | (obtain ⟨rfl, _⟩ := hs; rfl) | (obtain ⟨_, hs⟩ := hs; (first | (obtain ⟨rfl, _⟩ := hs; rfl) | (obtain ⟨_, hs⟩ := hs; (first | (obtain ⟨rfl, _⟩ := hs; rfl) | (obtain ⟨_, hs⟩ := hs; (first | (obtain ⟨rfl, _⟩ := hs; rfl) | (obtain ⟨_, hs⟩ := hs; (first | (obtain ⟨rfl, _⟩ := hs; rfl) | (obtain ⟨_, hs⟩ := hs; (first | (obtain ⟨rfl, _⟩ := hs; rfl) | (obtain ⟨_, hs⟩ := hs; (first | (obtain ⟨rfl, _⟩ := hs; rfl) | (obtain ⟨_, hs⟩ := hs; (first | (obtain ⟨rfl, _⟩ := hs; rfl) | (obtain ⟨_, hs⟩ := hs; (first | (obtain ⟨rfl, _⟩ := hs; rfl) | (obtain ⟨_, hs⟩ := hs; (first | (obtain ⟨rfl, _⟩ := hs; rfl) | (obtain ⟨_, hs⟩ := hs; (first | (obtain ⟨rfl, _⟩ := hs; rfl) | (obtain ⟨_, hs⟩ := hs; (first | (obtain ⟨rfl, _⟩ := hs; rfl) | (obtain ⟨_, hs⟩ := hs; (first | (obtain ⟨rfl, _⟩ := hs; rfl) | (obtain ⟨_, hs⟩ := hs; (first | (obtain ⟨rfl, _⟩ := hs; rfl) | (obtain ⟨_, hs⟩ := hs; (obtain ⟨rfl, _⟩ := hs; rfl)))))))))))))))))))))))))))))))))
  · refine ⟨_,
      (pss_one (ps_ret (pe_op (add3 K) pe_int (pe_call (ok_l_pick T (TL := TL)) (hr.mono (by decide)) rfl T.l_pick.g T.l_pick.k T.l_pick.b .nil pass0 (pa_cons (pv 0) (pa_cons (pe_lst (pa_cons (pe_call (ok_l_take T (TL := TL)) (hr.mono (by decide)) rfl T.l_take.g T.l_take.k T.l_take.b .nil pass0 (pa_cons (pv 0) (pa_cons pe_int pa_nil))) (pa_cons (pe_call (ok_l_take T (TL := TL)) (hr.mono (by decide)) rfl T.l_take.g T.l_take.k T.l_take.b .nil pass0 (pa_cons (pv 0) (pa_cons pe_int pa_nil))) (pa_cons (pe_call (ok_l_take T (TL := TL)) (hr.mono (by decide)) rfl T.l_take.g T.l_take.k T.l_take.b .nil pass0 (pa_cons (pv 0) (pa_cons pe_int pa_nil))) (pa_cons (pe_call (ok_l_take T (TL := TL)) (hr.mono (by decide)) rfl T.l_take.g T.l_take.k T.l_take.b .nil pass0 (pa_cons (pv 0) (pa_cons pe_int pa_nil))) pa_nil))))) pa_nil))))))
      , run3 (K := K) (C := T.C) (TL := TL) h fun us n q e hs => ?_⟩
    obtain ⟨rfl, hn, hq⟩ := hs
    have hc := capD_eq
    simp [ro0, -List.mem_cons]
    refine ⟨by omega, by omega, fun x x0 x1 => ⟨by omega, by omega, fun y y0 y1 => ⟨by omega, by omega, fun z z0 z1 => ⟨by omega, by omega, fun w w0 w1 => ⟨by omega, fun d hd => ?_⟩⟩⟩⟩⟩
    simp only [List.mem_cons, List.not_mem_nil, or_false] at hd
    rcases hd with rfl | rfl | rfl | rfl
    · exact ⟨rfl, hq (1 + x) (by omega) (by omega)⟩
    · exact ⟨rfl, hq (1 + y) (by omega) (by omega)⟩
    · exact ⟨rfl, hq (1 + z) (by omega) (by omega)⟩
    · exact ⟨rfl, hq (1 + w) (by omega) (by omega)⟩
end
end G21
set_option Elab.async false
set_option linter.all false
set_option maxRecDepth 100000
set_option maxHeartbeats 4000000
set_option synthInstance.maxSize 100000
set_option synthInstance.maxHeartbeats 0
namespace G21
open PySem PySem.Spec PyProof.Rows L2 V3
/-- the staircase of a lot of corners -/
def stOf (L cs : List Co) : Prop := Can cs ∧ (∀ c ∈ cs, c ∈ L) ∧ (∀ c ∈ L, ∃ d ∈ cs, leC c d) ∧ cs.length ≤ L.length
@[simp ↓] def sp_joined : VSp := fun us n q _ => ∃ (x y : D) (cs ds : List Co), us = [.d x, .d y] ∧ asL x = some (cs.map cD) ∧ asL y = some (ds.map cD) ∧ cs.length + ds.length ≤ 200 ∧ ∀ es : List Co, stOf (cs ++ ds) es → q (.d (.tuple (es.map cD))) n
def smC (k : Int) (c : Co) : Prop := (∀ j, c.1 = some j → 1 ≤ j ∧ j ≤ k) ∧ ∀ j, c.2 = some j → 1 ≤ j ∧ j ≤ k
@[simp ↓] def sp_few : VSp := fun us n q _ => ∃ m : Nat, us = [.dr, .d (.int (m : Nat))] ∧ m ≤ 4 ∧ n + 100 ≤ topD ∧ ∀ (cs : List Co) (n' : Nat), Can cs → (∀ c ∈ cs, smC 8 c) → cs.length ≤ m + 1 → n' ≤ n + 20 → q (.d (.tuple (cs.map cD))) n'
section
variable {P : Program} {w : World} {K : PySem.W.Frag} {mg : Str → Option Value} {base : Heap} {TL : List (Addr × Str)}
theorem ok_l_joined (T : Txt K mg) (Y : TzS T base TL) : FnOk P w K mg base CX0 7 T.l_joined.a T.l_joined.d ["one", "other"] (toSp K T.C TL false sp_joined) := by
  refine T.l_joined.F.ok c_l_joined (fun vs H Q E h => toSp_len h fun us n q e hs => ?_) (fun cdv A outer s H vs Q E hr h => ?_)
  · obtain ⟨x, y, cs, ds, rfl, _⟩ := hs
    rfl
  · refine ⟨_,
      (pss_one (ps_ret (pe_call (ok_l_staircase T (TL := TL) Y) (hr.mono (by decide)) rfl T.l_staircase.g T.l_staircase.k T.l_staircase.b .nil pass0 (pa_cons (pe_op (add3 K) (pe_callTy (list3 K) (by rfl) T.z_list (by decide +kernel) (pa_cons (pv 0) pa_nil)) (pe_callTy (list3 K) (by rfl) T.z_list (by decide +kernel) (pa_cons (pv 1) pa_nil))) pa_nil))))
      , run3 (K := K) (C := T.C) (TL := TL) h fun us n q e hs => ?_⟩
    obtain ⟨x, y, cs, ds, rfl, hx, hy, hl, hq⟩ := hs
    cases x <;> cases hx <;> cases y <;> cases hy <;> simp [ro0]
    all_goals
      refine ⟨Nat.le_of_lt (few (by omega)), cs ++ ds, by rw [List.map_append], by simp; omega, fun es h1 h2 h3 h4 => hq es ⟨h1, fun c hc => h2 c.1 c.2 hc, fun c hc => ?_, by simpa using h4⟩⟩
      obtain ⟨a, b, m, l⟩ := h3 c.1 c.2 hc
      exact ⟨(a, b), m, l⟩
theorem ok_l_few (T : Txt K mg) (Y : TzS T base TL) : FnOk P w K mg base CX0 7 T.l_few.a T.l_few.d ["draw", "most"] (toSp K T.C TL false sp_few) := by
  refine T.l_few.F.ok c_l_few (fun vs H Q E h => toSp_len h fun us n q e hs => ?_) (fun cdv A outer s H vs Q E hr h => ?_)
  · obtain ⟨m, rfl, _⟩ := hs
    rfl
  · refine ⟨_,
      (pss_cons (ps_set (i := 2) c_l_few.nd rfl (Or.inl rfl) (pe_lst pa_nil))
      (pss_cons (ps_for PassesOwn.never rfl (pi_range1 rfl T.z_range (pa_cons (pe_call (ok_l_take T (TL := TL)) (hr.mono (by decide)) rfl T.l_take.g T.l_take.k T.l_take.b .nil pass0 (pa_cons (pv 0) (pa_cons (pe_op (add3 K) (pv 1) pe_int) pa_nil))) pa_nil)) (pg_name (i := 3) c_l_few.nd rfl (Or.inl rfl))
      (C8.pss_cut (ps_set (i := 4) c_l_few.nd rfl (Or.inl rfl) (pe_tup (pa_cons (pe_op (add3 K) pe_int (pe_call (ok_l_take T (TL := TL)) (hr.mono (by decide)) rfl T.l_take.g T.l_take.k T.l_take.b .nil pass0 (pa_cons (pv 0) (pa_cons pe_int pa_nil)))) (pa_cons (pe_op (add3 K) pe_int (pe_call (ok_l_take T (TL := TL)) (hr.mono (by decide)) rfl T.l_take.g T.l_take.k T.l_take.b .nil pass0 (pa_cons (pv 0) (pa_cons pe_int pa_nil)))) pa_nil))))
      (C8.pss_cut (ps_set (i := 5) c_l_few.nd rfl (Or.inl rfl) (pe_call (ok_l_take T (TL := TL)) (hr.mono (by decide)) rfl T.l_take.g T.l_take.k T.l_take.b .nil pass0 (pa_cons (pv 0) (pa_cons pe_int pa_nil))))
      (pss_one (ps_expr (bm3 K PySem.F.plainAttrs_list PySem.F.slot_list_append PySem.F.type_list_append mt_append (pv 2) (pa_cons (pe_ifExp (pt_cmpR (eq3 K hr.units) (pv 5) pe_int (nomark _)) (pe_tup (pa_cons pe_non (pa_cons (pe_ix (ix3 K) (pv 4) pe_int (fun _ _ => rfl)) pa_nil))) (pe_ifExp (pt_cmpR (eq3 K hr.units) (pv 5) pe_int (nomark _)) (pe_tup (pa_cons (pe_ix (ix3 K) (pv 4) pe_int (fun _ _ => rfl)) (pa_cons pe_non pa_nil))) (pv 4))) pa_nil)))))))
      (pss_one (ps_ret (pe_ifExp (pt_cmpR (eq3 K hr.units) (pe_call (ok_l_take T (TL := TL)) (hr.mono (by decide)) rfl T.l_take.g T.l_take.k T.l_take.b .nil pass0 (pa_cons (pv 0) (pa_cons pe_int pa_nil))) pe_int (nomark _)) (pe_tup (pa_cons (pe_tup (pa_cons pe_non (pa_cons pe_non pa_nil))) pa_nil)) (pe_call (ok_l_staircase T (TL := TL) Y) (hr.mono (by decide)) rfl T.l_staircase.g T.l_staircase.k T.l_staircase.b .nil pass0 (pa_cons (pv 2) pa_nil)))))))
      , run3 (K := K) (C := T.C) (TL := TL) h fun us n q e hs => ?_⟩
    obtain ⟨m, rfl, hm, hn, hq⟩ := hs
    have hc := capD_eq
    simp [ro0, -V3.forL]
    refine ⟨by omega, by omega, fun x x0 x1 => ⟨by omega, ?_⟩⟩
    rw [show upFrom 0 x.toNat = (List.range x.toNat).map (fun k : Nat => PyData.int (0 + (k : Nat))) from rfl]
    refine forL_mapW (fun k : Nat => PyData.int (0 + (k : Nat))) (fun done left ρ k => done ++ left = List.range x.toNat ∧ k ≤ n + 1 + 3 * done.length ∧ ∃ (cs : List Co) (z3 z4 z5 : Sl), ρ = [.fz .dr, .fz (.d (.int (m : Nat))), .ow (cs.map cD), z3, z4, z5] ∧ (∀ c ∈ cs, smC 8 c) ∧ cs.length = done.length) (List.range x.toNat) [] _ _ ?_ ?_ ?_
    · rintro done ρ k ⟨hd, hk, cs, z3, z4, z5, rfl, hs, hl⟩
      rw [List.append_nil] at hd
      have hdl : done.length = x.toNat := by rw [hd, List.length_range]
      simp
      refine ⟨by omega, by omega, fun y y0 y1 => ?_⟩
      by_cases hy : y = 0
      · rw [if_pos hy]
        exact hq [(none, none)] _ (List.pairwise_singleton _ _) (fun c hc => by
          rw [List.mem_singleton.mp hc]
          exact ⟨(fun j e => by cases e), fun j e => by cases e⟩) (by simp) (by omega)
      · rw [if_neg hy]
        exact ⟨cs, rfl, by omega, fun cs' h1 h2 h3 h4 => hq cs' _ h1 (fun c hc => hs c (h2 c.1 c.2 hc)) (by omega) (by omega)⟩
    · rintro done a left ρ k G hG ⟨hd, hk, cs, z3, z4, z5, rfl, hs, hl⟩
      have hlen := congrArg List.length hd
      simp at hlen
      simp
      refine Exists.intro (fun (ρ : Ro) (j : Nat) => j = k + 2 ∧ ∃ c1 c2 : Int, ρ = [.fz .dr, .fz (.d (.int (m : Nat))), .ow (cs.map cD), .fz (.d (.int (a : Nat))), .fz (.d (pr c1 c2)), z5] ∧ 1 ≤ c1 ∧ c1 ≤ 8 ∧ 1 ≤ c2 ∧ c2 ≤ 8) (And.intro ?_ ?_)
      · exact ⟨by omega, by omega, fun x x0 x1 => ⟨by omega, by omega, fun y y0 y1 => ⟨rfl, 1 + x, 1 + y, rfl, by omega, by omega, by omega, by omega⟩⟩⟩
      rintro ρ j ⟨rfl, c1, c2, rfl, p1, p2, p3, p4⟩
      simp
      refine Exists.intro (fun (ρ : Ro) (j : Nat) => j = k + 3 ∧ ∃ w : Int, ρ = [.fz .dr, .fz (.d (.int (m : Nat))), .ow (cs.map cD), .fz (.d (.int (a : Nat))), .fz (.d (pr c1 c2)), .fz (.d (.int w))]) (And.intro ?_ ?_)
      · exact ⟨by omega, by omega, fun x x0 x1 => ⟨rfl, x, rfl⟩⟩
      rintro ρ j ⟨rfl, w, rfl⟩
      have put : ∀ c : Co, smC 8 c → cs.length < sizeLine ∧ G [.fz .dr, .fz (.d (.int (m : Nat))), .ow (cs.map cD ++ [cD c]), .fz (.d (.int (a : Nat))), .fz (.d (pr c1 c2)), .fz (.d (.int w))] (k + 3) := fun c hc => ⟨few (by omega), hG _ _ ⟨by rw [List.append_assoc]; exact hd, by simp; omega, cs ++ [c], _, _, _, by rw [List.map_append]; rfl, fun d hd => by
        rcases List.mem_append.mp hd with z | z
        · exact hs d z
        · rw [List.mem_singleton.mp z]
          exact hc, by simp; omega⟩⟩
      by_cases w0 : w = 0
      · simp [w0] at put ⊢
        exact put none (some c2) ⟨(fun j e => by cases e), fun j e => by cases e; exact ⟨p3, p4⟩⟩
      · by_cases w1 : w = 1
        · simp [w1] at put ⊢
          exact put (some c1) none ⟨(fun j e => by cases e; exact ⟨p1, p2⟩), fun j e => by cases e⟩
        · simp [w0, w1] at put ⊢
          exact put (some c1) (some c2) ⟨(fun j e => by cases e; exact ⟨p1, p2⟩), fun j e => by cases e; exact ⟨p3, p4⟩⟩
    · exact ⟨rfl, by simp, [], _, _, _, rfl, (fun c h => by cases h), rfl⟩
end
end G21
set_option Elab.async false
set_option linter.all false
set_option maxRecDepth 100000
set_option maxHeartbeats 4000000
set_option synthInstance.maxSize 100000
set_option synthInstance.maxHeartbeats 0
namespace G21
open PySem PySem.Spec PyProof.Rows L2 V3
/-- raw numbers of a form -/
abbrev rwD (f : Fm) : D := .tuple [.tuple (f.cs.map cD), pD f.l, pD f.b]
abbrev fwD (f : Fm) : D := .tuple [f.e, rwD f]
@[simp ↓] def sp_unlike : VSp := fun us n q _ => ∃ (f g : Fm) (p : Int × Int), us = [.d (fwD f), .d (fwD g), .d (pD p)] ∧ f.cs.length ≤ 300 ∧ g.cs.length ≤ 300 ∧ okE f.e ∧ okE g.e ∧ q (.d (.bool (prtB f g p))) n
def turnL (f g : Fm) (i : Int) : List Int := [1, 2, axI i f.l - axI i f.b, axI i f.l - axI i f.b + 1, axI i g.l - axI i g.b, axI i g.l - axI i g.b + 1].filter fun s => decide (1 ≤ s)
@[simp ↓] def sp_turns : VSp := fun us n q _ => ∃ (f g : Fm) (i : Int), us = [.d (.list [rwD f, rwD g]), .d (.int i)] ∧ (i = 0 ∨ i = 1) ∧ q (.d (.list ((turnL f g i).map PyData.int))) n
theorem ax_at2 {i : Int} (h : i = 0 ∨ i = 1) (p : Int × Int) : atI [PyData.int p.1, PyData.int p.2] i = some (.int (axI i p)) := ax_at h p
section
variable {P : Program} {w : World} {K : PySem.W.Frag} {mg : Str → Option Value} {base : Heap} {TL : List (Addr × Str)}
theorem ok_l_unlike (T : Txt K mg) : FnOk P w K mg base CX0 4 T.l_unlike.a T.l_unlike.d ["one", "other", "body"] (toSp K T.C TL false sp_unlike) := by
  refine T.l_unlike.F.ok c_l_unlike (fun vs H Q E h => toSp_len h fun us n q e hs => ?_) (fun cdv A outer s H vs Q E hr h => ?_)
  · (first | (obtain ⟨rfl, _⟩ := hs; rfl) | (obtain ⟨_, hs⟩ := hs; (first | (obtain ⟨rfl, _⟩ := hs; rfl) | (obtain ⟨_, hs⟩ := hs; (first | (obtain ⟨rfl, _⟩ := hs; rfl) | (obtain ⟨_, hs⟩ := hs; (first | (obtain ⟨rfl, _⟩ := hs; rfl) | (obtain ⟨_, hs⟩ := hs; (first | (obtain ⟨rfl, _⟩ := hs; rfl) | (obtain ⟨_, hs⟩ := hs; (first | (obtain ⟨rfl, _⟩ := hs; rfl) | (obtain ⟨_, hs⟩ := hs; (first | (obtain ⟨rfl, _⟩ := hs; rfl) | (obtain ⟨_, hs⟩ := hs; (first | (obtain ⟨rfl, _⟩ := hs; rfl) | (obtain ⟨_, hs⟩ := hs; (first | (obtain ⟨rfl, _⟩ := hs; rfl) | (obtain ⟨_, hs⟩ := hs; (first | (obtain ⟨rfl, _⟩ := hs; rfl) | (obtain ⟨_, hs⟩ := hs; (first | (obtain ⟨rfl, _⟩ := hs; rfl) | (obtain ⟨_, hs⟩ := hs; (first | (obtain ⟨rfl, _⟩ := hs; rfl) | (obtain ⟨_, hs⟩ := hs; (first | (obtain ⟨rfl, _⟩ := hs; rfl) | (obtain ⟨_, hs⟩ := hs; (first | (obtain ⟨rfl, _⟩ := hs; rfl) | (obtain ⟨_, hs⟩ := hs; (first | (obtain ⟨rfl, _⟩ := hs; rfl) | (obtain ⟨_, hs⟩ := hs; (first | (obtain ⟨rfl, _⟩ := hs; rfl) | (obtain ⟨_, hs⟩ := hs; (obtain ⟨rfl, _⟩ := hs; rfl)))))))))))))))))))))))))))))))))
  · refine ⟨_,
      (C8.pss_cut (ps_par (i := 3) (j := 4) rfl c_l_unlike.nd rfl rfl (by decide) rfl rfl (pa_cons (pe_call (ok_l_held T (TL := TL)) (hr.mono (by decide)) rfl T.l_held.g T.l_held.k T.l_held.b .nil pass0 (pa_cons (pe_ix (ix3 K) (pe_ix (ix3 K) (pv 0) pe_int (fun _ _ => rfl)) pe_int (fun _ _ => rfl)) (pa_cons (pv 2) pa_nil))) (pa_cons (pe_call (ok_l_held T (TL := TL)) (hr.mono (by decide)) rfl T.l_held.g T.l_held.k T.l_held.b .nil pass0 (pa_cons (pe_ix (ix3 K) (pe_ix (ix3 K) (pv 1) pe_int (fun _ _ => rfl)) pe_int (fun _ _ => rfl)) (pa_cons (pv 2) pa_nil))) pa_nil)) (by with_unfolding_all rfl))
      (C8.pss_cut (ps_if (pt_cmpR (ne3 K hr.units) (pv 3) (pv 4) (nomark _))
      (pss_one (ps_ret pe_bl))
      pss_nil)
      (C8.pss_cut (ps_if (pt_not (pt_val (pv 3)))
      (pss_one (ps_ret pe_bl))
      pss_nil)
      (C8.pss_cut (ps_set (i := 5) c_l_unlike.nd rfl (Or.inl rfl) (pe_call (ok_l_grow T (TL := TL)) (hr.mono (by decide)) rfl T.l_grow.g T.l_grow.k T.l_grow.b .nil pass0 (pa_cons (pe_ix (ix3 K) (pe_ix (ix3 K) (pv 0) pe_int (fun _ _ => rfl)) pe_int (fun _ _ => rfl)) (pa_cons (pe_ix (ix3 K) (pe_ix (ix3 K) (pv 0) pe_int (fun _ _ => rfl)) pe_int (fun _ _ => rfl)) (pa_cons (pv 2) pa_nil)))))
      (pss_one (ps_ret (pe_or (pe_cmpR (ne3 K hr.units) (pe_ix (ix3 K) (pv 0) pe_int (fun _ _ => rfl)) (pe_ix (ix3 K) (pv 1) pe_int (fun _ _ => rfl)) (nomark _)) (pe_one (pe_cmpR (ne3 K hr.units) (pv 5) (pe_call (ok_l_grow T (TL := TL)) (hr.mono (by decide)) rfl T.l_grow.g T.l_grow.k T.l_grow.b .nil pass0 (pa_cons (pe_ix (ix3 K) (pe_ix (ix3 K) (pv 1) pe_int (fun _ _ => rfl)) pe_int (fun _ _ => rfl)) (pa_cons (pe_ix (ix3 K) (pe_ix (ix3 K) (pv 1) pe_int (fun _ _ => rfl)) pe_int (fun _ _ => rfl)) (pa_cons (pv 2) pa_nil)))) (nomark _))))))))))
      , run3 (K := K) (C := T.C) (TL := TL) h fun us n q e hs => ?_⟩
    obtain ⟨f, g, p, rfl, h1, h2, ⟨s1, xs, ex⟩, ⟨s2, ys, ey⟩, hq⟩ := hs
    obtain ⟨fe, fc, fl, fb⟩ := f
    obtain ⟨ge, gc, gl, gb⟩ := g
    dsimp only at ex ey h1 h2 s1 s2
    subst ex
    subst ey
    unfold prtB at hq
    dsimp only at hq
    simp [ro0]
    refine Exists.intro (fun (ρ : Ro) (k : Nat) => k = n ∧ ρ = [.fz (.d (fwD ⟨.tuple xs, fc, fl, fb⟩)), .fz (.d (fwD ⟨.tuple ys, gc, gl, gb⟩)), .fz (.d (pD p)), .fz (.d (.bool (hasI ⟨.tuple xs, fc, fl, fb⟩ p))), .fz (.d (.bool (hasI ⟨.tuple ys, gc, gl, gb⟩ p))), .no]) (And.intro ?_ ?_)
    · exact ⟨fc, p.1, p.2, ⟨rfl, rfl, rfl⟩, h1, gc, p.1, p.2, ⟨rfl, rfl, rfl⟩, h2, rfl, rfl⟩
    rintro ρ k ⟨rfl, rfl⟩
    generalize hasI ⟨.tuple xs, fc, fl, fb⟩ p = b1 at hq ⊢
    generalize hasI ⟨.tuple ys, gc, gl, gb⟩ p = b2 at hq ⊢
    simp
    refine Exists.intro (fun (ρ : Ro) (j : Nat) => j = k ∧ b1 = b2 ∧ ρ = [.fz (.d (fwD ⟨.tuple xs, fc, fl, fb⟩)), .fz (.d (fwD ⟨.tuple ys, gc, gl, gb⟩)), .fz (.d (pD p)), .fz (.d (.bool b1)), .fz (.d (.bool b2)), .no]) (And.intro ?_ ?_)
    · by_cases e : b1 = b2
      · rw [if_pos e]
        exact ⟨rfl, e, rfl⟩
      · rw [if_neg e]
        rw [show (b1 != b2) = true from bne_iff_ne.mpr e, Bool.true_or] at hq
        exact hq
    rintro ρ j ⟨rfl, rfl, rfl⟩
    simp
    refine Exists.intro (fun (ρ : Ro) (k : Nat) => k = j ∧ b1 = true ∧ ρ = [.fz (.d (fwD ⟨.tuple xs, fc, fl, fb⟩)), .fz (.d (fwD ⟨.tuple ys, gc, gl, gb⟩)), .fz (.d (pD p)), .fz (.d (.bool b1)), .fz (.d (.bool b1)), .no]) (And.intro ?_ ?_)
    · cases b1
      · simpa using hq
      · exact ⟨rfl, rfl, rfl⟩
    rintro ρ k ⟨rfl, rfl, rfl⟩
    simp
    refine Exists.intro (fun (ρ : Ro) (j : Nat) => j = k ∧ ρ = [.fz (.d (fwD ⟨.tuple xs, fc, fl, fb⟩)), .fz (.d (fwD ⟨.tuple ys, gc, gl, gb⟩)), .fz (.d (pD p)), .fz (.d (.bool true)), .fz (.d (.bool true)), .fz (.d (pD (behI fl fb p)))]) (And.intro ?_ ?_)
    · exact ⟨fl.1, fl.2, fb.1, fb.2, p.1, p.2, ⟨⟨rfl, rfl⟩, ⟨rfl, rfl⟩, rfl, rfl⟩, rfl, rfl⟩
    rintro ρ j ⟨rfl, rfl⟩
    simp
    refine ⟨s1, s2, ?_⟩
    cases e3 : (PyData.tuple xs).eqv (.tuple ys) with
    | false =>
      have hq' : q (.d (.bool true)) j := by simpa [e3] using hq
      simpa using hq'
    | true =>
      have hq' : q (.d (.bool (!decide (behI fl fb p = behI gl gb p)))) j := by simpa [e3] using hq
      simp
      refine ⟨gl.1, gl.2, gb.1, gb.2, p.1, p.2, ⟨⟨rfl, rfl⟩, ⟨rfl, rfl⟩, rfl, rfl⟩, shaped_pr2 .., shaped_pr2 .., ?_⟩
      rw [eqv_pr2]
      exact hq'
theorem ok_l_turns (T : Txt K mg) : FnOk P w K mg base CX0 1 T.l_turns.a T.l_turns.d ["raws", "k"] (toSp K T.C TL true sp_turns) := by
  refine T.l_turns.F.ok c_l_turns (fun vs H Q E h => toSp_len h fun us n q e hs => ?_) (fun cdv A outer s H vs Q E hr h => ?_)
  · (first | (obtain ⟨rfl, _⟩ := hs; rfl) | (obtain ⟨_, hs⟩ := hs; (first | (obtain ⟨rfl, _⟩ := hs; rfl) | (obtain ⟨_, hs⟩ := hs; (first | (obtain ⟨rfl, _⟩ := hs; rfl) | (obtain ⟨_, hs⟩ := hs; (first | (obtain ⟨rfl, _⟩ := hs; rfl) | (obtain ⟨_, hs⟩ := hs; (first | (obtain ⟨rfl, _⟩ := hs; rfl) | (obtain ⟨_, hs⟩ := hs; (first | (obtain ⟨rfl, _⟩ := hs; rfl) | (obtain ⟨_, hs⟩ := hs; (first | (obtain ⟨rfl, _⟩ := hs; rfl) | (obtain ⟨_, hs⟩ := hs; (first | (obtain ⟨rfl, _⟩ := hs; rfl) | (obtain ⟨_, hs⟩ := hs; (first | (obtain ⟨rfl, _⟩ := hs; rfl) | (obtain ⟨_, hs⟩ := hs; (first | (obtain ⟨rfl, _⟩ := hs; rfl) | (obtain ⟨_, hs⟩ := hs; (first | (obtain ⟨rfl, _⟩ := hs; rfl) | (obtain ⟨_, hs⟩ := hs; (first | (obtain ⟨rfl, _⟩ := hs; rfl) | (obtain ⟨_, hs⟩ := hs; (first | (obtain ⟨rfl, _⟩ := hs; rfl) | (obtain ⟨_, hs⟩ := hs; (first | (obtain ⟨rfl, _⟩ := hs; rfl) | (obtain ⟨_, hs⟩ := hs; (first | (obtain ⟨rfl, _⟩ := hs; rfl) | (obtain ⟨_, hs⟩ := hs; (first | (obtain ⟨rfl, _⟩ := hs; rfl) | (obtain ⟨_, hs⟩ := hs; (obtain ⟨rfl, _⟩ := hs; rfl)))))))))))))))))))))))))))))))))
  · refine ⟨_,
      (pss_cons (ps_set (i := 2) c_l_turns.nd rfl (Or.inl rfl) (pe_lst (pa_cons pe_int (pa_cons pe_int pa_nil))))
      (pss_cons (ps_for PassesOwn.never rfl (seq3 K (pv 0)) (pg_name (i := 3) c_l_turns.nd rfl (Or.inl rfl))
      (pss_one (ps_set (i := 2) c_l_turns.nd rfl (Or.inl rfl) (pe_op (add3 K) (pv 2) (pe_lst (pa_cons (pe_op op_sub (pe_ix (ix3 K) (pe_ix (ix3 K) (pv 3) pe_int (fun _ _ => rfl)) (pv 1) (fun _ _ => rfl)) (pe_ix (ix3 K) (pe_ix (ix3 K) (pv 3) pe_int (fun _ _ => rfl)) (pv 1) (fun _ _ => rfl))) (pa_cons (pe_op (add3 K) (pe_op op_sub (pe_ix (ix3 K) (pe_ix (ix3 K) (pv 3) pe_int (fun _ _ => rfl)) (pv 1) (fun _ _ => rfl)) (pe_ix (ix3 K) (pe_ix (ix3 K) (pv 3) pe_int (fun _ _ => rfl)) (pv 1) (fun _ _ => rfl))) pe_int) pa_nil)))))))
      (pss_one (ps_ret (pe_lc (own := [("size", 4)]) (g := gName 4) (by rfl) c_l_turns.nd (seq3 K (pv 2)) (blkOk_by (own := [("size", 4)]) (N := N_l_turns) (sc := defScope S_l_turns) (by decide +kernel)) (fun _ _ _ _ _ => pg_name (i := 4) c_l_turns.nd rfl (Or.inl rfl)) (fun _ _ _ _ _ => (pts_one (pt_cmpR op_ge (pv 4) pe_int (nomark _)))) (fun _ _ _ _ _ => (pv 4)))))))
      , run3 (K := K) (C := T.C) (TL := TL) h fun us n q e hs => ?_⟩
    obtain ⟨f, g, i, rfl, hi, hq⟩ := hs
    simp [ro0]
    rw [ax_at hi, ax_at hi, ax_at hi, ax_at hi]
    simp
    refine ⟨Nat.le_of_lt (few (by omega)), Nat.le_of_lt (few (by omega)), few (by omega), ?_⟩
    unfold turnL at hq
    by_cases c1 : 1 ≤ axI i f.l - axI i f.b <;> by_cases c2 : 1 ≤ axI i f.l - axI i f.b + 1 <;> by_cases c3 : 1 ≤ axI i g.l - axI i g.b <;> by_cases c4 : 1 ≤ axI i g.l - axI i g.b + 1 <;> simp [c1, c2, c3, c4] at hq ⊢ <;> exact hq
end
end G21
set_option Elab.async false
set_option linter.all false
set_option maxRecDepth 100000
set_option maxHeartbeats 4000000
set_option synthInstance.maxSize 100000
set_option synthInstance.maxHeartbeats 0
namespace G21
open PySem PySem.Spec PyProof.Rows L2 V3
theorem last_wide : ∀ {cs : List Co} {d x : Co} {A B : Int}, Can cs → cs.getLast? = some d → x ∈ cs → cle x A B → ∀ k, d.1 = some k → A ≤ k
  | [], _, _, _, _, _, _, m, _ => by cases m
  | [c], d, x, A, B, _, e, m, h => by
    rw [List.mem_singleton.mp m] at h
    cases e
    exact h.1
  | c :: c' :: cs, d, x, A, B, h, e, m, hx => by
    obtain ⟨h1, h2⟩ := List.pairwise_cons.mp h
    have e2 : (c' :: cs).getLast? = some d := by
      rw [List.getLast?_cons_cons] at e
      exact e
    intro k ek
    rcases List.mem_cons.mp m with rfl | m
    · have l := (h1 d (List.mem_of_getLast? e2)).1
      rw [ek] at l
      cases ex : x.1 with
      | none =>
        rw [ex] at l
        cases l
      | some j =>
        rw [ex] at l
        have l : j < k := l
        have := hx.1 j ex
        omega
    · exact last_wide h2 e2 m hx k ek
theorem head_high {cs : List Co} {c x : Co} {A B : Int} (h : Can cs) (e : cs.head? = some c) (m : x ∈ cs) (hx : cle x A B) : ∀ k, c.2 = some k → B ≤ k := fun k ek => by
  cases cs with
  | nil => cases m
  | cons c0 cs =>
    cases e
    rcases List.mem_cons.mp m with rfl | m
    · exact hx.2 k ek
    · have l := ((List.pairwise_cons.mp h).1 x m).2
      rw [ek] at l
      cases ex : x.2 with
      | none =>
        rw [ex] at l
        cases l
      | some j =>
        rw [ex] at l
        have l : j < k := l
        have := hx.2 j ex
        omega
theorem plain_eq {o : Option Int} {l b s : Int} (hs : 1 ≤ s) (h : ∀ k, o = some k → s ≤ k) : max (max l (1 + b)) (s + plainB o l b) = max l (s + b) := by
  cases o with
  | none =>
    show max (max l (1 + b)) (s + b) = _
    omega
  | some k =>
    have := h k rfl
    show max (max l (1 + b)) (s + (max l (k + b) - k)) = _
    omega
/-- a form that was made, of its raw numbers -/
def nrm (f : Fm) : Fm := ⟨f.e, f.cs, nLw f.cs f.l f.b, nBy f.cs f.l f.b⟩
theorem beh_nrm {f : Fm} {p : Int × Int} (hc : Can f.cs) (h1 : 1 ≤ p.1) (h2 : 1 ≤ p.2) (h : hasI f p = true) : behI (nrm f).l (nrm f).b p = behI f.l f.b p := by
  obtain ⟨x, m, hx⟩ := has_held.mp h
  have ne : f.cs ≠ [] := fun z => by
    rw [z] at m
    cases m
  obtain ⟨c, ec⟩ : ∃ c, f.cs.head? = some c := by
    cases q : f.cs with
    | nil => exact absurd q ne
    | cons c _ => exact ⟨c, rfl⟩
  obtain ⟨d, ed⟩ : ∃ d, f.cs.getLast? = some d := ⟨_, List.getLast?_eq_some_getLast ne⟩
  have e1 : (nrm f).l = (max f.l.1 (1 + f.b.1), max f.l.2 (1 + f.b.2)) := by
    show nLw f.cs f.l f.b = _
    unfold nLw
    rw [if_neg ne]
  have e2 : (nrm f).b = (plainB d.1 f.l.1 f.b.1, plainB c.2 f.l.2 f.b.2) := by
    show nBy f.cs f.l f.b = _
    unfold nBy
    rw [ec, ed]
  unfold behI
  rw [e1, e2]
  exact Prod.ext (plain_eq h1 (last_wide hc ed m hx)) (plain_eq h2 (head_high hc ec m hx))
theorem has_nrm (f : Fm) (p : Int × Int) : hasI (nrm f) p = hasI f p := rfl
theorem prt_nrm {f g : Fm} {p : Int × Int} (hf : Can f.cs) (hg : Can g.cs) (h1 : 1 ≤ p.1) (h2 : 1 ≤ p.2) : prtB (nrm f) (nrm g) p = prtB f g p := by
  unfold prtB
  rw [has_nrm, has_nrm]
  cases a : hasI f p <;> cases b : hasI g p
  · rfl
  · rfl
  · rfl
  · rw [beh_nrm hf h1 h2 a, beh_nrm hg h1 h2 b]
    rfl
end G21
set_option Elab.async false
set_option linter.all false
set_option maxRecDepth 100000
set_option maxHeartbeats 4000000
set_option synthInstance.maxSize 100000
set_option synthInstance.maxHeartbeats 0
namespace G21
open PySem PySem.Spec PyProof.Rows L2 V3
/-- small raw numbers -/
def smR (f : Fm) : Prop := Can f.cs ∧ (∀ c ∈ f.cs, smC 8 c) ∧ f.cs.length ≤ 8 ∧ (1 ≤ f.l.1 ∧ f.l.1 ≤ 6) ∧ (1 ≤ f.l.2 ∧ f.l.2 ≤ 6) ∧ (-5 ≤ f.b.1 ∧ f.b.1 ≤ 5) ∧ -5 ≤ f.b.2 ∧ f.b.2 ≤ 5
@[simp ↓] def sp_raw : VSp := fun us n q _ => us = [.dr] ∧ n + 200 ≤ topD ∧ ∀ (cs : List Co) (l b : Int × Int) (n' : Nat), Can cs → (∀ c ∈ cs, smC 8 c) → cs.length ≤ 4 → (1 ≤ l.1 ∧ l.1 ≤ 6) → (1 ≤ l.2 ∧ l.2 ≤ 6) → (-3 ≤ b.1 ∧ b.1 ≤ 3) → (-3 ≤ b.2 ∧ b.2 ≤ 3) → n' ≤ n + 60 → q (.d (.tuple [.tuple (cs.map cD), pD l, pD b])) n'
theorem pick06 {x : Int} {y : D} (h0 : 0 ≤ x) (h1 : x < 6) (h : y ∈ [PyData.int 0, .int 0, .int x]) : ∃ z : Int, y = .int z ∧ 0 ≤ z ∧ z ≤ 5 := by
  simp only [List.mem_cons, List.not_mem_nil, or_false] at h
  rcases h with rfl | rfl | rfl
  · exact ⟨_, rfl, by decide, by decide⟩
  · exact ⟨_, rfl, by decide, by decide⟩
  · exact ⟨_, rfl, h0, by omega⟩
section
variable {P : Program} {w : World} {K : PySem.W.Frag} {mg : Str → Option Value} {base : Heap} {TL : List (Addr × Str)}
theorem ok_l_raw (T : Txt K mg) (Y : TzS T base TL) : FnOk P w K mg base CX0 8 T.l_raw.a T.l_raw.d ["draw"] (toSp K T.C TL false sp_raw) := by
  refine T.l_raw.F.ok c_l_raw (fun vs H Q E h => toSp_len h fun us n q e hs => ?_) (fun cdv A outer s H vs Q E hr h => ?_)
  · obtain ⟨rfl, _⟩ := hs
    rfl
  · refine ⟨_,
      (pss_cons (ps_set (i := 1) c_l_raw.nd rfl (Or.inl rfl) (pe_tup (pa_cons (pe_op (add3 K) pe_int (pe_call (ok_l_pick T (TL := TL)) (hr.mono (by decide)) rfl T.l_pick.g T.l_pick.k T.l_pick.b .nil pass0 (pa_cons (pv 0) (pa_cons (pe_lst (pa_cons pe_int (pa_cons pe_int (pa_cons (pe_call (ok_l_take T (TL := TL)) (hr.mono (by decide)) rfl T.l_take.g T.l_take.k T.l_take.b .nil pass0 (pa_cons (pv 0) (pa_cons pe_int pa_nil))) pa_nil)))) pa_nil)))) (pa_cons (pe_op (add3 K) pe_int (pe_call (ok_l_pick T (TL := TL)) (hr.mono (by decide)) rfl T.l_pick.g T.l_pick.k T.l_pick.b .nil pass0 (pa_cons (pv 0) (pa_cons (pe_lst (pa_cons pe_int (pa_cons pe_int (pa_cons (pe_call (ok_l_take T (TL := TL)) (hr.mono (by decide)) rfl T.l_take.g T.l_take.k T.l_take.b .nil pass0 (pa_cons (pv 0) (pa_cons pe_int pa_nil))) pa_nil)))) pa_nil)))) pa_nil))))
      (pss_one (ps_ret (pe_tup (pa_cons (pe_call (ok_l_few T (TL := TL) Y) (hr.mono (by decide)) rfl T.l_few.g T.l_few.k T.l_few.b .nil pass0 (pa_cons (pv 0) (pa_cons pe_int pa_nil))) (pa_cons (pv 1) (pa_cons (pe_tup (pa_cons (pe_op op_sub (pe_call (ok_l_take T (TL := TL)) (hr.mono (by decide)) rfl T.l_take.g T.l_take.k T.l_take.b .nil pass0 (pa_cons (pv 0) (pa_cons pe_int pa_nil))) pe_int) (pa_cons (pe_op op_sub (pe_call (ok_l_take T (TL := TL)) (hr.mono (by decide)) rfl T.l_take.g T.l_take.k T.l_take.b .nil pass0 (pa_cons (pv 0) (pa_cons pe_int pa_nil))) pe_int) pa_nil))) pa_nil)))))))
      , run3 (K := K) (C := T.C) (TL := TL) h fun us n q e hs => ?_⟩
    obtain ⟨rfl, hn, hq⟩ := hs
    have hc := capD_eq
    simp [ro0, -List.mem_cons]
    refine ⟨by omega, by omega, fun x x0 x1 => ⟨by omega, fun y hy => ?_⟩⟩
    obtain ⟨z, rfl, z0, z1⟩ := pick06 x0 x1 hy
    simp [-List.mem_cons]
    refine ⟨by omega, by omega, fun x2 x3 x4 => ⟨by omega, fun y2 hy2 => ?_⟩⟩
    obtain ⟨z2, rfl, z3, z4⟩ := pick06 x3 x4 hy2
    simp
    refine ⟨3, rfl, by omega, by omega, fun cs n' h1 h2 h3 h4 => ⟨by omega, by omega, fun a a0 a1 => ⟨by omega, by omega, fun b b0 b1 => ?_⟩⟩⟩
    exact hq cs (1 + z, 1 + z2) (a - 3, b - 3) _ h1 (fun c hc => h2 c.1 c.2 hc) (by omega) ⟨by dsimp only; omega, by dsimp only; omega⟩ ⟨by dsimp only; omega, by dsimp only; omega⟩ ⟨by dsimp only; omega, by dsimp only; omega⟩ ⟨by dsimp only; omega, by dsimp only; omega⟩ (by omega)
end
end G21
set_option Elab.async false
set_option linter.all false
set_option maxRecDepth 100000
set_option maxHeartbeats 4000000
set_option synthInstance.maxSize 100000
set_option synthInstance.maxHeartbeats 0
namespace G21
open PySem PySem.Spec PyProof.Rows L2 V3
@[simp ↓] def sp_lstairs : VSp := fun us n q _ => ∃ m : Nat, us = [.dr, .d (.int (m : Nat))] ∧ m ≤ 4 ∧ n + 100 ≤ topD ∧ ∀ (cs : List Co) (n' : Nat), Can cs → (∀ c ∈ cs, smC 100000 c) → cs.length ≤ m + 1 → n' ≤ n + 40 → q (.d (.tuple (cs.map cD))) n'
theorem pickW {y : D} (h : y ∈ [PyData.int 4, .int 9, .int 9, .int 30, .int 99999]) : ∃ z : Int, y = .int z ∧ 4 ≤ z ∧ z ≤ 99999 := by
  simp only [List.mem_cons, List.not_mem_nil, or_false] at h
  rcases h with rfl | rfl | rfl | rfl | rfl <;> exact ⟨_, rfl, by decide, by decide⟩
section
variable {P : Program} {w : World} {K : PySem.W.Frag} {mg : Str → Option Value} {base : Heap} {TL : List (Addr × Str)}
theorem ok_l_stairs (T : Txt K mg) (Y : TzS T base TL) : FnOk P w K mg base CX0 7 T.l_stairs.a T.l_stairs.d ["draw", "most"] (toSp K T.C TL false sp_lstairs) := by
  refine T.l_stairs.F.ok c_l_stairs (fun vs H Q E h => toSp_len h fun us n q e hs => ?_) (fun cdv A outer s H vs Q E hr h => ?_)
  · obtain ⟨m, rfl, _⟩ := hs
    rfl
  · refine ⟨_,
      (pss_cons (ps_par (i := 2) (j := 3) rfl c_l_stairs.nd rfl rfl (by decide) rfl rfl (pa_cons (pe_lst pa_nil) (pa_cons (pe_call (ok_l_pick T (TL := TL)) (hr.mono (by decide)) rfl T.l_pick.g T.l_pick.k T.l_pick.b .nil pass0 (pa_cons (pv 0) (pa_cons (pe_lst (pa_cons pe_int (pa_cons pe_int (pa_cons pe_int (pa_cons pe_int (pa_cons pe_int pa_nil)))))) pa_nil))) pa_nil)) (by with_unfolding_all rfl))
      (pss_cons (ps_for PassesOwn.never rfl (pi_range1 rfl T.z_range (pa_cons (pe_call (ok_l_take T (TL := TL)) (hr.mono (by decide)) rfl T.l_take.g T.l_take.k T.l_take.b .nil pass0 (pa_cons (pv 0) (pa_cons (pe_op (add3 K) (pv 1) pe_int) pa_nil))) pa_nil)) (pg_name (i := 4) c_l_stairs.nd rfl (Or.inl rfl))
      (C8.pss_cut (ps_set (i := 5) c_l_stairs.nd rfl (Or.inl rfl) (pe_tup (pa_cons (pe_op (add3 K) pe_int (pe_call (ok_l_take T (TL := TL)) (hr.mono (by decide)) rfl T.l_take.g T.l_take.k T.l_take.b .nil pass0 (pa_cons (pv 0) (pa_cons (pv 3) pa_nil)))) (pa_cons (pe_op (add3 K) pe_int (pe_call (ok_l_take T (TL := TL)) (hr.mono (by decide)) rfl T.l_take.g T.l_take.k T.l_take.b .nil pass0 (pa_cons (pv 0) (pa_cons (pv 3) pa_nil)))) pa_nil))))
      (C8.pss_cut (ps_if (pt_cmpR (eq3 K hr.units) (pe_call (ok_l_take T (TL := TL)) (hr.mono (by decide)) rfl T.l_take.g T.l_take.k T.l_take.b .nil pass0 (pa_cons (pv 0) (pa_cons pe_int pa_nil))) pe_int (nomark _))
      (pss_one (ps_set (i := 5) c_l_stairs.nd rfl (Or.inl rfl) (pe_ifExp (pt_cmpR (eq3 K hr.units) (pe_call (ok_l_take T (TL := TL)) (hr.mono (by decide)) rfl T.l_take.g T.l_take.k T.l_take.b .nil pass0 (pa_cons (pv 0) (pa_cons pe_int pa_nil))) pe_int (nomark _)) (pe_tup (pa_cons pe_non (pa_cons (pe_ix (ix3 K) (pv 5) pe_int (fun _ _ => rfl)) pa_nil))) (pe_tup (pa_cons (pe_ix (ix3 K) (pv 5) pe_int (fun _ _ => rfl)) (pa_cons pe_non pa_nil))))))
      pss_nil)
      (pss_one (ps_expr (bm3 K PySem.F.plainAttrs_list PySem.F.slot_list_append PySem.F.type_list_append mt_append (pv 2) (pa_cons (pv 5) pa_nil)))))))
      (pss_one (ps_ret (pe_ifExp (pt_cmpR (eq3 K hr.units) (pe_call (ok_l_take T (TL := TL)) (hr.mono (by decide)) rfl T.l_take.g T.l_take.k T.l_take.b .nil pass0 (pa_cons (pv 0) (pa_cons pe_int pa_nil))) pe_int (nomark _)) (pe_tup (pa_cons (pe_tup (pa_cons pe_non (pa_cons pe_non pa_nil))) pa_nil)) (pe_call (ok_l_staircase T (TL := TL) Y) (hr.mono (by decide)) rfl T.l_staircase.g T.l_staircase.k T.l_staircase.b .nil pass0 (pa_cons (pv 2) pa_nil)))))))
      , run3 (K := K) (C := T.C) (TL := TL) h fun us n q e hs => ?_⟩
    obtain ⟨m, rfl, hm, hn, hq⟩ := hs
    have hc := capD_eq
    simp [ro0, -V3.forL, -List.mem_cons]
    refine ⟨by omega, fun y hy => ?_⟩
    obtain ⟨w, rfl, w0, w1⟩ := pickW hy
    simp [-V3.forL]
    refine ⟨by omega, by omega, fun x x0 x1 => ⟨by omega, ?_⟩⟩
    rw [show upFrom 0 x.toNat = (List.range x.toNat).map (fun k : Nat => PyData.int (0 + (k : Nat))) from rfl]
    refine forL_mapW (fun k : Nat => PyData.int (0 + (k : Nat))) (fun done left ρ k => done ++ left = List.range x.toNat ∧ k ≤ n + 2 + 4 * done.length ∧ ∃ (cs : List Co) (z4 z5 : Sl), ρ = [.fz .dr, .fz (.d (.int (m : Nat))), .ow (cs.map cD), .fz (.d (.int w)), z4, z5] ∧ (∀ c ∈ cs, smC 100000 c) ∧ cs.length = done.length) (List.range x.toNat) [] _ _ ?_ ?_ ?_
    · rintro done ρ k ⟨hd, hk, cs, z4, z5, rfl, hs, hl⟩
      rw [List.append_nil] at hd
      have hdl : done.length = x.toNat := by rw [hd, List.length_range]
      simp
      refine ⟨by omega, by omega, fun y y0 y1 => ?_⟩
      by_cases hy : y = 0
      · rw [if_pos hy]
        exact hq [(none, none)] _ (List.pairwise_singleton _ _) (fun c hc => by
          rw [List.mem_singleton.mp hc]
          exact ⟨(fun j e => by cases e), fun j e => by cases e⟩) (by simp) (by omega)
      · rw [if_neg hy]
        exact ⟨cs, rfl, by omega, fun cs' h1 h2 h3 h4 => hq cs' _ h1 (fun c hc => hs c (h2 c.1 c.2 hc)) (by omega) (by omega)⟩
    · rintro done a left ρ k G hG ⟨hd, hk, cs, z4, z5, rfl, hs, hl⟩
      have hlen := congrArg List.length hd
      simp at hlen
      simp
      refine Exists.intro (fun (ρ : Ro) (j : Nat) => j = k + 2 ∧ ∃ c1 c2 : Int, ρ = [.fz .dr, .fz (.d (.int (m : Nat))), .ow (cs.map cD), .fz (.d (.int w)), .fz (.d (.int (a : Nat))), .fz (.d (pr c1 c2))] ∧ 1 ≤ c1 ∧ c1 ≤ 100000 ∧ 1 ≤ c2 ∧ c2 ≤ 100000) (And.intro ?_ ?_)
      · exact ⟨by omega, by omega, by omega, fun x x0 x1 => ⟨by omega, by omega, by omega, fun y y0 y1 => ⟨rfl, 1 + x, 1 + y, rfl, by omega, by omega, by omega, by omega⟩⟩⟩
      rintro ρ j ⟨rfl, c1, c2, rfl, p1, p2, p3, p4⟩
      simp
      refine Exists.intro (fun (ρ : Ro) (j : Nat) => j ≤ k + 4 ∧ ∃ c : Co, ρ = [.fz .dr, .fz (.d (.int (m : Nat))), .ow (cs.map cD), .fz (.d (.int w)), .fz (.d (.int (a : Nat))), .fz (.d (cD c))] ∧ smC 100000 c) (And.intro ?_ ?_)
      · refine ⟨by omega, by omega, fun x x0 x1 => ?_⟩
        by_cases e : x = 0
        · rw [if_pos e]
          refine ⟨by omega, by omega, fun y y0 y1 => ?_⟩
          by_cases e2 : y = 0
          · rw [if_pos e2]
            exact ⟨by omega, (none, some c2), rfl, (fun j e => by cases e), fun j e => by cases e; exact ⟨p3, p4⟩⟩
          · rw [if_neg e2]
            exact ⟨by omega, (some c1, none), rfl, (fun j e => by cases e; exact ⟨p1, p2⟩), fun j e => by cases e⟩
        · rw [if_neg e]
          exact ⟨by omega, (some c1, some c2), rfl, (fun j e => by cases e; exact ⟨p1, p2⟩), fun j e => by cases e; exact ⟨p3, p4⟩⟩
      rintro ρ j ⟨hj, c, rfl, hc⟩
      simp
      exact ⟨few (by omega), hG _ _ ⟨by rw [List.append_assoc]; exact hd, by simp; omega, cs ++ [c], _, _, by rw [List.map_append]; rfl, fun d hd => by
        rcases List.mem_append.mp hd with z | z
        · exact hs d z
        · rw [List.mem_singleton.mp z]
          exact hc, by simp; omega⟩⟩
    · exact ⟨rfl, by simp, [], _, _, rfl, (fun c h => by cases h), rfl⟩
end
end G21
set_option Elab.async false
set_option linter.all false
set_option maxRecDepth 100000
set_option maxHeartbeats 4000000
set_option synthInstance.maxSize 100000
set_option synthInstance.maxHeartbeats 0
namespace G21
open PySem PySem.Spec PyProof.Rows L2 V3
@[simp ↓] def sp_beside : VSp := fun us n q _ => ∃ cs : List Co, us = [.dr, .d (.list (cs.map cD))] ∧ cs.length ≤ 100 ∧ n + 200 ≤ topD ∧ ∀ (a b : Int) (n' : Nat), 1 ≤ a → 1 ≤ b → n' ≤ n + 30 → q (.d (pr a b)) n'
theorem eqv_cos0 (cs : List Co) : PyData.eqv (.list (cs.map cD)) (.list []) = decide (cs = []) := by
  cases cs <;> rfl
theorem pick5 {y : D} (h : y ∈ [PyData.int 0, .int 0, .int 1, .int 1, .int (-1)]) : ∃ z : Int, y = .int z := by
  simp only [List.mem_cons, List.not_mem_nil, or_false] at h
  rcases h with rfl | rfl | rfl | rfl | rfl <;> exact ⟨_, rfl⟩
section
variable {P : Program} {w : World} {K : PySem.W.Frag} {mg : Str → Option Value} {base : Heap} {TL : List (Addr × Str)}
theorem ok_l_beside (T : Txt K mg) : FnOk P w K mg base CX0 5 T.l_beside.a T.l_beside.d ["draw", "corners"] (toSp K T.C TL false sp_beside) := by
  refine T.l_beside.F.ok c_l_beside (fun vs H Q E h => toSp_len h fun us n q e hs => ?_) (fun cdv A outer s H vs Q E hr h => ?_)
  · (first | (obtain ⟨rfl, _⟩ := hs; rfl) | (obtain ⟨_, hs⟩ := hs; (first | (obtain ⟨rfl, _⟩ := hs; rfl) | (obtain ⟨_, hs⟩ := hs; (first | (obtain ⟨rfl, _⟩ := hs; rfl) | (obtain ⟨_, hs⟩ := hs; (first | (obtain ⟨rfl, _⟩ := hs; rfl) | (obtain ⟨_, hs⟩ := hs; (first | (obtain ⟨rfl, _⟩ := hs; rfl) | (obtain ⟨_, hs⟩ := hs; (first | (obtain ⟨rfl, _⟩ := hs; rfl) | (obtain ⟨_, hs⟩ := hs; (first | (obtain ⟨rfl, _⟩ := hs; rfl) | (obtain ⟨_, hs⟩ := hs; (first | (obtain ⟨rfl, _⟩ := hs; rfl) | (obtain ⟨_, hs⟩ := hs; (first | (obtain ⟨rfl, _⟩ := hs; rfl) | (obtain ⟨_, hs⟩ := hs; (first | (obtain ⟨rfl, _⟩ := hs; rfl) | (obtain ⟨_, hs⟩ := hs; (first | (obtain ⟨rfl, _⟩ := hs; rfl) | (obtain ⟨_, hs⟩ := hs; (first | (obtain ⟨rfl, _⟩ := hs; rfl) | (obtain ⟨_, hs⟩ := hs; (first | (obtain ⟨rfl, _⟩ := hs; rfl) | (obtain ⟨_, hs⟩ := hs; (first | (obtain ⟨rfl, _⟩ := hs; rfl) | (obtain ⟨_, hs⟩ := hs; (first | (obtain ⟨rfl, _⟩ := hs; rfl) | (obtain ⟨_, hs⟩ := hs; (first | (obtain ⟨rfl, _⟩ := hs; rfl) | (obtain ⟨_, hs⟩ := hs; (obtain ⟨rfl, _⟩ := hs; rfl)))))))))))))))))))))))))))))))))
  · refine ⟨_,
      (C8.pss_cut (ps_if (PW.pt (pw_or (pt_cmpR (eq3 K hr.units) (pv 1) (pe_lst pa_nil) (nomark _)) (pw_or1 (pt_cmpR (eq3 K hr.units) (pe_call (ok_l_take T (TL := TL)) (hr.mono (by decide)) rfl T.l_take.g T.l_take.k T.l_take.b .nil pass0 (pa_cons (pv 0) (pa_cons pe_int pa_nil))) pe_int (nomark _)))))
      (pss_one (ps_ret (pe_tup (pa_cons (pe_call (ok_l_size T (TL := TL)) (hr.mono (by decide)) rfl T.l_size.g T.l_size.k T.l_size.b .nil pass0 (pa_cons (pv 0) pa_nil)) (pa_cons (pe_call (ok_l_size T (TL := TL)) (hr.mono (by decide)) rfl T.l_size.g T.l_size.k T.l_size.b .nil pass0 (pa_cons (pv 0) pa_nil)) pa_nil)))))
      pss_nil)
      (C8.pss_cut (ps_par (i := 2) (j := 3) rfl c_l_beside.nd rfl rfl (by decide) rfl rfl (pa_cons (pe_ix (ix3 K) (pe_call (ok_l_pick T (TL := TL)) (hr.mono (by decide)) rfl T.l_pick.g T.l_pick.k T.l_pick.b .nil pass0 (pa_cons (pv 0) (pa_cons (pv 1) pa_nil))) pe_int (fun _ _ => rfl)) (pa_cons (pe_ix (ix3 K) (pe_call (ok_l_pick T (TL := TL)) (hr.mono (by decide)) rfl T.l_pick.g T.l_pick.k T.l_pick.b .nil pass0 (pa_cons (pv 0) (pa_cons (pv 1) pa_nil))) pe_int (fun _ _ => rfl)) pa_nil)) (by with_unfolding_all rfl))
      (C8.pss_cut (ps_if (pt_cmpR (eq3 K hr.units) (pe_call (ok_l_take T (TL := TL)) (hr.mono (by decide)) rfl T.l_take.g T.l_take.k T.l_take.b .nil pass0 (pa_cons (pv 0) (pa_cons pe_int pa_nil))) pe_int (nomark _))
      (pss_one (ps_asg (pe_call (ok_l_pick T (TL := TL)) (hr.mono (by decide)) rfl T.l_pick.g T.l_pick.k T.l_pick.b .nil pass0 (pa_cons (pv 0) (pa_cons (pv 1) pa_nil))) (tupG3 K (n := 2) rfl (pgs_cons (pg_name (i := 2) c_l_beside.nd rfl (Or.inl rfl) (hf := Or.inr rfl)) (pgs_cons (pg_name (i := 3) c_l_beside.nd rfl (Or.inl rfl) (hf := Or.inr rfl)) pgs_nil)))))
      pss_nil)
      (C8.pss_cut (ps_set (i := 2) c_l_beside.nd rfl (Or.inl rfl) (pe_ifExp (pt_cmpR op_isN3 (pv 2) pe_non (nomark _)) (pe_call (ok_l_size T (TL := TL)) (hr.mono (by decide)) rfl T.l_size.g T.l_size.k T.l_size.b .nil pass0 (pa_cons (pv 0) pa_nil)) (pe_op (add3 K) (pv 2) (pe_call (ok_l_pick T (TL := TL)) (hr.mono (by decide)) rfl T.l_pick.g T.l_pick.k T.l_pick.b .nil pass0 (pa_cons (pv 0) (pa_cons (pe_lst (pa_cons pe_int (pa_cons pe_int (pa_cons pe_int (pa_cons pe_int (pa_cons (pe_un un_neg pe_int) pa_nil)))))) pa_nil))))))
      (C8.pss_cut (ps_set (i := 3) c_l_beside.nd rfl (Or.inl rfl) (pe_ifExp (pt_cmpR op_isN3 (pv 3) pe_non (nomark _)) (pe_call (ok_l_size T (TL := TL)) (hr.mono (by decide)) rfl T.l_size.g T.l_size.k T.l_size.b .nil pass0 (pa_cons (pv 0) pa_nil)) (pe_op (add3 K) (pv 3) (pe_call (ok_l_pick T (TL := TL)) (hr.mono (by decide)) rfl T.l_pick.g T.l_pick.k T.l_pick.b .nil pass0 (pa_cons (pv 0) (pa_cons (pe_lst (pa_cons pe_int (pa_cons pe_int (pa_cons pe_int (pa_cons pe_int (pa_cons (pe_un un_neg pe_int) pa_nil)))))) pa_nil))))))
      (pss_one (ps_ret (pe_tup (pa_cons (pe_callB (max3 K rfl (hu_of hr)) (by rfl) T.z_max (by decide +kernel) (pa_cons pe_int (pa_cons (pv 2) pa_nil))) (pa_cons (pe_callB (max3 K rfl (hu_of hr)) (by rfl) T.z_max (by decide +kernel) (pa_cons pe_int (pa_cons (pv 3) pa_nil))) pa_nil))))))))))
      , run3 (K := K) (C := T.C) (TL := TL) h fun us n q e hs => ?_⟩
    obtain ⟨cs, rfl, hl, hn, hq⟩ := hs
    have hc := capD_eq
    simp [ro0, -List.mem_cons]
    refine Exists.intro (fun (ρ : Ro) (k : Nat) => k = n + 1 ∧ cs ≠ [] ∧ ρ = [.fz .dr, .fz (.d (.list (cs.map cD))), .no, .no]) (And.intro ?_ ?_)
    · refine ⟨shaped_cos cs, rfl, ?_⟩
      rw [eqv_cos0]
      by_cases e : cs = []
      · have ed : decide (cs = []) = true := decide_eq_true e
        simp only [ed, if_true]
        exact ⟨by omega, fun k k1 k2 => ⟨by omega, fun k' k3 k4 => hq _ _ _ k1 k3 (by omega)⟩⟩
      · have ed : decide (cs = []) = false := decide_eq_false e
        simp only [ed, Bool.false_eq_true, if_false]
        refine ⟨by omega, by omega, fun x x0 x1 => ?_⟩
        by_cases ex : x = 0
        · rw [if_pos ex]
          exact ⟨by omega, fun k k1 k2 => ⟨by omega, fun k' k3 k4 => hq _ _ _ k1 k3 (by omega)⟩⟩
        · rw [if_neg ex]
          simp [e]
    rintro ρ k ⟨rfl, ne, rfl⟩
    simp
    refine Exists.intro (fun (ρ : Ro) (k : Nat) => k = n + 3 ∧ ∃ a b : Option Int, ρ = [.fz .dr, .fz (.d (.list (cs.map cD))), .fz (.d (oD a)), .fz (.d (oD b))]) (And.intro ?_ ?_)
    · refine ⟨by omega, ne, by omega, fun y a b m e => ?_⟩
      subst e
      simp
      refine ⟨by omega, ne, by omega, fun y c d m2 e2 => ?_⟩
      subst e2
      simp
      exact ⟨by cases d <;> rfl, ⟨a, rfl⟩, ⟨d, rfl⟩⟩
    rintro ρ k ⟨rfl, a, b, rfl⟩
    simp
    refine Exists.intro (fun (ρ : Ro) (k : Nat) => k ≤ n + 5 ∧ ∃ a b : Option Int, ρ = [.fz .dr, .fz (.d (.list (cs.map cD))), .fz (.d (oD a)), .fz (.d (oD b))]) (And.intro ?_ ?_)
    · refine ⟨by omega, by omega, fun x x0 x1 => ?_⟩
      by_cases ex : x = 0
      · rw [if_pos ex]
        exact ⟨by omega, ne, by omega, fun y c d m e => ⟨_, e.symm, rfl, by omega, c, d, rfl⟩⟩
      · rw [if_neg ex]
        exact ⟨by omega, a, b, rfl⟩
    rintro ρ k ⟨hk, a, b, rfl⟩
    simp [-List.mem_cons]
    refine Exists.intro (fun (ρ : Ro) (j : Nat) => j ≤ k + 5 ∧ ∃ a : Int, ρ = [.fz .dr, .fz (.d (.list (cs.map cD))), .fz (.d (.int a)), .fz (.d (oD b))]) (And.intro ?_ ?_)
    · cases a with
      | none =>
        simp
        omega
      | some v =>
        simp [-List.mem_cons]
        refine ⟨by omega, fun y hy => ?_⟩
        obtain ⟨z, rfl⟩ := pick5 hy
        simp
    rintro ρ j ⟨hj, a, rfl⟩
    simp [-List.mem_cons]
    refine Exists.intro (fun (ρ : Ro) (i : Nat) => i ≤ j + 5 ∧ ∃ b : Int, ρ = [.fz .dr, .fz (.d (.list (cs.map cD))), .fz (.d (.int a)), .fz (.d (.int b))]) (And.intro ?_ ?_)
    · cases b with
      | none =>
        simp
        omega
      | some v =>
        simp [-List.mem_cons]
        refine ⟨by omega, fun y hy => ?_⟩
        obtain ⟨z, rfl⟩ := pick5 hy
        simp
    rintro ρ i ⟨hi, b, rfl⟩
    simp
    exact hq _ _ _ (by omega) (by omega) (by omega)
end
end G21
set_option Elab.async false
set_option linter.all false
set_option maxRecDepth 100000
set_option maxHeartbeats 4000000
set_option synthInstance.maxSize 100000
set_option synthInstance.maxHeartbeats 0
namespace G21
open PySem PySem.Spec PyProof.Rows L2 V3
theorem lx_irr {p : Int × Int} : ¬ lxB p p := fun h => by
  unfold lxB at h
  omega
theorem lx_asym {p q : Int × Int} (h : lxB p q) : ¬ lxB q p := fun g => by
  unfold lxB at h g
  omega
theorem lx_tri (p q : Int × Int) : lxB p q ∨ p = q ∨ lxB q p := by
  unfold lxB
  by_cases a : p.1 = q.1
  · by_cases b : p.2 = q.2
    · exact .inr (.inl (Prod.ext a b))
    · omega
  · omega
theorem lx_list : ∀ {L M : List (Int × Int)}, L.Pairwise lxB → M.Pairwise lxB → (∀ p, p ∈ L ↔ p ∈ M) → L = M
  | [], [], _, _, _ => rfl
  | [], b :: M, _, _, h => absurd ((h b).mpr List.mem_cons_self) (by simp)
  | a :: L, [], _, _, h => absurd ((h a).mp List.mem_cons_self) (by simp)
  | a :: L, b :: M, hL, hM, h => by
    obtain ⟨l1, l2⟩ := List.pairwise_cons.mp hL
    obtain ⟨m1, m2⟩ := List.pairwise_cons.mp hM
    have e : a = b := by
      rcases List.mem_cons.mp ((h a).mp List.mem_cons_self) with q | q
      · exact q
      · rcases List.mem_cons.mp ((h b).mpr List.mem_cons_self) with z | z
        · exact z.symm
        · exact absurd (m1 a q) (lx_asym (l1 b z))
    subst e
    rw [lx_list l2 m2 fun p => ⟨fun m => ?_, fun m => ?_⟩]
    · rcases List.mem_cons.mp ((h p).mp (List.mem_cons_of_mem _ m)) with q | q
      · rw [q] at m
        exact absurd (l1 a m) lx_irr
      · exact q
    · rcases List.mem_cons.mp ((h p).mpr (List.mem_cons_of_mem _ m)) with q | q
      · rw [q] at m
        exact absurd (m1 a m) lx_irr
      · exact q
theorem min_uniq {cs : List Co} {s : Int × Int} {L M : List (Int × Int)} (h : minL cs s L) (g : minL cs s M) : L = M :=
  lx_list h.1 g.1 fun p => (h.2 p).trans (g.2 p).symm
theorem fst_uniq {f g : Fm} {r t : Option (Int × Int)} (h : fstP f g r) (k : fstP f g t) : r = t := by
  cases r with
  | none =>
    cases t with
    | none => rfl
    | some p =>
      have := h p k.1 k.2.1
      rw [k.2.2.1] at this
      cases this
  | some p =>
    cases t with
    | none =>
      have := k p h.1 h.2.1
      rw [h.2.2.1] at this
      cases this
    | some q =>
      rcases lx_tri p q with z | z | z
      · have := k.2.2.2 p h.1 h.2.1 z
        rw [h.2.2.1] at this
        cases this
      · rw [z]
      · have := h.2.2.2 q k.1 k.2.1 z
        rw [k.2.2.1] at this
        cases this
theorem bod_mem {m : Nat} {p : Int × Int} : p ∈ bodL m ↔ (1 ≤ p.1 ∧ p.1 ≤ m) ∧ 1 ≤ p.2 ∧ p.2 ≤ m := by
  unfold bodL rowL
  simp only [List.mem_flatMap, List.mem_map, List.mem_range]
  constructor
  · rintro ⟨a, ha, b, hb, rfl⟩
    dsimp only
    omega
  · rintro ⟨⟨h1, h2⟩, h3, h4⟩
    refine ⟨(p.1 - 1).toNat, by omega, (p.2 - 1).toNat, by omega, Prod.ext ?_ ?_⟩
    · show 1 + (((p.1 - 1).toNat : Nat) : Int) = p.1
      omega
    · show 1 + (((p.2 - 1).toNat : Nat) : Int) = p.2
      omega
theorem row_pw (m : Nat) : ∀ as : List Nat, as.Pairwise (· < ·) → (rowL m as).Pairwise lxB
  | [], _ => List.Pairwise.nil
  | a :: as, h => by
    obtain ⟨h1, h2⟩ := List.pairwise_cons.mp h
    show ((List.range m).map (fun b : Nat => (1 + ((a : Nat) : Int), 1 + ((b : Nat) : Int))) ++ rowL m as).Pairwise lxB
    refine List.pairwise_append.mpr ⟨List.pairwise_map.mpr (List.pairwise_lt_range.imp fun l => .inr ⟨rfl, by dsimp only; omega⟩), row_pw m as h2, fun x hx y hy => .inl ?_⟩
    obtain ⟨b, _, rfl⟩ := List.mem_map.mp hx
    unfold rowL at hy
    simp only [List.mem_flatMap, List.mem_map] at hy
    obtain ⟨c, hc, d, _, rfl⟩ := hy
    have := h1 c hc
    dsimp only
    omega
theorem bod_pw (m : Nat) : (bodL m).Pairwise lxB := row_pw m _ List.pairwise_lt_range
/-- the first of many bodies that parts, where none needs to be beyond them -/
theorem fst_bod {f g : Fm} {m : Nat} (h : ∀ p : Int × Int, 1 ≤ p.1 → 1 ≤ p.2 → prtB f g p = true → ∃ q : Int × Int, (1 ≤ q.1 ∧ q.1 ≤ p.1 ∧ q.1 ≤ m) ∧ (1 ≤ q.2 ∧ q.2 ≤ p.2 ∧ q.2 ≤ m) ∧ prtB f g q = true) : fstP f g ((bodL m).filter fun p => prtB f g p).head? := by
  have pw := List.Pairwise.filter (fun p => prtB f g p) (bod_pw m)
  have mem : ∀ p, p ∈ (bodL m).filter (fun p => prtB f g p) ↔ p ∈ bodL m ∧ prtB f g p = true := fun p => List.mem_filter
  cases e : (bodL m).filter (fun p => prtB f g p) with
  | nil =>
    refine fun p h1 h2 => ?_
    cases hp : prtB f g p with
    | false => rfl
    | true =>
      obtain ⟨q, ⟨a1, a2, a3⟩, ⟨b1, b2, b3⟩, c⟩ := h p h1 h2 hp
      have := (mem q).mpr ⟨bod_mem.mpr ⟨⟨a1, a3⟩, b1, b3⟩, c⟩
      rw [e] at this
      cases this
  | cons x xs =>
    have hx := (mem x).mp (by rw [e]; exact List.mem_cons_self)
    obtain ⟨⟨x1, x2⟩, x3, x4⟩ := bod_mem.mp hx.1
    refine ⟨x1, x3, hx.2, fun p h1 h2 lx => ?_⟩
    cases hp : prtB f g p with
    | false => rfl
    | true =>
      obtain ⟨q, ⟨a1, a2, a3⟩, ⟨b1, b2, b3⟩, c⟩ := h p h1 h2 hp
      have hq := (mem q).mpr ⟨bod_mem.mpr ⟨⟨a1, a3⟩, b1, b3⟩, c⟩
      rw [e] at hq pw
      rcases List.mem_cons.mp hq with z | z
      · subst z
        unfold lxB at lx
        omega
      · have := (List.pairwise_cons.mp pw).1 q z
        unfold lxB at this lx
        omega
end G21
set_option Elab.async false
set_option linter.all false
set_option maxRecDepth 100000
set_option maxHeartbeats 4000000
set_option synthInstance.maxSize 100000
set_option synthInstance.maxHeartbeats 0
namespace G21
open PySem PySem.Spec PyProof.Rows L2 V3
def insS (x : Int) : List Int → List Int
  | [] => [x]
  | y :: ys => if x < y then x :: y :: ys else if x = y then y :: ys else y :: insS x ys
theorem ins_mem (x j : Int) : ∀ ys : List Int, j ∈ insS x ys ↔ j = x ∨ j ∈ ys
  | [] => by simp [insS]
  | y :: ys => by
    have ih := ins_mem x j ys
    unfold insS
    split
    · simp
    · split
      · rename_i h
        subst h
        simp
      · rw [List.mem_cons, ih, List.mem_cons]
        constructor
        · rintro (h | h | h)
          · exact .inr (.inl h)
          · exact .inl h
          · exact .inr (.inr h)
        · rintro (h | h | h)
          · exact .inr (.inl h)
          · exact .inl h
          · exact .inr (.inr h)
theorem ins_pw (x : Int) : ∀ ys : List Int, ys.Pairwise (· < ·) → (insS x ys).Pairwise (· < ·)
  | [], _ => by simp [insS]
  | y :: ys, h => by
    obtain ⟨h1, h2⟩ := List.pairwise_cons.mp h
    unfold insS
    split
    · rename_i c
      refine List.pairwise_cons.mpr ⟨fun z hz => ?_, h⟩
      rcases List.mem_cons.mp hz with e | m
      · omega
      · have := h1 z m
        omega
    · split
      · exact h
      · refine List.pairwise_cons.mpr ⟨fun z hz => ?_, ins_pw x ys h2⟩
        rcases (ins_mem x z ys).mp hz with e | m
        · omega
        · exact h1 z m
theorem ins_len (x : Int) : ∀ ys : List Int, (insS x ys).length ≤ ys.length + 1
  | [] => by simp [insS]
  | y :: ys => by
    have := ins_len x ys
    unfold insS
    split
    · simp
    · split
      · simp
      · simp
        omega
theorem sort_ex : ∀ L : List Int, ∃ ns : List Int, ns.Pairwise (· < ·) ∧ (∀ j, j ∈ ns ↔ j ∈ L) ∧ ns.length ≤ L.length
  | [] => ⟨[], .nil, by simp, by simp⟩
  | x :: L => by
    obtain ⟨ns, h1, h2, h3⟩ := sort_ex L
    refine ⟨insS x ns, ins_pw x ns h1, fun j => ?_, ?_⟩
    · rw [ins_mem, h2, List.mem_cons]
    · have := ins_len x ns
      simp
      omega

theorem tel_ex (f g : Fm) (i : Int) : ∃ ns, isTel f g i ns := by
  obtain ⟨ns, h1, h2, _⟩ := sort_ex (((telS f g i).flatMap fun s => [s - 1, s, s + 1]).filter fun j => decide (1 ≤ j))
  refine ⟨ns, h1, fun j => (h2 j).trans ?_⟩
  rw [List.mem_filter, decide_eq_true_eq]
  simp only [List.mem_flatMap, List.mem_cons, List.not_mem_nil, or_false]
  exact ⟨fun ⟨h, l⟩ => ⟨l, h⟩, fun ⟨l, h⟩ => ⟨h, l⟩⟩
theorem plain_sm {o : Option Int} {l b : Int} (hl : 1 ≤ l ∧ l ≤ 6) (hb : -5 ≤ b ∧ b ≤ 5) (h : ∀ k, o = some k → 1 ≤ k) : -5 ≤ plainB o l b ∧ plainB o l b ≤ 5 := by
  cases o with
  | none => exact hb
  | some k =>
    have := h k rfl
    show -5 ≤ max l (k + b) - k ∧ max l (k + b) - k ≤ 5
    omega
theorem nrm_sm {f : Fm} (h : smR f) (i : Int) : (1 ≤ axI i (nrm f).l ∧ axI i (nrm f).l ≤ 6) ∧ -5 ≤ axI i (nrm f).b ∧ axI i (nrm f).b ≤ 5 := by
  obtain ⟨h1, h2, h3, h4, h5, h6, h7, h8⟩ := h
  have e1 : (nrm f).l = nLw f.cs f.l f.b := rfl
  have e2 : (nrm f).b = nBy f.cs f.l f.b := rfl
  constructor
  · rw [e1]
    unfold nLw axI
    split <;> split <;> dsimp only <;> omega
  · rw [e2]
    unfold nBy
    split
    · rename_i c d ec ed
      have pc := h2 c (List.mem_of_head? ec)
      have pd := h2 d (List.mem_of_getLast? ed)
      unfold axI
      split
      · exact plain_sm h4 h6 fun k e => (pd.1 k e).1
      · exact plain_sm h5 ⟨h7, h8⟩ fun k e => (pc.2 k e).1
    · unfold axI
      split <;> decide
theorem tel_sm {f g : Fm} (hf : smR f) (hg : smR g) (i : Int) : ∀ s ∈ telS (nrm f) (nrm g) i, s ≤ 19 := fun s m => by
  obtain ⟨a1, a2⟩ := nrm_sm hf i
  obtain ⟨b1, b2⟩ := nrm_sm hg i
  unfold telS at m
  rcases List.mem_append.mp m with q | q
  · rcases List.mem_cons.mp q with rfl | q
    · decide
    · obtain ⟨c, hc, rfl⟩ := List.mem_map.mp q
      obtain ⟨hc, hs⟩ := List.mem_filter.mp hc
      have sm : smC 8 c := by
        rcases List.mem_append.mp hc with z | z
        · exact hf.2.1 c z
        · exact hg.2.1 c z
      cases e : coI i c with
      | none =>
        rw [e] at hs
        cases hs
      | some k =>
        have hk : k ≤ 8 := by
          unfold coI at e
          split at e
          · exact (sm.1 k e).2
          · exact (sm.2 k e).2
        show k + 1 ≤ 19
        omega
  · simp only [List.mem_cons, List.not_mem_nil, or_false] at q
    rcases q with rfl | rfl | rfl | rfl <;> omega
/-- the first body that parts small forms stands among the first twenty sizes -/
theorem fst_small {f g : Fm} (hf : smR f) (hg : smR g) : fstP (nrm f) (nrm g) ((bodL 20).filter fun p => prtB (nrm f) (nrm g) p).head? := by
  refine fst_bod fun p h1 h2 hp => ?_
  obtain ⟨ws, hw⟩ := tel_ex (nrm f) (nrm g) 0
  obtain ⟨hs, hh⟩ := tel_ex (nrm f) (nrm g) 1
  obtain ⟨w, w1, w2, w3, w4⟩ := prt_gap0 hw h1 (b := p.2) hp
  obtain ⟨v, v1, v2, v3, v4⟩ := prt_gap1 hh h2 w4
  obtain ⟨_, s, ms, es⟩ := (hw.2 w).mp w1
  obtain ⟨_, t, mt, et⟩ := (hh.2 v).mp v1
  have := tel_sm hf hg 0 s ms
  have := tel_sm hf hg 1 t mt
  exact ⟨(w, v), ⟨w2, w3, by show w ≤ 20; omega⟩, ⟨v2, v3, by show v ≤ 20; omega⟩, v4⟩
end G21
set_option Elab.async false
set_option linter.all false
set_option maxRecDepth 100000
set_option maxHeartbeats 4000000
set_option synthInstance.maxSize 100000
set_option synthInstance.maxHeartbeats 0
namespace G21
open PySem PySem.Spec PyProof.Rows L2 V3
@[simp ↓] def sp_lnotches : VSp := fun us n q _ => ∃ (cs : List Co), us = [.d (.tuple (cs.map cD))] ∧ cs.length ≤ 300 ∧ Can cs ∧ q (.d (.list ((notP cs).map pD))) n
def gapN (p : Co × Co) : Int × Int := (p.1.1.getD 0 + 1, p.2.2.getD 0 + 1)
def firN : Option Int → List (Int × Int)
  | some k => [(1, k + 1)]
  | none => []
def lasN : Option Int → List (Int × Int)
  | some k => [(k + 1, 1)]
  | none => []
theorem pw_zip {α : Type} {R : α → α → Prop} : ∀ {xs : List α}, xs.Pairwise R → ∀ p ∈ xs.zip xs.tail, R p.1 p.2
  | [], _, p, h => by cases h
  | [_], _, p, h => by cases h
  | a :: b :: xs, h, p, hp => by
    obtain ⟨h1, h2⟩ := List.pairwise_cons.mp h
    rcases List.mem_cons.mp hp with rfl | hp
    · exact h1 b List.mem_cons_self
    · exact pw_zip h2 p hp
theorem lt_some {x y : Option Int} (h : ltO x y) : ∃ j, x = some j := by
  cases x with
  | none => cases h
  | some j => exact ⟨j, rfl⟩
theorem mid_some {cs : List Co} (h : Can cs) : ∀ p ∈ cs.zip cs.tail, ∃ a b : Int, p.1.1 = some a ∧ p.2.2 = some b := fun p hp => by
  obtain ⟨h1, h2⟩ := pw_zip h p hp
  obtain ⟨a, ha⟩ := lt_some h1
  obtain ⟨b, hb⟩ := lt_some h2
  exact ⟨a, b, ha, hb⟩
theorem not_walk : ∀ (c : Co) (cs : List Co) (l : Co), (∀ p ∈ (c :: cs).zip cs, ∃ a b : Int, p.1.1 = some a ∧ p.2.2 = some b) → (c :: cs).getLast? = some l →
    ((gapsO c.1 cs).filter bothS).map (fun p => (p.1.getD 0 + 1, p.2.getD 0 + 1)) = ((c :: cs).zip cs).map gapN ++ lasN l.1
  | c, [], l, _, e => by
    cases e
    show List.map _ (List.filter bothS [(c.1, some 0)]) = lasN c.1
    cases c.1 <;> rfl
  | c, d :: ds, l, h, e => by
    obtain ⟨a, b, ea, eb⟩ := h (c, d) List.mem_cons_self
    dsimp only at ea eb
    have ih := not_walk d ds l (fun p hp => h p (List.mem_cons_of_mem _ hp)) (by rw [List.getLast?_cons_cons] at e; exact e)
    show List.map _ (List.filter bothS ((c.1, d.2) :: gapsO d.1 ds)) = gapN (c, d) :: (((d :: ds).zip ds).map gapN ++ lasN l.1)
    rw [List.filter_cons_of_pos (by rw [ea, eb]; rfl), List.map_cons, ih]
    rfl
theorem not_split {c l : Co} {cs : List Co} (h : Can (c :: cs)) (e : (c :: cs).getLast? = some l) : notP (c :: cs) = firN c.2 ++ ((c :: cs).zip cs).map gapN ++ lasN l.1 := by
  have w := not_walk c cs l (mid_some h) e
  have s : notP (c :: cs) = firN c.2 ++ ((gapsO c.1 cs).filter bothS).map (fun p => (p.1.getD 0 + 1, p.2.getD 0 + 1)) := by
    show List.map _ (List.filter bothS ((some 0, c.2) :: gapsO c.1 cs)) = _
    cases c.2 <;> rfl
  rw [s, w, List.append_assoc]
theorem cut_1 (x : D) (xs : List D) : V3.cutD (x :: xs) (some 1) none = xs := by
  simp [V3.cutD, HT.sIx]
theorem zip_cs (cs ds : List Co) : zipD (cs.map cD) (ds.map cD) = (cs.zip ds).map fun p => PyData.tuple [cD p.1, cD p.2] := by
  induction cs generalizing ds with
  | nil => rfl
  | cons c cs ih =>
    cases ds with
    | nil => rfl
    | cons d ds =>
      show _ :: zipD _ _ = _
      rw [ih]
      rfl
section
variable {P : Program} {w : World} {K : PySem.W.Frag} {mg : Str → Option Value} {base : Heap} {TL : List (Addr × Str)}
theorem ok_l_notches (T : Txt K mg) : FnOk P w K mg base CX0 1 T.l_notches.a T.l_notches.d ["stairs"] (toSp K T.C TL false sp_lnotches) := by
  refine T.l_notches.F.ok c_l_notches (fun vs H Q E h => toSp_len h fun us n q e hs => ?_) (fun cdv A outer s H vs Q E hr h => ?_)
  · (first | (obtain ⟨rfl, _⟩ := hs; rfl) | (obtain ⟨_, hs⟩ := hs; (first | (obtain ⟨rfl, _⟩ := hs; rfl) | (obtain ⟨_, hs⟩ := hs; (first | (obtain ⟨rfl, _⟩ := hs; rfl) | (obtain ⟨_, hs⟩ := hs; (first | (obtain ⟨rfl, _⟩ := hs; rfl) | (obtain ⟨_, hs⟩ := hs; (first | (obtain ⟨rfl, _⟩ := hs; rfl) | (obtain ⟨_, hs⟩ := hs; (first | (obtain ⟨rfl, _⟩ := hs; rfl) | (obtain ⟨_, hs⟩ := hs; (first | (obtain ⟨rfl, _⟩ := hs; rfl) | (obtain ⟨_, hs⟩ := hs; (first | (obtain ⟨rfl, _⟩ := hs; rfl) | (obtain ⟨_, hs⟩ := hs; (first | (obtain ⟨rfl, _⟩ := hs; rfl) | (obtain ⟨_, hs⟩ := hs; (first | (obtain ⟨rfl, _⟩ := hs; rfl) | (obtain ⟨_, hs⟩ := hs; (first | (obtain ⟨rfl, _⟩ := hs; rfl) | (obtain ⟨_, hs⟩ := hs; (first | (obtain ⟨rfl, _⟩ := hs; rfl) | (obtain ⟨_, hs⟩ := hs; (first | (obtain ⟨rfl, _⟩ := hs; rfl) | (obtain ⟨_, hs⟩ := hs; (first | (obtain ⟨rfl, _⟩ := hs; rfl) | (obtain ⟨_, hs⟩ := hs; (first | (obtain ⟨rfl, _⟩ := hs; rfl) | (obtain ⟨_, hs⟩ := hs; (first | (obtain ⟨rfl, _⟩ := hs; rfl) | (obtain ⟨_, hs⟩ := hs; (obtain ⟨rfl, _⟩ := hs; rfl)))))))))))))))))))))))))))))))))
  · refine ⟨_,
      (pss_cons (ps_if (pt_cmpR (eq3 K hr.units) (pv 0) (pe_tup pa_nil) (nomark _))
      (pss_one (ps_ret (pe_lst (pa_cons (pe_tup (pa_cons pe_int (pa_cons pe_int pa_nil))) pa_nil))))
      pss_nil)
      (C8.pss_cut (ps_set (i := 1) c_l_notches.nd rfl (Or.inl rfl) (pe_ifExp (pt_cmpR op_notN3 (pe_ix (ix3 K) (pe_ix (ix3 K) (pv 0) pe_int (fun _ _ => rfl)) pe_int (fun _ _ => rfl)) pe_non (nomark _)) (pe_lst (pa_cons (pe_tup (pa_cons pe_int (pa_cons (pe_op (add3 K) (pe_ix (ix3 K) (pe_ix (ix3 K) (pv 0) pe_int (fun _ _ => rfl)) pe_int (fun _ _ => rfl)) pe_int) pa_nil))) pa_nil)) (pe_lst pa_nil)))
      (pss_cons (ps_for PassesOwn.never rfl (zip3 K (by rfl) T.z_zip (pa_cons (pv 0) (pa_cons (pe_slice (sl3 K) (pv 0) (po_some pe_int) po_none) pa_nil))) (tupG3 K (n := 2) rfl (pgs_cons (pg_name (i := 2) c_l_notches.nd rfl (Or.inl rfl) (hf := Or.inr rfl)) (pgs_cons (pg_name (i := 3) c_l_notches.nd rfl (Or.inl rfl) (hf := Or.inr rfl)) pgs_nil)))
      (pss_one (ps_expr (bm3 K PySem.F.plainAttrs_list PySem.F.slot_list_append PySem.F.type_list_append mt_append (pv 1) (pa_cons (pe_tup (pa_cons (pe_op (add3 K) (pe_ix (ix3 K) (pv 2) pe_int (fun _ _ => rfl)) pe_int) (pa_cons (pe_op (add3 K) (pe_ix (ix3 K) (pv 3) pe_int (fun _ _ => rfl)) pe_int) pa_nil))) pa_nil)))))
      (pss_one (ps_ret (pe_op (add3 K) (pv 1) (pe_ifExp (pt_cmpR op_notN3 (pe_ix (ix3 K) (pe_ix (ix3 K) (pv 0) (pe_un un_neg pe_int) (fun _ _ => rfl)) pe_int (fun _ _ => rfl)) pe_non (nomark _)) (pe_lst (pa_cons (pe_tup (pa_cons (pe_op (add3 K) (pe_ix (ix3 K) (pe_ix (ix3 K) (pv 0) (pe_un un_neg pe_int) (fun _ _ => rfl)) pe_int (fun _ _ => rfl)) pe_int) (pa_cons pe_int pa_nil))) pa_nil)) (pe_lst pa_nil))))))))
      , run3 (K := K) (C := T.C) (TL := TL) h fun us n q e hs => ?_⟩
    obtain ⟨cs, rfl, hl, hcan, hq⟩ := hs
    cases cs with
    | nil =>
      simp [ro0, -V3.forL]
      refine ⟨by rfl, ?_⟩
      have e : PyData.eqv (.tuple []) (.tuple []) = true := by rfl
      exact ⟨e, hq⟩
    | cons c cs =>
      have e : PyData.eqv (.tuple ((c :: cs).map cD)) (.tuple []) = false := by rfl
      obtain ⟨l, hlast⟩ : ∃ l, (c :: cs).getLast? = some l := ⟨_, List.getLast?_eq_some_getLast (by simp)⟩
      rw [not_split hcan hlast] at hq
      have hmid := mid_some hcan
      simp [ro0, -V3.forL]
      refine ⟨shaped_cT (c :: cs), by rfl, ?_⟩
      rw [show (PyData.tuple (PyData.tuple [oD c.fst, oD c.snd] :: List.map cD cs)).eqv (PyData.tuple []) = false from e]
      simp [-V3.forL]
      refine Exists.intro (fun ρ m => m = n ∧ ρ = [.fz (.d (.tuple (cD c :: cs.map cD))), .ow ((firN c.2).map pD), .no, .no]) (And.intro ?_ ?_)
      · cases c.2 <;> simp [firN]
      · rintro ρ m ⟨rfl, rfl⟩
        simp [-V3.forL]
        have ez : zipD (cD c :: cs.map cD) (V3.cutD (cD c :: cs.map cD) (some 1) none) = ((c :: cs).zip cs).map fun p => PyData.tuple [cD p.1, cD p.2] := by
          rw [cut_1]
          exact zip_cs (c :: cs) cs
        rw [ez]
        refine forL_mapW (fun p : Co × Co => PyData.tuple [cD p.1, cD p.2]) (fun done left ρ k => k = m ∧ done ++ left = (c :: cs).zip cs ∧ ∃ (z2 z3 : Sl), ρ = [.fz (.d (.tuple (cD c :: cs.map cD))), .ow ((firN c.2 ++ done.map gapN).map pD), z2, z3]) _ [] _ _ ?_ ?_ ?_
        · rintro done ρ k ⟨rfl, hd, z2, z3, rfl⟩
          rw [List.append_nil] at hd
          subst hd
          have hz : ∀ k : Nat, k ≤ 1000 → k ≤ sizeLine := fun k hk => Nat.le_of_lt (few (by omega))
          have fl : (firN c.2).length ≤ 1 := by cases c.2 <;> simp [firN]
          have zl : ((c :: cs).zip cs).length ≤ 300 := by simp at hl ⊢; omega
          have el : (cD c :: List.map cD cs).getLast? = some (cD l) := by
            have := List.getLast?_map (f := cD) (l := c :: cs)
            rw [hlast] at this
            exact this
          simp
          rw [el]
          simp
          cases e1 : l.1 with
          | none =>
            rw [e1] at hq
            simp [lasN] at hq
            simp
            exact ⟨hz _ (by simp at zl; omega), hq⟩
          | some a =>
            rw [e1] at hq
            simp [lasN] at hq
            simp
            exact ⟨hz _ (by simp at zl; omega), hq⟩
        · rintro done ⟨⟨a1, a2⟩, b1, b2⟩ left ρ k G hG ⟨rfl, hd, z2, z3, rfl⟩
          obtain ⟨a, b, rfl, rfl⟩ := hmid ((a1, a2), b1, b2) (by show _ ∈ (c :: cs).zip cs; rw [← hd]; simp)
          have hlen := congrArg List.length hd
          have fl : (firN c.2).length ≤ 1 := by cases c.2 <;> simp [firN]
          simp at hlen hl
          simp
          refine ⟨few (by omega), hG _ _ ⟨rfl, by rw [List.append_assoc]; exact hd, _, _, by simp [gapN]; exact ⟨rfl, rfl⟩⟩⟩
        · exact ⟨rfl, rfl, _, _, by simp; exact ⟨rfl, rfl⟩⟩
end
end G21
set_option Elab.async false
set_option linter.all false
set_option maxRecDepth 100000
set_option maxHeartbeats 4000000
set_option synthInstance.maxSize 100000
set_option synthInstance.maxHeartbeats 0
namespace G21
open PySem PySem.Spec PyProof.Rows L2 V3
/-- what was found among what was asked -/
structure LdF (cs : List Co) (a : Int × Int) (S : Int × Int → Prop) (L : List (Int × Int)) : Prop where
  pw : L.Pairwise lxB
  sub : ∀ l ∈ L, S l ∧ ovr cs a l
  cov : ∀ p, S p → ovr cs a p → ∃ l ∈ L, l.1 ≤ p.1 ∧ l.2 ≤ p.2
  anti : ∀ l ∈ L, ∀ k ∈ L, l.1 ≤ k.1 → l.2 ≤ k.2 → l = k
theorem ldf_skip {cs : List Co} {a x : Int × Int} {S S' : Int × Int → Prop} {L : List (Int × Int)} (h : LdF cs a S L) (hS : ∀ p, S' p ↔ S p ∨ p = x) (hx : ovr cs a x → ∃ l ∈ L, l.1 ≤ x.1 ∧ l.2 ≤ x.2) : LdF cs a S' L :=
  ⟨h.pw, fun l hl => ⟨(hS l).mpr (.inl (h.sub l hl).1), (h.sub l hl).2⟩, fun p hp ho => by
    rcases (hS p).mp hp with z | z
    · exact h.cov p z ho
    · subst z
      exact hx ho, h.anti⟩
theorem ldf_put {cs : List Co} {a x : Int × Int} {S S' : Int × Int → Prop} {L : List (Int × Int)} (h : LdF cs a S L) (hS : ∀ p, S' p ↔ S p ∨ p = x) (hlx : ∀ p, S p → lxB p x) (ho : ovr cs a x) (hn : ∀ l ∈ L, ¬ (l.1 ≤ x.1 ∧ l.2 ≤ x.2)) : LdF cs a S' (L ++ [x]) := by
  refine ⟨List.pairwise_append.mpr ⟨h.pw, List.pairwise_singleton _ _, fun l hl y hy => ?_⟩, fun l hl => ?_, fun p hp hop => ?_, fun l hl k hk h1 h2 => ?_⟩
  · rw [List.mem_singleton.mp hy]
    exact hlx l (h.sub l hl).1
  · rcases List.mem_append.mp hl with z | z
    · exact ⟨(hS l).mpr (.inl (h.sub l z).1), (h.sub l z).2⟩
    · rw [List.mem_singleton.mp z]
      exact ⟨(hS x).mpr (.inr rfl), ho⟩
  · rcases (hS p).mp hp with z | z
    · obtain ⟨l, m, q⟩ := h.cov p z hop
      exact ⟨l, List.mem_append_left _ m, q⟩
    · subst z
      exact ⟨p, List.mem_append_right _ (List.mem_singleton.mpr rfl), Int.le_refl _, Int.le_refl _⟩
  · rcases List.mem_append.mp hl with z | z <;> rcases List.mem_append.mp hk with w | w
    · exact h.anti l z k w h1 h2
    · rw [List.mem_singleton.mp w] at h1 h2
      exact absurd ⟨h1, h2⟩ (hn l z)
    · rw [List.mem_singleton.mp z] at h1 h2
      have := hlx k (h.sub k w).1
      unfold lxB at this
      omega
    · rw [List.mem_singleton.mp z, List.mem_singleton.mp w]
theorem ldf_cg {cs : List Co} {a : Int × Int} {S S' : Int × Int → Prop} {L : List (Int × Int)} (h : LdF cs a S L) (e : ∀ p, S' p ↔ S p) : LdF cs a S' L :=
  ⟨h.pw, fun l hl => ⟨(e l).mpr (h.sub l hl).1, (h.sub l hl).2⟩, fun p hp => h.cov p ((e p).mp hp), h.anti⟩
theorem ldf_min {cs : List Co} {a : Int × Int} {m : Int} {L : List (Int × Int)} (h : LdF cs a (fun p => (0 ≤ p.1 ∧ p.1 < m) ∧ 0 ≤ p.2 ∧ p.2 < m) L) (hb : ∀ p, ovr cs a p → ∃ q, ovr cs a q ∧ (q.1 ≤ p.1 ∧ q.1 < m) ∧ q.2 ≤ p.2 ∧ q.2 < m) : minL cs a L := by
  refine ⟨h.pw, fun p => ⟨fun hp => ⟨(h.sub p hp).2, fun q hq h1 h2 => ?_⟩, fun ⟨ho, hm⟩ => ?_⟩⟩
  · have s := (h.sub p hp).1
    obtain ⟨l, ml, l1, l2⟩ := h.cov q ⟨⟨hq.1, by omega⟩, hq.2.1, by omega⟩ hq
    have e := h.anti l ml p hp (by omega) (by omega)
    subst e
    exact Prod.ext (by omega) (by omega)
  · obtain ⟨q, oq, ⟨q1, q2⟩, q3, q4⟩ := hb p ho
    have e := hm q oq q1 q3
    subst e
    obtain ⟨l, ml, l1, l2⟩ := h.cov q ⟨⟨oq.1, q2⟩, oq.2.1, q4⟩ oq
    have e := hm l (h.sub l ml).2 l1 l2
    rw [← e]
    exact ml
theorem ovr_small {cs : List Co} {a : Int × Int} (hs : ∀ c ∈ cs, smC 8 c) (h1 : 1 ≤ a.1) (h2 : 1 ≤ a.2) : ∀ p, ovr cs a p → ∃ q, ovr cs a q ∧ (q.1 ≤ p.1 ∧ q.1 < 10) ∧ q.2 ≤ p.2 ∧ q.2 < 10 := fun p ⟨p1, p2, p3⟩ => by
  refine ⟨(min p.1 9, min p.2 9), ⟨by show 0 ≤ min _ _; omega, by show 0 ≤ min _ _; omega, fun ⟨c, hc, c1, c2⟩ => p3 ⟨c, hc, fun k e => ?_, fun k e => ?_⟩⟩, ⟨by show min _ _ ≤ _; omega, by show min _ _ < _; omega⟩, by show min _ _ ≤ _; omega, by show min _ _ < _; omega⟩
  · have := c1 k e
    have := ((hs c hc).1 k e).2
    dsimp only at *
    omega
  · have := c2 k e
    have := ((hs c hc).2 k e).2
    dsimp only at *
    omega
theorem range_at {m : Nat} {done left : List Nat} {x : Nat} (h : done ++ x :: left = List.range m) : x = done.length ∧ x < m := by
  have e : (done ++ x :: left)[done.length]? = some x := by simp
  rw [h] at e
  have hm : done.length < m := by
    have := congrArg List.length h
    simp at this
    omega
  rw [List.getElem?_range hm] at e
  have := Option.some.inj e
  omega
/-- asked so far: whole laps, and a part of one -/
def askS (i j : Nat) (p : Int × Int) : Prop := (0 ≤ p.2 ∧ p.2 < 10) ∧ 0 ≤ p.1 ∧ (p.1 < (i : Int) ∨ (p.1 = (i : Int) ∧ p.2 < (j : Int)))
@[simp ↓] def sp_loads : VSp := fun us n q _ => ∃ (cs : List Co) (a b : Int), us = [.d (.tuple (cs.map cD)), .d (pr a b), .d (.int 10)] ∧ cs.length ≤ 300 ∧ (∀ c ∈ cs, smC 8 c) ∧ 1 ≤ a ∧ 1 ≤ b ∧ ∀ L : List (Int × Int), minL cs (a, b) L → L.length ≤ 100 → q (.d (.list (L.map pD))) n
section
variable {P : Program} {w : World} {K : PySem.W.Frag} {mg : Str → Option Value} {base : Heap} {TL : List (Addr × Str)}
theorem ok_l_loads (T : Txt K mg) : FnOk P w K mg base CX0 4 T.l_loads.a T.l_loads.d ["stairs_here", "body", "many"] (toSp K T.C TL true sp_loads) := by
  refine T.l_loads.F.ok c_l_loads (fun vs H Q E h => toSp_len h fun us n q e hs => ?_) (fun cdv A outer s H vs Q E hr h => ?_)
  · (first | (obtain ⟨rfl, _⟩ := hs; rfl) | (obtain ⟨_, hs⟩ := hs; (first | (obtain ⟨rfl, _⟩ := hs; rfl) | (obtain ⟨_, hs⟩ := hs; (first | (obtain ⟨rfl, _⟩ := hs; rfl) | (obtain ⟨_, hs⟩ := hs; (first | (obtain ⟨rfl, _⟩ := hs; rfl) | (obtain ⟨_, hs⟩ := hs; (first | (obtain ⟨rfl, _⟩ := hs; rfl) | (obtain ⟨_, hs⟩ := hs; (first | (obtain ⟨rfl, _⟩ := hs; rfl) | (obtain ⟨_, hs⟩ := hs; (first | (obtain ⟨rfl, _⟩ := hs; rfl) | (obtain ⟨_, hs⟩ := hs; (first | (obtain ⟨rfl, _⟩ := hs; rfl) | (obtain ⟨_, hs⟩ := hs; (first | (obtain ⟨rfl, _⟩ := hs; rfl) | (obtain ⟨_, hs⟩ := hs; (first | (obtain ⟨rfl, _⟩ := hs; rfl) | (obtain ⟨_, hs⟩ := hs; (first | (obtain ⟨rfl, _⟩ := hs; rfl) | (obtain ⟨_, hs⟩ := hs; (first | (obtain ⟨rfl, _⟩ := hs; rfl) | (obtain ⟨_, hs⟩ := hs; (first | (obtain ⟨rfl, _⟩ := hs; rfl) | (obtain ⟨_, hs⟩ := hs; (first | (obtain ⟨rfl, _⟩ := hs; rfl) | (obtain ⟨_, hs⟩ := hs; (first | (obtain ⟨rfl, _⟩ := hs; rfl) | (obtain ⟨_, hs⟩ := hs; (first | (obtain ⟨rfl, _⟩ := hs; rfl) | (obtain ⟨_, hs⟩ := hs; (obtain ⟨rfl, _⟩ := hs; rfl)))))))))))))))))))))))))))))))))
  · refine ⟨_,
      (pss_cons (ps_set (i := 3) c_l_loads.nd rfl (Or.inl rfl) (pe_lst pa_nil))
      (pss_cons (ps_for PassesOwn.never rfl (pi_range1 rfl T.z_range (pa_cons (pv 2) pa_nil)) (pg_name (i := 4) c_l_loads.nd rfl (Or.inr rfl))
      (pss_one (ps_for PassesOwn.never rfl (pi_range1 rfl T.z_range (pa_cons (pv 2) pa_nil)) (pg_name (i := 5) c_l_loads.nd rfl (Or.inr rfl))
      (pss_one (ps_if (pt_not (pt_val (pe_call (ok_l_held T (TL := TL)) (hr.mono (by decide)) rfl T.l_held.g T.l_held.k T.l_held.b .nil pass0 (pa_cons (pv 0) (pa_cons (pe_tup (pa_cons (pe_op (add3 K) (pe_ix (ix3 K) (pv 1) pe_int (fun _ _ => rfl)) (pv 4)) (pa_cons (pe_op (add3 K) (pe_ix (ix3 K) (pv 1) pe_int (fun _ _ => rfl)) (pv 5)) pa_nil))) pa_nil)))))
      (pss_one (ps_if (pt_cmpR (eq3 K hr.units) (pe_lc (own := [("old", 6)]) (g := gName 6) (by rfl) c_l_loads.nd (seq3 K (pv 3)) (blkOk_by (own := [("old", 6)]) (N := N_l_loads) (sc := defScope S_l_loads) (by decide +kernel)) (fun _ _ _ _ _ => pg_name (i := 6) c_l_loads.nd rfl (Or.inl rfl)) (fun _ _ _ _ _ => (pts_one (PW.pt (pw_and (pt_cmpR op_le (pe_ix (ix3 K) (pv 6) pe_int (fun _ _ => rfl)) (pv 4) (nomark _)) (pw_and1 (pt_cmpR op_le (pe_ix (ix3 K) (pv 6) pe_int (fun _ _ => rfl)) (pv 5) (nomark _))))))) (fun _ _ _ _ _ => pe_int)) (pe_lst pa_nil) (nomark _))
      (pss_one (ps_expr (bm3 K PySem.F.plainAttrs_list PySem.F.slot_list_append PySem.F.type_list_append mt_append (pv 3) (pa_cons (pe_tup (pa_cons (pv 4) (pa_cons (pv 5) pa_nil))) pa_nil))))
      pss_nil))
      pss_nil)))))
      (pss_one (ps_ret (pv 3)))))
      , run3 (K := K) (C := T.C) (TL := TL) h fun us n q e hs => ?_⟩
    obtain ⟨cs, a, b, rfl, hl, hsm, ha, hb, hq⟩ := hs
    simp [ro0, -V3.forL]
    have er : upFrom 0 10 = (List.range 10).map (fun k : Nat => PyData.int (0 + (k : Nat))) := rfl
    rw [er]
    refine forL_mapW (fun k : Nat => PyData.int (0 + (k : Nat))) (fun done left ρ k => k = n ∧ done ++ left = List.range 10 ∧ ∃ (L : List (Int × Int)) (z4 z5 : Sl), ρ = [.fz (.d (.tuple (cs.map cD))), .fz (.d (pr a b)), .fz (.d (.int 10)), .ow (L.map pD), z4, z5, .no] ∧ LdF cs (a, b) (askS done.length 0) L ∧ L.length ≤ 10 * done.length) (List.range 10) [] _ _ ?_ ?_ ?_
    · rintro done ρ k ⟨rfl, hd, L, z4, z5, rfl, hL, hn⟩
      rw [List.append_nil] at hd
      have h10 : done.length = 10 := by rw [hd, List.length_range]
      simp
      refine hq L (ldf_min (m := 10) (ldf_cg hL fun p => ?_) (ovr_small hsm ha hb)) (by omega)
      rw [h10]
      unfold askS
      omega
    · rintro done i left ρ k G hG ⟨rfl, hd, L, z4, z5, rfl, hL, hn⟩
      obtain ⟨ei, hi⟩ := range_at hd
      simp [-V3.forL]
      rw [er]
      refine forL_mapW (fun k : Nat => PyData.int (0 + (k : Nat))) (fun dn lf ρ k' => k' = k ∧ dn ++ lf = List.range 10 ∧ ∃ (L : List (Int × Int)) (z5 : Sl), ρ = [.fz (.d (.tuple (cs.map cD))), .fz (.d (pr a b)), .fz (.d (.int 10)), .ow (L.map pD), .fz (.d (.int (i : Nat))), z5, .no] ∧ LdF cs (a, b) (askS i dn.length) L ∧ L.length ≤ 10 * i + dn.length) (List.range 10) [] _ _ ?_ ?_ ⟨rfl, rfl, L, z5, rfl, by rw [ei]; exact hL, by simp; omega⟩
      · rintro dn ρ k' ⟨rfl, hd2, L, z5, rfl, hL, hn⟩
        rw [List.append_nil] at hd2
        have h10 : dn.length = 10 := by rw [hd2, List.length_range]
        refine hG _ _ ⟨rfl, by rw [List.append_assoc]; exact hd, L, _, _, rfl, ldf_cg hL fun p => ?_, by simp; omega⟩
        rw [h10, List.length_append, ← ei]
        unfold askS
        simp
        omega
      · rintro dn j lf ρ k' G2 hG2 ⟨rfl, hd2, L, z5, rfl, hL, hn⟩
        obtain ⟨ej, hj⟩ := range_at hd2
        simp
        have hS : ∀ p : Int × Int, askS i (dn.length + 1) p ↔ askS i dn.length p ∨ p = ((i : Int), (j : Int)) := fun p => by
          obtain ⟨x, y⟩ := p
          unfold askS
          rw [Prod.mk.injEq]
          dsimp only
          omega
        have hlx : ∀ p : Int × Int, askS i dn.length p → lxB p ((i : Int), (j : Int)) := fun p h => by
          unfold askS at h
          unfold lxB
          dsimp only
          omega
        have hlen := congrArg List.length hd2
        simp at hlen
        have hS2 : ∀ p : Int × Int, askS i (dn ++ [j]).length p ↔ askS i dn.length p ∨ p = ((i : Int), (j : Int)) := by simpa using hS
        refine ⟨cs, _, _, ⟨rfl, rfl, rfl⟩, hl, ?_⟩
        by_cases hh : hasB cs (some (a + (i : Int)), some (b + (j : Int))) = true
        · rw [if_pos hh]
          exact hG2 _ _ ⟨rfl, by rw [List.append_assoc]; exact hd2, L, _, rfl, ldf_skip hL hS2 (fun o => absurd (has_held.mp hh) o.2.2), by simp; omega⟩
        · rw [if_neg hh]
          have ho : ovr cs (a, b) ((i : Int), (j : Int)) := ⟨by dsimp only; omega, by dsimp only; omega, fun z => hh (has_held.mpr z)⟩
          refine ⟨few (by omega), lcL_pure pD (fun _ => PyData.int 1) (fun o => decide (o.1 ≤ (i : Int)) && decide (o.2 ≤ (j : Int))) L k' _ (fun o _ m Kt Ks h => ?_) ⟨ones_shA _ _, by rfl, ?_⟩⟩
          · by_cases h1 : o.1 ≤ (i : Int) <;> by_cases h2 : o.2 ≤ (j : Int) <;> simp [h1, h2] at h ⊢ <;> exact h
          by_cases hx : ∃ o ∈ L, o.1 ≤ (i : Int) ∧ o.2 ≤ (j : Int)
          · have e : (PyData.list ((L.filter fun o => decide (o.1 ≤ (i : Int)) && decide (o.2 ≤ (j : Int))).map fun _ => PyData.int 1)).eqv (PyData.list []) = false := by
              obtain ⟨o, m, o1, o2⟩ := hx
              rw [ones_eqA, List.all_eq_false]
              exact ⟨o, m, by simp [o1, o2]⟩
            simp only [e, Bool.false_eq_true, if_false]
            exact hG2 _ _ ⟨rfl, by rw [List.append_assoc]; exact hd2, L, _, rfl, ldf_skip hL hS2 (fun _ => hx), by simp; omega⟩
          · have e : (PyData.list ((L.filter fun o => decide (o.1 ≤ (i : Int)) && decide (o.2 ≤ (j : Int))).map fun _ => PyData.int 1)).eqv (PyData.list []) = true := by
              rw [ones_eqA, List.all_eq_true]
              intro o m
              cases q : decide (o.1 ≤ (i : Int)) && decide (o.2 ≤ (j : Int)) with
              | false => rfl
              | true =>
                simp at q
                exact absurd ⟨o, m, q⟩ hx
            simp only [e, if_true]
            refine ⟨few (by omega), hG2 _ _ ⟨rfl, by rw [List.append_assoc]; exact hd2, L ++ [((i : Int), (j : Int))], _, by rw [List.map_append]; rfl, ldf_put hL hS2 hlx ho (fun l hl z => hx ⟨l, hl, z⟩), by simp; omega⟩⟩
    · exact ⟨rfl, rfl, [], _, _, rfl, ⟨List.Pairwise.nil, (fun l h => by cases h), (fun p hp => by
        unfold askS at hp
        simp at hp
        omega), (fun l h => by cases h)⟩, by simp⟩
end
end G21
set_option Elab.async false
set_option linter.all false
set_option maxRecDepth 100000
set_option maxHeartbeats 4000000
/-! min of a list of pairs of numbers -/
namespace V3
open PySem PySem.Spec PyProof.Rows L2
abbrev prM (p : Int × Int) : D := .tuple [.int p.1, .int p.2]
def ltM (q p : Int × Int) : Prop := q.1 < p.1 ∨ (q.1 = p.1 ∧ q.2 < p.2)
theorem dlt_pr (q p : Int × Int) : PySem.W.dataLt (prM q) (prM p) = true ↔ ltM q p := by
  rw [PySem.W.dataLt_tuple, PySem.W.toks_all_cons, PySem.W.toks_all_cons, PySem.W.toks_all_cons, PySem.W.toks_all_cons]
  simp only [PySem.W.keyToks, PySem.W.keyToksAll, List.cons_append, List.nil_append]
  rw [PyProof.Rows.lex_self]
  unfold ltM
  by_cases e : q.1 = p.1
  · rw [e, PyProof.Rows.lex_self, PyProof.Rows.lex_self]
    by_cases e2 : q.2 = p.2
    · rw [e2, PyProof.Rows.lex_self, PySem.W.lex_one]
      constructor
      · intro h
        cases h
      · omega
    · rw [PyProof.Rows.lex_diff (fun z => e2 (Sum.inl.inj z))]
      show decide (q.2 < p.2) = true ↔ _
      rw [decide_eq_true_eq]
      omega
  · rw [PyProof.Rows.lex_diff (fun z => e (Sum.inl.inj z))]
    show decide (q.1 < p.1) = true ↔ _
    rw [decide_eq_true_eq]
    omega
theorem min_pr (x : Int × Int) : ∀ ps : List (Int × Int), ∃ p ∈ x :: ps, PySem.W.minD (prM x) (ps.map prM) = prM p ∧ ∀ q ∈ x :: ps, ¬ ltM q p
  | [] => ⟨x, List.mem_cons_self, rfl, fun q hq => by
    rw [List.mem_singleton.mp hq]
    unfold ltM
    omega⟩
  | y :: ps => by
    by_cases h : ltM y x
    · obtain ⟨p, hp, e, hm⟩ := min_pr y ps
      refine ⟨p, List.mem_cons_of_mem _ hp, ?_, fun q hq => ?_⟩
      · rw [← e]
        show List.foldl _ (if PySem.W.dataLt (prM y) (prM x) = true then prM y else prM x) _ = _
        rw [if_pos ((dlt_pr y x).mpr h)]
        rfl
      · rcases List.mem_cons.mp hq with rfl | hq
        · have := hm y List.mem_cons_self
          unfold ltM at this h ⊢
          omega
        · exact hm q hq
    · obtain ⟨p, hp, e, hm⟩ := min_pr x ps
      have mm : ∀ q ∈ x :: y :: ps, ¬ ltM q p := fun q hq => by
        rcases List.mem_cons.mp hq with rfl | hq
        · exact hm _ List.mem_cons_self
        · rcases List.mem_cons.mp hq with rfl | hq
          · have := hm x List.mem_cons_self
            unfold ltM at this h ⊢
            omega
          · exact hm q (List.mem_cons_of_mem _ hq)
      refine ⟨p, ?_, ?_, mm⟩
      · rcases List.mem_cons.mp hp with rfl | hp
        · exact List.mem_cons_self
        · exact List.mem_cons_of_mem _ (List.mem_cons_of_mem _ hp)
      · rw [← e]
        show List.foldl _ (if PySem.W.dataLt (prM y) (prM x) = true then prM y else prM x) _ = _
        rw [if_neg fun z => h ((dlt_pr y x).mp z)]
        rfl
theorem alike_pr (ps : List (Int × Int)) : PySem.W.AlikeAll (ps.map prM) := ⟨fun x hx y hy => by
  obtain ⟨n, _, rfl⟩ := List.mem_map.mp hx
  obtain ⟨m, _, rfl⟩ := List.mem_map.mp hy
  simp [PySem.W.alike, PySem.W.alikeAll], fun x hx => by
  obtain ⟨n, _, rfl⟩ := List.mem_map.mp hx
  intro z
  cases z⟩
theorem depth_pr : ∀ ps : List (Int × Int), PyData.depthAll (ps.map prM) ≤ 1
  | [] => by simp [PyData.depthAll]
  | n :: ns => by
    have := depth_pr ns
    rw [List.map_cons]
    simp only [PyData.depthAll, PyData.depth]
    omega
def rMinP (K : PySem.W.Frag) : List V → Hp → VK → Prop := fun vs H Q => ∃ (l : Addr) (as : List Addr) (ps : List (Int × Int)), vs = [V.ref l] ∧ SqL K H l (as.map V.ref) ∧ Paired (fun a (p : Int × Int) => SqT K H a ([p.1, p.2].map V.int)) as ps ∧ ps ≠ [] ∧
  ∀ (a : Addr) (p : Int × Int), (a, p) ∈ as.zip ps → p ∈ ps → (∀ q ∈ ps, ¬ ltM q p) → Q (.ref a) H
theorem pd_zipM {α β : Type} {F : α → β → Prop} : ∀ {as : List α} {ps : List β}, Paired F as ps → ∀ {a p}, (a, p) ∈ as.zip ps → F a p
  | _, _, .nil, _, _, h => by cases h
  | _, _, .cons r t, _, _, h => by
    rcases List.mem_cons.mp h with e | h
    · cases e
      exact r
    · exact pd_zipM t h
theorem pd_map {α β γ : Type} {F : α → β → Prop} {g : γ → β} : ∀ {as : List α} {ps : List γ}, Paired F as (ps.map g) → Paired (fun a p => F a (g p)) as ps
  | _, [], .nil => .nil
  | _, _ :: _, .cons r t => .cons r (pd_map t)
section
variable {X : Cx} {pins : List (Addr × Obj)} {s : Shared} {σ : L2.St} {H : Hp}
theorem reads_prs (I : Inv X pins σ H s) : ∀ {as : List Addr} {ps : List (Int × Int)} {us : List Value}, Paired (fun a (p : Int × Int) => SqT X.K H a ([p.1, p.2].map V.int)) as ps → Vals (as.map V.ref) us → (∃ bs, ReadsAll s.heap us (ps.map prM) bs) ∧ ∀ u ∈ us, ∃ a p, u = Value.ref a ∧ (a, p) ∈ as.zip ps ∧ p ∈ ps ∧ Reads s.heap u (prM p) []
  | _, _, us, .nil, r => by
    cases r
    exact ⟨⟨_, ReadsAll.nil⟩, fun u h => by cases h⟩
  | _, _, us, .cons (a := a) (b := p) h t, r => by
    cases r with
    | cons r1 r2 =>
      obtain ⟨⟨bs, h1⟩, h2⟩ := reads_prs I t r2
      rename_i u us
      have e : u = Value.ref a := r1
      subst e
      obtain ⟨its, rv, ⟨o, ho, hc, n, hd⟩, _⟩ := I.tuple h
      have rd : Reads s.heap (.ref a) (prM p) [] := by
        have q := reads_ints (h := s.heap) (ns := [p.1, p.2]) rv
        exact Reads.tuple (vs := its.toArray) ho hc hd (by simpa using q)
      refine ⟨⟨_, ReadsAll.cons rd h1⟩, fun u hu => ?_⟩
      rcases List.mem_cons.mp hu with e | hu
      · subst e
        exact ⟨a, p, rfl, List.mem_cons_self, List.mem_cons_self, rd⟩
      · obtain ⟨b, q, q1, q2, q3, q4⟩ := h2 u hu
        exact ⟨b, q, q1, List.mem_cons_of_mem _ q2, List.mem_cons_of_mem _ q3, q4⟩
end
theorem cr_minP {X : Cx} (hc : X.calm = true) (hu : X.A.units + 65 < cLine) : CallR X (.builtin "min") (rMinP X.K) := by
  intro pins s σ H vs us Q I r h
  obtain ⟨l, as, ps, rfl, hs, hp, hne, q⟩ := h
  obtain ⟨its, rv, hl, _⟩ := I.list hs
  rw [Vals.ref1 r]
  obtain ⟨⟨bs, h1⟩, h2⟩ := reads_prs I hp rv
  match ps, hne, h1, h2, q with
  | p :: ps, _, h1, h2, q =>
    refine PySem.W.min_list_data (I.ok.hd hc) (vs := its.toArray) hl.isList (x := prM p) (xs := ps.map prM) (as := bs) (by simpa using h1) (alike_pr (p :: ps)) (by have := depth_pr (p :: ps); rw [List.map_cons] at this; omega) fun i v h' tk bs hv hr hk => ?_
    have mv : v ∈ its := by
      have := List.mem_of_getElem? (l := its) (i := i) (a := v) (by simpa using hv)
      exact this
    obtain ⟨a, o, rfl, hz, ho, rd⟩ := h2 v mv
    obtain ⟨m, hm, em, hmin⟩ := min_pr p ps
    rw [em] at hr
    have e := SeqAt.Reads.unique _ _ _ _ _ (by rfl) (PySem.W.reads_keeps hk rd) hr
    have e : o = m := by
      obtain ⟨a, b⟩ := o
      obtain ⟨c, d⟩ := m
      simpa using e
    subst e
    exact ⟨.ref a, H, I.kept hk, rfl, q a o hz ho hmin⟩
theorem minP3 {X : Cx} (K : PySem.W.Frag) (hc : X.calm = true) (hu : X.A.units + 65 < cLine) (h : X.K = K := by rfl) : CallR X (.builtin "min") (rMinP K) := h ▸ cr_minP hc hu
@[simp ↓] def mMinP : List U → (Bool → D → Prop) → Prop
  | [.d (.list xs)], q => ∃ ps : List (Int × Int), xs = ps.map prM ∧ ps ≠ [] ∧ ∀ p ∈ ps, (∀ o ∈ ps, ¬ ltM o p) → q false (prM p)
  | _, _ => False
section
variable {K : PySem.W.Frag} {C : Addr} {TL : List (Addr × Str)} {E : XK}
instance : LC K (rMinP K) mMinP where
  s am O H xs us hK hO ra Q q hm k := by
    subst hK
    match us, hm, ra with
    | [.d (.list ds)], hm, .cons r .nil =>
      obtain ⟨ps, rfl, hne, hm⟩ := hm
      cases r with
      | lst a1 a2 =>
        have em : ps.map prM = (ps.map fun p => [p.1, p.2]).map tupI := by
          rw [List.map_map]
          rfl
        rw [em] at a2
        obtain ⟨as, rfl, pd⟩ := tups_rep a2
        replace pd := pd_map pd
        have pd2 : Paired (fun a (p : Int × Int) => SqT am.K H a ([p.1, p.2].map V.int)) as ps := by
          clear em a2 hm hne a1
          induction pd with
          | nil => exact .nil
          | cons r _ ih => exact .cons (SqT.le Le.cutAll r) ih
        exact ⟨_, as, ps, rfl, SqL.of (cut_some.mp a1).2, pd2, hne, fun a p hz hp hmin => k _ _ _ H (hm p hp hmin) (Same.refl _) (.old (Rp.tup (pd_zipM pd hz) (.cons (.int _) (.cons (.int _) .nil))))⟩
end
end V3
set_option Elab.async false
set_option linter.all false
set_option maxRecDepth 100000
set_option maxHeartbeats 4000000
set_option synthInstance.maxSize 100000
set_option synthInstance.maxHeartbeats 0
namespace G21
open PySem PySem.Spec PyProof.Rows L2 V3
def canL (f g : Fm) : List (Int × Int) := ((turnL f g 0).map fun s => (s, 1)) ++ ((turnL f g 1).map fun s => (1, s)) ++ notP f.cs ++ notP g.cs
theorem gaps_pos : ∀ (w : Option Int) (cs : List Co), (∀ k, w = some k → 0 ≤ k) → (∀ c ∈ cs, posC c) → ∀ p ∈ gapsO w cs, (∀ k, p.1 = some k → 0 ≤ k) ∧ ∀ k, p.2 = some k → 0 ≤ k
  | w, [], hw, _, p, hp => by
    rw [List.mem_singleton.mp hp]
    exact ⟨hw, fun k e => by cases e; omega⟩
  | w, c :: cs, hw, h, p, hp => by
    have hc := h c List.mem_cons_self
    rcases List.mem_cons.mp hp with rfl | hp
    · refine ⟨hw, fun k e => ?_⟩
      have := hc.2 k e
      omega
    · refine gaps_pos c.1 cs (fun k e => ?_) (fun d hd => h d (List.mem_cons_of_mem _ hd)) p hp
      have := hc.1 k e
      omega
theorem not_pos {cs : List Co} (h : ∀ c ∈ cs, posC c) : ∀ p ∈ notP cs, 1 ≤ p.1 ∧ 1 ≤ p.2 := fun p hp => by
  obtain ⟨⟨a, b⟩, m, rfl⟩ := List.mem_map.mp hp
  obtain ⟨m1, m2⟩ := List.mem_filter.mp m
  obtain ⟨q1, q2⟩ := gaps_pos (some 0) cs (fun k e => by cases e; omega) h _ m1
  cases a with
  | none => cases m2
  | some a =>
    cases b with
    | none => cases m2
    | some b =>
      have := q1 a rfl
      have := q2 b rfl
      exact ⟨by show 1 ≤ a + 1; omega, by show 1 ≤ b + 1; omega⟩
theorem turn_mem {f g : Fm} {i s : Int} (h : 1 ≤ s) (h2 : s = 1 ∨ s = axI i f.l - axI i f.b + 1 ∨ s = axI i g.l - axI i g.b + 1) : s ∈ turnL f g i := by
  unfold turnL
  refine List.mem_filter.mpr ⟨?_, decide_eq_true h⟩
  simp only [List.mem_cons, List.not_mem_nil, or_false]
  omega
theorem can_pos {f g : Fm} (hf : ∀ c ∈ f.cs, posC c) (hg : ∀ c ∈ g.cs, posC c) : ∀ p ∈ canL f g, 1 ≤ p.1 ∧ 1 ≤ p.2 := fun p hp => by
  unfold canL at hp
  rcases List.mem_append.mp hp with hp | hp
  · rcases List.mem_append.mp hp with hp | hp
    · rcases List.mem_append.mp hp with hp | hp
      · obtain ⟨s, hs, rfl⟩ := List.mem_map.mp hp
        have := of_decide_eq_true (List.mem_filter.mp hs).2
        exact ⟨this, Int.le_refl _⟩
      · obtain ⟨s, hs, rfl⟩ := List.mem_map.mp hp
        have := of_decide_eq_true (List.mem_filter.mp hs).2
        exact ⟨Int.le_refl _, this⟩
    · exact not_pos hf p hp
  · exact not_pos hg p hp
theorem prt_iff {f g : Fm} {p : Int × Int} (ee : PyData.eqv f.e g.e = true) : prtB f g p = true ↔ hasI f p ≠ hasI g p ∨ (hasI f p = true ∧ behI f.l f.b p ≠ behI g.l g.b p) := by
  unfold prtB
  rw [ee]
  cases hasI f p <;> cases hasI g p <;> simp
theorem has_mono {f : Fm} {p q : Int × Int} (h : hasI f p = true) (h1 : q.1 ≤ p.1) (h2 : q.2 ≤ p.2) : hasI f q = true := has_held.mpr (held_mono (has_held.mp h) h1 h2)
theorem lx_le {n p : Int × Int} (h1 : n.1 ≤ p.1) (h2 : n.2 ≤ p.2) (h : ¬ lxB n p) : n = p := by
  unfold lxB at h
  exact Prod.ext (by omega) (by omega)
theorem not_first {f g : Fm} (hg : Can g.cs) (pg : ∀ c ∈ g.cs, posC c) {p : Int × Int} (p1 : 1 ≤ p.1) (p2 : 1 ≤ p.2) (h1 : hasI f p = true) (h2 : hasI g p = false)
    (hmin : ∀ q : Int × Int, 1 ≤ q.1 → 1 ≤ q.2 → lxB q p → hasI f q ≠ hasI g q → False) : p ∈ notP g.cs := by
  have nh : ¬ heldI g.cs p.1 p.2 := fun z => by
    have : hasI g p = true := has_held.mpr z
    rw [h2] at this
    cases this
  obtain ⟨n, hn, n1, n2⟩ := not_above p1 p2 nh
  have np := not_pos pg n hn
  have hnf := has_mono h1 n1 n2
  have hng : hasI g n = false := by
    rw [Bool.eq_false_iff]
    exact fun z => not_held hg pg n hn (has_held.mp z)
  by_cases e : lxB n p
  · exact (hmin n np.1 np.2 e (by rw [hnf, hng]; decide)).elim
  · rw [← lx_le n1 n2 e]
    exact hn
/-- the first body that parts stands among those that the law asks -/
theorem first_cand {f g : Fm} (hf : Can f.cs) (hg : Can g.cs) (pf : ∀ c ∈ f.cs, posC c) (pg : ∀ c ∈ g.cs, posC c) (el : f.l = g.l) (ee : PyData.eqv f.e g.e = true) {p : Int × Int} (p1 : 1 ≤ p.1) (p2 : 1 ≤ p.2) (hp : prtB f g p = true)
    (hmin : ∀ q : Int × Int, 1 ≤ q.1 → 1 ≤ q.2 → lxB q p → prtB f g q = false) : p ∈ canL f g := by
  have hm : ∀ q : Int × Int, 1 ≤ q.1 → 1 ≤ q.2 → lxB q p → ¬ (hasI f q ≠ hasI g q ∨ (hasI f q = true ∧ behI f.l f.b q ≠ behI g.l g.b q)) := fun q q1 q2 l z => by
    have := (prt_iff ee).mpr z
    rw [hmin q q1 q2 l] at this
    cases this
  unfold canL
  rcases (prt_iff ee).mp hp with h | ⟨h, hb⟩
  · cases a : hasI f p with
    | true =>
      have b : hasI g p = false := by
        cases b : hasI g p with
        | false => rfl
        | true => exact absurd (by rw [a, b]) h
      exact List.mem_append_right _ (not_first hg pg p1 p2 a b fun q q1 q2 l z => hm q q1 q2 l (.inl z))
    | false =>
      have b : hasI g p = true := by
        cases b : hasI g p with
        | true => rfl
        | false => exact absurd (by rw [a, b]) h
      exact List.mem_append_left _ (List.mem_append_right _ (not_first hf pf p1 p2 b a fun q q1 q2 l z => hm q q1 q2 l (.inl fun y => z y.symm)))
  · by_cases d0 : hasI g p = true
    · refine List.mem_append_left _ (List.mem_append_left _ ?_)
      have e0 : ∀ q : Int × Int, q.1 ≤ p.1 → q.2 ≤ p.2 → 1 ≤ q.1 → 1 ≤ q.2 → lxB q p → behI f.l f.b q = behI g.l g.b q := fun q a1 a2 q1 q2 l => by
        by_cases z : behI f.l f.b q = behI g.l g.b q
        · exact z
        · exact absurd (.inr ⟨has_mono h a1 a2, z⟩) (hm q q1 q2 l)
      have bh : ∀ (k : Fm) (q : Int × Int), behI k.l k.b q = (max k.l.1 (q.1 + k.b.1), max k.l.2 (q.2 + k.b.2)) := fun _ _ => rfl
      by_cases ax : max f.l.1 (p.1 + f.b.1) = max g.l.1 (p.1 + g.b.1)
      · have ay : max f.l.2 (p.2 + f.b.2) ≠ max g.l.2 (p.2 + g.b.2) := fun z => hb (by rw [bh, bh, ax, z])
        have x1 : p.1 = 1 := by
          by_cases z : p.1 = 1
          · exact z
          · have := e0 (1, p.2) (by dsimp only; omega) (by dsimp only; omega) (Int.le_refl _) p2 (.inl (by dsimp only; omega))
            rw [bh, bh] at this
            exact absurd (congrArg Prod.snd this) ay
        refine List.mem_append_right _ (List.mem_map.mpr ⟨p.2, turn_mem p2 ?_, Prod.ext x1.symm rfl⟩)
        by_cases z : p.2 = 1
        · exact .inl z
        · have := e0 (p.1, p.2 - 1) (by dsimp only; omega) (by dsimp only; omega) p1 (by dsimp only; omega) (.inr ⟨rfl, by dsimp only; omega⟩)
          rw [bh, bh] at this
          have := congrArg Prod.snd this
          dsimp only at this
          have a1 : axI 1 f.l = f.l.2 := rfl
          have a2 : axI 1 f.b = f.b.2 := rfl
          have a3 : axI 1 g.l = g.l.2 := rfl
          have a4 : axI 1 g.b = g.b.2 := rfl
          rw [a1, a2, a3, a4]
          have el2 := congrArg Prod.snd el
          omega
      · have y1 : p.2 = 1 := by
          by_cases z : p.2 = 1
          · exact z
          · have := e0 (p.1, 1) (by dsimp only; omega) (by dsimp only; omega) p1 (Int.le_refl _) (.inr ⟨rfl, by dsimp only; omega⟩)
            rw [bh, bh] at this
            exact absurd (congrArg Prod.fst this) ax
        refine List.mem_append_left _ (List.mem_map.mpr ⟨p.1, turn_mem p1 ?_, Prod.ext rfl y1.symm⟩)
        by_cases z : p.1 = 1
        · exact .inl z
        · have := e0 (p.1 - 1, p.2) (by dsimp only; omega) (by dsimp only; omega) (by dsimp only; omega) p2 (.inl (by dsimp only; omega))
          rw [bh, bh] at this
          have := congrArg Prod.fst this
          dsimp only at this
          have a1 : axI 0 f.l = f.l.1 := rfl
          have a2 : axI 0 f.b = f.b.1 := rfl
          have a3 : axI 0 g.l = g.l.1 := rfl
          have a4 : axI 0 g.b = g.b.1 := rfl
          rw [a1, a2, a3, a4]
          have el1 := congrArg Prod.fst el
          omega
    · have e : hasI g p = false := by
        cases b : hasI g p with
        | false => rfl
        | true => exact absurd b d0
      exact List.mem_append_right _ (not_first hg pg p1 p2 h e fun q q1 q2 l z => hm q q1 q2 l (.inl z))
theorem great_first {f g : Fm} (hf : Can f.cs) (hg : Can g.cs) (pf : ∀ c ∈ f.cs, posC c) (pg : ∀ c ∈ g.cs, posC c) (el : f.l = g.l) (ee : PyData.eqv f.e g.e = true) {r : Option (Int × Int)} (h : fstP (nrm f) (nrm g) r) :
    (∀ p, r = some p → p ∈ (canL f g).filter (fun p => prtB f g p)) ∧ (r = none → (canL f g).filter (fun p => prtB f g p) = []) ∧ ∀ m ∈ (canL f g).filter (fun p => prtB f g p), (∀ o ∈ (canL f g).filter (fun p => prtB f g p), ¬ V3.ltM o m) → r = some m := by
  have pn : ∀ {p : Int × Int}, 1 ≤ p.1 → 1 ≤ p.2 → prtB (nrm f) (nrm g) p = prtB f g p := fun h1 h2 => prt_nrm hf hg h1 h2
  have cp := can_pos pf pg
  have no : r = none → (canL f g).filter (fun p => prtB f g p) = [] := fun e => by
    subst e
    rw [List.filter_eq_nil_iff]
    intro p hp z
    obtain ⟨h1, h2⟩ := cp p hp
    have := h p h1 h2
    rw [pn h1 h2, z] at this
    cases this
  have yes : ∀ p, r = some p → p ∈ (canL f g).filter (fun p => prtB f g p) := fun p e => by
    subst e
    obtain ⟨p1, p2, hp, hl⟩ := h
    rw [pn p1 p2] at hp
    exact List.mem_filter.mpr ⟨first_cand hf hg pf pg el ee p1 p2 hp fun q q1 q2 l => by rw [← pn q1 q2]; exact hl q q1 q2 l, hp⟩
  refine ⟨yes, no, fun m hm hmin => ?_⟩
  cases r with
  | none =>
    rw [no rfl] at hm
    cases hm
  | some p =>
    have pc := yes p rfl
    obtain ⟨p1, p2, hp, hl⟩ := h
    obtain ⟨m1, m2⟩ := List.mem_filter.mp hm
    obtain ⟨q1, q2⟩ := cp m m1
    rcases lx_tri p m with z | z | z
    · exact absurd z (hmin p pc)
    · rw [z]
    · have := hl m q1 q2 z
      rw [pn q1 q2] at this
      rw [this] at m2
      cases m2
theorem lay_prs : ∀ S : List (Int × Int), PyData.canLayAll0 (S.map pD) = true ∧ PyData.depthAll (S.map pD) ≤ 1
  | [] => by simp [PyData.canLayAll0, PyData.depthAll]
  | x :: S => by
    obtain ⟨a, b⟩ := lay_prs S
    rw [List.map_cons]
    constructor
    · rw [PyData.canLayAll0, a]
      rfl
    · simp only [PyData.depthAll, PyData.depth]
      omega
theorem shaped_prs (S : List (Int × Int)) : SeqAt.shaped (.list (S.map pD)) = true := by
  obtain ⟨a, b⟩ := lay_prs S
  have d : PyData.depth (.list (S.map pD)) ≤ 64 := by
    simp only [PyData.depth]
    omega
  unfold SeqAt.shaped
  rw [PyData.canLay0, a]
  simpa using d
theorem eqv_prs : ∀ S : List (Int × Int), PyData.eqvAll (S.map pD) (S.map pD) = true
  | [] => rfl
  | x :: S => by
    rw [List.map_cons, PyData.eqvAll, eqv_prs S, eqv_pr2]
    simp
theorem eqvL_prs (S : List (Int × Int)) : PyData.eqv (.list (S.map pD)) (.list (S.map pD)) = true := by
  rw [PyData.eqv, eqv_prs]
theorem eqv_prs0 (S : List (Int × Int)) : PyData.eqv (.list (S.map pD)) (.list []) = decide (S = []) := by
  cases S <;> rfl
theorem due_min {cs : List Co} {a : Int × Int} {M : List (Int × Int)} (h : Can cs) (hp : ∀ c ∈ cs, posC c) (a1 : 1 ≤ a.1) (a2 : 1 ≤ a.2) (pw : M.Pairwise lxB)
    (mem : ∀ p, p ∈ M ↔ p ∈ (notP cs).map (ldI a) ∧ ∀ o ∈ (notP cs).map (ldI a), o.1 ≤ p.1 → o.2 ≤ p.2 → o = p) : minL cs a M := by
  have ov : ∀ p ∈ (notP cs).map (ldI a), ovr cs a p := fun p m => by
    obtain ⟨n, hn, rfl⟩ := List.mem_map.mp m
    refine ⟨by show 0 ≤ max 0 _; omega, by show 0 ≤ max 0 _; omega, fun z => not_held h hp n hn (held_mono z ?_ ?_)⟩
    · show n.1 ≤ a.1 + max 0 (n.1 - a.1)
      omega
    · show n.2 ≤ a.2 + max 0 (n.2 - a.2)
      omega
  have dn : ∀ q, ovr cs a q → ∃ l ∈ (notP cs).map (ldI a), l.1 ≤ q.1 ∧ l.2 ≤ q.2 := fun q ⟨q1, q2, q3⟩ => by
    obtain ⟨n, hn, n1, n2⟩ := not_above (by omega) (by omega) q3
    have e1 : (ldI a n).1 = max 0 (n.1 - a.1) := rfl
    have e2 : (ldI a n).2 = max 0 (n.2 - a.2) := rfl
    exact ⟨ldI a n, List.mem_map.mpr ⟨n, hn, rfl⟩, by omega, by omega⟩
  refine ⟨pw, fun p => ⟨fun m => ?_, fun ⟨o, mn⟩ => ?_⟩⟩
  · obtain ⟨m1, m2⟩ := (mem p).mp m
    refine ⟨ov p m1, fun q hq h1 h2 => ?_⟩
    obtain ⟨l, ml, l1, l2⟩ := dn q hq
    have e := m2 l ml (by omega) (by omega)
    subst e
    exact Prod.ext (by omega) (by omega)
  · obtain ⟨l, ml, l1, l2⟩ := dn p o
    have e := mn l (ov l ml) l1 l2
    subst e
    exact (mem l).mpr ⟨ml, fun k hk k1 k2 => mn k (ov k hk) k1 k2⟩
end G21
set_option Elab.async false
set_option linter.all false
set_option maxRecDepth 100000
set_option maxHeartbeats 4000000
set_option synthInstance.maxSize 100000
set_option synthInstance.maxHeartbeats 0
namespace G21
open PySem PySem.Spec PyProof.Rows L2 V3
@[simp ↓] def sp_greatok : VSp := fun us n q _ => us = [.dr, .d (plD 0 0 0)] ∧ n + 400 ≤ topD ∧ ∀ n', n' ≤ n + 300 → q (.d (.bool true)) n'
theorem flat_rD (r : Option (Int × Int)) : V3.flat (rD r) = true := by
  cases r <;> rfl
theorem not_len (cs : List Co) : (notP cs).length ≤ cs.length + 1 := by
  unfold notP
  rw [List.length_map]
  have := List.length_filter_le bothS (gapsO (some 0) cs)
  rw [gaps_len] at this
  exact this
section
variable {P : Program} {w : World} {K : PySem.W.Frag} {mg : Str → Option Value} {base : Heap} {TL : List (Addr × Str)}
theorem ok_l_great_ok (T : Txt K mg) (Y : TzS T base TL) : FnOk P w K mg base CX0 9 T.l_great_ok.a T.l_great_ok.d ["draw", "start"] (toSp K T.C TL false sp_greatok) := by
  refine T.l_great_ok.F.ok c_l_great_ok (fun vs H Q E h => toSp_len h fun us n q e hs => ?_) (fun cdv A outer s H vs Q E hr h => ?_)
  · obtain ⟨rfl, _⟩ := hs
    rfl
  · refine ⟨_,
      (C8.pss_cut (ps_par (i := 2) (j := 3) rfl c_l_great_ok.nd rfl rfl (by decide) rfl rfl (pa_cons (pe_call (ok_l_stairs T (TL := TL) Y) (hr.mono (by decide)) rfl T.l_stairs.g T.l_stairs.k T.l_stairs.b .nil pass0 (pa_cons (pv 0) (pa_cons pe_int pa_nil))) (pa_cons (pe_tup (pa_cons (pe_op (add3 K) pe_int (pe_call (ok_l_take T (TL := TL)) (hr.mono (by decide)) rfl T.l_take.g T.l_take.k T.l_take.b .nil pass0 (pa_cons (pv 0) (pa_cons pe_int pa_nil)))) (pa_cons (pe_op (add3 K) pe_int (pe_call (ok_l_take T (TL := TL)) (hr.mono (by decide)) rfl T.l_take.g T.l_take.k T.l_take.b .nil pass0 (pa_cons (pv 0) (pa_cons pe_int pa_nil)))) pa_nil))) pa_nil)) (by with_unfolding_all rfl))
      (C8.pss_cut (ps_set (i := 4) c_l_great_ok.nd rfl (Or.inl rfl) (pe_tup (pa_cons (pe_op op_sub (pe_call (ok_l_take T (TL := TL)) (hr.mono (by decide)) rfl T.l_take.g T.l_take.k T.l_take.b .nil pass0 (pa_cons (pv 0) (pa_cons pe_int pa_nil))) pe_int) (pa_cons (pe_op op_sub (pe_call (ok_l_take T (TL := TL)) (hr.mono (by decide)) rfl T.l_take.g T.l_take.k T.l_take.b .nil pass0 (pa_cons (pv 0) (pa_cons pe_int pa_nil))) pe_int) pa_nil))))
      (C8.pss_cut (ps_par (i := 5) (j := 6) rfl c_l_great_ok.nd rfl rfl (by decide) rfl rfl (pa_cons (pe_tup (pa_cons (pv 2) (pa_cons (pv 3) (pa_cons (pv 4) pa_nil)))) (pa_cons (pe_tup (pa_cons (pv 2) (pa_cons (pv 3) (pa_cons (pe_tup (pa_cons (pe_op (add3 K) (pe_ix (ix3 K) (pv 4) pe_int (fun _ _ => rfl)) (pe_call (ok_l_pick T (TL := TL)) (hr.mono (by decide)) rfl T.l_pick.g T.l_pick.k T.l_pick.b .nil pass0 (pa_cons (pv 0) (pa_cons (pe_lst (pa_cons pe_int (pa_cons pe_int (pa_cons (pe_un un_neg pe_int) pa_nil)))) pa_nil)))) (pa_cons (pe_op (add3 K) (pe_ix (ix3 K) (pv 4) pe_int (fun _ _ => rfl)) (pe_call (ok_l_pick T (TL := TL)) (hr.mono (by decide)) rfl T.l_pick.g T.l_pick.k T.l_pick.b .nil pass0 (pa_cons (pv 0) (pa_cons (pe_lst (pa_cons pe_int (pa_cons pe_int (pa_cons pe_int pa_nil)))) pa_nil)))) pa_nil))) pa_nil)))) pa_nil)) (by with_unfolding_all rfl))
      (C8.pss_cut (ps_if (pt_cmpR (eq3 K hr.units) (pe_call (ok_l_take T (TL := TL)) (hr.mono (by decide)) rfl T.l_take.g T.l_take.k T.l_take.b .nil pass0 (pa_cons (pv 0) (pa_cons pe_int pa_nil))) pe_int (nomark _))
      (pss_one (ps_set (i := 6) c_l_great_ok.nd rfl (Or.inl rfl) (pe_tup (pa_cons (pe_call (ok_l_joined T (TL := TL) Y) (hr.mono (by decide)) rfl T.l_joined.g T.l_joined.k T.l_joined.b .nil pass0 (pa_cons (pv 2) (pa_cons (pe_call (ok_l_stairs T (TL := TL) Y) (hr.mono (by decide)) rfl T.l_stairs.g T.l_stairs.k T.l_stairs.b .nil pass0 (pa_cons (pv 0) (pa_cons pe_int pa_nil))) pa_nil))) (pa_cons (pv 3) (pa_cons (pe_ix (ix3 K) (pv 6) pe_int (fun _ _ => rfl)) pa_nil))))))
      pss_nil)
      (C8.pss_cut (ps_asg (pe_tup (pa_cons (pe_tup (pa_cons (pv 1) (pa_cons (pv 5) pa_nil))) (pa_cons (pe_tup (pa_cons (pv 1) (pa_cons (pv 6) pa_nil))) pa_nil))) (tupG3 K (n := 2) rfl (pgs_cons (pg_name (i := 7) c_l_great_ok.nd rfl (Or.inr rfl) (hf := Or.inl rfl)) (pgs_cons (pg_name (i := 8) c_l_great_ok.nd rfl (Or.inr rfl) (hf := Or.inl rfl)) pgs_nil))))
      (C8.pss_cut (ps_set (i := 9) c_l_great_ok.nd rfl (Or.inl rfl) (pe_op (add3 K) (pe_lc (own := [("size", 16)]) (g := gName 16) (by rfl) c_l_great_ok.nd (seq3 K (pe_call (ok_l_turns T (TL := TL)) (hr.mono (by decide)) rfl T.l_turns.g T.l_turns.k T.l_turns.b .nil pass0 (pa_cons (pe_lst (pa_cons (pv 5) (pa_cons (pv 6) pa_nil))) (pa_cons pe_int pa_nil)))) (blkOk_by (own := [("size", 16)]) (N := N_l_great_ok) (sc := defScope S_l_great_ok) (by decide +kernel)) (fun _ _ _ _ _ => pg_name (i := 16) c_l_great_ok.nd rfl (Or.inl rfl)) (fun _ _ _ _ _ => pts_nil) (fun _ _ _ _ _ => (pe_tup (pa_cons (pv 16) (pa_cons pe_int pa_nil))))) (pe_lc (own := [("size", 16)]) (g := gName 16) (by rfl) c_l_great_ok.nd (seq3 K (pe_call (ok_l_turns T (TL := TL)) (hr.mono (by decide)) rfl T.l_turns.g T.l_turns.k T.l_turns.b .nil pass0 (pa_cons (pe_lst (pa_cons (pv 5) (pa_cons (pv 6) pa_nil))) (pa_cons pe_int pa_nil)))) (blkOk_by (own := [("size", 16)]) (N := N_l_great_ok) (sc := defScope S_l_great_ok) (by decide +kernel)) (fun _ _ _ _ _ => pg_name (i := 16) c_l_great_ok.nd rfl (Or.inl rfl)) (fun _ _ _ _ _ => pts_nil) (fun _ _ _ _ _ => (pe_tup (pa_cons pe_int (pa_cons (pv 16) pa_nil)))))))
      (C8.pss_cut (ps_setLc (i := 9) (own := [("body", 11)]) (g := gName 11) (by rfl) c_l_great_ok.nd rfl rfl (sw_true rfl rfl rfl (by decide +kernel)) (seq3 K (pe_op (add3 K) (pe_op (add3 K) (pv 9) (pe_call (ok_l_notches T (TL := TL)) (hr.mono (by decide)) rfl T.l_notches.g T.l_notches.k T.l_notches.b .nil pass0 (pa_cons (pe_ix (ix3 K) (pv 5) pe_int (fun _ _ => rfl)) pa_nil))) (pe_call (ok_l_notches T (TL := TL)) (hr.mono (by decide)) rfl T.l_notches.g T.l_notches.k T.l_notches.b .nil pass0 (pa_cons (pe_ix (ix3 K) (pv 6) pe_int (fun _ _ => rfl)) pa_nil)))) (blkOk_by (own := [("body", 11)]) (N := N_l_great_ok) (sc := defScope S_l_great_ok) (by decide +kernel)) (fun _ _ _ _ _ => pg_name (i := 11) c_l_great_ok.nd rfl (Or.inl rfl)) (fun _ _ _ _ _ => (pts_one (pt_val (pe_call (ok_l_unlike T (TL := TL)) (hr.mono (by decide)) rfl T.l_unlike.g T.l_unlike.k T.l_unlike.b .nil pass0 (pa_cons (pv 7) (pa_cons (pv 8) (pa_cons (pv 11) pa_nil))))))) (fun _ _ _ _ _ => (pv 11)))
      (C8.pss_cut (ps_set (i := 10) c_l_great_ok.nd rfl (Or.inl rfl) (pe_call (ok_q_form_parting T (TL := TL)) (hr.mono (by decide)) rfl T.q_form_parting.g T.q_form_parting.k T.q_form_parting.b .nil passL (pa_cons (pe_make T.M (ok_q_Form_init T (TL := TL)) (hr.mono (by decide)) rfl T.gC T.bI .nil passL (pa_cons (pv 1) (pa_cons (pv 1) (pa_cons (pe_ix (ix3 K) (pv 5) pe_int (fun _ _ => rfl)) (pa_cons (pe_ix (ix3 K) (pv 5) pe_int (fun _ _ => rfl)) (pa_cons (pe_ix (ix3 K) (pv 5) pe_int (fun _ _ => rfl)) pa_nil)))))) (pa_cons (pe_make T.M (ok_q_Form_init T (TL := TL)) (hr.mono (by decide)) rfl T.gC T.bI .nil passL (pa_cons (pv 1) (pa_cons (pv 1) (pa_cons (pe_ix (ix3 K) (pv 6) pe_int (fun _ _ => rfl)) (pa_cons (pe_ix (ix3 K) (pv 6) pe_int (fun _ _ => rfl)) (pa_cons (pe_ix (ix3 K) (pv 6) pe_int (fun _ _ => rfl)) pa_nil)))))) pa_nil))))
      (C8.pss_cut (ps_if (pt_cmpR (ne3 K hr.units) (pv 10) (pe_ifExp (pt_cmpR (ne3 K hr.units) (pv 9) (pe_lst pa_nil) (nomark _)) (pe_callB (minP3 K rfl (un65 hr)) (by rfl) T.z_min (by decide +kernel) (pa_cons (pv 9) pa_nil)) pe_non) (nomark _))
      (pss_one (ps_ret pe_bl))
      pss_nil)
      (C8.pss_cut (ps_set (i := 11) c_l_great_ok.nd rfl (Or.inr rfl) (pe_call (ok_l_beside T (TL := TL)) (hr.mono (by decide)) rfl T.l_beside.g T.l_beside.k T.l_beside.b .nil pass0 (pa_cons (pv 0) (pa_cons (pe_callTy (list3 K) (by rfl) T.z_list (by decide +kernel) (pa_cons (pv 2) pa_nil)) pa_nil))))
      (C8.pss_cut (ps_setLc (i := 12) (own := [("notch", 17)]) (g := gName 17) (by rfl) c_l_great_ok.nd rfl rfl (sw_true rfl rfl rfl (by decide +kernel)) (seq3 K (pe_call (ok_l_notches T (TL := TL)) (hr.mono (by decide)) rfl T.l_notches.g T.l_notches.k T.l_notches.b .nil pass0 (pa_cons (pv 2) pa_nil))) (blkOk_by (own := [("notch", 17)]) (N := N_l_great_ok) (sc := defScope S_l_great_ok) (by decide +kernel)) (fun _ _ _ _ _ => pg_name (i := 17) c_l_great_ok.nd rfl (Or.inl rfl)) (fun _ _ _ _ _ => pts_nil) (fun _ _ _ _ _ => (pe_tup (pa_cons (pe_callB (max3 K rfl (hu_of hr)) (by rfl) T.z_max (by decide +kernel) (pa_cons pe_int (pa_cons (pe_op op_sub (pe_ix (ix3 K) (pv 17) pe_int (fun _ _ => rfl)) (pe_ix (ix3 K) (pv 11) pe_int (fun _ _ => rfl))) pa_nil))) (pa_cons (pe_callB (max3 K rfl (hu_of hr)) (by rfl) T.z_max (by decide +kernel) (pa_cons pe_int (pa_cons (pe_op op_sub (pe_ix (ix3 K) (pv 17) pe_int (fun _ _ => rfl)) (pe_ix (ix3 K) (pv 11) pe_int (fun _ _ => rfl))) pa_nil))) pa_nil)))))
      (C8.pss_cut (ps_set (i := 13) c_l_great_ok.nd rfl (Or.inl rfl) (pe_lst pa_nil))
      (pss_cons (ps_for PassesOwn.never rfl (seq3 K (pv 12)) (pg_name (i := 14) c_l_great_ok.nd rfl (Or.inr rfl))
      (C8.pss_cut (ps_setLc (i := 15) (own := [("old", 18)]) (g := gName 18) (by rfl) c_l_great_ok.nd rfl rfl (sw_true rfl rfl rfl (by decide +kernel)) (seq3 K (pv 12)) (blkOk_by (own := [("old", 18)]) (N := N_l_great_ok) (sc := defScope S_l_great_ok) (by decide +kernel)) (fun _ _ _ _ _ => pg_name (i := 18) c_l_great_ok.nd rfl (Or.inl rfl)) (fun _ _ _ _ _ => (pts_one (PW.pt (pw_and (pt_cmpR op_le (pe_ix (ix3 K) (pv 18) pe_int (fun _ _ => rfl)) (pe_ix (ix3 K) (pv 14) pe_int (fun _ _ => rfl)) (nomark _)) (pw_and1 (pt_cmpR op_le (pe_ix (ix3 K) (pv 18) pe_int (fun _ _ => rfl)) (pe_ix (ix3 K) (pv 14) pe_int (fun _ _ => rfl)) (nomark _))))))) (fun _ _ _ _ _ => (pv 18)))
      (pss_one (ps_if (PW.pt (pw_and (pt_cmpR (eq3 K hr.units) (pe_lc (own := [("old", 18)]) (g := gName 18) (by rfl) c_l_great_ok.nd (seq3 K (pv 15)) (blkOk_by (own := [("old", 18)]) (N := N_l_great_ok) (sc := defScope S_l_great_ok) (by decide +kernel)) (fun _ _ _ _ _ => pg_name (i := 18) c_l_great_ok.nd rfl (Or.inl rfl)) (fun _ _ _ _ _ => (pts_one (pt_cmpR (ne3 K hr.units) (pv 18) (pv 14) (nomark _)))) (fun _ _ _ _ _ => pe_int)) (pe_lst pa_nil) (nomark _)) (pw_and1 (pt_cmpR (notIn3 K (un65 hr)) (pv 14) (pv 13) rfl))))
      (pss_one (ps_expr (bm3 K PySem.F.plainAttrs_list PySem.F.slot_list_append PySem.F.type_list_append mt_append (pv 13) (pa_cons (pv 14) pa_nil))))
      pss_nil))))
      (pss_one (ps_ret (pe_cmpR (eq3 K hr.units) (pe_call (ok_q_least_loads T (TL := TL)) (hr.mono (by decide)) rfl T.q_least_loads.g T.q_least_loads.k T.q_least_loads.b .nil passL (pa_cons (pe_make T.M (ok_q_Form_init T (TL := TL)) (hr.mono (by decide)) rfl T.gC T.bI .nil passL (pa_cons (pv 1) (pa_cons (pv 1) (pa_cons (pe_ix (ix3 K) (pv 5) pe_int (fun _ _ => rfl)) (pa_cons (pe_ix (ix3 K) (pv 5) pe_int (fun _ _ => rfl)) (pa_cons (pe_ix (ix3 K) (pv 5) pe_int (fun _ _ => rfl)) pa_nil)))))) (pa_cons (pv 11) pa_nil))) (pe_callB (sorted3 K 2 (by decide)) (by rfl) T.z_sorted (by decide +kernel) (pa_cons (pv 13) pa_nil)) (nomark _)))))))))))))))))
      , run3 (K := K) (C := T.C) (TL := TL) h fun us n q e hs => ?_⟩
    obtain ⟨rfl, hn, hq⟩ := hs
    have hc := capD_eq
    simp [ro0, -List.mem_cons]
    refine Exists.intro (fun (ρ : Ro) (k : Nat) => k ≤ n + 60 ∧ ∃ (cs : List Co) (l : Int × Int), ρ = [.fz .dr, .fz (.d (plD 0 0 0)), .fz (.d (.tuple (cs.map cD))), .fz (.d (pD l)), .no, .no, .no, .no, .no, .no, .no, .no, .no, .no, .no, .no, .no, .no, .no] ∧ Can cs ∧ (∀ c ∈ cs, smC 100000 c) ∧ cs.length ≤ 5 ∧ 1 ≤ l.1 ∧ 1 ≤ l.2) (And.intro ?_ ?_)
    · refine ⟨4, rfl, by omega, by omega, fun cs n' h1 h2 h3 h4 => ⟨by omega, by omega, fun x x0 x1 => ⟨by omega, by omega, fun y y0 y1 => ⟨by omega, cs, (1 + x, 1 + y), rfl, h1, fun c hc => h2 c.1 c.2 hc, by omega, by dsimp only; omega, by dsimp only; omega⟩⟩⟩⟩
    rintro ρ k1 ⟨hk1, cs, l, rfl, hcan, hsm, hlen, hl1, hl2⟩
    simp [-List.mem_cons, -asL, -V3.forL]
    refine Exists.intro (fun (ρ : Ro) (k : Nat) => k ≤ n + 70 ∧ ∃ (b : Int × Int), ρ = [.fz .dr, .fz (.d (plD 0 0 0)), .fz (.d (.tuple (cs.map cD))), .fz (.d (pD l)), .fz (.d (pD b)), .no, .no, .no, .no, .no, .no, .no, .no, .no, .no, .no, .no, .no, .no]) (And.intro ?_ ?_)
    · exact ⟨by omega, by omega, fun x x0 x1 => ⟨by omega, by omega, fun y y0 y1 => ⟨by omega, (x - 49, y - 49), rfl⟩⟩⟩
    rintro ρ k2 ⟨hk2, b, rfl⟩
    simp [-List.mem_cons, -asL, -V3.forL]
    refine Exists.intro (fun (ρ : Ro) (k : Nat) => k ≤ n + 80 ∧ ∃ (b2 : Int × Int), ρ = [.fz .dr, .fz (.d (plD 0 0 0)), .fz (.d (.tuple (cs.map cD))), .fz (.d (pD l)), .fz (.d (pD b)), .fz (.d (.tuple [.tuple (cs.map cD), pD l, pD b])), .fz (.d (.tuple [.tuple (cs.map cD), pD l, pD b2])), .no, .no, .no, .no, .no, .no, .no, .no, .no, .no, .no, .no]) (And.intro ?_ ?_)
    · refine ⟨by omega, fun y hy => ?_⟩
      have hy : ∃ z : Int, y = .int z := by
        simp only [List.mem_cons, List.not_mem_nil, or_false] at hy
        rcases hy with rfl | rfl | rfl <;> exact ⟨_, rfl⟩
      obtain ⟨z, rfl⟩ := hy
      refine ⟨rfl, by omega, fun y hy => ?_⟩
      have hy : ∃ z : Int, y = .int z := by
        simp only [List.mem_cons, List.not_mem_nil, or_false] at hy
        rcases hy with rfl | rfl | rfl <;> exact ⟨_, rfl⟩
      obtain ⟨w, rfl⟩ := hy
      exact ⟨rfl, flat_cos cs, by omega, (b.1 + z, b.2 + w), rfl⟩
    rintro ρ k3 ⟨hk3, b2, rfl⟩
    simp [-List.mem_cons, -asL, -V3.forL]
    refine Exists.intro (fun (ρ : Ro) (k : Nat) => k ≤ n + 140 ∧ ∃ (f g : Fm), ρ = [.fz .dr, .fz (.d (plD 0 0 0)), .fz (.d (.tuple (f.cs.map cD))), .fz (.d (pD f.l)), .fz (.d (pD f.b)), .fz (.d (rwD f)), .fz (.d (rwD g)), .no, .no, .no, .no, .no, .no, .no, .no, .no, .no, .no, .no] ∧ (f.e = plD 0 0 0 ∧ g.e = plD 0 0 0) ∧ f.l = g.l ∧ (1 ≤ f.l.1 ∧ 1 ≤ f.l.2) ∧ (Can f.cs ∧ Can g.cs) ∧ ((∀ c ∈ f.cs, posC c) ∧ ∀ c ∈ g.cs, posC c) ∧ f.cs.length ≤ 5 ∧ g.cs.length ≤ 10) (And.intro ?_ ?_)
    · have pos : ∀ c ∈ cs, posC c := fun c hc => ⟨fun k e => ((hsm c hc).1 k e).1, fun k e => ((hsm c hc).2 k e).1⟩
      refine ⟨by omega, by omega, fun x x0 x1 => ?_⟩
      by_cases hx : x = 0
      · rw [if_pos hx]
        refine ⟨2, rfl, by omega, by omega, fun ds n' d1 d2 d3 d4 => ⟨_, _, ⟨rfl, rfl⟩, cs, rfl, ds, rfl, by omega, fun es he => ?_⟩⟩
        obtain ⟨e1, e2, e3, e4⟩ := he
        rw [List.length_append] at e4
        refine ⟨by omega, ⟨plD 0 0 0, cs, l, b⟩, ⟨plD 0 0 0, es, l, b2⟩, rfl, ⟨rfl, rfl⟩, rfl, ⟨hl1, hl2⟩, ⟨hcan, e1⟩, ⟨pos, fun c hc => ?_⟩, by dsimp only; omega, by dsimp only; omega⟩
        rcases List.mem_append.mp (e2 c hc) with z | z
        · exact pos c z
        · have := d2 c.1 c.2 z
          exact ⟨fun k e => (this.1 k e).1, fun k e => (this.2 k e).1⟩
      · rw [if_neg hx]
        exact ⟨by omega, ⟨plD 0 0 0, cs, l, b⟩, ⟨plD 0 0 0, cs, l, b2⟩, rfl, ⟨rfl, rfl⟩, rfl, ⟨hl1, hl2⟩, ⟨hcan, hcan⟩, ⟨pos, pos⟩, by dsimp only; omega, by dsimp only; omega⟩
    rintro ρ k4 ⟨hk4, f, g, rfl, ⟨ef, eg⟩, el, ⟨hl1, hl2⟩, ⟨cf, cg⟩, ⟨pf, pg⟩, lf, lg⟩
    have hc2 : ∀ k : Nat, k ≤ 9000 → k ≤ sizeLine := fun k hk => Nat.le_of_lt (few (by omega))
    have e1 : fwD f = PyData.tuple [plD 0 0 0, rwD f] := by
      show PyData.tuple [f.e, rwD f] = _
      rw [ef]
    have e2 : fwD g = PyData.tuple [plD 0 0 0, rwD g] := by
      show PyData.tuple [g.e, rwD g] = _
      rw [eg]
    have ok1 : okE f.e := by rw [ef]; exact ⟨rfl, _, rfl⟩
    have ok2 : okE g.e := by rw [eg]; exact ⟨rfl, _, rfl⟩
    have ee : PyData.eqv f.e g.e = true := by rw [ef, eg]; rfl
    have t0 : (turnL f g 0).length ≤ 6 := List.length_filter_le _ _
    have t1 : (turnL f g 1).length ≤ 6 := List.length_filter_le _ _
    have n0 := not_len f.cs
    have n1 := not_len g.cs
    simp [-List.mem_cons, -asL, -V3.forL]
    refine Exists.intro (fun (ρ : Ro) (k : Nat) => k ≤ n + 140 ∧ ρ = [.fz .dr, .fz (.d (plD 0 0 0)), .fz (.d (.tuple (f.cs.map cD))), .fz (.d (pD f.l)), .fz (.d (pD f.b)), .fz (.d (rwD f)), .fz (.d (rwD g)), .fz (.d (fwD f)), .fz (.d (fwD g)), .no, .no, .no, .no, .no, .no, .no, .no, .no, .no]) (And.intro ?_ ?_)
    · exact ⟨hk4, by rw [e1, e2]⟩
    rintro ρ k5 ⟨hk5, rfl⟩
    simp [-asL, -V3.forL]
    refine Exists.intro (fun (ρ : Ro) (k : Nat) => k ≤ n + 140 ∧ ∃ L0 : List (Int × Int), ρ = [.fz .dr, .fz (.d (plD 0 0 0)), .fz (.d (.tuple (f.cs.map cD))), .fz (.d (pD f.l)), .fz (.d (pD f.b)), .fz (.d (rwD f)), .fz (.d (rwD g)), .fz (.d (fwD f)), .fz (.d (fwD g)), .ow (L0.map pD), .no, .no, .no, .no, .no, .no, .no, .no, .no] ∧ L0 = ((turnL f g 0).map fun s => (s, (1 : Int))) ++ (turnL f g 1).map fun s => ((1 : Int), s)) (And.intro ?_ ?_)
    · refine ⟨f, g, 0, ⟨⟨⟨rfl, ⟨rfl, rfl⟩, rfl, rfl⟩, rfl, ⟨rfl, rfl⟩, rfl, rfl⟩, rfl⟩, .inl rfl, few (by omega), lcL_all PyData.int (fun s => pD (s, 1)) (turnL f g 0) _ _ (fun s _ m Kt Ks h => by simp; exact h) ?_⟩
      refine ⟨f, g, 1, ⟨⟨⟨rfl, ⟨rfl, rfl⟩, rfl, rfl⟩, rfl, ⟨rfl, rfl⟩, rfl, rfl⟩, rfl⟩, .inr rfl, few (by omega), lcL_all PyData.int (fun s => pD (1, s)) (turnL f g 1) _ _ (fun s _ m Kt Ks h => by simp; exact h) ?_⟩
      refine ⟨hc2 _ (by simp; omega), hk5, _, ?_, rfl⟩
      rw [List.map_append, List.map_map, List.map_map]
      rfl
    rintro ρ k6 ⟨hk6, L0, rfl, eL0⟩
    have l0 : L0.length ≤ 12 := by rw [eL0]; simp; omega
    simp [-asL, -V3.forL]
    refine Exists.intro (fun (ρ : Ro) (k : Nat) => k ≤ n + 140 ∧ ∃ L : List (Int × Int), ρ = [.fz .dr, .fz (.d (plD 0 0 0)), .fz (.d (.tuple (f.cs.map cD))), .fz (.d (pD f.l)), .fz (.d (pD f.b)), .fz (.d (rwD f)), .fz (.d (rwD g)), .fz (.d (fwD f)), .fz (.d (fwD g)), .ow (L.map pD), .no, .no, .no, .no, .no, .no, .no, .no, .no] ∧ L = (canL f g).filter fun p => prtB f g p) (And.intro ?_ ?_)
    · refine ⟨f.cs, rfl, by omega, cf, hc2 _ (by omega), g.cs, rfl, by omega, cg, hc2 _ (by omega), few (by omega), ?_⟩
      have em : List.map pD L0 ++ (List.map pD (notP f.cs) ++ List.map pD (notP g.cs)) = (canL f g).map pD := by
        rw [eL0]
        unfold canL
        simp
      rw [em]
      refine lcL_pure pD pD (fun p => prtB f g p) (canL f g) _ _ (fun p _ m Kt Ks h => ?_) ?_
      · simp
        refine ⟨f, g, p.1, p.2, by simp, by omega, by omega, ok1, ok2, ?_⟩
        simpa using h
      · rw [if_pos (flat_pDs _)]
        exact ⟨hk6, _, rfl, rfl⟩
    rintro ρ k7 ⟨hk7, L, rfl, eL⟩
    simp [-asL, -V3.forL]
    refine Exists.intro (fun (ρ : Ro) (k : Nat) => k ≤ n + 140 ∧ ∃ r : Option (Int × Int), ρ = [.fz .dr, .fz (.d (plD 0 0 0)), .fz (.d (.tuple (f.cs.map cD))), .fz (.d (pD f.l)), .fz (.d (pD f.b)), .fz (.d (rwD f)), .fz (.d (rwD g)), .fz (.d (fwD f)), .fz (.d (fwD g)), .ow (L.map pD), .fz (.d (rD r)), .no, .no, .no, .no, .no, .no, .no, .no] ∧ fstP (nrm f) (nrm g) r) (And.intro ?_ ?_)
    · refine ⟨0, 0, 0, 0, 0, 0, f.cs, f.l, f.b, rfl, by decide, by decide, cf, pf, by omega, hl1, hl2, 0, 0, 0, 0, 0, 0, g.cs, g.l, g.b, rfl, by decide, by decide, cg, pg, by omega, by rw [← el]; exact hl1, by rw [← el]; exact hl2, _, _, ⟨rfl, rfl⟩, plD 0 0 0, nrm f, ?_, plD 0 0 0, nrm g, ?_, ?_, ok1, ok2, fun r hr => ?_⟩
      · show _ = U.ob (fldF _ f.e _ _ _)
        rw [ef]
        rfl
      · show _ = U.ob (fldF _ g.e _ _ _)
        rw [eg]
        rfl
      · show f.cs.length + g.cs.length ≤ 16
        omega
      · exact ⟨hk7, r, rfl, hr⟩
    rintro ρ k8 ⟨hk8, r, rfl, hr⟩
    simp [-asL, -V3.forL]
    refine Exists.intro (fun (ρ : Ro) (k : Nat) => k ≤ n + 140 ∧ ρ = [.fz .dr, .fz (.d (plD 0 0 0)), .fz (.d (.tuple (f.cs.map cD))), .fz (.d (pD f.l)), .fz (.d (pD f.b)), .fz (.d (rwD f)), .fz (.d (rwD g)), .fz (.d (fwD f)), .fz (.d (fwD g)), .ow (L.map pD), .fz (.d (rD r)), .no, .no, .no, .no, .no, .no, .no, .no]) (And.intro ?_ ?_)
    · refine ⟨shaped_prs L, by rfl, ?_⟩
      obtain ⟨gy, gn, gm⟩ := great_first cf cg pf pg el ee hr
      rw [← eL] at gy gn gm
      rw [eqv_prs0]
      by_cases hL : L = []
      · have ed : decide (L = []) = true := decide_eq_true hL
        have er : r = none := by
          cases r with
          | none => rfl
          | some p =>
            have := gy p rfl
            rw [hL] at this
            cases this
        subst er
        simp only [ed, if_true]
        show SeqAt.shaped .none = true ∧ SeqAt.shaped .none = true ∧ _
        refine ⟨by rfl, by rfl, ?_⟩
        simp [PyData.eqv]
        exact hk8
      · have ed : decide (L = []) = false := decide_eq_false hL
        simp only [ed, Bool.false_eq_true, if_false]
        refine ⟨L, rfl, hL, fun a b hm hmin => ?_⟩
        have er := gm (a, b) hm fun o ho => hmin o.1 o.2 ho
        subst er
        simp [rD]
        exact ⟨shaped_pr2 _ _, by simp [eqv_pr2]; exact hk8⟩
    rintro ρ k9 ⟨hk9, rfl⟩
    simp [-asL, -V3.forL]
    refine Exists.intro (fun (ρ : Ro) (k : Nat) => k ≤ n + 200 ∧ ∃ a : Int × Int, ρ = [.fz .dr, .fz (.d (plD 0 0 0)), .fz (.d (.tuple (f.cs.map cD))), .fz (.d (pD f.l)), .fz (.d (pD f.b)), .fz (.d (rwD f)), .fz (.d (rwD g)), .fz (.d (fwD f)), .fz (.d (fwD g)), .ow (L.map pD), .fz (.d (rD r)), .fz (.d (pD a)), .no, .no, .no, .no, .no, .no, .no] ∧ 1 ≤ a.1 ∧ 1 ≤ a.2) (And.intro ?_ ?_)
    · exact ⟨f.cs, rfl, by omega, by omega, fun a b n' h1 h2 h3 => ⟨by omega, (a, b), rfl, h1, h2⟩⟩
    rintro ρ k10 ⟨hk10, a, rfl, a1, a2⟩
    simp [-asL, -V3.forL]
    refine Exists.intro (fun (ρ : Ro) (k : Nat) => k ≤ n + 200 ∧ ∃ M : List (Int × Int), ρ = [.fz .dr, .fz (.d (plD 0 0 0)), .fz (.d (.tuple (f.cs.map cD))), .fz (.d (pD f.l)), .fz (.d (pD f.b)), .fz (.d (rwD f)), .fz (.d (rwD g)), .fz (.d (fwD f)), .fz (.d (fwD g)), .ow (L.map pD), .fz (.d (rD r)), .fz (.d (pD a)), .ow (M.map pD), .no, .no, .no, .no, .no, .no] ∧ M = (notP f.cs).map (ldI a)) (And.intro ?_ ?_)
    · refine ⟨f.cs, rfl, by omega, cf, few (by omega), lcL_all pD (fun p => pD (ldI a p)) (notP f.cs) _ _ (fun p _ m Kt Ks h => by simp; exact h) ⟨hk10, _, ?_, rfl⟩⟩
      rw [List.map_map]
      rfl
    rintro ρ k11 ⟨hk11, M, rfl, eM⟩
    have lM : M.length ≤ 6 := by rw [eM]; simp; omega
    simp [-asL, -V3.forL]
    refine Exists.intro (fun (ρ : Ro) (k : Nat) => k ≤ n + 200 ∧ ρ = [.fz .dr, .fz (.d (plD 0 0 0)), .fz (.d (.tuple (f.cs.map cD))), .fz (.d (pD f.l)), .fz (.d (pD f.b)), .fz (.d (rwD f)), .fz (.d (rwD g)), .fz (.d (fwD f)), .fz (.d (fwD g)), .ow (L.map pD), .fz (.d (rD r)), .fz (.d (pD a)), .ow (M.map pD), .ow [], .no, .no, .no, .no, .no]) (And.intro ?_ ?_)
    · exact ⟨hk11, rfl⟩
    rintro ρ k12 ⟨hk12, rfl⟩
    simp [-asL, -V3.forL]
    refine forL_mapW pD (fun done left ρ k => k ≤ n + 200 ∧ done ++ left = M ∧ ∃ (W : List (Int × Int)) (z14 z15 : Sl), ρ = [.fz .dr, .fz (.d (plD 0 0 0)), .fz (.d (.tuple (f.cs.map cD))), .fz (.d (pD f.l)), .fz (.d (pD f.b)), .fz (.d (rwD f)), .fz (.d (rwD g)), .fz (.d (fwD f)), .fz (.d (fwD g)), .ow (L.map pD), .fz (.d (rD r)), .fz (.d (pD a)), .fz (.d (.list (M.map pD))), .ow (W.map pD), z14, z15, .no, .no, .no] ∧ W.Nodup ∧ (∀ p, p ∈ W ↔ p ∈ done ∧ ∀ o ∈ M, o.1 ≤ p.1 → o.2 ≤ p.2 → o = p) ∧ W.length ≤ done.length) M [] _ _ ?_ ?_ ?_
    · rintro done ρ k ⟨hk, hd, W, z14, z15, rfl, nd, mem, hl⟩
      rw [List.append_nil] at hd
      simp [-asL]
      refine ⟨0, 0, 0, 0, 0, 0, f.cs, f.l, f.b, rfl, by decide, by decide, cf, pf, by omega, hl1, hl2, _, _, ⟨rfl, rfl⟩, plD 0 0 0, nrm f, ?_, ?_, by show f.cs.length ≤ 20; omega, cf, fun c d m => pf (c, d) m, ?_, fun c d ecd c1 c2 Lm hLm hLl => .inr ⟨W.map fun p => [p.1, p.2], by rw [← pD_tup], (fun l hl => by obtain ⟨p, _, rfl⟩ := List.mem_map.mp hl; rfl), fun M' pm so => ?_⟩⟩
      · show _ = U.ob (fldF _ f.e _ _ _)
        rw [ef]
        rfl
      · intro xs z
        cases z
        simp
      · simp [isBd, isSzD, a1, a2]
      obtain ⟨zs, rfl, pz⟩ := perm_map2 pm
      rw [← pD_tup]
      have so2 : zs.Pairwise leP := (List.pairwise_map.mp so).imp fun h => lex_leP h
      have nz : zs.Nodup := pz.nodup_iff.mpr nd
      have so3 : zs.Pairwise lxB := (so2.and nz).imp fun {p o} ⟨h1, h2⟩ => by
        unfold leP at h1
        unfold lxB
        by_cases e1 : p.1 = o.1
        · by_cases e2 : p.2 = o.2
          · exact absurd (Prod.ext e1 e2) h2
          · omega
        · omega
      obtain ⟨b1, b2⟩ := a
      obtain ⟨rfl, rfl⟩ : b1 = c ∧ b2 = d := by simpa using ecd
      have hz : minL f.cs (b1, b2) zs := due_min cf pf a1 a2 so3 fun p => by rw [← eM, pz.mem_iff, mem p, hd]
      rw [min_uniq hLm hz, eqvL_prs]
      exact ⟨shaped_prs _, shaped_prs _, hq _ (by omega)⟩
    · rintro done x left ρ k G hG ⟨hk, hd, W, z14, z15, rfl, nd, mem, hl⟩
      have hlen := congrArg List.length hd
      simp at hlen
      simp [-asL]
      refine Exists.intro (fun (ρ : Ro) (j : Nat) => j = k ∧ ∃ O : List (Int × Int), ρ = [.fz .dr, .fz (.d (plD 0 0 0)), .fz (.d (.tuple (f.cs.map cD))), .fz (.d (pD f.l)), .fz (.d (pD f.b)), .fz (.d (rwD f)), .fz (.d (rwD g)), .fz (.d (fwD f)), .fz (.d (fwD g)), .ow (L.map pD), .fz (.d (rD r)), .fz (.d (pD a)), .fz (.d (.list (M.map pD))), .ow (W.map pD), .fz (.d (pD x)), .ow (O.map pD), .no, .no, .no] ∧ O = M.filter fun o => decide (o.1 ≤ x.1) && decide (o.2 ≤ x.2)) (And.intro ?_ ?_)
      · refine ⟨few (by omega), lcL_pure pD pD (fun o => decide (o.1 ≤ x.1) && decide (o.2 ≤ x.2)) M _ _ (fun o _ m Kt Ks h => ?_) ?_⟩
        · by_cases h1 : o.1 ≤ x.1 <;> by_cases h2 : o.2 ≤ x.2 <;> simp [h1, h2] at h ⊢ <;> exact h
        exact ⟨rfl, _, rfl, rfl⟩
      rintro ρ j ⟨rfl, O, rfl, eO⟩
      simp [-asL]
      have lO : O.length ≤ 6 := by
        rw [eO]
        exact Nat.le_trans (List.length_filter_le _ _) lM
      have hdd : (done ++ [x]) ++ left = M := by
        rw [List.append_assoc]
        exact hd
      have mO : ∀ o, o ∈ O ↔ o ∈ M ∧ o.1 ≤ x.1 ∧ o.2 ≤ x.2 := fun o => by
        rw [eO, List.mem_filter]
        simp
      refine ⟨few (by omega), lcL_pure pD (fun _ => PyData.int 1) (fun o => !decide (o = x)) O _ _ (fun o _ m Kt Ks h => ?_) ⟨ones_shA _ _, by rfl, ?_⟩⟩
      · simp [eqv_pr2]
        refine ⟨shaped_pr2 _ _, shaped_pr2 _ _, ?_⟩
        by_cases hox : o = x
        · subst hox
          simpa using h
        · have : ¬o.1 = x.1 ∨ ¬o.2 = x.2 := by
            by_cases e1 : o.1 = x.1
            · exact .inr fun e2 => hox (Prod.ext e1 e2)
            · exact .inl e1
          rw [if_pos this]
          simpa [hox] using h
      by_cases hx : ∀ o ∈ M, o.1 ≤ x.1 → o.2 ≤ x.2 → o = x
      · have e : (PyData.list ((O.filter fun o => !decide (o = x)).map fun _ => PyData.int 1)).eqv (PyData.list []) = true := by
          rw [ones_eqA, List.all_eq_true]
          intro o m
          obtain ⟨m1, m2, m3⟩ := (mO o).mp m
          simp [hx o m1 m2 m3]
        simp only [e, if_true]
        refine ⟨shaped_pr2 _ _, shaped_prs W, ?_⟩
        by_cases xw : x ∈ W
        · have e2 : ((W.map pD).any fun z => PyData.eqv z (pD x)) = true := List.any_eq_true.mpr ⟨pD x, List.mem_map.mpr ⟨x, xw, rfl⟩, by rw [eqv_pr2]; simp⟩
          simp only [e2, Bool.not_true, Bool.false_eq_true, if_false]
          refine hG _ _ ⟨hk, hdd, W, _, _, rfl, nd, fun p => ⟨fun h => ?_, fun ⟨h1, h2⟩ => ?_⟩, by simp; omega⟩
          · obtain ⟨h1, h2⟩ := (mem p).mp h
            exact ⟨List.mem_append_left _ h1, h2⟩
          · rcases List.mem_append.mp h1 with z | z
            · exact (mem p).mpr ⟨z, h2⟩
            · rw [List.mem_singleton.mp z]
              exact xw
        · have e2 : ((W.map pD).any fun z => PyData.eqv z (pD x)) = false := by
            rw [List.any_eq_false]
            intro z hz
            obtain ⟨w, hw, rfl⟩ := List.mem_map.mp hz
            rw [eqv_pr2]
            intro y
            have ew : w = x := of_decide_eq_true y
            exact xw (ew ▸ hw)
          simp only [e2, Bool.not_false, if_true]
          refine ⟨few (by omega), hG _ _ ⟨hk, hdd, W ++ [x], _, _, by rw [List.map_append]; rfl, List.nodup_append.mpr ⟨nd, by simp, fun u hu v hv => ?_⟩, fun p => ⟨fun h => ?_, fun ⟨h1, h2⟩ => ?_⟩, by simp; omega⟩⟩
          · rw [List.mem_singleton.mp hv]
            exact fun z => xw (z ▸ hu)
          · rcases List.mem_append.mp h with z | z
            · obtain ⟨h1, h2⟩ := (mem p).mp z
              exact ⟨List.mem_append_left _ h1, h2⟩
            · rw [List.mem_singleton.mp z]
              exact ⟨List.mem_append_right _ (List.mem_singleton.mpr rfl), hx⟩
          · rcases List.mem_append.mp h1 with z | z
            · exact List.mem_append_left _ ((mem p).mpr ⟨z, h2⟩)
            · exact List.mem_append_right _ z
      · have e : (PyData.list ((O.filter fun o => !decide (o = x)).map fun _ => PyData.int 1)).eqv (PyData.list []) = false := by
          rw [ones_eqA, List.all_eq_false]
          by_cases z : ∃ o ∈ O, o ≠ x
          · obtain ⟨o, m, z⟩ := z
            exact ⟨o, m, by simp [z]⟩
          · exact absurd (fun o m1 m2 m3 => by
              by_cases y : o = x
              · exact y
              · exact absurd ⟨o, (mO o).mpr ⟨m1, m2, m3⟩, y⟩ z) hx
        simp only [e, Bool.false_eq_true, if_false]
        refine hG _ _ ⟨hk, hdd, W, _, _, rfl, nd, fun p => ⟨fun h => ?_, fun ⟨h1, h2⟩ => ?_⟩, by simp; omega⟩
        · obtain ⟨h1, h2⟩ := (mem p).mp h
          exact ⟨List.mem_append_left _ h1, h2⟩
        · rcases List.mem_append.mp h1 with z | z
          · exact (mem p).mpr ⟨z, h2⟩
          · rw [List.mem_singleton.mp z] at h2
            exact absurd h2 hx
    · exact ⟨hk12, rfl, [], _, _, rfl, List.nodup_nil, (fun p => by simp), Nat.le_refl _⟩
end
end G21
set_option Elab.async false
set_option linter.all false
set_option maxRecDepth 100000
set_option maxHeartbeats 4000000
set_option synthInstance.maxSize 100000
set_option synthInstance.maxHeartbeats 0
namespace G21
open PySem PySem.Spec PyProof.Rows L2 V3
theorem fst_told {f g : Fm} {r : Option (Int × Int)} (sf : smR f) (sg : smR g) (hr : fstP (nrm f) (nrm g) r) : r = ((bodL 20).filter fun p => prtB f g p).head? := by
  have e : (bodL 20).filter (fun p => prtB (nrm f) (nrm g) p) = (bodL 20).filter (fun p => prtB f g p) := List.filter_congr fun p hp => prt_nrm sf.1 sg.1 (bod_mem.mp hp).1.1 (bod_mem.mp hp).2.1
  rw [← e]
  exact fst_uniq hr (fst_small sf sg)
theorem prt_comm {f g : Fm} (h : PyData.eqv f.e g.e = PyData.eqv g.e f.e) (p : Int × Int) : prtB g f p = prtB f g p := by
  unfold prtB
  rw [h]
  cases a : hasI f p <;> cases b : hasI g p
  · rfl
  · rfl
  · rfl
  · have : decide (behI g.l g.b p = behI f.l f.b p) = decide (behI f.l f.b p = behI g.l g.b p) := by
      rw [decide_eq_decide]
      exact ⟨Eq.symm, Eq.symm⟩
    rw [this]
theorem fst_comm {f g : Fm} (h : PyData.eqv f.e g.e = PyData.eqv g.e f.e) {r : Option (Int × Int)} (hr : fstP g f r) : fstP f g r := by
  cases r with
  | none => exact fun p h1 h2 => by rw [← prt_comm h]; exact hr p h1 h2
  | some p =>
    obtain ⟨h1, h2, h3, h4⟩ := hr
    exact ⟨h1, h2, by rw [← prt_comm h]; exact h3, fun q q1 q2 l => by rw [← prt_comm h]; exact h4 q q1 q2 l⟩
theorem fst_self {f : Fm} (h : PyData.eqv f.e f.e = true) : fstP f f none := fun p _ _ => by
  unfold prtB
  rw [h]
  cases hasI f p <;> simp
theorem eqU_rD {r : Option (Int × Int)} {q : Bool → D → Prop} (h : q false (.bool false)) : V3.eqU not (.d (rD r)) (.d (rD r)) q := by
  cases r with
  | none => exact ⟨by rfl, by rfl, h⟩
  | some p =>
    show SeqAt.shaped (pr p.1 p.2) = true ∧ SeqAt.shaped (pr p.1 p.2) = true ∧ q false (.bool (!PyData.eqv (pr p.1 p.2) (pr p.1 p.2)))
    rw [eqv_pr2]
    exact ⟨shaped_pr2 _ _, shaped_pr2 _ _, by simpa using h⟩
theorem eqU_ok {x y : D} {t : Bool → Bool} {q : Bool → D → Prop} (hx : okE x) (hy : okE y) (h : q false (.bool (t (PyData.eqv x y)))) : V3.eqU t (.d x) (.d y) q := by
  obtain ⟨s1, xs, rfl⟩ := hx
  obtain ⟨s2, ys, rfl⟩ := hy
  exact ⟨s1, s2, h⟩
def bhD (f : Fm) (p : Int × Int) : D := if hasI f p = true then pr (behI f.l f.b p).1 (behI f.l f.b p).2 else .none
theorem eqU_bh {f g : Fm} {p : Int × Int} {q : Bool → D → Prop} (e : PyData.eqv f.e g.e = true) (hp : prtB f g p = true) (h : q false (.bool false)) : V3.eqU id (.d (bhD f p)) (.d (bhD g p)) q := by
  unfold bhD
  rcases (prt_iff e).mp hp with z | ⟨z1, z2⟩
  · cases a : hasI f p <;> cases b : hasI g p
    · rw [a, b] at z
      exact absurd rfl z
    · exact ⟨by rfl, shaped_pr2 _ _, h⟩
    · exact ⟨shaped_pr2 _ _, by rfl, h⟩
    · rw [a, b] at z
      exact absurd rfl z
  · rw [z1]
    cases b : hasI g p
    · exact ⟨shaped_pr2 _ _, by rfl, h⟩
    · refine ⟨shaped_pr2 _ _, shaped_pr2 _ _, ?_⟩
      have e2 : PyData.eqv (pr (behI f.l f.b p).1 (behI f.l f.b p).2) (pr (behI g.l g.b p).1 (behI g.l g.b p).2) = false := by
        rw [eqv_pr2]
        exact decide_eq_false z2
      show q false (.bool (PyData.eqv (pr (behI f.l f.b p).1 (behI f.l f.b p).2) (pr (behI g.l g.b p).1 (behI g.l g.b p).2)))
      rw [e2]
      exact h
theorem kb_q_form_parting_0 {K : PySem.W.Frag} {mg : Str → Option Value} (T : Txt K mg) : KBinds K T.q_form_parting.d ["one", "other"] ["one", "other"] (GS.gA 0 2) (GS.gA 0 2) := by
  obtain ⟨oc, od, kV, doc, pm, an, cdv, ct, osl, e, lk, hcd⟩ := T.q_form_parting.F.ex
  rw [e]
  refine ⟨fun s us ws _ hl => ?_, GS.gA_rel⟩
  obtain ⟨h1, h2⟩ := GS.gA_len (by decide) hl
  match us, ws, h1, h2 with
  | [], [_, _], _, _ => exact .of_eq rfl
theorem kb_q_least_loads_0 {K : PySem.W.Frag} {mg : Str → Option Value} (T : Txt K mg) : KBinds K T.q_least_loads.d ["form", "body"] ["form", "body"] (GS.gA 0 2) (GS.gA 0 2) := by
  obtain ⟨oc, od, kV, doc, pm, an, cdv, ct, osl, e, lk, hcd⟩ := T.q_least_loads.F.ex
  rw [e]
  refine ⟨fun s us ws _ hl => ?_, GS.gA_rel⟩
  obtain ⟨h1, h2⟩ := GS.gA_len (by decide) hl
  match us, ws, h1, h2 with
  | [], [_, _], _, _ => exact .of_eq rfl
theorem isT3 {X : Cx} (K : PySem.W.Frag) (h : X.K = K := by rfl) : CallR X (.builtin "isinstance") (rIsT K) := h ▸ call_isT
theorem caughtK {X : Cx} (K : PySem.W.Frag) {q : Str} {g CS : Addr} {cdg : Value} (hme : X.mg "GapError" = some (.ref CS)) (h : X.K = K := by rfl) :
    LamX.GivesTo X N_l_caught "_law_caught" (defScope S_l_caught) g cdg (defBody S_l_caught) "task" q (TTc K CS) := h ▸ caught_gives hme
instance {K : PySem.W.Frag} {mg : Str → Option Value} (T : Txt K mg) : ExcF K T.x_GapError.C T.x_BadForm.C := ⟨T.x_BadForm.e, T.e_BadForm, T.u_BadForm⟩
instance {K : PySem.W.Frag} {mg : Str → Option Value} (T : Txt K mg) : ExcF K T.x_GapError.C T.x_BadBody.C := ⟨T.x_BadBody.e, T.e_BadBody, T.u_BadBody⟩
def lawQ : Str := Str.ofString "law.<locals>.<lambda>"
/-- law, its code and its table of lambdas -/
structure TzL {K : PySem.W.Frag} {mg : Str → Option Value} (T : Txt K mg) (base : Heap) (TL : List (Addr × Str)) where
  c : Addr
  P : Addr
  h : T.q_law.d.code = .ref c
  TBlaw : LamX.TabB base mg c P
  mlaw : (P, lawQ) ∈ TL
  ulaw : ∀ p ∈ TL, p.1 = P → p.2 = lawQ
def spLaw (K : PySem.W.Frag) (TL : List (Addr × Str)) : Sp := fun vs H Q _ => ∃ (l : Addr) (ns : List Int), vs = [.ref l] ∧ SqL K H l (ns.map V.int) ∧ ns.length ≤ 63 ∧ LamX.Tabs TL H ∧ ∀ H', Q (.bl true) H'
/-- what the law's laps lean on -/
def amL {K : PySem.W.Frag} {mg : Str → Option Value} (T : Txt K mg) (TL : List (Addr × Str)) (d g c : Addr) (H : Hp) (E : XK) : Am where
  K := K
  C := T.C
  R := { dr := some (d, g, c), hid := fun a => a = d ∨ a = g ∨ a = c }
  TL := TL
  Hs := H
  O0 := fun a => a = d ∨ a = g
  E := E
  e := fun _ => False
  cls := T.cls
  nB := T.nB
  insT := fun H a dx fs h => .base (.ins h T.cls T.iA T.iN T.iT T.iM)
  kD := T.kD
abbrev roL : Ro := [.no, .fz .dr, .no, .no, .no, .no, .no, .no, .no, .no, .no, .no, .no, .no, .no, .no, .no, .no]
theorem lp_rl {K : PySem.W.Frag} {mg : Str → Option Value} {T : Txt K mg} {TL : List (Addr × Str)} {d g c : Addr} {H0 H : Hp} {E : XK} {σ : L2.St} {n : Nat} (hl : σ.length = 18) (h1 : σ[1]? = some (some (.ref d))) (gr : Gr (amL T TL d g c H0 E) H) (w : Wd (amL T TL d g c H0 E).R TL H n) :
    Rl (amL T TL d g c H0 E) roL n σ H := by
  have only : ∀ (i : Nat) (s : Sl), roL[i]? = some s → s = .no ∨ (i = 1 ∧ s = .fz .dr) := fun i s e => by
    match i, e with
    | 0, e => exact .inl (Option.some.inj e).symm
    | 1, e => exact .inr ⟨rfl, (Option.some.inj e).symm⟩
    | i + 2, e =>
      have m := List.mem_of_getElem? (l := List.replicate 16 Sl.no) (i := i) e
      exact .inl (List.mem_replicate.mp m).2
  refine ⟨by rw [hl]; rfl, fun i u e => ?_, fun i ds e => ?_, fun i j p a _ => ?_, fun d' g' c' e => ?_, gr, w, fun _ _ _ _ _ z => z.elim⟩
  · rcases only i _ e with z | ⟨rfl, z⟩
    · cases z
    · cases z
      exact ⟨_, h1, d, g, c, rfl, rfl⟩
  · rcases only i _ e with z | ⟨_, z⟩ <;> cases z
  · obtain ⟨⟨ds, e⟩, _⟩ := a
    rcases only i _ e with z | ⟨_, z⟩ <;> cases z
  · cases e
    exact ⟨.inl rfl, .inr rfl⟩
def FL : En3 := ⟨fun _ _ => False, fun _ u _ => u = .d (.bool true), fun _ _ => False, fun _ _ => False⟩
theorem use_ls {K : PySem.W.Frag} {C : Addr} {TL : List (Addr × Str)} {E : XK} {t : TS} {m : TS3} [ht : V3.LS K C TL E t m] (am : Am) (ρ : Ro) (n : Nat) {σ : L2.St} {H : Hp} {D : Ends} (F : En3) (hE : am.K = K ∧ am.TL = TL ∧ am.E = E ∧ am.C = C) (hr : Rl am ρ n σ H) (en : EnR am D F) (hm : m F ρ n am.e) : t D σ H := ht.s am ρ n _ H D F hE hr en hm
theorem use_lsG {K : PySem.W.Frag} {C : Addr} {TL : List (Addr × Str)} {E : XK} {t : TS} {m : TS3} [ht : V3.LS K C TL E t m] (am : Am) (ρ : Ro) (n : Nat) {σ : L2.St} {H : Hp} {D : Ends} {i : Nat} {v : V} (F : En3) (hE : am.K = K ∧ am.TL = TL ∧ am.E = E ∧ am.C = C) (hr : Rl am ρ n (σ.set i (some v)) H) (en : EnR am D F) (hm : m F ρ n am.e) : gName i v σ H fun σ2 H2 => t D σ2 H2 := ht.s am ρ n _ H D F hE hr en hm
end G21
set_option Elab.async false
set_option linter.all false
set_option maxRecDepth 100000
set_option maxHeartbeats 4000000
set_option synthInstance.maxSize 100000
set_option synthInstance.maxHeartbeats 0
namespace G21
open PySem PySem.Spec PyProof.Rows L2 V3
section
variable {P : Program} {w : World} {K : PySem.W.Frag} {mg : Str → Option Value} {base : Heap} {TL : List (Addr × Str)}
theorem ok_law (T : Txt K mg) (Y : TzS T base TL) (Z : TzL T base TL) : FnOk P w K mg base CX0 12 T.q_law.a T.q_law.d ["script"] (spLaw K TL) := by
  obtain ⟨ocC, odC, kVC, docC, pmC, anC, cdvC, ctC, oslC, edC, lkC, hcC⟩ := T.l_caught.F.ex
  have bC := T.l_caught.b
  rw [edC] at lkC bC
  refine okC T.q_law.F Z.h c_q_law (fun vs H Q E h => ?_) (fun A outer s H vs Q E hr h => ?_)
  · obtain ⟨l, ns, rfl, _⟩ := h
    rfl
  · obtain ⟨l, ns, rfl, hS, h63, hT, k⟩ := h
    refine ⟨_,
      (pss_cons (ps_set (i := 1) c_q_law.nd rfl (Or.inl rfl) (pe_call (ok0_l_begun T) (hr.mono (by decide)) rfl T.l_begun.g T.l_begun.k T.l_begun.b .nil pass0 (pa_cons (pv 0) pa_nil)))
      (C8.pss_cut (ps_par (i := 2) (j := 3) rfl c_q_law.nd rfl rfl (by decide) rfl rfl (pa_cons (pe_tup (pa_cons pe_int (pa_cons (pe_tup (pa_cons pe_int (pa_cons pe_int pa_nil))) pa_nil))) (pa_cons (pe_lst (pa_cons (pe_tup (pa_cons pe_int (pa_cons (pe_tup (pa_cons pe_int (pa_cons pe_int pa_nil))) pa_nil))) (pa_cons (pe_tup (pa_cons pe_int (pa_cons (pe_tup (pa_cons pe_int (pa_cons (pe_ifExp (pt_cmpR op_gt (pe_call (ok_l_take T (TL := TL)) (hr.mono (by decide)) rfl T.l_take.g T.l_take.k T.l_take.b .nil pass0 (pa_cons (pv 1) (pa_cons pe_int pa_nil))) pe_int (nomark _)) pe_int pe_int) pa_nil))) pa_nil))) pa_nil))) pa_nil)) (by with_unfolding_all rfl))
      (C8.pss_cut (ps_asg (pe_tup (pa_cons (pe_call (ok_l_raw T (TL := TL) Y) (hr.mono (by decide)) rfl T.l_raw.g T.l_raw.k T.l_raw.b .nil pass0 (pa_cons (pv 1) pa_nil)) (pa_cons (pe_call (ok_l_take T (TL := TL)) (hr.mono (by decide)) rfl T.l_take.g T.l_take.k T.l_take.b .nil pass0 (pa_cons (pv 1) (pa_cons pe_int pa_nil))) pa_nil))) (tupG3 K (n := 2) rfl (pgs_cons (pg_name (i := 4) c_q_law.nd rfl (Or.inr rfl) (hf := Or.inl rfl)) (pgs_cons (pg_name (i := 5) c_q_law.nd rfl (Or.inl rfl) (hf := Or.inr rfl)) pgs_nil))))
      (C8.pss_cut (ps_set (i := 6) c_q_law.nd rfl (Or.inl rfl) (pe_tup (pa_cons (pe_ix (ix3 K) (pv 4) pe_int (fun _ _ => rfl)) (pa_cons (pe_ix (ix3 K) (pv 4) pe_int (fun _ _ => rfl)) (pa_cons (pe_tup (pa_cons (pe_op (add3 K) (pe_ix (ix3 K) (pe_ix (ix3 K) (pv 4) pe_int (fun _ _ => rfl)) pe_int (fun _ _ => rfl)) (pe_call (ok_l_pick T (TL := TL)) (hr.mono (by decide)) rfl T.l_pick.g T.l_pick.k T.l_pick.b .nil pass0 (pa_cons (pv 1) (pa_cons (pe_lst (pa_cons pe_int (pa_cons pe_int (pa_cons (pe_un un_neg pe_int) pa_nil)))) pa_nil)))) (pa_cons (pe_op (add3 K) (pe_ix (ix3 K) (pe_ix (ix3 K) (pv 4) pe_int (fun _ _ => rfl)) pe_int (fun _ _ => rfl)) (pe_call (ok_l_pick T (TL := TL)) (hr.mono (by decide)) rfl T.l_pick.g T.l_pick.k T.l_pick.b .nil pass0 (pa_cons (pv 1) (pa_cons (pe_lst (pa_cons pe_int (pa_cons (pe_un un_neg pe_int) (pa_cons pe_int pa_nil)))) pa_nil)))) pa_nil))) pa_nil)))))
      (C8.pss_cut (ps_if (pt_cmpR (eq3 K hr.units) (pv 5) pe_int (nomark _))
      (pss_one (ps_set (i := 6) c_q_law.nd rfl (Or.inl rfl) (pe_call (ok_l_raw T (TL := TL) Y) (hr.mono (by decide)) rfl T.l_raw.g T.l_raw.k T.l_raw.b .nil pass0 (pa_cons (pv 1) pa_nil))))
      pss_nil)
      (C8.pss_cut (ps_if (pt_cmpR (eq3 K hr.units) (pv 5) pe_int (nomark _))
      (pss_one (ps_set (i := 6) c_q_law.nd rfl (Or.inl rfl) (pe_tup (pa_cons (pe_call (ok_l_joined T (TL := TL) Y) (hr.mono (by decide)) rfl T.l_joined.g T.l_joined.k T.l_joined.b .nil pass0 (pa_cons (pe_ix (ix3 K) (pv 4) pe_int (fun _ _ => rfl)) (pa_cons (pe_call (ok_l_few T (TL := TL) Y) (hr.mono (by decide)) rfl T.l_few.g T.l_few.k T.l_few.b .nil pass0 (pa_cons (pv 1) (pa_cons pe_int pa_nil))) pa_nil))) (pa_cons (pe_ix (ix3 K) (pv 4) pe_int (fun _ _ => rfl)) (pa_cons (pe_ix (ix3 K) (pv 4) pe_int (fun _ _ => rfl)) pa_nil))))))
      pss_nil)
      (C8.pss_cut (ps_asg (pe_tup (pa_cons (pe_tup (pa_cons (pe_ix (ix3 K) (pv 3) pe_int (fun _ _ => rfl)) (pa_cons (pv 4) pa_nil))) (pa_cons (pe_tup (pa_cons (pe_ix (ix3 K) (pv 3) pe_int (fun _ _ => rfl)) (pa_cons (pv 6) pa_nil))) pa_nil))) (tupG3 K (n := 2) rfl (pgs_cons (pg_name (i := 7) c_q_law.nd rfl (Or.inr rfl) (hf := Or.inl rfl)) (pgs_cons (pg_name (i := 8) c_q_law.nd rfl (Or.inr rfl) (hf := Or.inl rfl)) pgs_nil))))
      (C8.pss_cut (ps_set (i := 9) c_q_law.nd rfl (Or.inr rfl) (pe_make T.M (ok_q_Form_init T (TL := TL)) (hr.mono (by decide)) rfl T.gC T.bI .nil passL (pa_cons (pv 2) (pa_cons (pe_ix (ix3 K) (pv 7) pe_int (fun _ _ => rfl)) (pa_cons (pe_ix (ix3 K) (pv 4) pe_int (fun _ _ => rfl)) (pa_cons (pe_ix (ix3 K) (pv 4) pe_int (fun _ _ => rfl)) (pa_cons (pe_ix (ix3 K) (pv 4) pe_int (fun _ _ => rfl)) pa_nil)))))))
      (C8.pss_cut (ps_set (i := 10) c_q_law.nd rfl (Or.inl rfl) (pe_make T.M (ok_q_Form_init T (TL := TL)) (hr.mono (by decide)) rfl T.gC T.bI .nil passL (pa_cons (pe_tup (pa_cons (pe_call (ok_l_take T (TL := TL)) (hr.mono (by decide)) rfl T.l_take.g T.l_take.k T.l_take.b .nil pass0 (pa_cons (pv 1) (pa_cons pe_int pa_nil))) (pa_cons (pe_tup (pa_cons pe_int (pa_cons pe_int pa_nil))) pa_nil))) (pa_cons (pe_ix (ix3 K) (pv 8) pe_int (fun _ _ => rfl)) (pa_cons (pe_ix (ix3 K) (pv 6) pe_int (fun _ _ => rfl)) (pa_cons (pe_ix (ix3 K) (pv 6) pe_int (fun _ _ => rfl)) (pa_cons (pe_ix (ix3 K) (pv 6) pe_int (fun _ _ => rfl)) pa_nil)))))))
      (C8.pss_cut (ps_setLc (i := 11) (own := [("body", 14)]) (g := gName 14) (by rfl) c_q_law.nd rfl rfl (sw_true rfl rfl rfl (by decide +kernel)) (seq3 K (pe_call (ok_l_few_bodies T (TL := TL)) (hr.mono (by decide)) rfl T.l_few_bodies.g T.l_few_bodies.k T.l_few_bodies.b .nil pass0 (pa_cons pe_int pa_nil))) (blkOk_by (own := [("body", 14)]) (N := N_q_law) (sc := defScope S_q_law) (by decide +kernel)) (fun _ _ _ _ _ => pg_name (i := 14) c_q_law.nd rfl (Or.inl rfl)) (fun _ _ _ _ _ => (pts_one (pt_val (pe_call (ok_l_unlike T (TL := TL)) (hr.mono (by decide)) rfl T.l_unlike.g T.l_unlike.k T.l_unlike.b .nil pass0 (pa_cons (pv 7) (pa_cons (pv 8) (pa_cons (pv 14) pa_nil))))))) (fun _ _ _ _ _ => (pv 14)))
      (C8.pss_cut (ps_set (i := 12) c_q_law.nd rfl (Or.inl rfl) (GS.pe_callK0 (ok_q_form_parting T (TL := TL)) (hr.mono (by decide)) rfl T.q_form_parting.g T.q_form_parting.k (kb_q_form_parting_0 T) passL (pk_cons (pv 9) (pk_cons (pv 10) pk_nil))))
      (C8.pss_cut (ps_if (PW.pt (pw_or (PW.pt (pw_and (pt_cmpR (eq3 K hr.units) (pv 11) (pe_lst pa_nil) (nomark _)) (pw_and1 (pt_cmpR op_notN3 (pv 12) pe_non (nomark _))))) (pw_or1 (PW.pt (pw_and (pt_cmpR (ne3 K hr.units) (pv 11) (pe_lst pa_nil) (nomark _)) (pw_and1 (PW.pt (pw_or (pt_cmpR (ne3 K hr.units) (pv 12) (pe_ix (ix3 K) (pv 11) pe_int (fun _ _ => rfl)) (nomark _)) (pw_or1 (pt_not (pt_val (pe_call (ok_l_is_body T (TL := TL)) (hr.mono (by decide)) rfl T.l_is_body.g T.l_is_body.k T.l_is_body.b .nil pass0 (pa_cons (pv 12) pa_nil)))))))))))))
      (pss_one (ps_ret pe_bl))
      pss_nil)
      (C8.pss_cut (ps_if (PW.pt (pw_or (pt_cmpR (ne3 K hr.units) (pe_call (ok_q_form_parting T (TL := TL)) (hr.mono (by decide)) rfl T.q_form_parting.g T.q_form_parting.k T.q_form_parting.b .nil passL (pa_cons (pv 10) (pa_cons (pv 9) pa_nil))) (pv 12) (nomark _)) (pw_or1 (pt_cmpR op_notN3 (pe_call (ok_q_form_parting T (TL := TL)) (hr.mono (by decide)) rfl T.q_form_parting.g T.q_form_parting.k T.q_form_parting.b .nil passL (pa_cons (pv 9) (pa_cons (pv 9) pa_nil))) pe_non (nomark _)))))
      (pss_one (ps_ret pe_bl))
      pss_nil)
      (C8.pss_cut (ps_if (PW.pt (pw_and (pt_cmpR op_notN3 (pv 12) pe_non (nomark _)) (pw_and (pt_cmpR (eq3 K hr.units) (pe_ix (ix3 K) (pv 7) pe_int (fun _ _ => rfl)) (pe_ix (ix3 K) (pv 8) pe_int (fun _ _ => rfl)) (nomark _)) (pw_and1 (pt_cmpR (eq3 K hr.units) (pe_call (ok_q_end_size T (TL := TL)) (hr.mono (by decide)) rfl T.q_end_size.g T.q_end_size.k T.q_end_size.b .nil passL (pa_cons (pv 9) (pa_cons (pv 12) pa_nil))) (pe_call (ok_q_end_size T (TL := TL)) (hr.mono (by decide)) rfl T.q_end_size.g T.q_end_size.k T.q_end_size.b .nil passL (pa_cons (pv 10) (pa_cons (pv 12) pa_nil))) (nomark _))))))
      (pss_one (ps_ret pe_bl))
      pss_nil)
      (pss_cons (ps_for PassesOwn.never rfl (pi_range1 rfl T.z_range (pa_cons pe_int pa_nil)) (pg_name (i := 13) c_q_law.nd rfl (Or.inl rfl))
      (pss_cons (ps_set (i := 14) c_q_law.nd rfl (Or.inl rfl) (pe_tup (pa_cons (pe_op (add3 K) pe_int (pe_call (ok_l_take T (TL := TL)) (hr.mono (by decide)) rfl T.l_take.g T.l_take.k T.l_take.b .nil pass0 (pa_cons (pv 1) (pa_cons pe_int pa_nil)))) (pa_cons (pe_op (add3 K) pe_int (pe_call (ok_l_take T (TL := TL)) (hr.mono (by decide)) rfl T.l_take.g T.l_take.k T.l_take.b .nil pass0 (pa_cons (pv 1) (pa_cons pe_int pa_nil)))) pa_nil))))
      (pss_cons (ps_set (i := 15) c_q_law.nd rfl (Or.inl rfl) (GS.pe_callK0 (ok_q_least_loads T (TL := TL)) (hr.mono (by decide)) rfl T.q_least_loads.g T.q_least_loads.k (kb_q_least_loads_0 T) passL (pk_cons (pv 9) (pk_cons (pv 14) pk_nil))))
      (pss_one (ps_if (PW.pt (pw_or (pt_not (pt_val (pe_callB (isi3 K) (by rfl) T.z_isinstance (by decide +kernel) (pa_cons (pv 15) (pa_cons (pe_bltn (v := .ty "list") (u := .type "list") rfl T.z_list (by decide +kernel) rfl) pa_nil))))) (pw_or1 (pt_cmpR (ne3 K hr.units) (pv 15) (pe_call (ok_l_loads T (TL := TL)) (hr.mono (by decide)) rfl T.l_loads.g T.l_loads.k T.l_loads.b .nil pass0 (pa_cons (pe_ix (ix3 K) (pv 4) pe_int (fun _ _ => rfl)) (pa_cons (pv 14) (pa_cons pe_int pa_nil)))) (nomark _)))))
      (pss_one (ps_ret pe_bl))
      pss_nil)))))
      (C8.pss_cut (ps_if (pt_not (pt_val (pe_call (ok_l_great_ok T (TL := TL) Y) (hr.mono (by decide)) rfl T.l_great_ok.g T.l_great_ok.k T.l_great_ok.b .nil pass0 (pa_cons (pv 1) (pa_cons (pv 2) pa_nil)))))
      (pss_one (ps_ret pe_bl))
      pss_nil)
      (C8.pss_cut (ps_set (i := 16) c_q_law.nd rfl (Or.inr rfl) (pe_call (ok_l_pick T (TL := TL)) (hr.mono (by decide)) rfl T.l_pick.g T.l_pick.k T.l_pick.b .nil pass0 (pa_cons (pv 1) (pa_cons (pe_lst (pa_cons pe_non (pa_cons (pe_tup (pa_cons pe_int (pa_cons pe_int pa_nil))) (pa_cons (pe_tup (pa_cons pe_bl (pa_cons pe_int pa_nil))) (pa_cons (pe_lst (pa_cons pe_int (pa_cons pe_int pa_nil))) (pa_cons (pv 4) pa_nil)))))) pa_nil))))
      (pss_cons (ps_set (i := 15) c_q_law.nd rfl (Or.inl rfl) (pe_lst (pa_cons (pe_callB (isT3 K) (by rfl) T.z_isinstance (by decide +kernel) (pa_cons (LamX.pe_lamcall (T := TL) (Ng := N_l_caught) (k := 8) rfl T.l_caught.g T.l_caught.k lkC hcC bC c_l_caught rfl (Or.inl rfl) (caughtK K T.x_GapError.g) Z.TBlaw rfl Z.mlaw Z.ulaw (hr.mono (by decide)) (LamX.lamS_by (sc := defScope S_q_law) (by decide +kernel)) rfl (fun _ _ _ _ _ => rfl) (fun A outer s H E f c' hr => (pe_call (ok_q_form_parting T (TL := TL)) (hr.mono (by decide)) rfl T.q_form_parting.g T.q_form_parting.k T.q_form_parting.b .nil (passes_call (takes_of rfl rfl rfl rfl) (fun _ _ _ _ h => h)) (pa_cons (pv 4) (pa_cons (pv 16) pa_nil))))) (pa_cons (pe_glob (v := .ref T.x_BadForm.C) (u := .ref T.x_BadForm.C) rfl T.x_BadForm.g rfl) pa_nil))) (pa_cons (pe_callB (isT3 K) (by rfl) T.z_isinstance (by decide +kernel) (pa_cons (LamX.pe_lamcall (T := TL) (Ng := N_l_caught) (k := 8) rfl T.l_caught.g T.l_caught.k lkC hcC bC c_l_caught rfl (Or.inl rfl) (caughtK K T.x_GapError.g) Z.TBlaw rfl Z.mlaw Z.ulaw (hr.mono (by decide)) (LamX.lamS_by (sc := defScope S_q_law) (by decide +kernel)) rfl (fun _ _ _ _ _ => rfl) (fun A outer s H E f c' hr => (pe_call (ok_q_form_parting T (TL := TL)) (hr.mono (by decide)) rfl T.q_form_parting.g T.q_form_parting.k T.q_form_parting.b .nil (passes_call (takes_of rfl rfl rfl rfl) (fun _ _ _ _ h => h)) (pa_cons (pv 9) (pa_cons (pv 16) pa_nil))))) (pa_cons (pe_glob (v := .ref T.x_BadForm.C) (u := .ref T.x_BadForm.C) rfl T.x_BadForm.g rfl) pa_nil))) (pa_cons (pe_callB (isT3 K) (by rfl) T.z_isinstance (by decide +kernel) (pa_cons (LamX.pe_lamcall (T := TL) (Ng := N_l_caught) (k := 8) rfl T.l_caught.g T.l_caught.k lkC hcC bC c_l_caught rfl (Or.inl rfl) (caughtK K T.x_GapError.g) Z.TBlaw rfl Z.mlaw Z.ulaw (hr.mono (by decide)) (LamX.lamS_by (sc := defScope S_q_law) (by decide +kernel)) rfl (fun _ _ _ _ _ => rfl) (fun A outer s H E f c' hr => (pe_call (ok_q_least_loads T (TL := TL)) (hr.mono (by decide)) rfl T.q_least_loads.g T.q_least_loads.k T.q_least_loads.b .nil (passes_call (takes_of rfl rfl rfl rfl) (fun _ _ _ _ h => h)) (pa_cons (pv 16) (pa_cons (pv 16) pa_nil))))) (pa_cons (pe_glob (v := .ref T.x_BadForm.C) (u := .ref T.x_BadForm.C) rfl T.x_BadForm.g rfl) pa_nil))) (pa_cons (pe_callB (isT3 K) (by rfl) T.z_isinstance (by decide +kernel) (pa_cons (LamX.pe_lamcall (T := TL) (Ng := N_l_caught) (k := 8) rfl T.l_caught.g T.l_caught.k lkC hcC bC c_l_caught rfl (Or.inl rfl) (caughtK K T.x_GapError.g) Z.TBlaw rfl Z.mlaw Z.ulaw (hr.mono (by decide)) (LamX.lamS_by (sc := defScope S_q_law) (by decide +kernel)) rfl (fun _ _ _ _ _ => rfl) (fun A outer s H E f c' hr => (pe_call (ok_q_least_loads T (TL := TL)) (hr.mono (by decide)) rfl T.q_least_loads.g T.q_least_loads.k T.q_least_loads.b .nil (passes_call (takes_of rfl rfl rfl rfl) (fun _ _ _ _ h => h)) (pa_cons (pv 9) (pa_cons (pv 16) pa_nil))))) (pa_cons (pe_glob (v := .ref T.x_BadBody.C) (u := .ref T.x_BadBody.C) rfl T.x_BadBody.g rfl) pa_nil))) pa_nil))))))
      (pss_one (ps_ret (pe_cmpR (eq3 K hr.units) (pe_lc (own := [("item", 17)]) (g := gName 17) (by rfl) c_q_law.nd (seq3 K (pv 15)) (blkOk_by (own := [("item", 17)]) (N := N_q_law) (sc := defScope S_q_law) (by decide +kernel)) (fun _ _ _ _ _ => pg_name (i := 17) c_q_law.nd rfl (Or.inl rfl)) (fun _ _ _ _ _ => (pts_one (pt_not (pt_val (pv 17))))) (fun _ _ _ _ _ => pe_int)) (pe_lst pa_nil) (nomark _))))))))))))))))))))))
      , ?_⟩
    refine ⟨.ref l, rfl, l, ns, rfl, hS, h63, fun H1 d g c S1 hd0 hg0 hc0 hD => ?_⟩
    have w0 : Wd (amL T TL d g c H1 E).R TL H1 0 := {
      hid := fun a z => by
        obtain ⟨gs, cs, m, z1, z2, z3, r⟩ := hD
        rcases z with z | z | z
        · exact ⟨_, z ▸ z1, fun ps q => by cases q⟩
        · exact ⟨_, z ▸ z2, fun ps q => by cases q⟩
        · exact ⟨_, z ▸ z3, fun ps q => by cases q⟩
      tabs := hT.ext S1
      dr := fun d' g' c' e => by
        cases e
        exact ⟨.inl rfl, .inr (.inl rfl), .inr (.inr rfl), 0, by simp, hD⟩ }
    dsimp only
    refine use_lsG (K := K) (C := T.C) (TL := TL) (E := E) (amL T TL d g c H1 E) roL 0 FL ⟨rfl, rfl, rfl, rfl⟩ (lp_rl rfl rfl ⟨fun _ _ _ _ e => e, fun _ z => z⟩ w0) ⟨?_, ?_, ?_, ?_⟩ ?_
    · exact fun _ _ _ _ q => q.elim
    · exact fun _ _ _ _ q => q.elim
    · exact fun _ _ _ _ q => q.elim
    · intro fr u n v H q gr w r
      subst q
      have r1 : Rp _ _ v (.bool true) := r.1
      cases r1
      exact k _
    have ht := topD_eq
    have hc := capD_eq
    simp [ro0, -List.mem_cons, -V3.forL]
    refine Exists.intro (fun (ρ : Ro) (k : Nat) => k ≤ 1 ∧ ∃ y : Int, ρ = [.no, .fz .dr, .fz (.d (plD 0 0 0)), .ow [plD 1 2 0, plD 1 2 y], .no, .no, .no, .no, .no, .no, .no, .no, .no, .no, .no, .no, .no, .no] ∧ (y = 0 ∨ y = 1)) (And.intro ?_ ?_)
    · refine ⟨by omega, fun x x0 x1 => ?_⟩
      by_cases h : 0 < x
      · rw [if_pos h]
        exact ⟨by omega, 0, rfl, .inl rfl⟩
      · rw [if_neg h]
        exact ⟨by omega, 1, rfl, .inr rfl⟩
    rintro ρ k1 ⟨hk1, y, rfl, hy⟩
    simp [-asL, -List.mem_cons, -V3.forL]
    refine Exists.intro (fun (ρ : Ro) (k : Nat) => k ≤ 70 ∧ ∃ (f : Fm) (w : Int), ρ = [.no, .fz .dr, .fz (.d (plD 0 0 0)), .ow [plD 1 2 0, plD 1 2 y], .fz (.d (rwD f)), .fz (.d (.int w)), .no, .no, .no, .no, .no, .no, .no, .no, .no, .no, .no, .no] ∧ f.e = plD 1 2 0 ∧ smR f ∧ f.cs.length ≤ 4 ∧ (-3 ≤ f.b.1 ∧ f.b.1 ≤ 3) ∧ -3 ≤ f.b.2 ∧ f.b.2 ≤ 3) (And.intro ?_ ?_)
    · refine ⟨by omega, fun cs a b u v n' h1 h2 h3 h4 h5 h6 h7 h8 h9 h10 h11 h12 => ⟨by omega, by omega, fun x x0 x1 => ?_⟩⟩
      rw [if_pos (flat_cos cs)]
      exact ⟨by omega, ⟨plD 1 2 0, cs, (a, b), (u, v)⟩, x, rfl, rfl, ⟨h1, fun c hc => h2 c.1 c.2 hc, by dsimp only; omega, ⟨h4, h5⟩, ⟨h6, h7⟩, ⟨by dsimp only; omega, by dsimp only; omega⟩, by dsimp only; omega, by dsimp only; omega⟩, h3, ⟨h8, h9⟩, h10, h11⟩
    rintro ρ k2 ⟨hk2, f, w, rfl, ef, sf, lf, b1, b2⟩
    obtain ⟨s1, s2, s3, s4, s5, s6, s7, s8⟩ := id sf
    have flf : V3.flatAll (f.cs.map cD) = true := flat_cos f.cs
    simp [-asL, -List.mem_cons, -V3.forL]
    refine Exists.intro (fun (ρ : Ro) (k : Nat) => k ≤ 80 ∧ ∃ (g : Fm), ρ = [.no, .fz .dr, .fz (.d (plD 0 0 0)), .ow [plD 1 2 0, plD 1 2 y], .fz (.d (rwD f)), .fz (.d (.int w)), .fz (.d (rwD g)), .no, .no, .no, .no, .no, .no, .no, .no, .no, .no, .no] ∧ g.e = plD 1 2 y ∧ smR g) (And.intro ?_ ?_)
    · refine ⟨by omega, fun y1 hy1 => ?_⟩
      have hy1 : ∃ z : Int, y1 = .int z ∧ -2 ≤ z ∧ z ≤ 2 := by
        simp only [List.mem_cons, List.not_mem_nil, or_false] at hy1
        rcases hy1 with rfl | rfl | rfl <;> exact ⟨_, rfl, by decide, by decide⟩
      obtain ⟨z, rfl, z0, z1⟩ := hy1
      refine ⟨rfl, by omega, fun y2 hy2 => ?_⟩
      have hy2 : ∃ z : Int, y2 = .int z ∧ -2 ≤ z ∧ z ≤ 2 := by
        simp only [List.mem_cons, List.not_mem_nil, or_false] at hy2
        rcases hy2 with rfl | rfl | rfl <;> exact ⟨_, rfl, by decide, by decide⟩
      obtain ⟨z2, rfl, z3, z4⟩ := hy2
      refine ⟨rfl, ?_⟩
      simp only [flf, if_true]
      exact ⟨by omega, ⟨plD 1 2 y, f.cs, f.l, (f.b.1 + z, f.b.2 + z2)⟩, rfl, rfl, s1, s2, s3, s4, s5, ⟨by dsimp only; omega, by dsimp only; omega⟩, by dsimp only; omega, by dsimp only; omega⟩
    rintro ρ k3 ⟨hk3, g, rfl, eg, sg⟩
    simp [-asL, -V3.forL]
    refine Exists.intro (fun (ρ : Ro) (k : Nat) => k ≤ 150 ∧ ∃ (g : Fm), ρ = [.no, .fz .dr, .fz (.d (plD 0 0 0)), .ow [plD 1 2 0, plD 1 2 y], .fz (.d (rwD f)), .fz (.d (.int w)), .fz (.d (rwD g)), .no, .no, .no, .no, .no, .no, .no, .no, .no, .no, .no] ∧ g.e = plD 1 2 y ∧ smR g) (And.intro ?_ ?_)
    · by_cases hw : w = 0
      · rw [if_pos hw]
        refine ⟨by omega, fun cs a b u v n' h1 h2 h3 h4 h5 h6 h7 h8 h9 h10 h11 h12 => ?_⟩
        exact ⟨by omega, ⟨plD 1 2 y, cs, (a, b), (u, v)⟩, rfl, rfl, h1, fun c hc => h2 c.1 c.2 hc, by dsimp only; omega, ⟨h4, h5⟩, ⟨h6, h7⟩, ⟨by dsimp only; omega, by dsimp only; omega⟩, by dsimp only; omega, by dsimp only; omega⟩
      · rw [if_neg hw]
        exact ⟨by omega, g, rfl, eg, sg⟩
    rintro ρ k4 ⟨hk4, g, rfl, eg, sg⟩
    simp [-asL, -V3.forL]
    refine Exists.intro (fun (ρ : Ro) (k : Nat) => k ≤ 200 ∧ ∃ (g : Fm), ρ = [.no, .fz .dr, .fz (.d (plD 0 0 0)), .ow [plD 1 2 0, plD 1 2 y], .fz (.d (rwD f)), .fz (.d (.int w)), .fz (.d (rwD g)), .no, .no, .no, .no, .no, .no, .no, .no, .no, .no, .no] ∧ g.e = plD 1 2 y ∧ smR g) (And.intro ?_ ?_)
    · by_cases hw : w = 1
      · rw [if_pos hw]
        refine ⟨1, rfl, by omega, by omega, fun ds n' d1 d2 d3 d4 => ⟨_, _, ⟨rfl, rfl⟩, f.cs, rfl, ds, rfl, by omega, fun es he => ?_⟩⟩
        obtain ⟨e1, e2, e3, e4⟩ := he
        rw [List.length_append] at e4
        have sm : ∀ c ∈ es, smC 8 c := fun c hc => by
          rcases List.mem_append.mp (e2 c hc) with z | z
          · exact s2 c z
          · exact d2 c.1 c.2 z
        exact ⟨by omega, ⟨plD 1 2 y, es, f.l, f.b⟩, rfl, rfl, e1, sm, by dsimp only; omega, s4, s5, s6, s7, s8⟩
      · rw [if_neg hw]
        exact ⟨by omega, g, rfl, eg, sg⟩
    rintro ρ k5 ⟨hk5, g, rfl, eg, sg⟩
    obtain ⟨t1, t2, t3, t4, t5, t6, t7, t8⟩ := id sg
    have pf : ∀ c ∈ f.cs, posC c := fun c hc => ⟨fun k e => ((s2 c hc).1 k e).1, fun k e => ((s2 c hc).2 k e).1⟩
    have pg : ∀ c ∈ g.cs, posC c := fun c hc => ⟨fun k e => ((t2 c hc).1 k e).1, fun k e => ((t2 c hc).2 k e).1⟩
    have y0 : 0 ≤ y := by omega
    have hc2 : ∀ k : Nat, k ≤ 9000 → k ≤ sizeLine := fun k hk => Nat.le_of_lt (few (by omega))
    have e1 : fwD f = PyData.tuple [plD 1 2 0, rwD f] := by
      show PyData.tuple [f.e, rwD f] = _
      rw [ef]
    have e2 : fwD g = PyData.tuple [plD 1 2 y, rwD g] := by
      show PyData.tuple [g.e, rwD g] = _
      rw [eg]
    have shp : ∀ z : Int, SeqAt.shaped (plD 1 2 z) = true := fun z => by
      simp [SeqAt.shaped, PyData.canLay0, PyData.canLayAll0, PyData.depth, PyData.depthAll]
    have flg : V3.flatAll (g.cs.map cD) = true := flat_cos g.cs
    have ok1 : okE f.e := by rw [ef]; exact ⟨shp 0, _, rfl⟩
    have ok2 : okE g.e := by rw [eg]; exact ⟨shp y, _, rfl⟩
    simp [-asL, -V3.forL]
    refine Exists.intro (fun (ρ : Ro) (k : Nat) => k ≤ 200 ∧ ρ = [.no, .fz .dr, .fz (.d (plD 0 0 0)), .ow [plD 1 2 0, plD 1 2 y], .fz (.d (rwD f)), .fz (.d (.int w)), .fz (.d (rwD g)), .fz (.d (fwD f)), .fz (.d (fwD g)), .no, .no, .no, .no, .no, .no, .no, .no, .no]) (And.intro ?_ ?_)
    · refine ⟨hk5, ?_⟩
      rw [e1, e2]
      simp only [flf, flg, and_self, if_true]
      rfl
    rintro ρ k6 ⟨hk6, rfl⟩
    simp [-asL, -V3.forL]
    refine Exists.intro (fun (ρ : Ro) (k : Nat) => k ≤ 200 ∧ ρ = [.no, .fz .dr, .fz (.d (plD 0 0 0)), .ow [plD 1 2 0, plD 1 2 y], .fz (.d (rwD f)), .fz (.d (.int w)), .fz (.d (rwD g)), .fz (.d (fwD f)), .fz (.d (fwD g)), .fz (fmU (plD 0 0 0) (nrm f)), .no, .no, .no, .no, .no, .no, .no, .no]) (And.intro ?_ ?_)
    · refine ⟨0, 0, 0, 1, 2, 0, f.cs, f.l, f.b, by rw [ef], by decide, by decide, s1, pf, by omega, s4.1, s5.1, hk6, ?_⟩
      show _ = [Sl.no, Sl.fz U.dr, Sl.fz (U.d (plD 0 0 0)), Sl.ow [plD 1 2 0, plD 1 2 y], Sl.fz (U.d (rwD f)), Sl.fz (U.d (.int w)), Sl.fz (U.d (rwD g)), Sl.fz (U.d (fwD f)), Sl.fz (U.d (fwD g)), Sl.fz (U.ob (fldF (plD 0 0 0) f.e f.cs (nLw f.cs f.l f.b) (nBy f.cs f.l f.b))), Sl.no, Sl.no, Sl.no, Sl.no, Sl.no, Sl.no, Sl.no, Sl.no]
      rw [ef]
    rintro ρ k7 ⟨hk7, rfl⟩
    simp [-asL, -V3.forL]
    refine Exists.intro (fun (ρ : Ro) (k : Nat) => k ≤ 201 ∧ ∃ x : Int, ρ = [.no, .fz .dr, .fz (.d (plD 0 0 0)), .ow [plD 1 2 0, plD 1 2 y], .fz (.d (rwD f)), .fz (.d (.int w)), .fz (.d (rwD g)), .fz (.d (fwD f)), .fz (.d (fwD g)), .fz (fmU (plD 0 0 0) (nrm f)), .fz (fmU (plD x 0 0) (nrm g)), .no, .no, .no, .no, .no, .no, .no] ∧ 0 ≤ x) (And.intro ?_ ?_)
    · refine ⟨by omega, by omega, fun x x0 x1 => ?_⟩
      refine ⟨x, 0, 0, 1, 2, y, g.cs, g.l, g.b, by rw [eg], x0, by decide, t1, pg, by omega, t4.1, t5.1, by omega, x, ?_, x0⟩
      show _ = [Sl.no, Sl.fz U.dr, Sl.fz (U.d (plD 0 0 0)), Sl.ow [plD 1 2 0, plD 1 2 y], Sl.fz (U.d (rwD f)), Sl.fz (U.d (.int w)), Sl.fz (U.d (rwD g)), Sl.fz (U.d (fwD f)), Sl.fz (U.d (fwD g)), Sl.fz (fmU (plD 0 0 0) (nrm f)), Sl.fz (U.ob (fldF (plD x 0 0) g.e g.cs (nLw g.cs g.l g.b) (nBy g.cs g.l g.b))), Sl.no, Sl.no, Sl.no, Sl.no, Sl.no, Sl.no, Sl.no]
      rw [eg]
    rintro ρ k8 ⟨hk8, x, rfl, x0⟩
    have lb : (bodL 20).length ≤ 20 * 20 := by
      unfold bodL
      rw [row_len, List.length_range]
      exact Nat.le_refl _
    simp [-asL, -V3.forL]
    refine Exists.intro (fun (ρ : Ro) (k : Nat) => k ≤ 201 ∧ ∃ L : List (Int × Int), ρ = [.no, .fz .dr, .fz (.d (plD 0 0 0)), .ow [plD 1 2 0, plD 1 2 y], .fz (.d (rwD f)), .fz (.d (.int w)), .fz (.d (rwD g)), .fz (.d (fwD f)), .fz (.d (fwD g)), .fz (fmU (plD 0 0 0) (nrm f)), .fz (fmU (plD x 0 0) (nrm g)), .ow (L.map pD), .no, .no, .no, .no, .no, .no] ∧ L = (bodL 20).filter fun p => prtB f g p) (And.intro ?_ ?_)
    · refine ⟨20, rfl, by omega, few (by omega), lcL_pure pD pD (fun p => prtB f g p) (bodL 20) _ _ (fun p _ m Kt Ks h => ?_) ?_⟩
      · simp
        refine ⟨f, g, p.1, p.2, by simp, by omega, by omega, ok1, ok2, ?_⟩
        simpa using h
      · exact ⟨hk8, _, rfl, rfl⟩
    rintro ρ k9 ⟨hk9, L, rfl, eL⟩
    have cfg : (nrm f).cs.length + (nrm g).cs.length ≤ 16 := by
      show f.cs.length + g.cs.length ≤ 16
      omega
    simp [-asL, -V3.forL]
    refine Exists.intro (fun (ρ : Ro) (k : Nat) => k ≤ 201 ∧ ∃ r : Option (Int × Int), ρ = [.no, .fz .dr, .fz (.d (plD 0 0 0)), .ow [plD 1 2 0, plD 1 2 y], .fz (.d (rwD f)), .fz (.d (.int w)), .fz (.d (rwD g)), .fz (.d (fwD f)), .fz (.d (fwD g)), .fz (fmU (plD 0 0 0) (nrm f)), .fz (fmU (plD x 0 0) (nrm g)), .ow (L.map pD), .fz (.d (rD r)), .no, .no, .no, .no, .no] ∧ fstP (nrm f) (nrm g) r) (And.intro ?_ ?_)
    · exact ⟨_, _, ⟨rfl, rfl⟩, plD 0 0 0, nrm f, rfl, plD x 0 0, nrm g, rfl, cfg, ok1, ok2, fun r hr => ⟨hk9, r, rfl, hr⟩⟩
    rintro ρ k10 ⟨hk10, r, rfl, hr⟩
    have er : r = L.head? := by
      rw [eL]
      exact fst_told sf sg hr
    have ec : PyData.eqv (nrm f).e (nrm g).e = PyData.eqv (nrm g).e (nrm f).e := by
      show PyData.eqv f.e g.e = PyData.eqv g.e f.e
      rw [ef, eg]
      rcases hy with rfl | rfl <;> rfl
    have es : PyData.eqv (nrm f).e (nrm f).e = true := by
      show PyData.eqv f.e f.e = true
      rw [ef]
      rfl
    simp [-asL, -V3.forL]
    refine Exists.intro (fun (ρ : Ro) (k : Nat) => k ≤ 201 ∧ ρ = [.no, .fz .dr, .fz (.d (plD 0 0 0)), .ow [plD 1 2 0, plD 1 2 y], .fz (.d (rwD f)), .fz (.d (.int w)), .fz (.d (rwD g)), .fz (.d (fwD f)), .fz (.d (fwD g)), .fz (fmU (plD 0 0 0) (nrm f)), .fz (fmU (plD x 0 0) (nrm g)), .ow (L.map pD), .fz (.d (rD r)), .no, .no, .no, .no, .no]) (And.intro ?_ ?_)
    · refine ⟨shaped_prs L, by rfl, ?_⟩
      rw [eqv_prs0]
      by_cases hL : L = []
      · have ed : decide (L = []) = true := decide_eq_true hL
        obtain rfl : r = none := by rw [er, hL]; rfl
        simp only [ed, rD, if_true]
        exact ⟨shaped_prs L, by rfl, hk10, trivial⟩
      · have ed : decide (L = []) = false := decide_eq_false hL
        simp only [ed, Bool.false_eq_true, if_false]
        refine ⟨shaped_prs L, by rfl, ?_⟩
        obtain ⟨p, Ls, rfl⟩ : ∃ p Ls, L = p :: Ls := List.exists_cons_of_ne_nil hL
        obtain rfl : r = some p := er
        have pb : p ∈ bodL 20 := (List.mem_filter.mp (by rw [← eL]; exact List.mem_cons_self)).1
        obtain ⟨⟨p1, _⟩, p2, _⟩ := bod_mem.mp pb
        simp [rD, -asL]
        have e5 : PyData.eqv (.tuple [.int p.1, .int p.2]) (.tuple [.int p.1, .int p.2]) = true := by
          rw [show PyData.tuple [.int p.1, .int p.2] = pr p.1 p.2 from rfl, eqv_pr2]
          simp
        simp only [e5, if_true]
        exact ⟨shaped_pr2 _ _, p.1, p.2, ⟨rfl, rfl⟩, p1, p2, hk10⟩
    rintro ρ k11 ⟨hk11, rfl⟩
    simp [-asL, -V3.forL]
    refine Exists.intro (fun (ρ : Ro) (k : Nat) => k ≤ 201 ∧ ρ = [.no, .fz .dr, .fz (.d (plD 0 0 0)), .ow [plD 1 2 0, plD 1 2 y], .fz (.d (rwD f)), .fz (.d (.int w)), .fz (.d (rwD g)), .fz (.d (fwD f)), .fz (.d (fwD g)), .fz (fmU (plD 0 0 0) (nrm f)), .fz (fmU (plD x 0 0) (nrm g)), .ow (L.map pD), .fz (.d (rD r)), .no, .no, .no, .no, .no]) (And.intro ?_ ?_)
    · refine ⟨_, _, ⟨rfl, rfl⟩, plD x 0 0, nrm g, rfl, plD 0 0 0, nrm f, rfl, by omega, ok2, ok1, fun r1 hr1 => ?_⟩
      obtain rfl : r1 = r := fst_uniq (fst_comm ec hr1) hr
      refine eqU_rD ⟨rfl, ?_⟩
      simp
      refine ⟨_, _, ⟨rfl, rfl⟩, plD 0 0 0, nrm f, rfl, plD 0 0 0, nrm f, rfl, by show f.cs.length + f.cs.length ≤ 16; omega, ok1, ok1, fun r2 hr2 => ?_⟩
      obtain rfl : r2 = none := fst_uniq hr2 (fst_self es)
      simp [rD]
      exact hk11
    rintro ρ k12 ⟨hk12, rfl⟩
    simp [-asL, -V3.forL]
    refine Exists.intro (fun (ρ : Ro) (k : Nat) => k ≤ 201 ∧ ρ = [.no, .fz .dr, .fz (.d (plD 0 0 0)), .ow [plD 1 2 0, plD 1 2 y], .fz (.d (rwD f)), .fz (.d (.int w)), .fz (.d (rwD g)), .fz (.d (fwD f)), .fz (.d (fwD g)), .fz (fmU (plD 0 0 0) (nrm f)), .fz (fmU (plD x 0 0) (nrm g)), .ow (L.map pD), .fz (.d (rD r)), .no, .no, .no, .no, .no]) (And.intro ?_ ?_)
    · cases r with
      | none => exact ⟨hk12, rfl⟩
      | some p =>
        obtain ⟨p1, p2, p3, _⟩ := id hr
        simp only [rD, Bool.false_eq_true, if_false]
        refine eqU_ok ok1 ok2 ⟨rfl, ?_⟩
        cases he : PyData.eqv f.e g.e with
        | false => 
          simp
          exact hk12
        | true =>
          simp
          refine ⟨plD 0 0 0, nrm f, p.1, p.2, ⟨rfl, rfl, rfl⟩, p1, p2, by show f.cs.length ≤ 300; omega, plD x 0 0, nrm g, p.1, p.2, ⟨rfl, rfl, rfl⟩, p1, p2, by show g.cs.length ≤ 300; omega, ?_⟩
          refine eqU_bh (f := nrm f) (g := nrm g) (p := p) he p3 ⟨rfl, ?_⟩
          simp
          exact hk12
    rintro ρ k13 ⟨hk13, rfl⟩
    simp [-asL, -V3.forL]
    rw [show upFrom 0 4 = (List.range 4).map (fun k : Nat => PyData.int (0 + (k : Nat))) from rfl]
    refine forL_mapW (fun k : Nat => PyData.int (0 + (k : Nat))) (fun done left ρ k => done.length + left.length = 4 ∧ k ≤ 201 + 2 * done.length ∧ ∃ z13 z14 z15 : Sl, ρ = [.no, .fz .dr, .fz (.d (plD 0 0 0)), .ow [plD 1 2 0, plD 1 2 y], .fz (.d (rwD f)), .fz (.d (.int w)), .fz (.d (rwD g)), .fz (.d (fwD f)), .fz (.d (fwD g)), .fz (fmU (plD 0 0 0) (nrm f)), .fz (fmU (plD x 0 0) (nrm g)), .ow (L.map pD), .fz (.d (rD r)), z13, z14, z15, .no, .no]) _ [] _ _ ?_ ?_ ?_
    · rintro done ρ k14 ⟨hd, hk14, z13, z14, z15, rfl⟩
      simp at hd
      simp [-asL]
      refine Exists.intro (fun (ρ : Ro) (k : Nat) => k ≤ 600 ∧ ρ = [.no, .fz .dr, .fz (.d (plD 0 0 0)), .ow [plD 1 2 0, plD 1 2 y], .fz (.d (rwD f)), .fz (.d (.int w)), .fz (.d (rwD g)), .fz (.d (fwD f)), .fz (.d (fwD g)), .fz (fmU (plD 0 0 0) (nrm f)), .fz (fmU (plD x 0 0) (nrm g)), .ow (L.map pD), .fz (.d (rD r)), z13, z14, z15, .no, .no]) (And.intro ?_ ?_)
      · exact ⟨by omega, fun n' hn' => ⟨by omega, rfl⟩⟩
      rintro ρ k15 ⟨hk15, rfl⟩
      simp [-List.mem_cons, -asL]
      refine Exists.intro (fun (ρ : Ro) (k : Nat) => k ≤ 601 ∧ ∃ bd : D, ρ = [.no, .fz .dr, .fz (.d (plD 0 0 0)), .ow [plD 1 2 0, plD 1 2 y], .fz (.d (rwD f)), .fz (.d (.int w)), .fz (.d (rwD g)), .fz (.d (fwD f)), .fz (.d (fwD g)), .fz (fmU (plD 0 0 0) (nrm f)), .fz (fmU (plD x 0 0) (nrm g)), .ow (L.map pD), .fz (.d (rD r)), z13, z14, z15, .fz (.d bd), .no] ∧ (∀ kvs, bd ≠ .dict kvs) ∧ isBd bd = false ∧ lenB bd) (And.intro ?_ ?_)
      · refine ⟨by omega, fun y1 hy1 => ?_⟩
        have hb : (∀ kvs, y1 ≠ .dict kvs) ∧ isBd y1 = false ∧ lenB y1 := by
          simp only [List.mem_cons, List.not_mem_nil, or_false] at hy1
          rcases hy1 with rfl | rfl | rfl | rfl | rfl
          · exact ⟨(fun kvs z => by cases z), by rfl, (fun xs z => by cases z)⟩
          · exact ⟨(fun kvs z => by cases z), by rfl, (fun xs z => by cases z; simp)⟩
          · exact ⟨(fun kvs z => by cases z), by rfl, (fun xs z => by cases z; simp)⟩
          · exact ⟨(fun kvs z => by cases z), by rfl, (fun xs z => by cases z)⟩
          · exact ⟨(fun kvs z => by cases z), by rfl, (fun xs z => by cases z; simp)⟩
        by_cases hf : V3.flat y1 = true
        · simp only [hf, if_true]
          exact ⟨by omega, y1, rfl, hb⟩
        · simp only [hf, Bool.false_eq_true, if_false, show ¬ (3 ∈ [1, 4]) by decide, show ¬ (11 ∈ [1, 4]) by decide, show ¬ (13 ∈ [1, 4]) by decide, show ¬ (14 ∈ [1, 4]) by decide, show ¬ (15 ∈ [1, 4]) by decide]
          exact ⟨by omega, y1, rfl, hb⟩
      rintro ρ k16 ⟨hk16, bd, rfl, nd, nb, nl⟩
      simp [-asL]
      refine ⟨_, _, ⟨rfl, rfl⟩, .inl ⟨rwD f, rfl, (fun kvs z => by cases z), ?_⟩⟩
      refine ⟨_, _, ⟨rfl, rfl⟩, .inr ⟨plD 0 0 0, nrm f, rfl, .inl ⟨bd, rfl, nd, ?_⟩⟩⟩
      refine ⟨_, _, ⟨rfl, rfl⟩, .inl ⟨bd, rfl, nd, ?_⟩⟩
      refine ⟨_, _, ⟨rfl, rfl⟩, .inr ⟨plD 0 0 0, nrm f, rfl, nl, by show f.cs.length ≤ 20; omega, s1, fun c d m => pf (c, d) m, fun _ => ⟨few (by omega), by rfl, ?_⟩, fun a b e a1 a2 => ?_⟩⟩
      · show U.d (.bool (PyData.eqv (.list []) (.list []))) = .d (.bool true)
        rfl
      · subst e
        simp [isBd, isSzD, a1, a2] at nb
    · rintro done lap left ρ k G hG ⟨hd, hk, z13, z14, z15, rfl⟩
      simp at hd
      simp [-asL]
      refine ⟨by omega, by omega, fun u u0 u1 => ⟨by omega, by omega, fun v v0 v1 => ⟨_, _, ⟨rfl, rfl⟩, plD 0 0 0, nrm f, rfl, ?_, by show f.cs.length ≤ 20; omega, s1, fun c d m => pf (c, d) m, ?_, fun c d ecd c1 c2 L1 h1 l1 => ⟨f.cs, _, _, ⟨rfl, rfl, rfl⟩, by omega, fun c d m => s2 (c, d) m, by omega, by omega, fun L2 h2 l2 => ?_⟩⟩⟩⟩
      · intro xs z
        cases z
        simp
      · simp [isBd, isSzD]
        omega
      · obtain ⟨rfl, rfl⟩ : 1 + u = c ∧ 1 + v = d := by simpa using ecd
        obtain rfl : L1 = L2 := min_uniq h1 h2
        refine ⟨shaped_prs _, shaped_prs _, ?_⟩
        simp only [eqvL_prs, if_true]
        exact hG _ _ ⟨by simp; omega, by simp; omega, _, _, _, rfl⟩
    · exact ⟨by simp, by simp; omega, _, _, _, rfl⟩
end
end G21
set_option Elab.async false
set_option linter.all false
set_option maxRecDepth 100000
set_option maxHeartbeats 4000000
namespace G21
open PySem PySem.Spec PyProof.Rows L2
theorem law_at {l : PySem.W.OpenLaw} {w : World} {K : PySem.W.Frag} {h : Heap} {mg : Str → Option Value} {fa : Addr} (X : K.In h) (G : h.Ns mainGlobals mg) (hfa : mg "law" = some (.ref fa))
    {C C_GapError C_BadBody C_BadBy C_BadEnd C_BadForm C_BadLeast C_BadStairs C_BadStart C_NotJoined : Addr}
    {f_I : Addr} {od_I an_I : Option Addr} {sl_I : Array (Option Value)} {oc_I kV_I dc_I pm_I cd_I ct_I : Value}
    {f_q_is_number : Addr} {od_q_is_number an_q_is_number : Option Addr} {sl_q_is_number : Array (Option Value)} {oc_q_is_number kV_q_is_number dc_q_is_number pm_q_is_number cd_q_is_number ct_q_is_number : Value}
    {f_q_is_number_pair : Addr} {od_q_is_number_pair an_q_is_number_pair : Option Addr} {sl_q_is_number_pair : Array (Option Value)} {oc_q_is_number_pair kV_q_is_number_pair dc_q_is_number_pair pm_q_is_number_pair cd_q_is_number_pair ct_q_is_number_pair : Value}
    {f_q_check_by : Addr} {od_q_check_by an_q_check_by : Option Addr} {sl_q_check_by : Array (Option Value)} {oc_q_check_by kV_q_check_by dc_q_check_by pm_q_check_by cd_q_check_by ct_q_check_by : Value}
    {f_q_is_size : Addr} {od_q_is_size an_q_is_size : Option Addr} {sl_q_is_size : Array (Option Value)} {oc_q_is_size kV_q_is_size dc_q_is_size pm_q_is_size cd_q_is_size ct_q_is_size : Value}
    {f_q_is_body : Addr} {od_q_is_body an_q_is_body : Option Addr} {sl_q_is_body : Array (Option Value)} {oc_q_is_body kV_q_is_body dc_q_is_body pm_q_is_body cd_q_is_body ct_q_is_body : Value}
    {f_q_is_corner : Addr} {od_q_is_corner an_q_is_corner : Option Addr} {sl_q_is_corner : Array (Option Value)} {oc_q_is_corner kV_q_is_corner dc_q_is_corner pm_q_is_corner cd_q_is_corner ct_q_is_corner : Value}
    {f_q_check_body : Addr} {od_q_check_body an_q_check_body : Option Addr} {sl_q_check_body : Array (Option Value)} {oc_q_check_body kV_q_check_body dc_q_check_body pm_q_check_body cd_q_check_body ct_q_check_body : Value}
    {f_q_is_above : Addr} {od_q_is_above an_q_is_above : Option Addr} {sl_q_is_above : Array (Option Value)} {oc_q_is_above kV_q_is_above dc_q_is_above pm_q_is_above cd_q_is_above ct_q_is_above : Value}
    {f_q_lesser : Addr} {od_q_lesser an_q_lesser : Option Addr} {sl_q_lesser : Array (Option Value)} {oc_q_lesser kV_q_lesser dc_q_lesser pm_q_lesser cd_q_lesser ct_q_lesser : Value}
    {f_q_encloses : Addr} {od_q_encloses an_q_encloses : Option Addr} {sl_q_encloses : Array (Option Value)} {oc_q_encloses kV_q_encloses dc_q_encloses pm_q_encloses cd_q_encloses ct_q_encloses : Value}
    {f_q_is_stairs : Addr} {od_q_is_stairs an_q_is_stairs : Option Addr} {sl_q_is_stairs : Array (Option Value)} {oc_q_is_stairs kV_q_is_stairs dc_q_is_stairs pm_q_is_stairs cd_q_is_stairs ct_q_is_stairs : Value}
    {f_q_is_step : Addr} {od_q_is_step an_q_is_step : Option Addr} {sl_q_is_step : Array (Option Value)} {oc_q_is_step kV_q_is_step dc_q_is_step pm_q_is_step cd_q_is_step ct_q_is_step : Value}
    {f_q_check_stairs : Addr} {od_q_check_stairs an_q_check_stairs : Option Addr} {sl_q_check_stairs : Array (Option Value)} {oc_q_check_stairs kV_q_check_stairs dc_q_check_stairs pm_q_check_stairs cd_q_check_stairs ct_q_check_stairs : Value}
    {f_q_corner_order : Addr} {od_q_corner_order an_q_corner_order : Option Addr} {sl_q_corner_order : Array (Option Value)} {oc_q_corner_order kV_q_corner_order dc_q_corner_order pm_q_corner_order cd_q_corner_order ct_q_corner_order : Value}
    {f_q_stairs_of : Addr} {od_q_stairs_of an_q_stairs_of : Option Addr} {sl_q_stairs_of : Array (Option Value)} {oc_q_stairs_of kV_q_stairs_of dc_q_stairs_of pm_q_stairs_of cd_q_stairs_of ct_q_stairs_of : Value}
    {f_q_has : Addr} {od_q_has an_q_has : Option Addr} {sl_q_has : Array (Option Value)} {oc_q_has kV_q_has dc_q_has pm_q_has cd_q_has ct_q_has : Value}
    {f_q_both : Addr} {od_q_both an_q_both : Option Addr} {sl_q_both : Array (Option Value)} {oc_q_both kV_q_both dc_q_both pm_q_both cd_q_both ct_q_both : Value}
    {f_q_notches_of : Addr} {od_q_notches_of an_q_notches_of : Option Addr} {sl_q_notches_of : Array (Option Value)} {oc_q_notches_of kV_q_notches_of dc_q_notches_of pm_q_notches_of cd_q_notches_of ct_q_notches_of : Value}
    {f_q_moved_item : Addr} {od_q_moved_item an_q_moved_item : Option Addr} {sl_q_moved_item : Array (Option Value)} {oc_q_moved_item kV_q_moved_item dc_q_moved_item pm_q_moved_item cd_q_moved_item ct_q_moved_item : Value}
    {f_q_moved : Addr} {od_q_moved an_q_moved : Option Addr} {sl_q_moved : Array (Option Value)} {oc_q_moved kV_q_moved dc_q_moved pm_q_moved cd_q_moved ct_q_moved : Value}
    {f_q_is_any_place : Addr} {od_q_is_any_place an_q_is_any_place : Option Addr} {sl_q_is_any_place : Array (Option Value)} {oc_q_is_any_place kV_q_is_any_place dc_q_is_any_place pm_q_is_any_place cd_q_is_any_place ct_q_is_any_place : Value}
    {f_q_greatest : Addr} {od_q_greatest an_q_greatest : Option Addr} {sl_q_greatest : Array (Option Value)} {oc_q_greatest kV_q_greatest dc_q_greatest pm_q_greatest cd_q_greatest ct_q_greatest : Value}
    {f_q_grown : Addr} {od_q_grown an_q_grown : Option Addr} {sl_q_grown : Array (Option Value)} {oc_q_grown kV_q_grown dc_q_grown pm_q_grown cd_q_grown ct_q_grown : Value}
    {f_q_plain_by : Addr} {od_q_plain_by an_q_plain_by : Option Addr} {sl_q_plain_by : Array (Option Value)} {oc_q_plain_by kV_q_plain_by dc_q_plain_by pm_q_plain_by cd_q_plain_by ct_q_plain_by : Value}
    {f_q_body_behind : Addr} {od_q_body_behind an_q_body_behind : Option Addr} {sl_q_body_behind : Array (Option Value)} {oc_q_body_behind kV_q_body_behind dc_q_body_behind pm_q_body_behind cd_q_body_behind ct_q_body_behind : Value}
    {f_q_followed : Addr} {od_q_followed an_q_followed : Option Addr} {sl_q_followed : Array (Option Value)} {oc_q_followed kV_q_followed dc_q_followed pm_q_followed cd_q_followed ct_q_followed : Value}
    {f_q_check_form : Addr} {od_q_check_form an_q_check_form : Option Addr} {sl_q_check_form : Array (Option Value)} {oc_q_check_form kV_q_check_form dc_q_check_form pm_q_check_form cd_q_check_form ct_q_check_form : Value}
    {f_q_end_size : Addr} {od_q_end_size an_q_end_size : Option Addr} {sl_q_end_size : Array (Option Value)} {oc_q_end_size kV_q_end_size dc_q_end_size pm_q_end_size cd_q_end_size ct_q_end_size : Value}
    {f_q_telling_sizes : Addr} {od_q_telling_sizes an_q_telling_sizes : Option Addr} {sl_q_telling_sizes : Array (Option Value)} {oc_q_telling_sizes kV_q_telling_sizes dc_q_telling_sizes pm_q_telling_sizes cd_q_telling_sizes ct_q_telling_sizes : Value}
    {f_q_is_parted : Addr} {od_q_is_parted an_q_is_parted : Option Addr} {sl_q_is_parted : Array (Option Value)} {oc_q_is_parted kV_q_is_parted dc_q_is_parted pm_q_is_parted cd_q_is_parted ct_q_is_parted : Value}
    {f_q_form_parting : Addr} {od_q_form_parting an_q_form_parting : Option Addr} {sl_q_form_parting : Array (Option Value)} {oc_q_form_parting kV_q_form_parting dc_q_form_parting pm_q_form_parting cd_q_form_parting ct_q_form_parting : Value}
    {f_q_least_loads : Addr} {od_q_least_loads an_q_least_loads : Option Addr} {sl_q_least_loads : Array (Option Value)} {oc_q_least_loads kV_q_least_loads dc_q_least_loads pm_q_least_loads cd_q_least_loads ct_q_least_loads : Value}
    {f_l_begun : Addr} {od_l_begun an_l_begun : Option Addr} {sl_l_begun : Array (Option Value)} {oc_l_begun kV_l_begun dc_l_begun pm_l_begun cd_l_begun ct_l_begun : Value}
    {f_l_mixed : Addr} {od_l_mixed an_l_mixed : Option Addr} {sl_l_mixed : Array (Option Value)} {oc_l_mixed kV_l_mixed dc_l_mixed pm_l_mixed cd_l_mixed ct_l_mixed : Value}
    {f_l_take : Addr} {od_l_take an_l_take : Option Addr} {sl_l_take : Array (Option Value)} {oc_l_take kV_l_take dc_l_take pm_l_take cd_l_take ct_l_take : Value}
    {f_l_pick : Addr} {od_l_pick an_l_pick : Option Addr} {sl_l_pick : Array (Option Value)} {oc_l_pick kV_l_pick dc_l_pick pm_l_pick cd_l_pick ct_l_pick : Value}
    {f_l_caught : Addr} {od_l_caught an_l_caught : Option Addr} {sl_l_caught : Array (Option Value)} {oc_l_caught kV_l_caught dc_l_caught pm_l_caught cd_l_caught ct_l_caught : Value}
    {f_l_is_number : Addr} {od_l_is_number an_l_is_number : Option Addr} {sl_l_is_number : Array (Option Value)} {oc_l_is_number kV_l_is_number dc_l_is_number pm_l_is_number cd_l_is_number ct_l_is_number : Value}
    {f_l_least : Addr} {od_l_least an_l_least : Option Addr} {sl_l_least : Array (Option Value)} {oc_l_least kV_l_least dc_l_least pm_l_least cd_l_least ct_l_least : Value}
    {f_l_holds : Addr} {od_l_holds an_l_holds : Option Addr} {sl_l_holds : Array (Option Value)} {oc_l_holds kV_l_holds dc_l_holds pm_l_holds cd_l_holds ct_l_holds : Value}
    {f_l_rank : Addr} {od_l_rank an_l_rank : Option Addr} {sl_l_rank : Array (Option Value)} {oc_l_rank kV_l_rank dc_l_rank pm_l_rank cd_l_rank ct_l_rank : Value}
    {cc1 P1 : Addr}
    {f_l_staircase : Addr} {od_l_staircase an_l_staircase : Option Addr} {sl_l_staircase : Array (Option Value)} {oc_l_staircase kV_l_staircase dc_l_staircase pm_l_staircase ct_l_staircase : Value}
    {f_l_held : Addr} {od_l_held an_l_held : Option Addr} {sl_l_held : Array (Option Value)} {oc_l_held kV_l_held dc_l_held pm_l_held cd_l_held ct_l_held : Value}
    {f_l_joined : Addr} {od_l_joined an_l_joined : Option Addr} {sl_l_joined : Array (Option Value)} {oc_l_joined kV_l_joined dc_l_joined pm_l_joined cd_l_joined ct_l_joined : Value}
    {f_l_notches : Addr} {od_l_notches an_l_notches : Option Addr} {sl_l_notches : Array (Option Value)} {oc_l_notches kV_l_notches dc_l_notches pm_l_notches cd_l_notches ct_l_notches : Value}
    {f_l_size : Addr} {od_l_size an_l_size : Option Addr} {sl_l_size : Array (Option Value)} {oc_l_size kV_l_size dc_l_size pm_l_size cd_l_size ct_l_size : Value}
    {f_l_stairs : Addr} {od_l_stairs an_l_stairs : Option Addr} {sl_l_stairs : Array (Option Value)} {oc_l_stairs kV_l_stairs dc_l_stairs pm_l_stairs cd_l_stairs ct_l_stairs : Value}
    {f_l_is_size : Addr} {od_l_is_size an_l_is_size : Option Addr} {sl_l_is_size : Array (Option Value)} {oc_l_is_size kV_l_is_size dc_l_is_size pm_l_is_size cd_l_is_size ct_l_is_size : Value}
    {f_l_is_body : Addr} {od_l_is_body an_l_is_body : Option Addr} {sl_l_is_body : Array (Option Value)} {oc_l_is_body kV_l_is_body dc_l_is_body pm_l_is_body cd_l_is_body ct_l_is_body : Value}
    {f_l_beside : Addr} {od_l_beside an_l_beside : Option Addr} {sl_l_beside : Array (Option Value)} {oc_l_beside kV_l_beside dc_l_beside pm_l_beside cd_l_beside ct_l_beside : Value}
    {f_l_few : Addr} {od_l_few an_l_few : Option Addr} {sl_l_few : Array (Option Value)} {oc_l_few kV_l_few dc_l_few pm_l_few cd_l_few ct_l_few : Value}
    {f_l_grow : Addr} {od_l_grow an_l_grow : Option Addr} {sl_l_grow : Array (Option Value)} {oc_l_grow kV_l_grow dc_l_grow pm_l_grow cd_l_grow ct_l_grow : Value}
    {f_l_few_bodies : Addr} {od_l_few_bodies an_l_few_bodies : Option Addr} {sl_l_few_bodies : Array (Option Value)} {oc_l_few_bodies kV_l_few_bodies dc_l_few_bodies pm_l_few_bodies cd_l_few_bodies ct_l_few_bodies : Value}
    {f_l_raw : Addr} {od_l_raw an_l_raw : Option Addr} {sl_l_raw : Array (Option Value)} {oc_l_raw kV_l_raw dc_l_raw pm_l_raw cd_l_raw ct_l_raw : Value}
    {f_l_unlike : Addr} {od_l_unlike an_l_unlike : Option Addr} {sl_l_unlike : Array (Option Value)} {oc_l_unlike kV_l_unlike dc_l_unlike pm_l_unlike cd_l_unlike ct_l_unlike : Value}
    {f_l_loads : Addr} {od_l_loads an_l_loads : Option Addr} {sl_l_loads : Array (Option Value)} {oc_l_loads kV_l_loads dc_l_loads pm_l_loads cd_l_loads ct_l_loads : Value}
    {f_l_turns : Addr} {od_l_turns an_l_turns : Option Addr} {sl_l_turns : Array (Option Value)} {oc_l_turns kV_l_turns dc_l_turns pm_l_turns cd_l_turns ct_l_turns : Value}
    {f_l_great_ok : Addr} {od_l_great_ok an_l_great_ok : Option Addr} {sl_l_great_ok : Array (Option Value)} {oc_l_great_ok kV_l_great_ok dc_l_great_ok pm_l_great_ok cd_l_great_ok ct_l_great_ok : Value}
    {cc2 P2 : Addr}
    {f_q_law : Addr} {od_q_law an_q_law : Option Addr} {sl_q_law : Array (Option Value)} {oc_q_law kV_q_law dc_q_law pm_q_law ct_q_law : Value}
    (z_abs : PySem.W.nsIn K mainGlobals "abs" = some none)
    (z_all : PySem.W.nsIn K mainGlobals "all" = some none)
    (z_any : PySem.W.nsIn K mainGlobals "any" = some none)
    (z_bool : PySem.W.nsIn K mainGlobals "bool" = some none)
    (z_int : PySem.W.nsIn K mainGlobals "int" = some none)
    (z_isinstance : PySem.W.nsIn K mainGlobals "isinstance" = some none)
    (z_len : PySem.W.nsIn K mainGlobals "len" = some none)
    (z_list : PySem.W.nsIn K mainGlobals "list" = some none)
    (z_max : PySem.W.nsIn K mainGlobals "max" = some none)
    (z_min : PySem.W.nsIn K mainGlobals "min" = some none)
    (z_range : PySem.W.nsIn K mainGlobals "range" = some none)
    (z_reversed : PySem.W.nsIn K mainGlobals "reversed" = some none)
    (z_set : PySem.W.nsIn K mainGlobals "set" = some none)
    (z_sorted : PySem.W.nsIn K mainGlobals "sorted" = some none)
    (z_tuple : PySem.W.nsIn K mainGlobals "tuple" = some none)
    (z_zip : PySem.W.nsIn K mainGlobals "zip" = some none)
    (iN : PySem.W.specialIn K (.builtin "object.__class__") "__get__" = some (some (.builtin "getset_descriptor.__get__")))
    (iT : PySem.W.takesIn K (.builtin "object.__class__") = some true)
    (xa_GapError : PySem.W.nsIn K mainGlobals "GapError" = some (some (.ref C_GapError)))
    (xq_GapError : PySem.W.excIn K C_GapError [.type "ValueError", .type "Exception", .type "BaseException", .type "object"] "ValueError.__new__" = true)
    (xk_GapError : PySem.W.keepIn K (.ref C_GapError) = true)
    (xb_GapError : PySem.W.subIn K (.ref C_GapError) (.type "BaseException") = some true)
    (xt_GapError : PySem.W.typeIn K (.ref C_GapError) = some (.type "type"))
    (xg_GapError : PySem.W.findIn K (.ref C_GapError) "__getattribute__" = some (some (.builtin "BaseException.__getattribute__")))
    (xh_GapError : PySem.W.findIn K (.ref C_GapError) "__getattr__" = some none)
    (xd_GapError : PySem.W.hasDictIn K C_GapError = true)
    (xc_GapError : PySem.W.findIn K (.ref C_GapError) "__class__" = some (some (.builtin "object.__class__")))
    (xm_GapError : PySem.W.mroIn K C_GapError (.type "object") = some true)
    (xa_BadBody : PySem.W.nsIn K mainGlobals "BadBody" = some (some (.ref C_BadBody)))
    (xq_BadBody : PySem.W.excIn K C_BadBody [.type "ValueError", .type "Exception", .type "BaseException", .type "object"] "ValueError.__new__" = true)
    (xk_BadBody : PySem.W.keepIn K (.ref C_BadBody) = true)
    (xb_BadBody : PySem.W.subIn K (.ref C_BadBody) (.type "BaseException") = some true)
    (xt_BadBody : PySem.W.typeIn K (.ref C_BadBody) = some (.type "type"))
    (xg_BadBody : PySem.W.findIn K (.ref C_BadBody) "__getattribute__" = some (some (.builtin "BaseException.__getattribute__")))
    (xh_BadBody : PySem.W.findIn K (.ref C_BadBody) "__getattr__" = some none)
    (xd_BadBody : PySem.W.hasDictIn K C_BadBody = true)
    (xc_BadBody : PySem.W.findIn K (.ref C_BadBody) "__class__" = some (some (.builtin "object.__class__")))
    (xm_BadBody : PySem.W.mroIn K C_BadBody (.type "object") = some true)
    (xa_BadBy : PySem.W.nsIn K mainGlobals "BadBy" = some (some (.ref C_BadBy)))
    (xq_BadBy : PySem.W.excIn K C_BadBy [.type "ValueError", .type "Exception", .type "BaseException", .type "object"] "ValueError.__new__" = true)
    (xk_BadBy : PySem.W.keepIn K (.ref C_BadBy) = true)
    (xb_BadBy : PySem.W.subIn K (.ref C_BadBy) (.type "BaseException") = some true)
    (xt_BadBy : PySem.W.typeIn K (.ref C_BadBy) = some (.type "type"))
    (xg_BadBy : PySem.W.findIn K (.ref C_BadBy) "__getattribute__" = some (some (.builtin "BaseException.__getattribute__")))
    (xh_BadBy : PySem.W.findIn K (.ref C_BadBy) "__getattr__" = some none)
    (xd_BadBy : PySem.W.hasDictIn K C_BadBy = true)
    (xc_BadBy : PySem.W.findIn K (.ref C_BadBy) "__class__" = some (some (.builtin "object.__class__")))
    (xm_BadBy : PySem.W.mroIn K C_BadBy (.type "object") = some true)
    (xa_BadEnd : PySem.W.nsIn K mainGlobals "BadEnd" = some (some (.ref C_BadEnd)))
    (xq_BadEnd : PySem.W.excIn K C_BadEnd [.type "ValueError", .type "Exception", .type "BaseException", .type "object"] "ValueError.__new__" = true)
    (xk_BadEnd : PySem.W.keepIn K (.ref C_BadEnd) = true)
    (xb_BadEnd : PySem.W.subIn K (.ref C_BadEnd) (.type "BaseException") = some true)
    (xt_BadEnd : PySem.W.typeIn K (.ref C_BadEnd) = some (.type "type"))
    (xg_BadEnd : PySem.W.findIn K (.ref C_BadEnd) "__getattribute__" = some (some (.builtin "BaseException.__getattribute__")))
    (xh_BadEnd : PySem.W.findIn K (.ref C_BadEnd) "__getattr__" = some none)
    (xd_BadEnd : PySem.W.hasDictIn K C_BadEnd = true)
    (xc_BadEnd : PySem.W.findIn K (.ref C_BadEnd) "__class__" = some (some (.builtin "object.__class__")))
    (xm_BadEnd : PySem.W.mroIn K C_BadEnd (.type "object") = some true)
    (xa_BadForm : PySem.W.nsIn K mainGlobals "BadForm" = some (some (.ref C_BadForm)))
    (xq_BadForm : PySem.W.excIn K C_BadForm [.type "ValueError", .type "Exception", .type "BaseException", .type "object"] "ValueError.__new__" = true)
    (xk_BadForm : PySem.W.keepIn K (.ref C_BadForm) = true)
    (xb_BadForm : PySem.W.subIn K (.ref C_BadForm) (.type "BaseException") = some true)
    (xt_BadForm : PySem.W.typeIn K (.ref C_BadForm) = some (.type "type"))
    (xg_BadForm : PySem.W.findIn K (.ref C_BadForm) "__getattribute__" = some (some (.builtin "BaseException.__getattribute__")))
    (xh_BadForm : PySem.W.findIn K (.ref C_BadForm) "__getattr__" = some none)
    (xd_BadForm : PySem.W.hasDictIn K C_BadForm = true)
    (xc_BadForm : PySem.W.findIn K (.ref C_BadForm) "__class__" = some (some (.builtin "object.__class__")))
    (xm_BadForm : PySem.W.mroIn K C_BadForm (.type "object") = some true)
    (xa_BadLeast : PySem.W.nsIn K mainGlobals "BadLeast" = some (some (.ref C_BadLeast)))
    (xq_BadLeast : PySem.W.excIn K C_BadLeast [.type "ValueError", .type "Exception", .type "BaseException", .type "object"] "ValueError.__new__" = true)
    (xk_BadLeast : PySem.W.keepIn K (.ref C_BadLeast) = true)
    (xb_BadLeast : PySem.W.subIn K (.ref C_BadLeast) (.type "BaseException") = some true)
    (xt_BadLeast : PySem.W.typeIn K (.ref C_BadLeast) = some (.type "type"))
    (xg_BadLeast : PySem.W.findIn K (.ref C_BadLeast) "__getattribute__" = some (some (.builtin "BaseException.__getattribute__")))
    (xh_BadLeast : PySem.W.findIn K (.ref C_BadLeast) "__getattr__" = some none)
    (xd_BadLeast : PySem.W.hasDictIn K C_BadLeast = true)
    (xc_BadLeast : PySem.W.findIn K (.ref C_BadLeast) "__class__" = some (some (.builtin "object.__class__")))
    (xm_BadLeast : PySem.W.mroIn K C_BadLeast (.type "object") = some true)
    (xa_BadStairs : PySem.W.nsIn K mainGlobals "BadStairs" = some (some (.ref C_BadStairs)))
    (xq_BadStairs : PySem.W.excIn K C_BadStairs [.type "ValueError", .type "Exception", .type "BaseException", .type "object"] "ValueError.__new__" = true)
    (xk_BadStairs : PySem.W.keepIn K (.ref C_BadStairs) = true)
    (xb_BadStairs : PySem.W.subIn K (.ref C_BadStairs) (.type "BaseException") = some true)
    (xt_BadStairs : PySem.W.typeIn K (.ref C_BadStairs) = some (.type "type"))
    (xg_BadStairs : PySem.W.findIn K (.ref C_BadStairs) "__getattribute__" = some (some (.builtin "BaseException.__getattribute__")))
    (xh_BadStairs : PySem.W.findIn K (.ref C_BadStairs) "__getattr__" = some none)
    (xd_BadStairs : PySem.W.hasDictIn K C_BadStairs = true)
    (xc_BadStairs : PySem.W.findIn K (.ref C_BadStairs) "__class__" = some (some (.builtin "object.__class__")))
    (xm_BadStairs : PySem.W.mroIn K C_BadStairs (.type "object") = some true)
    (xa_BadStart : PySem.W.nsIn K mainGlobals "BadStart" = some (some (.ref C_BadStart)))
    (xq_BadStart : PySem.W.excIn K C_BadStart [.type "ValueError", .type "Exception", .type "BaseException", .type "object"] "ValueError.__new__" = true)
    (xk_BadStart : PySem.W.keepIn K (.ref C_BadStart) = true)
    (xb_BadStart : PySem.W.subIn K (.ref C_BadStart) (.type "BaseException") = some true)
    (xt_BadStart : PySem.W.typeIn K (.ref C_BadStart) = some (.type "type"))
    (xg_BadStart : PySem.W.findIn K (.ref C_BadStart) "__getattribute__" = some (some (.builtin "BaseException.__getattribute__")))
    (xh_BadStart : PySem.W.findIn K (.ref C_BadStart) "__getattr__" = some none)
    (xd_BadStart : PySem.W.hasDictIn K C_BadStart = true)
    (xc_BadStart : PySem.W.findIn K (.ref C_BadStart) "__class__" = some (some (.builtin "object.__class__")))
    (xm_BadStart : PySem.W.mroIn K C_BadStart (.type "object") = some true)
    (xa_NotJoined : PySem.W.nsIn K mainGlobals "NotJoined" = some (some (.ref C_NotJoined)))
    (xq_NotJoined : PySem.W.excIn K C_NotJoined [.type "ValueError", .type "Exception", .type "BaseException", .type "object"] "ValueError.__new__" = true)
    (xk_NotJoined : PySem.W.keepIn K (.ref C_NotJoined) = true)
    (xb_NotJoined : PySem.W.subIn K (.ref C_NotJoined) (.type "BaseException") = some true)
    (xt_NotJoined : PySem.W.typeIn K (.ref C_NotJoined) = some (.type "type"))
    (xg_NotJoined : PySem.W.findIn K (.ref C_NotJoined) "__getattribute__" = some (some (.builtin "BaseException.__getattribute__")))
    (xh_NotJoined : PySem.W.findIn K (.ref C_NotJoined) "__getattr__" = some none)
    (xd_NotJoined : PySem.W.hasDictIn K C_NotJoined = true)
    (xc_NotJoined : PySem.W.findIn K (.ref C_NotJoined) "__class__" = some (some (.builtin "object.__class__")))
    (xm_NotJoined : PySem.W.mroIn K C_NotJoined (.type "object") = some true)
    (u_BadBody : PySem.W.exmOne K (.ref C_BadBody) (.ref C_GapError) = some true)
    (u_BadBy : PySem.W.exmOne K (.ref C_BadBy) (.ref C_GapError) = some true)
    (u_BadEnd : PySem.W.exmOne K (.ref C_BadEnd) (.ref C_GapError) = some true)
    (u_BadForm : PySem.W.exmOne K (.ref C_BadForm) (.ref C_GapError) = some true)
    (u_BadLeast : PySem.W.exmOne K (.ref C_BadLeast) (.ref C_GapError) = some true)
    (u_BadStairs : PySem.W.exmOne K (.ref C_BadStairs) (.ref C_GapError) = some true)
    (u_BadStart : PySem.W.exmOne K (.ref C_BadStart) (.ref C_GapError) = some true)
    (u_NotJoined : PySem.W.exmOne K (.ref C_NotJoined) (.ref C_GapError) = some true)
    (aC : PySem.W.nsIn K mainGlobals "Form" = some (some (.ref C)))
    (pg : PySem.W.plainGet K C Str.empty = true)
    (hd : PySem.W.hasDictIn K C = true)
    (po : PySem.W.plainOver K C = true)
    (sa : PySem.W.findIn K (.ref C) "__setattr__" = some (some (.builtin "object.__setattr__")))
    (nB : PySem.W.findIn K (.ref C) "blocks" = some none)
    (nF_start : PySem.W.findIn K (.ref C) "start" = some none)
    (nF_end : PySem.W.findIn K (.ref C) "end" = some none)
    (nF_stairs : PySem.W.findIn K (.ref C) "stairs" = some none)
    (nF_least : PySem.W.findIn K (.ref C) "least" = some none)
    (nF_by : PySem.W.findIn K (.ref C) "by" = some none)
    (in_ : PySem.W.findIn K (.ref C) "__init__" = some (some (.ref f_I)))
    (l_I : K.lookup f_I = some ⟨oc_I, od_I, .func (PySem.W.fnOf "__init__" "Form.__init__" (defArgs S_q_Form_init) (defBody S_q_Form_init) (defScope S_q_Form_init) .none kV_I dc_I pm_I an_I cd_I ct_I), sl_I⟩)
    (c_I : PySem.W.codeIn K cd_I "Form.__init__" = true)
    (k_I : PySem.W.keepIn K (.ref f_I) = true)
    (ii : PySem.W.isFn K (.ref f_I) = true)
    (mk : PySem.W.makesIn K C = true)
    (kc : PySem.W.keepIn K (.ref C) = true)
    (iA : PySem.W.findIn K (.ref C) "__class__" = some (some (.builtin "object.__class__")))
    (iM : PySem.W.mroIn K C (.type "object") = some true)
    (kD : PySem.W.kitOne K (.ref C) (.ref C) = some true)
    (kNoneType : PySem.W.kitOne K (.type "NoneType") (.ref C) = some false)
    (ktuple : PySem.W.kitOne K (.type "tuple") (.ref C) = some false)
    (kstr : PySem.W.kitOne K (.type "str") (.ref C) = some false)
    (kint : PySem.W.kitOne K (.type "int") (.ref C) = some false)
    (kbool : PySem.W.kitOne K (.type "bool") (.ref C) = some false)
    (klist : PySem.W.kitOne K (.type "list") (.ref C) = some false)
    (n_BadBody : PySem.W.kitOne K (.type "NoneType") (.ref C_BadBody) = some false)
    (n_BadBy : PySem.W.kitOne K (.type "NoneType") (.ref C_BadBy) = some false)
    (n_BadEnd : PySem.W.kitOne K (.type "NoneType") (.ref C_BadEnd) = some false)
    (n_BadForm : PySem.W.kitOne K (.type "NoneType") (.ref C_BadForm) = some false)
    (n_BadLeast : PySem.W.kitOne K (.type "NoneType") (.ref C_BadLeast) = some false)
    (n_BadStairs : PySem.W.kitOne K (.type "NoneType") (.ref C_BadStairs) = some false)
    (n_BadStart : PySem.W.kitOne K (.type "NoneType") (.ref C_BadStart) = some false)
    (n_NotJoined : PySem.W.kitOne K (.type "NoneType") (.ref C_NotJoined) = some false)
    (e_BadBody : PySem.W.kitOne K (.ref C_BadBody) (.ref C_BadBody) = some true)
    (e_BadBy : PySem.W.kitOne K (.ref C_BadBy) (.ref C_BadBy) = some true)
    (e_BadEnd : PySem.W.kitOne K (.ref C_BadEnd) (.ref C_BadEnd) = some true)
    (e_BadForm : PySem.W.kitOne K (.ref C_BadForm) (.ref C_BadForm) = some true)
    (e_BadLeast : PySem.W.kitOne K (.ref C_BadLeast) (.ref C_BadLeast) = some true)
    (e_BadStairs : PySem.W.kitOne K (.ref C_BadStairs) (.ref C_BadStairs) = some true)
    (e_BadStart : PySem.W.kitOne K (.ref C_BadStart) (.ref C_BadStart) = some true)
    (e_NotJoined : PySem.W.kitOne K (.ref C_NotJoined) (.ref C_NotJoined) = some true)
    (a_q_is_number : PySem.W.nsIn K mainGlobals "is_number" = some (some (.ref f_q_is_number)))
    (l_q_is_number : K.lookup f_q_is_number = some ⟨oc_q_is_number, od_q_is_number, .func (PySem.W.fnOf "is_number" "is_number" (defArgs S_q_is_number) (defBody S_q_is_number) (defScope S_q_is_number) .none kV_q_is_number dc_q_is_number pm_q_is_number an_q_is_number cd_q_is_number ct_q_is_number), sl_q_is_number⟩)
    (c_q_is_number : PySem.W.codeIn K cd_q_is_number "is_number" = true)
    (k_q_is_number : PySem.W.keepIn K (.ref f_q_is_number) = true)
    (a_q_is_number_pair : PySem.W.nsIn K mainGlobals "is_number_pair" = some (some (.ref f_q_is_number_pair)))
    (l_q_is_number_pair : K.lookup f_q_is_number_pair = some ⟨oc_q_is_number_pair, od_q_is_number_pair, .func (PySem.W.fnOf "is_number_pair" "is_number_pair" (defArgs S_q_is_number_pair) (defBody S_q_is_number_pair) (defScope S_q_is_number_pair) .none kV_q_is_number_pair dc_q_is_number_pair pm_q_is_number_pair an_q_is_number_pair cd_q_is_number_pair ct_q_is_number_pair), sl_q_is_number_pair⟩)
    (c_q_is_number_pair : PySem.W.codeIn K cd_q_is_number_pair "is_number_pair" = true)
    (k_q_is_number_pair : PySem.W.keepIn K (.ref f_q_is_number_pair) = true)
    (a_q_check_by : PySem.W.nsIn K mainGlobals "check_by" = some (some (.ref f_q_check_by)))
    (l_q_check_by : K.lookup f_q_check_by = some ⟨oc_q_check_by, od_q_check_by, .func (PySem.W.fnOf "check_by" "check_by" (defArgs S_q_check_by) (defBody S_q_check_by) (defScope S_q_check_by) .none kV_q_check_by dc_q_check_by pm_q_check_by an_q_check_by cd_q_check_by ct_q_check_by), sl_q_check_by⟩)
    (c_q_check_by : PySem.W.codeIn K cd_q_check_by "check_by" = true)
    (k_q_check_by : PySem.W.keepIn K (.ref f_q_check_by) = true)
    (a_q_is_size : PySem.W.nsIn K mainGlobals "is_size" = some (some (.ref f_q_is_size)))
    (l_q_is_size : K.lookup f_q_is_size = some ⟨oc_q_is_size, od_q_is_size, .func (PySem.W.fnOf "is_size" "is_size" (defArgs S_q_is_size) (defBody S_q_is_size) (defScope S_q_is_size) .none kV_q_is_size dc_q_is_size pm_q_is_size an_q_is_size cd_q_is_size ct_q_is_size), sl_q_is_size⟩)
    (c_q_is_size : PySem.W.codeIn K cd_q_is_size "is_size" = true)
    (k_q_is_size : PySem.W.keepIn K (.ref f_q_is_size) = true)
    (a_q_is_body : PySem.W.nsIn K mainGlobals "is_body" = some (some (.ref f_q_is_body)))
    (l_q_is_body : K.lookup f_q_is_body = some ⟨oc_q_is_body, od_q_is_body, .func (PySem.W.fnOf "is_body" "is_body" (defArgs S_q_is_body) (defBody S_q_is_body) (defScope S_q_is_body) .none kV_q_is_body dc_q_is_body pm_q_is_body an_q_is_body cd_q_is_body ct_q_is_body), sl_q_is_body⟩)
    (c_q_is_body : PySem.W.codeIn K cd_q_is_body "is_body" = true)
    (k_q_is_body : PySem.W.keepIn K (.ref f_q_is_body) = true)
    (a_q_is_corner : PySem.W.nsIn K mainGlobals "is_corner" = some (some (.ref f_q_is_corner)))
    (l_q_is_corner : K.lookup f_q_is_corner = some ⟨oc_q_is_corner, od_q_is_corner, .func (PySem.W.fnOf "is_corner" "is_corner" (defArgs S_q_is_corner) (defBody S_q_is_corner) (defScope S_q_is_corner) .none kV_q_is_corner dc_q_is_corner pm_q_is_corner an_q_is_corner cd_q_is_corner ct_q_is_corner), sl_q_is_corner⟩)
    (c_q_is_corner : PySem.W.codeIn K cd_q_is_corner "is_corner" = true)
    (k_q_is_corner : PySem.W.keepIn K (.ref f_q_is_corner) = true)
    (a_q_check_body : PySem.W.nsIn K mainGlobals "check_body" = some (some (.ref f_q_check_body)))
    (l_q_check_body : K.lookup f_q_check_body = some ⟨oc_q_check_body, od_q_check_body, .func (PySem.W.fnOf "check_body" "check_body" (defArgs S_q_check_body) (defBody S_q_check_body) (defScope S_q_check_body) .none kV_q_check_body dc_q_check_body pm_q_check_body an_q_check_body cd_q_check_body ct_q_check_body), sl_q_check_body⟩)
    (c_q_check_body : PySem.W.codeIn K cd_q_check_body "check_body" = true)
    (k_q_check_body : PySem.W.keepIn K (.ref f_q_check_body) = true)
    (a_q_is_above : PySem.W.nsIn K mainGlobals "is_above" = some (some (.ref f_q_is_above)))
    (l_q_is_above : K.lookup f_q_is_above = some ⟨oc_q_is_above, od_q_is_above, .func (PySem.W.fnOf "is_above" "is_above" (defArgs S_q_is_above) (defBody S_q_is_above) (defScope S_q_is_above) .none kV_q_is_above dc_q_is_above pm_q_is_above an_q_is_above cd_q_is_above ct_q_is_above), sl_q_is_above⟩)
    (c_q_is_above : PySem.W.codeIn K cd_q_is_above "is_above" = true)
    (k_q_is_above : PySem.W.keepIn K (.ref f_q_is_above) = true)
    (a_q_lesser : PySem.W.nsIn K mainGlobals "lesser" = some (some (.ref f_q_lesser)))
    (l_q_lesser : K.lookup f_q_lesser = some ⟨oc_q_lesser, od_q_lesser, .func (PySem.W.fnOf "lesser" "lesser" (defArgs S_q_lesser) (defBody S_q_lesser) (defScope S_q_lesser) .none kV_q_lesser dc_q_lesser pm_q_lesser an_q_lesser cd_q_lesser ct_q_lesser), sl_q_lesser⟩)
    (c_q_lesser : PySem.W.codeIn K cd_q_lesser "lesser" = true)
    (k_q_lesser : PySem.W.keepIn K (.ref f_q_lesser) = true)
    (a_q_encloses : PySem.W.nsIn K mainGlobals "encloses" = some (some (.ref f_q_encloses)))
    (l_q_encloses : K.lookup f_q_encloses = some ⟨oc_q_encloses, od_q_encloses, .func (PySem.W.fnOf "encloses" "encloses" (defArgs S_q_encloses) (defBody S_q_encloses) (defScope S_q_encloses) .none kV_q_encloses dc_q_encloses pm_q_encloses an_q_encloses cd_q_encloses ct_q_encloses), sl_q_encloses⟩)
    (c_q_encloses : PySem.W.codeIn K cd_q_encloses "encloses" = true)
    (k_q_encloses : PySem.W.keepIn K (.ref f_q_encloses) = true)
    (a_q_is_stairs : PySem.W.nsIn K mainGlobals "is_stairs" = some (some (.ref f_q_is_stairs)))
    (l_q_is_stairs : K.lookup f_q_is_stairs = some ⟨oc_q_is_stairs, od_q_is_stairs, .func (PySem.W.fnOf "is_stairs" "is_stairs" (defArgs S_q_is_stairs) (defBody S_q_is_stairs) (defScope S_q_is_stairs) .none kV_q_is_stairs dc_q_is_stairs pm_q_is_stairs an_q_is_stairs cd_q_is_stairs ct_q_is_stairs), sl_q_is_stairs⟩)
    (c_q_is_stairs : PySem.W.codeIn K cd_q_is_stairs "is_stairs" = true)
    (k_q_is_stairs : PySem.W.keepIn K (.ref f_q_is_stairs) = true)
    (a_q_is_step : PySem.W.nsIn K mainGlobals "is_step" = some (some (.ref f_q_is_step)))
    (l_q_is_step : K.lookup f_q_is_step = some ⟨oc_q_is_step, od_q_is_step, .func (PySem.W.fnOf "is_step" "is_step" (defArgs S_q_is_step) (defBody S_q_is_step) (defScope S_q_is_step) .none kV_q_is_step dc_q_is_step pm_q_is_step an_q_is_step cd_q_is_step ct_q_is_step), sl_q_is_step⟩)
    (c_q_is_step : PySem.W.codeIn K cd_q_is_step "is_step" = true)
    (k_q_is_step : PySem.W.keepIn K (.ref f_q_is_step) = true)
    (a_q_check_stairs : PySem.W.nsIn K mainGlobals "check_stairs" = some (some (.ref f_q_check_stairs)))
    (l_q_check_stairs : K.lookup f_q_check_stairs = some ⟨oc_q_check_stairs, od_q_check_stairs, .func (PySem.W.fnOf "check_stairs" "check_stairs" (defArgs S_q_check_stairs) (defBody S_q_check_stairs) (defScope S_q_check_stairs) .none kV_q_check_stairs dc_q_check_stairs pm_q_check_stairs an_q_check_stairs cd_q_check_stairs ct_q_check_stairs), sl_q_check_stairs⟩)
    (c_q_check_stairs : PySem.W.codeIn K cd_q_check_stairs "check_stairs" = true)
    (k_q_check_stairs : PySem.W.keepIn K (.ref f_q_check_stairs) = true)
    (a_q_corner_order : PySem.W.nsIn K mainGlobals "corner_order" = some (some (.ref f_q_corner_order)))
    (l_q_corner_order : K.lookup f_q_corner_order = some ⟨oc_q_corner_order, od_q_corner_order, .func (PySem.W.fnOf "corner_order" "corner_order" (defArgs S_q_corner_order) (defBody S_q_corner_order) (defScope S_q_corner_order) .none kV_q_corner_order dc_q_corner_order pm_q_corner_order an_q_corner_order cd_q_corner_order ct_q_corner_order), sl_q_corner_order⟩)
    (c_q_corner_order : PySem.W.codeIn K cd_q_corner_order "corner_order" = true)
    (k_q_corner_order : PySem.W.keepIn K (.ref f_q_corner_order) = true)
    (a_q_stairs_of : PySem.W.nsIn K mainGlobals "stairs_of" = some (some (.ref f_q_stairs_of)))
    (l_q_stairs_of : K.lookup f_q_stairs_of = some ⟨oc_q_stairs_of, od_q_stairs_of, .func (PySem.W.fnOf "stairs_of" "stairs_of" (defArgs S_q_stairs_of) (defBody S_q_stairs_of) (defScope S_q_stairs_of) .none kV_q_stairs_of dc_q_stairs_of pm_q_stairs_of an_q_stairs_of cd_q_stairs_of ct_q_stairs_of), sl_q_stairs_of⟩)
    (c_q_stairs_of : PySem.W.codeIn K cd_q_stairs_of "stairs_of" = true)
    (k_q_stairs_of : PySem.W.keepIn K (.ref f_q_stairs_of) = true)
    (a_q_has : PySem.W.nsIn K mainGlobals "has" = some (some (.ref f_q_has)))
    (l_q_has : K.lookup f_q_has = some ⟨oc_q_has, od_q_has, .func (PySem.W.fnOf "has" "has" (defArgs S_q_has) (defBody S_q_has) (defScope S_q_has) .none kV_q_has dc_q_has pm_q_has an_q_has cd_q_has ct_q_has), sl_q_has⟩)
    (c_q_has : PySem.W.codeIn K cd_q_has "has" = true)
    (k_q_has : PySem.W.keepIn K (.ref f_q_has) = true)
    (a_q_both : PySem.W.nsIn K mainGlobals "both" = some (some (.ref f_q_both)))
    (l_q_both : K.lookup f_q_both = some ⟨oc_q_both, od_q_both, .func (PySem.W.fnOf "both" "both" (defArgs S_q_both) (defBody S_q_both) (defScope S_q_both) .none kV_q_both dc_q_both pm_q_both an_q_both cd_q_both ct_q_both), sl_q_both⟩)
    (c_q_both : PySem.W.codeIn K cd_q_both "both" = true)
    (k_q_both : PySem.W.keepIn K (.ref f_q_both) = true)
    (a_q_notches_of : PySem.W.nsIn K mainGlobals "notches_of" = some (some (.ref f_q_notches_of)))
    (l_q_notches_of : K.lookup f_q_notches_of = some ⟨oc_q_notches_of, od_q_notches_of, .func (PySem.W.fnOf "notches_of" "notches_of" (defArgs S_q_notches_of) (defBody S_q_notches_of) (defScope S_q_notches_of) .none kV_q_notches_of dc_q_notches_of pm_q_notches_of an_q_notches_of cd_q_notches_of ct_q_notches_of), sl_q_notches_of⟩)
    (c_q_notches_of : PySem.W.codeIn K cd_q_notches_of "notches_of" = true)
    (k_q_notches_of : PySem.W.keepIn K (.ref f_q_notches_of) = true)
    (a_q_moved_item : PySem.W.nsIn K mainGlobals "moved_item" = some (some (.ref f_q_moved_item)))
    (l_q_moved_item : K.lookup f_q_moved_item = some ⟨oc_q_moved_item, od_q_moved_item, .func (PySem.W.fnOf "moved_item" "moved_item" (defArgs S_q_moved_item) (defBody S_q_moved_item) (defScope S_q_moved_item) .none kV_q_moved_item dc_q_moved_item pm_q_moved_item an_q_moved_item cd_q_moved_item ct_q_moved_item), sl_q_moved_item⟩)
    (c_q_moved_item : PySem.W.codeIn K cd_q_moved_item "moved_item" = true)
    (k_q_moved_item : PySem.W.keepIn K (.ref f_q_moved_item) = true)
    (a_q_moved : PySem.W.nsIn K mainGlobals "moved" = some (some (.ref f_q_moved)))
    (l_q_moved : K.lookup f_q_moved = some ⟨oc_q_moved, od_q_moved, .func (PySem.W.fnOf "moved" "moved" (defArgs S_q_moved) (defBody S_q_moved) (defScope S_q_moved) .none kV_q_moved dc_q_moved pm_q_moved an_q_moved cd_q_moved ct_q_moved), sl_q_moved⟩)
    (c_q_moved : PySem.W.codeIn K cd_q_moved "moved" = true)
    (k_q_moved : PySem.W.keepIn K (.ref f_q_moved) = true)
    (a_q_is_any_place : PySem.W.nsIn K mainGlobals "is_any_place" = some (some (.ref f_q_is_any_place)))
    (l_q_is_any_place : K.lookup f_q_is_any_place = some ⟨oc_q_is_any_place, od_q_is_any_place, .func (PySem.W.fnOf "is_any_place" "is_any_place" (defArgs S_q_is_any_place) (defBody S_q_is_any_place) (defScope S_q_is_any_place) .none kV_q_is_any_place dc_q_is_any_place pm_q_is_any_place an_q_is_any_place cd_q_is_any_place ct_q_is_any_place), sl_q_is_any_place⟩)
    (c_q_is_any_place : PySem.W.codeIn K cd_q_is_any_place "is_any_place" = true)
    (k_q_is_any_place : PySem.W.keepIn K (.ref f_q_is_any_place) = true)
    (a_q_greatest : PySem.W.nsIn K mainGlobals "greatest" = some (some (.ref f_q_greatest)))
    (l_q_greatest : K.lookup f_q_greatest = some ⟨oc_q_greatest, od_q_greatest, .func (PySem.W.fnOf "greatest" "greatest" (defArgs S_q_greatest) (defBody S_q_greatest) (defScope S_q_greatest) .none kV_q_greatest dc_q_greatest pm_q_greatest an_q_greatest cd_q_greatest ct_q_greatest), sl_q_greatest⟩)
    (c_q_greatest : PySem.W.codeIn K cd_q_greatest "greatest" = true)
    (k_q_greatest : PySem.W.keepIn K (.ref f_q_greatest) = true)
    (a_q_grown : PySem.W.nsIn K mainGlobals "grown" = some (some (.ref f_q_grown)))
    (l_q_grown : K.lookup f_q_grown = some ⟨oc_q_grown, od_q_grown, .func (PySem.W.fnOf "grown" "grown" (defArgs S_q_grown) (defBody S_q_grown) (defScope S_q_grown) .none kV_q_grown dc_q_grown pm_q_grown an_q_grown cd_q_grown ct_q_grown), sl_q_grown⟩)
    (c_q_grown : PySem.W.codeIn K cd_q_grown "grown" = true)
    (k_q_grown : PySem.W.keepIn K (.ref f_q_grown) = true)
    (a_q_plain_by : PySem.W.nsIn K mainGlobals "plain_by" = some (some (.ref f_q_plain_by)))
    (l_q_plain_by : K.lookup f_q_plain_by = some ⟨oc_q_plain_by, od_q_plain_by, .func (PySem.W.fnOf "plain_by" "plain_by" (defArgs S_q_plain_by) (defBody S_q_plain_by) (defScope S_q_plain_by) .none kV_q_plain_by dc_q_plain_by pm_q_plain_by an_q_plain_by cd_q_plain_by ct_q_plain_by), sl_q_plain_by⟩)
    (c_q_plain_by : PySem.W.codeIn K cd_q_plain_by "plain_by" = true)
    (k_q_plain_by : PySem.W.keepIn K (.ref f_q_plain_by) = true)
    (a_q_body_behind : PySem.W.nsIn K mainGlobals "body_behind" = some (some (.ref f_q_body_behind)))
    (l_q_body_behind : K.lookup f_q_body_behind = some ⟨oc_q_body_behind, od_q_body_behind, .func (PySem.W.fnOf "body_behind" "body_behind" (defArgs S_q_body_behind) (defBody S_q_body_behind) (defScope S_q_body_behind) .none kV_q_body_behind dc_q_body_behind pm_q_body_behind an_q_body_behind cd_q_body_behind ct_q_body_behind), sl_q_body_behind⟩)
    (c_q_body_behind : PySem.W.codeIn K cd_q_body_behind "body_behind" = true)
    (k_q_body_behind : PySem.W.keepIn K (.ref f_q_body_behind) = true)
    (a_q_followed : PySem.W.nsIn K mainGlobals "followed" = some (some (.ref f_q_followed)))
    (l_q_followed : K.lookup f_q_followed = some ⟨oc_q_followed, od_q_followed, .func (PySem.W.fnOf "followed" "followed" (defArgs S_q_followed) (defBody S_q_followed) (defScope S_q_followed) .none kV_q_followed dc_q_followed pm_q_followed an_q_followed cd_q_followed ct_q_followed), sl_q_followed⟩)
    (c_q_followed : PySem.W.codeIn K cd_q_followed "followed" = true)
    (k_q_followed : PySem.W.keepIn K (.ref f_q_followed) = true)
    (a_q_check_form : PySem.W.nsIn K mainGlobals "check_form" = some (some (.ref f_q_check_form)))
    (l_q_check_form : K.lookup f_q_check_form = some ⟨oc_q_check_form, od_q_check_form, .func (PySem.W.fnOf "check_form" "check_form" (defArgs S_q_check_form) (defBody S_q_check_form) (defScope S_q_check_form) .none kV_q_check_form dc_q_check_form pm_q_check_form an_q_check_form cd_q_check_form ct_q_check_form), sl_q_check_form⟩)
    (c_q_check_form : PySem.W.codeIn K cd_q_check_form "check_form" = true)
    (k_q_check_form : PySem.W.keepIn K (.ref f_q_check_form) = true)
    (a_q_end_size : PySem.W.nsIn K mainGlobals "end_size" = some (some (.ref f_q_end_size)))
    (l_q_end_size : K.lookup f_q_end_size = some ⟨oc_q_end_size, od_q_end_size, .func (PySem.W.fnOf "end_size" "end_size" (defArgs S_q_end_size) (defBody S_q_end_size) (defScope S_q_end_size) .none kV_q_end_size dc_q_end_size pm_q_end_size an_q_end_size cd_q_end_size ct_q_end_size), sl_q_end_size⟩)
    (c_q_end_size : PySem.W.codeIn K cd_q_end_size "end_size" = true)
    (k_q_end_size : PySem.W.keepIn K (.ref f_q_end_size) = true)
    (a_q_telling_sizes : PySem.W.nsIn K mainGlobals "telling_sizes" = some (some (.ref f_q_telling_sizes)))
    (l_q_telling_sizes : K.lookup f_q_telling_sizes = some ⟨oc_q_telling_sizes, od_q_telling_sizes, .func (PySem.W.fnOf "telling_sizes" "telling_sizes" (defArgs S_q_telling_sizes) (defBody S_q_telling_sizes) (defScope S_q_telling_sizes) .none kV_q_telling_sizes dc_q_telling_sizes pm_q_telling_sizes an_q_telling_sizes cd_q_telling_sizes ct_q_telling_sizes), sl_q_telling_sizes⟩)
    (c_q_telling_sizes : PySem.W.codeIn K cd_q_telling_sizes "telling_sizes" = true)
    (k_q_telling_sizes : PySem.W.keepIn K (.ref f_q_telling_sizes) = true)
    (a_q_is_parted : PySem.W.nsIn K mainGlobals "is_parted" = some (some (.ref f_q_is_parted)))
    (l_q_is_parted : K.lookup f_q_is_parted = some ⟨oc_q_is_parted, od_q_is_parted, .func (PySem.W.fnOf "is_parted" "is_parted" (defArgs S_q_is_parted) (defBody S_q_is_parted) (defScope S_q_is_parted) .none kV_q_is_parted dc_q_is_parted pm_q_is_parted an_q_is_parted cd_q_is_parted ct_q_is_parted), sl_q_is_parted⟩)
    (c_q_is_parted : PySem.W.codeIn K cd_q_is_parted "is_parted" = true)
    (k_q_is_parted : PySem.W.keepIn K (.ref f_q_is_parted) = true)
    (a_q_form_parting : PySem.W.nsIn K mainGlobals "form_parting" = some (some (.ref f_q_form_parting)))
    (l_q_form_parting : K.lookup f_q_form_parting = some ⟨oc_q_form_parting, od_q_form_parting, .func (PySem.W.fnOf "form_parting" "form_parting" (defArgs S_q_form_parting) (defBody S_q_form_parting) (defScope S_q_form_parting) .none kV_q_form_parting dc_q_form_parting pm_q_form_parting an_q_form_parting cd_q_form_parting ct_q_form_parting), sl_q_form_parting⟩)
    (c_q_form_parting : PySem.W.codeIn K cd_q_form_parting "form_parting" = true)
    (k_q_form_parting : PySem.W.keepIn K (.ref f_q_form_parting) = true)
    (a_q_least_loads : PySem.W.nsIn K mainGlobals "least_loads" = some (some (.ref f_q_least_loads)))
    (l_q_least_loads : K.lookup f_q_least_loads = some ⟨oc_q_least_loads, od_q_least_loads, .func (PySem.W.fnOf "least_loads" "least_loads" (defArgs S_q_least_loads) (defBody S_q_least_loads) (defScope S_q_least_loads) .none kV_q_least_loads dc_q_least_loads pm_q_least_loads an_q_least_loads cd_q_least_loads ct_q_least_loads), sl_q_least_loads⟩)
    (c_q_least_loads : PySem.W.codeIn K cd_q_least_loads "least_loads" = true)
    (k_q_least_loads : PySem.W.keepIn K (.ref f_q_least_loads) = true)
    (a_l_begun : PySem.W.nsIn K mainGlobals "_law_begun" = some (some (.ref f_l_begun)))
    (l_l_begun : K.lookup f_l_begun = some ⟨oc_l_begun, od_l_begun, .func (PySem.W.fnOf "_law_begun" "_law_begun" (defArgs S_l_begun) (defBody S_l_begun) (defScope S_l_begun) .none kV_l_begun dc_l_begun pm_l_begun an_l_begun cd_l_begun ct_l_begun), sl_l_begun⟩)
    (c_l_begun : PySem.W.codeIn K cd_l_begun "_law_begun" = true)
    (k_l_begun : PySem.W.keepIn K (.ref f_l_begun) = true)
    (a_l_mixed : PySem.W.nsIn K mainGlobals "_law_mixed" = some (some (.ref f_l_mixed)))
    (l_l_mixed : K.lookup f_l_mixed = some ⟨oc_l_mixed, od_l_mixed, .func (PySem.W.fnOf "_law_mixed" "_law_mixed" (defArgs S_l_mixed) (defBody S_l_mixed) (defScope S_l_mixed) .none kV_l_mixed dc_l_mixed pm_l_mixed an_l_mixed cd_l_mixed ct_l_mixed), sl_l_mixed⟩)
    (c_l_mixed : PySem.W.codeIn K cd_l_mixed "_law_mixed" = true)
    (k_l_mixed : PySem.W.keepIn K (.ref f_l_mixed) = true)
    (a_l_take : PySem.W.nsIn K mainGlobals "_law_take" = some (some (.ref f_l_take)))
    (l_l_take : K.lookup f_l_take = some ⟨oc_l_take, od_l_take, .func (PySem.W.fnOf "_law_take" "_law_take" (defArgs S_l_take) (defBody S_l_take) (defScope S_l_take) .none kV_l_take dc_l_take pm_l_take an_l_take cd_l_take ct_l_take), sl_l_take⟩)
    (c_l_take : PySem.W.codeIn K cd_l_take "_law_take" = true)
    (k_l_take : PySem.W.keepIn K (.ref f_l_take) = true)
    (a_l_pick : PySem.W.nsIn K mainGlobals "_law_pick" = some (some (.ref f_l_pick)))
    (l_l_pick : K.lookup f_l_pick = some ⟨oc_l_pick, od_l_pick, .func (PySem.W.fnOf "_law_pick" "_law_pick" (defArgs S_l_pick) (defBody S_l_pick) (defScope S_l_pick) .none kV_l_pick dc_l_pick pm_l_pick an_l_pick cd_l_pick ct_l_pick), sl_l_pick⟩)
    (c_l_pick : PySem.W.codeIn K cd_l_pick "_law_pick" = true)
    (k_l_pick : PySem.W.keepIn K (.ref f_l_pick) = true)
    (a_l_caught : PySem.W.nsIn K mainGlobals "_law_caught" = some (some (.ref f_l_caught)))
    (l_l_caught : K.lookup f_l_caught = some ⟨oc_l_caught, od_l_caught, .func (PySem.W.fnOf "_law_caught" "_law_caught" (defArgs S_l_caught) (defBody S_l_caught) (defScope S_l_caught) .none kV_l_caught dc_l_caught pm_l_caught an_l_caught cd_l_caught ct_l_caught), sl_l_caught⟩)
    (c_l_caught : PySem.W.codeIn K cd_l_caught "_law_caught" = true)
    (k_l_caught : PySem.W.keepIn K (.ref f_l_caught) = true)
    (a_l_is_number : PySem.W.nsIn K mainGlobals "_law_is_number" = some (some (.ref f_l_is_number)))
    (l_l_is_number : K.lookup f_l_is_number = some ⟨oc_l_is_number, od_l_is_number, .func (PySem.W.fnOf "_law_is_number" "_law_is_number" (defArgs S_l_is_number) (defBody S_l_is_number) (defScope S_l_is_number) .none kV_l_is_number dc_l_is_number pm_l_is_number an_l_is_number cd_l_is_number ct_l_is_number), sl_l_is_number⟩)
    (c_l_is_number : PySem.W.codeIn K cd_l_is_number "_law_is_number" = true)
    (k_l_is_number : PySem.W.keepIn K (.ref f_l_is_number) = true)
    (a_l_least : PySem.W.nsIn K mainGlobals "_law_least" = some (some (.ref f_l_least)))
    (l_l_least : K.lookup f_l_least = some ⟨oc_l_least, od_l_least, .func (PySem.W.fnOf "_law_least" "_law_least" (defArgs S_l_least) (defBody S_l_least) (defScope S_l_least) .none kV_l_least dc_l_least pm_l_least an_l_least cd_l_least ct_l_least), sl_l_least⟩)
    (c_l_least : PySem.W.codeIn K cd_l_least "_law_least" = true)
    (k_l_least : PySem.W.keepIn K (.ref f_l_least) = true)
    (a_l_holds : PySem.W.nsIn K mainGlobals "_law_holds" = some (some (.ref f_l_holds)))
    (l_l_holds : K.lookup f_l_holds = some ⟨oc_l_holds, od_l_holds, .func (PySem.W.fnOf "_law_holds" "_law_holds" (defArgs S_l_holds) (defBody S_l_holds) (defScope S_l_holds) .none kV_l_holds dc_l_holds pm_l_holds an_l_holds cd_l_holds ct_l_holds), sl_l_holds⟩)
    (c_l_holds : PySem.W.codeIn K cd_l_holds "_law_holds" = true)
    (k_l_holds : PySem.W.keepIn K (.ref f_l_holds) = true)
    (a_l_rank : PySem.W.nsIn K mainGlobals "_law_rank" = some (some (.ref f_l_rank)))
    (l_l_rank : K.lookup f_l_rank = some ⟨oc_l_rank, od_l_rank, .func (PySem.W.fnOf "_law_rank" "_law_rank" (defArgs S_l_rank) (defBody S_l_rank) (defScope S_l_rank) .none kV_l_rank dc_l_rank pm_l_rank an_l_rank cd_l_rank ct_l_rank), sl_l_rank⟩)
    (c_l_rank : PySem.W.codeIn K cd_l_rank "_law_rank" = true)
    (k_l_rank : PySem.W.keepIn K (.ref f_l_rank) = true)
    (a_l_staircase : PySem.W.nsIn K mainGlobals "_law_staircase" = some (some (.ref f_l_staircase)))
    (l_l_staircase : K.lookup f_l_staircase = some ⟨oc_l_staircase, od_l_staircase, .func (PySem.W.fnOf "_law_staircase" "_law_staircase" (defArgs S_l_staircase) (defBody S_l_staircase) (defScope S_l_staircase) .none kV_l_staircase dc_l_staircase pm_l_staircase an_l_staircase (.ref cc1) ct_l_staircase), sl_l_staircase⟩)
    (c_l_staircase : PySem.W.codeIn K (.ref cc1) "_law_staircase" = true)
    (k_l_staircase : PySem.W.keepIn K (.ref f_l_staircase) = true)
    (a_l_held : PySem.W.nsIn K mainGlobals "_law_held" = some (some (.ref f_l_held)))
    (l_l_held : K.lookup f_l_held = some ⟨oc_l_held, od_l_held, .func (PySem.W.fnOf "_law_held" "_law_held" (defArgs S_l_held) (defBody S_l_held) (defScope S_l_held) .none kV_l_held dc_l_held pm_l_held an_l_held cd_l_held ct_l_held), sl_l_held⟩)
    (c_l_held : PySem.W.codeIn K cd_l_held "_law_held" = true)
    (k_l_held : PySem.W.keepIn K (.ref f_l_held) = true)
    (a_l_joined : PySem.W.nsIn K mainGlobals "_law_joined" = some (some (.ref f_l_joined)))
    (l_l_joined : K.lookup f_l_joined = some ⟨oc_l_joined, od_l_joined, .func (PySem.W.fnOf "_law_joined" "_law_joined" (defArgs S_l_joined) (defBody S_l_joined) (defScope S_l_joined) .none kV_l_joined dc_l_joined pm_l_joined an_l_joined cd_l_joined ct_l_joined), sl_l_joined⟩)
    (c_l_joined : PySem.W.codeIn K cd_l_joined "_law_joined" = true)
    (k_l_joined : PySem.W.keepIn K (.ref f_l_joined) = true)
    (a_l_notches : PySem.W.nsIn K mainGlobals "_law_notches" = some (some (.ref f_l_notches)))
    (l_l_notches : K.lookup f_l_notches = some ⟨oc_l_notches, od_l_notches, .func (PySem.W.fnOf "_law_notches" "_law_notches" (defArgs S_l_notches) (defBody S_l_notches) (defScope S_l_notches) .none kV_l_notches dc_l_notches pm_l_notches an_l_notches cd_l_notches ct_l_notches), sl_l_notches⟩)
    (c_l_notches : PySem.W.codeIn K cd_l_notches "_law_notches" = true)
    (k_l_notches : PySem.W.keepIn K (.ref f_l_notches) = true)
    (a_l_size : PySem.W.nsIn K mainGlobals "_law_size" = some (some (.ref f_l_size)))
    (l_l_size : K.lookup f_l_size = some ⟨oc_l_size, od_l_size, .func (PySem.W.fnOf "_law_size" "_law_size" (defArgs S_l_size) (defBody S_l_size) (defScope S_l_size) .none kV_l_size dc_l_size pm_l_size an_l_size cd_l_size ct_l_size), sl_l_size⟩)
    (c_l_size : PySem.W.codeIn K cd_l_size "_law_size" = true)
    (k_l_size : PySem.W.keepIn K (.ref f_l_size) = true)
    (a_l_stairs : PySem.W.nsIn K mainGlobals "_law_stairs" = some (some (.ref f_l_stairs)))
    (l_l_stairs : K.lookup f_l_stairs = some ⟨oc_l_stairs, od_l_stairs, .func (PySem.W.fnOf "_law_stairs" "_law_stairs" (defArgs S_l_stairs) (defBody S_l_stairs) (defScope S_l_stairs) .none kV_l_stairs dc_l_stairs pm_l_stairs an_l_stairs cd_l_stairs ct_l_stairs), sl_l_stairs⟩)
    (c_l_stairs : PySem.W.codeIn K cd_l_stairs "_law_stairs" = true)
    (k_l_stairs : PySem.W.keepIn K (.ref f_l_stairs) = true)
    (a_l_is_size : PySem.W.nsIn K mainGlobals "_law_is_size" = some (some (.ref f_l_is_size)))
    (l_l_is_size : K.lookup f_l_is_size = some ⟨oc_l_is_size, od_l_is_size, .func (PySem.W.fnOf "_law_is_size" "_law_is_size" (defArgs S_l_is_size) (defBody S_l_is_size) (defScope S_l_is_size) .none kV_l_is_size dc_l_is_size pm_l_is_size an_l_is_size cd_l_is_size ct_l_is_size), sl_l_is_size⟩)
    (c_l_is_size : PySem.W.codeIn K cd_l_is_size "_law_is_size" = true)
    (k_l_is_size : PySem.W.keepIn K (.ref f_l_is_size) = true)
    (a_l_is_body : PySem.W.nsIn K mainGlobals "_law_is_body" = some (some (.ref f_l_is_body)))
    (l_l_is_body : K.lookup f_l_is_body = some ⟨oc_l_is_body, od_l_is_body, .func (PySem.W.fnOf "_law_is_body" "_law_is_body" (defArgs S_l_is_body) (defBody S_l_is_body) (defScope S_l_is_body) .none kV_l_is_body dc_l_is_body pm_l_is_body an_l_is_body cd_l_is_body ct_l_is_body), sl_l_is_body⟩)
    (c_l_is_body : PySem.W.codeIn K cd_l_is_body "_law_is_body" = true)
    (k_l_is_body : PySem.W.keepIn K (.ref f_l_is_body) = true)
    (a_l_beside : PySem.W.nsIn K mainGlobals "_law_beside" = some (some (.ref f_l_beside)))
    (l_l_beside : K.lookup f_l_beside = some ⟨oc_l_beside, od_l_beside, .func (PySem.W.fnOf "_law_beside" "_law_beside" (defArgs S_l_beside) (defBody S_l_beside) (defScope S_l_beside) .none kV_l_beside dc_l_beside pm_l_beside an_l_beside cd_l_beside ct_l_beside), sl_l_beside⟩)
    (c_l_beside : PySem.W.codeIn K cd_l_beside "_law_beside" = true)
    (k_l_beside : PySem.W.keepIn K (.ref f_l_beside) = true)
    (a_l_few : PySem.W.nsIn K mainGlobals "_law_few" = some (some (.ref f_l_few)))
    (l_l_few : K.lookup f_l_few = some ⟨oc_l_few, od_l_few, .func (PySem.W.fnOf "_law_few" "_law_few" (defArgs S_l_few) (defBody S_l_few) (defScope S_l_few) .none kV_l_few dc_l_few pm_l_few an_l_few cd_l_few ct_l_few), sl_l_few⟩)
    (c_l_few : PySem.W.codeIn K cd_l_few "_law_few" = true)
    (k_l_few : PySem.W.keepIn K (.ref f_l_few) = true)
    (a_l_grow : PySem.W.nsIn K mainGlobals "_law_grow" = some (some (.ref f_l_grow)))
    (l_l_grow : K.lookup f_l_grow = some ⟨oc_l_grow, od_l_grow, .func (PySem.W.fnOf "_law_grow" "_law_grow" (defArgs S_l_grow) (defBody S_l_grow) (defScope S_l_grow) .none kV_l_grow dc_l_grow pm_l_grow an_l_grow cd_l_grow ct_l_grow), sl_l_grow⟩)
    (c_l_grow : PySem.W.codeIn K cd_l_grow "_law_grow" = true)
    (k_l_grow : PySem.W.keepIn K (.ref f_l_grow) = true)
    (a_l_few_bodies : PySem.W.nsIn K mainGlobals "_law_few_bodies" = some (some (.ref f_l_few_bodies)))
    (l_l_few_bodies : K.lookup f_l_few_bodies = some ⟨oc_l_few_bodies, od_l_few_bodies, .func (PySem.W.fnOf "_law_few_bodies" "_law_few_bodies" (defArgs S_l_few_bodies) (defBody S_l_few_bodies) (defScope S_l_few_bodies) .none kV_l_few_bodies dc_l_few_bodies pm_l_few_bodies an_l_few_bodies cd_l_few_bodies ct_l_few_bodies), sl_l_few_bodies⟩)
    (c_l_few_bodies : PySem.W.codeIn K cd_l_few_bodies "_law_few_bodies" = true)
    (k_l_few_bodies : PySem.W.keepIn K (.ref f_l_few_bodies) = true)
    (a_l_raw : PySem.W.nsIn K mainGlobals "_law_raw" = some (some (.ref f_l_raw)))
    (l_l_raw : K.lookup f_l_raw = some ⟨oc_l_raw, od_l_raw, .func (PySem.W.fnOf "_law_raw" "_law_raw" (defArgs S_l_raw) (defBody S_l_raw) (defScope S_l_raw) .none kV_l_raw dc_l_raw pm_l_raw an_l_raw cd_l_raw ct_l_raw), sl_l_raw⟩)
    (c_l_raw : PySem.W.codeIn K cd_l_raw "_law_raw" = true)
    (k_l_raw : PySem.W.keepIn K (.ref f_l_raw) = true)
    (a_l_unlike : PySem.W.nsIn K mainGlobals "_law_unlike" = some (some (.ref f_l_unlike)))
    (l_l_unlike : K.lookup f_l_unlike = some ⟨oc_l_unlike, od_l_unlike, .func (PySem.W.fnOf "_law_unlike" "_law_unlike" (defArgs S_l_unlike) (defBody S_l_unlike) (defScope S_l_unlike) .none kV_l_unlike dc_l_unlike pm_l_unlike an_l_unlike cd_l_unlike ct_l_unlike), sl_l_unlike⟩)
    (c_l_unlike : PySem.W.codeIn K cd_l_unlike "_law_unlike" = true)
    (k_l_unlike : PySem.W.keepIn K (.ref f_l_unlike) = true)
    (a_l_loads : PySem.W.nsIn K mainGlobals "_law_loads" = some (some (.ref f_l_loads)))
    (l_l_loads : K.lookup f_l_loads = some ⟨oc_l_loads, od_l_loads, .func (PySem.W.fnOf "_law_loads" "_law_loads" (defArgs S_l_loads) (defBody S_l_loads) (defScope S_l_loads) .none kV_l_loads dc_l_loads pm_l_loads an_l_loads cd_l_loads ct_l_loads), sl_l_loads⟩)
    (c_l_loads : PySem.W.codeIn K cd_l_loads "_law_loads" = true)
    (k_l_loads : PySem.W.keepIn K (.ref f_l_loads) = true)
    (a_l_turns : PySem.W.nsIn K mainGlobals "_law_turns" = some (some (.ref f_l_turns)))
    (l_l_turns : K.lookup f_l_turns = some ⟨oc_l_turns, od_l_turns, .func (PySem.W.fnOf "_law_turns" "_law_turns" (defArgs S_l_turns) (defBody S_l_turns) (defScope S_l_turns) .none kV_l_turns dc_l_turns pm_l_turns an_l_turns cd_l_turns ct_l_turns), sl_l_turns⟩)
    (c_l_turns : PySem.W.codeIn K cd_l_turns "_law_turns" = true)
    (k_l_turns : PySem.W.keepIn K (.ref f_l_turns) = true)
    (a_l_great_ok : PySem.W.nsIn K mainGlobals "_law_great_ok" = some (some (.ref f_l_great_ok)))
    (l_l_great_ok : K.lookup f_l_great_ok = some ⟨oc_l_great_ok, od_l_great_ok, .func (PySem.W.fnOf "_law_great_ok" "_law_great_ok" (defArgs S_l_great_ok) (defBody S_l_great_ok) (defScope S_l_great_ok) .none kV_l_great_ok dc_l_great_ok pm_l_great_ok an_l_great_ok cd_l_great_ok ct_l_great_ok), sl_l_great_ok⟩)
    (c_l_great_ok : PySem.W.codeIn K cd_l_great_ok "_law_great_ok" = true)
    (k_l_great_ok : PySem.W.keepIn K (.ref f_l_great_ok) = true)
    (a_q_law : PySem.W.nsIn K mainGlobals "law" = some (some (.ref f_q_law)))
    (l_q_law : K.lookup f_q_law = some ⟨oc_q_law, od_q_law, .func (PySem.W.fnOf "law" "law" (defArgs S_q_law) (defBody S_q_law) (defScope S_q_law) .none kV_q_law dc_q_law pm_q_law an_q_law (.ref cc2) ct_q_law), sl_q_law⟩)
    (c_q_law : PySem.W.codeIn K (.ref cc2) "law" = true)
    (k_q_law : PySem.W.keepIn K (.ref f_q_law) = true)
    (ch1 : PySem.W.codeHdIn K cc1 P1 = true)
    (nP1 : K.lookup P1 = none)
    (ch2 : PySem.W.codeHdIn K cc2 P2 = true)
    (nP2 : K.lookup P2 = none)
    (ne12 : P1 ≠ P2)
    (tab1 : h.get? P1 = some { cls := .none, data := .fields #[] }) (tab2 : h.get? P2 = some { cls := .none, data := .fields #[] }) : LamX.LawAtS l w K CX0 12 63 "script" mg fa h := by
  have e := hfa.symm.trans (PySem.W.mg_of X G a_q_law)
  cases e
  let T : Txt K mg := {
    z_abs := PySem.W.mg_none_of X G z_abs
    z_all := PySem.W.mg_none_of X G z_all
    z_any := PySem.W.mg_none_of X G z_any
    z_bool := PySem.W.mg_none_of X G z_bool
    z_int := PySem.W.mg_none_of X G z_int
    z_isinstance := PySem.W.mg_none_of X G z_isinstance
    z_len := PySem.W.mg_none_of X G z_len
    z_list := PySem.W.mg_none_of X G z_list
    z_max := PySem.W.mg_none_of X G z_max
    z_min := PySem.W.mg_none_of X G z_min
    z_range := PySem.W.mg_none_of X G z_range
    z_reversed := PySem.W.mg_none_of X G z_reversed
    z_set := PySem.W.mg_none_of X G z_set
    z_sorted := PySem.W.mg_none_of X G z_sorted
    z_tuple := PySem.W.mg_none_of X G z_tuple
    z_zip := PySem.W.mg_none_of X G z_zip
    x_GapError := ⟨C_GapError, PySem.W.mg_of X G xa_GapError, xq_GapError, xk_GapError, xb_GapError, xt_GapError, ⟨xg_GapError, xh_GapError, xb_GapError, xd_GapError, xc_GapError, iN, iT, xm_GapError⟩⟩
    x_BadBody := ⟨C_BadBody, PySem.W.mg_of X G xa_BadBody, xq_BadBody, xk_BadBody, xb_BadBody, xt_BadBody, ⟨xg_BadBody, xh_BadBody, xb_BadBody, xd_BadBody, xc_BadBody, iN, iT, xm_BadBody⟩⟩
    x_BadBy := ⟨C_BadBy, PySem.W.mg_of X G xa_BadBy, xq_BadBy, xk_BadBy, xb_BadBy, xt_BadBy, ⟨xg_BadBy, xh_BadBy, xb_BadBy, xd_BadBy, xc_BadBy, iN, iT, xm_BadBy⟩⟩
    x_BadEnd := ⟨C_BadEnd, PySem.W.mg_of X G xa_BadEnd, xq_BadEnd, xk_BadEnd, xb_BadEnd, xt_BadEnd, ⟨xg_BadEnd, xh_BadEnd, xb_BadEnd, xd_BadEnd, xc_BadEnd, iN, iT, xm_BadEnd⟩⟩
    x_BadForm := ⟨C_BadForm, PySem.W.mg_of X G xa_BadForm, xq_BadForm, xk_BadForm, xb_BadForm, xt_BadForm, ⟨xg_BadForm, xh_BadForm, xb_BadForm, xd_BadForm, xc_BadForm, iN, iT, xm_BadForm⟩⟩
    x_BadLeast := ⟨C_BadLeast, PySem.W.mg_of X G xa_BadLeast, xq_BadLeast, xk_BadLeast, xb_BadLeast, xt_BadLeast, ⟨xg_BadLeast, xh_BadLeast, xb_BadLeast, xd_BadLeast, xc_BadLeast, iN, iT, xm_BadLeast⟩⟩
    x_BadStairs := ⟨C_BadStairs, PySem.W.mg_of X G xa_BadStairs, xq_BadStairs, xk_BadStairs, xb_BadStairs, xt_BadStairs, ⟨xg_BadStairs, xh_BadStairs, xb_BadStairs, xd_BadStairs, xc_BadStairs, iN, iT, xm_BadStairs⟩⟩
    x_BadStart := ⟨C_BadStart, PySem.W.mg_of X G xa_BadStart, xq_BadStart, xk_BadStart, xb_BadStart, xt_BadStart, ⟨xg_BadStart, xh_BadStart, xb_BadStart, xd_BadStart, xc_BadStart, iN, iT, xm_BadStart⟩⟩
    x_NotJoined := ⟨C_NotJoined, PySem.W.mg_of X G xa_NotJoined, xq_NotJoined, xk_NotJoined, xb_NotJoined, xt_NotJoined, ⟨xg_NotJoined, xh_NotJoined, xb_NotJoined, xd_NotJoined, xc_NotJoined, iN, iT, xm_NotJoined⟩⟩
    u_BadBody := u_BadBody
    u_BadBy := u_BadBy
    u_BadEnd := u_BadEnd
    u_BadForm := u_BadForm
    u_BadLeast := u_BadLeast
    u_BadStairs := u_BadStairs
    u_BadStart := u_BadStart
    u_NotJoined := u_NotJoined
    C := C
    gC := PySem.W.mg_of X G aC
    cls := ⟨pg, hd, po, sa⟩
    nB := nB
    nF_start := nF_start
    nF_end := nF_end
    nF_stairs := nF_stairs
    nF_least := nF_least
    nF_by := nF_by
    fI := f_I
    dI := _
    M := ⟨mk, in_, ii, kc⟩
    FI := fun_mk (st := S_q_Form_init) l_I c_I k_I
    bI := (fun_mk (st := S_q_Form_init) l_I c_I k_I).binds (ps := ["self", "start", "end", "stairs", "least", "by"]) fun _ _ _ _ _ _ us hl => match us, hl with | [_, _, _, _, _, _], _ => rfl
    kNoneType := kNoneType
    ktuple := ktuple
    kstr := kstr
    kint := kint
    kbool := kbool
    klist := klist
    n_BadBody := n_BadBody
    n_BadBy := n_BadBy
    n_BadEnd := n_BadEnd
    n_BadForm := n_BadForm
    n_BadLeast := n_BadLeast
    n_BadStairs := n_BadStairs
    n_BadStart := n_BadStart
    n_NotJoined := n_NotJoined
    iA := iA
    iN := iN
    iT := iT
    iM := iM
    kD := kD
    e_BadBody := e_BadBody
    e_BadBy := e_BadBy
    e_BadEnd := e_BadEnd
    e_BadForm := e_BadForm
    e_BadLeast := e_BadLeast
    e_BadStairs := e_BadStairs
    e_BadStart := e_BadStart
    e_NotJoined := e_NotJoined
    q_is_number := ⟨_, _, fun_mk (st := S_q_is_number) l_q_is_number c_q_is_number k_q_is_number, PySem.W.mg_of X G a_q_is_number, (fun_mk (st := S_q_is_number) l_q_is_number c_q_is_number k_q_is_number).binds (ps := ["thing"]) fun _ _ _ _ _ _ us hl => match us, hl with | [_], _ => rfl⟩
    q_is_number_pair := ⟨_, _, fun_mk (st := S_q_is_number_pair) l_q_is_number_pair c_q_is_number_pair k_q_is_number_pair, PySem.W.mg_of X G a_q_is_number_pair, (fun_mk (st := S_q_is_number_pair) l_q_is_number_pair c_q_is_number_pair k_q_is_number_pair).binds (ps := ["thing"]) fun _ _ _ _ _ _ us hl => match us, hl with | [_], _ => rfl⟩
    q_check_by := ⟨_, _, fun_mk (st := S_q_check_by) l_q_check_by c_q_check_by k_q_check_by, PySem.W.mg_of X G a_q_check_by, (fun_mk (st := S_q_check_by) l_q_check_by c_q_check_by k_q_check_by).binds (ps := ["by"]) fun _ _ _ _ _ _ us hl => match us, hl with | [_], _ => rfl⟩
    q_is_size := ⟨_, _, fun_mk (st := S_q_is_size) l_q_is_size c_q_is_size k_q_is_size, PySem.W.mg_of X G a_q_is_size, (fun_mk (st := S_q_is_size) l_q_is_size c_q_is_size k_q_is_size).binds (ps := ["thing"]) fun _ _ _ _ _ _ us hl => match us, hl with | [_], _ => rfl⟩
    q_is_body := ⟨_, _, fun_mk (st := S_q_is_body) l_q_is_body c_q_is_body k_q_is_body, PySem.W.mg_of X G a_q_is_body, (fun_mk (st := S_q_is_body) l_q_is_body c_q_is_body k_q_is_body).binds (ps := ["thing"]) fun _ _ _ _ _ _ us hl => match us, hl with | [_], _ => rfl⟩
    q_is_corner := ⟨_, _, fun_mk (st := S_q_is_corner) l_q_is_corner c_q_is_corner k_q_is_corner, PySem.W.mg_of X G a_q_is_corner, (fun_mk (st := S_q_is_corner) l_q_is_corner c_q_is_corner k_q_is_corner).binds (ps := ["thing"]) fun _ _ _ _ _ _ us hl => match us, hl with | [_], _ => rfl⟩
    q_check_body := ⟨_, _, fun_mk (st := S_q_check_body) l_q_check_body c_q_check_body k_q_check_body, PySem.W.mg_of X G a_q_check_body, (fun_mk (st := S_q_check_body) l_q_check_body c_q_check_body k_q_check_body).binds (ps := ["body"]) fun _ _ _ _ _ _ us hl => match us, hl with | [_], _ => rfl⟩
    q_is_above := ⟨_, _, fun_mk (st := S_q_is_above) l_q_is_above c_q_is_above k_q_is_above, PySem.W.mg_of X G a_q_is_above, (fun_mk (st := S_q_is_above) l_q_is_above c_q_is_above k_q_is_above).binds (ps := ["one", "other"]) fun _ _ _ _ _ _ us hl => match us, hl with | [_, _], _ => rfl⟩
    q_lesser := ⟨_, _, fun_mk (st := S_q_lesser) l_q_lesser c_q_lesser k_q_lesser, PySem.W.mg_of X G a_q_lesser, (fun_mk (st := S_q_lesser) l_q_lesser c_q_lesser k_q_lesser).binds (ps := ["one", "other"]) fun _ _ _ _ _ _ us hl => match us, hl with | [_, _], _ => rfl⟩
    q_encloses := ⟨_, _, fun_mk (st := S_q_encloses) l_q_encloses c_q_encloses k_q_encloses, PySem.W.mg_of X G a_q_encloses, (fun_mk (st := S_q_encloses) l_q_encloses c_q_encloses k_q_encloses).binds (ps := ["corner", "inner"]) fun _ _ _ _ _ _ us hl => match us, hl with | [_, _], _ => rfl⟩
    q_is_stairs := ⟨_, _, fun_mk (st := S_q_is_stairs) l_q_is_stairs c_q_is_stairs k_q_is_stairs, PySem.W.mg_of X G a_q_is_stairs, (fun_mk (st := S_q_is_stairs) l_q_is_stairs c_q_is_stairs k_q_is_stairs).binds (ps := ["thing"]) fun _ _ _ _ _ _ us hl => match us, hl with | [_], _ => rfl⟩
    q_is_step := ⟨_, _, fun_mk (st := S_q_is_step) l_q_is_step c_q_is_step k_q_is_step, PySem.W.mg_of X G a_q_is_step, (fun_mk (st := S_q_is_step) l_q_is_step c_q_is_step k_q_is_step).binds (ps := ["corner", "further"]) fun _ _ _ _ _ _ us hl => match us, hl with | [_, _], _ => rfl⟩
    q_check_stairs := ⟨_, _, fun_mk (st := S_q_check_stairs) l_q_check_stairs c_q_check_stairs k_q_check_stairs, PySem.W.mg_of X G a_q_check_stairs, (fun_mk (st := S_q_check_stairs) l_q_check_stairs c_q_check_stairs k_q_check_stairs).binds (ps := ["stairs"]) fun _ _ _ _ _ _ us hl => match us, hl with | [_], _ => rfl⟩
    q_corner_order := ⟨_, _, fun_mk (st := S_q_corner_order) l_q_corner_order c_q_corner_order k_q_corner_order, PySem.W.mg_of X G a_q_corner_order, (fun_mk (st := S_q_corner_order) l_q_corner_order c_q_corner_order k_q_corner_order).binds (ps := ["corner"]) fun _ _ _ _ _ _ us hl => match us, hl with | [_], _ => rfl⟩
    q_stairs_of := ⟨_, _, fun_mk (st := S_q_stairs_of) l_q_stairs_of c_q_stairs_of k_q_stairs_of, PySem.W.mg_of X G a_q_stairs_of, (fun_mk (st := S_q_stairs_of) l_q_stairs_of c_q_stairs_of k_q_stairs_of).binds (ps := ["corners"]) fun _ _ _ _ _ _ us hl => match us, hl with | [_], _ => rfl⟩
    q_has := ⟨_, _, fun_mk (st := S_q_has) l_q_has c_q_has k_q_has, PySem.W.mg_of X G a_q_has, (fun_mk (st := S_q_has) l_q_has c_q_has k_q_has).binds (ps := ["stairs", "corner"]) fun _ _ _ _ _ _ us hl => match us, hl with | [_, _], _ => rfl⟩
    q_both := ⟨_, _, fun_mk (st := S_q_both) l_q_both c_q_both k_q_both, PySem.W.mg_of X G a_q_both, (fun_mk (st := S_q_both) l_q_both c_q_both k_q_both).binds (ps := ["one", "other"]) fun _ _ _ _ _ _ us hl => match us, hl with | [_, _], _ => rfl⟩
    q_notches_of := ⟨_, _, fun_mk (st := S_q_notches_of) l_q_notches_of c_q_notches_of k_q_notches_of, PySem.W.mg_of X G a_q_notches_of, (fun_mk (st := S_q_notches_of) l_q_notches_of c_q_notches_of k_q_notches_of).binds (ps := ["stairs"]) fun _ _ _ _ _ _ us hl => match us, hl with | [_], _ => rfl⟩
    q_moved_item := ⟨_, _, fun_mk (st := S_q_moved_item) l_q_moved_item c_q_moved_item k_q_moved_item, PySem.W.mg_of X G a_q_moved_item, (fun_mk (st := S_q_moved_item) l_q_moved_item c_q_moved_item k_q_moved_item).binds (ps := ["item", "by"]) fun _ _ _ _ _ _ us hl => match us, hl with | [_, _], _ => rfl⟩
    q_moved := ⟨_, _, fun_mk (st := S_q_moved) l_q_moved c_q_moved k_q_moved, PySem.W.mg_of X G a_q_moved, (fun_mk (st := S_q_moved) l_q_moved c_q_moved k_q_moved).binds (ps := ["stairs", "least", "by"]) fun _ _ _ _ _ _ us hl => match us, hl with | [_, _, _], _ => rfl⟩
    q_is_any_place := ⟨_, _, fun_mk (st := S_q_is_any_place) l_q_is_any_place c_q_is_any_place k_q_is_any_place, PySem.W.mg_of X G a_q_is_any_place, (fun_mk (st := S_q_is_any_place) l_q_is_any_place c_q_is_any_place k_q_is_any_place).binds (ps := ["thing"]) fun _ _ _ _ _ _ us hl => match us, hl with | [_], _ => rfl⟩
    q_greatest := ⟨_, _, fun_mk (st := S_q_greatest) l_q_greatest c_q_greatest k_q_greatest, PySem.W.mg_of X G a_q_greatest, (fun_mk (st := S_q_greatest) l_q_greatest c_q_greatest k_q_greatest).binds (ps := ["stairs", "index"]) fun _ _ _ _ _ _ us hl => match us, hl with | [_, _], _ => rfl⟩
    q_grown := ⟨_, _, fun_mk (st := S_q_grown) l_q_grown c_q_grown k_q_grown, PySem.W.mg_of X G a_q_grown, (fun_mk (st := S_q_grown) l_q_grown c_q_grown k_q_grown).binds (ps := ["least", "by", "size"]) fun _ _ _ _ _ _ us hl => match us, hl with | [_, _, _], _ => rfl⟩
    q_plain_by := ⟨_, _, fun_mk (st := S_q_plain_by) l_q_plain_by c_q_plain_by k_q_plain_by, PySem.W.mg_of X G a_q_plain_by, (fun_mk (st := S_q_plain_by) l_q_plain_by c_q_plain_by k_q_plain_by).binds (ps := ["stairs", "least", "by", "index"]) fun _ _ _ _ _ _ us hl => match us, hl with | [_, _, _, _], _ => rfl⟩
    q_body_behind := ⟨_, _, fun_mk (st := S_q_body_behind) l_q_body_behind c_q_body_behind k_q_body_behind, PySem.W.mg_of X G a_q_body_behind, (fun_mk (st := S_q_body_behind) l_q_body_behind c_q_body_behind k_q_body_behind).binds (ps := ["form", "body"]) fun _ _ _ _ _ _ us hl => match us, hl with | [_, _], _ => rfl⟩
    q_followed := ⟨_, _, fun_mk (st := S_q_followed) l_q_followed c_q_followed k_q_followed, PySem.W.mg_of X G a_q_followed, (fun_mk (st := S_q_followed) l_q_followed c_q_followed k_q_followed).binds (ps := ["one", "other"]) fun _ _ _ _ _ _ us hl => match us, hl with | [_, _], _ => rfl⟩
    q_check_form := ⟨_, _, fun_mk (st := S_q_check_form) l_q_check_form c_q_check_form k_q_check_form, PySem.W.mg_of X G a_q_check_form, (fun_mk (st := S_q_check_form) l_q_check_form c_q_check_form k_q_check_form).binds (ps := ["form"]) fun _ _ _ _ _ _ us hl => match us, hl with | [_], _ => rfl⟩
    q_end_size := ⟨_, _, fun_mk (st := S_q_end_size) l_q_end_size c_q_end_size k_q_end_size, PySem.W.mg_of X G a_q_end_size, (fun_mk (st := S_q_end_size) l_q_end_size c_q_end_size k_q_end_size).binds (ps := ["form", "body"]) fun _ _ _ _ _ _ us hl => match us, hl with | [_, _], _ => rfl⟩
    q_telling_sizes := ⟨_, _, fun_mk (st := S_q_telling_sizes) l_q_telling_sizes c_q_telling_sizes k_q_telling_sizes, PySem.W.mg_of X G a_q_telling_sizes, (fun_mk (st := S_q_telling_sizes) l_q_telling_sizes c_q_telling_sizes k_q_telling_sizes).binds (ps := ["one", "other", "index"]) fun _ _ _ _ _ _ us hl => match us, hl with | [_, _, _], _ => rfl⟩
    q_is_parted := ⟨_, _, fun_mk (st := S_q_is_parted) l_q_is_parted c_q_is_parted k_q_is_parted, PySem.W.mg_of X G a_q_is_parted, (fun_mk (st := S_q_is_parted) l_q_is_parted c_q_is_parted k_q_is_parted).binds (ps := ["one", "other", "body"]) fun _ _ _ _ _ _ us hl => match us, hl with | [_, _, _], _ => rfl⟩
    q_form_parting := ⟨_, _, fun_mk (st := S_q_form_parting) l_q_form_parting c_q_form_parting k_q_form_parting, PySem.W.mg_of X G a_q_form_parting, (fun_mk (st := S_q_form_parting) l_q_form_parting c_q_form_parting k_q_form_parting).binds (ps := ["one", "other"]) fun _ _ _ _ _ _ us hl => match us, hl with | [_, _], _ => rfl⟩
    q_least_loads := ⟨_, _, fun_mk (st := S_q_least_loads) l_q_least_loads c_q_least_loads k_q_least_loads, PySem.W.mg_of X G a_q_least_loads, (fun_mk (st := S_q_least_loads) l_q_least_loads c_q_least_loads k_q_least_loads).binds (ps := ["form", "body"]) fun _ _ _ _ _ _ us hl => match us, hl with | [_, _], _ => rfl⟩
    l_begun := ⟨_, _, fun_mk (st := S_l_begun) l_l_begun c_l_begun k_l_begun, PySem.W.mg_of X G a_l_begun, (fun_mk (st := S_l_begun) l_l_begun c_l_begun k_l_begun).binds (ps := ["script"]) fun _ _ _ _ _ _ us hl => match us, hl with | [_], _ => rfl⟩
    l_mixed := ⟨_, _, fun_mk (st := S_l_mixed) l_l_mixed c_l_mixed k_l_mixed, PySem.W.mg_of X G a_l_mixed, (fun_mk (st := S_l_mixed) l_l_mixed c_l_mixed k_l_mixed).binds (ps := ["draw"]) fun _ _ _ _ _ _ us hl => match us, hl with | [_], _ => rfl⟩
    l_take := ⟨_, _, fun_mk (st := S_l_take) l_l_take c_l_take k_l_take, PySem.W.mg_of X G a_l_take, (fun_mk (st := S_l_take) l_l_take c_l_take k_l_take).binds (ps := ["draw", "many"]) fun _ _ _ _ _ _ us hl => match us, hl with | [_, _], _ => rfl⟩
    l_pick := ⟨_, _, fun_mk (st := S_l_pick) l_l_pick c_l_pick k_l_pick, PySem.W.mg_of X G a_l_pick, (fun_mk (st := S_l_pick) l_l_pick c_l_pick k_l_pick).binds (ps := ["draw", "some"]) fun _ _ _ _ _ _ us hl => match us, hl with | [_, _], _ => rfl⟩
    l_caught := ⟨_, _, fun_mk (st := S_l_caught) l_l_caught c_l_caught k_l_caught, PySem.W.mg_of X G a_l_caught, (fun_mk (st := S_l_caught) l_l_caught c_l_caught k_l_caught).binds (ps := ["task"]) fun _ _ _ _ _ _ us hl => match us, hl with | [_], _ => rfl⟩
    l_is_number := ⟨_, _, fun_mk (st := S_l_is_number) l_l_is_number c_l_is_number k_l_is_number, PySem.W.mg_of X G a_l_is_number, (fun_mk (st := S_l_is_number) l_l_is_number c_l_is_number k_l_is_number).binds (ps := ["item"]) fun _ _ _ _ _ _ us hl => match us, hl with | [_], _ => rfl⟩
    l_least := ⟨_, _, fun_mk (st := S_l_least) l_l_least c_l_least k_l_least, PySem.W.mg_of X G a_l_least, (fun_mk (st := S_l_least) l_l_least c_l_least k_l_least).binds (ps := ["one", "other"]) fun _ _ _ _ _ _ us hl => match us, hl with | [_, _], _ => rfl⟩
    l_holds := ⟨_, _, fun_mk (st := S_l_holds) l_l_holds c_l_holds k_l_holds, PySem.W.mg_of X G a_l_holds, (fun_mk (st := S_l_holds) l_l_holds c_l_holds k_l_holds).binds (ps := ["corner", "body"]) fun _ _ _ _ _ _ us hl => match us, hl with | [_, _], _ => rfl⟩
    l_rank := ⟨_, _, fun_mk (st := S_l_rank) l_l_rank c_l_rank k_l_rank, PySem.W.mg_of X G a_l_rank, (fun_mk (st := S_l_rank) l_l_rank c_l_rank k_l_rank).binds (ps := ["item"]) fun _ _ _ _ _ _ us hl => match us, hl with | [_], _ => rfl⟩
    l_staircase := ⟨_, _, fun_mk (st := S_l_staircase) l_l_staircase c_l_staircase k_l_staircase, PySem.W.mg_of X G a_l_staircase, (fun_mk (st := S_l_staircase) l_l_staircase c_l_staircase k_l_staircase).binds (ps := ["corners"]) fun _ _ _ _ _ _ us hl => match us, hl with | [_], _ => rfl⟩
    l_held := ⟨_, _, fun_mk (st := S_l_held) l_l_held c_l_held k_l_held, PySem.W.mg_of X G a_l_held, (fun_mk (st := S_l_held) l_l_held c_l_held k_l_held).binds (ps := ["stairs", "body"]) fun _ _ _ _ _ _ us hl => match us, hl with | [_, _], _ => rfl⟩
    l_joined := ⟨_, _, fun_mk (st := S_l_joined) l_l_joined c_l_joined k_l_joined, PySem.W.mg_of X G a_l_joined, (fun_mk (st := S_l_joined) l_l_joined c_l_joined k_l_joined).binds (ps := ["one", "other"]) fun _ _ _ _ _ _ us hl => match us, hl with | [_, _], _ => rfl⟩
    l_notches := ⟨_, _, fun_mk (st := S_l_notches) l_l_notches c_l_notches k_l_notches, PySem.W.mg_of X G a_l_notches, (fun_mk (st := S_l_notches) l_l_notches c_l_notches k_l_notches).binds (ps := ["stairs"]) fun _ _ _ _ _ _ us hl => match us, hl with | [_], _ => rfl⟩
    l_size := ⟨_, _, fun_mk (st := S_l_size) l_l_size c_l_size k_l_size, PySem.W.mg_of X G a_l_size, (fun_mk (st := S_l_size) l_l_size c_l_size k_l_size).binds (ps := ["draw"]) fun _ _ _ _ _ _ us hl => match us, hl with | [_], _ => rfl⟩
    l_stairs := ⟨_, _, fun_mk (st := S_l_stairs) l_l_stairs c_l_stairs k_l_stairs, PySem.W.mg_of X G a_l_stairs, (fun_mk (st := S_l_stairs) l_l_stairs c_l_stairs k_l_stairs).binds (ps := ["draw", "most"]) fun _ _ _ _ _ _ us hl => match us, hl with | [_, _], _ => rfl⟩
    l_is_size := ⟨_, _, fun_mk (st := S_l_is_size) l_l_is_size c_l_is_size k_l_is_size, PySem.W.mg_of X G a_l_is_size, (fun_mk (st := S_l_is_size) l_l_is_size c_l_is_size k_l_is_size).binds (ps := ["thing"]) fun _ _ _ _ _ _ us hl => match us, hl with | [_], _ => rfl⟩
    l_is_body := ⟨_, _, fun_mk (st := S_l_is_body) l_l_is_body c_l_is_body k_l_is_body, PySem.W.mg_of X G a_l_is_body, (fun_mk (st := S_l_is_body) l_l_is_body c_l_is_body k_l_is_body).binds (ps := ["thing"]) fun _ _ _ _ _ _ us hl => match us, hl with | [_], _ => rfl⟩
    l_beside := ⟨_, _, fun_mk (st := S_l_beside) l_l_beside c_l_beside k_l_beside, PySem.W.mg_of X G a_l_beside, (fun_mk (st := S_l_beside) l_l_beside c_l_beside k_l_beside).binds (ps := ["draw", "corners"]) fun _ _ _ _ _ _ us hl => match us, hl with | [_, _], _ => rfl⟩
    l_few := ⟨_, _, fun_mk (st := S_l_few) l_l_few c_l_few k_l_few, PySem.W.mg_of X G a_l_few, (fun_mk (st := S_l_few) l_l_few c_l_few k_l_few).binds (ps := ["draw", "most"]) fun _ _ _ _ _ _ us hl => match us, hl with | [_, _], _ => rfl⟩
    l_grow := ⟨_, _, fun_mk (st := S_l_grow) l_l_grow c_l_grow k_l_grow, PySem.W.mg_of X G a_l_grow, (fun_mk (st := S_l_grow) l_l_grow c_l_grow k_l_grow).binds (ps := ["least", "by", "body"]) fun _ _ _ _ _ _ us hl => match us, hl with | [_, _, _], _ => rfl⟩
    l_few_bodies := ⟨_, _, fun_mk (st := S_l_few_bodies) l_l_few_bodies c_l_few_bodies k_l_few_bodies, PySem.W.mg_of X G a_l_few_bodies, (fun_mk (st := S_l_few_bodies) l_l_few_bodies c_l_few_bodies k_l_few_bodies).binds (ps := ["many"]) fun _ _ _ _ _ _ us hl => match us, hl with | [_], _ => rfl⟩
    l_raw := ⟨_, _, fun_mk (st := S_l_raw) l_l_raw c_l_raw k_l_raw, PySem.W.mg_of X G a_l_raw, (fun_mk (st := S_l_raw) l_l_raw c_l_raw k_l_raw).binds (ps := ["draw"]) fun _ _ _ _ _ _ us hl => match us, hl with | [_], _ => rfl⟩
    l_unlike := ⟨_, _, fun_mk (st := S_l_unlike) l_l_unlike c_l_unlike k_l_unlike, PySem.W.mg_of X G a_l_unlike, (fun_mk (st := S_l_unlike) l_l_unlike c_l_unlike k_l_unlike).binds (ps := ["one", "other", "body"]) fun _ _ _ _ _ _ us hl => match us, hl with | [_, _, _], _ => rfl⟩
    l_loads := ⟨_, _, fun_mk (st := S_l_loads) l_l_loads c_l_loads k_l_loads, PySem.W.mg_of X G a_l_loads, (fun_mk (st := S_l_loads) l_l_loads c_l_loads k_l_loads).binds (ps := ["stairs_here", "body", "many"]) fun _ _ _ _ _ _ us hl => match us, hl with | [_, _, _], _ => rfl⟩
    l_turns := ⟨_, _, fun_mk (st := S_l_turns) l_l_turns c_l_turns k_l_turns, PySem.W.mg_of X G a_l_turns, (fun_mk (st := S_l_turns) l_l_turns c_l_turns k_l_turns).binds (ps := ["raws", "k"]) fun _ _ _ _ _ _ us hl => match us, hl with | [_, _], _ => rfl⟩
    l_great_ok := ⟨_, _, fun_mk (st := S_l_great_ok) l_l_great_ok c_l_great_ok k_l_great_ok, PySem.W.mg_of X G a_l_great_ok, (fun_mk (st := S_l_great_ok) l_l_great_ok c_l_great_ok k_l_great_ok).binds (ps := ["draw", "start"]) fun _ _ _ _ _ _ us hl => match us, hl with | [_, _], _ => rfl⟩
    q_law := ⟨_, _, fun_mk (st := S_q_law) l_q_law c_q_law k_q_law, PySem.W.mg_of X G a_q_law, (fun_mk (st := S_q_law) l_q_law c_q_law k_q_law).binds (ps := ["script"]) fun _ _ _ _ _ _ us hl => match us, hl with | [_], _ => rfl⟩ }
  have two : ∀ {A : (Addr × Addr) → Prop}, A (cc1, P1) → A (cc2, P2) → ∀ p ∈ [(cc1, P1), (cc2, P2)], A p := fun {A} h1 h2 p hp => by
    rcases List.mem_cons.mp hp with z | z
    · rw [z]
      exact h1
    · rw [List.mem_singleton.mp z]
      exact h2
  have m1 : (cc1, P1) ∈ [(cc1, P1), (cc2, P2)] := List.mem_cons_self
  have m2 : (cc2, P2) ∈ [(cc1, P1), (cc2, P2)] := List.mem_cons_of_mem _ (List.mem_singleton.mpr rfl)
  refine ⟨T.q_law.d, [(cc1, P1), (cc2, P2)], spLaw K [(P1, stairQ), (P2, lawQ)], two tab1 tab2, two nP1 nP2, two (PySem.W.codeHd_of_K X ch1) (PySem.W.codeHd_of_K X ch2), fun s u => .of_eq rfl, fun H a ns hl _ hT hS => ⟨a, ns, rfl, hS, hl, fun q hq => ?_, fun _ => rfl⟩, fun base _ _ TB => ok_law T ⟨cc1, P1, rfl, TB _ m1, List.mem_cons_self, fun p hp e => ?_⟩ ⟨cc2, P2, rfl, TB _ m2, List.mem_cons_of_mem _ (List.mem_singleton.mpr rfl), fun p hp e => ?_⟩⟩
  · rcases List.mem_cons.mp hq with z | z
    · rw [z]
      exact LamX.TabS.nil (hT _ m1)
    · rw [List.mem_singleton.mp z]
      exact LamX.TabS.nil (hT _ m2)
  · rcases List.mem_cons.mp hp with z | z
    · rw [z]
    · rw [List.mem_singleton.mp z] at e
      exact absurd e.symm ne12
  · rcases List.mem_cons.mp hp with z | z
    · rw [z] at e
      exact absurd e ne12
    · rw [List.mem_singleton.mp z]
end G21
set_option Elab.async false
set_option linter.all false
set_option maxRecDepth 100000
set_option maxHeartbeats 4000000
open PySem PySem.W PyProof.Rows in
set_option maxRecDepth 100000 in
set_option maxHeartbeats 0 in
theorem PySem.Challenge.cw_gapstairs_k89_bodies_that_part_forms_and_holds : PySem.Challenge.rw_gapstairs_k89_bodies_that_part_forms_and.Holds := by
  w_on; o_law; k_head; (case hw => w_witness2)
  k_fill
  refine LamX.walk_ofTs (l := PySem.Challenge.rw_gapstairs_k89_bodies_that_part_forms_and) (n := 63) (k := 12) (x := "script") (CX := fun _ => L2.CX0) rfl (by decide) rfl ⟨rfl, by decide, by decide⟩ (fun w h Y => PySem.W.km_in_of Y) ?F (fun _ _ _ _ _ z => z)
  case F =>
    intro w mg fa h Y KX G hmg
    refine' G21.law_at (P1 := 438) (P2 := 545) KX G hmg ?z_abs ?z_all ?z_any ?z_bool ?z_int ?z_isinstance ?z_len ?z_list ?z_max ?z_min ?z_range ?z_reversed ?z_set ?z_sorted ?z_tuple ?z_zip ?iN ?iT ?xa_GapError ?xq_GapError ?xk_GapError ?xb_GapError ?xt_GapError ?xg_GapError ?xh_GapError ?xd_GapError ?xc_GapError ?xm_GapError ?xa_BadBody ?xq_BadBody ?xk_BadBody ?xb_BadBody ?xt_BadBody ?xg_BadBody ?xh_BadBody ?xd_BadBody ?xc_BadBody ?xm_BadBody ?xa_BadBy ?xq_BadBy ?xk_BadBy ?xb_BadBy ?xt_BadBy ?xg_BadBy ?xh_BadBy ?xd_BadBy ?xc_BadBy ?xm_BadBy ?xa_BadEnd ?xq_BadEnd ?xk_BadEnd ?xb_BadEnd ?xt_BadEnd ?xg_BadEnd ?xh_BadEnd ?xd_BadEnd ?xc_BadEnd ?xm_BadEnd ?xa_BadForm ?xq_BadForm ?xk_BadForm ?xb_BadForm ?xt_BadForm ?xg_BadForm ?xh_BadForm ?xd_BadForm ?xc_BadForm ?xm_BadForm ?xa_BadLeast ?xq_BadLeast ?xk_BadLeast ?xb_BadLeast ?xt_BadLeast ?xg_BadLeast ?xh_BadLeast ?xd_BadLeast ?xc_BadLeast ?xm_BadLeast ?xa_BadStairs ?xq_BadStairs ?xk_BadStairs ?xb_BadStairs ?xt_BadStairs ?xg_BadStairs ?xh_BadStairs ?xd_BadStairs ?xc_BadStairs ?xm_BadStairs ?xa_BadStart ?xq_BadStart ?xk_BadStart ?xb_BadStart ?xt_BadStart ?xg_BadStart ?xh_BadStart ?xd_BadStart ?xc_BadStart ?xm_BadStart ?xa_NotJoined ?xq_NotJoined ?xk_NotJoined ?xb_NotJoined ?xt_NotJoined ?xg_NotJoined ?xh_NotJoined ?xd_NotJoined ?xc_NotJoined ?xm_NotJoined ?u_BadBody ?u_BadBy ?u_BadEnd ?u_BadForm ?u_BadLeast ?u_BadStairs ?u_BadStart ?u_NotJoined ?aC ?pg ?hd ?po ?sa ?nB ?nF_start ?nF_end ?nF_stairs ?nF_least ?nF_by ?in_ ?l_I ?c_I ?k_I ?ii ?mk ?kc ?iA ?iM ?kD ?kNoneType ?ktuple ?kstr ?kint ?kbool ?klist ?n_BadBody ?n_BadBy ?n_BadEnd ?n_BadForm ?n_BadLeast ?n_BadStairs ?n_BadStart ?n_NotJoined ?e_BadBody ?e_BadBy ?e_BadEnd ?e_BadForm ?e_BadLeast ?e_BadStairs ?e_BadStart ?e_NotJoined ?a_q_is_number ?l_q_is_number ?c_q_is_number ?k_q_is_number ?a_q_is_number_pair ?l_q_is_number_pair ?c_q_is_number_pair ?k_q_is_number_pair ?a_q_check_by ?l_q_check_by ?c_q_check_by ?k_q_check_by ?a_q_is_size ?l_q_is_size ?c_q_is_size ?k_q_is_size ?a_q_is_body ?l_q_is_body ?c_q_is_body ?k_q_is_body ?a_q_is_corner ?l_q_is_corner ?c_q_is_corner ?k_q_is_corner ?a_q_check_body ?l_q_check_body ?c_q_check_body ?k_q_check_body ?a_q_is_above ?l_q_is_above ?c_q_is_above ?k_q_is_above ?a_q_lesser ?l_q_lesser ?c_q_lesser ?k_q_lesser ?a_q_encloses ?l_q_encloses ?c_q_encloses ?k_q_encloses ?a_q_is_stairs ?l_q_is_stairs ?c_q_is_stairs ?k_q_is_stairs ?a_q_is_step ?l_q_is_step ?c_q_is_step ?k_q_is_step ?a_q_check_stairs ?l_q_check_stairs ?c_q_check_stairs ?k_q_check_stairs ?a_q_corner_order ?l_q_corner_order ?c_q_corner_order ?k_q_corner_order ?a_q_stairs_of ?l_q_stairs_of ?c_q_stairs_of ?k_q_stairs_of ?a_q_has ?l_q_has ?c_q_has ?k_q_has ?a_q_both ?l_q_both ?c_q_both ?k_q_both ?a_q_notches_of ?l_q_notches_of ?c_q_notches_of ?k_q_notches_of ?a_q_moved_item ?l_q_moved_item ?c_q_moved_item ?k_q_moved_item ?a_q_moved ?l_q_moved ?c_q_moved ?k_q_moved ?a_q_is_any_place ?l_q_is_any_place ?c_q_is_any_place ?k_q_is_any_place ?a_q_greatest ?l_q_greatest ?c_q_greatest ?k_q_greatest ?a_q_grown ?l_q_grown ?c_q_grown ?k_q_grown ?a_q_plain_by ?l_q_plain_by ?c_q_plain_by ?k_q_plain_by ?a_q_body_behind ?l_q_body_behind ?c_q_body_behind ?k_q_body_behind ?a_q_followed ?l_q_followed ?c_q_followed ?k_q_followed ?a_q_check_form ?l_q_check_form ?c_q_check_form ?k_q_check_form ?a_q_end_size ?l_q_end_size ?c_q_end_size ?k_q_end_size ?a_q_telling_sizes ?l_q_telling_sizes ?c_q_telling_sizes ?k_q_telling_sizes ?a_q_is_parted ?l_q_is_parted ?c_q_is_parted ?k_q_is_parted ?a_q_form_parting ?l_q_form_parting ?c_q_form_parting ?k_q_form_parting ?a_q_least_loads ?l_q_least_loads ?c_q_least_loads ?k_q_least_loads ?a_l_begun ?l_l_begun ?c_l_begun ?k_l_begun ?a_l_mixed ?l_l_mixed ?c_l_mixed ?k_l_mixed ?a_l_take ?l_l_take ?c_l_take ?k_l_take ?a_l_pick ?l_l_pick ?c_l_pick ?k_l_pick ?a_l_caught ?l_l_caught ?c_l_caught ?k_l_caught ?a_l_is_number ?l_l_is_number ?c_l_is_number ?k_l_is_number ?a_l_least ?l_l_least ?c_l_least ?k_l_least ?a_l_holds ?l_l_holds ?c_l_holds ?k_l_holds ?a_l_rank ?l_l_rank ?c_l_rank ?k_l_rank ?a_l_staircase ?l_l_staircase ?c_l_staircase ?k_l_staircase ?a_l_held ?l_l_held ?c_l_held ?k_l_held ?a_l_joined ?l_l_joined ?c_l_joined ?k_l_joined ?a_l_notches ?l_l_notches ?c_l_notches ?k_l_notches ?a_l_size ?l_l_size ?c_l_size ?k_l_size ?a_l_stairs ?l_l_stairs ?c_l_stairs ?k_l_stairs ?a_l_is_size ?l_l_is_size ?c_l_is_size ?k_l_is_size ?a_l_is_body ?l_l_is_body ?c_l_is_body ?k_l_is_body ?a_l_beside ?l_l_beside ?c_l_beside ?k_l_beside ?a_l_few ?l_l_few ?c_l_few ?k_l_few ?a_l_grow ?l_l_grow ?c_l_grow ?k_l_grow ?a_l_few_bodies ?l_l_few_bodies ?c_l_few_bodies ?k_l_few_bodies ?a_l_raw ?l_l_raw ?c_l_raw ?k_l_raw ?a_l_unlike ?l_l_unlike ?c_l_unlike ?k_l_unlike ?a_l_loads ?l_l_loads ?c_l_loads ?k_l_loads ?a_l_turns ?l_l_turns ?c_l_turns ?k_l_turns ?a_l_great_ok ?l_l_great_ok ?c_l_great_ok ?k_l_great_ok ?a_q_law ?l_q_law ?c_q_law ?k_q_law ?ch1 ?nP1 ?ch2 ?nP2 ?ne12 ?tab1 ?tab2
    (case z_abs => k_is)
    (case z_all => k_is)
    (case z_any => k_is)
    (case z_bool => k_is)
    (case z_int => k_is)
    (case z_isinstance => k_is)
    (case z_len => k_is)
    (case z_list => k_is)
    (case z_max => k_is)
    (case z_min => k_is)
    (case z_range => k_is)
    (case z_reversed => k_is)
    (case z_set => k_is)
    (case z_sorted => k_is)
    (case z_tuple => k_is)
    (case z_zip => k_is)
    (case iN => k_is)
    (case iT => k_is)
    (case xa_GapError => k_is)
    (case xq_GapError => kernel_rfl)
    (case xk_GapError => k_is)
    (case xb_GapError => k_is)
    (case xt_GapError => k_is)
    (case xg_GapError => k_is)
    (case xh_GapError => k_is)
    (case xd_GapError => k_is)
    (case xc_GapError => k_is)
    (case xm_GapError => k_is)
    (case xa_BadBody => k_is)
    (case xq_BadBody => kernel_rfl)
    (case xk_BadBody => k_is)
    (case xb_BadBody => k_is)
    (case xt_BadBody => k_is)
    (case xg_BadBody => k_is)
    (case xh_BadBody => k_is)
    (case xd_BadBody => k_is)
    (case xc_BadBody => k_is)
    (case xm_BadBody => k_is)
    (case xa_BadBy => k_is)
    (case xq_BadBy => kernel_rfl)
    (case xk_BadBy => k_is)
    (case xb_BadBy => k_is)
    (case xt_BadBy => k_is)
    (case xg_BadBy => k_is)
    (case xh_BadBy => k_is)
    (case xd_BadBy => k_is)
    (case xc_BadBy => k_is)
    (case xm_BadBy => k_is)
    (case xa_BadEnd => k_is)
    (case xq_BadEnd => kernel_rfl)
    (case xk_BadEnd => k_is)
    (case xb_BadEnd => k_is)
    (case xt_BadEnd => k_is)
    (case xg_BadEnd => k_is)
    (case xh_BadEnd => k_is)
    (case xd_BadEnd => k_is)
    (case xc_BadEnd => k_is)
    (case xm_BadEnd => k_is)
    (case xa_BadForm => k_is)
    (case xq_BadForm => kernel_rfl)
    (case xk_BadForm => k_is)
    (case xb_BadForm => k_is)
    (case xt_BadForm => k_is)
    (case xg_BadForm => k_is)
    (case xh_BadForm => k_is)
    (case xd_BadForm => k_is)
    (case xc_BadForm => k_is)
    (case xm_BadForm => k_is)
    (case xa_BadLeast => k_is)
    (case xq_BadLeast => kernel_rfl)
    (case xk_BadLeast => k_is)
    (case xb_BadLeast => k_is)
    (case xt_BadLeast => k_is)
    (case xg_BadLeast => k_is)
    (case xh_BadLeast => k_is)
    (case xd_BadLeast => k_is)
    (case xc_BadLeast => k_is)
    (case xm_BadLeast => k_is)
    (case xa_BadStairs => k_is)
    (case xq_BadStairs => kernel_rfl)
    (case xk_BadStairs => k_is)
    (case xb_BadStairs => k_is)
    (case xt_BadStairs => k_is)
    (case xg_BadStairs => k_is)
    (case xh_BadStairs => k_is)
    (case xd_BadStairs => k_is)
    (case xc_BadStairs => k_is)
    (case xm_BadStairs => k_is)
    (case xa_BadStart => k_is)
    (case xq_BadStart => kernel_rfl)
    (case xk_BadStart => k_is)
    (case xb_BadStart => k_is)
    (case xt_BadStart => k_is)
    (case xg_BadStart => k_is)
    (case xh_BadStart => k_is)
    (case xd_BadStart => k_is)
    (case xc_BadStart => k_is)
    (case xm_BadStart => k_is)
    (case xa_NotJoined => k_is)
    (case xq_NotJoined => kernel_rfl)
    (case xk_NotJoined => k_is)
    (case xb_NotJoined => k_is)
    (case xt_NotJoined => k_is)
    (case xg_NotJoined => k_is)
    (case xh_NotJoined => k_is)
    (case xd_NotJoined => k_is)
    (case xc_NotJoined => k_is)
    (case xm_NotJoined => k_is)
    (case u_BadBody => kernel_rfl)
    (case u_BadBy => kernel_rfl)
    (case u_BadEnd => kernel_rfl)
    (case u_BadForm => kernel_rfl)
    (case u_BadLeast => kernel_rfl)
    (case u_BadStairs => kernel_rfl)
    (case u_BadStart => kernel_rfl)
    (case u_NotJoined => kernel_rfl)
    (case aC => k_is)
    (case pg => k_is)
    (case hd => k_is)
    (case po => k_is)
    (case sa => k_is)
    (case nB => k_is)
    (case nF_start => k_is)
    (case nF_end => k_is)
    (case nF_stairs => k_is)
    (case nF_least => k_is)
    (case nF_by => k_is)
    (case in_ => k_is)
    (case l_I => k_is)
    (case c_I => k_is)
    (case k_I => k_is)
    (case ii => k_is)
    (case mk => k_is)
    (case kc => k_is)
    (case iA => k_is)
    (case iM => k_is)
    (case kD => kernel_rfl)
    (case kNoneType => kernel_rfl)
    (case ktuple => kernel_rfl)
    (case kstr => kernel_rfl)
    (case kint => kernel_rfl)
    (case kbool => kernel_rfl)
    (case klist => kernel_rfl)
    (case n_BadBody => kernel_rfl)
    (case n_BadBy => kernel_rfl)
    (case n_BadEnd => kernel_rfl)
    (case n_BadForm => kernel_rfl)
    (case n_BadLeast => kernel_rfl)
    (case n_BadStairs => kernel_rfl)
    (case n_BadStart => kernel_rfl)
    (case n_NotJoined => kernel_rfl)
    (case e_BadBody => kernel_rfl)
    (case e_BadBy => kernel_rfl)
    (case e_BadEnd => kernel_rfl)
    (case e_BadForm => kernel_rfl)
    (case e_BadLeast => kernel_rfl)
    (case e_BadStairs => kernel_rfl)
    (case e_BadStart => kernel_rfl)
    (case e_NotJoined => kernel_rfl)
    (case a_q_is_number => k_is)
    (case l_q_is_number => k_is)
    (case c_q_is_number => k_is)
    (case k_q_is_number => k_is)
    (case a_q_is_number_pair => k_is)
    (case l_q_is_number_pair => k_is)
    (case c_q_is_number_pair => k_is)
    (case k_q_is_number_pair => k_is)
    (case a_q_check_by => k_is)
    (case l_q_check_by => k_is)
    (case c_q_check_by => k_is)
    (case k_q_check_by => k_is)
    (case a_q_is_size => k_is)
    (case l_q_is_size => k_is)
    (case c_q_is_size => k_is)
    (case k_q_is_size => k_is)
    (case a_q_is_body => k_is)
    (case l_q_is_body => k_is)
    (case c_q_is_body => k_is)
    (case k_q_is_body => k_is)
    (case a_q_is_corner => k_is)
    (case l_q_is_corner => k_is)
    (case c_q_is_corner => k_is)
    (case k_q_is_corner => k_is)
    (case a_q_check_body => k_is)
    (case l_q_check_body => k_is)
    (case c_q_check_body => k_is)
    (case k_q_check_body => k_is)
    (case a_q_is_above => k_is)
    (case l_q_is_above => k_is)
    (case c_q_is_above => k_is)
    (case k_q_is_above => k_is)
    (case a_q_lesser => k_is)
    (case l_q_lesser => k_is)
    (case c_q_lesser => k_is)
    (case k_q_lesser => k_is)
    (case a_q_encloses => k_is)
    (case l_q_encloses => k_is)
    (case c_q_encloses => k_is)
    (case k_q_encloses => k_is)
    (case a_q_is_stairs => k_is)
    (case l_q_is_stairs => k_is)
    (case c_q_is_stairs => k_is)
    (case k_q_is_stairs => k_is)
    (case a_q_is_step => k_is)
    (case l_q_is_step => k_is)
    (case c_q_is_step => k_is)
    (case k_q_is_step => k_is)
    (case a_q_check_stairs => k_is)
    (case l_q_check_stairs => k_is)
    (case c_q_check_stairs => k_is)
    (case k_q_check_stairs => k_is)
    (case a_q_corner_order => k_is)
    (case l_q_corner_order => k_is)
    (case c_q_corner_order => k_is)
    (case k_q_corner_order => k_is)
    (case a_q_stairs_of => k_is)
    (case l_q_stairs_of => k_is)
    (case c_q_stairs_of => k_is)
    (case k_q_stairs_of => k_is)
    (case a_q_has => k_is)
    (case l_q_has => k_is)
    (case c_q_has => k_is)
    (case k_q_has => k_is)
    (case a_q_both => k_is)
    (case l_q_both => k_is)
    (case c_q_both => k_is)
    (case k_q_both => k_is)
    (case a_q_notches_of => k_is)
    (case l_q_notches_of => k_is)
    (case c_q_notches_of => k_is)
    (case k_q_notches_of => k_is)
    (case a_q_moved_item => k_is)
    (case l_q_moved_item => k_is)
    (case c_q_moved_item => k_is)
    (case k_q_moved_item => k_is)
    (case a_q_moved => k_is)
    (case l_q_moved => k_is)
    (case c_q_moved => k_is)
    (case k_q_moved => k_is)
    (case a_q_is_any_place => k_is)
    (case l_q_is_any_place => k_is)
    (case c_q_is_any_place => k_is)
    (case k_q_is_any_place => k_is)
    (case a_q_greatest => k_is)
    (case l_q_greatest => k_is)
    (case c_q_greatest => k_is)
    (case k_q_greatest => k_is)
    (case a_q_grown => k_is)
    (case l_q_grown => k_is)
    (case c_q_grown => k_is)
    (case k_q_grown => k_is)
    (case a_q_plain_by => k_is)
    (case l_q_plain_by => k_is)
    (case c_q_plain_by => k_is)
    (case k_q_plain_by => k_is)
    (case a_q_body_behind => k_is)
    (case l_q_body_behind => k_is)
    (case c_q_body_behind => k_is)
    (case k_q_body_behind => k_is)
    (case a_q_followed => k_is)
    (case l_q_followed => k_is)
    (case c_q_followed => k_is)
    (case k_q_followed => k_is)
    (case a_q_check_form => k_is)
    (case l_q_check_form => k_is)
    (case c_q_check_form => k_is)
    (case k_q_check_form => k_is)
    (case a_q_end_size => k_is)
    (case l_q_end_size => k_is)
    (case c_q_end_size => k_is)
    (case k_q_end_size => k_is)
    (case a_q_telling_sizes => k_is)
    (case l_q_telling_sizes => k_is)
    (case c_q_telling_sizes => k_is)
    (case k_q_telling_sizes => k_is)
    (case a_q_is_parted => k_is)
    (case l_q_is_parted => k_is)
    (case c_q_is_parted => k_is)
    (case k_q_is_parted => k_is)
    (case a_q_form_parting => k_is)
    (case l_q_form_parting => k_is)
    (case c_q_form_parting => k_is)
    (case k_q_form_parting => k_is)
    (case a_q_least_loads => k_is)
    (case l_q_least_loads => k_is)
    (case c_q_least_loads => k_is)
    (case k_q_least_loads => k_is)
    (case a_l_begun => k_is)
    (case l_l_begun => k_is)
    (case c_l_begun => k_is)
    (case k_l_begun => k_is)
    (case a_l_mixed => k_is)
    (case l_l_mixed => k_is)
    (case c_l_mixed => k_is)
    (case k_l_mixed => k_is)
    (case a_l_take => k_is)
    (case l_l_take => k_is)
    (case c_l_take => k_is)
    (case k_l_take => k_is)
    (case a_l_pick => k_is)
    (case l_l_pick => k_is)
    (case c_l_pick => k_is)
    (case k_l_pick => k_is)
    (case a_l_caught => k_is)
    (case l_l_caught => k_is)
    (case c_l_caught => k_is)
    (case k_l_caught => k_is)
    (case a_l_is_number => k_is)
    (case l_l_is_number => k_is)
    (case c_l_is_number => k_is)
    (case k_l_is_number => k_is)
    (case a_l_least => k_is)
    (case l_l_least => k_is)
    (case c_l_least => k_is)
    (case k_l_least => k_is)
    (case a_l_holds => k_is)
    (case l_l_holds => k_is)
    (case c_l_holds => k_is)
    (case k_l_holds => k_is)
    (case a_l_rank => k_is)
    (case l_l_rank => k_is)
    (case c_l_rank => k_is)
    (case k_l_rank => k_is)
    (case a_l_staircase => k_is)
    (case l_l_staircase => k_is)
    (case c_l_staircase => k_is)
    (case k_l_staircase => k_is)
    (case a_l_held => k_is)
    (case l_l_held => k_is)
    (case c_l_held => k_is)
    (case k_l_held => k_is)
    (case a_l_joined => k_is)
    (case l_l_joined => k_is)
    (case c_l_joined => k_is)
    (case k_l_joined => k_is)
    (case a_l_notches => k_is)
    (case l_l_notches => k_is)
    (case c_l_notches => k_is)
    (case k_l_notches => k_is)
    (case a_l_size => k_is)
    (case l_l_size => k_is)
    (case c_l_size => k_is)
    (case k_l_size => k_is)
    (case a_l_stairs => k_is)
    (case l_l_stairs => k_is)
    (case c_l_stairs => k_is)
    (case k_l_stairs => k_is)
    (case a_l_is_size => k_is)
    (case l_l_is_size => k_is)
    (case c_l_is_size => k_is)
    (case k_l_is_size => k_is)
    (case a_l_is_body => k_is)
    (case l_l_is_body => k_is)
    (case c_l_is_body => k_is)
    (case k_l_is_body => k_is)
    (case a_l_beside => k_is)
    (case l_l_beside => k_is)
    (case c_l_beside => k_is)
    (case k_l_beside => k_is)
    (case a_l_few => k_is)
    (case l_l_few => k_is)
    (case c_l_few => k_is)
    (case k_l_few => k_is)
    (case a_l_grow => k_is)
    (case l_l_grow => k_is)
    (case c_l_grow => k_is)
    (case k_l_grow => k_is)
    (case a_l_few_bodies => k_is)
    (case l_l_few_bodies => k_is)
    (case c_l_few_bodies => k_is)
    (case k_l_few_bodies => k_is)
    (case a_l_raw => k_is)
    (case l_l_raw => k_is)
    (case c_l_raw => k_is)
    (case k_l_raw => k_is)
    (case a_l_unlike => k_is)
    (case l_l_unlike => k_is)
    (case c_l_unlike => k_is)
    (case k_l_unlike => k_is)
    (case a_l_loads => k_is)
    (case l_l_loads => k_is)
    (case c_l_loads => k_is)
    (case k_l_loads => k_is)
    (case a_l_turns => k_is)
    (case l_l_turns => k_is)
    (case c_l_turns => k_is)
    (case k_l_turns => k_is)
    (case a_l_great_ok => k_is)
    (case l_l_great_ok => k_is)
    (case c_l_great_ok => k_is)
    (case k_l_great_ok => k_is)
    (case a_q_law => k_is)
    (case l_q_law => k_is)
    (case c_q_law => k_is)
    (case k_q_law => k_is)
    (case ch1 => kernel_rfl)
    (case nP1 => kernel_rfl)
    (case ch2 => kernel_rfl)
    (case nP2 => kernel_rfl)
    (case ne12 => decide)
    (case tab1 => exact PySem.W.km_tabs_of Y _ (by decide))
    (case tab2 => exact PySem.W.km_tabs_of Y _ (by decide))
