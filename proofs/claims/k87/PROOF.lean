import PyProof.Rows.All
import Wide.All
import OpenK.AllK
import Wide.FinOn
import PyProof.EqAt
import PyProof.EqKinds
import PyProof.TupleCall
import HandS.ForMost
import HandS.ForExc
import HandS.IsInst
import HandS.Lambda
import HandS.EndTab
import HandS.Wide
import HandS.TupSets
import HandS.SortInts
import HandS.ExcIs
import HandS.ExcValue
import HandS.Zip
import HandS.Style
import HandS.Conv
import HandS.Evl
import PySem.Challenge.RW_gapstairs_k87_whole_one_form_for_two
import HandS.SortOrd
import HandS.NamedTupSort
import HandS.Deep
import HandS.Set
import HandS.SetFor
import HandS.Strs
import HandS.Codes
import HandS.Words
import PyProof.Draws
import PyProof.EnumMake
import HandS.Rev
import PyProof.ListNew
import KE.KSortKey
import HandS.SortKw
import HandS.OwnEq
import HandS.More
import KE.SortKeyHeap
import KE.KOpsOwn
import HandS.TupAny
import KE.DataMinMax
import HandS.Flow
import HandS.NoneIn
set_option Elab.async false
set_option linter.all false
set_option maxRecDepth 100000
set_option maxHeartbeats 4000000
namespace G21
open PySem PySem.Spec PyProof.Rows L2
/-! ### the text -/
def topS (i : Nat) : Stmt := PySem.Challenge.pw_gapstairs_k87_whole_one_form_for_two.main.body.getD i (.Pass ⟨0, 0, 0, 0⟩)
abbrev S_q_is_number : Stmt := topS 12
abbrev N_q_is_number : List Str := ["thing"]
theorem c_q_is_number : FnScope N_q_is_number ["thing"] (defScope S_q_is_number) := ⟨rfl, rfl, rfl, by decide +kernel, rfl, by decide +kernel, by decide +kernel⟩
abbrev S_q_is_number_pair : Stmt := topS 13
abbrev N_q_is_number_pair : List Str := ["thing"]
theorem c_q_is_number_pair : FnScope N_q_is_number_pair ["thing"] (defScope S_q_is_number_pair) := ⟨rfl, rfl, rfl, by decide +kernel, rfl, by decide +kernel, by decide +kernel⟩
abbrev S_q_check_by : Stmt := topS 14
abbrev N_q_check_by : List Str := ["by"]
theorem c_q_check_by : FnScope N_q_check_by ["by"] (defScope S_q_check_by) := ⟨rfl, rfl, rfl, by decide +kernel, rfl, by decide +kernel, by decide +kernel⟩
abbrev S_q_is_size : Stmt := topS 16
abbrev N_q_is_size : List Str := ["thing"]
theorem c_q_is_size : FnScope N_q_is_size ["thing"] (defScope S_q_is_size) := ⟨rfl, rfl, rfl, by decide +kernel, rfl, by decide +kernel, by decide +kernel⟩
abbrev S_q_is_body : Stmt := topS 17
abbrev N_q_is_body : List Str := ["thing"]
theorem c_q_is_body : FnScope N_q_is_body ["thing"] (defScope S_q_is_body) := ⟨rfl, rfl, rfl, by decide +kernel, rfl, by decide +kernel, by decide +kernel⟩
abbrev S_q_is_corner : Stmt := topS 18
abbrev N_q_is_corner : List Str := ["thing", "item"]
theorem c_q_is_corner : FnScope N_q_is_corner ["thing"] (defScope S_q_is_corner) := ⟨rfl, rfl, rfl, by decide +kernel, rfl, by decide +kernel, by decide +kernel⟩
abbrev S_q_check_body : Stmt := topS 19
abbrev N_q_check_body : List Str := ["body"]
theorem c_q_check_body : FnScope N_q_check_body ["body"] (defScope S_q_check_body) := ⟨rfl, rfl, rfl, by decide +kernel, rfl, by decide +kernel, by decide +kernel⟩
abbrev S_q_is_above : Stmt := topS 20
abbrev N_q_is_above : List Str := ["one", "other"]
theorem c_q_is_above : FnScope N_q_is_above ["one", "other"] (defScope S_q_is_above) := ⟨rfl, rfl, rfl, by decide +kernel, rfl, by decide +kernel, by decide +kernel⟩
abbrev S_q_lesser : Stmt := topS 21
abbrev N_q_lesser : List Str := ["one", "other"]
theorem c_q_lesser : FnScope N_q_lesser ["one", "other"] (defScope S_q_lesser) := ⟨rfl, rfl, rfl, by decide +kernel, rfl, by decide +kernel, by decide +kernel⟩
abbrev S_q_encloses : Stmt := topS 22
abbrev N_q_encloses : List Str := ["corner", "inner"]
theorem c_q_encloses : FnScope N_q_encloses ["corner", "inner"] (defScope S_q_encloses) := ⟨rfl, rfl, rfl, by decide +kernel, rfl, by decide +kernel, by decide +kernel⟩
abbrev S_q_is_stairs : Stmt := topS 24
abbrev N_q_is_stairs : List Str := ["thing", "corner", "k"]
theorem c_q_is_stairs : FnScope N_q_is_stairs ["thing"] (defScope S_q_is_stairs) := ⟨rfl, rfl, rfl, by decide +kernel, rfl, by decide +kernel, by decide +kernel⟩
abbrev S_q_is_step : Stmt := topS 25
abbrev N_q_is_step : List Str := ["corner", "further"]
theorem c_q_is_step : FnScope N_q_is_step ["corner", "further"] (defScope S_q_is_step) := ⟨rfl, rfl, rfl, by decide +kernel, rfl, by decide +kernel, by decide +kernel⟩
abbrev S_q_check_stairs : Stmt := topS 26
abbrev N_q_check_stairs : List Str := ["stairs"]
theorem c_q_check_stairs : FnScope N_q_check_stairs ["stairs"] (defScope S_q_check_stairs) := ⟨rfl, rfl, rfl, by decide +kernel, rfl, by decide +kernel, by decide +kernel⟩
abbrev S_q_corner_order : Stmt := topS 27
abbrev N_q_corner_order : List Str := ["corner"]
theorem c_q_corner_order : FnScope N_q_corner_order ["corner"] (defScope S_q_corner_order) := ⟨rfl, rfl, rfl, by decide +kernel, rfl, by decide +kernel, by decide +kernel⟩
abbrev S_q_stairs_of : Stmt := topS 28
abbrev N_q_stairs_of : List Str := ["corners", "found", "best", "corner"]
theorem c_q_stairs_of : FnScope N_q_stairs_of ["corners"] (defScope S_q_stairs_of) := ⟨rfl, rfl, rfl, by decide +kernel, rfl, by decide +kernel, by decide +kernel⟩
abbrev S_q_has : Stmt := topS 29
abbrev N_q_has : List Str := ["stairs", "corner", "own"]
theorem c_q_has : FnScope N_q_has ["stairs", "corner"] (defScope S_q_has) := ⟨rfl, rfl, rfl, by decide +kernel, rfl, by decide +kernel, by decide +kernel⟩
abbrev S_q_both : Stmt := topS 30
abbrev N_q_both : List Str := ["one", "other", "corners", "i", "j", "goes", "other_goes"]
theorem c_q_both : FnScope N_q_both ["one", "other"] (defScope S_q_both) := ⟨rfl, rfl, rfl, by decide +kernel, rfl, by decide +kernel, by decide +kernel⟩
abbrev S_q_met : Stmt := topS 31
abbrev N_q_met : List Str := ["one", "other"]
theorem c_q_met : FnScope N_q_met ["one", "other"] (defScope S_q_met) := ⟨rfl, rfl, rfl, by decide +kernel, rfl, by decide +kernel, by decide +kernel⟩
abbrev S_q_moved_item : Stmt := topS 32
abbrev N_q_moved_item : List Str := ["item", "by"]
theorem c_q_moved_item : FnScope N_q_moved_item ["item", "by"] (defScope S_q_moved_item) := ⟨rfl, rfl, rfl, by decide +kernel, rfl, by decide +kernel, by decide +kernel⟩
abbrev S_q_moved : Stmt := topS 33
abbrev N_q_moved : List Str := ["stairs", "least", "by", "corners", "wide", "high", "corner"]
theorem c_q_moved : FnScope N_q_moved ["stairs", "least", "by"] (defScope S_q_moved) := ⟨rfl, rfl, rfl, by decide +kernel, rfl, by decide +kernel, by decide +kernel⟩
abbrev S_q_is_any_place : Stmt := topS 35
abbrev N_q_is_any_place : List Str := ["thing"]
theorem c_q_is_any_place : FnScope N_q_is_any_place ["thing"] (defScope S_q_is_any_place) := ⟨rfl, rfl, rfl, by decide +kernel, rfl, by decide +kernel, by decide +kernel⟩
abbrev S_q_greatest : Stmt := topS 36
abbrev N_q_greatest : List Str := ["stairs", "index"]
theorem c_q_greatest : FnScope N_q_greatest ["stairs", "index"] (defScope S_q_greatest) := ⟨rfl, rfl, rfl, by decide +kernel, rfl, by decide +kernel, by decide +kernel⟩
abbrev S_q_grown : Stmt := topS 37
abbrev N_q_grown : List Str := ["least", "by", "size"]
theorem c_q_grown : FnScope N_q_grown ["least", "by", "size"] (defScope S_q_grown) := ⟨rfl, rfl, rfl, by decide +kernel, rfl, by decide +kernel, by decide +kernel⟩
abbrev S_q_plain_by : Stmt := topS 38
abbrev N_q_plain_by : List Str := ["stairs", "least", "by", "index", "most"]
theorem c_q_plain_by : FnScope N_q_plain_by ["stairs", "least", "by", "index"] (defScope S_q_plain_by) := ⟨rfl, rfl, rfl, by decide +kernel, rfl, by decide +kernel, by decide +kernel⟩
abbrev S_q_Form_init : Stmt := inClass (topS 39) 0
abbrev N_q_Form_init : List Str := ["self", "start", "end", "stairs", "least", "by"]
theorem c_q_Form_init : FnScope N_q_Form_init ["self", "start", "end", "stairs", "least", "by"] (defScope S_q_Form_init) := ⟨rfl, rfl, rfl, by decide +kernel, rfl, by decide +kernel, by decide +kernel⟩
abbrev S_q_Form_eq : Stmt := inClass (topS 39) 1
abbrev N_q_Form_eq : List Str := ["self", "other"]
theorem c_q_Form_eq : FnScope N_q_Form_eq ["self", "other"] (defScope S_q_Form_eq) := ⟨rfl, rfl, rfl, by decide +kernel, rfl, by decide +kernel, by decide +kernel⟩
abbrev S_q_Form_mul : Stmt := inClass (topS 39) 2
abbrev N_q_Form_mul : List Str := ["self", "other"]
theorem c_q_Form_mul : FnScope N_q_Form_mul ["self", "other"] (defScope S_q_Form_mul) := ⟨rfl, rfl, rfl, by decide +kernel, rfl, by decide +kernel, by decide +kernel⟩
abbrev S_q_Form_rmul : Stmt := inClass (topS 39) 3
abbrev N_q_Form_rmul : List Str := ["self", "other"]
theorem c_q_Form_rmul : FnScope N_q_Form_rmul ["self", "other"] (defScope S_q_Form_rmul) := ⟨rfl, rfl, rfl, by decide +kernel, rfl, by decide +kernel, by decide +kernel⟩
abbrev S_q_body_behind : Stmt := topS 40
abbrev N_q_body_behind : List Str := ["form", "body"]
theorem c_q_body_behind : FnScope N_q_body_behind ["form", "body"] (defScope S_q_body_behind) := ⟨rfl, rfl, rfl, by decide +kernel, rfl, by decide +kernel, by decide +kernel⟩
abbrev S_q_followed : Stmt := topS 41
abbrev N_q_followed : List Str := ["one", "other"]
theorem c_q_followed : FnScope N_q_followed ["one", "other"] (defScope S_q_followed) := ⟨rfl, rfl, rfl, by decide +kernel, rfl, by decide +kernel, by decide +kernel⟩
abbrev S_q_still_at : Stmt := topS 42
abbrev N_q_still_at : List Str := ["place", "stairs"]
theorem c_q_still_at : FnScope N_q_still_at ["place", "stairs"] (defScope S_q_still_at) := ⟨rfl, rfl, rfl, by decide +kernel, rfl, by decide +kernel, by decide +kernel⟩
abbrev S_q_check_form : Stmt := topS 43
abbrev N_q_check_form : List Str := ["form"]
theorem c_q_check_form : FnScope N_q_check_form ["form"] (defScope S_q_check_form) := ⟨rfl, rfl, rfl, by decide +kernel, rfl, by decide +kernel, by decide +kernel⟩
abbrev S_q_check_any_place : Stmt := topS 44
abbrev N_q_check_any_place : List Str := ["place"]
theorem c_q_check_any_place : FnScope N_q_check_any_place ["place"] (defScope S_q_check_any_place) := ⟨rfl, rfl, rfl, by decide +kernel, rfl, by decide +kernel, by decide +kernel⟩
abbrev S_q_end_size : Stmt := topS 45
abbrev N_q_end_size : List Str := ["form", "body"]
theorem c_q_end_size : FnScope N_q_end_size ["form", "body"] (defScope S_q_end_size) := ⟨rfl, rfl, rfl, by decide +kernel, rfl, by decide +kernel, by decide +kernel⟩
abbrev S_q_still : Stmt := topS 46
abbrev N_q_still : List Str := ["place", "stairs"]
theorem c_q_still : FnScope N_q_still ["place", "stairs"] (defScope S_q_still) := ⟨rfl, rfl, rfl, by decide +kernel, rfl, by decide +kernel, by decide +kernel⟩
abbrev S_l_begun : Stmt := topS 48
abbrev N_l_begun : List Str := ["script", "great", "cell"]
theorem c_l_begun : FnScope N_l_begun ["script"] (defScope S_l_begun) := ⟨rfl, rfl, rfl, by decide +kernel, rfl, by decide +kernel, by decide +kernel⟩
abbrev S_l_mixed : Stmt := topS 49
abbrev N_l_mixed : List Str := ["draw", "turn", "found", "prime", "blend", "cell"]
theorem c_l_mixed : FnScope N_l_mixed ["draw"] (defScope S_l_mixed) := ⟨rfl, rfl, rfl, by decide +kernel, rfl, by decide +kernel, by decide +kernel⟩
abbrev S_l_take : Stmt := topS 50
abbrev N_l_take : List Str := ["draw", "many", "found"]
theorem c_l_take : FnScope N_l_take ["draw", "many"] (defScope S_l_take) := ⟨rfl, rfl, rfl, by decide +kernel, rfl, by decide +kernel, by decide +kernel⟩
abbrev S_l_pick : Stmt := topS 51
abbrev N_l_pick : List Str := ["draw", "some"]
theorem c_l_pick : FnScope N_l_pick ["draw", "some"] (defScope S_l_pick) := ⟨rfl, rfl, rfl, by decide +kernel, rfl, by decide +kernel, by decide +kernel⟩
abbrev S_l_caught : Stmt := topS 52
abbrev N_l_caught : List Str := ["task", "caught", "error"]
theorem c_l_caught : FnScope N_l_caught ["task"] (defScope S_l_caught) := ⟨rfl, rfl, rfl, by decide +kernel, rfl, by decide +kernel, by decide +kernel⟩
abbrev S_l_least : Stmt := topS 53
abbrev N_l_least : List Str := ["one", "other"]
theorem c_l_least : FnScope N_l_least ["one", "other"] (defScope S_l_least) := ⟨rfl, rfl, rfl, by decide +kernel, rfl, by decide +kernel, by decide +kernel⟩
abbrev S_l_holds : Stmt := topS 54
abbrev N_l_holds : List Str := ["corner", "body"]
theorem c_l_holds : FnScope N_l_holds ["corner", "body"] (defScope S_l_holds) := ⟨rfl, rfl, rfl, by decide +kernel, rfl, by decide +kernel, by decide +kernel⟩
abbrev S_l_rank : Stmt := topS 55
abbrev N_l_rank : List Str := ["item"]
theorem c_l_rank : FnScope N_l_rank ["item"] (defScope S_l_rank) := ⟨rfl, rfl, rfl, by decide +kernel, rfl, by decide +kernel, by decide +kernel⟩
abbrev S_l_staircase : Stmt := topS 56
abbrev N_l_staircase : List Str := ["corners", "found", "corner", "other"]
theorem c_l_staircase : FnScope N_l_staircase ["corners"] (defScope S_l_staircase) := ⟨rfl, rfl, rfl, by decide +kernel, rfl, by decide +kernel, by decide +kernel⟩
abbrev S_l_held : Stmt := topS 57
abbrev N_l_held : List Str := ["stairs", "body", "corner"]
theorem c_l_held : FnScope N_l_held ["stairs", "body"] (defScope S_l_held) := ⟨rfl, rfl, rfl, by decide +kernel, rfl, by decide +kernel, by decide +kernel⟩
abbrev S_l_size : Stmt := topS 58
abbrev N_l_size : List Str := ["draw"]
theorem c_l_size : FnScope N_l_size ["draw"] (defScope S_l_size) := ⟨rfl, rfl, rfl, by decide +kernel, rfl, by decide +kernel, by decide +kernel⟩
abbrev S_l_beside : Stmt := topS 59
abbrev N_l_beside : List Str := ["draw", "corners", "one", "other"]
theorem c_l_beside : FnScope N_l_beside ["draw", "corners"] (defScope S_l_beside) := ⟨rfl, rfl, rfl, by decide +kernel, rfl, by decide +kernel, by decide +kernel⟩
abbrev S_l_few : Stmt := topS 60
abbrev N_l_few : List Str := ["draw", "most", "found", "lap", "corner", "way"]
theorem c_l_few : FnScope N_l_few ["draw", "most"] (defScope S_l_few) := ⟨rfl, rfl, rfl, by decide +kernel, rfl, by decide +kernel, by decide +kernel⟩
abbrev S_l_grow : Stmt := topS 61
abbrev N_l_grow : List Str := ["least", "by", "body"]
theorem c_l_grow : FnScope N_l_grow ["least", "by", "body"] (defScope S_l_grow) := ⟨rfl, rfl, rfl, by decide +kernel, rfl, by decide +kernel, by decide +kernel⟩
abbrev S_l_few_bodies : Stmt := topS 62
abbrev N_l_few_bodies : List Str := ["many", "found", "a", "b"]
theorem c_l_few_bodies : FnScope N_l_few_bodies ["many"] (defScope S_l_few_bodies) := ⟨rfl, rfl, rfl, by decide +kernel, rfl, by decide +kernel, by decide +kernel⟩
abbrev S_l_raw : Stmt := topS 63
abbrev N_l_raw : List Str := ["draw", "least"]
theorem c_l_raw : FnScope N_l_raw ["draw"] (defScope S_l_raw) := ⟨rfl, rfl, rfl, by decide +kernel, rfl, by decide +kernel, by decide +kernel⟩
abbrev S_q_law : Stmt := topS 64
abbrev N_q_law : List Str := ["script", "draw", "raws", "places_here", "f", "g", "h", "both_v", "whole", "bodies_here", "body", "due", "all_here", "calm", "again", "bad", "lap"]
theorem c_q_law : FnScope N_q_law ["script"] (defScope S_q_law) := ⟨rfl, rfl, rfl, by decide +kernel, rfl, by decide +kernel, by decide +kernel⟩
/-! ### what the top has written -/
/-- a def of the top -/
structure Df (K : PySem.W.Frag) (mg : Str → Option Value) (x : Str) (st : Stmt) (ps : List Str) where
  a : Addr
  d : FuncData
  F : Fun K x x st a d
  g : mg x = some (.ref a)
  b : Binds K d ps []
theorem Df.k {K : PySem.W.Frag} {mg : Str → Option Value} {x : Str} {st : Stmt} {ps : List Str} (D : Df K mg x st ps) : PySem.W.keepIn K (.ref D.a) = true := D.F.kp
/-- an own exception class -/
structure Xc (K : PySem.W.Frag) (mg : Str → Option Value) (x : Str) where
  C : Addr
  g : mg x = some (.ref C)
  q : PySem.W.excIn K C [.type "ValueError", .type "Exception", .type "BaseException", .type "object"] "ValueError.__new__" = true
  k : PySem.W.keepIn K (.ref C) = true
  b : PySem.W.subIn K (.ref C) (.type "BaseException") = some true
  t : PySem.W.typeIn K (.ref C) = some (.type "type")
  e : ExcC K C
end G21
set_option Elab.async false
set_option linter.all false
set_option maxRecDepth 100000
set_option maxHeartbeats 4000000
namespace G21
open PySem PySem.Spec PyProof.Rows L2
structure Txt (K : PySem.W.Frag) (mg : Str → Option Value) where
  z_abs : mg "abs" = none
  z_all : mg "all" = none
  z_any : mg "any" = none
  z_bool : mg "bool" = none
  z_int : mg "int" = none
  z_isinstance : mg "isinstance" = none
  z_len : mg "len" = none
  z_list : mg "list" = none
  z_max : mg "max" = none
  z_min : mg "min" = none
  z_range : mg "range" = none
  z_reversed : mg "reversed" = none
  z_sorted : mg "sorted" = none
  z_tuple : mg "tuple" = none
  x_GapError : Xc K mg "GapError"
  x_BadBody : Xc K mg "BadBody"
  x_BadBy : Xc K mg "BadBy"
  x_BadEnd : Xc K mg "BadEnd"
  x_BadForm : Xc K mg "BadForm"
  x_BadLeast : Xc K mg "BadLeast"
  x_BadPlace : Xc K mg "BadPlace"
  x_BadStairs : Xc K mg "BadStairs"
  x_BadStart : Xc K mg "BadStart"
  x_NotJoined : Xc K mg "NotJoined"
  u_BadBody : PySem.W.exmOne K (.ref x_BadBody.C) (.ref x_GapError.C) = some true
  u_BadBy : PySem.W.exmOne K (.ref x_BadBy.C) (.ref x_GapError.C) = some true
  u_BadEnd : PySem.W.exmOne K (.ref x_BadEnd.C) (.ref x_GapError.C) = some true
  u_BadForm : PySem.W.exmOne K (.ref x_BadForm.C) (.ref x_GapError.C) = some true
  u_BadLeast : PySem.W.exmOne K (.ref x_BadLeast.C) (.ref x_GapError.C) = some true
  u_BadPlace : PySem.W.exmOne K (.ref x_BadPlace.C) (.ref x_GapError.C) = some true
  u_BadStairs : PySem.W.exmOne K (.ref x_BadStairs.C) (.ref x_GapError.C) = some true
  u_BadStart : PySem.W.exmOne K (.ref x_BadStart.C) (.ref x_GapError.C) = some true
  u_NotJoined : PySem.W.exmOne K (.ref x_NotJoined.C) (.ref x_GapError.C) = some true
  C : Addr
  fI : Addr
  dI : FuncData
  cls : Cls K C
  gC : mg "Form" = some (.ref C)
  nF_start : NoAttr K C "start"
  nF_end : NoAttr K C "end"
  nF_stairs : NoAttr K C "stairs"
  nF_least : NoAttr K C "least"
  nF_by : NoAttr K C "by"
  nB : NoAttr K C "blocks"
  M : Mk K C fI
  FI : Fun K "__init__" "Form.__init__" S_q_Form_init fI dI
  bI : Binds K dI ["self", "start", "end", "stairs", "least", "by"] []
  f_eq : Addr
  d_eq : FuncData
  F_eq : Fun K "__eq__" "Form.__eq__" S_q_Form_eq f_eq d_eq
  b_eq : Binds K d_eq ["self", "other"] []
  o_eq : PySem.W.findIn K (.ref C) "__eq__" = some (some (.ref f_eq))
  i_eq : PySem.W.isFn K (.ref f_eq) = true
  neC : PySem.W.findIn K (.ref C) "__ne__" = some (some (.builtin "object.__ne__"))
  f_mul : Addr
  d_mul : FuncData
  F_mul : Fun K "__mul__" "Form.__mul__" S_q_Form_mul f_mul d_mul
  b_mul : Binds K d_mul ["self", "other"] []
  o_mul : PySem.W.findIn K (.ref C) "__mul__" = some (some (.ref f_mul))
  i_mul : PySem.W.isFn K (.ref f_mul) = true
  f_rmul : Addr
  d_rmul : FuncData
  F_rmul : Fun K "__rmul__" "Form.__rmul__" S_q_Form_rmul f_rmul d_rmul
  b_rmul : Binds K d_rmul ["self", "other"] []
  o_rmul : PySem.W.findIn K (.ref C) "__rmul__" = some (some (.ref f_rmul))
  i_rmul : PySem.W.isFn K (.ref f_rmul) = true
  iA : PySem.W.findIn K (.ref C) "__class__" = some (some (.builtin "object.__class__"))
  iN : PySem.W.specialIn K (.builtin "object.__class__") "__get__" = some (some (.builtin "getset_descriptor.__get__"))
  iT : PySem.W.takesIn K (.builtin "object.__class__") = some true
  iM : PySem.W.mroIn K C (.type "object") = some true
  kD : PySem.W.kitOne K (.ref C) (.ref C) = some true
  kNoneType : PySem.W.kitOne K (.type "NoneType") (.ref C) = some false
  ktuple : PySem.W.kitOne K (.type "tuple") (.ref C) = some false
  kstr : PySem.W.kitOne K (.type "str") (.ref C) = some false
  kint : PySem.W.kitOne K (.type "int") (.ref C) = some false
  kbool : PySem.W.kitOne K (.type "bool") (.ref C) = some false
  klist : PySem.W.kitOne K (.type "list") (.ref C) = some false
  kdict : PySem.W.kitOne K (.type "dict") (.ref C) = some false
  kb_tuple : PySem.W.kitOne K (.ref C) (.type "tuple") = some false
  kb_str : PySem.W.kitOne K (.ref C) (.type "str") = some false
  kb_int : PySem.W.kitOne K (.ref C) (.type "int") = some false
  kb_bool : PySem.W.kitOne K (.ref C) (.type "bool") = some false
  kb_list : PySem.W.kitOne K (.ref C) (.type "list") = some false
  kb_dict : PySem.W.kitOne K (.ref C) (.type "dict") = some false
  sfC : PySem.W.selfFirst K C = true
  e_BadBody : PySem.W.kitOne K (.ref x_BadBody.C) (.ref x_BadBody.C) = some true
  e_BadBy : PySem.W.kitOne K (.ref x_BadBy.C) (.ref x_BadBy.C) = some true
  e_BadEnd : PySem.W.kitOne K (.ref x_BadEnd.C) (.ref x_BadEnd.C) = some true
  e_BadForm : PySem.W.kitOne K (.ref x_BadForm.C) (.ref x_BadForm.C) = some true
  e_BadLeast : PySem.W.kitOne K (.ref x_BadLeast.C) (.ref x_BadLeast.C) = some true
  e_BadPlace : PySem.W.kitOne K (.ref x_BadPlace.C) (.ref x_BadPlace.C) = some true
  e_BadStairs : PySem.W.kitOne K (.ref x_BadStairs.C) (.ref x_BadStairs.C) = some true
  e_BadStart : PySem.W.kitOne K (.ref x_BadStart.C) (.ref x_BadStart.C) = some true
  e_NotJoined : PySem.W.kitOne K (.ref x_NotJoined.C) (.ref x_NotJoined.C) = some true
  n_BadBody : PySem.W.kitOne K (.type "NoneType") (.ref x_BadBody.C) = some false
  n_BadBy : PySem.W.kitOne K (.type "NoneType") (.ref x_BadBy.C) = some false
  n_BadEnd : PySem.W.kitOne K (.type "NoneType") (.ref x_BadEnd.C) = some false
  n_BadForm : PySem.W.kitOne K (.type "NoneType") (.ref x_BadForm.C) = some false
  n_BadLeast : PySem.W.kitOne K (.type "NoneType") (.ref x_BadLeast.C) = some false
  n_BadPlace : PySem.W.kitOne K (.type "NoneType") (.ref x_BadPlace.C) = some false
  n_BadStairs : PySem.W.kitOne K (.type "NoneType") (.ref x_BadStairs.C) = some false
  n_BadStart : PySem.W.kitOne K (.type "NoneType") (.ref x_BadStart.C) = some false
  n_NotJoined : PySem.W.kitOne K (.type "NoneType") (.ref x_NotJoined.C) = some false
  q_is_number : Df K mg "is_number" S_q_is_number ["thing"]
  q_is_number_pair : Df K mg "is_number_pair" S_q_is_number_pair ["thing"]
  q_check_by : Df K mg "check_by" S_q_check_by ["by"]
  q_is_size : Df K mg "is_size" S_q_is_size ["thing"]
  q_is_body : Df K mg "is_body" S_q_is_body ["thing"]
  q_is_corner : Df K mg "is_corner" S_q_is_corner ["thing"]
  q_check_body : Df K mg "check_body" S_q_check_body ["body"]
  q_is_above : Df K mg "is_above" S_q_is_above ["one", "other"]
  q_lesser : Df K mg "lesser" S_q_lesser ["one", "other"]
  q_encloses : Df K mg "encloses" S_q_encloses ["corner", "inner"]
  q_is_stairs : Df K mg "is_stairs" S_q_is_stairs ["thing"]
  q_is_step : Df K mg "is_step" S_q_is_step ["corner", "further"]
  q_check_stairs : Df K mg "check_stairs" S_q_check_stairs ["stairs"]
  q_corner_order : Df K mg "corner_order" S_q_corner_order ["corner"]
  q_stairs_of : Df K mg "stairs_of" S_q_stairs_of ["corners"]
  q_has : Df K mg "has" S_q_has ["stairs", "corner"]
  q_both : Df K mg "both" S_q_both ["one", "other"]
  q_met : Df K mg "met" S_q_met ["one", "other"]
  q_moved_item : Df K mg "moved_item" S_q_moved_item ["item", "by"]
  q_moved : Df K mg "moved" S_q_moved ["stairs", "least", "by"]
  q_is_any_place : Df K mg "is_any_place" S_q_is_any_place ["thing"]
  q_greatest : Df K mg "greatest" S_q_greatest ["stairs", "index"]
  q_grown : Df K mg "grown" S_q_grown ["least", "by", "size"]
  q_plain_by : Df K mg "plain_by" S_q_plain_by ["stairs", "least", "by", "index"]
  q_body_behind : Df K mg "body_behind" S_q_body_behind ["form", "body"]
  q_followed : Df K mg "followed" S_q_followed ["one", "other"]
  q_still_at : Df K mg "still_at" S_q_still_at ["place", "stairs"]
  q_check_form : Df K mg "check_form" S_q_check_form ["form"]
  q_check_any_place : Df K mg "check_any_place" S_q_check_any_place ["place"]
  q_end_size : Df K mg "end_size" S_q_end_size ["form", "body"]
  q_still : Df K mg "still" S_q_still ["place", "stairs"]
  l_begun : Df K mg "_law_begun" S_l_begun ["script"]
  l_mixed : Df K mg "_law_mixed" S_l_mixed ["draw"]
  l_take : Df K mg "_law_take" S_l_take ["draw", "many"]
  l_pick : Df K mg "_law_pick" S_l_pick ["draw", "some"]
  l_caught : Df K mg "_law_caught" S_l_caught ["task"]
  l_least : Df K mg "_law_least" S_l_least ["one", "other"]
  l_holds : Df K mg "_law_holds" S_l_holds ["corner", "body"]
  l_rank : Df K mg "_law_rank" S_l_rank ["item"]
  l_staircase : Df K mg "_law_staircase" S_l_staircase ["corners"]
  l_held : Df K mg "_law_held" S_l_held ["stairs", "body"]
  l_size : Df K mg "_law_size" S_l_size ["draw"]
  l_beside : Df K mg "_law_beside" S_l_beside ["draw", "corners"]
  l_few : Df K mg "_law_few" S_l_few ["draw", "most"]
  l_grow : Df K mg "_law_grow" S_l_grow ["least", "by", "body"]
  l_few_bodies : Df K mg "_law_few_bodies" S_l_few_bodies ["many"]
  l_raw : Df K mg "_law_raw" S_l_raw ["draw"]
  q_law : Df K mg "law" S_q_law ["script"]
end G21
set_option Elab.async false
set_option linter.all false
set_option maxRecDepth 100000
set_option maxHeartbeats 4000000
/-! sorted of a list of tuples of d ints each, whatever the ints are -/
namespace GS
open PySem PySem.Spec PyProof.Rows L2
section
variable {prog : Program} {w : World} {A : Around} {E : Value → Shared → Prop} {s : Shared} {Q : Bool → Shared → Prop}
theorem lexAt {b : Bool} : ∀ {xs ys : List Value} {ns ms : List Int} (i : Nat), IntsAre xs ns → IntsAre ys ms → ns.length = ms.length → Q (HT.lexLt ns ms) s → PySem.W.KatLex prog w A b false Q (xs.zip ys) i s
  | [], [], _, _, _, .nil, .nil, _, h => PySem.W.kat_nil (by rw [HT.lexLt_nil_nil] at h; exact h)
  | _ :: _, [], _, _, _, .cons _ _ _, .nil, hl, _ => by simp at hl
  | [], _ :: _, _, _, _, .nil, .cons _ _ _, hl, _ => by simp at hl
  | _ :: xs, _ :: ys, _, _, i, .cons (ns := ns) p t hx, .cons (ns := ms) q u hy, hl, h => by
    have hl2 : ns.length = ms.length := Nat.succ.inj hl
    rw [HT.lexLt_cons] at h
    rw [List.zip_cons_cons]
    refine PySem.W.kat_cons (wpAny_eqBool_int ?_)
    by_cases e : p = q
    · rw [if_pos e] at h
      rw [beq_iff_eq.mpr e]
      exact PySem.W.kat_yes (lexAt (i + 1) hx hy hl2 h)
    · rw [if_neg e] at h
      rw [beq_eq_false_iff_ne.mpr e]
      exact PySem.W.kat_no (TS.oneLt_ints _ h)
/-- the values are tuples of d ints -/
def Tups (h : Heap) (d : Nat) (vs : List Value) : Prop := ∀ v ∈ vs, ∃ ns, TS.TupInts h v ns ∧ ns.length = d
theorem Tups.stay {h h' : Heap} {d : Nat} {vs : List Value} (x : Tups h d vs) (k : ∀ b o, h.get? b = some o → o.cls = .type "tuple" → h'.get? b = some o) : Tups h' d vs := fun v hv => by
  obtain ⟨ns, t, e⟩ := x v hv
  exact ⟨ns, t.keeps k, e⟩
theorem heads {h : Heap} {d : Nat} (hd : 1 ≤ d) : ∀ vs : List Value, Tups h d vs → ∃ fs, PySem.W.KatTups h vs fs ∧ fs.length = vs.length ∧ ∀ f ∈ fs, ∃ n t, f = Value.int n t
  | [], _ => ⟨[], PySem.W.KatTups.nil, rfl, fun f hf => absurd hf (by simp)⟩
  | v :: vs, x => by
    obtain ⟨fs, k, hl, hi⟩ := heads hd vs fun u hu => x u (List.mem_cons_of_mem _ hu)
    obtain ⟨ns, ⟨a, xs, rfl, ⟨o, ho, hc, n, hdt⟩, i⟩, hn⟩ := x v (List.mem_cons_self ..)
    have hz : xs.toList.length = d := by rw [i.length, hn]
    cases q : xs.toList with
    | nil =>
      rw [q] at hz
      simp at hz
      omega
    | cons y ys =>
      have my : y ∈ xs.toList := by
        rw [q]
        exact List.mem_cons_self ..
      obtain ⟨m, t, hy⟩ := i.all y my
      refine ⟨y :: fs, PySem.W.KatTups.cons ho hc hdt ?_ k, by rw [List.length_cons, List.length_cons, hl], fun f hf => ?_⟩
      · have z : xs.toList[0]? = some y := by rw [q] <;> rfl
        simpa using z
      · rcases List.mem_cons.mp hf with e | hf
        · exact ⟨m, t, e.trans hy⟩
        · exact hi f hf
/-- by their ints -/
def keyL (h : Heap) (v : Value) : List Int := TS.intsOf h v
theorem cmpL {d : Nat} {vs : List Value} (k : Value → List Int) (x : ∀ v ∈ vs, TS.TupInts s.heap v (k v) ∧ (k v).length = d) : SrtO.Cmp prog w A s (tuples' true) (fun p => p.1 ∈ vs) (SrtO.lt2 fun v u => HT.lexLt (k v) (k u)) := by
  intro p q hp hq
  obtain ⟨tp, lp⟩ := x _ hp
  obtain ⟨tq, lq⟩ := x _ hq
  show wpAny (model prog w) A (keyLt' (tuples' true) p.1 q.1) (fun r s' => s' = s ∧ r = HT.lexLt (k p.1) (k q.1)) _ s
  generalize k p.1 = ns at tp lp ⊢
  generalize k q.1 = ms at tq lq ⊢
  obtain ⟨a, xs, e1, ⟨o, ho, hc, n, hdt⟩, i⟩ := tp
  obtain ⟨a', ys, e2, ⟨o', ho', hc', n', hdt'⟩, i'⟩ := tq
  rw [e1, e2]
  refine PySem.W.kat_lt ho hdt ho' hdt' ?_
  have z1 : xs.size = d := by rw [← lp, ← i.length, Array.length_toList]
  have z2 : ys.size = d := by rw [← lq, ← i'.length, Array.length_toList]
  have sz : decide (xs.size < ys.size) = false := decide_eq_false (by omega)
  rw [sz]
  exact lexAt 0 i i' (by omega) ⟨rfl, rfl⟩
theorem sortableL {a : Addr} {d : Nat} {vs : List Value} (hd : 1 ≤ d) (h0 : 0 < vs.length) (k : Value → List Int) (x : ∀ v ∈ vs, TS.TupInts s.heap v (k v) ∧ (k v).length = d) (ha : ∀ o, s.heap.get? a = some o → o.cls ≠ .type "tuple") :
    SrtO.SortableO prog w A s a vs fun v u => HT.lexLt (k v) (k u) := by
  intro h' keep
  have x' : ∀ v ∈ vs, TS.TupInts h' v (k v) ∧ (k v).length = d := fun v hv => ⟨(x v hv).1.keeps fun b o e c => keep b o (fun z => ha o (by rw [← z]; exact e) c) e, (x v hv).2⟩
  obtain ⟨fs, h1, h2, h3⟩ := heads (h := h') hd vs fun v hv => ⟨_, x' v hv⟩
  refine ⟨tuples' true, fun Q E hq => ?_, cmpL (s := { s with heap := h' }) k x'⟩
  refine PySem.W.kat_kind (T := .type "int") h1 (by omega) (fun f hm => ?_) (by rfl) hq
  obtain ⟨n, t, rfl⟩ := h3 f hm
  exact PySem.W.Looks.of_pure rfl
end
/-! ### over the abstract heap -/
def rSortL (K : PySem.W.Frag) (d : Nat) : List V → Hp → VK → Prop := fun vs H Q => ∃ (a : Addr) (xs : List V), vs = [V.ref a] ∧ SqL K H a xs ∧ (∀ x ∈ xs, ∃ ns, TupI K H x ns ∧ ns.length = d) ∧
  ∀ (ys : List V) (p : Addr), ys.Perm xs → ys.Pairwise (fun x y => ∀ n m, TupI K H x n → TupI K H y m → HT.lexLt m n = false) → H p = none → Q (.ref p) (upd H p (.lst ys))
theorem cr_sortL {X : Cx} {d : Nat} (hd : 1 ≤ d) : CallR X (.builtin "sorted") (rSortL X.K d) := by
  intro pins s σ H vs us Q I r h
  obtain ⟨a, xs, rfl, hs, hx, q⟩ := h
  obtain ⟨its, rv, hl, hz⟩ := I.list hs
  rw [Vals.ref1 r]
  obtain ⟨e1, e2⟩ := bkV_refs rv fun x m => by
    obtain ⟨ns, ⟨t, e, _⟩, _⟩ := hx x m
    exact ⟨t, e⟩
  have ti : ∀ v ∈ its, TS.TupInts s.heap v (TS.intsOf s.heap v) ∧ (TS.intsOf s.heap v).length = d := fun v hv => by
    obtain ⟨t, rfl⟩ := e2 v hv
    have hm : V.ref t ∈ xs := by
      rw [e1]
      exact List.mem_map.mpr ⟨_, hv, rfl⟩
    obtain ⟨ns, ⟨t', e, ht⟩, hn⟩ := hx _ hm
    cases e
    have z := tupI_raw I ht
    rw [z.ints]
    exact ⟨z, hn⟩
  refine SrtO.sorted_ord (NtL.swo_lexL (TS.intsOf s.heap)) hl.isList (by rw [← rv.length]; exact hz) (fun h2 h₁ b hb kk => ?_) fun out h1 h2 => ?_
  · refine sortableL (s := { s with heap := h₁ }) hd (by omega) _ (fun v hv => ⟨(ti v hv).1.keeps fun b' o e _ => (kk b' o e).2, (ti v hv).2⟩) fun o e c => ?_
    cases hb.symm.trans e
    exact absurd (Value.type.inj c) (by decide)
  · obtain ⟨ep, he'⟩ := PyProof.Rows.sortedAll_at s.heap its out.toArray
    have pm : out.Perm its := h2.perm
    have h3 : ∀ u ∈ out, ∃ a, u = Value.ref a := fun u hu => e2 u (pm.mem_iff.mp hu)
    have hp : (out.map bkV).Perm xs := by
      rw [e1]
      exact pm.map bkV
    have hlen : (out.map bkV).length ≤ sizeLine := by
      rw [hp.length_eq]
      exact hz
    refine ⟨.ref _, upd H (s.heap.objs.size + 1) (.lst (out.map bkV)), I.laid (t' := s.toks) (fun _ _ => PyProof.Rows.sortedAll_old) (Nat.le_succ _) ⟨hlen, out, ep, bkV_vals h3, he'⟩, rfl, q _ _ hp ?_ (I.hok.fresh (Nat.le_succ _))⟩
    rw [List.pairwise_map]
    refine List.Pairwise.imp (fun {u v} huv n m hn hm => ?_) h1
    obtain ⟨t, et, ht⟩ := hn
    obtain ⟨t', et', ht'⟩ := hm
    have i1 : TS.intsOf s.heap u = n := by
      rw [bkV_ref et]
      exact (tupI_raw I ht).ints
    have i2 : TS.intsOf s.heap v = m := by
      rw [bkV_ref et']
      exact (tupI_raw I ht').ints
    rw [← i1, ← i2]
    exact huv
end GS
set_option Elab.async false
set_option linter.all false
set_option maxRecDepth 100000
set_option maxHeartbeats 4000000
/-! len of a set of tuples of ints -/
namespace GS
open PySem PySem.Spec PyProof.Rows L2
def rLenT (K : PySem.W.Frag) (P : Program) (w : World) : List V → Hp → VK → Prop := fun xs H Q => ∃ (a : Addr) (L : List (Addr × List Int)), xs = [.ref a] ∧ H a = some (SetTO P w a L) ∧ (∀ p ∈ L, SqT K H p.1 (p.2.map V.int)) ∧ ((L.map (·.2)).Nodup → Q (.int L.length) H)
theorem call_lenT {X : Cx} : CallR X (.builtin "len") (rLenT X.K X.prog X.w) := by
  intro pins s σ H xs us Q I r h
  obtain ⟨a, L, rfl, ha, hk, q⟩ := h
  have R0 : SetT0 X.prog X.w s.heap a L := (I.hok a _ ha).1
  obtain ⟨es, ep, t, R⟩ := R0.full fun p hp => I.isT (hk p hp)
  rw [Vals.ref1 r]
  obtain ⟨o, ho, hex, hd⟩ := R.ob
  have hz : es.size = L.length := by
    rw [← Array.length_toList, R.rows]
    unfold rowsOf
    rw [List.length_map]
  have few := R.few
  refine call_len_set ho hex hd R.fits (by omega) ⟨.int L.length, H, I.tok _, ⟨_, by rw [hz]⟩, q R.nd⟩
/-- no repeats, each in the other: not longer -/
theorem nodup_le {α : Type} [DecidableEq α] : ∀ {l m : List α}, l.Nodup → (∀ x ∈ l, x ∈ m) → l.length ≤ m.length
  | [], _, _, _ => Nat.zero_le _
  | x :: l, m, hl, h => by
    obtain ⟨h1, h2⟩ := List.nodup_cons.mp hl
    have hm : x ∈ m := h x (List.mem_cons_self ..)
    have q := nodup_le (m := m.erase x) h2 fun y hy => (List.mem_erase_of_ne (fun z => h1 (by rw [← z]; exact hy))).mpr (h y (List.mem_cons_of_mem _ hy))
    rw [List.length_erase_of_mem hm] at q
    have p := List.length_pos_of_mem hm
    rw [List.length_cons]
    omega
theorem nodup_len {α : Type} [DecidableEq α] {l m : List α} (hl : l.Nodup) (hm : m.Nodup) (h1 : ∀ x ∈ l, x ∈ m) (h2 : ∀ x ∈ m, x ∈ l) : l.length = m.length :=
  Nat.le_antisymm (nodup_le hl h1) (nodup_le hm h2)
end GS
set_option Elab.async false
set_option linter.all false
set_option maxRecDepth 100000
set_option maxHeartbeats 4000000
/-! lists and tuples of ints, lists of tuples of ints, as data that == compares -/
namespace GS
open PySem PySem.Spec PyProof.Rows L2
def dIs (ns : List Int) : List PyData := ns.map PyData.int
def dT (ns : List Int) : PyData := .tuple (dIs ns)
theorem lay_is : ∀ ns : List Int, PyData.canLayAll0 (dIs ns) = true
  | [] => by simp [dIs, PyData.canLayAll0]
  | n :: ns => by
    have h := lay_is ns
    unfold dIs at h ⊢
    rw [List.map_cons]
    simp only [PyData.canLayAll0, PyData.canLay0, Bool.true_and]
    exact h
theorem deep_is : ∀ ns : List Int, PyData.depthAll (dIs ns) = 0
  | [] => by simp [dIs, PyData.depthAll]
  | n :: ns => by
    have h := deep_is ns
    unfold dIs at h ⊢
    rw [List.map_cons]
    simp only [PyData.depthAll, PyData.depth]
    omega
theorem eqv_is : ∀ ns ms : List Int, PyData.eqvAll (dIs ns) (dIs ms) = decide (ns = ms)
  | [], [] => by simp [dIs, PyData.eqvAll]
  | [], m :: ms => by simp [dIs, PyData.eqvAll]
  | n :: ns, [] => by simp [dIs, PyData.eqvAll]
  | n :: ns, m :: ms => by
    have h := eqv_is ns ms
    unfold dIs at h ⊢
    rw [List.map_cons, List.map_cons]
    simp only [PyData.eqvAll, PyData.eqv]
    rw [h]
    by_cases e : n = m
    · subst e
      simp
    · rw [beq_eq_false_iff_ne.mpr e, Bool.false_and]
      exact (decide_eq_false fun z => e (List.cons.inj z).1).symm
theorem shaped_is (ns : List Int) : SeqAt.shaped (.list (dIs ns)) = true := by
  show (PyData.canLay0 (.list (dIs ns)) && decide (PyData.depth (.list (dIs ns)) ≤ 64)) = true
  simp only [PyData.canLay0, PyData.depth, deep_is, lay_is, Bool.true_and, decide_eq_true_eq]
  omega
theorem shaped_t (ns : List Int) : SeqAt.shaped (dT ns) = true := by
  show (PyData.canLay0 (.tuple (dIs ns)) && decide (PyData.depth (.tuple (dIs ns)) ≤ 64)) = true
  simp only [PyData.canLay0, PyData.depth, deep_is, lay_is, Bool.true_and, decide_eq_true_eq]
  omega
theorem lay_ts : ∀ L : List (List Int), PyData.canLayAll0 (L.map dT) = true
  | [] => by simp [PyData.canLayAll0]
  | n :: ns => by
    have h := lay_ts ns
    rw [List.map_cons]
    simp only [dT, PyData.canLayAll0, PyData.canLay0, lay_is, Bool.true_and]
    exact h
theorem deep_ts : ∀ L : List (List Int), PyData.depthAll (L.map dT) ≤ 1
  | [] => by simp [PyData.depthAll]
  | n :: ns => by
    have h := deep_ts ns
    rw [List.map_cons]
    have e : PyData.depth (dT n) = 1 := by
      simp only [dT, PyData.depth, deep_is]
    simp only [PyData.depthAll, e]
    omega
theorem shaped_ts (L : List (List Int)) : SeqAt.shaped (.list (L.map dT)) = true := by
  have h := deep_ts L
  have h3 : PyData.depth (.list (L.map dT)) ≤ 64 := by
    simp only [PyData.depth]
    omega
  have h4 : PyData.canLay0 (.list (L.map dT)) = true := by
    simp only [PyData.canLay0]
    exact lay_ts L
  unfold SeqAt.shaped
  rw [h4, decide_eq_true h3]
  rfl
theorem eqv_t (ns ms : List Int) : PyData.eqv (dT ns) (dT ms) = decide (ns = ms) := by
  simp only [dT, PyData.eqv, eqv_is]
theorem eqv_ts : ∀ L M : List (List Int), PyData.eqvAll (L.map dT) (M.map dT) = decide (L = M)
  | [], [] => by simp [PyData.eqvAll]
  | [], m :: ms => by simp [PyData.eqvAll]
  | n :: ns, [] => by simp [PyData.eqvAll]
  | n :: ns, m :: ms => by
    have h := eqv_ts ns ms
    rw [List.map_cons, List.map_cons]
    simp only [PyData.eqvAll, eqv_t]
    rw [h]
    by_cases e : n = m
    · subst e
      simp
    · rw [decide_eq_false e, Bool.false_and]
      exact (decide_eq_false fun z => e (List.cons.inj z).1).symm
theorem eqv_lis (ns ms : List Int) : PyData.eqv (.list (dIs ns)) (.list (dIs ms)) = decide (ns = ms) := by
  simp only [PyData.eqv, eqv_is]
theorem eqv_lts (L M : List (List Int)) : PyData.eqv (.list (L.map dT)) (.list (M.map dT)) = decide (L = M) := by
  simp only [PyData.eqv, eqv_ts]
section
variable {K : PySem.W.Frag} {H : Hp}
theorem dp_ints : ∀ ns : List Int, DpAll K H (ns.map V.int) (dIs ns)
  | [] => .nil
  | n :: ns => .cons (.int n) (dp_ints ns)
theorem dp_l {a : Addr} {ns : List Int} (h : SqL K H a (ns.map V.int)) : Dp K H (.ref a) (.list (dIs ns)) := .lst h (dp_ints ns)
theorem dp_t {a : Addr} {ns : List Int} (h : SqT K H a (ns.map V.int)) : Dp K H (.ref a) (dT ns) := .tup h (dp_ints ns)
/-- the addresses are those of tuples of ints -/
theorem dp_refs {α : Type} {f : α → List Int} {F : Addr → α → Prop} (hF : ∀ a x, F a x → H a = some (.tup ((f x).map V.int))) : ∀ {rs : List Addr} {xs : List α}, Paired F rs xs → DpAll K H (rs.map V.ref) (xs.map fun x => dT (f x))
  | _, _, .nil => .nil
  | _, _, .cons r t => .cons (dp_t (SqT.of (hF _ _ r))) (dp_refs hF t)
theorem dp_lrefs {α : Type} {f : α → List Int} {F : Addr → α → Prop} (hF : ∀ a x, F a x → H a = some (.tup ((f x).map V.int))) {a : Addr} {rs : List Addr} {xs : List α} (h : SqL K H a (rs.map V.ref)) (p : Paired F rs xs) : Dp K H (.ref a) (.list ((xs.map f).map dT)) := by
  rw [List.map_map]
  exact .lst h (dp_refs hF p)
end
end GS
set_option Elab.async false
set_option linter.all false
set_option maxRecDepth 100000
set_option maxHeartbeats 4000000
/-! set(xs) of a list of ints, as a set that may be sorted -/
namespace GS
open PySem PySem.Spec PySem.W PySem.Calls PyProof.Rows L2
/-- a set as set.__new__ leaves it -/
abbrev eS (w : World) : Obj := { cls := .type "set", dict := none, data := .set #[] 0 (.fresh 0 0 (!w.params.followText "set-order")) }
section
variable {P : Program} {w : World} {A : Around} {E : Value → Shared → Prop} {s : Shared}
theorem call_set_listI {l : Addr} {xs : Array Value} (ns : List Int) {Q : Value → Shared → Prop} (calm : A.handled = none) (isL : s.heap.IsList l xs) (hI : IntsAre xs.toList ns) (few : ns.length + 1 < scanBound)
    (then_ : ∀ (h' : Heap) (tk c : Nat), SetR w h' s.heap.objs.size (fun j => decide (j ∈ ns)) c → c ≤ ns.length → (∀ b o, s.heap.get? b = some o → h'.get? b = some o) → Q (.ref s.heap.objs.size) { s with heap := h', toks := tk }) :
    wpAny (model P w) A (call (.type "set") [.ref l]) Q E s := by
  have size_ : xs.size = ns.length := by
    rw [← Array.length_toList]
    exact IntsAre.length hI
  have ⟨c, tl, mro_⟩ := F.called_set.mro
  have made_ := F.called_set.made
  have sub_ := F.called_set.sub
  refine wpAny_call (codeAny_of_tree (?_ : wpAny _ _ (callAny (.type "set") _) _ _ _))
  refine wpAny_pure ⟨Code.quiet_builtin _ (by decide +kernel), codeAny_builtin F.entry_type_call ?_⟩
  rw [Around.under_plain (weight_type_call_type "set" [.ref l] []) rfl]
  have k1 := F.called_set.notType
  have k2 := F.called_set.canCreate
  have k3 := F.typeCall_set_1 (.ref l)
  repeat any_goals (first | assumption | wp_step)
  refine codeAny_mono (code_set_led1 (.ref l) (E := E) (Q₁ := fun x s₁ => x = .ref s.heap.objs.size ∧ s₁ = { s with heap := s.heap.push (eS w) }) ⟨rfl, rfl⟩) fun r s₁ hr => ?_
  cases r with
  | error e => exact hr
  | ok fl =>
    cases fl with
    | next => exact hr.elim
    | brk => exact hr.elim
    | cont => exact hr.elim
    | ret x =>
      obtain ⟨rfl, rfl⟩ := hr
      have new_ : (s.heap.push (eS w)).get? s.heap.objs.size = some (eS w) := Heap.get?_push_size _ rfl
      have ty_ : Shared.TypeIs { s with heap := s.heap.push (eS w) } (.ref s.heap.objs.size) "set" := ⟨_, new_, rfl⟩
      have i1 := F.called_set.init.lookup
      have i2 := F.called_set.init.bind (.ref s.heap.objs.size)
      repeat any_goals (first | assumption | wp_step)
      refine codeAny_mono (codeAny_call_builtin (R := wants (fun r s₂ => r = .none ∧ ∃ h' tk c, s₂ = { s with heap := h', toks := tk } ∧ SetR w h' s.heap.objs.size (fun j => decide (j ∈ ns)) c ∧ c ≤ ns.length ∧ ∀ b o, s.heap.get? b = some o → h'.get? b = some o) E)
        F.called_set.init.plain F.entry_set_init (check_set_init_1 ty_ ?_)) fun r₂ s₂ hr₂ => ?_
      · obtain ⟨⟨oc, od, odt, osl⟩, hol, hcl, nl, hdl⟩ := isL
        dsimp only at hcl hdl
        subst hcl hdl
        have hol2 : (s.heap.push (eS w)).get? l = some { cls := .type "list", dict := od, data := .seq xs nl, slots := osl } := Heap.get?_push_of_some _ hol
        have j1 := F.sub_list_set
        have j2 := F.sub_list_frozenset
        have j3 : (Value.type "list" == Value.type "dict") = false := by decide
        have isL1 : (s.heap.push (eS w)).IsList l xs := ⟨_, hol2, rfl, nl, rfl⟩
        unfold Builtin.«set.__init__» noKeywords Builtin.Frozenset.updateFrom
        generalize hP : pyIter = PI
        wp_walk
        subst hP
        refine wpAny_pyIter_list isL1 (wpAny_bind (wpAny_runValue ?_))
        have lt_ : l < s.heap.objs.size := Heap.lt_size hol
        have calm3 : A.in1.in1.in1.handled = none := calm
        have sz_ : (s.heap.push (eS w)).objs.size = s.heap.objs.size + 1 := Heap.size_push ..
        have ne_ : l ≠ (s.heap.push (eS w)).objs.size := fun z => by
          rw [z, sz_] at lt_
          exact absurd lt_ (Nat.not_lt.mpr (Nat.le_succ _))
        have out_ : s.heap.objs.size ∉ [(s.heap.push (eS w)).objs.size, l] := fun z => by
          rcases List.mem_cons.mp z with z | z
          · rw [sz_] at z
            exact absurd z (Nat.ne_of_lt (Nat.lt_succ_self _))
          · exact absurd (List.mem_singleton.mp z) (Nat.ne_of_gt lt_)
        have val_ : ∀ (i : Nat) (v : Value), xs[i]? = some v → ∃ k t, ns[i]? = some k ∧ v = .int k t := fun i v hv => by
          have hi : i < ns.length := by
            rw [← size_]
            exact (Array.getElem?_eq_some_iff.mp hv).1
          obtain ⟨t, e⟩ := PyProof.Rows.IntsAre.int_at hI i v (by rw [Array.getElem?_toList, hv])
          refine ⟨ns[i], t, List.getElem?_eq_getElem hi, e.trans ?_⟩
          rw [List.getD_eq_getElem?_getD, List.getElem?_eq_getElem hi]
          rfl
        refine set_update_ints ((Walks.list calm3 _ l ne_ xs).toS) s.heap.objs.size out_ ns size_ few val_ (xs.size - 0) 0 _ (by omega) (Nat.zero_le _) ⟨⟨_, Heap.get?_push_size _ rfl, rfl, rfl⟩, (isL1.push _)⟩ ?first ?last
        case first => exact ⟨0, Nat.le_refl 0, setR_new_at (Heap.get?_push_of_some _ new_)⟩
        case last =>
          intro s' c' mv hc' hS'
          obtain ⟨h', g2, d', tk', os'⟩ := s'
          obtain rfl : g2 = s.gens := mv.gens
          obtain rfl : d' = s.drawn := mv.drawn
          obtain rfl : os' = s.os := mv.os
          rw [size_] at hc'
          refine wpAny_pure (wpAny_pure ⟨rfl, h', tk', c', rfl, hS', hc', fun b o e => ?_⟩)
          have hb0 : b < s.heap.objs.size := Heap.lt_size e
          refine mv.heap b o (fun z => ?_) (Heap.get?_push_of_some _ (Heap.get?_push_of_some _ e))
          rcases List.mem_cons.mp z with z | z
          · exact absurd z (Nat.ne_of_lt hb0)
          · have z2 : b = (s.heap.push (eS w)).objs.size := List.mem_singleton.mp z
            rw [z2, sz_] at hb0
            exact absurd hb0 (Nat.not_lt.mpr (Nat.le_succ _))
      · cases r₂ with
        | error e => exact hr₂
        | ok fl₂ =>
          cases fl₂ with
          | next => exact hr₂.elim
          | brk => exact hr₂.elim
          | cont => exact hr₂.elim
          | ret r =>
            obtain ⟨rfl, h', tk, c', rfl, hS', hc', hk'⟩ := hr₂
            repeat any_goals (first | assumption | wp_step)
            exact then_ _ _ _ hS' hc' hk'
end
/-- over the abstract heap -/
def rSetL (K : Frag) (w : World) : List V → Hp → VK → Prop := fun xs H Q => ∃ (l : Addr) (ns : List Int), xs = [V.ref l] ∧ SqL K H l (ns.map V.int) ∧ ns.length < 1000 ∧ ∀ p n, H p = none → n ≤ ns.length → Q (.ref p) (upd H p (SetO w p (fun j => decide (j ∈ ns)) n))
theorem cr_setL {X : Cx} (hc : X.calm = true) : CallR X (.type "set") (rSetL X.K X.w) := by
  intro pins s σ H xs us Q I r h
  obtain ⟨l, ns, rfl, hl, hf, q⟩ := h
  obtain ⟨its, rv, pl, hz⟩ := I.list hl
  rw [Vals.ref1 r]
  have hn : H s.heap.objs.size = none := I.hok.fresh (Nat.le_refl _)
  refine call_set_listI (P := X.prog) ns (I.ok.hd hc) pl.isList (by simpa using rv.ints) (by unfold scanBound; omega) fun h' tk c R hcn k => ?_
  exact ⟨.ref s.heap.objs.size, upd H s.heap.objs.size (SetO X.w s.heap.objs.size _ c), I.laid (t' := tk) k (Nat.le_refl _) (setO_new R), rfl, q _ c hn hcn⟩
end GS
set_option Elab.async false
set_option linter.all false
set_option maxRecDepth 100000
set_option maxHeartbeats 4000000
/-! an exception that a clause has caught, kept under another name -/
namespace GS
open PySem PySem.Spec PyProof.Rows L2
/-- an exception object of the class cls, without a dict, at a: raised, caught and kept -/
def ExT (cls : Value) (a : Addr) : HO := .ext fun h => ∃ (ob : Obj) (us : Array Value), h.get? a = some ob ∧ Zc cls none ob ∧ ob.data = .fields us
theorem exT_ok {P : Program} {w : World} {H : Hp} {h : Heap} {a : Addr} {cls : Value} {ob : Obj} {us : Array Value} (e : h.get? a = some ob) (z : Zc cls none ob) (d : ob.data = .fields us) : ObjOk P w H h a (ExT cls a) :=
  ⟨⟨ob, us, e, z, d⟩, ⟨ob, e⟩, fun _ _ ⟨o, v, q, r⟩ k => ⟨o, v, k o q, r⟩⟩
section
variable {X : Cx} {pins : List (Addr × Obj)} {σ : L2.St} {H : Hp} {s : Shared}
/-- what stands, and was made behind the entry, comes to be tracked -/
theorem track {a : Addr} {o : HO} (I : Inv X pins σ H s) (hn : H a = none) (h0 : X.s_0.heap.get? a = none) (new : ObjOk X.prog X.w (upd H a o) s.heap a o) (nL : a ≠ X.env.locals) (nC : ∀ x c, X.env.cells.lookup x = some c → c ≠ a)
    (nP : ∀ p ∈ X.pn ++ pins, p.1 ≠ a) : Inv X pins σ (upd H a o) s := by
  have old : ∀ b u, X.s_0.heap.get? b = some u → b ≠ a := fun b u e z => by
    rw [z, h0] at e
    cases e
  have keepH : ∀ b u, H b = some u → upd H a o b = some u := fun b u e => by
    rw [upd_ne (ne_of_none e hn)]
    exact e
  refine ⟨I.ok, I.os, I.bare, ⟨I.base.keep, I.base.slot, fun b u e n hx => ?_, I.base.there, fun b xs e => keepH b _ (I.base.tups b xs e), fun b u v e => keepH b _ (I.base.frzs b u v e), fun b ps e => ?_⟩, I.loc, I.cell, ?_, fun x c e => ?_, fun p hp => ?_, fun b u e => ?_, I.len⟩
  · rw [upd_ne (old b u e)]
    exact I.base.free b u e n hx
  · obtain ⟨m, q⟩ := I.base.tbls b ps e
    exact ⟨m, keepH b _ q⟩
  · rw [upd_ne nL.symm]
    exact I.free
  · rw [upd_ne (nC x c e)]
    exact I.freeC x c e
  · obtain ⟨q1, q2, q3⟩ := I.pin p hp
    exact ⟨q1, by rw [upd_ne (nP p hp)]; exact q2, q3⟩
  · by_cases hb : b = a
    · subst hb
      rw [upd_same] at e
      cases e
      exact new
    · rw [upd_ne hb] at e
      exact (I.hok b u e).stay (fun _ _ _ q => q) (fun c q => keepH c _ q) fun c xs q => keepH c _ q
end
/-- what 'except x as n: y = n' wishes of an exception of the body -/
def wKeep (K : PySem.W.Frag) (c : Value) (i j : Nat) (D : Ends) : WX := fun cls d σ H =>
  d = none ∧ PySem.W.exmOne K cls c = some true ∧ ∀ a, H a = none → D.nx (((σ.set i (some (.ref a))).set j (some (.ref a))).set i none) (upd H a (ExT cls a))
section
variable {X : Cx} {x n y : Str} {c : Value} {i j : Nat} {body : List Stmt} {np pos pos' p1 p2 p3 : Pos} {tb : WX → TS}
theorem ps_try_keep (hst : X.stack = X.env :: X.outer) (hfr : X.env.frame = some X.env.locals) (hex : X.ex = []) (hN : X.N.Nodup) (hi : X.N[i]? = some n) (hj : X.N[j]? = some y) (kn : X.env.kindOf n = some .local) (ky : X.env.kindOf y = some .local)
    (hdn : (n == ("__debug__" : Str)) = false) (hcn : (n == ("__classdict__" : Str)) = false) (hc : Names X x c)
    (hsw : swapsWith (.Name n p2) (some (.Name y p1)) p3.line X.env = pure false)
    (hb : ∀ (W : WX) (pn : List (Addr × Obj)) (xe : Value → Shared → Prop), Takes (X.tr pn xe) W → PassesOwn (model X.prog X.w) X.A X.env xe → PSs (X.tr pn xe) body (tb W)) :
    PS X (.Try body [.ExceptHandler (some (.Name x np)) (some n) [.Assign [.Name y p1] (.Name n p2) p3] pos'] [] [] pos) (fun D σ H => tb (wKeep X.K c i j D) D σ H) := by
  refine ⟨fun pins s σ H D I h => ?_⟩
  have okX := I.ok
  have frames : X.A.frames = some (X.env :: X.outer) := okX.frames.trans (by rw [hst])
  refine wpAny_Try_except (wpAny_mono ((hb (wKeep X.K c i j D) (X.pn ++ pins) (fun e s₁ => wpAny (model X.prog X.w) X.A (noteFrame e X.env) (fun _ s₂ => wpAny (model X.prog X.w) X.A (setFlight e none) (fun _ s₃ =>
    wpAny (model X.prog X.w) X.A (handleBy e X.env [.ExceptHandler (some (.Name x np)) (some n) [.Assign [.Name y p1] (.Name n p2) p3] pos']) (SP X pins D) X.xe s₃) X.xe s₂) X.xe s₁) (fun u s' fly => ?_) PassesOwn.looking).run [] s σ H D (I.toTry _) h) (fun f s1 hsp => ?_) fun _ _ z => z)
  · obtain ⟨a, B, sI, pn1, σ1, H1, cls, d, rfl, J0, nb, up, sky, na, os, ag, rfl, yes, go⟩ := fly
    have J : Inv X pins σ1 H1 sI := J0.ofTry okX
    rw [hst] at sky
    show wpAny _ X.A (noteFrame (.ref a) X.env) _ _ _
    refine Sky.land Zc.steady frames hfr sky fun h3 fl up3 => ?_
    have J3 : Inv X pins σ1 H1 { s' with heap := h3 } := J.landed nb fl.1 (up.trans up3) os ag
    have noB : B.get? a = none := fl.2.1
    obtain ⟨ob, us, eob, zob, dob⟩ := fl.there
    have out : a ∉ frs (X.env :: X.outer) := fun hm => by
      obtain ⟨_, o2, e2, nf⟩ := fl.2.2.1.mem hm
      cases e2.symm.trans eob
      exact nf _ dob
    have nL : a ≠ X.env.locals := fun z => out (List.mem_filterMap.mpr ⟨X.env, List.mem_cons_self, by rw [hfr, z]⟩)
    have nF : a ∉ X.fs := fun hm => by
      obtain ⟨e, he, q⟩ := List.mem_filterMap.mp hm
      exact out (List.mem_filterMap.mpr ⟨e, List.mem_cons_of_mem _ he, q⟩)
    have fresh : X.s_0.heap.get? a = none := by
      cases e : X.s_0.heap.get? a with
      | none => rfl
      | some o =>
        obtain ⟨o', e'⟩ := J.base.there a o e (by rw [hex]; exact fun z => nomatch z)
        have z := nb a o' e' (by rw [hst]; exact out)
        rw [noB] at z
        cases z
    have S3 := J3.suite eob dob na nL nF
    refine wpAny_handleBy_cons (codeAny_handlers_test ?_) (by intro q; cases q)
    have looks : PySem.W.Looks (model X.prog X.w) h3 (typeOf (.ref a)) cls := fun A Q E s k q => wpAny_typeOf_ref (k _ _ eob) (by rw [zob.1]; exact q)
    have match_ := PySem.W.exm_one (M := model X.prog X.w) (J3.kIn) looks yes
    have clause : ∀ {Q : Value → Shared → Prop} {E : Value → Shared → Prop}, Q c { s' with heap := h3 } → wpAny (model X.prog X.w) (X.A.mark (some (.ref a))) (eval (.Name x np) X.env) Q E { s' with heap := h3 } := fun {Q E} q => by
      rcases hc with ⟨hg, hd, hm | ⟨hm, hv, hnn⟩⟩
      · exact ld_glob (X := X.suite a ((a, ob) :: (X.pn ++ pins))) S3 hg hm q hd
      · exact ld_blt (X := X.suite a ((a, ob) :: (X.pn ++ pins))) S3 hg hm hv q hnn hd
    refine clause (match_.here (codeAny_handlers_suite_as (HandSPX.lands_againZ fl fun h4 fl4 up4 => ?_)))
    have J4 : Inv X pins σ1 H1 { s' with heap := h4 } := J.landed nb fl4.1 ((up.trans up3).trans up4) os ag
    obtain ⟨ob4, us4, e4, z4, d4⟩ := fl4.there
    have S4 := J4.suite e4 d4 na nL nF
    refine store_ok (X := X.suite a ((a, ob4) :: (X.pn ++ pins))) (v := .ref a) S4 hN hi (.inl kn) rfl (fun s5 S5 => ?_) (.inr kn)
    have one : PSs (X.suite a ((a, ob4) :: (X.pn ++ pins))) [.Assign [.Name y p1] (.Name n p2) p3] (tAsg (tVar i) (gName j)) :=
      pss_one (ps_set (X := X.suite a ((a, ob4) :: (X.pn ++ pins))) hN hj (.inl ky) (pe_var hi (.inl kn) hdn hcn) hsw (.inr ky))
    have li : i < σ1.length := by
      have q := J.len
      have q2 := (List.getElem?_eq_some_iff.mp hi).1
      omega
    have ahead : tAsg (tVar i) (gName j) { nx := fun σ6 H6 => σ6 = (σ1.set i (some (.ref a))).set j (some (.ref a)) ∧ H6 = H1, rt := fun _ _ => False } (σ1.set i (some (.ref a))) H1 := ⟨.ref a, by rw [List.getElem?_set_self li], rfl, rfl⟩
    refine wpAny_mono (one.run [] s5 _ H1 _ S5 ahead) (fun f s6 hsp => ?_) fun _ _ z => z.elim
    cases f with
    | next =>
      obtain ⟨σ6, H6, S6, rfl, rfl⟩ := hsp
      refine gone_ok (X := X.suite a ((a, ob4) :: (X.pn ++ pins))) S6 hN hi kn fun s7 S7 => ?_
      obtain ⟨g1, g2, g3, g4, g5⟩ := S7.pin (a, ob4) (List.mem_append.mpr (.inl List.mem_cons_self))
      have J7 : Inv X pins _ H6 s7 := S7.unsuite okX
      refine ⟨_, _, track J7 na fresh (exT_ok g1 z4 d4) g3 (fun x' c' e z => ?_) (fun p hp z => ?_), go a na⟩
      · obtain ⟨v, o, ho, hd⟩ := J7.cell x' c' e
        rw [z] at ho
        cases ho.symm.trans g1
        exact g5 v hd
      · obtain ⟨q1, _⟩ := J.pin p hp
        have q2 := (J7.pin p hp).1
        rw [z] at q1
        have fr2 : p.1 ∉ frs X.stack := fun hm => by
          rw [hst, z] at hm
          exact out hm
        have q3 := nb a _ q1 (by rw [← z]; exact fr2)
        rw [noB] at q3
        cases q3
    | brk => exact (hsp.choose_spec.choose_spec.2).elim
    | cont => exact (hsp.choose_spec.choose_spec.2).elim
    | ret u =>
      obtain ⟨_, _, _, _, _, z⟩ := hsp
      exact z.elim
  · cases f with
    | next =>
      obtain ⟨σ', H', J', q⟩ := hsp
      exact wpAny_execs_nil ⟨σ', H', J'.ofTry okX, q⟩
    | brk =>
      obtain ⟨σ', H', J', q⟩ := hsp
      exact ⟨σ', H', J'.ofTry okX, q⟩
    | cont =>
      obtain ⟨σ', H', J', q⟩ := hsp
      exact ⟨σ', H', J'.ofTry okX, q⟩
    | ret u =>
      obtain ⟨v, σ', H', J', r, q⟩ := hsp
      exact ⟨v, σ', H', J'.ofTry okX, r, q⟩
end
end GS
set_option Elab.async false
set_option linter.all false
set_option maxRecDepth 100000
set_option maxHeartbeats 4000000
/-! a call that names all its arguments, or all but the first -/
namespace GS
open PySem PySem.Spec PyProof.Rows L2
/-- n values, then the m named ones -/
def gA {α : Type} (n m : Nat) (xs ys : List α) : List α := if xs.length = n ∧ ys.length = m then xs ++ ys else []
theorem vals_app : ∀ {vs : List V} {us : List Value} {zs : List V} {ws : List Value}, Vals vs us → Vals zs ws → Vals (vs ++ zs) (us ++ ws)
  | _, _, _, _, .nil, h => h
  | _, _, _, _, .cons r t, h => .cons r (vals_app t h)
theorem gA_rel {n m : Nat} {vs : List V} {us : List Value} {zs : List V} {ws : List Value} (h1 : Vals vs us) (h2 : Vals zs ws) : Vals (gA n m vs zs) (gA n m us ws) := by
  unfold gA
  rw [h1.length, h2.length]
  split
  · exact vals_app h1 h2
  · exact .nil
theorem gA_len {n m : Nat} {us ws : List Value} (hn : 0 < n + m) (h : (gA n m us ws).length = n + m) : us.length = n ∧ ws.length = m := by
  unfold gA at h
  split at h
  · assumption
  · simp at h
    omega
section
variable {X : Cx} {CX : CXT} {k : Nat} {f : Addr} {fd : FuncData} {ps ks : List Str} {sp : Sp} {E : XK} {x : Str} {p pos : Pos} {kws : List Keyword} {tk : TA} {g : List Value → List Value → List Value} {gV : List V → List V → List V}
theorem pe_callK0 (F : FnOk X.prog X.w X.K X.mg X.base CX k f fd ps sp) (hr : Room k X.A) (hg : Gl X x) (hm : X.mg x = some (.ref f)) (hk : PySem.W.keepIn X.K (.ref f) = true) (hb : KBinds X.K fd ps ks g gV) (hx : Passes CX X E) (hkw : PK X kws tk)
    (hall : (backToKw pos (keywordEach kws X.env)).all (·.1.isSome) = true := by rfl) (hks : (backToKw pos (keywordEach kws X.env)).filterMap (·.1) = ks := by rfl) (hdb : (x == ("__debug__" : Str)) = false := by decide)
    (hpl : ((backTo pos (starEach [] X.env)).any (·.1) || (backToKw pos (keywordEach kws X.env)).any (·.1.isNone)) = false := by rfl) :
    PE X (.Call (.Name x p) [] kws pos) (tCallK sp gV E tNil tk) := by
  refine ⟨fun pins s σ H Q I h => ?_⟩
  refine wpAny_Call_Name_kw (ld_glob I hg hm ?_ hdb)
  refine PySem.W.callWith_KW0 (h₀ := X.base) I.ok.mod.kin hk hall ?_ hpl
  refine thn (hkw.run pos pins s σ H _ I h) fun ws s2 ⟨zs, H2, I2, rz, q2⟩ => ⟨I2.kIn, ?_⟩
  rw [hks]
  exact run_fnk (us := []) (vs := []) F hr hb hx I2 .nil rz q2
end
end GS
set_option Elab.async false
set_option linter.all false
set_option maxRecDepth 100000
set_option maxHeartbeats 4000000
namespace G21
open PySem PySem.Spec PyProof.Rows L2
/-! ### kinds of values -/
inductive Kn (H : Hp) : V → String → Prop where
  | non : Kn H .non "NoneType"
  | bl (b : Bool) : Kn H (.bl b) "bool"
  | int (i : Int) : Kn H (.int i) "int"
  | str (s : Str) : Kn H (.str s) "str"
  | lst {a : Addr} {xs : List V} (e : H a = some (.lst xs)) : Kn H (.ref a) "list"
  | tup {a : Addr} {xs : List V} (e : H a = some (.tup xs)) : Kn H (.ref a) "tuple"
theorem Kn.ty {K : PySem.W.Frag} {H : Hp} {x : V} {n : String} (k : Kn H x n) : TyX K H x (.type n) := by
  cases k with
  | non => exact .base .non
  | bl b => exact .base (.bl b)
  | int i => exact .base (.int i)
  | str s => exact .base (.str s)
  | lst e => exact .base (.lst e)
  | tup e => exact .base (.tup e)
def isI : V → Bool
  | .int _ => true
  | _ => false
def isBl : V → Bool
  | .bl _ => true
  | _ => false
theorem kn_int {H : Hp} {x : V} {n : String} (k : Kn H x n) : kitB n "int" = some (isI x || isBl x) := by
  cases k with
  | non => exact (by decide +kernel : kitB "NoneType" "int" = some false)
  | bl b => exact (by decide +kernel : kitB "bool" "int" = some true)
  | int i => exact (by decide +kernel : kitB "int" "int" = some true)
  | str s => exact (by decide +kernel : kitB "str" "int" = some false)
  | lst e => exact (by decide +kernel : kitB "list" "int" = some false)
  | tup e => exact (by decide +kernel : kitB "tuple" "int" = some false)
theorem kn_bool {H : Hp} {x : V} {n : String} (k : Kn H x n) : kitB n "bool" = some (isBl x) := by
  cases k with
  | non => exact (by decide +kernel : kitB "NoneType" "bool" = some false)
  | bl b => exact (by decide +kernel : kitB "bool" "bool" = some true)
  | int i => exact (by decide +kernel : kitB "int" "bool" = some false)
  | str s => exact (by decide +kernel : kitB "str" "bool" = some false)
  | lst e => exact (by decide +kernel : kitB "list" "bool" = some false)
  | tup e => exact (by decide +kernel : kitB "tuple" "bool" = some false)
theorem kn_tup {H : Hp} {x : V} {n : String} (k : Kn H x n) : kitB n "tuple" = some (n == "tuple") := by
  cases k with
  | non => decide +kernel
  | bl b => decide +kernel
  | int i => decide +kernel
  | str s => decide +kernel
  | lst e => decide +kernel
  | tup e => decide +kernel
def isIx (m : Int) : V → Bool
  | .int i => decide (0 ≤ i) && decide (i < m)
  | _ => false
def isSz : V → Bool
  | .int i => decide (1 ≤ i)
  | _ => false
theorem isI_int {x : V} (h : isI x = true) : ∃ i, x = .int i := by
  cases x <;> first | exact ⟨_, rfl⟩ | cases h
theorem isIx_no {x : V} {m : Int} (h : ¬ isI x = true) : isIx m x = false := by
  cases x <;> first | rfl | exact absurd rfl h
theorem isSz_no {x : V} (h : ¬ isI x = true) : isSz x = false := by
  cases x <;> first | rfl | exact absurd rfl h
/-! ### numbers, indexes, sizes -/
def spNum : Sp := fun vs H Q _ => ∃ (x : V) (n : String), vs = [x] ∧ Kn H x n ∧ Q (.bl (isI x)) H
def spIx : Sp := fun vs H Q _ => ∃ (x : V) (n : String) (m : Int), vs = [x, .int m] ∧ Kn H x n ∧ Q (.bl (isIx m x)) H
def spSz : Sp := fun vs H Q _ => ∃ (x : V) (n : String), vs = [x] ∧ Kn H x n ∧ Q (.bl (isSz x)) H
/-! D -/
/-! ### blocks, bodies, drawings -/
structure Bk where
  l : Int
  d : Int
  r : Int
  u : Int
deriving DecidableEq
def Bk.n (b : Bk) : List Int := [b.l, b.d, b.r, b.u]
def Bk.v (b : Bk) : List V := [.int b.l, .int b.d, .int b.r, .int b.u]
theorem Bk.nv (b : Bk) : b.n.map V.int = b.v := rfl
theorem Bk.n_inj {a b : Bk} (h : a.n = b.n) : a = b := by
  obtain ⟨a1, a2, a3, a4⟩ := a
  obtain ⟨b1, b2, b3, b4⟩ := b
  have e : [a1, a2, a3, a4] = [b1, b2, b3, b4] := h
  simp only [List.cons.injEq, and_true] at e
  obtain ⟨rfl, rfl, rfl, rfl⟩ := e
  rfl
/-- the addresses rs are those of the blocks bs -/
abbrev Bks (H : Hp) (rs : List Addr) (bs : List Bk) : Prop := Paired (fun r b => H r = some (.tup (Bk.v b))) rs bs
theorem pd_len {α β : Type} {F : α → β → Prop} : ∀ {as : List α} {bs : List β}, Paired F as bs → as.length = bs.length
  | _, _, .nil => rfl
  | _, _, .cons _ t => congrArg (· + 1) (pd_len t)
theorem pd_get {α β : Type} {F : α → β → Prop} : ∀ {as : List α} {bs : List β} {i : Nat} {b : β}, Paired F as bs → bs[i]? = some b → ∃ a, as[i]? = some a ∧ F a b
  | _, _, _, _, .nil, h => by simp at h
  | _, _, 0, _, .cons r _, h => ⟨_, rfl, by cases h; exact r⟩
  | _, _, i + 1, _, .cons _ t, h => pd_get (i := i) t h
theorem pd_imp {α β : Type} {F G : α → β → Prop} : ∀ {as : List α} {bs : List β}, Paired F as bs → (∀ a b, F a b → G a b) → Paired G as bs
  | _, _, .nil, _ => .nil
  | _, _, .cons r t, f => .cons (f _ _ r) (pd_imp t f)
def Dw (C : Addr) (H : Hp) (m : Addr) (bs : List Bk) : Prop :=
  ∃ (dx t : Addr) (rs : List Addr), H m = some (.ins C dx [("blocks", .ref t)]) ∧ H t = some (.tup (rs.map V.ref)) ∧ Bks H rs bs ∧ bs.length ≤ 12
/-- a body -/
def Bo (H : Hp) (p : Addr) (a b : Int) : Prop := H p = some (.tup [.int a, .int b])
/-! ### the promises -/
def spBody : Sp := fun vs H Q _ => ∃ (t : Addr) (a b : Int), vs = [.ref t] ∧ Bo H t a b ∧ Q (.bl (decide (1 ≤ a) && decide (1 ≤ b))) H
def spChkBody (X : Addr) : Sp := fun vs H Q E => ∃ (t : Addr) (a b : Int), vs = [.ref t] ∧ Bo H t a b ∧ (1 ≤ a ∧ 1 ≤ b → Q .non H) ∧ (¬ (1 ≤ a ∧ 1 ≤ b) → E (.ref X) none H)
def spChkDw (C X : Addr) : Sp := fun vs H Q E => ∃ m : Addr, vs = [.ref m] ∧ (((∃ dx fs, H m = some (.ins C dx fs)) ∧ Q .non H) ∨ ((∃ xs, H m = some (.lst xs)) ∧ E (.ref X) none H))
def spChkIx (C X : Addr) : Sp := fun vs H Q E => ∃ (m : Addr) (x : V) (n : String) (bs : List Bk), vs = [.ref m, x] ∧ Dw C H m bs ∧ Kn H x n ∧ (isIx bs.length x = true → Q .non H) ∧ (isIx bs.length x = false → E (.ref X) none H)
def spChkPair (C X Y : Addr) : Sp := fun vs H Q E => ∃ (m : Addr) (x y : V) (n n' : String) (bs : List Bk), vs = [.ref m, x, y] ∧ Dw C H m bs ∧ Kn H x n ∧ Kn H y n' ∧
  (isIx bs.length x = false → E (.ref X) none H) ∧ (isIx bs.length x = true → isIx bs.length y = false → E (.ref X) none H) ∧
  (∀ i j : Int, x = .int i → y = .int j → isIx bs.length x = true → isIx bs.length y = true → (i ≠ j → Q .non H) ∧ (i = j → E (.ref Y) none H))
/-- drawing and body: what check_here asks -/
def spHere (C X Y : Addr) : Sp := fun vs H Q E => ∃ (m t : Addr) (a b : Int), vs = [.ref m, .ref t] ∧ Bo H t a b ∧
  (((∃ dx fs, H m = some (.ins C dx fs)) ∧ (1 ≤ a ∧ 1 ≤ b → Q .non H) ∧ (¬ (1 ≤ a ∧ 1 ≤ b) → E (.ref Y) none H)) ∨ ((∃ xs, H m = some (.lst xs)) ∧ E (.ref X) none H))
def gx (p q : Bk) : Int := max (q.l - p.r) (p.l - q.r)
def gy (p q : Bk) : Int := max (q.d - p.u) (p.d - q.u)
theorem max_if (i j : Int) : (if j > i then j else i) = max i j := by
  by_cases h : i < j
  · rw [if_pos h]
    omega
  · rw [if_neg h]
    omega
def spGapOf : Sp := fun vs H Q _ => ∃ (p q : Addr) (x y : Bk), vs = [.ref p, .ref q] ∧ H p = some (.tup x.v) ∧ H q = some (.tup y.v) ∧ ∀ z, H z = none → Q (.ref z) (upd H z (.tup [.int (gx x y), .int (gy x y)]))
theorem ix_ok {m i : Int} (h : isIx m (.int i) = true) : 0 ≤ i ∧ i < m := by
  have h2 : (decide (0 ≤ i) && decide (i < m)) = true := h
  simp only [Bool.and_eq_true, decide_eq_true_eq] at h2
  exact h2

/-! E -/
/-! ### heaps that only grow -/
theorem same_new {H : Hp} {p : Addr} {o : HO} (h : H p = none) : Same H (upd H p o) := fun b x e => by
  rw [upd_ne (ne_of_none e h)]
  exact e
theorem Dw.same {C : Addr} {H H' : Hp} {m : Addr} {bs : List Bk} (e : Same H H') (h : Dw C H m bs) : Dw C H' m bs := by
  obtain ⟨dx, t, rs, h1, h2, h3, h4⟩ := h
  exact ⟨dx, t, rs, e _ _ h1, e _ _ h2, pd_imp h3 fun _ _ => e _ _, h4⟩
def nr (p q : Bk) (a b : Int) : Bool := decide (gx p q < a) && decide (gy p q < b)
/-- an index of the drawing's tuple -/
theorem at_blk {rs : List Addr} {r : Addr} {i : Nat} (h : rs[i]? = some r) : atI (rs.map V.ref) (i : Int) = some (.ref r) := by
  refine atI_nat ?_
  rw [List.getElem?_map, h]
  rfl
/-! ### pairs in a list -/
abbrev Prs (H : Hp) (as : List Addr) (ps : List (Int × Int)) : Prop := Paired (fun a p => H a = some (.tup [.int p.1, .int p.2])) as ps
def PrL (H : Hp) (z : Addr) (ps : List (Int × Int)) : Prop := ∃ as : List Addr, H z = some (.lst (as.map V.ref)) ∧ Prs H as ps
theorem pd_app {α β : Type} {F : α → β → Prop} : ∀ {as as' : List α} {bs bs' : List β}, Paired F as bs → Paired F as' bs' → Paired F (as ++ as') (bs ++ bs')
  | _, _, _, _, .nil, h => h
  | _, _, _, _, .cons r t, h => .cons r (pd_app t h)
def rowTo (f : Nat → Nat → Bool) (i k : Nat) : List (Int × Int) := ((List.range k).filter fun t => f i (i + 1 + t)).map fun t => ((i : Int), ((i + 1 + t : Nat) : Int))
def prsTo (f : Nat → Nat → Bool) (n i : Nat) : List (Int × Int) := (List.range i).flatMap fun i => rowTo f i (n - (i + 1))
theorem rowTo_succ (f : Nat → Nat → Bool) (i k : Nat) : rowTo f i (k + 1) = rowTo f i k ++ (if f i (i + 1 + k) = true then [((i : Int), ((i + 1 + k : Nat) : Int))] else []) := by
  unfold rowTo
  rw [List.range_succ, List.filter_append, List.map_append]
  congr 1
  by_cases h : f i (i + 1 + k) = true
  · rw [if_pos h]
    simp [List.filter, h]
  · rw [if_neg h]
    simp [List.filter, h]
theorem prsTo_succ (f : Nat → Nat → Bool) (n i : Nat) : prsTo f n (i + 1) = prsTo f n i ++ rowTo f i (n - (i + 1)) := by
  unfold prsTo
  rw [List.range_succ, List.flatMap_append, List.flatMap_cons, List.flatMap_nil, List.append_nil]
theorem rowTo_len (f : Nat → Nat → Bool) (i : Nat) : ∀ k, (rowTo f i k).length ≤ k
  | 0 => Nat.le_refl _
  | k + 1 => by
    rw [rowTo_succ, List.length_append]
    have h := rowTo_len f i k
    split
    · simp only [List.length_cons, List.length_nil]
      omega
    · simp only [List.length_nil]
      omega
theorem prsTo_len (f : Nat → Nat → Bool) (n : Nat) : ∀ i, (prsTo f n i).length ≤ i * n
  | 0 => by simp [prsTo]
  | i + 1 => by
    rw [prsTo_succ, List.length_append, Nat.succ_mul]
    have h := prsTo_len f n i
    have h2 := rowTo_len f i (n - (i + 1))
    omega
theorem sz_few {n : Nat} (h : n < 10000) : n < sizeLine := Nat.lt_of_lt_of_le h (by decide)
def nrF (bs : List Bk) (a b : Int) : Nat → Nat → Bool := fun i j => match bs[i]?, bs[j]? with
  | some p, some q => nr p q a b
  | _, _ => false
theorem nrF_at {bs : List Bk} {a b : Int} {i j : Nat} {p q : Bk} (hi : bs[i]? = some p) (hj : bs[j]? = some q) : nrF bs a b i j = nr p q a b := by
  unfold nrF
  rw [hi, hj]
theorem yes2 {σ : L2.St} {H : Hp} {A B : Hp → Prop} (h : A H) : tYes σ H fun b H3 => if b = true then A H3 else B H3 := by
  show (if (true : Bool) = true then A H else B H)
  rw [if_pos rfl]
  exact h
/-- a loop over a range: what its turn asks is left open (B) -/
theorem it_range {lo : Int} {n : Nat} {H1 : Hp} {Q : Hp → Prop} {B : V → Hp → (Hp → Prop) → Prop} (Pv : Nat → Hp → Prop) (h0 : Pv 0 H1) (hs : ∀ i H, i < n → Pv i H → B (.int (lo + i)) H (Pv (i + 1))) (hd : ∀ H, Pv n H → Q H) :
    ∃ W : Nat → Nat → Hp → Prop, (∃ m, W 0 m H1) ∧ ∀ i m H, W i m H →
      ((Itr lo n).stop i H ∧ Q H) ∨ ((Itr lo n).go i H ∧ ∃ Nx : Hp → Prop, (∀ H', Nx H' → ∃ m', m' < m ∧ W (i + 1) m' H') ∧ ∀ x H', (Itr lo n).yld i H x H' → B x H' Nx) := by
  refine ⟨fun i m H => m = n - i ∧ i ≤ n ∧ Pv i H, ⟨n, by simp, Nat.zero_le _, h0⟩, fun i m H hW => ?_⟩
  obtain ⟨rfl, hi, p⟩ := hW
  by_cases hlt : i < n
  · refine .inr ⟨hlt, Pv (i + 1), fun H' p' => ⟨n - (i + 1), by omega, rfl, hlt, p'⟩, fun x H' y => ?_⟩
    obtain ⟨e, z⟩ := y
    rw [e, z]
    exact hs i H hlt p
  · have e : i = n := by omega
    rw [e] at p
    exact .inl ⟨Nat.le_of_not_lt hlt, hd H p⟩
/-- a loop over a list that stays -/
theorem it_list {K : PySem.W.Frag} {a : Addr} {xs : List V} {H1 : Hp} {Q : Hp → Prop} {B : V → Hp → (Hp → Prop) → Prop} (Pv : Nat → Hp → Prop) (h0 : Pv 0 H1) (hl : ∀ i H, Pv i H → SqL K H a xs)
    (hs : ∀ i x H, xs[i]? = some x → Pv i H → B x H (Pv (i + 1))) (hd : ∀ H, Pv xs.length H → Q H) :
    ∃ W : Nat → Nat → Hp → Prop, (∃ m, W 0 m H1) ∧ ∀ i m H, W i m H →
      ((Itl K a).stop i H ∧ Q H) ∨ ((Itl K a).go i H ∧ ∃ Nx : Hp → Prop, (∀ H', Nx H' → ∃ m', m' < m ∧ W (i + 1) m' H') ∧ ∀ x H', (Itl K a).yld i H x H' → B x H' Nx) := by
  refine ⟨fun i m H => m = xs.length - i ∧ i ≤ xs.length ∧ Pv i H, ⟨xs.length, by simp, Nat.zero_le _, h0⟩, fun i m H hW => ?_⟩
  obtain ⟨rfl, hi, p⟩ := hW
  have q := hl i H p
  by_cases hlt : i < xs.length
  · refine .inr ⟨⟨xs, xs[i], q, by simp [hlt]⟩, Pv (i + 1), fun H' p' => ⟨xs.length - (i + 1), by omega, rfl, hlt, p'⟩, fun x H' y => ?_⟩
    obtain ⟨e, z⟩ := y
    rw [e]
    exact hs i x H (z xs q) p
  · have e : i = xs.length := by omega
    refine .inl ⟨⟨xs, q, Nat.le_of_not_lt hlt⟩, hd H ?_⟩
    rw [e] at p
    exact p
/-! ### promises -/
def spAreNear (C : Addr) : Sp := fun vs H Q _ => ∃ (m t : Addr) (i j : Nat) (a b : Int) (bs : List Bk) (p q : Bk), vs = [.ref m, .ref t, .int i, .int j] ∧ Dw C H m bs ∧ Bo H t a b ∧ bs[i]? = some p ∧ bs[j]? = some q ∧ ∀ H', Same H H' → Q (.bl (nr p q a b)) H'
def spAllNear (C : Addr) : Sp := fun vs H Q _ => ∃ (m t : Addr) (a b : Int) (bs : List Bk), vs = [.ref m, .ref t] ∧ Dw C H m bs ∧ Bo H t a b ∧ ∀ H' z, Same H H' → H z = none → PrL H' z (prsTo (nrF bs a b) bs.length bs.length) → Q (.ref z) H'
def lnr (p q : Bk) : List V := [.int (max 1 (gx p q + 1)), .int (max 1 (gy p q + 1))]
def spLeast (C : Addr) : Sp := fun vs H Q _ => ∃ (m : Addr) (i j : Nat) (bs : List Bk) (p q : Bk), vs = [.ref m, .int i, .int j] ∧ Dw C H m bs ∧ bs[i]? = some p ∧ bs[j]? = some q ∧ ∀ H' z, Same H H' → H z = none → H' z = some (.tup (lnr p q)) → Q (.ref z) H'

/-! F -/
/-- what becomes of two indexes: refused, one block twice, or two blocks -/
def PC (n : Nat) (x y : V) (EI EP : Prop) (G : Nat → Nat → Prop) : Prop :=
  (isIx n x = false → EI) ∧ (isIx n x = true → isIx n y = false → EI) ∧ ∀ i j : Nat, x = .int i → y = .int j → i < n → j < n → (i ≠ j → G i j) ∧ (i = j → EP)
/-- in the words of check_pair -/
theorem PC.three {n : Nat} {x y : V} {EI EP GG : Prop} {G : Nat → Nat → Prop} (h : PC n x y EI EP G) (f : ∀ i j : Nat, x = .int i → y = .int j → i < n → j < n → i ≠ j → G i j → GG) :
    (isIx n x = false → EI) ∧ (isIx n x = true → isIx n y = false → EI) ∧ (∀ i j : Int, x = .int i → y = .int j → isIx n x = true → isIx n y = true → (i ≠ j → GG) ∧ (i = j → EP)) := by
  refine ⟨h.1, h.2.1, fun i j hx hy e1 e2 => ?_⟩
  subst hx hy
  obtain ⟨a1, a2⟩ := ix_ok e1
  obtain ⟨b1, b2⟩ := ix_ok e2
  obtain ⟨i', rfl⟩ := Int.eq_ofNat_of_zero_le a1
  obtain ⟨j', rfl⟩ := Int.eq_ofNat_of_zero_le b1
  obtain ⟨c1, c2⟩ := h.2.2 i' j' rfl rfl (by omega) (by omega)
  exact ⟨fun z => f i' j' rfl rfl (by omega) (by omega) (fun w => z (by rw [w])) (c1 fun w => z (by rw [w])), fun z => c2 (by omega)⟩
def spGap (C XD XI XP : Addr) : Sp := fun vs H Q E => ∃ (m : Addr) (x y : V) (n n' : String) (bs : List Bk), vs = [.ref m, x, y] ∧ Dw C H m bs ∧ Kn H x n ∧ Kn H y n' ∧
  PC bs.length x y (E (.ref XI) none H) (E (.ref XP) none H) fun i j => ∃ p q, bs[i]? = some p ∧ bs[j]? = some q ∧ ∀ z, H z = none → Q (.ref z) (upd H z (.tup [.int (gx p q), .int (gy p q)]))
def spFrom (C XD XI XP : Addr) : Sp := fun vs H Q E => ∃ (m : Addr) (x y : V) (n n' : String) (bs : List Bk), vs = [.ref m, x, y] ∧ Dw C H m bs ∧ Kn H x n ∧ Kn H y n' ∧
  PC bs.length x y (E (.ref XI) none H) (E (.ref XP) none H) fun i j => ∃ p q, bs[i]? = some p ∧ bs[j]? = some q ∧ ∀ H' z, Same H H' → H z = none → H' z = some (.tup (lnr p q)) → Q (.ref z) H'
def spNear (C XB XI XP : Addr) : Sp := fun vs H Q E => ∃ (m t : Addr) (a b : Int) (x y : V) (n n' : String) (bs : List Bk), vs = [.ref m, .ref t, x, y] ∧ Dw C H m bs ∧ Bo H t a b ∧ Kn H x n ∧ Kn H y n' ∧
  (¬ (1 ≤ a ∧ 1 ≤ b) → E (.ref XB) none H) ∧ (1 ≤ a ∧ 1 ≤ b → PC bs.length x y (E (.ref XI) none H) (E (.ref XP) none H) fun i j => ∃ p q, bs[i]? = some p ∧ bs[j]? = some q ∧ ∀ H', Same H H' → Q (.bl (nr p q a b)) H')
def spPairs (C XD : Addr) : Sp := fun vs H Q E => ∃ (m t : Addr) (a b : Int), vs = [.ref m, .ref t] ∧ Bo H t a b ∧
  ((∃ bs, Dw C H m bs ∧ 1 ≤ a ∧ 1 ≤ b ∧ ∀ H' z, Same H H' → H z = none → PrL H' z (prsTo (nrF bs a b) bs.length bs.length) → Q (.ref z) H') ∨ ((∃ xs, H m = some (.lst xs)) ∧ E (.ref XD) none H))
theorem Dw.ins {C : Addr} {H : Hp} {m : Addr} {bs : List Bk} (h : Dw C H m bs) : ∃ dx fs, H m = some (.ins C dx fs) := by
  obtain ⟨dx, t, rs, h1, _⟩ := h
  exact ⟨dx, _, h1⟩

/-! G -/
/-- a loop over a tuple that stays -/
theorem it_tup {K : PySem.W.Frag} {a : Addr} {xs : List V} {H1 : Hp} {Q : Hp → Prop} {B : V → Hp → (Hp → Prop) → Prop} (Pv : Nat → Hp → Prop) (h0 : Pv 0 H1) (hl : ∀ i H, Pv i H → SqT K H a xs)
    (hs : ∀ i x H, xs[i]? = some x → Pv i H → B x H (Pv (i + 1))) (hd : ∀ H, Pv xs.length H → Q H) :
    ∃ W : Nat → Nat → Hp → Prop, (∃ m, W 0 m H1) ∧ ∀ i m H, W i m H →
      ((Itt K a).stop i H ∧ Q H) ∨ ((Itt K a).go i H ∧ ∃ Nx : Hp → Prop, (∀ H', Nx H' → ∃ m', m' < m ∧ W (i + 1) m' H') ∧ ∀ x H', (Itt K a).yld i H x H' → B x H' Nx) := by
  refine ⟨fun i m H => m = xs.length - i ∧ i ≤ xs.length ∧ Pv i H, ⟨xs.length, by simp, Nat.zero_le _, h0⟩, fun i m H hW => ?_⟩
  obtain ⟨rfl, hi, p⟩ := hW
  have q := hl i H p
  by_cases hlt : i < xs.length
  · refine .inr ⟨⟨xs, xs[i], q, by simp [hlt]⟩, Pv (i + 1), fun H' p' => ⟨xs.length - (i + 1), by omega, rfl, hlt, p'⟩, fun x H' y => ?_⟩
    obtain ⟨e, z⟩ := y
    rw [e]
    exact hs i x H (z xs q) p
  · have e : i = xs.length := by omega
    refine .inl ⟨⟨xs, q, Nat.le_of_not_lt hlt⟩, hd H ?_⟩
    rw [e] at p
    exact p
theorem rep_snoc (n : Nat) (b : Bool) : (List.replicate n b).map V.bl ++ [V.bl b] = (List.replicate (n + 1) b).map V.bl := by
  rw [List.replicate_succ', List.map_append]
  rfl
/-- one truth more in a list that is ours alone -/
theorem more_true {H H3 H4 : Hp} {D : Addr} {i : Nat} {b : Bool} (hD0 : H D = none) (S3 : Same H H3) (e3 : H3 D = some (.lst ((List.replicate i b).map V.bl))) (S4 : Same H3 H4) :
    H4 D = some (.lst ((List.replicate i b).map V.bl)) ∧ Same H (upd H4 D (.lst ((List.replicate i b).map V.bl ++ [.bl b]))) ∧ upd H4 D (.lst ((List.replicate i b).map V.bl ++ [.bl b])) D = some (.lst ((List.replicate (i + 1) b).map V.bl)) := by
  refine ⟨S4 _ _ e3, fun c o e => ?_, ?_⟩
  · have nb : c ≠ D := fun q => by
      rw [q, hD0] at e
      cases e
    rw [upd_ne nb]
    exact S4 _ _ (S3 _ _ e)
  · rw [upd_same, rep_snoc]
theorem all_rep (n : Nat) : (List.replicate n true).all id = true := by
  induction n with
  | zero => rfl
  | succ n ih => rw [List.replicate_succ, List.all_cons, ih] <;> rfl
def Bk.ok (b : Bk) : Prop := b.l < b.r ∧ b.d < b.u
theorem pd_perm {α β : Type} {F : α → β → Prop} : ∀ {as' as : List α}, as'.Perm as → ∀ {bs : List β}, Paired F as bs → ∃ bs', Paired F as' bs' ∧ bs'.Perm bs := by
  intro as' as p
  induction p with
  | nil => exact fun h => ⟨_, h, .refl _⟩
  | cons x p ih =>
    intro bs h
    cases h with
    | cons r t =>
      obtain ⟨bs', h1, h2⟩ := ih t
      exact ⟨_ :: bs', .cons r h1, .cons _ h2⟩
  | swap x y l =>
    intro bs h
    cases h with
    | cons r t =>
      cases t with
      | cons r2 t2 => exact ⟨_, .cons r2 (.cons r t2), .swap ..⟩
  | trans p1 p2 ih1 ih2 =>
    intro bs h
    obtain ⟨b1, h1, q1⟩ := ih2 h
    obtain ⟨b2, h2, q2⟩ := ih1 h1
    exact ⟨b2, h2, q2.trans q1⟩
/-- what is told of each two of the one is told of the other -/
theorem pd_pairwise {α β : Type} {F : α → β → Prop} {R : α → α → Prop} {S : β → β → Prop} (hRS : ∀ a a' b b', F a b → F a' b' → R a a' → S b b') : ∀ {as : List α} {bs : List β}, Paired F as bs → as.Pairwise R → bs.Pairwise S
  | _, _, .nil, _ => .nil
  | a :: as, b :: bs, .cons r t, h => by
    obtain ⟨h1, h2⟩ := List.pairwise_cons.mp h
    refine List.pairwise_cons.mpr ⟨fun b' hb => ?_, pd_pairwise hRS t h2⟩
    obtain ⟨i, hi⟩ := List.mem_iff_getElem?.mp hb
    obtain ⟨a', g, f⟩ := pd_get t hi
    exact hRS _ _ _ _ r f (h1 a' (List.mem_of_getElem? g))
theorem unref {ys : List V} {rs : List Addr} (h : ys.Perm (rs.map V.ref)) : ∃ rs' : List Addr, ys = rs'.map V.ref ∧ rs'.Perm rs := by
  have m : ∀ zs : List V, (∀ y ∈ zs, ∃ a, y = V.ref a) → ∃ rs' : List Addr, zs = rs'.map V.ref := by
    intro zs
    induction zs with
    | nil => exact fun _ => ⟨[], rfl⟩
    | cons y zs ih =>
      intro hy
      obtain ⟨a, rfl⟩ := hy y (List.mem_cons_self ..)
      obtain ⟨l, rfl⟩ := ih fun z hz => hy z (List.mem_cons_of_mem _ hz)
      exact ⟨a :: l, rfl⟩
  obtain ⟨rs', rfl⟩ := m ys fun y hy => by
    obtain ⟨a, _, e⟩ := List.mem_map.mp (h.mem_iff.mp hy)
    exact ⟨a, e.symm⟩
  refine ⟨rs', rfl, ?_⟩
  have h2 := h.map fun y : V => match y with
    | .ref a => a
    | _ => 0
  rw [List.map_map, List.map_map] at h2
  have e : ∀ l : List Addr, l.map ((fun y : V => match y with
    | .ref a => a
    | _ => 0) ∘ V.ref) = l := fun l => by
    induction l with
    | nil => rfl
    | cons x l ih => rw [List.map_cons, ih] <;> rfl
  rw [e, e] at h2
  exact h2
/-- ascending blocks -/
def Asc (bs : List Bk) : Prop := bs.Pairwise fun a b => HT.lexLt b.n a.n = false
theorem v_int_inj : ∀ {ns ms : List Int}, ns.map V.int = ms.map V.int → ns = ms
  | [], [], _ => rfl
  | [], _ :: _, h => by cases h
  | _ :: _, [], h => by cases h
  | n :: ns, m :: ms, h => by
    rw [List.map_cons, List.map_cons] at h
    injection h with h1 h2
    injection h1 with h3
    rw [h3, v_int_inj h2]
/-- what a tracked tuple may be read as -/
theorem sqT_tup {K : PySem.W.Frag} {H : Hp} {t : Addr} {xs ys : List V} (hk : K.lookup t = none) (h : H t = some (.tup xs)) (q : SqT K H t ys) : ys = xs := by
  rcases q with (q | ⟨o, q⟩) | q
  · rw [h] at q
    cases q
    rfl
  · rw [h] at q
    cases q
  · obtain ⟨o, its, n, e, _⟩ := q
    rw [hk] at e
    cases e

/-! H -/
def spIsList : Sp := fun vs H Q _ => ∃ (l : Addr) (xs : List V), vs = [.ref l] ∧ H l = some (.lst xs) ∧ ∀ H', Same H H' → Q (.bl true) H'
def spIsBlock : Sp := fun vs H Q _ => ∃ (r : Addr) (b : Bk), vs = [.ref r] ∧ H r = some (.tup b.v) ∧ b.ok ∧ ∀ H', Same H H' → Q (.bl true) H'
def spAreBlocks : Sp := fun vs H Q _ => ∃ (l : Addr) (rs : List Addr) (bs : List Bk), vs = [.ref l] ∧ H l = some (.lst (rs.map V.ref)) ∧ Bks H rs bs ∧ (∀ b ∈ bs, b.ok) ∧ bs.Nodup ∧ bs.length ≤ 12 ∧ ∀ H', Same H H' → Q (.bl true) H'
def spInit (C : Addr) : Sp := fun vs H Q _ => ∃ (m l dx : Addr) (rs : List Addr) (bs : List Bk), vs = [.ref m, .ref l] ∧ H m = some (.ins C dx []) ∧ H l = some (.lst (rs.map V.ref)) ∧ Bks H rs bs ∧ (∀ b ∈ bs, b.ok) ∧ bs.Nodup ∧ bs.length ≤ 12 ∧
  ∀ H' bs', (∀ b o, b ≠ m → H b = some o → H' b = some o) → Dw C H' m bs' → bs'.Perm bs → Asc bs' → Q .non H'
theorem pd_all {α β : Type} {F : α → β → Prop} {G : α → Prop} : ∀ {as : List α} {bs : List β}, Paired F as bs → (∀ a b, F a b → b ∈ bs → G a) → ∀ a ∈ as, G a
  | _, _, .nil, _, a, h => absurd h (by simp)
  | _, _, .cons r t, f, a, h => by
    rcases List.mem_cons.mp h with e | h
    · rw [e]
      exact f _ _ r (List.mem_cons_self ..)
    · exact pd_all t (fun x y g m => f x y g (List.mem_cons_of_mem _ m)) a h
theorem pd_at {α β : Type} {F : α → β → Prop} : ∀ {as : List α} {bs : List β} {i : Nat} {a : α}, Paired F as bs → as[i]? = some a → ∃ b, bs[i]? = some b ∧ F a b
  | _, _, _, _, .nil, h => by simp at h
  | _, _, 0, _, .cons r _, h => ⟨_, rfl, by cases h; exact r⟩
  | _, _, i + 1, _, .cons _ t, h => pd_at (i := i) t h
theorem at_map {α : Type} {f : α → V} {l : List α} {i : Nat} {x : V} (h : (l.map f)[i]? = some x) : ∃ y, l[i]? = some y ∧ x = f y := by
  rw [List.getElem?_map] at h
  cases e : l[i]? with
  | none =>
    rw [e] at h
    cases h
  | some y =>
    rw [e] at h
    exact ⟨y, rfl, (Option.some.inj h).symm⟩
/-- the two lists as one of pairs -/
theorem pd_zip {F : Addr → Bk → Prop} : ∀ {rs : List Addr} {bs : List Bk}, Paired F rs bs → ((rs.zip (bs.map Bk.n)).map (fun p => V.ref p.1) = rs.map V.ref ∧ (rs.zip (bs.map Bk.n)).map (·.2) = bs.map Bk.n)
  | _, _, .nil => ⟨rfl, rfl⟩
  | _, _, .cons r t => by
    obtain ⟨h1, h2⟩ := pd_zip t
    exact ⟨by rw [List.map_cons, List.zip_cons_cons, List.map_cons, List.map_cons, h1], by rw [List.map_cons, List.zip_cons_cons, List.map_cons, h2]⟩
theorem pd_zip_mem {F : Addr → Bk → Prop} : ∀ {rs : List Addr} {bs : List Bk}, Paired F rs bs → ∀ p ∈ rs.zip (bs.map Bk.n), ∃ b, b ∈ bs ∧ p.2 = b.n ∧ F p.1 b
  | _, _, .nil, p, h => absurd h (by simp)
  | _, _, .cons (a := _) (b := _) r t, p, h => by
    rw [List.map_cons, List.zip_cons_cons] at h
    rcases List.mem_cons.mp h with e | h
    · exact ⟨_, List.mem_cons_self .., by rw [e], by rw [e]; exact r⟩
    · obtain ⟨b, m, e, f⟩ := pd_zip_mem t p h
      exact ⟨b, List.mem_cons_of_mem _ m, e, f⟩
theorem nodup_n : ∀ {bs : List Bk}, bs.Nodup → (bs.map Bk.n).Nodup
  | [], _ => .nil
  | b :: bs, h => by
    obtain ⟨h1, h2⟩ := List.nodup_cons.mp h
    rw [List.map_cons]
    refine List.nodup_cons.mpr ⟨fun z => ?_, nodup_n h2⟩
    obtain ⟨c, hc, e⟩ := List.mem_map.mp z
    exact h1 (by rw [← Bk.n_inj e]; exact hc)

/-! J -/
/-! ### the draws -/
abbrev drK (g c : Addr) (n t : Int) : List (Key × V) := [(.inr "great", .ref g), (.inr "cells", .ref c), (.inr "left", .int n), (.inr "turn", .int t)]
/-- a dict of draws stands at d -/
def Dr (H : Hp) (d g c : Addr) (t : Int) : Prop := ∃ (gs cs : List Int) (n : Int), H d = some (.dK (drK g c n t)) ∧ H g = some (.lst (gs.map V.int)) ∧ H c = some (.lst (cs.map V.int)) ∧ g ≠ c ∧
  (∀ x ∈ gs, 0 ≤ x) ∧ (∀ x ∈ cs, 0 ≤ x ∧ x < 2147483629) ∧ 0 ≤ n ∧ 0 ≤ t
/-- what a draw leaves as it was -/
def Fr (d g : Addr) (H H' : Hp) : Prop := ∀ b o, b ≠ d → b ≠ g → H b = some o → H' b = some o
theorem Fr.refl (d g : Addr) (H : Hp) : Fr d g H H := fun _ _ _ _ h => h
theorem Fr.trans {d g : Addr} {H H1 H2 : Hp} (a : Fr d g H H1) (b : Fr d g H1 H2) : Fr d g H H2 := fun c o h1 h2 h => b c o h1 h2 (a c o h1 h2 h)
theorem Fr.of {d g : Addr} {H H' : Hp} (e : Same H H') : Fr d g H H' := fun b o _ _ h => e b o h
theorem val_great (g c : Addr) (n t : Int) : valV (drK g c n t) (.inr "great") = some (.ref g) := by rfl
theorem val_cells (g c : Addr) (n t : Int) : valV (drK g c n t) (.inr "cells") = some (.ref c) := by rfl
theorem val_left (g c : Addr) (n t : Int) : valV (drK g c n t) (.inr "left") = some (.int n) := by rfl
theorem val_turn (g c : Addr) (n t : Int) : valV (drK g c n t) (.inr "turn") = some (.int t) := by rfl
theorem put_left (g c : Addr) (n t m : Int) : putK (drK g c n t) (.inr "left") (.int m) = drK g c m t := by rfl
theorem put_turn (g c : Addr) (n t m : Int) : putK (drK g c n t) (.inr "turn") (.int m) = drK g c n m := by rfl
def spBegun (K : PySem.W.Frag) : Sp := fun vs H Q _ => ∃ (a : Addr) (ns : List Int), vs = [.ref a] ∧ SqL K H a (ns.map V.int) ∧ ns.length ≤ 63 ∧
  ∀ H' d g c, Same H H' → H d = none → H g = none → H c = none → Dr H' d g c 0 → Q (.ref d) H'
theorem pow18 : (10 : Int) ^ (18 : Int).toNat = 1000000000000000000 := by decide
/-- a list of our own, written -/
theorem own_w {H H3 H4 : Hp} {D : Addr} {o : HO} (hD0 : H D = none) (S3 : Same H H3) (S4 : Same H3 H4) : Same H (upd H4 D o) := fun c x e => by
  have nb : c ≠ D := fun q => by
    rw [q, hD0] at e
    cases e
  rw [upd_ne nb]
  exact S4 _ _ (S3 _ _ e)
theorem snoc_int (gs : List Int) (x : Int) : gs.map V.int ++ [V.int x] = (gs ++ [x]).map V.int := by
  rw [List.map_append]
  rfl
theorem nn_abs (z : Int) : 0 ≤ (if z < 0 then -z else z) := by
  by_cases h : z < 0
  · rw [if_pos h]
    omega
  · rw [if_neg h]
    omega

/-! behind _law_begun -/
theorem dg_great {H : Hp} {d g c : Addr} {n t : Int} (h : H d = some (.dK (drK g c n t))) : DGet H d (.str "great") (some (.ref g)) := by
  have q := DGet.k (k := .inr "great") h
  rw [val_great] at q
  exact q
theorem dg_cells {H : Hp} {d g c : Addr} {n t : Int} (h : H d = some (.dK (drK g c n t))) : DGet H d (.str "cells") (some (.ref c)) := by
  have q := DGet.k (k := .inr "cells") h
  rw [val_cells] at q
  exact q
theorem dg_left {H : Hp} {d g c : Addr} {n t : Int} (h : H d = some (.dK (drK g c n t))) : DGet H d (.str "left") (some (.int n)) := by
  have q := DGet.k (k := .inr "left") h
  rw [val_left] at q
  exact q
theorem dg_turn {H : Hp} {d g c : Addr} {n t : Int} (h : H d = some (.dK (drK g c n t))) : DGet H d (.str "turn") (some (.int t)) := by
  have q := DGet.k (k := .inr "turn") h
  rw [val_turn] at q
  exact q
theorem dp_left {H : Hp} {d g c : Addr} {n t : Int} (m : Int) (h : H d = some (.dK (drK g c n t))) : DPut H d (.str "left") (.int m) (upd H d (.dK (drK g c m t))) := by
  have q := DPut.k (k := .inr "left") (v := .int m) h (by show 4 < sizeLine; decide)
  rw [put_left] at q
  exact q
theorem dp_turn {H : Hp} {d g c : Addr} {n t : Int} (m : Int) (h : H d = some (.dK (drK g c n t))) : DPut H d (.str "turn") (.int m) (upd H d (.dK (drK g c n m))) := by
  have q := DPut.k (k := .inr "turn") (v := .int m) h (by show 4 < sizeLine; decide)
  rw [put_turn] at q
  exact q
/-! ### one more long number -/
def spMixed : Sp := fun vs H Q _ => ∃ (d g c : Addr) (t : Int), vs = [.ref d] ∧ Dr H d g c t ∧ t ≤ 1000000000000 ∧ ∀ H' n, 0 ≤ n → Fr d g H H' → Dr H' d g c (t + 1) → Q (.int n) H'
/-! K -/
def spTake : Sp := fun vs H Q _ => ∃ (d g c : Addr) (t m : Int), vs = [.ref d, .int m] ∧ Dr H d g c t ∧ t ≤ 1000000000000 ∧ 0 < m ∧ m < 1000000000 ∧ ∀ H' r t', 0 ≤ r → r < m → t' ≤ t + 1 → Fr d g H H' → Dr H' d g c t' → Q (.int r) H'
/-- some(xs) of what was drawn -/
def spPick : Sp := fun vs H Q _ => ∃ (d g c l : Addr) (t : Int) (xs : List V), vs = [.ref d, .ref l] ∧ Dr H d g c t ∧ t ≤ 1000000000000 ∧ l ≠ g ∧ H l = some (.lst xs) ∧ xs ≠ [] ∧ xs.length < 1000000 ∧ ∀ H' x t', x ∈ xs → t' ≤ t + 1 → Fr d g H H' → Dr H' d g c t' → Q x H'
/-- another heap in which the draws stand as they stood -/
theorem Dr.grow {H H' : Hp} {d g c : Addr} {t : Int} (h : Dr H d g c t) (e : Same H H') : Dr H' d g c t := by
  obtain ⟨gs, cs, n, a1, a2, a3, r⟩ := h
  exact ⟨gs, cs, n, e _ _ a1, e _ _ a2, e _ _ a3, r⟩
theorem seq_at {j n : Nat} (h : j < n) : seqIndex? (j : Int) n = some j := by
  unfold seqIndex?
  simp
  omega

/-! L -/
/-! ### an error caught and told -/
theorem takes_len {X : Cx} {W : WX} (t : Takes X W) : Takes X (fun cls d σ H => σ.length = X.N.length → W cls d σ H) := fun u s' z => by
  obtain ⟨a, B, sI, pins, σ, H, cls, d, e, I, nb, up, sky, na, os, ag, w⟩ := z
  exact t u s' ⟨a, B, sI, pins, σ, H, cls, d, e, I, nb, up, sky, na, os, ag, w I.len⟩
def TTc (K : PySem.W.Frag) (CS : Addr) : (XK → Hp → VK → Prop) → Hp → VK → Prop := fun tl H Q =>
  tl (fun cls d H' => d = none ∧ PySem.W.exmOne K cls (.ref CS) = some true ∧ ∀ a, H' a = none → Q (.ref a) (upd H' a (GS.ExT cls a))) H (fun _ H' => ∃ v, (some (some V.non) : Option (Option V)) = some (some v) ∧ Q v H')
/-- isinstance(e, C), e a kept exception -/
def rIsT (K : PySem.W.Frag) : List V → Hp → VK → Prop := fun xs H Q => ∃ (a D C : Addr) (b : Bool), xs = [.ref a, .ref C] ∧ ExcC K D ∧ H a = some (GS.ExT (.ref D) a) ∧ PySem.W.kitOne K (.ref D) (.ref C) = some b ∧ Q (.bl b) H
theorem call_isT {X : Cx} : CallR X (.builtin "isinstance") (rIsT X.K) := by
  intro pins s σ H xs us Q I r h
  obtain ⟨a, D, C, b, rfl, Z, ha, e, q⟩ := h
  obtain ⟨u1, u2, rfl, r1, r2⟩ := vals2 r
  cases r1
  cases r2
  obtain ⟨⟨ob, us, eob, zob, dob⟩, _, _⟩ := I.hok a _ ha
  have J : PySem.W.InstAt s.heap a ob D none := by
    obtain ⟨oc, od, odt, osl⟩ := ob
    obtain ⟨h1, h2⟩ := zob
    dsimp only at h1 h2 dob
    subst h1 h2 dob
    exact ⟨eob, rfl, rfl, trivial⟩
  exact PySem.W.kia_one (PySem.W.handS_kitx_exc Z.hg Z.hk Z.hs Z.hd Z.ha Z.hn Z.ht Z.hm) I.kIn J e (fun z => nomatch z) fun tk => ⟨.bl b, H, I.tok tk, rfl, q⟩
theorem caught_gives {X : Cx} {q : Str} {g CS : Addr} {cdg : Value} (hme : X.mg "GapError" = some (.ref CS)) :
    LamX.GivesTo X N_l_caught "_law_caught" (defScope S_l_caught) g cdg (defBody S_l_caught) "task" q (TTc X.K CS) := by
  intro f c' s H Q tl act hc h
  refine ⟨_, pss_cons (ps_set (i := 1) c_l_caught.nd rfl (Or.inl rfl) pe_non) (pss_cons (GS.ps_try_keep (i := 2) (j := 1) (c := .ref CS)
      (tb := fun W D σ H => ∃ Ech : XK, (∀ cls d σ' H', Ech cls d H' → σ'.length = 3 → W cls d σ' H') ∧ σ[0]? = some (some (.ref f)) ∧ H c' = some (LamX.CodeO c' q) ∧ tl Ech H (fun _ H' => D.nx σ H'))
      rfl rfl rfl c_l_caught.nd rfl rfl rfl rfl (by decide) (by decide) ⟨by rfl, by decide, .inl hme⟩ (by rfl) (fun W pn xe tk _ => ?_)) (pss_one (ps_ret (pv 1)))), ?_⟩
  · refine ⟨fun pins s' σ H' D I h' => ?_⟩
    obtain ⟨Ech, hW, h1, h2, h3⟩ := h'
    exact (pss_one (ps_expr (act (fun cls d σ H => σ.length = 3 → W cls d σ H) pn xe Ech _ _ (takes_len tk) hW))).run pins s' σ H' D I ⟨h1, h2, h3⟩
  · refine ⟨fun cls d H' => d = none ∧ PySem.W.exmOne X.K cls (.ref CS) = some true ∧ ∀ a, H' a = none → Q (.ref a) (upd H' a (GS.ExT cls a)), fun cls d σ' H' hE hl => ⟨hE.1, hE.2.1, fun a ha => ?_⟩, rfl, hc, h⟩
    refine ⟨.ref a, ?_, hE.2.2 a ha⟩
    match σ', hl with
    | [_, _, _], _ => rfl

/-! M -/
def spSays : Sp := fun vs H Q _ => ∃ b c : Bool, vs = [.bl b, .bl c] ∧ Q (.bl (b == c)) H
def spNumbers : Sp := fun vs H Q _ => ∃ (z : Addr) (x y : Int), vs = [.ref z, .int 2] ∧ Bo H z x y ∧ ∀ H', Same H H' → Q (.bl true) H'
/-- the law's list of blocks -/
def Bl (H : Hp) (l : Addr) (bs : List Bk) : Prop := ∃ rs : List Addr, H l = some (.lst (rs.map V.ref)) ∧ Bks H rs bs
theorem Bl.same {H H' : Hp} {l : Addr} {bs : List Bk} (e : Same H H') (h : Bl H l bs) : Bl H' l bs := by
  obtain ⟨rs, h1, h2⟩ := h
  exact ⟨rs, e _ _ h1, pd_imp h2 fun _ _ => e _ _⟩
def spDue : Sp := fun vs H Q _ => ∃ (l : Addr) (i j : Nat) (bs : List Bk) (p q : Bk), vs = [.ref l, .int i, .int j] ∧ Bl H l bs ∧ bs[i]? = some p ∧ bs[j]? = some q ∧ ∀ H' z, Same H H' → H z = none → Bo H' z (gx p q) (gy p q) → Q (.ref z) H'
def spLNear : Sp := fun vs H Q _ => ∃ (l t : Addr) (i j : Nat) (a b : Int) (bs : List Bk) (p q : Bk), vs = [.ref l, .ref t, .int i, .int j] ∧ Bl H l bs ∧ bs[i]? = some p ∧ bs[j]? = some q ∧ p.ok ∧ q.ok ∧ Bo H t a b ∧ 1 ≤ a ∧ 1 ≤ b ∧ Q (.bl (nr p q a b)) H
theorem nr_iff {p q : Bk} {a b : Int} (hp : p.ok) (hq : q.ok) (ha : 1 ≤ a) (hb : 1 ≤ b) : nr p q a b = (!decide (min p.r q.r ≤ max p.l q.l - a) && !decide (min p.u q.u ≤ max p.d q.d - b)) := by
  obtain ⟨p1, p2⟩ := hp
  obtain ⟨q1, q2⟩ := hq
  unfold nr gx gy
  rw [← decide_not, ← decide_not]
  have e1 : (max (q.l - p.r) (p.l - q.r) < a) = ¬ (min p.r q.r ≤ max p.l q.l - a) := propext (by omega)
  have e2 : (max (q.d - p.u) (p.d - q.u) < b) = ¬ (min p.u q.u ≤ max p.d q.d - b) := propext (by omega)
  simp only [e1, e2]
theorem min_if (i j : Int) : (if j < i then j else i) = min i j := by
  by_cases h : j < i
  · rw [if_pos h]
    omega
  · rw [if_neg h]
    omega

/-! N -/
def spLPairs : Sp := fun vs H Q _ => ∃ (l t : Addr) (a b : Int) (bs : List Bk), vs = [.ref l, .ref t] ∧ Bl H l bs ∧ (∀ x ∈ bs, x.ok) ∧ bs.length ≤ 12 ∧ Bo H t a b ∧ 1 ≤ a ∧ 1 ≤ b ∧ ∀ H' z, Same H H' → H z = none → PrL H' z (prsTo (nrF bs a b) bs.length bs.length) → Q (.ref z) H'
def spLLeast : Sp := fun vs H Q _ => ∃ (l z : Addr) (i j : Nat) (bs : List Bk) (p q : Bk), vs = [.ref l, .int i, .int j, .ref z] ∧ Bl H l bs ∧ bs[i]? = some p ∧ bs[j]? = some q ∧ p.ok ∧ q.ok ∧ H z = some (.tup (lnr p q)) ∧ ∀ H', Same H H' → Q (.bl true) H'
theorem Bl.len {H : Hp} {l : Addr} {bs : List Bk} (h : Bl H l bs) : ∃ rs : List Addr, H l = some (.lst (rs.map V.ref)) ∧ (rs.map V.ref).length = bs.length := by
  obtain ⟨rs, h1, h2⟩ := h
  exact ⟨rs, h1, by rw [List.length_map, pd_len h2]⟩
theorem PrL.same {H H' : Hp} {z : Addr} {ps : List (Int × Int)} (e : Same H H') (h : PrL H z ps) : PrL H' z ps := by
  obtain ⟨as, h1, h2⟩ := h
  exact ⟨as, e _ _ h1, pd_imp h2 fun _ _ => e _ _⟩
/-- a pair more in a list D of our own -/
theorem pr_more {H H3 : Hp} {D z : Addr} {ps : List (Int × Int)} {x y : Int} (hD0 : H D = none) (S3 : Same H H3) (hP : PrL H3 D ps) (hz : H3 z = none) :
    ∃ acc : List V, upd H3 z (.tup [.int x, .int y]) D = some (.lst acc) ∧ acc.length = ps.length ∧ Same H (upd (upd H3 z (.tup [.int x, .int y])) D (.lst (acc ++ [.ref z]))) ∧ PrL (upd (upd H3 z (.tup [.int x, .int y])) D (.lst (acc ++ [.ref z]))) D (ps ++ [(x, y)]) := by
  obtain ⟨as, h1, h2⟩ := hP
  have nD : D ≠ z := ne_of_none h1 hz
  refine ⟨as.map V.ref, by rw [upd_ne nD]; exact h1, by rw [List.length_map, pd_len h2], own_w hD0 S3 (same_new hz), as ++ [z], ?_, ?_⟩
  · rw [upd_same, List.map_append]
    rfl
  · refine pd_app (pd_imp h2 fun r p e => ?_) (.cons ?_ .nil)
    · have nb : r ≠ D := ne_of e h1 (by intro q; cases q)
      rw [upd_ne nb, upd_ne (ne_of_none e hz)]
      exact e
    · rw [upd_ne nD.symm, upd_same]

/-! O -/
/-- all in a new list, in some order -/
def spShuf : Sp := fun vs H Q _ => ∃ (d g c l : Addr) (t : Int) (xs : List V), vs = [.ref d, .ref l] ∧ Dr H d g c t ∧ t ≤ 900000000000 ∧ l ≠ g ∧ H l = some (.lst xs) ∧ xs.length ≤ 100 ∧
  ∀ H' z ys t', ys.Perm xs → t' ≤ t + xs.length → H z = none → H' z = some (.lst ys) → Fr d g H H' → Dr H' d g c t' → Q (.ref z) H'
def spBlock : Sp := fun vs H Q _ => ∃ (d g c : Addr) (t m : Int), vs = [.ref d, .int m] ∧ Dr H d g c t ∧ t ≤ 900000000000 ∧ 0 < m ∧ m < 1000000000 ∧
  ∀ H' z b t', b.ok → t' ≤ t + 4 → H z = none → H' z = some (.tup (Bk.v b)) → Fr d g H H' → Dr H' d g c t' → Q (.ref z) H'
theorem Dr.dg {H : Hp} {d g c : Addr} {t : Int} (h : Dr H d g c t) : (∃ kvs, H d = some (.dK kvs)) ∧ (∃ xs, H g = some (.lst xs)) ∧ d ≠ g := by
  obtain ⟨gs, cs, n, h1, h2, _⟩ := h
  exact ⟨⟨_, h1⟩, ⟨_, h2⟩, ne_of h1 h2 (by intro q; cases q)⟩
/-- what is new is none of the draws' -/
theorem Dr.new {H : Hp} {d g c z : Addr} {t : Int} (h : Dr H d g c t) (hz : H z = none) : z ≠ d ∧ z ≠ g := by
  obtain ⟨⟨_, h1⟩, ⟨_, h2⟩, _⟩ := h.dg
  refine ⟨fun e => ?_, fun e => ?_⟩
  · rw [e, h1] at hz
    cases hz
  · rw [e, h2] at hz
    cases hz
theorem Fr.tup {d g c : Addr} {t : Int} {H H' : Hp} (h : Dr H d g c t) (f : Fr d g H H') {b : Addr} {xs : List V} (e : H b = some (.tup xs)) : H' b = some (.tup xs) := by
  obtain ⟨⟨_, h1⟩, ⟨_, h2⟩, _⟩ := h.dg
  exact f b _ (ne_of e h1 (by intro q; cases q)) (ne_of e h2 (by intro q; cases q)) e
/-- fresh behind, fresh ahead -/
theorem Fr.free {d g c z : Addr} {t : Int} {H H' : Hp} (h : Dr H d g c t) (h' : Dr H' d g c t') (f : Fr d g H H') (hz : H' z = none) : H z = none := by
  obtain ⟨n1, n2⟩ := h'.new hz
  cases e : H z with
  | none => rfl
  | some o =>
    rw [f z o n1 n2 e] at hz
    cases hz
/-- a list of our own written: the draws stand -/
theorem Dr.own {H H3 : Hp} {d g c z : Addr} {t t3 : Int} {o : HO} (h : Dr H d g c t) (h3 : Dr H3 d g c t3) (hz : H z = none) (hzc : H3 c ≠ none → z ≠ c) : Dr (upd H3 z o) d g c t3 := by
  obtain ⟨gs, cs, n, h1, h2, hc, r⟩ := h3
  obtain ⟨n1, n2⟩ := h.new hz
  have n3 : z ≠ c := hzc (by rw [hc]; exact fun q => nomatch q)
  exact ⟨gs, cs, n, by rw [upd_ne n1.symm]; exact h1, by rw [upd_ne n2.symm]; exact h2, by rw [upd_ne n3.symm]; exact hc, r⟩
theorem Dr.newc {H : Hp} {d g c z : Addr} {t : Int} (h : Dr H d g c t) (hz : H z = none) : z ≠ c := by
  obtain ⟨gs, cs, n, h1, h2, hc, r⟩ := h
  exact fun e => by
    rw [e, hc] at hz
    cases hz
theorem Fr.own {H H3 : Hp} {d g z : Addr} {o : HO} (hz : H z = none) (f : Fr d g H H3) : Fr d g H (upd H3 z o) := fun b x h1 h2 e => by
  have nb : b ≠ z := fun q => by
    rw [q, hz] at e
    cases e
  rw [upd_ne nb]
  exact f b x h1 h2 e
theorem perm_pop {xs ls fs : List V} {k : Nat} {y : V} (h : (ls ++ fs).Perm xs) (hk : ls[k]? = some y) : (ls.eraseIdx k ++ (fs ++ [y])).Perm xs := by
  obtain ⟨hk2, rfl⟩ := List.getElem?_eq_some_iff.mp hk
  refine List.Perm.trans ?_ h
  rw [← List.append_assoc]
  refine (List.perm_append_singleton _ _).trans ?_
  rw [← List.cons_append]
  refine List.Perm.append_right _ ?_
  rw [List.eraseIdx_eq_take_drop_succ]
  have e : ls = ls.take k ++ ls[k] :: ls.drop (k + 1) := by
    rw [← List.drop_eq_getElem_cons hk2, List.take_append_drop]
  refine (List.perm_middle.symm).trans (List.Perm.of_eq e.symm)

/-! P -/
def spPen : Sp := fun vs H Q _ => ∃ (d g c : Addr) (t L W wd tl : Int), vs = [.ref d, .int L, .int W, .int wd, .int tl] ∧ Dr H d g c t ∧ t ≤ 800000000000 ∧ 1 ≤ wd ∧ 1 ≤ tl ∧
  ∀ H' z bs t', Bl H' z bs → bs.length = 4 → (∀ b ∈ bs, b.ok) → bs.Nodup → t' ≤ t + 6 → H z = none → Fr d g H H' → Dr H' d g c t' → Q (.ref z) H'
/-- the blocks of a list of our own, in the heap behind draws -/
theorem Bl.fr {d g c l : Addr} {t : Int} {H H' : Hp} {bs : List Bk} (hD : Dr H d g c t) (f : Fr d g H H') (h : Bl H l bs) (hl : l ≠ g) : Bl H' l bs := by
  obtain ⟨rs, h1, h2⟩ := h
  obtain ⟨⟨_, e1⟩, _, _⟩ := hD.dg
  exact ⟨rs, f l _ (ne_of h1 e1 (by intro q; cases q)) hl h1, pd_imp h2 fun _ _ e => f.tup hD e⟩
theorem Fr.bo {d g c p : Addr} {t a b : Int} {H H' : Hp} (hD : Dr H d g c t) (f : Fr d g H H') (h : Bo H p a b) : Bo H' p a b := f.tup hD h

/-! Q -/
/-- a dict that tells f of the ints ns -/
def Tab (H : Hp) (A : Addr) (f : Int → Int) (ns : List Int) : Prop := ∃ kvs : List (Key × V), H A = some (.dK kvs) ∧ ∀ n ∈ ns, valV kvs (.inl n) = some (.int (f n))
theorem Tab.get {H : Hp} {A : Addr} {f : Int → Int} {ns : List Int} {n : Int} (h : Tab H A f ns) (hn : n ∈ ns) : DGet H A (.int n) (some (.int (f n))) := by
  obtain ⟨kvs, h1, h2⟩ := h
  have q := DGet.k (k := .inl n) h1
  rw [h2 n hn] at q
  exact q
theorem Tab.same {H H' : Hp} {A : Addr} {f : Int → Int} {ns : List Int} (e : Same H H') (h : Tab H A f ns) : Tab H' A f ns := by
  obtain ⟨kvs, h1, h2⟩ := h
  exact ⟨kvs, e _ _ h1, h2⟩
def stB (fa fu : Int → Int) (b : Bk) : Bk := ⟨fa b.l, fu b.d, fa b.r, fu b.u⟩
def spStr : Sp := fun vs H Q _ => ∃ (l A U : Addr) (bs : List Bk) (fa fu : Int → Int) (xs ys : List Int), vs = [.ref l, .ref A, .ref U] ∧ Bl H l bs ∧ Tab H A fa xs ∧ Tab H U fu ys ∧ (∀ b ∈ bs, b.l ∈ xs ∧ b.r ∈ xs ∧ b.d ∈ ys ∧ b.u ∈ ys) ∧ bs.length ≤ 100 ∧
  ∀ H' z, Same H H' → H z = none → Bl H' z (bs.map (stB fa fu)) → Q (.ref z) H'
/-- a block more in a list D of our own -/
theorem bl_more {H H3 : Hp} {D z : Addr} {bs : List Bk} {b : Bk} (hD0 : H D = none) (S3 : Same H H3) (hP : Bl H3 D bs) (hz : H3 z = none) :
    ∃ acc : List V, upd H3 z (.tup b.v) D = some (.lst acc) ∧ acc.length = bs.length ∧ Same H (upd (upd H3 z (.tup b.v)) D (.lst (acc ++ [.ref z]))) ∧ Bl (upd (upd H3 z (.tup b.v)) D (.lst (acc ++ [.ref z]))) D (bs ++ [b]) := by
  obtain ⟨as, h1, h2⟩ := hP
  have nD : D ≠ z := ne_of_none h1 hz
  refine ⟨as.map V.ref, by rw [upd_ne nD]; exact h1, by rw [List.length_map, pd_len h2], own_w hD0 S3 (same_new hz), as ++ [z], ?_, ?_⟩
  · rw [upd_same, List.map_append]
    rfl
  · refine pd_app (pd_imp h2 fun r p e => ?_) (.cons ?_ .nil)
    · have nb : r ≠ D := ne_of e h1 (by intro q; cases q)
      rw [upd_ne nb, upd_ne (ne_of_none e hz)]
      exact e
    · rw [upd_ne nD.symm, upd_same]
/-- a table of what was given, strictly rising -/
def spTable (K : PySem.W.Frag) : Sp := fun vs H Q _ => ∃ (d g c l : Addr) (t : Int) (ns : List Int), vs = [.ref d, .ref l] ∧ Dr H d g c t ∧ t ≤ 700000000000 ∧ SqL K H l (ns.map V.int) ∧ l ≠ g ∧ ns.length < 60 ∧
  ∀ H' z t' f, t' ≤ t + 70 → H z = none → Tab H' z f ns → (∀ n ∈ ns, ∀ m ∈ ns, n < m → f n < f m) → Fr d g H H' → Dr H' d g c t' → Q (.ref z) H'
/-- for k, x in enumerate(xs) -/
theorem for_enumL {K : PySem.W.Frag} {a : Addr} {xs : List V} {g : TG} {tb : TS} {D : Ends} {σ : L2.St} {H : Hp} (Pv : Nat → L2.St → Hp → Prop) (h0 : Pv 0 σ H) (hl : ∀ i σ H, Pv i σ H → SqL K H a xs)
    (hs : ∀ i x T σ H, xs[i]? = some x → Pv i σ H → H T = none → g (.ref T) σ (upd H T (.tup [.int (i : Nat), x])) fun σ2 H2 => tb { D with nx := Pv (i + 1), ct := Pv (i + 1), bk := D.nx } σ2 H2) (hd : ∀ σ H, Pv xs.length σ H → D.nx σ H) :
    ∃ W : Nat → Nat → L2.St → Hp → Prop, (∃ m, W 0 m σ H) ∧ ∀ i m σ H, W i m σ H →
      ((Ite K a).stop i H ∧ D.nx σ H) ∨ ((Ite K a).go i H ∧ ∃ N : L2.St → Hp → Prop, (∀ σ' H', N σ' H' → ∃ m', m' < m ∧ W (i + 1) m' σ' H') ∧ ∀ x H', (Ite K a).yld i H x H' → g x σ H' fun σ2 H2 => tb { D with nx := N, ct := N, bk := D.nx } σ2 H2) := by
  refine ⟨fun i m σ H => m = xs.length - i ∧ i ≤ xs.length ∧ Pv i σ H, ⟨xs.length, by simp, Nat.zero_le _, h0⟩, fun i m σ H hW => ?_⟩
  obtain ⟨rfl, hi, p⟩ := hW
  have q := hl i σ H p
  by_cases hlt : i < xs.length
  · refine .inr ⟨⟨xs, xs[i], q, by simp [hlt]⟩, Pv (i + 1), fun σ' H' p' => ⟨xs.length - (i + 1), by omega, rfl, hlt, p'⟩, fun x H' y => ?_⟩
    obtain ⟨T, x', e1, e2, e3, e4⟩ := y
    rw [e1, e3]
    exact hs i x' T σ H (e4 xs q) p e2
  · have e : i = xs.length := by omega
    refine .inl ⟨⟨xs, q, Nat.le_of_not_lt hlt⟩, hd σ H ?_⟩
    rw [e] at p
    exact p
theorem take_lt {line : List Int} {i : Nat} {old : Int} (up : line.Pairwise (· < ·)) (hi : line[i]? = some old) : ∀ n ∈ line.take i, n < old := fun n hn => by
  obtain ⟨hi2, e⟩ := List.getElem?_eq_some_iff.mp hi
  obtain ⟨j, hj, ej⟩ := List.mem_take_iff_getElem.mp hn
  have z := List.pairwise_iff_getElem.mp up j i (by omega) hi2 (by omega)
  rw [e, ej] at z
  exact z
theorem tab_step {line : List Int} {i : Nat} {old v : Int} {kvs : List (Key × V)} {f : Int → Int} (up : line.Pairwise (· < ·)) (hi : line[i]? = some old) (h1 : ∀ n ∈ line.take i, valV kvs (.inl n) = some (.int (f n)))
    (h2 : ∀ n ∈ line.take i, ∀ m ∈ line.take i, n < m → f n < f m) (h3 : ∀ n ∈ line.take i, f n < v) :
    ∃ f' : Int → Int, (∀ n ∈ line.take (i + 1), valV (putK kvs (.inl old) (.int v)) (.inl n) = some (.int (f' n))) ∧ (∀ n ∈ line.take (i + 1), ∀ m ∈ line.take (i + 1), n < m → f' n < f' m) ∧ (∀ n ∈ line.take i, f' n = f n) ∧ f' old = v := by
  have lt := take_lt up hi
  have split_ : ∀ n ∈ line.take (i + 1), n ∈ line.take i ∨ n = old := fun n hn => by
    rw [List.take_add_one, hi] at hn
    rcases List.mem_append.mp hn with m | m
    · exact .inl m
    · exact .inr (List.mem_singleton.mp m)
  have e1 : ∀ n ∈ line.take i, (if n = old then v else f n) = f n := fun n hn => if_neg (by have := lt n hn; omega)
  refine ⟨fun n => if n = old then v else f n, fun n hn => ?_, fun n hn m hm hnm => ?_, e1, if_pos rfl⟩
  · show valV (putK kvs (.inl old) (.int v)) (.inl n) = some (.int (if n = old then v else f n))
    rw [valV_put]
    rcases split_ n hn with m | m
    · have ne : ¬ n = old := by have := lt n m; omega
      rw [if_neg (fun z : (Sum.inl n : Key) = Sum.inl old => ne (Sum.inl.inj z)), if_neg ne]
      exact h1 n m
    · subst m
      rw [if_pos rfl, if_pos rfl]
  · rcases split_ n hn with a | a <;> rcases split_ m hm with b | b
    · show (if n = old then v else f n) < (if m = old then v else f m)
      rw [e1 n a, e1 m b]
      exact h2 n a m b hnm
    · subst b
      show (if n = m then v else f n) < (if m = m then v else f m)
      rw [e1 n a, if_pos rfl]
      exact h3 n a
    · subst a
      have := lt m b
      omega
    · omega
theorem putK_le (kvs : List (Key × V)) (k : Key) (v : V) : (putK kvs k v).length ≤ kvs.length + 1 := by
  unfold putK
  split
  · rw [List.length_map]
    omega
  · rw [List.length_append]
    exact Nat.le_refl _
/-- what stands ahead of turn i of the table's loop -/
def TI (d g c l q A : Addr) (way fac t : Int) (line : List Int) (H : Hp) (i : Nat) (σ : L2.St) (H9 : Hp) : Prop := ∃ (here : Int) (x7 x8 : Option V) (kvs : List (Key × V)) (f : Int → Int) (t9 : Int), σ = [some (.ref d), some (.ref l), some (.ref q), some (.int way), some (.ref A), some (.int here), some (.int fac), x7, x8] ∧
        H9 A = some (.dK kvs) ∧ kvs.length ≤ i ∧ (∀ n ∈ line.take i, valV kvs (.inl n) = some (.int (f n))) ∧ (∀ n ∈ line.take i, ∀ m ∈ line.take i, n < m → f n < f m) ∧ (way < 2 → ∀ n ∈ line.take i, f n = n + here) ∧ (way = 2 → ∀ n ∈ line.take i, f n = n * fac + here) ∧
        (2 < way → ∀ n ∈ line.take i, f n ≤ here) ∧ Fr d g H H9 ∧ Dr H9 d g c t9 ∧ t9 ≤ t + 3 + i ∧ H9 q = some (.lst (line.map V.int))
theorem TI.next {d g c l q A : Addr} {way fac t here here' v t11 : Int} {line : List Int} {H H11 : Hp} {i : Nat} {old : Int} {kvs : List (Key × V)} {f : Int → Int} {x7 x8 : Option V} {ct : Int} (hD : Dr H d g c ct) (hA0 : H A = none) (up : line.Pairwise (· < ·)) (ho : line[i]? = some old)
    (hk : kvs.length ≤ i) (h1 : ∀ n ∈ line.take i, valV kvs (.inl n) = some (.int (f n))) (h2 : ∀ n ∈ line.take i, ∀ m ∈ line.take i, n < m → f n < f m) (ca : way < 2 → ∀ n ∈ line.take i, f n = n + here) (cb : way = 2 → ∀ n ∈ line.take i, f n = n * fac + here) (cc : 2 < way → ∀ n ∈ line.take i, f n ≤ here)
    (h3 : ∀ n ∈ line.take i, f n < v) (ka : way < 2 → v = old + here' ∧ here' = here) (kb : way = 2 → v = old * fac + here' ∧ here' = here) (kc : 2 < way → v = here' ∧ here ≤ here') (F11 : Fr d g H H11) (d11 : Dr H11 d g c t11) (ht : t11 ≤ t + 3 + (i + 1 : Nat)) (hq : H11 q = some (.lst (line.map V.int))) (nqA : q ≠ A) :
    TI d g c l q A way fac t line H (i + 1) [some (.ref d), some (.ref l), some (.ref q), some (.int way), some (.ref A), some (.int here'), some (.int fac), x7, x8] (upd H11 A (.dK (putK kvs (.inl old) (.int v)))) := by
  obtain ⟨f', g1, g2, g3, g4⟩ := tab_step up ho h1 h2 h3
  have split_ : ∀ n ∈ line.take (i + 1), n ∈ line.take i ∨ n = old := fun n hn => by
    rw [List.take_add_one, ho] at hn
    rcases List.mem_append.mp hn with m | m
    · exact .inl m
    · exact .inr (List.mem_singleton.mp m)
  refine ⟨here', x7, x8, putK kvs (.inl old) (.int v), f', t11, rfl, upd_same, ?_, g1, g2, fun z n hn => ?_, fun z n hn => ?_, fun z n hn => ?_, Fr.own hA0 F11, Dr.own hD d11 hA0 (fun _ => hD.newc hA0), ht, ?_⟩
  · have := putK_le kvs (.inl old) (.int v)
    omega
  · obtain ⟨a1, a2⟩ := ka z
    rcases split_ n hn with m | m
    · rw [g3 n m, ca z n m, a2]
    · rw [m, g4, a1]
  · obtain ⟨a1, a2⟩ := kb z
    rcases split_ n hn with m | m
    · rw [g3 n m, cb z n m, a2]
    · rw [m, g4, a1]
  · obtain ⟨a1, a2⟩ := kc z
    rcases split_ n hn with m | m
    · rw [g3 n m]
      exact Int.le_trans (cc z n m) a2
    · rw [m, g4, a1]
      exact Int.le_refl _
  · rw [upd_ne nqA]
    exact hq

/-! R -/
theorem un65 {A : Around} {k : Nat} (hr : Room k A) : A.units + 65 < cLine := by
  have := hr.un
  omega
/-- law's blocks: at most m, in order, of draws -/
def spBlocks : Sp := fun vs H Q _ => ∃ (d g c : Addr) (t m : Int), vs = [.ref d, .int m] ∧ Dr H d g c t ∧ t ≤ 600000000000 ∧ 1 ≤ m ∧ m ≤ 12 ∧
  ∀ H' z bs t', Bl H' z bs → (∀ b ∈ bs, b.ok) → bs.Nodup → (bs.length : Int) ≤ m → Asc bs → H z = none → t' ≤ t + 300 → Fr d g H H' → Dr H' d g c t' → Q (.ref z) H'
/-- a block more in a list of our own, whatever else stands there -/
theorem bl_add {H3 : Hp} {D z : Addr} {bs : List Bk} {b : Bk} (hP : Bl H3 D bs) (hz : H3 z = none) :
    ∃ acc : List V, upd H3 z (.tup b.v) D = some (.lst acc) ∧ acc.length = bs.length ∧ Bl (upd (upd H3 z (.tup b.v)) D (.lst (acc ++ [.ref z]))) D (bs ++ [b]) := by
  obtain ⟨acc, q1, q2, _, q4⟩ := bl_more (H := fun _ => none) rfl (fun a o e => by cases e) hP hz
  exact ⟨acc, q1, q2, q4⟩
/-- the same of a block that stands there -/
theorem bl_put {H3 : Hp} {D z : Addr} {bs : List Bk} {b : Bk} (hP : Bl H3 D bs) (hz : H3 z = some (.tup b.v)) :
    ∃ acc : List V, H3 D = some (.lst acc) ∧ acc.length = bs.length ∧ Bl (upd H3 D (.lst (acc ++ [.ref z]))) D (bs ++ [b]) := by
  obtain ⟨as, h1, h2⟩ := hP
  have nD : D ≠ z := ne_of h1 hz (by intro q; cases q)
  refine ⟨as.map V.ref, h1, by rw [List.length_map, pd_len h2], as ++ [z], ?_, ?_⟩
  · rw [upd_same, List.map_append]
    rfl
  · refine pd_app (pd_imp h2 fun r p e => ?_) (.cons ?_ .nil)
    · have nb : r ≠ D := ne_of e h1 (by intro q; cases q)
      rw [upd_ne nb]
      exact e
    · rw [upd_ne nD.symm]
      exact hz
theorem any_blk (b : Bk) : ∀ bs : List Bk, (((bs.map Bk.n).map GS.dT).any fun z => PyData.eqv z (GS.dT b.n)) = decide (b ∈ bs)
  | [] => by simp
  | a :: bs => by
    rw [List.map_cons, List.map_cons, List.any_cons, any_blk b bs, GS.eqv_t]
    by_cases e : a = b
    · subst e
      simp
    · have e1 : ¬ a.n = b.n := fun z => e (Bk.n_inj z)
      rw [decide_eq_false e1, Bool.false_or]
      have e2 : b ∈ a :: bs ↔ b ∈ bs := ⟨fun z => by
        rcases List.mem_cons.mp z with z | z
        · exact absurd z.symm e
        · exact z, fun z => List.mem_cons_of_mem _ z⟩
      exact decide_eq_decide.mpr e2.symm
/-- one number of each block -/
theorem col_step {H H3 : Hp} {D : Addr} {f : Bk → Int} {bs : List Bk} {i : Nat} {b : Bk} (hD : H D = none) (S3 : Same H H3) (gb : bs[i]? = some b) :
    Same H (upd H3 D (.lst (((bs.take i).map fun b => V.int (f b)) ++ [.int (f b)]))) ∧ upd H3 D (.lst (((bs.take i).map fun b => V.int (f b)) ++ [.int (f b)])) D = some (.lst ((bs.take (i + 1)).map fun b => V.int (f b))) := by
  refine ⟨own_w hD S3 (Same.refl _), ?_⟩
  rw [upd_same, List.take_add_one, gb, List.map_append]
  rfl
theorem st_nodup {fa fu : Int → Int} {xs ys : List Int} {bs : List Bk} (ha : ∀ n ∈ xs, ∀ m ∈ xs, n < m → fa n < fa m) (hu : ∀ n ∈ ys, ∀ m ∈ ys, n < m → fu n < fu m) (hm : ∀ b ∈ bs, b.l ∈ xs ∧ b.r ∈ xs ∧ b.d ∈ ys ∧ b.u ∈ ys) (hn : bs.Nodup) : (bs.map (stB fa fu)).Nodup := by
  have inj : ∀ (f : Int → Int) (zs : List Int), (∀ n ∈ zs, ∀ m ∈ zs, n < m → f n < f m) → ∀ n ∈ zs, ∀ m ∈ zs, f n = f m → n = m := fun f zs h n hn m hm e => by
    rcases Int.lt_trichotomy n m with q | q | q
    · have := h n hn m hm q
      omega
    · exact q
    · have := h m hm n hn q
      omega
  refine List.pairwise_map.mpr (List.Pairwise.imp_of_mem (fun {a b} ma mb ne e => ne ?_) hn)
  obtain ⟨a1, a2, a3, a4⟩ := hm a ma
  obtain ⟨b1, b2, b3, b4⟩ := hm b mb
  unfold stB at e
  injection e with e1 e2 e3 e4
  have q1 := inj fa xs ha _ a1 _ b1 e1
  have q2 := inj fu ys hu _ a3 _ b3 e2
  have q3 := inj fa xs ha _ a2 _ b2 e3
  have q4 := inj fu ys hu _ a4 _ b4 e4
  obtain ⟨l, dd, r, u⟩ := a
  obtain ⟨l2, d2, r2, u2⟩ := b
  dsimp only at q1 q2 q3 q4
  rw [q1, q2, q3, q4]
theorem st_ok {fa fu : Int → Int} {xs ys : List Int} {bs : List Bk} (ha : ∀ n ∈ xs, ∀ m ∈ xs, n < m → fa n < fa m) (hu : ∀ n ∈ ys, ∀ m ∈ ys, n < m → fu n < fu m) (hm : ∀ b ∈ bs, b.l ∈ xs ∧ b.r ∈ xs ∧ b.d ∈ ys ∧ b.u ∈ ys) (hk : ∀ b ∈ bs, b.ok) : ∀ b ∈ bs.map (stB fa fu), b.ok := fun b hb => by
  obtain ⟨a, ma, rfl⟩ := List.mem_map.mp hb
  obtain ⟨a1, a2, a3, a4⟩ := hm a ma
  obtain ⟨k1, k2⟩ := hk a ma
  exact ⟨ha _ a1 _ a2 k1, hu _ a3 _ a4 k2⟩
/-- what stands behind each part of law's blocks -/
def BI (d g c : Addr) (m t u : Int) (H : Hp) (σ : L2.St) (H1 : Hp) : Prop := ∃ (F : Addr) (bs : List Bk) (way many : Int) (x5 x6 x7 : Option V) (t1 : Int),
  σ = [some (.ref d), some (.int m), some (.int way), some (.ref F), some (.int many), x5, x6, x7, none, none] ∧ H F = none ∧ Bl H1 F bs ∧ (∀ b ∈ bs, b.ok) ∧ bs.Nodup ∧ (bs.length : Int) ≤ m ∧ 0 ≤ many ∧ many ≤ 12 ∧ Fr d g H H1 ∧ Dr H1 d g c t1 ∧ t1 ≤ t + u ∧ (u ≤ 12 → way = 5 → bs = [])
/-- ahead of turn i of the loop that lays blocks in a row -/
def B5 (d g c F : Addr) (m way many t : Int) (x6 x7 : Option V) (H : Hp) (i : Nat) (σ : L2.St) (H3 : Hp) : Prop := ∃ (bs : List Bk) (x5 : Option V) (t3 : Int),
      σ = [some (.ref d), some (.int m), some (.int way), some (.ref F), some (.int many), x5, x6, x7, none, none] ∧ Bl H3 F bs ∧ (∀ b ∈ bs, b.ok) ∧ bs.Nodup ∧ bs.length = i ∧ (∀ b ∈ bs, b.l < 3 * (i : Int)) ∧ Fr d g H H3 ∧ Dr H3 d g c t3 ∧ t3 ≤ t + 12 + 2 * i
/-- ahead of turn i of the loop that draws blocks -/
def BJ (d g c F : Addr) (m way many t : Int) (H : Hp) (i : Nat) (σ : L2.St) (H3 : Hp) : Prop := ∃ (bs : List Bk) (x5 x6 x7 : Option V) (t3 : Int),
      σ = [some (.ref d), some (.int m), some (.int way), some (.ref F), some (.int many), x5, x6, x7, none, none] ∧ Bl H3 F bs ∧ (∀ b ∈ bs, b.ok) ∧ bs.Nodup ∧ (bs.length : Int) ≤ m ∧ Fr d g H H3 ∧ Dr H3 d g c t3 ∧ t3 ≤ t + 41 + 4 * i

/-! S -/
/-- some ascending numbers from 1 on -/
def spGrid : Sp := fun vs H Q _ => ∃ (l s : Addr) (f : Int) (bs : List Bk), vs = [.ref l, .ref s, .int f] ∧ Bl H l bs ∧ H s = some (.lst []) ∧ (f = 0 ∨ f = 1) ∧ bs.length ≤ 7 ∧
  ∀ H' z (ns : List Int), Same H H' → H z = none → H' z = some (.lst (ns.map V.int)) → (∀ n ∈ ns, 1 ≤ n) → ns.length ≤ 60 → Q (.ref z) H'
def spLBody : Sp := fun vs H Q _ => ∃ (d g c l s : Addr) (t : Int) (bs : List Bk), vs = [.ref d, .ref l, .ref s] ∧ Dr H d g c t ∧ t ≤ 900000000000 ∧ Bl H l bs ∧ l ≠ g ∧ H s = some (.lst []) ∧ s ≠ g ∧ bs.length ≤ 7 ∧
  ∀ H' z a b t', 1 ≤ a → 1 ≤ b → Bo H' z a b → H z = none → t' ≤ t + 8 → Fr d g H H' → Dr H' d g c t' → Q (.ref z) H'
/-- ahead of turn i of the grid's loop -/
def GI (l s : Addr) (f : Int) (H : Hp) (i : Nat) (σ : L2.St) (H3 : Hp) : Prop := ∃ (F : Addr) (x4 x5 x6 x7 : Option V) (ns : List Int), σ = [some (.ref l), some (.ref s), some (.int f), some (.ref F), x4, x5, x6, x7] ∧ H F = none ∧ H3 F = some (.lst (ns.map V.int)) ∧ ns.length ≤ 7 * i ∧ Same H H3
/-- ahead of turn i of the body's loop -/
def BD (d g c l s F : Addr) (t : Int) (H : Hp) (i : Nat) (σ : L2.St) (H3 : Hp) : Prop := ∃ (x4 x5 x6 x7 : Option V) (ns : List Int) (t3 : Int), σ = [some (.ref d), some (.ref l), some (.ref s), some (.ref F), x4, x5, x6, x7] ∧ H3 F = some (.lst (ns.map V.int)) ∧ ns.length = i ∧ (∀ n ∈ ns, 1 ≤ n) ∧ Fr d g H H3 ∧ Dr H3 d g c t3 ∧ t3 ≤ t + 4 * i
/-- one number more in a list of our own -/
theorem int_more {H3 : Hp} {D : Addr} {ns : List Int} (x : Int) : upd H3 D (.lst (ns.map V.int ++ [.int x])) D = some (.lst ((ns ++ [x]).map V.int)) := by
  rw [upd_same, snoc_int]
theorem at_bk (b : Bk) {f : Int} (hf : f = 0 ∨ f = 1) : ∃ x y : Int, atI b.v f = some (.int x) ∧ atI b.v (f + 2) = some (.int y) := by
  rcases hf with rfl | rfl
  · exact ⟨b.l, b.r, atI_nat (j := 0) rfl, atI_nat (j := 2) rfl⟩
  · exact ⟨b.d, b.u, atI_nat (j := 1) rfl, atI_nat (j := 3) rfl⟩

/-! T -/
theorem okC {P : Program} {w : World} {K : PySem.W.Frag} {mg : Str → Option Value} {base : Heap} {x qual : Str} {st : Stmt} {f c : Addr} {fd : FuncData} {N ps : List Str} {k : Nat} {sp : Sp} (F : Fun K x qual st f fd) (hc : fd.code = .ref c) (S : FnScope N ps (defScope st)) (len : ∀ vs H Q E, sp vs H Q E → vs.length = ps.length)
    (hbody : ∀ (A : Around) (outer : List Env) (s : Shared) (H : Hp) (vs : List V) (Q : VK) (E : XK), Room k (A.deeper (envOfC qual (defScope st) s.heap.objs.size f (.ref c))) → sp vs H Q E →
      ∃ t, PSs (cxOf CX0 P w K mg base N qual (defScope st) f (.ref c) A outer s H E).nox (defBody st) t ∧ t { nx := fun _ H' => Q .non H', rt := Q } (start N vs) H) : FnOk P w K mg base CX0 (k + 1) f fd ps sp := by
  obtain ⟨oc, od, kV, doc, pm, an, cdv, ct, osl, rfl, lk, hcd⟩ := F.ex
  have e : cdv = .ref c := hc
  subst e
  refine fn_of lk hcd S len fun A outer s H vs Q E hr hsp => ?_
  obtain ⟨t, h, q⟩ := hbody A outer s H vs Q E hr hsp
  exact ⟨t, h.nox, q⟩
theorem Kn.ext {H H' : Hp} {x : V} {n : String} (e : LamX.ExtN H H') (k : Kn H x n) : Kn H' x n := by
  cases k with
  | non => exact .non
  | bl b => exact .bl b
  | int i => exact .int i
  | str s => exact .str s
  | lst h => exact .lst (e _ _ h (by intro ps q; cases q))
  | tup h => exact .tup (e _ _ h (by intro ps q; cases q))
theorem Dr.ext {H H' : Hp} {d g c : Addr} {t : Int} (e : LamX.ExtN H H') (h : Dr H d g c t) : Dr H' d g c t := by
  obtain ⟨gs, cs, n, a1, a2, a3, r⟩ := h
  exact ⟨gs, cs, n, e _ _ a1 (by intro ps q; cases q), e _ _ a2 (by intro ps q; cases q), e _ _ a3 (by intro ps q; cases q), r⟩
theorem Dw.ext {C : Addr} {H H' : Hp} {m : Addr} {bs : List Bk} (e : LamX.ExtN H H') (h : Dw C H m bs) : Dw C H' m bs := by
  obtain ⟨dx, t, rs, h1, h2, h3, h4⟩ := h
  exact ⟨dx, t, rs, e _ _ h1 (by intro ps q; cases q), e _ _ h2 (by intro ps q; cases q), pd_imp h3 fun _ _ z => e _ _ z (by intro ps q; cases q), h4⟩
theorem tabs_fr {TL : List (Addr × Str)} {H H' : Hp} {d g c : Addr} {t : Int} (hD : Dr H d g c t) (f : Fr d g H H') (h : LamX.Tabs TL H) : LamX.Tabs TL H' := fun q hq => by
  obtain ⟨ps, h1, h2, h3⟩ := h q hq
  obtain ⟨⟨_, e1⟩, ⟨_, e2⟩, _⟩ := hD.dg
  refine ⟨ps, f _ _ (ne_of h1 e1 (by intro q; cases q)) (ne_of h1 e2 (by intro q; cases q)) h1, h2, fun pos cv hc => ?_⟩
  obtain ⟨c', e3, e4⟩ := h3 pos cv hc
  exact ⟨c', e3, f _ _ (ne_of e4 e1 (by intro q; unfold LamX.CodeO at q; cases q)) (ne_of e4 e2 (by intro q; unfold LamX.CodeO at q; cases q)) e4⟩
theorem Dw.fr {C : Addr} {H H' : Hp} {d g c m : Addr} {t : Int} {bs : List Bk} (hD : Dr H d g c t) (f : Fr d g H H') (h : Dw C H m bs) : Dw C H' m bs := by
  obtain ⟨dx, tt, rs, h1, h2, h3, h4⟩ := h
  obtain ⟨⟨_, e1⟩, ⟨_, e2⟩, _⟩ := hD.dg
  exact ⟨dx, tt, rs, f _ _ (ne_of h1 e1 (by intro q; cases q)) (ne_of h1 e2 (by intro q; cases q)) h1, f.tup hD h2, pd_imp h3 fun _ _ z => f.tup hD z, h4⟩
theorem Kn.same {H H' : Hp} {x : V} {n : String} (e : Same H H') (k : Kn H x n) : Kn H' x n := k.ext fun b o h _ => e b o h
theorem isIx_nat {n i : Nat} (h : i < n) : isIx n (.int i) = true := by
  show (decide ((0 : Int) ≤ i) && decide ((i : Int) < n)) = true
  rw [decide_eq_true (by omega), decide_eq_true (by omega)]
  rfl

end G21
set_option Elab.async false
set_option linter.all false
set_option maxRecDepth 100000
set_option maxHeartbeats 4000000
namespace G21
open PySem PySem.Spec PyProof.Rows L2
section
variable {P : Program} {w : World} {K : PySem.W.Frag} {mg : Str → Option Value} {base : Heap}
theorem ok0_l_begun (T : Txt K mg) : FnOk P w K mg base CX0 1 T.l_begun.a T.l_begun.d ["script"] (spBegun K) := by
  refine T.l_begun.F.ok c_l_begun (fun vs H Q E h => ?_) (fun cdv A outer s H vs Q E hr h => ?_)
  · obtain ⟨a, ns, rfl, _⟩ := h
    rfl
  · obtain ⟨a, ns, rfl, hS, h63, k⟩ := h
    refine ⟨_,
      (pss_cons (ps_setLc (i := 1) (own := [("cell", 2)]) (g := gName 2) (by rfl) c_l_begun.nd rfl rfl (sw_true rfl rfl rfl (by decide +kernel)) (pi_list (pv 0)) (blkOk_by (own := [("cell", 2)]) (N := N_l_begun) (sc := defScope S_l_begun) (by decide +kernel)) (fun _ _ _ _ _ => pg_name (i := 2) c_l_begun.nd rfl (Or.inl rfl)) (fun _ _ _ _ _ => (pts_one (pt_cmpR op_ge (pe_callB call_abs (by rfl) T.z_abs (by decide +kernel) (pa_cons (pv 2) pa_nil)) (pe_op op_pow pe_int pe_int) (nomark _)))) (fun _ _ _ _ _ => (pe_op op_sub (pe_callB call_abs (by rfl) T.z_abs (by decide +kernel) (pa_cons (pv 2) pa_nil)) (pe_op op_pow pe_int pe_int))))
      (pss_one (ps_ret (pe_disp (pps_cons pe_str (pv 1) (pps_cons pe_str (pe_lc (own := [("cell", 2)]) (g := gName 2) (by rfl) c_l_begun.nd (pi_list (pv 0)) (blkOk_by (own := [("cell", 2)]) (N := N_l_begun) (sc := defScope S_l_begun) (by decide +kernel)) (fun _ _ _ _ _ => pg_name (i := 2) c_l_begun.nd rfl (Or.inl rfl)) (fun _ _ _ _ _ => pts_nil) (fun _ _ _ _ _ => (pe_op op_mod (pe_callTy call_int1 (by rfl) T.z_int (by decide +kernel) (pa_cons (pe_callB call_abs (by rfl) T.z_abs (by decide +kernel) (pa_cons (pv 2) pa_nil)) pa_nil)) pe_int))) (pps_cons pe_str pe_int (pps_cons pe_str pe_int pps_nil)))) (by rfl) (by rfl) (fun z => by cases z) (by decide)))))
      , ?_⟩
    refine ⟨.ref a, rfl, a, rfl, ⟨_, hS⟩, fun D hD => it_list (Pv := fun i H3 => Same H H3 ∧ ∃ gs : List Int, H3 D = some (.lst (gs.map V.int)) ∧ (∀ x ∈ gs, 0 ≤ x) ∧ gs.length ≤ i) ⟨same_new hD, [], upd_same, (fun x h => absurd h (by simp)), Nat.le_refl _⟩ (fun i H3 hP => hP.1.seq hS) ?_ ?_⟩
    · intro i x H3 hx hP
      obtain ⟨z, hz, rfl⟩ := at_map hx
      obtain ⟨S3, gs, hg, hp, hlen⟩ := hP
      have hi : i < ns.length := (List.getElem?_eq_some_iff.mp hz).1
      refine ⟨rfl, ?_⟩
      refine ⟨.int z, rfl, z, rfl, 10, 18, rfl, rfl, ⟨by decide, by decide, by decide⟩, _, _, rfl, rfl, _, rfl, ite2 (fun e => ?_) (fun e => ?_)⟩
      · refine ⟨.int z, rfl, z, rfl, 10, 18, rfl, rfl, ⟨by decide, by decide, by decide⟩, _, _, rfl, rfl, _, hg, ?_, own_w hD S3 (Same.refl _), gs ++ [_], by rw [upd_same, snoc_int], fun x hx => ?_, ?_⟩
        · rw [List.length_map]
          exact sz_few (by omega)
        · rcases List.mem_append.mp hx with m | m
          · exact hp x m
          · have e1 := of_decide_eq_true e
            rw [List.mem_singleton.mp m]
            omega
        · rw [List.length_append, List.length_singleton]
          omega
      · exact ⟨S3, gs, hg, hp, by omega⟩
    · intro H3 hP
      obtain ⟨S3, gs, hg, hp, hlen⟩ := hP
      refine fun p hpn => ?_
      have nDp : D ≠ p := ne_of_none hg hpn
      have S4 : Same H (upd H3 p (.dK [])) := S3.trans (same_new hpn)
      have hg4 : upd H3 p (.dK []) D = some (.lst (gs.map V.int)) := by
        rw [upd_ne nDp]
        exact hg
      refine ⟨.ref D, rfl, ?_⟩
      refine ⟨.ref a, rfl, a, rfl, ⟨_, S4.seq hS⟩, fun C hC => it_list (Pv := fun i H5 => Same (upd H3 p (.dK [])) H5 ∧ ∃ cs : List Int, H5 C = some (.lst (cs.map V.int)) ∧ (∀ x ∈ cs, 0 ≤ x ∧ x < 2147483629) ∧ cs.length ≤ i) ⟨same_new hC, [], upd_same, (fun x h => absurd h (by simp)), Nat.le_refl _⟩ (fun i H5 hP => (S4.trans hP.1).seq hS) ?_ ?_⟩
      · intro i x H5 hx hP5
        obtain ⟨z, hz, rfl⟩ := at_map hx
        obtain ⟨S5, cs, hc, hcp, hcl⟩ := hP5
        have hi : i < ns.length := (List.getElem?_eq_some_iff.mp hz).1
        refine ⟨rfl, yes2 ⟨.int z, rfl, z, rfl, .inl ⟨_, rfl, _, 2147483629, rfl, rfl, (by show (0 : Int) < 2147483629; decide), _, hc, ?_, own_w hC S5 (Same.refl _), cs ++ [_], by rw [upd_same, snoc_int], fun x hx => ?_, ?_⟩⟩⟩
        · rw [List.length_map]
          exact sz_few (by omega)
        · rcases List.mem_append.mp hx with m | m
          · exact hcp x m
          · rw [List.mem_singleton.mp m]
            exact ⟨Int.emod_nonneg _ (by decide), Int.emod_lt_of_pos _ (by decide)⟩
        · rw [List.length_append, List.length_singleton]
          omega
      · intro H5 hP5
        obtain ⟨S5, cs, hc, hcp, hcl⟩ := hP5
        have nDC : D ≠ C := ne_of_none hg4 hC
        have nCp : C ≠ p := fun q => by
          rw [q, upd_same] at hC
          cases hC
        have hp5 : H5 p = some (.dK []) := S5 _ _ upd_same
        refine ⟨hp5, drK D C 0 0, rfl, (by show 4 ≤ 15; decide), ?_⟩
        have em : mergeK [] (drK D C 0 0) = drK D C 0 0 := by rfl
        rw [em]
        have hp0 : H p = none := S3.free hpn
        have hC0 : H C = none := S4.free hC
        refine k _ p D C (own_w hp0 (S4.trans S5) (Same.refl _)) hp0 hD hC0 ⟨gs, cs, 0, upd_same, ?_, ?_, nDC, hp, hcp, Int.le_refl _, Int.le_refl _⟩
        · rw [upd_ne nDp]
          exact S5 _ _ hg4
        · rw [upd_ne nCp]
          exact hc
theorem ok0_l_mixed (T : Txt K mg) : FnOk P w K mg base CX0 1 T.l_mixed.a T.l_mixed.d ["draw"] spMixed := by
  refine T.l_mixed.F.ok c_l_mixed (fun vs H Q E h => ?_) (fun cdv A outer s H vs Q E hr h => ?_)
  · obtain ⟨d, g, c, t, rfl, _⟩ := h
    rfl
  · obtain ⟨d, g, c, t, rfl, ⟨gs, cs, n, hd, hg, hc, ngc, hgp, hcp, hn, ht⟩, ht2, k⟩ := h
    refine ⟨_,
      (pss_cons (ps_par (i := 1) (j := 2) rfl c_l_mixed.nd rfl rfl (by decide) rfl rfl (pa_cons (pe_op op_add (pe_dget (hu_of hr) (pv 0) pe_str (fun _ _ => rfl)) pe_int) (pa_cons pe_int pa_nil)) (by with_unfolding_all rfl))
      (pss_cons (ps_dput (hu_of hr) (pv 0) pe_str (pv 1) rfl)
      (pss_cons (ps_for PassesOwn.never rfl (pi_list (pe_lst (pa_cons pe_int (pa_cons pe_int (pa_cons pe_int (pa_cons pe_int pa_nil)))))) (pg_name (i := 3) c_l_mixed.nd rfl (Or.inl rfl))
      (pss_cons (ps_set (i := 4) c_l_mixed.nd rfl (Or.inl rfl) (pe_op op_add (pe_op op_mul pe_int (pv 1)) (pe_op op_fdiv (pv 3) pe_int)))
      (pss_cons (ps_for PassesOwn.never rfl (pi_list (pe_dget (hu_of hr) (pv 0) pe_str (fun _ _ => rfl))) (pg_name (i := 5) c_l_mixed.nd rfl (Or.inl rfl))
      (pss_one (ps_set (i := 4) c_l_mixed.nd rfl (Or.inl rfl) (pe_op op_mod (pe_callTy call_int1 (by rfl) T.z_int (by decide +kernel) (pa_cons (pe_op op_add (pe_op op_add (pe_op op_mul (pv 4) pe_int) (pv 5)) (pv 1)) pa_nil)) (pv 3)))))
      (pss_one (ps_set (i := 2) c_l_mixed.nd rfl (Or.inl rfl) (pe_op op_add (pe_op op_mul (pv 2) pe_int) (pe_op op_mod (pe_callTy call_int1 (by rfl) T.z_int (by decide +kernel) (pa_cons (pe_op op_pow (pv 4) pe_int) pa_nil)) (pv 3))))))))
      (pss_one (ps_ret (pv 2))))))
      , ?_⟩
    have ndg : d ≠ g := ne_of hd hg (by intro q; cases q)
    have ndc : d ≠ c := ne_of hd hc (by intro q; cases q)
    refine ⟨.ref d, rfl, d, .int t, rfl, dg_turn hd, _, _, rfl, rfl, .int (t + 1), .int 0, rfl, ?_⟩
    refine ⟨.int (t + 1), rfl, .ref d, rfl, d, _, rfl, dp_turn (t + 1) hd, ?_⟩
    have hd2 : upd H d (.dK (drK g c n (t + 1))) d = some (.dK (drK g c n (t + 1))) := upd_same
    have F2 : Fr d g H (upd H d (.dK (drK g c n (t + 1)))) := fun b o h1 _ h => by
      rw [upd_ne h1]
      exact h
    have D2 : Dr (upd H d (.dK (drK g c n (t + 1)))) d g c (t + 1) := ⟨gs, cs, n, upd_same, by rw [upd_ne ndg.symm]; exact hg, by rw [upd_ne ndc.symm]; exact hc, ngc, hgp, hcp, hn, by omega⟩
    generalize upd H d (.dK (drK g c n (t + 1))) = H2 at hd2 F2 D2 ⊢
    refine ⟨by show 4 ≤ sizeLine; decide, fun l hl => ⟨l, rfl, ⟨_, SqL.of upd_same⟩, ?_⟩⟩
    have D3 : Dr (upd H2 l (.lst [.int 2147483647, .int 2147483629, .int 2147483587, .int 2147483579])) d g c (t + 1) := by
      obtain ⟨gs', cs', n', a1, a2, a3, a4, a5, a6, a7, a8⟩ := D2
      exact ⟨gs', cs', n', by rw [upd_ne (ne_of_none a1 hl)]; exact a1, by rw [upd_ne (ne_of_none a2 hl)]; exact a2, by rw [upd_ne (ne_of_none a3 hl)]; exact a3, a4, a5, a6, a7, a8⟩
    have F3 : Fr d g H (upd H2 l (.lst [.int 2147483647, .int 2147483629, .int 2147483587, .int 2147483579])) := F2.trans (Fr.of (same_new hl))
    have hl3 : SqL K (upd H2 l (.lst [.int 2147483647, .int 2147483629, .int 2147483587, .int 2147483579])) l [.int 2147483647, .int 2147483629, .int 2147483587, .int 2147483579] := SqL.of upd_same
    generalize upd H2 l (.lst [.int 2147483647, .int 2147483629, .int 2147483587, .int 2147483579]) = H3 at D3 F3 hl3 ⊢
    obtain ⟨gs', cs', n', a1, a2, a3, a4, a5, a6, a7, a8⟩ := id D3
    refine for_list (K := K) (a := l) (xs := [.int 2147483647, .int 2147483629, .int 2147483587, .int 2147483579]) (fun i σ H4 => H3 = H4 ∧ ∃ (f : Int) (x3 x4 x5 : Option V), σ = [some (.ref d), some (.int (t + 1)), some (.int f), x3, x4, x5] ∧ 0 ≤ f)
      ⟨rfl, 0, none, none, none, rfl, Int.le_refl _⟩ (fun i σ H4 _ hP => by rw [← hP.1]; exact hl3) ?_ ?_
    · intro i x σ H4 hx hP
      obtain ⟨rfl, f, x3, x4, x5, rfl, hf⟩ := hP
      obtain ⟨p, rfl, hp1, hp2⟩ : ∃ p : Int, x = .int p ∧ 0 < p ∧ p ≤ 2147483647 := by
        match i, hx with
        | 0, hx => exact ⟨2147483647, (Option.some.inj hx).symm, by decide, by decide⟩
        | 1, hx => exact ⟨2147483629, (Option.some.inj hx).symm, by decide, by decide⟩
        | 2, hx => exact ⟨2147483587, (Option.some.inj hx).symm, by decide, by decide⟩
        | 3, hx => exact ⟨2147483579, (Option.some.inj hx).symm, by decide, by decide⟩
        | i + 4, hx => simp at hx
      refine ⟨.int (t + 1), rfl, 48271, t + 1, rfl, rfl, .inl ⟨by decide, by decide⟩, .int p, rfl, p, 37, rfl, rfl, ⟨by show (0 : Int) < 37; decide, by show (37 : Int) < 1073741824; decide⟩, _, _, rfl, rfl, ?_⟩
      have b0 : 0 ≤ 48271 * (t + 1) + p / 37 := by omega
      have b1 : 48271 * (t + 1) + p / 37 < 9000000000000000000 := by omega
      refine ⟨.ref d, rfl, d, .ref c, rfl, dg_cells a1, c, rfl, ⟨_, SqL.of a3⟩, ?_⟩
      refine for_list (K := K) (a := c) (xs := cs'.map V.int) (fun j σ H4 => H3 = H4 ∧ ∃ (bl : Int) (x5 : Option V), σ = [some (.ref d), some (.int (t + 1)), some (.int f), some (.int p), some (.int bl), x5] ∧ 0 ≤ bl ∧ bl < 9000000000000000000)
        ⟨rfl, 48271 * (t + 1) + p / 37, x5, rfl, b0, b1⟩ (fun j σ H4 _ hP => by rw [← hP.1]; exact SqL.of a3) ?_ ?_
      · intro j y σ H4 hy hP
        obtain ⟨rfl, bl, y5, rfl, hb0, hb1⟩ := hP
        obtain ⟨z, hz, rfl⟩ := at_map hy
        refine ⟨.int bl, rfl, bl, 69621, rfl, rfl, .inl ⟨by omega, by omega⟩, .int z, rfl, _, _, rfl, rfl, .int (t + 1), rfl, _, _, rfl, rfl, .inl ⟨_, rfl, .int p, rfl, _, p, rfl, rfl, hp1, ?_⟩⟩
        have c1 := Int.emod_nonneg (bl * 69621 + z + (t + 1)) (show p ≠ 0 by omega)
        have c2 := Int.emod_lt_of_pos (bl * 69621 + z + (t + 1)) hp1
        exact ⟨rfl, _, some (.int z), rfl, c1, by omega⟩
      · intro σ H4 hP
        obtain ⟨rfl, bl, y5, rfl, hb0, hb1⟩ := hP
        refine ⟨.int f, rfl, f, 2147483647, rfl, rfl, .inr ⟨by decide, by decide⟩, .int bl, rfl, bl, 5, rfl, rfl, ⟨by decide, by decide, by omega⟩, .inl ⟨_, rfl, .int p, rfl, _, p, rfl, rfl, hp1, _, _, rfl, rfl, ?_⟩⟩
        have c1 := Int.emod_nonneg (bl ^ (5 : Int).toNat) (show p ≠ 0 by omega)
        exact ⟨rfl, _, _, _, _, rfl, by omega⟩
    · intro σ H4 hP
      obtain ⟨rfl, f, x3, x4, x5, rfl, hf⟩ := hP
      exact ⟨.int f, rfl, k _ f hf F3 D3⟩
theorem ok0_l_take (T : Txt K mg) : FnOk P w K mg base CX0 2 T.l_take.a T.l_take.d ["draw", "many"] spTake := by
  refine T.l_take.F.ok c_l_take (fun vs H Q E h => ?_) (fun cdv A outer s H vs Q E hr h => ?_)
  · obtain ⟨d, g, c, t, m, rfl, _⟩ := h
    rfl
  · obtain ⟨d, g, c, t, m, rfl, hD, ht2, hm0, hm1, k⟩ := h
    refine ⟨_,
      (C8.pss_cut (ps_if (pt_cmpR op_eq (pe_dget (hu_of hr) (pv 0) pe_str (fun _ _ => rfl)) pe_int (nomark _))
      (pss_one (ps_dput (hu_of hr) (pv 0) pe_str (pe_ifExp (pt_cmpR (op_neD hr.units) (pe_dget (hu_of hr) (pv 0) pe_str (fun _ _ => rfl)) (pe_lst pa_nil) (nomark _)) (pe_bm PySem.F.plainAttrs_list PySem.F.slot_list_pop PySem.F.type_list_pop mt_popAt (pe_dget (hu_of hr) (pv 0) pe_str (fun _ _ => rfl)) (pa_cons pe_int pa_nil)) (pe_call (ok0_l_mixed T) (hr.mono (by decide)) rfl T.l_mixed.g T.l_mixed.k T.l_mixed.b .nil pass0 (pa_cons (pv 0) pa_nil))) rfl))
      pss_nil)
      (pss_cons (ps_set (i := 2) c_l_take.nd rfl (Or.inl rfl) (pe_op op_mod (pe_callTy call_int1 (by rfl) T.z_int (by decide +kernel) (pa_cons (pe_dget (hu_of hr) (pv 0) pe_str (fun _ _ => rfl)) pa_nil)) (pv 1)))
      (pss_cons (ps_dput (hu_of hr) (pv 0) pe_str (pe_op op_fdiv (pe_dget (hu_of hr) (pv 0) pe_str (fun _ _ => rfl)) (pv 1)) rfl)
      (pss_one (ps_ret (pv 2))))))
      , ?_⟩
    obtain ⟨gs, cs, n, hd, hg, hc, ngc, hgp, hcp, hn, ht⟩ := id hD
    have ndg : d ≠ g := ne_of hd hg (by intro q; cases q)
    have ndc : d ≠ c := ne_of hd hc (by intro q; cases q)
    refine ⟨fun σ H1 => σ = [some (.ref d), some (.int m), none] ∧ ∃ t', t' ≤ t + 1 ∧ Fr d g H H1 ∧ Dr H1 d g c t', ?_, ?_⟩
    · refine ⟨.ref d, rfl, d, .int n, rfl, dg_left hd, rfl, _, rfl, ite2 (fun _ => ?_) (fun _ => ?_)⟩
      · refine ⟨.ref d, rfl, d, .ref g, rfl, dg_great hd, Nat.zero_le _, fun e he => ?_⟩
        have S1 : Same H (upd H e (.lst [])) := same_new he
        have hd1 := S1 _ _ hd
        have hg1 := S1 _ _ hg
        have hc1 := S1 _ _ hc
        have he1 : upd H e (.lst []) e = some (.lst []) := upd_same
        refine ⟨.list (GS.dIs gs), .list (GS.dIs []), GS.dp_l (SqL.of hg1), GS.dp_l (ns := []) (SqL.of he1), GS.shaped_is _, GS.shaped_is _, _, rfl, ?_⟩
        rw [GS.eqv_lis]
        cases gs with
        | nil =>
          refine iteF ?_
          refine ⟨.ref d, rfl, d, g, c, t, rfl, hD.grow S1, ht2, fun H2 n2 hn2 F2 D2 => ?_⟩
          obtain ⟨gs', cs', n', a1, a2, a3, a4, a5, a6, a7, a8⟩ := D2
          refine ⟨.ref d, rfl, d, _, rfl, dp_left n2 a1, rfl, t + 1, Int.le_refl _, ?_, gs', cs', n2, upd_same, ?_, ?_, a4, a5, a6, hn2, a8⟩
          · exact fun b o h1 h2 h => by
              rw [upd_ne h1]
              exact F2 b o h1 h2 (S1 _ _ h)
          · rw [upd_ne ndg.symm]
            exact a2
          · rw [upd_ne ndc.symm]
            exact a3
        | cons x gs =>
          refine iteT ?_
          refine ⟨.ref d, rfl, d, .ref g, rfl, dg_great hd1, .inl ⟨rfl, _, SqL.of hg1⟩, g, _, 0, 0, .int x, rfl, rfl, hg1, by decide, by decide, seq_at (j := 0) (Nat.succ_pos _), rfl, ?_⟩
          have hx : 0 ≤ x := hgp x (List.mem_cons_self ..)
          have F2 : Fr d g H (upd (upd H e (.lst [])) g (.lst (gs.map V.int))) := fun b o h1 h2 h => by
            rw [upd_ne h2]
            exact S1 _ _ h
          have hd2 : upd (upd H e (.lst [])) g (.lst (gs.map V.int)) d = some (.dK (drK g c n t)) := by
            rw [upd_ne ndg]
            exact hd1
          refine ⟨.ref d, rfl, d, _, rfl, dp_left x hd2, rfl, t, by omega, ?_, gs, cs, x, upd_same, ?_, ?_, ngc, (fun y hy => hgp y (List.mem_cons_of_mem _ hy)), hcp, hx, ht⟩
          · exact fun b o h1 h2 h => by
              rw [upd_ne h1]
              exact F2 b o h1 h2 h
          · rw [upd_ne ndg.symm, upd_same]
            rfl
          · rw [upd_ne ndc.symm, upd_ne ngc.symm]
            exact hc1
      · exact ⟨rfl, t, by omega, Fr.refl d g H, hD⟩
    · intro σ H1 hP
      obtain ⟨rfl, t', ht', F1, gs', cs', n', a1, a2, a3, a4, a5, a6, a7, a8⟩ := hP
      refine ⟨.ref d, rfl, d, .int n', rfl, dg_left a1, .inl ⟨n', rfl, .int m, rfl, n', m, rfl, rfl, hm0, ?_⟩⟩
      refine ⟨.ref d, rfl, d, .int n', rfl, dg_left a1, .int m, rfl, n', m, rfl, rfl, ⟨hm0, by omega⟩, .ref d, rfl, d, _, rfl, dp_left (n' / m) a1, _, rfl, ?_⟩
      refine k _ (n' % m) t' (Int.emod_nonneg _ (by omega)) (Int.emod_lt_of_pos _ hm0) ht' (fun b o h1 h2 h => ?_) ⟨gs', cs', n' / m, upd_same, ?_, ?_, a4, a5, a6, Int.ediv_nonneg a7 (by omega), a8⟩
      · rw [upd_ne h1]
        exact F1 b o h1 h2 h
      · rw [upd_ne ndg.symm]
        exact a2
      · rw [upd_ne ndc.symm]
        exact a3
end
end G21
set_option Elab.async false
set_option linter.all false
set_option maxRecDepth 100000
set_option maxHeartbeats 4000000
/-! lambdas that capture nothing, as values: made, kept, called later -/
namespace GS
open PySem PySem.Spec PyProof.Rows L2 LamX
/-- the function object at f of a lambda that captures nothing -/
def LamO (c' : Addr) (q : Str) (params : Arguments) (body : Expr) (scope : Scope) (f : Addr) : HO := .ext fun h => ∃ (pm ctv : Value), h.get? f = some (PySem.W.kla_obj "<lambda>" q params body scope [] pm c' ctv)
theorem lamO_ok {P : Program} {w : World} {H : Hp} {h : Heap} {f c' : Addr} {q : Str} {params : Arguments} {body : Expr} {scope : Scope} {pm ctv : Value} (e : h.get? f = some (PySem.W.kla_obj "<lambda>" q params body scope [] pm c' ctv)) :
    ObjOk P w H h f (LamO c' q params body scope f) := ⟨⟨pm, ctv, e⟩, ⟨_, e⟩, fun _ _ ⟨a, b, z⟩ k => ⟨a, b, k _ z⟩⟩
theorem clo_nil {cells : List (Str × Addr)} : ∀ {names : List (Str × NameKind)} {acc : List (Str × Addr)}, (∀ y ∈ names, y.2 ≠ .free) → cloFrom cells names acc = acc
  | [], _, _ => rfl
  | (n, k) :: r, acc, h => by
    have hk : (k == NameKind.free) = false := by
      have z := h (n, k) List.mem_cons_self
      simpa using z
    unfold cloFrom
    rw [hk]
    exact clo_nil fun y hy => h y (List.mem_cons_of_mem _ hy)
section
variable {X : Cx} {pins : List (Addr × Obj)} {σ : L2.St} {H : Hp} {s : Shared}
/-- what is new at the heap's end, or behind it, is nobody's -/
theorem track_new {f : Addr} {o : HO} {H1 : Hp} {s1 : Shared} (I : Inv X pins σ H s) (I1 : Inv X pins σ H1 s1) (hf : s.heap.objs.size ≤ f) (hn : H1 f = none) (new : ObjOk X.prog X.w (upd H1 f o) s1.heap f o) : Inv X pins σ (upd H1 f o) s1 := by
  have le : ∀ b u, s.heap.get? b = some u → b ≠ f := fun b u e z => by
    have h1 := Heap.lt_size e
    rw [z] at h1
    exact Nat.lt_irrefl _ (Nat.lt_of_lt_of_le h1 hf)
  have l0 : X.s_0.heap.get? f = none := by
    cases e : X.s_0.heap.get? f with
    | none => rfl
    | some u =>
      have h1 := Heap.lt_size e
      have h2 : X.s_0.heap.objs.size ≤ s.heap.objs.size := Nat.le_trans I.ok.above (Nat.le_of_lt I.lt)
      exact absurd (Nat.lt_of_lt_of_le h1 (Nat.le_trans h2 hf)) (Nat.lt_irrefl _)
  refine track I1 hn l0 new (fun z => ?_) (fun x c e => ?_) (fun p hp => ?_)
  · have h1 := I.lt
    rw [← z] at h1
    exact Nat.lt_irrefl _ (Nat.lt_of_lt_of_le h1 hf)
  · obtain ⟨v, o, ho, _⟩ := I.cell x c e
    exact le c _ ho
  · exact le _ _ (I.pin p hp).1
/-- lambda ..: e, without captured names -/
def tLamV (T : List (Addr × Str)) (q : Str) (params : Arguments) (body : Expr) (scope : Scope) : TE := fun _ H Q => Tabs T H ∧ ∀ H1 f c', ExtN H H1 → Tabs T H1 → H1 f = none → H1 c' = some (CodeO c' q) → Q (.ref f) (upd H1 f (LamO c' q params body scope f))
end
section
variable {X : Cx}
theorem pe_lamV {T : List (Addr × Str)} {c P : Addr} {params : Arguments} {body : Expr} {scope : Scope} {pos : Pos} (TB : TabB X.base X.mg c P) (hcode : X.env.code = .ref c)
    (hm : (P, X.env.qual ++ "<lambda>") ∈ T) (hu : ∀ p ∈ T, p.1 = P → p.2 = X.env.qual ++ "<lambda>") (hdef : defaultsOf params X.env = ([], [])) (hfree : ∀ y ∈ scope.names, y.2 ≠ .free) :
    PE X (.Lambda params body scope pos) (tLamV T (X.env.qual ++ "<lambda>") params body scope) := by
  refine ⟨fun pins s σ H Q I h => ?_⟩
  obtain ⟨hT, go⟩ := h
  obtain ⟨ps, hP, ht, ha⟩ := hT _ hm
  have hcl := closure_ok (scope := scope) (env := X.env) fun y hy e => absurd e (hfree y hy)
  rw [clo_nil hfree] at hcl
  have bP : s.heap.BuiltinsAt X.mg P := TB.bm.keeps I.bk
  have hP' : s.heap.get? P = some { cls := .none, data := .fields ps } := I.hok P _ hP
  refine PySem.W.kla_eval hdef ?_
  cases hc : codeAmong pos ps.toList with
  | some cv =>
    obtain ⟨c', e, hco⟩ := ha pos cv hc
    subst e
    refine PySem.W.kla_makeFunctionHit hcl I.ok.glob (I.mod.glob.keeps I.bk) hcode (TB.code.keeps I.bk) hP' ht hc bP fun ctv h' tk hx hsz => ?_
    have I1 : Inv X pins σ H { s with heap := h'.push (PySem.W.kla_obj "<lambda>" (X.env.qual ++ "<lambda>") params body scope [] ((X.mg "__name__").getD .none) c' ctv), toks := tk } := I.kept fun b o e => Heap.get?_push_of_some _ (hx b o e)
    have hn := I.hok.fresh hsz
    exact ⟨V.ref _, _, track_new I I1 hsz hn (lamO_ok (Heap.get?_push_size _ rfl)), rfl, go H _ c' (ExtN.refl H) hT hn hco⟩
  | none =>
    refine PySem.W.kla_makeFunction hcl I.ok.glob (I.mod.glob.keeps I.bk) hcode (TB.code.keeps I.bk) hP' ht hc TB.gP bP fun c' ctv h' tk hx hge hlt hrec htb => ?_
    obtain ⟨c2, oc, vs, t, e2, hoc, hd, hv⟩ := hrec
    cases e2
    have hsz : s.heap.objs.size ≤ h'.objs.size := Nat.le_trans hge (Nat.le_of_lt hlt)
    have nC : H c' = none := I.hok.fresh hge
    have nPc : P ≠ c' := ne_of_none hP nC
    have I1 := inv_table (t' := tk) (more := #[rawInt pos.line, rawInt pos.col, .ref c']) (h' := h'.push (PySem.W.kla_obj "<lambda>" (X.env.qual ++ "<lambda>") params body scope [] ((X.mg "__name__").getD .none) c' ctv)) I hP
      (fun b o hb e => Heap.get?_push_of_some _ (hx b o hb e)) (Heap.get?_push_of_some _ htb) hge ⟨oc, vs, t, Heap.get?_push_of_some _ hoc, hd, hv⟩
    have ext : ExtN H (upd (upd H P (.tbl (ps ++ #[rawInt pos.line, rawInt pos.col, .ref c']))) c' (CodeO c' (X.env.qual ++ "<lambda>"))) := fun b o e n => by
      have nb : b ≠ P := fun z => by
        rw [z, hP] at e
        exact n ps (Option.some.inj e).symm
      rw [upd_ne (ne_of_none e nC), upd_ne nb]
      exact e
    have nf : h'.objs.size ≠ c' := Nat.ne_of_gt hlt
    have nP : h'.objs.size ≠ P := Nat.ne_of_gt (Nat.lt_of_lt_of_le (Heap.lt_size hP') hsz)
    have hn : upd (upd H P (.tbl (ps ++ #[rawInt pos.line, rawInt pos.col, .ref c']))) c' (CodeO c' (X.env.qual ++ "<lambda>")) h'.objs.size = none := by
      rw [upd_ne nf, upd_ne nP]
      exact I.hok.fresh hsz
    have tabs : Tabs T (upd (upd H P (.tbl (ps ++ #[rawInt pos.line, rawInt pos.col, .ref c']))) c' (CodeO c' (X.env.qual ++ "<lambda>"))) := fun p hp => by
      by_cases hb : p.1 = P
      · refine ⟨ps ++ #[rawInt pos.line, rawInt pos.col, .ref c'], by rw [hb, upd_ne nPc, upd_same], ?_, fun p' cv hcv => ?_⟩
        · have eL : (ps ++ #[rawInt pos.line, rawInt pos.col, .ref c']).toList = ps.toList ++ [rawInt pos.line, rawInt pos.col, .ref c'] := by simp
          rw [eL]
          exact PySem.TriplesOk_snoc _ _ _ _ ht
        · have eL : (ps ++ #[rawInt pos.line, rawInt pos.col, .ref c']).toList = ps.toList ++ [rawInt pos.line, rawInt pos.col, .ref c'] := by simp
          rw [eL] at hcv
          rw [hu p hp hb]
          rcases among_app _ ht hcv with z | z
          · obtain ⟨c0, e1, e2⟩ := ha p' cv z
            exact ⟨c0, e1, ext _ _ e2 codeO_ne⟩
          · exact ⟨c', z, upd_same⟩
      · obtain ⟨ps', a1, a2, a3⟩ := hT p hp
        refine ⟨ps', by rw [upd_ne (ne_of_none a1 nC), upd_ne hb]; exact a1, a2, fun p' cv hcv => ?_⟩
        obtain ⟨c0, e1, e2⟩ := a3 p' cv hcv
        exact ⟨c0, e1, ext _ _ e2 codeO_ne⟩
    exact ⟨V.ref _, _, track_new I I1 hsz hn (lamO_ok (Heap.get?_push_size _ rfl)), rfl, go _ _ c' ext tabs hn upd_same⟩
/-- what a kept lambda does when it is called: k levels of room, sp as of a def -/
def LamRun (P : Program) (w : World) (K : PySem.W.Frag) (mg : Str → Option Value) (base : Heap) (CX : CXT) (k : Nat) (q : Str) (params : Arguments) (body : Expr) (scope : Scope) (n : Nat) (sp : Sp) : Prop :=
  ∀ (f c' : Addr) (A : Around) (outer : List Env) (s : Shared) (H : Hp) (us : List Value) (vs : List V) (Q : VK) (E : XK), Room k A → Env0 P w K mg base A outer s H → H f = some (LamO c' q params body scope f) → H c' = some (CodeO c' q) → Vals vs us → vs.length = n → sp vs H Q E →
    codeAny (model P w) A (.call (.ref f) ⟨us, []⟩) (CR CX outer P w H s Q E) s
theorem lam_run {P : Program} {w : World} {K : PySem.W.Frag} {mg : Str → Option Value} {base : Heap} {CX : CXT} {k : Nat} {q : Str} {params : Arguments} {body : Expr} {scope : Scope} {N ps : List Str} {sp : Sp} (S : FnScope N ps scope)
    (hbind : ∀ (pm cv ctv : Value) (us : List Value), us.length = ps.length → bindArgs (PySem.W.kla_fn "<lambda>" q params body scope [] pm cv ctv) ⟨us, []⟩ = pure (ps.zip us))
    (hbody : ∀ (f c' : Addr) (A : Around) (outer : List Env) (s : Shared) (H : Hp) (vs : List V) (Q : VK) (E : XK), Room k (A.deeper (envOfC q scope s.heap.objs.size f (.ref c'))) → sp vs H Q E →
      ∃ te, PE (cxOf CX P w K mg base N q scope f (.ref c') A outer s H E) body te ∧ te (L2.start N vs) H Q) : LamRun P w K mg base CX (k + 1) q params body scope ps.length sp := by
  intro f c' A outer s H us vs Q E hr e0 hf hc r hl hsp
  obtain ⟨⟨pm, ctv, of⟩, _, _⟩ := e0.hok f _ hf
  obtain ⟨⟨oc, xs, t, hoc, hdc, hvc⟩, _, _⟩ := e0.hok c' _ hc
  have lim : s.heap.NoLimit := e0.mod.nolimit.keeps fun b o e => (e0.bs b o e).1
  have hkind : ∀ y ∈ ps.zip us, scope.names.lookup y.1 = some .local ∨ (scope.names.lookup y.1 = some .cell ∧ ((cellsFrom (s.heap.objs.size + 1) scope.names []).lookup y.1).isSome = true) := fun ⟨n, v⟩ hy => by
    rcases S.par n (List.of_mem_zip hy).1 with z | z
    · exact .inl z
    · exact .inr ⟨z, PySem.W.cellsFrom_some _ _ _ (.inl z)⟩
  refine PySem.W.kla_callFunE hr.depth of rfl S.co S.gen rfl ⟨c', oc, xs, t, rfl, hoc, hdc, hvc⟩ ?_
  rw [hbind pm (.ref c') ctv us (by rw [← r.length]; exact hl)]
  refine wpAny_pure (wpAny_newFunctionEnv_cells S.kind hkind fun env he s1 x => ?_)
  subst he
  obtain ⟨te, hp, hq⟩ := hbody f c' A outer s H vs Q E (hr.deeper _) hsp
  refine ⟨lim.keeps x.toInCall.keep, PySem.W.kla_codeExpr ?_⟩
  have I : Inv (cxOf CX P w K mg base N q scope f (.ref c') A outer s H E) [] (L2.start N vs) H s1 := inv_start S hr.hd e0 hl r x
  refine wpAny_mono (hp.run [] s1 (L2.start N vs) H Q I hq) (fun v s' hs => ?_) fun e s' hs => hs
  obtain ⟨v', H', J, rv, q'⟩ := hs
  exact ⟨v', H', J.os, J.bare, J.base, J.hok, rv, q'⟩
/-- fe(e, ..): what fe tells is a kept lambda -/
def tCallV (X : Cx) (CX : CXT) (k : Nat) (E : XK) (tf : TE) (t : TA) : TE := fun σ H Q => tf σ H fun x H1 => ∃ (f c' : Addr) (q : Str) (params : Arguments) (body : Expr) (scope : Scope), x = .ref f ∧ H1 f = some (LamO c' q params body scope f) ∧
  t σ H1 fun vs H2 => H2 f = some (LamO c' q params body scope f) ∧ H2 c' = some (CodeO c' q) ∧ ∃ sp, LamRun X.prog X.w X.K X.mg X.base CX k q params body scope vs.length sp ∧ sp vs H2 Q E
theorem pe_callV {CX : CXT} {k : Nat} {E : XK} {fe e : Expr} {es : List Expr} {tf : TE} {t : TA} {pos : Pos} (hf : PE X fe tf) (ha : PA X (e :: es) t) (hr : Room k X.A) (hx : Passes CX X E)
    (harm : eval (.Call fe (e :: es) [] pos) X.env = (do callWith pos (← eval fe X.env) [] (backTo pos (starEach (e :: es) X.env)) (backToKw pos (keywordEach [] X.env))) := by rfl)
    (he : starEach (e :: es) X.env = (false, eval e X.env) :: starEach es X.env := by rfl) (hpl : (backTo pos (starEach es X.env)).any (·.1) = false := by rfl) :
    PE X (.Call fe (e :: es) [] pos) (tCallV X CX k E tf t) := by
  refine ⟨fun pins s σ H Q I h => ?_⟩
  rw [harm]
  refine wpAny_bind (thn (hf.run pins s σ H _ I h) fun v s1 ⟨x, H1, I1, r1, q1⟩ => ?_)
  obtain ⟨f, c', q, params, body, scope, ex, l1, q1⟩ := q1
  subst ex
  obtain rfl : v = Value.ref f := r1
  obtain ⟨⟨pm, ctv, of1⟩, _, _⟩ := I1.hok f _ l1
  refine PySem.W.callWith_F ⟨_, _, _, _, of1⟩ (thn (ha.run pos pins s1 σ H1 _ I1 q1) fun us s2 ⟨vs, H2, I2, r2, q2⟩ => ?_) he hpl
  obtain ⟨l2, hc2, sp, run, hsp⟩ := q2
  obtain ⟨⟨pm2, ctv2, of2⟩, _, _⟩ := I2.hok f _ l2
  refine ⟨⟨_, _, _, _, of2⟩, wpAny_call (codeAny_mono (run f c' X.A X.stack s2 H2 us vs Q E hr I2.env0 l2 hc2 r2 rfl hsp) fun r s' hq => ?_)⟩
  cases r with
  | error e => exact hx pins σ H2 s2 e s' I2 hq
  | ok fl =>
    cases fl with
    | ret u => exact I2.after hq
    | next => exact False.elim hq
    | brk => exact False.elim hq
    | cont => exact False.elim hq
end
end GS
set_option Elab.async false
set_option linter.all false
set_option maxRecDepth 100000
set_option maxHeartbeats 4000000
/-! for k, x in enumerate(ts) over a tuple -/
namespace GS
open PySem PySem.Spec PyProof.Rows L2
section
variable {prog : Program} {w : World} {A : Around} {E : Value → Shared → Prop} {s : Shared}
/-- a next over a tuple's iterator, down to where it has the item or none -/
theorem nxT {it t : Addr} {i : Nat} {its : Array Value} {o : Obj} {Q : Value → Shared → Prop} (ho : s.heap.get? it = some o) (hc : o.cls = .type "tuple_iterator") (hd : o.data = .fields #[.ref t, .int i 0]) (ht : s.heap.IsTuple t its)
    (h : ∀ x, its[i]? = some x → ∀ h', h'.IsTupleIter it t (i + 1) → Heap.SameBut it s.heap h' → Q x { s with heap := h' })
    (hE : its[i]? = none → A.handled = none ∧ ∀ h' e, Heap.ExtBut it s.heap h' → (∃ o, h'.get? e = some o ∧ o.cls = .type "StopIteration") → E (.ref e) { s with heap := h' }) :
    wpAny (model prog w) A (Builtin.SmallTypes.nextOf (.ref it)) Q E s := by
  have hit : s.heap.IsTupleIter it t i := ⟨o, ho, hc, hd⟩
  obtain ⟨ol, hol, _, nl, hdl⟩ := ht
  unfold Builtin.SmallTypes.nextOf
  refine wpAny_bind (wpAny_callSpecial?_slot (name := Str.ofString "__next__") hit.typeIs F.slot_tuple_iterator_next (wpAny_call_entry F.slot_tuple_iterator_next hit.typeIs F.entry_tuple_iterator_next ?_ (F.args_tuple_iterator_next_1 _)))
  refine wpAny_bind (m := field (.ref it) 0) (wpAny_field ho hd (x := .ref t) rfl ?_)
  rw [if_neg (show ¬ ((Value.ref t == Value.none) = true) from Bool.false_ne_true)]
  refine wpAny_bind (m := field (.ref it) 1) (wpAny_field ho hd (x := .int i 0) rfl ?_)
  refine wpAny_bind (m := seqItems? (.ref t)) (wpAny_seqItems hol hdl ?_)
  rcases hx : its[i]? with _ | x
  · obtain ⟨hh, hE⟩ := hE hx
    simp only [Int.toNat_natCast, hx]
    refine wpAny_bind (wpAny_rule (wpAny_bind (wpAny_setField ho hd (by simp) (wpAny_bind (m := newExc (.type "StopIteration") []) ?_))))
    simp only [newExc, newTuple, raiseNew]
    refine wpAny_bind (wpAny_newObj_type ?_ (by size_fits))
    refine wpAny_bind (m := firstArgMember _ _) (wpAny_of_eq (a := Value.none) (by first | rfl | (simp only [firstArgMember]; rfl)) (wpAny_newObj_type (wpAny_bind (wpAny_handled ?_)) (by size_fits)))
    first | rw [show A.in1.handled = none from hh] | rw [hh]
    exact wpAny_bind (wpAny_pure (wpAny_throw (hE _ _ (((Heap.SameBut.update ..).extBut.push _).push _) ⟨_, Heap.get?_push_size _ rfl, rfl⟩)))
  · simp only [Int.toNat_natCast, hx]
    refine wpAny_bind (wpAny_setField ho hd (by simp) (wpAny_pure ⟨x, rfl, wpAny_pure (h x hx _ ?_ (Heap.SameBut.update ..))⟩))
    exact ⟨_, Heap.get?_update_self _ ho (Obj.isFreed_of_fields (Obj.data_mapFields hd _)), (Obj.cls_mapFields ..).trans hc, by rw [Obj.data_mapFields hd]; simp [rawInt]⟩
end
theorem drawsT {prog : Program} {w : World} {A : Around} (hh : A.handled = none) (it t : Addr) (hne : t ≠ it) (its : Array Value) :
    Draws prog w A it [it, t] its.size (fun i v => its[i]? = some v) (fun i h => h.IsTupleIter it t i ∧ h.IsTuple t its) where
  live := fun _ _ st => let ⟨o, ho, _⟩ := st.1; ⟨o, ho⟩
  frame := fun _ _ _ st hk => ⟨st.1.at fun o e => hk it (by simp) o e, st.2.at fun o e => hk t (by simp) o e⟩
  item := fun i s Q E hi st hQ => by
    obtain ⟨⟨o, ho, hc, hd⟩, h2⟩ := st
    exact nxT ho hc hd h2 (fun x hx h' a b => hQ x h' s.toks hx ⟨a, h2.extBut b.extBut hne⟩ b) fun e => absurd e (by simp [hi])
  done := fun s Q E st hE => by
    obtain ⟨⟨o, ho, hc, hd⟩, h2⟩ := st
    exact nxT ho hc hd h2 (fun x hx => absurd hx (by simp)) fun _ => ⟨hh, hE⟩
set_option maxHeartbeats 8000000 in
theorem meets_enumT (l : Addr) (items : Array Value) (n : Nat) (dct : Option Addr) (sl : Array (Option Value)) :
    Meets (Builtin.«enumerate.__new__» ⟨[.type "enumerate", .ref l], []⟩) (fun _ R s => s.heap.get? l = some { cls := .type "tuple", dict := dct, data := .seq items n, slots := sl } ∧
      R (.ok (.ret (.ref (s.heap.push { cls := .type "tuple_iterator", data := .fields #[.ref l, .int 0 0] }).objs.size)))
        { s with heap := (s.heap.push { cls := .type "tuple_iterator", data := .fields #[.ref l, .int 0 0] }).push { cls := .type "enumerate", data := .fields #[.none, .bool false, .ref s.heap.objs.size, rawInt 0, .none, .none] } }) :=
  .of_wp fun prog w A R s h => by
    obtain ⟨hp, g, d, tk, os⟩ := s
    obtain ⟨hl, h⟩ := h
    have hsub := sub_enumerate
    have hT : Heap.IsTuple (Shared.heap ⟨hp, g, d, tk, os⟩) l items := ⟨_, hl, rfl, n, rfl⟩
    wp_walk using AutoSeq1.wpAny_loadPart' hl
    refine wpAny_stack_any fun st => wpAny_pure ?_
    split
    · rename_i c _ _ _ _ _
      cases (c == Value.type "enumerate") <;>
      · wp_walk using AutoSeq1.wpAny_loadPart' hl, wpAny_pyIter_tuple hT
        exact ⟨_, rfl, h⟩
    · wp_walk using AutoSeq1.wpAny_loadPart' hl, wpAny_pyIter_tuple hT
      exact ⟨_, rfl, h⟩
theorem call_enumT {prog : Program} {w : World} {A : Around} {E : Value → Shared → Prop} {s : Shared} {l : Addr} {its : Array Value} {Q : Value → Shared → Prop} (hL : s.heap.IsTuple l its)
    (h : ∀ h', IsEnum h' (s.heap.objs.size + 1) s.heap.objs.size 0 .none → h'.IsTupleIter s.heap.objs.size l 0 → h'.objs.size = s.heap.objs.size + 2 → (∀ b o, s.heap.get? b = some o → h'.get? b = some o) → Q (.ref (s.heap.objs.size + 1)) { s with heap := h' }) :
    wpAny (model prog w) A (call (.type "enumerate") [.ref l]) Q E s := by
  obtain ⟨⟨c, dct, dt, sl⟩, hl, hc, n, hd⟩ := hL
  obtain rfl : c = .type "tuple" := hc
  obtain rfl : dt = .seq its n := hd
  refine callType_new F.called_enumerate (by decide) (F.typeCall_enumerate_1 _) (F.newCall_enumerate_1 _) (fun obj => F.args_object_init_2 obj _) F.entry_enumerate_new (meets_enumT l its n dct sl) ⟨hl, ?_⟩
  have hz := Heap.size_push s.heap { cls := .type "tuple_iterator", data := .fields #[.ref l, .int 0 0] }
  have he : IsEnum ((s.heap.push { cls := .type "tuple_iterator", data := .fields #[.ref l, .int 0 0] }).push { cls := .type "enumerate", data := .fields #[.none, .bool false, .ref s.heap.objs.size, rawInt 0, .none, .none] }) (s.heap.objs.size + 1) s.heap.objs.size 0 .none := by
    have := Heap.get?_push_size (s.heap.push { cls := .type "tuple_iterator", data := .fields #[.ref l, .int 0 0] }) (o := { cls := .type "enumerate", data := .fields #[.none, .bool false, .ref s.heap.objs.size, rawInt 0, .none, .none] }) rfl
    rw [hz] at this
    exact this
  show _ ∧ _
  rw [hz]
  exact ⟨⟨_, he, rfl⟩, h _ he ⟨_, Heap.get?_push_of_some _ (Heap.get?_push_size _ rfl), rfl, rfl⟩ (by rw [Heap.size_push, hz]) fun b o x => Heap.get?_push_of_some _ (Heap.get?_push_of_some _ x)⟩
theorem enumT_end {prog : Program} {w : World} {A : Around} {E : Value → Shared → Prop} {s : Shared} {e it l : Addr} {i : Nat} {its : Array Value} {old : Value} {Q : Option Value → Shared → Prop} (hh : A.handled = none) (he : IsEnum s.heap e it i old) (hit : s.heap.IsTupleIter it l i) (hl : s.heap.IsTuple l its) (hx : its[i]? = none)
    (hQ : ∀ h', Heap.ExtBut it s.heap h' → Q none { s with heap := h' }) : wpAny (model prog w) A (pyNext (.ref e)) Q E s := by
  have D : Draws prog w A.in1 it [it, l] 0 (fun _ _ => True) (fun _ h => h.IsTupleIter it l i ∧ h.IsTuple l its) :=
    { live := fun _ _ st => let ⟨o, ho, _⟩ := st.1; ⟨o, ho⟩
      frame := fun _ _ _ st hk => ⟨st.1.at fun o e => hk it (by simp) o e, st.2.at fun o e => hk l (by simp) o e⟩
      item := fun k _ _ _ hk => absurd hk (by omega)
      done := fun s Q E st hE => by
        obtain ⟨⟨o, ho, hc, hd⟩, h2⟩ := st
        exact nxT ho hc hd h2 (fun x z => absurd z (by rw [hx]; exact nofun)) fun _ => ⟨hh, hE⟩ }
  exact wpAny_pyNext_enum_endD D he ⟨hit, hl⟩ hQ
/-- the tuple at a, each item in a new pair -/
def IeT (K : PySem.W.Frag) (a : Addr) : It :=
  ⟨fun i H => ∃ (xs : List V) (x : V), SqT K H a xs ∧ xs[i]? = some x, fun i H v H' => ∃ T x, v = .ref T ∧ H T = none ∧ H' = upd H T (.tup [.int (i : Nat), x]) ∧ ∀ xs, SqT K H a xs → xs[i]? = some x, fun i H => ∃ xs : List V, SqT K H a xs ∧ xs.length ≤ i⟩
theorem turn_enumT {P : Program} {w : World} {K : PySem.W.Frag} {elts : List Expr} {kk : Nat} {tpos : Pos} (a e it : Addr) :
    Turn P w K (.Tuple elts kk tpos) (IeT K a) [e, it] e (fun i h => (∃ old, IsEnum h e it ((i : Nat) : Int) old) ∧ h.IsTupleIter it a i ∧ e ≠ it) where
  mem := List.mem_cons_self
  obj := fun i h ⟨⟨old, he⟩, ⟨o, ho, _, hd⟩, _⟩ b hb => by
    rcases (show b = e ∨ b = it by simpa using hb) with rfl | rfl
    · exact ⟨_, he, fun v q => nomatch q⟩
    · exact ⟨o, ho, fun v q => by rw [hd] at q; cases q⟩
  keep := fun i h h' ⟨⟨old, he⟩, hi, hne⟩ k => ⟨⟨old, k e (by simp) _ he⟩, hi.at fun o q => k it (by simp) o q, hne⟩
  item := by
    intro X hP hw hK hc i pins s σ H E I hf ⟨⟨old, he⟩, hit, hne⟩ ⟨xs, x, hq, hx⟩
    subst hP hw hK
    obtain ⟨its, rv, p, hz⟩ := I.tuple hq
    obtain ⟨u, hu, ru⟩ := rv.get hx
    have hel := Heap.lt_size he
    have hil : it < s.heap.objs.size := let ⟨_, q, _⟩ := hit; Heap.lt_size q
    have ha : s.heap.IsTuple a its.toArray := p
    have hai : a ≠ it := fun q => by
      obtain ⟨o1, e1, c1, _⟩ := ha
      obtain ⟨o2, e2, c2, _⟩ := hit
      rw [q, e2] at e1
      cases e1
      rw [c2] at c1
      exact absurd (Value.type.inj c1) (by decide)
    have hae : e ∉ [it, a] := fun q => by
      rcases (show e = it ∨ e = a by simpa using q) with q | q
      · exact hne q
      · obtain ⟨o1, e1, c1, _⟩ := ha
        rw [← q, he] at e1
        cases e1
        exact absurd (Value.type.inj c1) (by decide)
    have hlt : i < its.toArray.size := by
      have := rv.length
      have := (List.getElem?_eq_some_iff.mp hx).1
      simp only [List.size_toArray]
      omega
    refine wpAny_pyNext_enum_itemD (drawsT (A := X.A.in1) (I.ok.hd hc) it a hai its.toArray) he (And.intro hit ha) hlt hne hae fun x1 h' tk hP ho st hT hsz hk => ?_
    obtain rfl : x1 = u := by
      rw [List.getElem?_toArray, hu] at hP
      exact (Option.some.inj hP).symm
    refine ⟨_, rfl, wpAny_letOwnedTupleGo_enum (s := { s with heap := h', toks := tk + 1 }) ho fun h'' he' sb => ?_⟩
    have hT2 := (sb.2 _ (Nat.ne_of_gt hel)).trans hT
    have new : ObjOk X.prog X.w (upd H s.heap.objs.size (.tup [.int (i : Nat), x])) h'' s.heap.objs.size (.tup [.int (i : Nat), x]) := ⟨by show 2 ≤ sizeLine; decide, [.int i tk, x1], .cons ⟨_, rfl⟩ (.cons ru .nil), ⟨_, hT2, rfl, _, rfl⟩⟩
    have I1 : Inv X pins σ (upd H s.heap.objs.size (.tup [.int (i : Nat), x])) { s with heap := h'', toks := tk + 1 } :=
      I.turnedNew (ch := [e, it]) (fun b ob hb q => (sb.2 b (fun z => hb (by simp [z]))).trans (hk b ob (fun z => hb (by simp [z])) (fun z => hb (by simp [z])) q)) hf (Nat.le_refl _) new
    refine ⟨.ref s.heap.objs.size, _, I1, rfl, ⟨_, x, rfl, I.hok.fresh (Nat.le_refl _), rfl, fun ys hy => by rw [I.tuple_inj hy hq]; exact hx⟩, ⟨⟨x1, ?_⟩, st.1.at fun o q => (sb.2 it (Ne.symm hne)).trans q, hne⟩, fun b hb => ?_⟩
    · rw [show ((i + 1 : Nat) : Int) = (i : Int) + 1 by omega]
      exact he'
    · rw [upd_ne (Nat.ne_of_lt (by rcases (show b = e ∨ b = it by simpa using hb) with rfl | rfl <;> assumption))]
      exact (hf b hb).1
  done := by
    intro X hP hw hK hc i pins s σ H E I hf ⟨⟨old, he⟩, hit, hne⟩ ⟨xs, hq, hx⟩
    subst hP hw hK
    obtain ⟨its, rv, p, hz⟩ := I.tuple hq
    obtain ⟨f0, f1, f2, f3, f4, f5⟩ := hf it (by simp)
    have ha : s.heap.IsTuple a its.toArray := p
    have hl := rv.length
    refine enumT_end (A := X.A) (I.ok.hd hc) he hit ha (by simp; omega) fun h' eb => ⟨rfl, I.turned (t' := s.toks) (fun b o hb q => eb b o hb q) f0 f1 f3 f4 f5⟩
  self := fun A i s Q E ⟨⟨_, he⟩, _⟩ h => wpAny_pyIter_enum he h
theorem pi_enumT {X : Cx} {e : Expr} {ta : TA} {p pos tpos : Pos} {elts : List Expr} {kk : Nat} (hg : Gl X "enumerate") (hm : X.mg "enumerate" = none) (ha : PA X [e] ta) (hs : starEach [e] X.env = [(false, eval e X.env)] := by rfl) :
    PI X (.Tuple elts kk tpos) (.Call (.Name "enumerate" p) [e] [] pos) fun σ H R => ta σ H fun vs H1 => ∃ a xs, vs = [.ref a] ∧ SqT X.K H1 a xs ∧ R (IeT X.K a) H1 := by
  refine ⟨fun pins s σ H R I h => Call_ (ld_blt I hg hm boot_enumerate (PyProof.Rows.callWith_type1 (thn (ha.run pos pins s σ H _ I h) fun us s1 ⟨vs, H1, I1, r1, a, xs, ex, hq, q⟩ => ?_) hs rfl))⟩
  subst ex
  cases r1 with
  | cons r rr =>
    cases rr
    cases r
    obtain ⟨its, rv, p', hz⟩ := I1.tuple hq
    refine call_enumT (show s1.heap.IsTuple a its.toArray from p') fun h' he hit hsz hk => wpAny_pyIter_enum he ?_
    refine ⟨s1.heap.objs.size + 1, [s1.heap.objs.size + 1, s1.heap.objs.size], _, _, H1, rfl, I1.kept (t' := s1.toks) hk, turn_enumT a (s1.heap.objs.size + 1) s1.heap.objs.size, ⟨⟨.none, he⟩, hit, Nat.succ_ne_self _⟩, fun b hb => ?_, q⟩
    have hle : s1.heap.objs.size ≤ b := by rcases (show b = s1.heap.objs.size + 1 ∨ b = s1.heap.objs.size by simpa using hb) with rfl | rfl <;> omega
    exact I1.fpOk hle (I1.hok.fresh hle)
end GS
set_option Elab.async false
set_option linter.all false
set_option maxRecDepth 100000
set_option maxHeartbeats 4000000
namespace G21
open PySem PySem.Spec PyProof.Rows L2
def vO : Option Int → V
  | none => .non
  | some n => .int n
def rankN : Option Int → List Int
  | none => [1, 0]
  | some n => [0, n]
def spRank : Sp := fun vs H Q _ => ∃ p : Option Int, vs = [vO p] ∧ ∀ z, H z = none → Q (.ref z) (upd H z (.tup ((rankN p).map V.int)))
section
variable {P : Program} {w : World} {K : PySem.W.Frag} {mg : Str → Option Value} {base : Heap}
theorem ok0_l_rank (T : Txt K mg) : FnOk P w K mg base CX0 1 T.l_rank.a T.l_rank.d ["item"] spRank := by
  refine T.l_rank.F.ok c_l_rank (fun vs H Q E h => ?_) (fun cdv A outer s H vs Q E hr h => ?_)
  · obtain ⟨p, rfl, _⟩ := h
    rfl
  · obtain ⟨p, rfl, k⟩ := h
    refine ⟨_,
      (pss_one (ps_ret (pe_ifExp (pt_cmpR op_isN (pv 0) pe_non (nomark _)) (pe_tup (pa_cons pe_int (pa_cons pe_int pa_nil))) (pe_tup (pa_cons pe_int (pa_cons (pv 0) pa_nil))))))
      , ?_⟩
    cases p with
    | none => exact ⟨.non, rfl, rfl, _, rfl, iteT ⟨by show 2 ≤ sizeLine; decide, fun z hz => k z hz⟩⟩
    | some n => exact ⟨.int n, rfl, rfl, _, rfl, iteF ⟨.int n, rfl, by show 2 ≤ sizeLine; decide, fun z hz => k z hz⟩⟩
end
end G21
set_option Elab.async false
set_option linter.all false
set_option maxRecDepth 100000
set_option maxHeartbeats 1000000
/-! list(reversed(a list)), list(reversed(a tuple)) -/
namespace RT
open PySem PySem.Spec PyProof.Rows
theorem nolen_rt : typeLookup (.type "reversed") "__len__" = pure none := by rw [typeLookup_type, builtinLookup_eq_fast]; kernel_rfl
theorem hint_rt : typeLookup (.type "reversed") "__length_hint__" = pure (some (.builtin "reversed.__length_hint__")) := by rw [typeLookup_type, builtinLookup_eq_fast]; kernel_rfl
theorem IsTup.at2 {h h' : Heap} {t : Addr} {items : Array Value} (x : IsTup h t items) (e : ∀ o, h.get? t = some o → h'.get? t = some o) : IsTup h' t items := let ⟨o, ho, r⟩ := x; ⟨o, e _ ho, r⟩
theorem walksRt {prog : Program} {w : World} {A : Around} (hh : A.handled = none) (I t : Addr) (hne : t ≠ I) (items : Array Value) (hsz : items.size ≤ sizeLine) :
    Walks prog w A I [I, t] [I] items.size (fun i v => items[items.size - 1 - i]? = some v) (fun i h => i ≤ items.size ∧ IsRt h I t ((items.size : Int) - 1 - (i : Int)) ∧ IsTup h t items) where
  sub := fun b hb => by simp at hb; simp [hb]
  frame := fun _ _ _ x hk => ⟨x.1, x.2.1.at fun o e => hk I (by simp) o e, IsTup.at2 x.2.2 fun o e => hk t (by simp) o e⟩
  item := fun i s Q E hi x hQ => by
    have e : (items.size : Int) - 1 - (i : Int) = ((items.size - 1 - i : Nat) : Int) := by omega
    have hit := x.2.1
    rw [e] at hit
    have hx : items[items.size - 1 - i]? = some (items[items.size - 1 - i]'(by omega)) := Array.getElem?_eq_getElem (by omega)
    refine next_rt_item hit x.2.2 hx hsz fun h' hit' hs' => ?_
    have e2 : ((items.size - 1 - i : Nat) : Int) - 1 = (items.size : Int) - 1 - ((i + 1 : Nat) : Int) := by omega
    rw [e2] at hit'
    exact hQ _ h' (s.toks + 1) hx ⟨hi, hit', IsTup.at2 x.2.2 fun o eo => (hs'.2 t hne).trans eo⟩ fun b o hb eo => hs'.extBut b o (fun h => hb (by simp [h])) eo
  done := fun s Q E x hQ => by
    have e : (items.size : Int) - 1 - (items.size : Int) = -1 := by omega
    have hit := x.2.1
    rw [e] at hit
    exact next_rt_end hh hit fun h' he' => hQ h' s.toks fun b o hb eo => he' b o (fun h => hb (by simp [h])) eo
  self := fun _ _ _ _ x hQ => iter_rt x.2.1 hQ
theorem slot_rt_hint : Slot "reversed" "__length_hint__" "reversed.__length_hint__" :=
  .of (owner := "reversed") (n := "__length_hint__") (by rw [typeLookup_type, builtinLookup_eq_fast]; kernel_rfl) (by decide +kernel) (by decide +kernel) (by decide +kernel)
    (by first | exact .inl (by decide +kernel) | exact .inr (by decide +kernel)) (by rw [isSubtype_type]; kernel_rfl)
theorem args_rt_hint (a : Value) : argsOk "reversed.__length_hint__" ⟨[a], []⟩ := by
  unfold argsOk; rw [signature?_of (id := "reversed.__length_hint__") (n := ['_', '_', 't', 'n', 'i', 'h', '_', 'h', 't', 'g', 'n', 'e', 'l', '_', '_']) (o := ['d', 'e', 's', 'r', 'e', 'v', 'e', 'r']) (by kernel_rfl) owner_rt]; kernel_rfl
theorem entry_rt_hint : entryFor table "reversed.__length_hint__" = some Builtin.«reversed.__length_hint__» := entryFor_of_tree (by kernel_rfl)
section
variable {prog : Program} {w : World} {A : Around} {E : Value → Shared → Prop} {s : Shared}
theorem hint_rt_run {it t : Addr} {items : Array Value} {Q : Value → Shared → Prop} (hit : IsRt s.heap it t ((items.size : Int) - 1)) (ht : IsTup s.heap t items) (hsz : items.size ≤ sizeLine)
    (hQ : ∀ tk tk', s.toks ≤ tk' → Q (.int items.size tk) { s with toks := tk' }) : wpAny (model prog w) A (call (.builtin "reversed.__length_hint__") [.ref it]) Q E s := by
  obtain ⟨o, ho, hc, hd⟩ := id hit
  rw [sizeLine_eq] at hsz
  refine wpAny_call_entry slot_rt_hint hit.typeIs entry_rt_hint ?_ (args_rt_hint _)
  unfold Builtin.«reversed.__length_hint__»
  refine wpAny_bind (wpAny_of_eq (a := Value.ref it) rfl ?_)
  try dsimp only
  refine wpAny_bind (wpAny_field ho hd (x := .ref t) rfl ?_)
  try dsimp only
  rw [if_neg (by intro z; cases z)]
  try dsimp only
  refine wpAny_bind (PyProof.Rows.len_tuple ht (by omega) ?_)
  refine wpAny_bind (wpAny_of_eq (a := some ((items.size : Nat) : Int)) rfl ?_)
  try dsimp only
  refine wpAny_bind (wpAny_field (s := { s with toks := s.toks + 1 + 1 }) ho hd (x := rawInt ((items.size : Int) - 1)) rfl ?_)
  try dsimp only
  show wpAny _ _ (if (items.size : Int) < ((items.size : Int) - 1) + 1 then _ else _) _ _ _
  rw [if_neg (by omega)]
  show wpAny _ _ (mkInt ((items.size : Int) - 1 + 1) >>= fun v => ret v) _ _ _
  refine wpAny_bind (wpAny_mkInt ?_)
  have e : (items.size : Int) - 1 + 1 = items.size := by omega
  rw [e]
  exact wpAny_pure ⟨_, rfl, hQ _ _ (by show s.toks ≤ s.toks + 1 + 1 + 1; omega)⟩
end
section
variable {prog : Program} {w : World} {A : Around} {s : Shared} {R : Result → Shared → Prop} {E : Value → Shared → Prop}
variable {I : Addr} {fp wr : List Addr} {G : Array GenState → Array GenState → Prop} {n : Nat} {P : Nat → Value → Prop} {St : Nat → Shared → Prop}
theorem extend_itT (W : WalksS prog w A.in1 I fp wr G n P St) {t : Addr} {items : Array Value} (hst0 : ∀ s, St 0 s → IsRt s.heap I t ((items.size : Int) - 1) ∧ IsTup s.heap t items) (hni : items.size = n) (hT : ∀ i s, St i s → s.TypeIs (.ref I) "reversed") (S : Addr) (res : Value) (c₀ : Nat) (hst : St 0 s) (hSf : S ∉ fp) (hI : I ∈ fp)
    (hS : s.heap.get? S = some { cls := .type "list", data := .seq #[] c₀ })
    (hR : ∀ s' acc' c', Moved (S :: wr) G s s' → s'.heap.get? S = some { cls := .type "list", dict := none, data := .seq acc' c', slots := #[] } → ItemsOf P acc' n → R (.ok (.ret res)) s') (hn : n ≤ sizeLine) :
    wpAny (model prog w) A.in1 (Builtin.List.listExtendWith (.ref S) (.ref I) res)
      (fun fin s' => match fin with | .done f => R (.ok f) s' | .again c' => c'.quiet = true ∧ codeAny (model prog w) A c' R s') (fun e s' => R (.error e) s') s := by
  have hSI : S ≠ I := fun e => hSf (e ▸ hI)
  unfold Builtin.List.listExtendWith
  refine wpAny_bind (wpAny_typeOf (hT 0 _ hst) ?_)
  have h1 : Builtin.List.listSameRef (.ref S) (.ref I) = false := by simp [Builtin.List.listSameRef, hSI]
  have n1 : (Value.type "reversed" == Value.type "list") = false := by decide
  have n2 : (Value.type "reversed" == Value.type "tuple") = false := by decide
  simp only [h1, n1, n2, Bool.or_false, Bool.false_eq_true, if_false]
  refine wpAny_bind (W.self 0 _ _ _ hst ?_)
  refine wpAny_bind (wpAny_holding ?_)
  unfold Builtin.List.listLengthHint
  refine wpAny_bind (wpAny_specialOf (hT 0 _ hst) nolen_rt ?_)
  show wpAny _ A.in1 (specialOf (Value.ref I) (Str.ofString "__length_hint__") >>= _) _ _ _
  refine wpAny_bind (wpAny_specialOf (hT 0 _ hst) hint_rt ?_)
  generalize hid : ("reversed.__length_hint__" : String) = id0
  wp_delta
  rw [show splitId id0 = some ("reversed", "__length_hint__") from by subst hid; decide +kernel]
  subst hid
  refine wpAny_bind (wpAny_isInstance (b := true) (hT 0 _ hst) (by rw [isSubtype_type]; kernel_rfl) ?_)
  simp only [Bool.not_true, Bool.false_eq_true, if_false]
  rw [if_neg (by decide +kernel)]
  refine wpAny_bind (wpAny_rule ?_)
  refine wpAny_bind (wpAny_of_eq (slot_rt_hint.bind (.ref I)) ?_)
  dsimp only
  refine wpAny_bind (wpAny_attempt (hint_rt_run (hst0 _ hst).1 (hst0 _ hst).2 (by rw [hni]; exact hn) fun tk tk' htk => ?_))
  dsimp only
  have ea : asInt? (Value.int ((items.size : Nat) : Int) tk) = pure (some ((items.size : Nat) : Int)) := rfl
  rw [ea]
  refine wpAny_bind ?_
  refine wpAny_pure ?_
  dsimp only
  have hz : items.size ≤ 16777216 := by rw [hni, ← sizeLine_eq]; exact hn
  have f1 : Builtin.List.listFitsIndex ((items.size : Nat) : Int) = true := by
    unfold Builtin.List.listFitsIndex
    simp
    omega
  have f2 : Builtin.List.listTooLong ((items.size : Nat) : Int).toNat = false := by
    unfold Builtin.List.listTooLong
    simp [sizeLine_eq]
    omega
  rw [f1, f2]
  simp only [Bool.not_true, Bool.false_eq_true, if_false]
  rw [if_neg (by omega)]
  refine wpAny_pure ?_
  have hst1 : St 0 { s with toks := tk' } := W.frame 0 s s.heap tk' hst htk fun b _ o e => e
  clear f1 f2 hz ea
  split
  · refine wpAny_bind (wpAny_rule ?_)
    refine wpAny_bind ?_
    show wpAny _ A.in1 (updateSeq S (·.push .none) >>= fun _ => updateSeq S (·.pop)) _ _ _
    refine wpAny_bind (wpAny_updateSeq hS rfl ?_)
    have hS₂ := Heap.get?_update_self (Obj.mapSeq (·.push Value.none)) hS rfl
    refine wpAny_updateSeq (hz := by seq_fits) hS₂ rfl ?_
    have hS₃ := Heap.get?_update_self (Obj.mapSeq (·.pop)) hS₂ rfl
    have oth : ∀ b o, b ≠ S → s.heap.get? b = some o → ((s.heap.update S (Obj.mapSeq (·.push Value.none))).update S (Obj.mapSeq (·.pop))).get? b = some o :=
      fun b o hb e => (Heap.get?_update_other _ _ (Ne.symm hb)).trans ((Heap.get?_update_other _ _ (Ne.symm hb)).trans e)
    refine wpAny_pure ⟨plainId_quiet F.plain_extend_loop _, codeAny_extend_loopS W hn _ hSf _ n 0 _ _ _ rfl (Nat.zero_le _)
      (W.frame 0 { s with toks := tk' } _ tk' hst1 (Nat.le_refl _) fun b hb o e => oth b o (fun h => hSf (h ▸ hb)) e) hS₃ (ItemsOf.nil P) fun s' acc' c' hm hS' hacc => ?_⟩
    exact hR s' acc' c' (Moved.trans W.gtrans ((Moved.refl W.grefl).then_heap htk fun b o hb e => oth b o (fun h => hb (h ▸ List.mem_cons_self)) e) hm) hS' hacc
  · refine wpAny_pure ⟨plainId_quiet F.plain_extend_loop _, codeAny_extend_loopS W hn _ hSf _ n 0 _ _ _ rfl (Nat.zero_le _) hst1 hS (ItemsOf.nil P) fun s' acc' c' hm hS' hacc => ?_⟩
    exact hR s' acc' c' (Moved.trans W.gtrans ((Moved.refl W.grefl).then_heap htk fun b o hb e => e) hm) hS' hacc
theorem extend_itL (W : WalksS prog w A.in1 I fp wr G n P St) (hT : ∀ i s, St i s → s.TypeIs (.ref I) "list_reverseiterator") (S : Addr) (res : Value) (c₀ : Nat) (hst : St 0 s) (hSf : S ∉ fp) (hI : I ∈ fp)
    (hS : s.heap.get? S = some { cls := .type "list", data := .seq #[] c₀ })
    (hR : ∀ s' acc' c', Moved (S :: wr) G s s' → s'.heap.get? S = some { cls := .type "list", dict := none, data := .seq acc' c', slots := #[] } → ItemsOf P acc' n → R (.ok (.ret res)) s') (hn : n ≤ sizeLine) :
    wpAny (model prog w) A.in1 (Builtin.List.listExtendWith (.ref S) (.ref I) res)
      (fun fin s' => match fin with | .done f => R (.ok f) s' | .again c' => c'.quiet = true ∧ codeAny (model prog w) A c' R s') (fun e s' => R (.error e) s') s := by
  have hSI : S ≠ I := fun e => hSf (e ▸ hI)
  unfold Builtin.List.listExtendWith
  refine wpAny_bind (wpAny_typeOf (hT 0 _ hst) ?_)
  have h1 : Builtin.List.listSameRef (.ref S) (.ref I) = false := by simp [Builtin.List.listSameRef, hSI]
  have n1 : (Value.type "list_reverseiterator" == Value.type "list") = false := by decide
  have n2 : (Value.type "list_reverseiterator" == Value.type "tuple") = false := by decide
  simp only [h1, n1, n2, Bool.or_false, Bool.false_eq_true, if_false]
  refine wpAny_bind (W.self 0 _ _ _ hst ?_)
  refine wpAny_bind (wpAny_holding ?_)
  unfold Builtin.List.listLengthHint
  refine wpAny_bind (wpAny_specialOf (hT 0 _ hst) nolen_lri ?_)
  show wpAny _ A.in1 (specialOf (Value.ref I) (Str.ofString "__length_hint__") >>= _) _ _ _
  refine wpAny_bind (wpAny_specialOf (hT 0 _ hst) hint_lri ?_)
  generalize hid : ("list_reverseiterator.__length_hint__" : String) = id0
  wp_delta
  rw [show splitId id0 = some ("list_reverseiterator", "__length_hint__") from by subst hid; decide +kernel]
  subst hid
  refine wpAny_bind (wpAny_isInstance (b := true) (hT 0 _ hst) (by rw [isSubtype_type]; kernel_rfl) ?_)
  refine wpAny_pure ?_
  rw [if_neg (by decide)]
  refine wpAny_pure ⟨plainId_quiet F.plain_extend_loop _, codeAny_extend_loopS W hn _ hSf _ n 0 _ _ _ rfl (Nat.zero_le _) hst hS (ItemsOf.nil P) fun s' acc' c' hm hS' hacc => hR s' acc' c' hm hS' hacc⟩
theorem init_itL (W : WalksS prog w A.in1 I fp wr G n P St) (hT : ∀ i s, St i s → s.TypeIs (.ref I) "list_reverseiterator") (S : Addr) (hst : St 0 s) (hSf : S ∉ fp) (hI : I ∈ fp)
    (hS : s.heap.get? S = some { cls := .type "list", data := .seq #[] })
    (hR : ∀ s' acc' c', Moved (S :: wr) G s s' → s'.heap.get? S = some { cls := .type "list", dict := none, data := .seq acc' c', slots := #[] } → ItemsOf P acc' n → R (.ok (.ret .none)) s') (hn : n ≤ sizeLine) :
    wpAny (model prog w) A.in1 (Builtin.«list.__init__» ⟨[.ref S, .ref I], []⟩)
      (fun fin s' => match fin with | .done f => R (.ok f) s' | .again c' => c'.quiet = true ∧ codeAny (model prog w) A c' R s') (fun e s' => R (.error e) s') s := by
  show wpAny _ A.in1 (do let old ← Builtin.List.listItems (.ref S); Builtin.List.listUpdate (.ref S) (fun _ => #[]); letGo old.toList.reverse; Builtin.List.listExtendWith (.ref S) (.ref I) .none) _ _ s
  refine wpAny_bind ?_
  unfold Builtin.List.listItems
  refine wpAny_bind (wpAny_seqItems hS rfl (wpAny_pure ?_))
  show wpAny _ A.in1 (updateSeq S (fun _ => #[]) >>= fun _ => letGo (#[] : Array Value).toList.reverse >>= fun _ => Builtin.List.listExtendWith (.ref S) (.ref I) .none) _ _ s
  refine wpAny_bind (wpAny_updateSeq hS rfl ?_)
  have hS₂ := Heap.get?_update_self (Obj.mapSeq (fun _ => (#[] : Array Value))) hS rfl
  have oth : ∀ b o, b ≠ S → s.heap.get? b = some o → (s.heap.update S (Obj.mapSeq (fun _ => (#[] : Array Value)))).get? b = some o :=
    fun b o hb e => (Heap.get?_update_other _ _ (Ne.symm hb)).trans e
  refine wpAny_bind (wpAny_letGo ?_)
  refine extend_itL W hT S .none _ (W.frame 0 s _ s.toks hst (Nat.le_refl _) fun b hb o e => oth b o (fun h => hSf (h ▸ hb)) e) hSf hI hS₂ (fun s' acc' c' hm hS' hacc => ?_) hn
  exact hR s' acc' c' (Moved.trans W.gtrans ((Moved.refl W.grefl).then_heap (Nat.le_refl _) fun b o hb e => oth b o (fun h => hb (h ▸ List.mem_cons_self)) e) hm) hS' hacc
theorem call_list_itL {Q : Value → Shared → Prop} (W : WalksS prog w A.in1.in1 I fp wr G n P St) (hT : ∀ i s, St i s → s.TypeIs (.ref I) "list_reverseiterator") (hst : St 0 s) (hfp : ∀ b ∈ fp, b < s.heap.objs.size) (hI : I ∈ fp)
    (hQ : ∀ s' acc' c', Moved (s.heap.objs.size :: wr) G { s with heap := s.heap.push { cls := .type "list", data := .seq #[] } } s' →
      s'.heap.get? s.heap.objs.size = some { cls := .type "list", dict := none, data := .seq acc' c', slots := #[] } → ItemsOf P acc' n → Q (.ref s.heap.objs.size) s') (hn : n ≤ sizeLine) :
    wpAny (model prog w) A (call (.type "list") [.ref I]) Q E s := by
  have hSf : s.heap.objs.size ∉ fp := fun hm => Nat.lt_irrefl _ (hfp _ hm)
  refine callType_codes (Q₁ := fun obj s₁ => obj = .ref s.heap.objs.size ∧ s₁ = { s with heap := s.heap.push { cls := .type "list", data := .seq #[] } }) F.called_list (F.typeCall_list_1 _) F.entry_list_init
    (code_list_new _ ⟨rfl, rfl⟩) fun obj s₁ h₁ => ?_
  obtain ⟨rfl, rfl⟩ := h₁
  have hS : (s.heap.push { cls := .type "list", data := .seq #[] }).get? s.heap.objs.size = some { cls := .type "list", data := .seq #[] } := Heap.get?_push_size _ rfl
  refine ⟨⟨_, hS, rfl⟩, F.args_list_init_2 _ _, init_itL W hT _ (W.frame 0 s _ s.toks hst (Nat.le_refl _) fun b _ o e => Heap.get?_push_of_some _ e) hSf hI hS (fun s' acc' c' hm hS' hacc => ?_) hn⟩
  exact ⟨rfl, hQ s' acc' c' hm hS' hacc⟩
theorem init_itT (W : WalksS prog w A.in1 I fp wr G n P St) {t : Addr} {items : Array Value} (hst0 : ∀ s, St 0 s → IsRt s.heap I t ((items.size : Int) - 1) ∧ IsTup s.heap t items) (hni : items.size = n) (hT : ∀ i s, St i s → s.TypeIs (.ref I) "reversed") (S : Addr) (hst : St 0 s) (hSf : S ∉ fp) (hI : I ∈ fp)
    (hS : s.heap.get? S = some { cls := .type "list", data := .seq #[] })
    (hR : ∀ s' acc' c', Moved (S :: wr) G s s' → s'.heap.get? S = some { cls := .type "list", dict := none, data := .seq acc' c', slots := #[] } → ItemsOf P acc' n → R (.ok (.ret .none)) s') (hn : n ≤ sizeLine) :
    wpAny (model prog w) A.in1 (Builtin.«list.__init__» ⟨[.ref S, .ref I], []⟩)
      (fun fin s' => match fin with | .done f => R (.ok f) s' | .again c' => c'.quiet = true ∧ codeAny (model prog w) A c' R s') (fun e s' => R (.error e) s') s := by
  show wpAny _ A.in1 (do let old ← Builtin.List.listItems (.ref S); Builtin.List.listUpdate (.ref S) (fun _ => #[]); letGo old.toList.reverse; Builtin.List.listExtendWith (.ref S) (.ref I) .none) _ _ s
  refine wpAny_bind ?_
  unfold Builtin.List.listItems
  refine wpAny_bind (wpAny_seqItems hS rfl (wpAny_pure ?_))
  show wpAny _ A.in1 (updateSeq S (fun _ => #[]) >>= fun _ => letGo (#[] : Array Value).toList.reverse >>= fun _ => Builtin.List.listExtendWith (.ref S) (.ref I) .none) _ _ s
  refine wpAny_bind (wpAny_updateSeq hS rfl ?_)
  have hS₂ := Heap.get?_update_self (Obj.mapSeq (fun _ => (#[] : Array Value))) hS rfl
  have oth : ∀ b o, b ≠ S → s.heap.get? b = some o → (s.heap.update S (Obj.mapSeq (fun _ => (#[] : Array Value)))).get? b = some o :=
    fun b o hb e => (Heap.get?_update_other _ _ (Ne.symm hb)).trans e
  refine wpAny_bind (wpAny_letGo ?_)
  refine extend_itT W hst0 hni hT S .none _ (W.frame 0 s _ s.toks hst (Nat.le_refl _) fun b hb o e => oth b o (fun h => hSf (h ▸ hb)) e) hSf hI hS₂ (fun s' acc' c' hm hS' hacc => ?_) hn
  exact hR s' acc' c' (Moved.trans W.gtrans ((Moved.refl W.grefl).then_heap (Nat.le_refl _) fun b o hb e => oth b o (fun h => hb (h ▸ List.mem_cons_self)) e) hm) hS' hacc
theorem call_list_itT {Q : Value → Shared → Prop} (W : WalksS prog w A.in1.in1 I fp wr G n P St) {t : Addr} {items : Array Value} (hst0 : ∀ s, St 0 s → IsRt s.heap I t ((items.size : Int) - 1) ∧ IsTup s.heap t items) (hni : items.size = n) (hT : ∀ i s, St i s → s.TypeIs (.ref I) "reversed") (hst : St 0 s) (hfp : ∀ b ∈ fp, b < s.heap.objs.size) (hI : I ∈ fp)
    (hQ : ∀ s' acc' c', Moved (s.heap.objs.size :: wr) G { s with heap := s.heap.push { cls := .type "list", data := .seq #[] } } s' →
      s'.heap.get? s.heap.objs.size = some { cls := .type "list", dict := none, data := .seq acc' c', slots := #[] } → ItemsOf P acc' n → Q (.ref s.heap.objs.size) s') (hn : n ≤ sizeLine) :
    wpAny (model prog w) A (call (.type "list") [.ref I]) Q E s := by
  have hSf : s.heap.objs.size ∉ fp := fun hm => Nat.lt_irrefl _ (hfp _ hm)
  refine callType_codes (Q₁ := fun obj s₁ => obj = .ref s.heap.objs.size ∧ s₁ = { s with heap := s.heap.push { cls := .type "list", data := .seq #[] } }) F.called_list (F.typeCall_list_1 _) F.entry_list_init
    (code_list_new _ ⟨rfl, rfl⟩) fun obj s₁ h₁ => ?_
  obtain ⟨rfl, rfl⟩ := h₁
  have hS : (s.heap.push { cls := .type "list", data := .seq #[] }).get? s.heap.objs.size = some { cls := .type "list", data := .seq #[] } := Heap.get?_push_size _ rfl
  refine ⟨⟨_, hS, rfl⟩, F.args_list_init_2 _ _, init_itT W hst0 hni hT _ (W.frame 0 s _ s.toks hst (Nat.le_refl _) fun b _ o e => Heap.get?_push_of_some _ e) hSf hI hS (fun s' acc' c' hm hS' hacc => ?_) hn⟩
  exact ⟨rfl, hQ s' acc' c' hm hS' hacc⟩
end
end RT

namespace V3
open PySem PySem.Spec PyProof.Rows L2 RT
/-- list(reversed(x)), x a list or a tuple: a new list -/
def tListRev (K : PySem.W.Frag) (te : TE) : TE := fun σ H Q => te σ H fun v H1 => ∃ (a : Addr) (xs : List V), v = .ref a ∧ (SqL K H1 a xs ∨ SqT K H1 a xs) ∧ ∀ q, H1 q = none → Q (.ref q) (upd H1 q (.lst xs.reverse))
section
variable {X : Cx}
theorem rev_inv {pins : List (Addr × Obj)} {σ : L2.St} {H1 : Hp} {Q : VK} {s1 s' : Shared} {xs : List V} {its : List Value} {o0 : Obj} {acc : Array Value} {c' : Nat} {G : Array GenState → Array GenState → Prop} (I1 : Inv X pins σ H1 s1) (rv : Vals xs its) (hz : xs.length ≤ sizeLine)
    (he : s' = { s1 with heap := s'.heap, toks := s'.toks }) (hm : ∀ b o, b ≠ (s1.heap.push o0).objs.size → b ≠ s1.heap.objs.size → s1.heap.get? b = some o → s'.heap.get? b = some o) (hS : s'.heap.get? (s1.heap.push o0).objs.size = some { cls := .type "list", dict := none, data := .seq acc c', slots := #[] })
    (hi : ItemsOf (fun i v => its.toArray[its.toArray.size - 1 - i]? = some v) acc its.toArray.size) (q : ∀ q, H1 q = none → Q (.ref q) (upd H1 q (.lst xs.reverse))) : EP X pins σ Q (.ref (s1.heap.push o0).objs.size) s' := by
  have pushz : (s1.heap.push o0).objs.size = s1.heap.objs.size + 1 := by simp [Heap.push]
  have k : ∀ b o, s1.heap.get? b = some o → s'.heap.get? b = some o := fun b o e => by
    have hb := Heap.lt_size e
    refine hm b o (fun z => ?_) (Nat.ne_of_lt hb) e
    rw [z, pushz] at hb
    exact absurd hb (Nat.not_lt.mpr (Nat.le_succ _))
  have hp : s1.heap.objs.size ≤ (s1.heap.push o0).objs.size := by
    rw [pushz]
    exact Nat.le_succ _
  have hn0 : H1 (s1.heap.push o0).objs.size = none := I1.hok.fresh hp
  rw [he]
  refine ⟨.ref _, upd H1 _ (.lst xs.reverse), ?_, rfl, q _ hn0⟩
  exact I1.call (ch := []) (Un.laid k hp hn0) (I1.hok.laid k hp ⟨by rw [List.length_reverse]; exact hz, acc.toList, c', vals_rev rv hi, by rw [Array.toArray_toList]; exact hS⟩) I1.bare (fun _ z => nomatch z)
theorem pe_listRev (K : PySem.W.Frag) {e : Expr} {te : TE} {p p2 pos pos2 : Pos} (hc : X.calm = true) (hg : Gl X "list") (hm : X.mg "list" = none) (hg2 : Gl X "reversed") (hm2 : X.mg "reversed" = none) (he : PE X e te)
    (hs : starEach [e] X.env = (false, eval e X.env) :: starEach [] X.env := by rfl)
    (hs2 : starEach [.Call (.Name "reversed" p2) [e] [] pos2] X.env = (false, eval (.Call (.Name "reversed" p2) [e] [] pos2) X.env) :: starEach [] X.env := by rfl) (hK : X.K = K := by rfl) :
    PE X (.Call (.Name "list" p) [.Call (.Name "reversed" p2) [e] [] pos2] [] pos) (tListRev K te) := by
  subst hK
  refine ⟨fun pins s σ H Q I h => ?_⟩
  refine Call_ (ld_blt I hg hm boot_list (PyProof.Rows.callWith_type1 (args_cons (Call_ (ld_blt I hg2 hm2 PyProof.Rows.boot_reversed (PyProof.Rows.callWith_type1 (args_cons (thn (he.run pins s σ H _ I h) fun u s1 ⟨v, H1, I1, r1, q1⟩ => args_nil ?_) hs) hs rfl))) hs2) hs2 rfl))
  obtain ⟨a, xs, ev, hq, q⟩ := q1
  subst ev
  obtain rfl : u = Value.ref a := r1
  have pushz : ∀ (h : Heap) (o : Obj), (h.push o).objs.size = h.objs.size + 1 := fun h o => by simp [Heap.push]
  rcases hq with hq | hq
  · obtain ⟨its, rv, p', hz⟩ := I1.list hq
    refine call_reversed_list p'.isList (args_nil ?_)
    have hl := p'.isList
    obtain ⟨ol, hol, _⟩ := id hl
    have hne : a ≠ s1.heap.objs.size := Nat.ne_of_lt (Heap.lt_size hol)
    have hn : its.toArray.size ≤ sizeLine := by rw [List.size_toArray, ← rv.length]; exact hz
    have W := (Walks.listRev (prog := X.prog) (w := X.w) (A := X.A.in1.in1) (I1.ok.hd hc) s1.heap.objs.size a hne its.toArray).toS
    have hit0 : (s1.heap.push (revObj a ((its.toArray.size : Int) - 1))).IsRevIter s1.heap.objs.size a ((its.toArray.size : Int) - 1) := ⟨_, Heap.get?_push_size _ rfl, rfl, rfl⟩
    have e0 : ((its.toArray.size : Nat) : Int) - 1 - ((0 : Nat) : Int) = (its.toArray.size : Int) - 1 := by omega
    refine call_list_itL (s := { s1 with heap := s1.heap.push (revObj a ((its.toArray.size : Int) - 1)) }) W (fun i s z => Heap.IsRevIter.typeIs z.2.1) ⟨Nat.zero_le _, by rw [e0]; exact hit0, hl.push _⟩ (fun b hb => ?_) (by simp) (fun s' acc c' hm hS hi => ?_) hn
    · show b < (s1.heap.push _).objs.size
      rw [pushz]
      rcases List.mem_cons.mp hb with z | z
      · rw [z]
        exact Nat.lt_succ_self _
      · rw [List.mem_singleton.mp z]
        exact Nat.lt_succ_of_lt (Heap.lt_size hol)
    · refine rev_inv (G := fun _ _ => True) I1 rv hz (by have ee := Moved.eq_with hm; exact ee) (fun b o h1 h2 e => hm.heap b o (fun z => ?_) (Heap.get?_push_of_some _ (Heap.get?_push_of_some _ e))) hS hi q
      rcases List.mem_cons.mp z with z | z
      · exact h1 z
      · exact h2 (List.mem_singleton.mp z)
  · obtain ⟨its, rv, p', hz⟩ := I1.tuple hq
    have hll := rv.length
    have h63 := line63
    refine call_reversed_tup p' (fun A E Q k => len_tuple p' (by simp only [List.size_toArray] <;> omega) k) (args_nil ?_)
    obtain ⟨ol, hol, _⟩ := id p'
    have hne : a ≠ s1.heap.objs.size := Nat.ne_of_lt (Heap.lt_size hol)
    have hn : its.toArray.size ≤ sizeLine := by rw [List.size_toArray, ← rv.length]; exact hz
    have W := (walksRt (prog := X.prog) (w := X.w) (A := X.A.in1.in1) (I1.ok.hd hc) s1.heap.objs.size a hne its.toArray hn).toS
    have hit0 : IsRt (s1.heap.push (rtObj a ((its.toArray.size : Int) - 1))) s1.heap.objs.size a ((its.toArray.size : Int) - 1) := ⟨_, Heap.get?_push_size _ rfl, rfl, rfl⟩
    have e0 : ((its.toArray.size : Nat) : Int) - 1 - ((0 : Nat) : Int) = (its.toArray.size : Int) - 1 := by omega
    have I2 : Inv X pins σ H1 { s1 with toks := s1.toks + 1 + 1 } := I1.tok _
    refine call_list_itT (s := { s1 with heap := s1.heap.push (rtObj a ((its.toArray.size : Int) - 1)), toks := s1.toks + 1 + 1 }) W (t := a) (items := its.toArray) (fun s z => ⟨by have := z.2.1; rw [e0] at this; exact this, z.2.2⟩) rfl (fun i s z => IsRt.typeIs z.2.1) ⟨Nat.zero_le _, by rw [e0]; exact hit0, IsTup.at2 p' fun o e => Heap.get?_push_of_some _ e⟩ (fun b hb => ?_) (by simp) (fun s' acc c' hm hS hi => ?_) hn
    · show b < (s1.heap.push _).objs.size
      rw [pushz]
      rcases List.mem_cons.mp hb with z | z
      · rw [z]
        exact Nat.lt_succ_self _
      · rw [List.mem_singleton.mp z]
        exact Nat.lt_succ_of_lt (Heap.lt_size hol)
    · refine rev_inv (s1 := { s1 with toks := s1.toks + 1 + 1 }) (G := fun _ _ => True) I2 rv hz (by have ee := Moved.eq_with hm; exact ee) (fun b o h1 h2 e => hm.heap b o (fun z => ?_) (Heap.get?_push_of_some _ (Heap.get?_push_of_some _ e))) hS hi q
      rcases List.mem_cons.mp z with z | z
      · exact h1 z
      · exact h2 (List.mem_singleton.mp z)
end
end V3
set_option Elab.async false
set_option linter.all false
set_option maxRecDepth 100000
set_option maxHeartbeats 4000000
/-! sorted(xs, key = lambda x: ..), the keys tuples of ints -/
namespace GS
open PySem PySem.Spec PyProof.Rows L2 LamX
section
variable {X : Cx} {pins : List (Addr × Obj)} {σ : L2.St} {H : Hp} {s : Shared}
/-- what was new at an earlier time, and is nobody's, is written -/
theorem inv_raw {H0 : Hp} {s0 : Shared} {b : Addr} {g : Obj → Obj} (I0 : Inv X pins σ H0 s0) (I : Inv X pins σ H s) (hb : s0.heap.objs.size ≤ b) (hn : H b = none) : Inv X pins σ H { s with heap := s.heap.update b g } := by
  have lt : ∀ c u, s0.heap.get? c = some u → c ≠ b := fun c u e z => by
    have h1 := Heap.lt_size e
    rw [z] at h1
    exact Nat.lt_irrefl _ (Nat.lt_of_lt_of_le h1 hb)
  refine I.step (g' := s.gens) (t' := s.toks) (d' := s.drawn) (ch := [b]) (fun c hc => ?_) (fun c o _ _ hc e _ => ?_) (fun c o _ _ hc e _ => ⟨o.slots, ?_⟩) (fun c o _ _ n => n) (fun c o hc e => ⟨o, ?_⟩) (fun _ _ e => e) (fun _ _ _ e => e) (fun c ps e => ⟨#[], by rw [e]; simp⟩)
    (fun m hm => ?_) (fun c u e => ?_) I.bare
  · rw [List.mem_singleton.mp hc]
    refine ⟨.inr (Nat.le_trans I0.sz hb), fun z => ?_, fun x c e z => ?_, fun p hp => lt _ _ (I0.pin p hp).1⟩
    · have h1 := I0.lt
      rw [← z] at h1
      exact Nat.lt_irrefl _ (Nat.lt_of_lt_of_le h1 hb)
    · obtain ⟨v, o, ho, _⟩ := I0.cell x c e
      exact lt c _ ho z
  · exact (Heap.get?_update_ne _ _ _ _ (fun z => hc (by rw [z]; exact List.mem_singleton.mpr rfl))).trans e
  · exact (Heap.get?_update_ne _ _ _ _ (fun z => hc (by rw [z]; exact List.mem_singleton.mpr rfl))).trans e
  · exact (Heap.get?_update_ne _ _ _ _ (fun z => hc (by rw [z]; exact List.mem_singleton.mpr rfl))).trans e
  · obtain ⟨ob, es, ep, ho, r⟩ := hm
    have nl : X.env.locals ≠ b := fun z => by
      have h1 := I0.lt
      rw [z] at h1
      exact Nat.lt_irrefl _ (Nat.lt_of_lt_of_le h1 hb)
    exact ⟨ob, es, ep, (Heap.get?_update_ne _ _ _ _ nl).trans ho, r⟩
  · refine (I.hok c u e).stay (fun d v hd q => ?_) (fun d q => q) (fun d xs q => q)
    have nd : d ≠ b := by
      rcases hd with z | z
      · rw [z]
        exact ne_of_none e hn
      · exact ne_of_none z hn
    exact (Heap.get?_update_ne _ _ _ _ nd).trans q
theorem room_in1 {k : Nat} {A : Around} (r : Room (k + 1) A) : Room k A.in1.in1 := ⟨r.hd, by have := r.dp; show A.depth + 3 * k + 5 < _; omega, by have := r.un; show A.units + 1 + 1 + 16 * k + 200 < _; omega⟩

/-- sorted(xs, key = f): f a kept lambda that makes of each item a new tuple of d ints -/
def rSortK (P : Program) (w : World) (K : PySem.W.Frag) (mg : Str → Option Value) (base : Heap) (k d : Nat) : List V → List V → Hp → VK → Prop := fun vs zs H Q => ∃ (a f c' : Addr) (q : Str) (params : Arguments) (body : Expr) (scope : Scope) (xs : List V) (kz : V → List Int) (sp : Sp),
  vs = [.ref a] ∧ zs = [.ref f] ∧ SqL K H a xs ∧ (∀ x ∈ xs, ∃ t, x = .ref t) ∧ H f = some (LamO c' q params body scope f) ∧ H c' = some (CodeO c' q) ∧ LamRun P w K mg base CX0 k q params body scope 1 sp ∧
  (∀ x ∈ xs, (kz x).length = d ∧ ∀ H1, Same H H1 → sp [x] H1 (fun y H2 => ∃ t, y = .ref t ∧ Same H1 H2 ∧ H2 t = some (.tup ((kz x).map V.int))) E0) ∧
  ∀ (ys : List V) (p : Addr) (H' : Hp), Same H H' → H' p = none → ys.Perm xs → ys.Pairwise (fun x y => HT.lexLt (kz y) (kz x) = false) → Q (.ref p) (upd H' p (.lst ys))
/-- ahead of turn j of the keys' loop: e1 the emptied list's mark, kS the keys' own list -/
structure KJ (X : Cx) (pins : List (Addr × Obj)) (σ : L2.St) (H : Hp) (xs : List V) (kz : V → List Int) (a kS : Addr) (e1 j : Nat) (s' : Shared) : Prop where
  ex : ∃ (H' : Hp) (e : Nat) (ts : List Addr), Inv X pins σ H' s' ∧ Same H H' ∧ s'.heap.get? a = some (seqObj "list" #[] e1) ∧ H' a = none ∧ s'.heap.get? kS = some (seqObj "list" (ts.map Value.ref).toArray e) ∧ H' kS = none ∧
    Paired (fun t x => H' t = some (.tup ((kz x).map V.int))) ts (xs.take j)
theorem pd_same {xs : List V} {kz : V → List Int} {H H' : Hp} {ts : List Addr} (e : Same H H') (h : Paired (fun t x => H t = some (.tup ((kz x).map V.int))) ts xs) : Paired (fun t x => H' t = some (.tup ((kz x).map V.int))) ts xs := by
  induction h with
  | nil => exact .nil
  | cons r t ih => exact .cons (e _ _ r) ih
theorem pd_snoc {α β : Type} {F : α → β → Prop} {as : List α} {bs : List β} {a : α} {b : β} (h : Paired F as bs) (r : F a b) : Paired F (as ++ [a]) (bs ++ [b]) := by
  induction h with
  | nil => exact .cons r .nil
  | cons r' t ih => exact .cons r' ih
theorem pd_len' {α β : Type} {F : α → β → Prop} {as : List α} {bs : List β} (h : Paired F as bs) : as.length = bs.length := by
  induction h with
  | nil => rfl
  | cons r t ih => rw [List.length_cons, List.length_cons, ih]
theorem pd_at' {α β : Type} {F : α → β → Prop} : ∀ {as : List α} {bs : List β} {i : Nat} {a : α}, Paired F as bs → as[i]? = some a → ∃ b, bs[i]? = some b ∧ F a b
  | _, _, i, a, .nil, h => by simp at h
  | _, _, 0, a, .cons r t, h => by
    simp only [List.getElem?_cons_zero, Option.some.injEq] at h
    exact ⟨_, rfl, by rw [← h]; exact r⟩
  | _, _, i + 1, a, .cons r t, h => by
    rw [List.getElem?_cons_succ] at h ⊢
    exact pd_at' t h
/-- the keys' loop -/
theorem keys_run {I0s : Shared} {Hs : Hp} {k d : Nat} {a kS f c' : Addr} {e1 : Nat} {q : Str} {params : Arguments} {body : Expr} {scope : Scope} {xs : List V} {its : List Value} {kz : V → List Int} {sp : Sp} {R : PySem.Fin → Shared → Prop} {s1 : Shared}
    (I0 : Inv X pins σ Hs I0s) (fa : I0s.heap.objs.size ≤ a) (fk : I0s.heap.objs.size ≤ kS) (nak : kS ≠ a) (hr : Room (k + 1) X.A) (rv : Vals xs its) (hz : its.length ≤ sizeLine)
    (hf : H f = some (LamO c' q params body scope f)) (hc : H c' = some (CodeO c' q)) (run : LamRun X.prog X.w X.K X.mg X.base CX0 k q params body scope 1 sp)
    (hsp : ∀ x ∈ xs, (kz x).length = d ∧ ∀ H1, Same H H1 → sp [x] H1 (fun y H2 => ∃ t, y = .ref t ∧ Same H1 H2 ∧ H2 t = some (.tup ((kz x).map V.int))) E0)
    (h0 : KJ X pins σ H xs kz a kS e1 0 s1)
    (h : ∀ s' keys, KJ X pins σ H xs kz a kS e1 xs.length s' → (∃ e, s'.heap.get? kS = some (seqObj "list" keys e)) → wpAny (model X.prog X.w) X.A.in1.in1 (ksk_end a false its.toArray e1 (.ref kS) keys) R X.xe s') :
    wpAny (model X.prog X.w) X.A.in1.in1 (ksk_rest a (.ref f) false its.toArray e1 (.ref kS)) R X.xe s1 := by
  have hlen := rv.length
  have notfr : ∀ b, I0s.heap.objs.size ≤ b → b ∉ frs X.stack := fun b hb z => by
    rcases List.mem_cons.mp (I0.stkSub _ z) with e | e
    · have h1 := I0.lt
      rw [← e] at h1
      exact Nat.lt_irrefl _ (Nat.lt_of_lt_of_le h1 hb)
    · exact I0.nofs hb e
  unfold ksk_rest
  refine wpAny_bind (wpAny_rule ?_)
  first
    | rw [List.forIn_toArray]
    | (rw [← Array.forIn_toList]; simp only [List.toList_toArray])
  refine wpAny_bind (ksk_fold (fun i s' => KJ X pins σ H xs kz a kS e1 i s') its 0 s1 h0 ?step ?done)
  case step =>
    intro j u s' hu hJ
    rw [Nat.zero_add] at hJ ⊢
    obtain ⟨H', e, ts, I', S', ga, na, gk, nk, pk⟩ := hJ.ex
    have jl : j < xs.length := by
      rw [hlen]
      exact (List.getElem?_eq_some_iff.mp hu).1
    obtain ⟨x, hx, rx⟩ : ∃ x, xs[j]? = some x ∧ RelV x u := by
      obtain ⟨u', hu', r'⟩ := Vals.get rv (List.getElem?_eq_getElem jl)
      rw [hu] at hu'
      cases hu'
      exact ⟨_, List.getElem?_eq_getElem jl, r'⟩
    obtain ⟨hd, go⟩ := hsp x (List.mem_of_getElem? hx)
    have cr := run f c' X.A.in1.in1 X.stack s' H' [u] [x] _ E0 (room_in1 hr) I'.env0.in1.in1 (S' _ _ hf) (S' _ _ hc) (.cons rx .nil) rfl (go H' S')
    refine wpAny_bind (wpAny_attempt (wpAny_call (codeAny_mono cr fun r s'' hq => ?_)))
    cases r with
    | error e => exact (show False from hq).elim
    | ok fl =>
      cases fl with
      | next => exact False.elim hq
      | brk => exact False.elim hq
      | cont => exact False.elim hq
      | ret v =>
        obtain ⟨y, H2, os, bare, un, hok, ry, t, ey, S2, ht⟩ := hq
        subst ey
        obtain rfl : v = Value.ref t := ry
        obtain ⟨w1, H3, I2, _, ew, eH⟩ := I'.after (Q := fun v1 H1 => v1 = V.ref t ∧ H1 = H2) ⟨.ref t, H2, os, bare, un, hok, rfl, rfl, rfl⟩
        rw [eH] at I2
        have gk2 := un.keep kS _ gk nk (notfr kS fk) (by simp)
        have ga2 := un.keep a _ ga na (notfr a fa) (by simp)
        have nk2 := un.free kS _ gk nk (by simp)
        have na2 := un.free a _ ga na (by simp)
        have tl : ts.length = j := by
          rw [pd_len' pk, List.length_take]
          omega
        try dsimp only
        refine wpAny_bind (listUpdate_at gk2 rfl ?_ (by rw [List.size_toArray, List.length_map]; omega) (by rw [Array.size_push, List.size_toArray, List.length_map]; omega))
        obtain ⟨c2, hc2⟩ : ∃ c2, (s''.heap.update kS (Obj.mapSeq (·.push (Value.ref t)))).get? kS = some (seqObj "list" ((ts.map Value.ref).toArray.push (Value.ref t)) c2) := ⟨_, get?_update_seq gk2 (·.push (Value.ref t))⟩
        refine wpAny_pure ⟨rfl, ⟨H2, c2, ts ++ [t], inv_raw I0 I2 fk nk2, S'.trans S2, (Heap.get?_update_ne _ _ _ _ nak.symm).trans ga2, na2, ?_, nk2, ?_⟩⟩
        · have e3 : ((ts ++ [t]).map Value.ref).toArray = (ts.map Value.ref).toArray.push (Value.ref t) := by simp
          rw [e3]
          exact hc2
        · have e4 : xs.take (j + 1) = xs.take j ++ [x] := by
            rw [List.take_add_one, hx]
            rfl
          rw [e4]
          exact pd_snoc (pd_same S2 pk) ht
  case done =>
    intro s' hJ
    rw [Nat.zero_add, ← hlen] at hJ
    obtain ⟨H', e, ts, I', S', ga, na, gk, nk, pk⟩ := hJ.ex
    try dsimp only
    refine wpAny_bind (listItems_at gk rfl ?_)
    exact h s' _ hJ ⟨e, gk⟩

/-- the pairs (key, item) by their keys' ints -/
theorem keys_end {I0s : Shared} {Hs : Hp} {d : Nat} {a kS : Addr} {e1 : Nat} {xs : List V} {its : List Value} {kz : V → List Int} {R : PySem.Fin → Shared → Prop} {s' : Shared} {keys : Array Value}
    (I0 : Inv X pins σ Hs I0s) (fa : I0s.heap.objs.size ≤ a) (fk : I0s.heap.objs.size ≤ kS) (nak : kS ≠ a) (hd : 1 ≤ d) (rv : Vals xs its) (hz : its.length ≤ sizeLine) (hx : ∀ x ∈ xs, (kz x).length = d) (href : ∀ x ∈ xs, ∃ t, x = V.ref t)
    (hJ : KJ X pins σ H xs kz a kS e1 xs.length s') (hk : ∃ e, s'.heap.get? kS = some (seqObj "list" keys e))
    (fin : ∀ (h' : Heap) (H' : Hp) (ys : List V), Inv X pins σ (upd H' a (.lst ys)) { s' with heap := h' } → Same H H' → H' a = none → ys.Perm xs → ys.Pairwise (fun x y => HT.lexLt (kz y) (kz x) = false) → R (.done (.ret .none)) { s' with heap := h' }) :
    wpAny (model X.prog X.w) X.A.in1.in1 (ksk_end a false its.toArray e1 (.ref kS) keys) R X.xe s' := by
  obtain ⟨H', e, ts, I', S', ga, na, gk, nk, pk⟩ := hJ.ex
  rw [List.take_of_length_le (Nat.le_refl _)] at pk
  obtain rfl : keys = (ts.map Value.ref).toArray := by
    obtain ⟨e', hk⟩ := hk
    have z := hk.symm.trans gk
    injection z with z
    injection z with _ _ z _
    injection z
  obtain ⟨e2, e3⟩ := bkV_refs rv href
  have hlen := rv.length
  have lts := pd_len' pk
  have tup : ∀ j t x, ts[j]? = some t → xs[j]? = some x → TS.TupInts s'.heap (.ref t) (kz x) := fun j t x h1 h2 => by
    have hh : H' t = some (.tup ((kz x).map V.int)) := by
      obtain ⟨x', h3, h4⟩ := pd_at' pk h1
      rw [h2] at h3
      cases h3
      exact h4
    exact tupI_raw I' (SqT.of hh)
  have ti : ∀ v ∈ ts.map Value.ref, TS.TupInts s'.heap v (TS.intsOf s'.heap v) ∧ (TS.intsOf s'.heap v).length = d := fun v hv => by
    obtain ⟨t, ht, rfl⟩ := List.mem_map.mp hv
    obtain ⟨j, hj⟩ := List.mem_iff_getElem?.mp ht
    obtain ⟨x, h3, _⟩ := pd_at' pk hj
    have z := tup j t x hj h3
    rw [z.ints]
    exact ⟨z, hx x (List.mem_of_getElem? h3)⟩
  have zl : ((ts.map Value.ref).toArray.zip its.toArray).toList = (ts.map Value.ref).zip its := by simp
  have rel : ∀ p ∈ (ts.map Value.ref).zip its, TS.intsOf s'.heap p.1 = kz (bkV p.2) ∧ p.1 ∈ ts.map Value.ref ∧ p.2 ∈ its := fun p hp => by
    obtain ⟨j, hj⟩ := List.mem_iff_getElem?.mp hp
    rw [List.getElem?_zip_eq_some] at hj
    obtain ⟨h1, h2⟩ := hj
    obtain ⟨t, ht, et⟩ : ∃ t, ts[j]? = some t ∧ p.1 = Value.ref t := by
      rw [List.getElem?_map] at h1
      cases q : ts[j]? with
      | none =>
        rw [q] at h1
        cases h1
      | some t =>
        rw [q] at h1
        exact ⟨t, rfl, (Option.some.inj h1).symm⟩
    have hxj : xs[j]? = some (bkV p.2) := by rw [e2, List.getElem?_map, h2]; rfl
    have z := (tup j t _ ht hxj).ints
    rw [et]
    exact ⟨z, List.mem_map.mpr ⟨t, List.mem_of_getElem? ht, rfl⟩, List.mem_of_getElem? h2⟩
  have tail : ∀ st : SortSt, SrtO.Srtd (SrtO.lt2 fun v u => HT.lexLt (TS.intsOf s'.heap v) (TS.intsOf s'.heap u)) (arrOf st).toList → (arrOf st).toList.Perm ((ts.map Value.ref).zip its) → failedOf st = none →
      wpAny (model X.prog X.w) X.A.in1.in1 (ksk_tail a false e1 (.ref kS) st) R X.xe s' := fun st hs hp hfl => by
    have hpn : ((arrOf st).toList.map Prod.snd).Perm its := by
      have q := hp.map Prod.snd
      rw [List.map_snd_zip (by rw [List.length_map, lts]; omega)] at q
      exact q
    have eo : ((arrOf st).map (·.2)).toList = (arrOf st).toList.map Prod.snd := by rw [Array.toList_map]
    have hsz : ((arrOf st).map (·.2)).size = its.length := by
      rw [← Array.length_toList, eo, hpn.length_eq]
    have ga1 : (s'.heap.update kS (Obj.mapSeq fun _ => (#[] : Array Value))).get? a = some (seqObj "list" #[] e1) := (Heap.get?_update_ne _ _ _ _ nak.symm).trans ga
    have J1 := inv_raw (g := Obj.mapSeq fun _ => (#[] : Array Value)) I0 I' fk nk
    have J2 := inv_raw (g := Obj.mapSeq fun _ => (arrOf st).map (·.2)) I0 J1 fa na
    obtain ⟨c2, hc2⟩ : ∃ c2, ((s'.heap.update kS (Obj.mapSeq fun _ => (#[] : Array Value))).update a (Obj.mapSeq fun _ => (arrOf st).map (·.2))).get? a = some (seqObj "list" ((arrOf st).map (·.2)) c2) :=
      ⟨_, get?_update_seq ga1 fun _ => (arrOf st).map (·.2)⟩
    have href2 : ∀ u ∈ (arrOf st).toList.map Prod.snd, ∃ b, u = Value.ref b := fun u hu => e3 u (hpn.mem_iff.mp hu)
    unfold ksk_tail
    try dsimp only
    refine wpAny_bind (listUpdate_at gk rfl ?_ (by rw [List.size_toArray, List.length_map]; omega) (Nat.zero_le _))
    refine wpAny_bind (wpAny_letGo ?_)
    refine wpAny_bind (seqEpoch_at ga1 rfl ?_)
    refine wpAny_bind (listUpdate_at ga1 rfl ?_ (Nat.zero_le _) (by simp only [Bool.false_eq_true, if_false]; omega))
    rw [hfl]
    simp only [bne_self_eq_false, Bool.false_eq_true, if_false]
    refine wpAny_pure (fin _ H' (((arrOf st).toList.map Prod.snd).map bkV) (track_new I0 J2 fa na ⟨?_, (arrOf st).toList.map Prod.snd, c2, bkV_vals href2, ?_⟩) S' na ?_ ?_)
    · rw [List.length_map, hpn.length_eq]
      exact hz
    · have ea : ((arrOf st).toList.map Prod.snd).toArray = (arrOf st).map (·.2) := by rw [← eo, Array.toArray_toList]
      rw [ea]
      exact hc2
    · rw [e2]
      exact hpn.map bkV
    · rw [List.pairwise_map, List.pairwise_map]
      refine List.Pairwise.imp_of_mem (fun {p q} mp mq hr => ?_) hs
      rw [← (rel p (hp.mem_iff.mp mp)).1, ← (rel q (hp.mem_iff.mp mq)).1]
      exact hr
  unfold ksk_end
  try dsimp only
  simp only [Bool.false_eq_true, if_false]
  by_cases h2 : its.toArray.size < 2
  · rw [if_pos h2, if_pos h2]
    refine wpAny_bind (wpAny_pure ?_)
    rw [StateT.run_pure]
    refine wpAny_bind (wpAny_pure ?_)
    try dsimp only
    refine tail (SortSt.mk' general' ((ts.map Value.ref).toArray.zip its.toArray) #[] 7 none) ?_ ?_ rfl
    · show SrtO.Srtd _ ((ts.map Value.ref).toArray.zip its.toArray).toList
      rw [zl]
      have hl : ((ts.map Value.ref).zip its).length < 2 := by
        rw [List.length_zip]
        rw [List.size_toArray] at h2
        omega
      match (ts.map Value.ref).zip its, hl with
      | [], _ => exact List.Pairwise.nil
      | [_], _ => exact List.pairwise_singleton _ _
      | _ :: _ :: l, h => exact absurd h (by rw [List.length_cons, List.length_cons]; omega)
    · show ((ts.map Value.ref).toArray.zip its.toArray).toList.Perm _
      rw [zl]
  · rw [if_neg h2, if_neg h2]
    have h2' : 2 ≤ ts.length := by
      rw [List.size_toArray] at h2
      omega
    obtain ⟨fs, k1, k2, k3⟩ := heads (h := s'.heap) hd (ts.map Value.ref) fun v hv => ⟨_, ti v hv⟩
    refine wpAny_bind (PySem.W.kat_kind (T := .type "int") k1 (by rw [k2, List.length_map]; omega) (fun f hm => ?_) (by rfl) ?_)
    · obtain ⟨n, t, rfl⟩ := k3 f hm
      exact PySem.W.Looks.of_pure rfl
    have e : (Value.type "int" != Value.type "tuple") = true := by first | decide +kernel | rfl | decide
    rw [e]
    have hall : SrtO.AllL (fun p : PyProof.Rows.Keyed => p.1 ∈ ts.map Value.ref) ((ts.map Value.ref).toArray.zip its.toArray).toList := fun p hm => by
      rw [zl] at hm
      exact (rel p hm).2.1
    refine wpAny_bind (wpAny_mono (SrtO.wpS_sortO (st0 := SortSt.mk' (tuples' true) ((ts.map Value.ref).toArray.zip its.toArray) #[] 7 none)
      (Q := fun _ st' => SrtO.Srtd (SrtO.lt2 fun v u => HT.lexLt (TS.intsOf s'.heap v) (TS.intsOf s'.heap u)) (arrOf st').toList ∧ (arrOf st').toList.Perm ((ts.map Value.ref).zip its) ∧ failedOf st' = none)
      (SrtO.swo2 (NtL.swo_lexL (TS.intsOf s'.heap))) (cmpL (TS.intsOf s'.heap) ti) rfl hall rfl rfl fun st' a1 a2 a3 => ⟨a1, by have q := a2.perm; rw [← zl]; exact q, a3⟩) ?_ fun _ _ e => e)
    rintro ⟨⟨⟩, st'⟩ s'' ⟨rfl, hp1, hp2, hf⟩
    try dsimp only
    exact tail st' hp1 hp2 hf
end
theorem cr_sortKey {X : Cx} {k d : Nat} (hd : 1 ≤ d) (hr : Room (k + 1) X.A) : CallRK X (.builtin "sorted") ["key"] (rSortK X.prog X.w X.K X.mg X.base k d) := by
  intro pins s σ H vs zs us ws Q I r1 r2 h
  obtain ⟨l, f, c', q, params, body, scope, xs, kz, sp, rfl, rfl, hs, href, hf, hc, run, hsp, fin⟩ := h
  obtain ⟨its, rv, hl, hz⟩ := I.list hs
  rw [Vals.ref1 r1, Vals.ref1 r2]
  have hzi : its.length ≤ sizeLine := by rw [← rv.length]; exact hz
  show wpAny _ _ (call (.builtin "sorted") [.ref l] [(Str.ofString "key", .ref f)]) _ _ _
  refine call_function_entry_kw kind_sorted plain_sorted entry_sorted (ksk_s1 _ _) ?_
  unfold Builtin.«sorted»
  refine wpAny_bind (m := checkCount "sorted" 1 1 _) (wpAny_pure ?_)
  refine wpAny_bind (collect_list hl.isList ?_ hzi)
  refine wpAny_bind (wpAny_newList ?_ hzi)
  have hsz : ((s.heap.push (seqObj "list" #[] 0)).update s.heap.objs.size (Obj.mapSeq (· ++ its.toArray))).objs.size = s.heap.objs.size + 1 := by
    rw [Heap.size_update, size_push']
  have hoL : (((s.heap.push (seqObj "list" #[] 0)).update s.heap.objs.size (Obj.mapSeq (· ++ its.toArray))).push (seqObj "list" its.toArray 0)).get? (s.heap.objs.size + 1) = some (seqObj "list" its.toArray 0) := by
    rw [← hsz]
    exact Heap.get?_push_size _ rfl
  have k1 : ∀ b o, s.heap.get? b = some o → b < s.heap.objs.size ∧ (((s.heap.push (seqObj "list" #[] 0)).update s.heap.objs.size (Obj.mapSeq (· ++ its.toArray))).push (seqObj "list" its.toArray 0)).get? b = some o := fun b o e => by
    have hb := Heap.lt_size e
    refine ⟨hb, Heap.get?_push_of_some _ ?_⟩
    rw [Heap.get?_update_ne _ _ _ _ (Nat.ne_of_lt hb)]
    exact Heap.get?_push_of_some _ e
  show wpAny _ _ _ _ _ { s with heap := ((s.heap.push (seqObj "list" #[] 0)).update s.heap.objs.size (Obj.mapSeq (· ++ its.toArray))).push (seqObj "list" its.toArray 0) }
  rw [hsz]
  generalize hh : ((s.heap.push (seqObj "list" #[] 0)).update s.heap.objs.size (Obj.mapSeq (· ++ its.toArray))).push (seqObj "list" its.toArray 0) = h1 at hoL k1 ⊢
  have s1 : h1.objs.size = s.heap.objs.size + 2 := by
    rw [← hh, size_push', hsz]
  refine wpAny_bind (wpAny_holding (wpAny_call_entry_kw slot_list_sort ⟨_, hoL, rfl⟩ entry_list_sort ?body (ksk_l1 _ _)))
  case body =>
    show wpAny _ _ (Builtin.«list.sort» ⟨[.ref (s.heap.objs.size + 1)], [(Str.ofString "key", .ref f)]⟩) _ _ _
    rw [ksk_t1]
    unfold ksk_tree
    refine wpAny_bind (listItems_at hoL rfl ?_)
    refine wpAny_bind (listUpdate_at hoL rfl ?_ (by rw [List.size_toArray]; exact hzi) (Nat.zero_le _))
    obtain ⟨e1, ho1⟩ : ∃ e1, (h1.update (s.heap.objs.size + 1) (Obj.mapSeq fun _ => (#[] : Array Value))).get? (s.heap.objs.size + 1) = some (seqObj "list" #[] e1) := ⟨_, get?_update_seq hoL fun _ => #[]⟩
    refine wpAny_bind (seqEpoch_at ho1 rfl ?_)
    refine wpAny_bind (wpAny_newTuple ?_ hzi)
    refine wpAny_bind (wpAny_newList ?_ (Nat.zero_le _))
    refine wpAny_holding ?_
    have s3 : ((h1.update (s.heap.objs.size + 1) (Obj.mapSeq fun _ => (#[] : Array Value))).push (seqObj "tuple" its.toArray 0)).objs.size = s.heap.objs.size + 3 := by
      rw [size_push', Heap.size_update, s1]
    have keep : ∀ b o, s.heap.get? b = some o → (((h1.update (s.heap.objs.size + 1) (Obj.mapSeq fun _ => (#[] : Array Value))).push (seqObj "tuple" its.toArray 0)).push (seqObj "list" #[] 0)).get? b = some o := fun b o e => by
      obtain ⟨hb, e2⟩ := k1 b o e
      exact Heap.get?_push_of_some _ (Heap.get?_push_of_some _ ((Heap.get?_update_ne _ _ _ _ (Nat.ne_of_lt (Nat.lt_succ_of_lt hb))).trans e2))
    have I1 : Inv X pins σ H { s with heap := ((h1.update (s.heap.objs.size + 1) (Obj.mapSeq fun _ => (#[] : Array Value))).push (seqObj "tuple" its.toArray 0)).push (seqObj "list" #[] 0) } := I.kept keep
    have fa : s.heap.objs.size ≤ s.heap.objs.size + 1 := Nat.le_succ _
    have fk : s.heap.objs.size ≤ ((h1.update (s.heap.objs.size + 1) (Obj.mapSeq fun _ => (#[] : Array Value))).push (seqObj "tuple" its.toArray 0)).objs.size := by rw [s3]; omega
    have nak : ((h1.update (s.heap.objs.size + 1) (Obj.mapSeq fun _ => (#[] : Array Value))).push (seqObj "tuple" its.toArray 0)).objs.size ≠ s.heap.objs.size + 1 := by rw [s3]; omega
    refine keys_run (s1 := { s with heap := ((h1.update (s.heap.objs.size + 1) (Obj.mapSeq fun _ => (#[] : Array Value))).push (seqObj "tuple" its.toArray 0)).push (seqObj "list" #[] 0) }) (d := d) I fa fk nak hr rv hzi hf hc run hsp
      ⟨H, 0, [], I1, Same.refl H, Heap.get?_push_of_some _ (Heap.get?_push_of_some _ ho1), I.hok.fresh fa, Heap.get?_push_size _ rfl, I.hok.fresh fk, .nil⟩ fun s' keys hJ hk => ?_
    refine keys_end I fa fk nak hd rv hzi (fun x hx => (hsp x hx).1) href hJ hk fun h' H' ys I2 S2 n2 p2 w2 => ⟨_, rfl, ?_⟩
    exact wpAny_pure ⟨_, rfl, V.ref _, _, I2, rfl, fin ys _ H' S2 n2 p2 w2⟩
end GS
set_option Elab.async false
set_option linter.all false
set_option maxRecDepth 100000
set_option maxHeartbeats 4000000
/-! x == y and x != y, x an instance of a class with an __eq__ of its own, y such a one or a tuple: whatever its __eq__ says -/
namespace GO
open PySem PySem.Spec PyProof.Rows L2 LamX
section
variable {M : Model} {prog : Program} {w : World} {A : Around} {E : Value → Shared → Prop} {s : Shared} {K : PySem.W.Frag} {x C f : Addr} {ox : Obj} {od : Option Obj}
theorem ifBound_ne {args : List Value} {Q : Option Value → Shared → Prop} (X : K.In s.heap) (I : PySem.W.InstAt s.heap x ox C od) (hs : PySem.W.findIn K (.ref C) "__ne__" = some (some (.builtin "object.__ne__")))
    (h : wpAny M A (call (.builtin "object.__ne__") (.ref x :: args)) (fun v => Q (some v)) E s) : wpAny M A (callSpecialIfBound? (.ref x) "__ne__" args) Q E s := by
  simp only [callSpecialIfBound?, bindSpecialIfBound?]
  refine wpAny_holding (wpAny_bind (wpAny_bind (wpAny_bind (I.type.here ((PySem.W.looks_findIn X hs).here ?_)))))
  refine wpAny_bind (wpAny_askSetting (wpAny_ite ?_))
  have fin : wpAny M A (call (.builtin "object.__ne__") ([.ref x] ++ args) >>= fun v => pure (some v)) Q E s := wpAny_bind (wpAny_mono h (fun v s' h' => wpAny_pure h') fun _ _ h' => h')
  split
  · exact wpAny_bind (wpAny_of_eq (PySem.F.cmp_object.ne.bind _) (wpAny_pure (by exact fin)))
  · exact wpAny_tryCatch (wpAny_bind (wpAny_of_eq (PySem.F.cmp_object.ne.bind _) (wpAny_pure (by exact fin))))
theorem entry_ne {u : Value} {Q : Fin → Shared → Prop} (hu : A.units < cLine) (X : K.In s.heap) (I : PySem.W.InstAt s.heap x ox C od) (hs : PySem.W.findIn K (.ref C) "__eq__" = some (some (.ref f))) (hf : PySem.W.isFn K (.ref f) = true)
    (hcall : wpAny (model prog w) A (call (.ref f) [.ref x, u]) (fun v s' => ∃ b, v = .bool b ∧ Q (.done (.ret (.bool (!b)))) s') E s) : wpAny (model prog w) A (Builtin.«object.__ne__» ⟨[.ref x, u], []⟩) Q E s := by
  unfold Builtin.«object.__ne__»
  repeat (first
    | with_reducible refine wpAny_cRoomFor hu ?_
    | (refine wpAny_bind (m := callSpecialIfBound? (.ref x) (Str.ofString "__eq__") [u])
        (PySem.W.ifBound_K X I hs hf (wpAny_mono hcall (fun r s' hr => by
          obtain ⟨b, rfl, hq⟩ := hr
          repeat (first | exact hq | exact wpAny_pure hq | exact wpAny_truthy_bool hq | (refine wpAny_bind (m := truthy (.bool _)) (wpAny_truthy_bool ?_)) | wp_step)) fun _ _ e => e)))
    | wp_step)
theorem cmp_ne {u tb : Value} {Q : Value → Shared → Prop} (hu : A.units + 1 < cLine) (X : K.In s.heap) (I : PySem.W.InstAt s.heap x ox C od) (hb : PySem.W.Looks (model prog w) s.heap (typeOf u) tb) (hn : PySem.W.notFirst K C tb = true)
    (hne : PySem.W.findIn K (.ref C) "__ne__" = some (some (.builtin "object.__ne__"))) (hm : PySem.W.mroIn K C (.type "object") = some true) (hs : PySem.W.findIn K (.ref C) "__eq__" = some (some (.ref f))) (hf : PySem.W.isFn K (.ref f) = true)
    (h : wpAny (model prog w) A.in1 (call (.ref f) [.ref x, u]) (fun v s' => ∃ b, v = .bool b ∧ Q (.bool (!b)) s') E s) : wpAny (model prog w) A (richCompare .NotEq (.ref x) u) Q E s := by
  have one : wpAny (model prog w) A (tryCompare (.ref x) "__ne__" u) (fun r s' => ∃ v, r = some v ∧ Q v s') E s := by
    unfold tryCompare
    refine wpAny_bind (ifBound_ne X I hne (wpAny_call (codeAny_call_builtin PySem.F.cmp_object.ne.plain PySem.F.cmpEntry_ne (PySem.W.check_slot PySem.F.cmpKind_ne PySem.F.cmpSplit_ne (I.type.andThen (PySem.W.looks_mroIn X hm)) (PySem.F.cmpArgs_ne _ _)
      (entry_ne (A := A.in1) hu X I hs hf (wpAny_mono h (fun v s' hv => ?_) fun _ _ e => e))))))
    obtain ⟨b, rfl, hq⟩ := hv
    first | exact ⟨b, rfl, wpAny_pure ⟨_, rfl, hq⟩⟩ | exact ⟨b, rfl, wpAny_pure (wpAny_pure ⟨_, rfl, hq⟩)⟩
  unfold richCompare
  simp only [oneThing_ref]
  refine wpAny_holding (wpAny_bind (wpAny_cRoomFor (Nat.lt_of_succ_lt hu) ?_))
  refine wpAny_bind (I.type.here (wpAny_bind (hb.here ?_)))
  split
  · rename_i q
    have e : PySem.W.subIn K tb (.ref C) = some false := by
      rcases Bool.or_eq_true_iff.mp hn with e | e
      · rw [beq_iff_eq.mp e] at q; simp at q
      · exact beq_iff_eq.mp e
    refine wpAny_bind ((PySem.W.looks_subIn X e).here ?_)
    simp only [Bool.false_eq_true, if_false]
    refine wpAny_bind (wpAny_mono one (fun r s' z => ?_) fun _ _ e => e)
    obtain ⟨v, rfl, hq⟩ := z
    exact wpAny_pure hq
  · refine wpAny_bind (wpAny_pure ?_)
    simp only [Bool.false_eq_true, if_false]
    refine wpAny_bind (wpAny_mono one (fun r s' z => ?_) fun _ _ e => e)
    obtain ⟨v, rfl, hq⟩ := z
    exact wpAny_pure hq
theorem sub_tuple : PySem.W.subIn K (.type "tuple") (.ref C) = some false := by
  have e : fastBuiltinMro "tuple" = some [.type "tuple", .type "object"] := by decide +kernel
  show (fastBuiltinMro "tuple").map (·.contains (.ref C)) = some false
  rw [e]
  first
    | rfl
    | simp
end
/-- what the own == says, or its contrary -/
def rObj (K : PySem.W.Frag) (C : Addr) (neg : Bool) (sp : Sp) : R2 := fun x y H Q => ∃ (a dx : Addr) (fs : List (Str × V)), x = .ref a ∧ H a = some (.ins C dx fs) ∧ ((∃ (b dy : Addr) (gs : List (Str × V)), y = .ref b ∧ H b = some (.ins C dy gs)) ∨ ∃ (b : Addr) (ys : List V), y = .ref b ∧ SqT K H b ys) ∧
  sp [x, y] H (fun z H' => ∃ c, z = .bl c ∧ Q (.bl (if neg = true then !c else c)) H') E0
/-- the class's own == -/
structure EqC (P : Program) (w : World) (K : PySem.W.Frag) (mg : Str → Option Value) (base : Heap) (k : Nat) (C f : Addr) (sp : Sp) : Prop where
  ok : ∃ (fd : FuncData) (ps : List Str), FnOk P w K mg base CX0 k f fd ps sp ∧ Binds K fd ps []
  eq : PySem.W.findIn K (.ref C) "__eq__" = some (some (.ref f))
  ne : PySem.W.findIn K (.ref C) "__ne__" = some (some (.builtin "object.__ne__"))
  fn : PySem.W.isFn K (.ref f) = true
  mro : PySem.W.mroIn K C (.type "object") = some true
section
variable {X : Cx}
theorem looks_y {pins : List (Addr × Obj)} {σ : L2.St} {H : Hp} {s : Shared} {y : V} {u : Value} {C : Addr} (I : Inv X pins σ H s) (ry : RelV y u)
    (h : (∃ (b dy : Addr) (gs : List (Str × V)), y = .ref b ∧ H b = some (.ins C dy gs)) ∨ ∃ (b : Addr) (ys : List V), y = .ref b ∧ SqT X.K H b ys) : ∃ tb, PySem.W.Looks (model X.prog X.w) s.heap (typeOf u) tb ∧ PySem.W.notFirst X.K C tb = true := by
  rcases h with ⟨b, dy, gs, rfl, hb⟩ | ⟨b, ys, rfl, hb⟩
  · cases ry
    obtain ⟨mB, J', _⟩ := ins_get I.hok hb
    obtain ⟨od', J', _⟩ := J'.look
    exact ⟨.ref C, J'.type, by simp [PySem.W.notFirst]⟩
  · cases ry
    obtain ⟨its, rv, ht, _⟩ := I.tuple hb
    obtain ⟨o, ho, hc, _⟩ := id ht
    refine ⟨.type "tuple", ?_, ?_⟩
    · have e : PySem.W.Looks (model X.prog X.w) s.heap (typeOf (.ref b)) o.cls := (PySem.W.Looks.ld ho).andThen .now
      rw [hc] at e
      exact e
    · show (_ || PySem.W.subIn X.K (.type "tuple") (.ref C) == some false) = true
      rw [sub_tuple]
      simp
theorem run_at {A : Around} {k : Nat} {fd : FuncData} {ps : List Str} {f : Addr} {sp : Sp} {pins : List (Addr × Obj)} {σ : L2.St} {H : Hp} {s : Shared} {x y : V} {v u : Value} {Q : VK} (sb : Sub X k A) (F : FnOk X.prog X.w X.K X.mg X.base CX0 k f fd ps sp) (hb : Binds X.K fd ps [])
    (hx : Passes CX0 X E0) (I : Inv X pins σ H s) (rx : RelV x v) (ry : RelV y u) (h : sp [x, y] H Q E0) : wpAny (model X.prog X.w) A (call (.ref f) [v, u]) (EP X pins σ Q) X.xe s := by
  have e0 : Env0 X.prog X.w X.K X.mg X.base A X.stack s H := by
    have e := I.env0
    exact ⟨by rw [sb.fr]; exact e.frames, e.mod, e.bs, e.bsz, e.funs, e.frf, e.hok, e.bare⟩
  have hl := F.len _ _ _ _ h
  have r2 : Vals [x, y] [v, u] := .cons rx (.cons ry .nil)
  refine wpAny_call (codeAny_mono (F.run A X.stack s H ⟨[v, u], []⟩ [v, u] [x, y] _ E0 sb.room e0 (by
    have := hb s [v, u] I.kIn (by simpa using hl)
    simpa using this) r2 h) fun r s' hq => ?_)
  cases r with
  | error e => exact hx pins σ H s e s' I hq
  | ok fl =>
    cases fl with
    | ret w => exact I.after hq
    | next => exact False.elim hq
    | brk => exact False.elim hq
    | cont => exact False.elim hq
theorem op_objEq {C f : Addr} {k : Nat} {sp : Sp} (Y : EqC X.prog X.w X.K X.mg X.base k C f sp) (hr : Room k X.A) (hx : Passes CX0 X E0) : OpR X (compareOp .Eq) (rObj X.K C false sp) := by
  intro pins s σ H x y v u Q I rx ry hq
  obtain ⟨a, dx, fs, rfl, ha, hy, h⟩ := hq
  obtain ⟨fd, ps, F, hb⟩ := Y.ok
  obtain ⟨tb, lk, nf⟩ := looks_y I ry hy
  have rx0 : RelV (.ref a) v := rx
  cases rx
  obtain ⟨mA, J, _⟩ := ins_get I.hok ha
  obtain ⟨od, J, _⟩ := J.look
  obtain ⟨m, hF⟩ := I.fr
  show wpAny (model X.prog X.w) X.A (richCompare .Eq (.ref a) u) (EP X pins σ Q) X.xe s
  refine PySem.W.cmp_K (op := .Eq) (tb := tb) (Room.units0 hr) hF I.ok.mod.kin J lk nf Y.eq Y.fn (wpAny_mono (run_at (A := X.A) ⟨hr, rfl⟩ F hb hx I rx0 ry h) (fun v' s' z => ?_) fun _ _ e => e)
  obtain ⟨z1, H', I', rz, c, rfl, q⟩ := z
  obtain rfl : v' = Value.bool c := rz
  exact ⟨.bl c, H', I', rfl, q⟩
theorem op_objNe {C f : Addr} {k : Nat} {sp : Sp} (Y : EqC X.prog X.w X.K X.mg X.base k C f sp) (hr : Room (k + 1) X.A) (hx : Passes CX0 X E0) : OpR X (compareOp .NotEq) (rObj X.K C true sp) := by
  intro pins s σ H x y v u Q I rx ry hq
  obtain ⟨a, dx, fs, rfl, ha, hy, h⟩ := hq
  obtain ⟨fd, ps, F, hb⟩ := Y.ok
  obtain ⟨tb, lk, nf⟩ := looks_y I ry hy
  have rx0 : RelV (.ref a) v := rx
  cases rx
  obtain ⟨mA, J, _⟩ := ins_get I.hok ha
  obtain ⟨od, J, _⟩ := J.look
  show wpAny (model X.prog X.w) X.A (richCompare .NotEq (.ref a) u) (EP X pins σ Q) X.xe s
  refine cmp_ne (tb := tb) (by have := hr.un; omega) I.kIn J lk nf Y.ne Y.mro Y.eq Y.fn (wpAny_mono (run_at (A := X.A.in1) (⟨hr, rfl⟩ : Sub X (k + 1) X.A).in1 F hb hx I rx0 ry h) (fun v' s' z => ?_) fun _ _ e => e)
  obtain ⟨z1, H', I', rz, c, rfl, q⟩ := z
  obtain rfl : v' = Value.bool c := rz
  exact ⟨c, rfl, .bl (!c), H', I', rfl, q⟩
end
end GO
set_option Elab.async false
set_option linter.all false
set_option maxRecDepth 100000
set_option maxHeartbeats 4000000
/-! sorted(xs, key = f), f a def whose answers are tuples (truth value, number, truth value, number) -/
namespace GS
open PySem PySem.Spec PyProof.Rows L2 LamX
abbrev K4 := Bool × Int × Bool × Int
def kV (z : K4) : List V := [.bl z.1, .int z.2.1, .bl z.2.2.1, .int z.2.2.2]
def kP (z : K4) : PyData := .tuple [.bool z.1, .int z.2.1, .bool z.2.2.1, .int z.2.2.2]
theorem alike_k (z y : K4) : PySem.W.alike (kP z) (kP y) = true := by
  simp [kP, PySem.W.alike, PySem.W.alikeAll]
theorem depth_k (z : K4) : (kP z).depth = 1 := by
  simp [kP, PyData.depth, PyData.depthAll]
def ltK (z y : K4) : Bool := PySem.W.dataLt (kP z) (kP y)
section
variable {X : Cx} {pins : List (Addr × Obj)} {σ : L2.St} {H : Hp} {s : Shared}
theorem reads_k (I : Inv X pins σ H s) {t : Addr} {z : K4} (h : H t = some (.tup (kV z))) : Reads s.heap (.ref t) (kP z) [] := by
  obtain ⟨its, rv, ⟨o, ho, hc, n, hd⟩, _⟩ := I.tuple (SqT.of h)
  obtain ⟨b, i, c, j⟩ := z
  cases rv with | cons r1 rv => cases rv with | cons r2 rv => cases rv with | cons r3 rv => cases rv with | cons r4 rv =>
  cases rv
  rename_i u1 u2 u3 u4
  obtain rfl : u1 = Value.bool b := r1
  obtain ⟨t2, rfl⟩ := r2
  obtain rfl : u3 = Value.bool c := r3
  obtain ⟨t4, rfl⟩ := r4
  refine Reads.tuple (as := []) ho hc hd ?_
  have q : ReadsAll s.heap [Value.bool b, .int i t2, .bool c, .int j t4] [PyData.bool b, .int i, .bool c, .int j] ([] ++ ([] ++ ([] ++ ([] ++ [])))) := .cons (.bool b) (.cons (.int i t2) (.cons (.bool c) (.cons (.int j t4) .nil)))
  simpa using q
/-- sorted(xs, key = f): f a def that makes of each item a new tuple of four -/
def rSortF (P : Program) (w : World) (K : PySem.W.Frag) (mg : Str → Option Value) (base : Heap) (k : Nat) : List V → List V → Hp → VK → Prop := fun vs zs H Q => ∃ (a f : Addr) (fd : FuncData) (x : Str) (xs : List V) (kz : V → K4) (sp : Sp),
  vs = [.ref a] ∧ zs = [.ref f] ∧ SqL K H a xs ∧ (∀ x ∈ xs, ∃ t, x = .ref t) ∧ FnOk P w K mg base CX0 k f fd [x] sp ∧ Binds K fd [x] [] ∧
  (∀ x ∈ xs, ∀ H1, Same H H1 → sp [x] H1 (fun y H2 => ∃ t, y = .ref t ∧ Same H1 H2 ∧ H2 t = some (.tup (kV (kz x)))) E0) ∧
  ∀ (ys : List V) (p : Addr) (H' : Hp), Same H H' → H' p = none → ys.Perm xs → ys.Pairwise (fun x y => ltK (kz y) (kz x) = false) → Q (.ref p) (upd H' p (.lst ys))
/-- ahead of turn j of the keys' loop: e1 the emptied list's mark, kS the keys' own list -/
structure KJd (X : Cx) (pins : List (Addr × Obj)) (σ : L2.St) (H : Hp) (xs : List V) (kz : V → K4) (a kS : Addr) (e1 j : Nat) (s' : Shared) : Prop where
  ex : ∃ (H' : Hp) (e : Nat) (ts : List Addr), Inv X pins σ H' s' ∧ Same H H' ∧ s'.heap.get? a = some (seqObj "list" #[] e1) ∧ H' a = none ∧ s'.heap.get? kS = some (seqObj "list" (ts.map Value.ref).toArray e) ∧ H' kS = none ∧
    Paired (fun t x => H' t = some (.tup (kV (kz x)))) ts (xs.take j)
theorem pd_sameD {xs : List V} {kz : V → K4} {H H' : Hp} {ts : List Addr} (e : Same H H') (h : Paired (fun t x => H t = some (.tup (kV (kz x)))) ts xs) : Paired (fun t x => H' t = some (.tup (kV (kz x)))) ts xs := by
  induction h with
  | nil => exact .nil
  | cons r t ih => exact .cons (e _ _ r) ih
/-- the keys' loop -/
theorem keys_runD {I0s : Shared} {Hs : Hp} {k : Nat} {a kS f : Addr} {e1 : Nat} {fd : FuncData} {px : Str} {xs : List V} {its : List Value} {kz : V → K4} {sp : Sp} {R : PySem.Fin → Shared → Prop} {s1 : Shared}
    (I0 : Inv X pins σ Hs I0s) (fa : I0s.heap.objs.size ≤ a) (fk : I0s.heap.objs.size ≤ kS) (nak : kS ≠ a) (hr : Room (k + 1) X.A) (rv : Vals xs its) (hz : its.length ≤ sizeLine)
    (run : FnOk X.prog X.w X.K X.mg X.base CX0 k f fd [px] sp) (bnd : Binds X.K fd [px] [])
    (hsp : ∀ x ∈ xs, ∀ H1, Same H H1 → sp [x] H1 (fun y H2 => ∃ t, y = .ref t ∧ Same H1 H2 ∧ H2 t = some (.tup (kV (kz x)))) E0)
    (h0 : KJd X pins σ H xs kz a kS e1 0 s1)
    (h : ∀ s' keys, KJd X pins σ H xs kz a kS e1 xs.length s' → (∃ e, s'.heap.get? kS = some (seqObj "list" keys e)) → wpAny (model X.prog X.w) X.A.in1.in1 (ksk_end a false its.toArray e1 (.ref kS) keys) R X.xe s') :
    wpAny (model X.prog X.w) X.A.in1.in1 (ksk_rest a (.ref f) false its.toArray e1 (.ref kS)) R X.xe s1 := by
  have hlen := rv.length
  have notfr : ∀ b, I0s.heap.objs.size ≤ b → b ∉ frs X.stack := fun b hb z => by
    rcases List.mem_cons.mp (I0.stkSub _ z) with e | e
    · have h1 := I0.lt
      rw [← e] at h1
      exact Nat.lt_irrefl _ (Nat.lt_of_lt_of_le h1 hb)
    · exact I0.nofs hb e
  unfold ksk_rest
  refine wpAny_bind (wpAny_rule ?_)
  first
    | rw [List.forIn_toArray]
    | (rw [← Array.forIn_toList]; simp only [List.toList_toArray])
  refine wpAny_bind (ksk_fold (fun i s' => KJd X pins σ H xs kz a kS e1 i s') its 0 s1 h0 ?step ?done)
  case step =>
    intro j u s' hu hJ
    rw [Nat.zero_add] at hJ ⊢
    obtain ⟨H', e, ts, I', S', ga, na, gk, nk, pk⟩ := hJ.ex
    have jl : j < xs.length := by
      rw [hlen]
      exact (List.getElem?_eq_some_iff.mp hu).1
    obtain ⟨x, hx, rx⟩ : ∃ x, xs[j]? = some x ∧ RelV x u := by
      obtain ⟨u', hu', r'⟩ := Vals.get rv (List.getElem?_eq_getElem jl)
      rw [hu] at hu'
      cases hu'
      exact ⟨_, List.getElem?_eq_getElem jl, r'⟩
    have go := hsp x (List.mem_of_getElem? hx)
    have cr := run.run X.A.in1.in1 X.stack s' H' ⟨[u], []⟩ [u] [x] _ E0 (room_in1 hr) I'.env0.in1.in1 (bnd s' [u] I'.kIn rfl) (.cons rx .nil) (go H' S')
    refine wpAny_bind (wpAny_attempt (wpAny_call (codeAny_mono cr fun r s'' hq => ?_)))
    cases r with
    | error e => exact (show False from hq).elim
    | ok fl =>
      cases fl with
      | next => exact False.elim hq
      | brk => exact False.elim hq
      | cont => exact False.elim hq
      | ret v =>
        obtain ⟨y, H2, os, bare, un, hok, ry, t, ey, S2, ht⟩ := hq
        subst ey
        obtain rfl : v = Value.ref t := ry
        obtain ⟨w1, H3, I2, _, ew, eH⟩ := I'.after (Q := fun v1 H1 => v1 = V.ref t ∧ H1 = H2) ⟨.ref t, H2, os, bare, un, hok, rfl, rfl, rfl⟩
        rw [eH] at I2
        have gk2 := un.keep kS _ gk nk (notfr kS fk) (by simp)
        have ga2 := un.keep a _ ga na (notfr a fa) (by simp)
        have nk2 := un.free kS _ gk nk (by simp)
        have na2 := un.free a _ ga na (by simp)
        have tl : ts.length = j := by
          rw [pd_len' pk, List.length_take]
          omega
        try dsimp only
        refine wpAny_bind (listUpdate_at gk2 rfl ?_ (by rw [List.size_toArray, List.length_map]; omega) (by rw [Array.size_push, List.size_toArray, List.length_map]; omega))
        obtain ⟨c2, hc2⟩ : ∃ c2, (s''.heap.update kS (Obj.mapSeq (·.push (Value.ref t)))).get? kS = some (seqObj "list" ((ts.map Value.ref).toArray.push (Value.ref t)) c2) := ⟨_, get?_update_seq gk2 (·.push (Value.ref t))⟩
        refine wpAny_pure ⟨rfl, ⟨H2, c2, ts ++ [t], inv_raw I0 I2 fk nk2, S'.trans S2, (Heap.get?_update_ne _ _ _ _ nak.symm).trans ga2, na2, ?_, nk2, ?_⟩⟩
        · have e3 : ((ts ++ [t]).map Value.ref).toArray = (ts.map Value.ref).toArray.push (Value.ref t) := by simp
          rw [e3]
          exact hc2
        · have e4 : xs.take (j + 1) = xs.take j ++ [x] := by
            rw [List.take_add_one, hx]
            rfl
          rw [e4]
          exact pd_snoc (pd_sameD S2 pk) ht
  case done =>
    intro s' hJ
    rw [Nat.zero_add, ← hlen] at hJ
    obtain ⟨H', e, ts, I', S', ga, na, gk, nk, pk⟩ := hJ.ex
    try dsimp only
    refine wpAny_bind (listItems_at gk rfl ?_)
    exact h s' _ hJ ⟨e, gk⟩

/-- the pairs (key, item) by their keys' ints -/
theorem keys_endD {I0s : Shared} {Hs : Hp} {k : Nat} {a kS : Addr} {e1 : Nat} {xs : List V} {its : List Value} {kz : V → K4} {R : PySem.Fin → Shared → Prop} {s' : Shared} {keys : Array Value}
    (I0 : Inv X pins σ Hs I0s) (fa : I0s.heap.objs.size ≤ a) (fk : I0s.heap.objs.size ≤ kS) (nak : kS ≠ a) (hr : Room (k + 1) X.A) (rv : Vals xs its) (hz : its.length ≤ sizeLine) (href : ∀ x ∈ xs, ∃ t, x = V.ref t)
    (hJ : KJd X pins σ H xs kz a kS e1 xs.length s') (hk : ∃ e, s'.heap.get? kS = some (seqObj "list" keys e))
    (fin : ∀ (h' : Heap) (H' : Hp) (ys : List V), Inv X pins σ (upd H' a (.lst ys)) { s' with heap := h' } → Same H H' → H' a = none → ys.Perm xs → ys.Pairwise (fun x y => ltK (kz y) (kz x) = false) → R (.done (.ret .none)) { s' with heap := h' }) :
    wpAny (model X.prog X.w) X.A.in1.in1 (ksk_end a false its.toArray e1 (.ref kS) keys) R X.xe s' := by
  obtain ⟨H', e, ts, I', S', ga, na, gk, nk, pk⟩ := hJ.ex
  rw [List.take_of_length_le (Nat.le_refl _)] at pk
  obtain rfl : keys = (ts.map Value.ref).toArray := by
    obtain ⟨e', hk⟩ := hk
    have z := hk.symm.trans gk
    injection z with z
    injection z with _ _ z _
    injection z
  obtain ⟨e2, e3⟩ := bkV_refs rv href
  have hlen := rv.length
  have lts := pd_len' pk
  have rd : ∀ j t x, ts[j]? = some t → xs[j]? = some x → Reads s'.heap (.ref t) (kP (kz x)) [] := fun j t x h1 h2 => by
    have hh : H' t = some (.tup (kV (kz x))) := by
      obtain ⟨x', h3, h4⟩ := pd_at' pk h1
      rw [h2] at h3
      cases h3
      exact h4
    exact reads_k I' hh
  have zl : ((ts.map Value.ref).toArray.zip its.toArray).toList = (ts.map Value.ref).zip its := by simp
  have rel : ∀ p ∈ (ts.map Value.ref).zip its, Reads s'.heap p.1 (kP (kz (bkV p.2))) [] ∧ bkV p.2 ∈ xs := fun p hp => by
    obtain ⟨j, hj⟩ := List.mem_iff_getElem?.mp hp
    rw [List.getElem?_zip_eq_some] at hj
    obtain ⟨h1, h2⟩ := hj
    obtain ⟨t, ht, et⟩ : ∃ t, ts[j]? = some t ∧ p.1 = Value.ref t := by
      rw [List.getElem?_map] at h1
      cases q : ts[j]? with
      | none =>
        rw [q] at h1
        cases h1
      | some t =>
        rw [q] at h1
        exact ⟨t, rfl, (Option.some.inj h1).symm⟩
    have hxj : xs[j]? = some (bkV p.2) := by rw [e2, List.getElem?_map, h2]; rfl
    rw [et]
    exact ⟨rd j t _ ht hxj, List.mem_of_getElem? hxj⟩
  have ea : ∀ {as : List Addr} {zs : List V}, Paired (fun t x => H' t = some (.tup (kV (kz x)))) as zs → PySem.W.EachIs (fun v d => ∃ bs, Reads s'.heap v d bs) (as.map Value.ref) (zs.map fun x => kP (kz x)) := fun {as zs} p => by
    induction p with
    | nil => exact .nil
    | cons r _ ih => exact .cons ⟨[], reads_k I' r⟩ ih
  have hal : PySem.W.AllAlike (xs.map fun x => kP (kz x)) := fun d hd d' hd' => by
    obtain ⟨x, _, rfl⟩ := List.mem_map.mp hd
    obtain ⟨y, _, rfl⟩ := List.mem_map.mp hd'
    exact alike_k _ _
  have S := PySem.W.SortsAt.data (prog := X.prog) (w := X.w) (A := X.A.in1.in1) (s := s') (ea pk) hal (.inl fun d hd => by
    obtain ⟨x, _, rfl⟩ := List.mem_map.mp hd
    exact ⟨_, _, rfl⟩) fun d hd => by
    obtain ⟨x, _, rfl⟩ := List.mem_map.mp hd
    rw [depth_k]
    show X.A.units + 1 + 1 + 1 < _
    have := hr.un
    omega
  have tail : ∀ st : SortSt, (arrOf st).toList.Pairwise (fun p q => ltK (kz (bkV q.2)) (kz (bkV p.2)) = false) → (arrOf st).toList.Perm ((ts.map Value.ref).zip its) → failedOf st = none →
      wpAny (model X.prog X.w) X.A.in1.in1 (ksk_tail a false e1 (.ref kS) st) R X.xe s' := fun st hs hp hfl => by
    have hpn : ((arrOf st).toList.map Prod.snd).Perm its := by
      have q := hp.map Prod.snd
      rw [List.map_snd_zip (by rw [List.length_map, lts]; omega)] at q
      exact q
    have eo : ((arrOf st).map (·.2)).toList = (arrOf st).toList.map Prod.snd := by rw [Array.toList_map]
    have hsz : ((arrOf st).map (·.2)).size = its.length := by
      rw [← Array.length_toList, eo, hpn.length_eq]
    have ga1 : (s'.heap.update kS (Obj.mapSeq fun _ => (#[] : Array Value))).get? a = some (seqObj "list" #[] e1) := (Heap.get?_update_ne _ _ _ _ nak.symm).trans ga
    have J1 := inv_raw (g := Obj.mapSeq fun _ => (#[] : Array Value)) I0 I' fk nk
    have J2 := inv_raw (g := Obj.mapSeq fun _ => (arrOf st).map (·.2)) I0 J1 fa na
    obtain ⟨c2, hc2⟩ : ∃ c2, ((s'.heap.update kS (Obj.mapSeq fun _ => (#[] : Array Value))).update a (Obj.mapSeq fun _ => (arrOf st).map (·.2))).get? a = some (seqObj "list" ((arrOf st).map (·.2)) c2) :=
      ⟨_, get?_update_seq ga1 fun _ => (arrOf st).map (·.2)⟩
    have href2 : ∀ u ∈ (arrOf st).toList.map Prod.snd, ∃ b, u = Value.ref b := fun u hu => e3 u (hpn.mem_iff.mp hu)
    unfold ksk_tail
    try dsimp only
    refine wpAny_bind (listUpdate_at gk rfl ?_ (by rw [List.size_toArray, List.length_map]; omega) (Nat.zero_le _))
    refine wpAny_bind (wpAny_letGo ?_)
    refine wpAny_bind (seqEpoch_at ga1 rfl ?_)
    refine wpAny_bind (listUpdate_at ga1 rfl ?_ (Nat.zero_le _) (by simp only [Bool.false_eq_true, if_false]; omega))
    rw [hfl]
    simp only [bne_self_eq_false, Bool.false_eq_true, if_false]
    refine wpAny_pure (fin _ H' (((arrOf st).toList.map Prod.snd).map bkV) (track_new I0 J2 fa na ⟨?_, (arrOf st).toList.map Prod.snd, c2, bkV_vals href2, ?_⟩) S' na ?_ ?_)
    · rw [List.length_map, hpn.length_eq]
      exact hz
    · have ea : ((arrOf st).toList.map Prod.snd).toArray = (arrOf st).map (·.2) := by rw [← eo, Array.toArray_toList]
      rw [ea]
      exact hc2
    · rw [e2]
      exact hpn.map bkV
    · rw [List.pairwise_map, List.pairwise_map]
      exact hs
  unfold ksk_end
  try dsimp only
  simp only [Bool.false_eq_true, if_false]
  by_cases h2 : its.toArray.size < 2
  · rw [if_pos h2, if_pos h2]
    refine wpAny_bind (wpAny_pure ?_)
    rw [StateT.run_pure]
    refine wpAny_bind (wpAny_pure ?_)
    try dsimp only
    refine tail (SortSt.mk' general' ((ts.map Value.ref).toArray.zip its.toArray) #[] 7 none) ?_ ?_ rfl
    · show ((ts.map Value.ref).toArray.zip its.toArray).toList.Pairwise _
      rw [zl]
      have hl : ((ts.map Value.ref).zip its).length < 2 := by
        rw [List.length_zip]
        rw [List.size_toArray] at h2
        omega
      match (ts.map Value.ref).zip its, hl with
      | [], _ => exact List.Pairwise.nil
      | [_], _ => exact List.pairwise_singleton _ _
      | _ :: _ :: l, h => exact absurd h (by rw [List.length_cons, List.length_cons]; omega)
    · show ((ts.map Value.ref).toArray.zip its.toArray).toList.Perm _
      rw [zl]
  · rw [if_neg h2, if_neg h2]
    have h2' : 2 ≤ ts.length := by
      rw [List.size_toArray] at h2
      omega
    obtain ⟨kd, k1, k2⟩ := S.kind
    have szz : ((ts.map Value.ref).toArray.zip its.toArray).size = ts.length := by
      rw [← Array.length_toList, zl, List.length_zip, List.length_map]
      omega
    refine wpAny_bind (k2 (by rw [List.length_map]; exact h2') _ ?_)
    refine wpAny_bind (wpAny_mono (PyProof.Rows.H.wpS_sortRunsSt (κ := PySem.W.dataKind s'.heap (xs.map fun x => kP (kz x))) (kd := kd) (a₀ := (ts.map Value.ref).toArray.zip its.toArray) (st := SortSt.mk' kd ((ts.map Value.ref).toArray.zip its.toArray) #[] 7 none)
      (Q := fun _ st' => failedOf st' = none ∧ (arrOf st').Perm ((ts.map Value.ref).toArray.zip its.toArray) ∧ SortedToK (PySem.W.dataKind s'.heap (xs.map fun x => kP (kz x))) (arrOf st') ((ts.map Value.ref).toArray.zip its.toArray).size)
      k1 (PySem.W.keysOf_zip S.keys) ⟨Array.Perm.refl _, rfl, rfl⟩ rfl (Stable.refl _) (by rw [szz]; exact h2') fun st' a1 a2 a3 _ => ⟨a2, a1, a3⟩) ?_ fun _ _ e => e)
    rintro ⟨⟨⟩, st'⟩ s'' ⟨rfl, hf, hp, hs⟩
    try dsimp only
    have hp2 : (arrOf st').toList.Perm ((ts.map Value.ref).zip its) := by
      rw [← zl]
      exact Array.perm_iff_toList_perm.mp hp
    refine tail st' ?_ hp2 hf
    rw [List.pairwise_iff_getElem]
    intro i j hi hj hij
    have so := hs i j (Nat.le_of_lt hij) (by rw [← hp.size_eq, ← Array.length_toList]; exact hj)
    have kk : ∀ (m : Nat) (hm : m < (arrOf st').toList.length), KK (PySem.W.dataKind s''.heap (xs.map fun x => kP (kz x))) (arrOf st') m = PySem.W.keyToks (kP (kz (bkV ((arrOf st').toList[m]).2))) := fun m hm => by
      obtain ⟨r1, r2⟩ := rel _ (hp2.mem_iff.mp (List.getElem_mem hm))
      have e5 : (arrOf st')[m]? = some ((arrOf st').toList[m]) := by
        rw [← Array.getElem?_toList]
        exact List.getElem?_eq_getElem hm
      unfold KK
      rw [e5]
      show ((PySem.W.dataKind s''.heap (xs.map fun x => kP (kz x))).keyOf ((arrOf st').toList[m]).1).getD _ = _
      rw [PySem.W.dataKind_some hal (List.mem_map.mpr ⟨_, r2, rfl⟩) r1]
      rfl
    rw [kk i hi, kk j hj] at so
    exact so
end
theorem cr_sortF {X : Cx} {k : Nat} (hr : Room (k + 1) X.A) : CallRK X (.builtin "sorted") ["key"] (rSortF X.prog X.w X.K X.mg X.base k) := by
  intro pins s σ H vs zs us ws Q I r1 r2 h
  obtain ⟨l, f, fd, px, xs, kz, sp, rfl, rfl, hs, href, run, bnd, hsp, fin⟩ := h
  obtain ⟨its, rv, hl, hz⟩ := I.list hs
  rw [Vals.ref1 r1, Vals.ref1 r2]
  have hzi : its.length ≤ sizeLine := by rw [← rv.length]; exact hz
  show wpAny _ _ (call (.builtin "sorted") [.ref l] [(Str.ofString "key", .ref f)]) _ _ _
  refine call_function_entry_kw kind_sorted plain_sorted entry_sorted (ksk_s1 _ _) ?_
  unfold Builtin.«sorted»
  refine wpAny_bind (m := checkCount "sorted" 1 1 _) (wpAny_pure ?_)
  refine wpAny_bind (collect_list hl.isList ?_ hzi)
  refine wpAny_bind (wpAny_newList ?_ hzi)
  have hsz : ((s.heap.push (seqObj "list" #[] 0)).update s.heap.objs.size (Obj.mapSeq (· ++ its.toArray))).objs.size = s.heap.objs.size + 1 := by
    rw [Heap.size_update, size_push']
  have hoL : (((s.heap.push (seqObj "list" #[] 0)).update s.heap.objs.size (Obj.mapSeq (· ++ its.toArray))).push (seqObj "list" its.toArray 0)).get? (s.heap.objs.size + 1) = some (seqObj "list" its.toArray 0) := by
    rw [← hsz]
    exact Heap.get?_push_size _ rfl
  have k1 : ∀ b o, s.heap.get? b = some o → b < s.heap.objs.size ∧ (((s.heap.push (seqObj "list" #[] 0)).update s.heap.objs.size (Obj.mapSeq (· ++ its.toArray))).push (seqObj "list" its.toArray 0)).get? b = some o := fun b o e => by
    have hb := Heap.lt_size e
    refine ⟨hb, Heap.get?_push_of_some _ ?_⟩
    rw [Heap.get?_update_ne _ _ _ _ (Nat.ne_of_lt hb)]
    exact Heap.get?_push_of_some _ e
  show wpAny _ _ _ _ _ { s with heap := ((s.heap.push (seqObj "list" #[] 0)).update s.heap.objs.size (Obj.mapSeq (· ++ its.toArray))).push (seqObj "list" its.toArray 0) }
  rw [hsz]
  generalize hh : ((s.heap.push (seqObj "list" #[] 0)).update s.heap.objs.size (Obj.mapSeq (· ++ its.toArray))).push (seqObj "list" its.toArray 0) = h1 at hoL k1 ⊢
  have s1 : h1.objs.size = s.heap.objs.size + 2 := by
    rw [← hh, size_push', hsz]
  refine wpAny_bind (wpAny_holding (wpAny_call_entry_kw slot_list_sort ⟨_, hoL, rfl⟩ entry_list_sort ?body (ksk_l1 _ _)))
  case body =>
    show wpAny _ _ (Builtin.«list.sort» ⟨[.ref (s.heap.objs.size + 1)], [(Str.ofString "key", .ref f)]⟩) _ _ _
    rw [ksk_t1]
    unfold ksk_tree
    refine wpAny_bind (listItems_at hoL rfl ?_)
    refine wpAny_bind (listUpdate_at hoL rfl ?_ (by rw [List.size_toArray]; exact hzi) (Nat.zero_le _))
    obtain ⟨e1, ho1⟩ : ∃ e1, (h1.update (s.heap.objs.size + 1) (Obj.mapSeq fun _ => (#[] : Array Value))).get? (s.heap.objs.size + 1) = some (seqObj "list" #[] e1) := ⟨_, get?_update_seq hoL fun _ => #[]⟩
    refine wpAny_bind (seqEpoch_at ho1 rfl ?_)
    refine wpAny_bind (wpAny_newTuple ?_ hzi)
    refine wpAny_bind (wpAny_newList ?_ (Nat.zero_le _))
    refine wpAny_holding ?_
    have s3 : ((h1.update (s.heap.objs.size + 1) (Obj.mapSeq fun _ => (#[] : Array Value))).push (seqObj "tuple" its.toArray 0)).objs.size = s.heap.objs.size + 3 := by
      rw [size_push', Heap.size_update, s1]
    have keep : ∀ b o, s.heap.get? b = some o → (((h1.update (s.heap.objs.size + 1) (Obj.mapSeq fun _ => (#[] : Array Value))).push (seqObj "tuple" its.toArray 0)).push (seqObj "list" #[] 0)).get? b = some o := fun b o e => by
      obtain ⟨hb, e2⟩ := k1 b o e
      exact Heap.get?_push_of_some _ (Heap.get?_push_of_some _ ((Heap.get?_update_ne _ _ _ _ (Nat.ne_of_lt (Nat.lt_succ_of_lt hb))).trans e2))
    have I1 : Inv X pins σ H { s with heap := ((h1.update (s.heap.objs.size + 1) (Obj.mapSeq fun _ => (#[] : Array Value))).push (seqObj "tuple" its.toArray 0)).push (seqObj "list" #[] 0) } := I.kept keep
    have fa : s.heap.objs.size ≤ s.heap.objs.size + 1 := Nat.le_succ _
    have fk : s.heap.objs.size ≤ ((h1.update (s.heap.objs.size + 1) (Obj.mapSeq fun _ => (#[] : Array Value))).push (seqObj "tuple" its.toArray 0)).objs.size := by rw [s3]; omega
    have nak : ((h1.update (s.heap.objs.size + 1) (Obj.mapSeq fun _ => (#[] : Array Value))).push (seqObj "tuple" its.toArray 0)).objs.size ≠ s.heap.objs.size + 1 := by rw [s3]; omega
    refine keys_runD (s1 := { s with heap := ((h1.update (s.heap.objs.size + 1) (Obj.mapSeq fun _ => (#[] : Array Value))).push (seqObj "tuple" its.toArray 0)).push (seqObj "list" #[] 0) }) I fa fk nak hr rv hzi run bnd hsp
      ⟨H, 0, [], I1, Same.refl H, Heap.get?_push_of_some _ (Heap.get?_push_of_some _ ho1), I.hok.fresh fa, Heap.get?_push_size _ rfl, I.hok.fresh fk, .nil⟩ fun s' keys hJ hk => ?_
    refine keys_endD I fa fk nak hr rv hzi href hJ hk fun h' H' ys I2 S2 n2 p2 w2 => ⟨_, rfl, ?_⟩
    exact wpAny_pure ⟨_, rfl, V.ref _, _, I2, rfl, fin ys _ H' S2 n2 p2 w2⟩
end GS
set_option Elab.async false
set_option linter.all false
set_option maxRecDepth 100000
set_option maxHeartbeats 4000000
/-! x * y, x an instance of a class with a __mul__ of its own, y such a one or a thing of a built-in type: its __mul__ is called -/
namespace GM
open PySem PySem.Spec PyProof.Rows L2 LamX
section
variable {prog : Program} {w : World} {A : Around} {E : Value → Shared → Prop} {s : Shared} {K : PySem.W.Frag} {x C f : Addr} {ox : Obj} {od : Option Obj} {T : String}
open PySem.W in
/-- y of a built-in type -/
theorem mul_T {b : Value} {fo ro rc : Option Value} {Q : Value → Shared → Prop}
    (X : K.In s.heap) (I : InstAt s.heap x ox C od)
    (lb : Looks (model prog w) s.heap (typeOf b) (.type T))
    (hc : selfFirst K C = true) (hs : findIn K (.ref C) "__mul__" = some (some (.ref f)))
    (hf : isFn K (.ref f) = true) (hr : findIn K (.ref C) "__rmul__" = some rc)
    (hp : rc = none ∨ ∃ g : Addr, rc = some (.ref g))
    (h1 : findIn K (.type T) "__mul__" = some fo) (h2 : findIn K (.type T) "__rmul__" = some ro)
    (hsub : subIn K (.type T) (.ref C) = some false)
    (h : wpAny (model prog w) A (call (.ref f) [.ref x, b]) (PySem.W.CmpBack Q) E s) :
    wpAny (model prog w) A (binaryOp .Mult (.ref x) b) Q E s := by
  obtain ⟨cls0, tl0, e0, e1⟩ := ksp_first hc
  have step := ksp_try X I hs hf h
  obtain ⟨hp0, g0, d0, tk0, os0⟩ := s
  have La : Looks (model prog w) hp0 (typeOf (.ref x)) (.ref C) := I.type
  have Lf : Looks (model prog w) hp0 (fillsNumberSlot (.ref C) "mul") true := fills_K X e0 e1 hs
  have Lg := ksp_fillsT (M := model prog w) (nm := "mul") X h1 h2
  have Ls : Looks (model prog w) hp0 (isSubtype (.type T) (.ref C)) false := looks_subIn X hsub
  have Lp : Looks (model prog w) hp0 (numberSlotInPython (.ref C) "mul") true := ksp_inPy X hs hr hp
  have Lq : Looks (model prog w) hp0 (numberSlotInPython (.type T) "mul") false := Looks.of_pure rfl
  have Lr : Looks (model prog w) hp0 (typeLookup (.type T) (dunderR "mul")) ro := looks_findIn X h2
  generalize (fo.isSome && !isSeqSlot fo || ro.isSome && !isSeqSlot ro) = rt at Lg
  have ne : (Value.ref C == Value.type T) = false := Bool.eq_false_iff.mpr fun q => by
    cases beq_iff_eq.mp q
  show wpAny _ _ (holding _ _) _ _ _
  refine wpAny_holding (wpAny_bind ?_)
  unfold binaryOp1
  refine wpAny_bind (La.at (wpAny_bind (lb.at (wpAny_bind (Lf.at ?_)))))
  simp only [ne, Bool.false_eq_true, if_false]
  cases rt
  all_goals
    ksp_lk
    refine wpAny_mono step (fun r s' z => ?_) fun _ _ e => e
    obtain ⟨v, rfl, hq⟩ := z
    ksp_lk
    exact hq
end
theorem ret_back {x : V} {v : Value} {Q : Value → Shared → Prop} {s : Shared} (r : RelV x v) (h : Q v s) : PySem.W.CmpBack Q v s := by
  cases x with
  | non =>
    cases (show v = _ from r)
    exact h
  | bl b =>
    cases (show v = _ from r)
    exact h
  | int i =>
    obtain ⟨t, e⟩ := (show ∃ t, v = _ from r)
    cases e
    exact h
  | str i =>
    obtain ⟨t, e⟩ := (show ∃ t, v = _ from r)
    cases e
    exact h
  | byt i =>
    obtain ⟨t, e⟩ := (show ∃ t, v = _ from r)
    cases e
    exact h
  | flt i =>
    obtain ⟨t, e⟩ := (show ∃ t, v = _ from r)
    cases e
    exact h
  | ref a =>
    cases (show v = _ from r)
    exact h
  | ty n =>
    cases (show v = _ from r)
    exact h
/-- a built-in type as a factor on the right -/
def facT (K : PySem.W.Frag) (C : Addr) (T : String) : Prop := (∃ fo, PySem.W.findIn K (.type T) "__mul__" = some fo) ∧ (∃ ro, PySem.W.findIn K (.type T) "__rmul__" = some ro) ∧ PySem.W.subIn K (.type T) (.ref C) = some false
def someMro (T : String) : Bool := match fastBuiltinMro T with
  | some l => l.all fun v => match v with
    | .type _ => true
    | _ => false
  | none => false
theorem sub_of {K : PySem.W.Frag} {C : Addr} {T : String} (h : someMro T = true) : PySem.W.subIn K (.type T) (.ref C) = some false := by
  show (fastBuiltinMro T).map (·.contains (.ref C)) = some false
  unfold someMro at h
  split at h
  · rename_i l e
    rw [e]
    have : l.contains (.ref C) = false := by
      rw [Bool.eq_false_iff]
      intro z
      have z := List.contains_iff_mem.mp z
      have := List.all_eq_true.mp h _ z
      cases this
    show some (l.contains (.ref C)) = some false
    rw [this]
  · cases h
theorem facT_none {K : PySem.W.Frag} {C : Addr} : facT K C "NoneType" := ⟨⟨_, (by kernel_rfl : fastLookup "NoneType" "__mul__" = some none)⟩, ⟨_, (by kernel_rfl : fastLookup "NoneType" "__rmul__" = some none)⟩, sub_of (by decide +kernel)⟩
theorem facT_int {K : PySem.W.Frag} {C : Addr} : facT K C "int" := ⟨⟨_, (by kernel_rfl : fastLookup "int" "__mul__" = some (some (.builtin "int.__mul__")))⟩, ⟨_, (by kernel_rfl : fastLookup "int" "__rmul__" = some (some (.builtin "int.__rmul__")))⟩, sub_of (by decide +kernel)⟩
theorem facT_list {K : PySem.W.Frag} {C : Addr} : facT K C "list" := ⟨⟨_, (by kernel_rfl : fastLookup "list" "__mul__" = some (some (.builtin "list.__mul__")))⟩, ⟨_, (by kernel_rfl : fastLookup "list" "__rmul__" = some (some (.builtin "list.__rmul__")))⟩, sub_of (by decide +kernel)⟩
theorem facT_tuple {K : PySem.W.Frag} {C : Addr} : facT K C "tuple" := ⟨⟨_, (by kernel_rfl : fastLookup "tuple" "__mul__" = some (some (.builtin "tuple.__mul__")))⟩, ⟨_, (by kernel_rfl : fastLookup "tuple" "__rmul__" = some (some (.builtin "tuple.__rmul__")))⟩, sub_of (by decide +kernel)⟩
/-- a factor on the right: an instance of the class, or of one of four built-in types -/
inductive Fac (K : PySem.W.Frag) (C : Addr) (H : Hp) : V → Prop where
  | ins {b dy : Addr} {gs : List (Str × V)} : H b = some (.ins C dy gs) → Fac K C H (.ref b)
  | non : Fac K C H .non
  | int (i : Int) : Fac K C H (.int i)
  | lst {b : Addr} {xs : List V} : H b = some (.lst xs) → Fac K C H (.ref b)
  | tup {b : Addr} {xs : List V} : SqT K H b xs → Fac K C H (.ref b)
/-- the class's own * -/
structure MulC (K : PySem.W.Frag) (C f : Addr) : Prop where
  mul : PySem.W.findIn K (.ref C) "__mul__" = some (some (.ref f))
  fn : PySem.W.isFn K (.ref f) = true
  self : PySem.W.selfFirst K C = true
  rml : ∃ g : Addr, PySem.W.findIn K (.ref C) "__rmul__" = some (some (.ref g))
section
variable {X : Cx} {CX : CXT} {k : Nat} {f C : Addr} {fd : FuncData} {ps : List Str} {sp : Sp} {E : XK} {l r : Expr} {pos : Pos} {te tf : TE}
theorem op_mul (Y : MulC X.K C f) {pins : List (Addr × Obj)} {σ : L2.St} {H : Hp} {s : Shared} {y : V} {v u : Value} {Q : VK} {a dx : Addr} {fs : List (Str × V)} (F : FnOk X.prog X.w X.K X.mg X.base CX k f fd ps sp) (hr : Room k X.A) (hb : Binds X.K fd ps []) (hx : Passes CX X E)
    (I : Inv X pins σ H s) (ha : H a = some (.ins C dx fs)) (hy : Fac X.K C H y) (rx : RelV (.ref a) v) (ry : RelV y u) (h : sp [.ref a, y] H Q E) : wpAny (model X.prog X.w) X.A (binaryOp .Mult v u) (EP X pins σ Q) X.xe s := by
  obtain ⟨mA, J, _⟩ := ins_get I.hok ha
  obtain ⟨od, J, _⟩ := J.look
  obtain ⟨g, hg⟩ := Y.rml
  have rr : Vals [.ref a, y] [v, u] := .cons rx (.cons ry .nil)
  cases (show v = Value.ref a from rx)
  have run := run_fn (ds := []) (dvs := []) F hr hb .nil hx I rr (by simpa using h)
  have run2 : wpAny (model X.prog X.w) X.A (call (.ref f) [.ref a, u]) (PySem.W.CmpBack (EP X pins σ Q)) X.xe s := wpAny_mono run (fun v' s' z => by
    obtain ⟨z1, H', I', rz, q⟩ := id z
    exact ret_back rz z) fun _ _ e => e
  have one : ∀ {T : String}, facT X.K C T → PySem.W.Looks (model X.prog X.w) s.heap (typeOf u) (.type T) → wpAny (model X.prog X.w) X.A (binaryOp .Mult (.ref a) u) (EP X pins σ Q) X.xe s := fun {T} z lk => by
    obtain ⟨⟨fo, z1⟩, ⟨ro, z2⟩, z3⟩ := z
    exact mul_T I.kIn J lk Y.self Y.mul Y.fn hg (.inr ⟨_, rfl⟩) z1 z2 z3 run2
  obtain ⟨m, hF⟩ := I.fr
  cases hy with
  | ins hb' =>
    cases (show u = Value.ref _ from ry)
    obtain ⟨mB, J', _⟩ := ins_get I.hok hb'
    obtain ⟨od', J', _⟩ := J'.look
    exact PySem.W.binop_K hF I.ok.mod.kin J J'.type Y.self Y.mul Y.fn run2
  | non =>
    cases (show u = Value.none from ry)
    exact one facT_none (.of_pure rfl)
  | int i =>
    obtain ⟨t, e⟩ := (show ∃ t, u = Value.int i t from ry)
    cases e
    exact one facT_int (.of_pure rfl)
  | @lst b xs hb' =>
    cases (show u = Value.ref b from ry)
    obtain ⟨_, _, n, _, h1⟩ := (show ObjOk X.prog X.w H s.heap b (.lst xs) from I.hok b _ hb')
    exact one facT_list ((PySem.W.Looks.ld h1).andThen .now)
  | @tup b xs hb' =>
    cases (show u = Value.ref b from ry)
    obtain ⟨its, rv, ht, _⟩ := I.tuple hb'
    obtain ⟨o, ho, hc, _⟩ := id ht
    have e : PySem.W.Looks (model X.prog X.w) s.heap (typeOf (.ref b)) o.cls := (PySem.W.Looks.ld ho).andThen .now
    rw [hc] at e
    exact one facT_tuple e
theorem pe_mul (Y : MulC X.K C f) (F : FnOk X.prog X.w X.K X.mg X.base CX k f fd ps sp) (hr : Room k X.A) (hb : Binds X.K fd ps []) (hx : Passes CX X E)
    (g : ∀ x y H Q, sp [x, y] H Q E → ∃ a dx fs, x = .ref a ∧ H a = some (.ins C dx fs) ∧ Fac X.K C H y) (ha : PE X l te) (hb2 : PE X r tf) : PE X (.BinOp l .Mult r pos) (tCall sp [] E (tCons te (tCons tf tNil))) := by
  refine ⟨fun pins s σ H Q I h => ?_⟩
  exact wpAny_BinOp (binT ha hb2 I h fun v u s2 x y H2 I2 rx ry q => by
    have q' : sp [x, y] H2 Q E := q
    obtain ⟨a, dx, fs, rfl, h1, h2⟩ := g x y H2 Q q'
    exact op_mul Y F hr hb hx I2 h1 h2 rx ry q')
end
end GM
set_option Elab.async false
set_option linter.all false
set_option maxRecDepth 100000
set_option maxHeartbeats 4000000
namespace V3
open PySem PySem.Spec PyProof.Rows L2
/-! ### the heap without hidden addresses -/
abbrev D := PyData
open Classical in
noncomputable def cut (O : Addr → Prop) (H : Hp) : Hp := fun a => if O a then none else H a
theorem cut_some {O : Addr → Prop} {H : Hp} {a : Addr} {o : HO} : cut O H a = some o ↔ ¬ O a ∧ H a = some o := by
  unfold cut
  by_cases h : O a
  · simp [h]
  · simp [h]
/-- all that stands in the one stands in the other -/
def Le (H H' : Hp) : Prop := ∀ a o, (∀ ps, o ≠ HO.tbl ps) → H a = some o → H' a = some o
theorem Le.refl (H : Hp) : Le H H := fun _ _ _ h => h
theorem Le.trans {H H1 H2 : Hp} (a : Le H H1) (b : Le H1 H2) : Le H H2 := fun c o t h => b c o t (a c o t h)
theorem Le.of {H H' : Hp} (e : Same H H') : Le H H' := fun a o _ h => e a o h
/-- a thing that stands there, and is no table -/
def There (H : Hp) (a : Addr) : Prop := ∃ o, H a = some o ∧ ∀ ps, o ≠ HO.tbl ps
def New (H : Hp) (a : Addr) : Prop := ¬ There H a
theorem New.of {H : Hp} {a : Addr} (h : H a = none) : New H a := fun ⟨o, e, _⟩ => by
  rw [h] at e
  cases e
theorem Le.there {H H' : Hp} (e : Le H H') {a : Addr} (h : There H a) : There H' a := by
  obtain ⟨o, h1, h2⟩ := h
  exact ⟨o, e _ _ h2 h1, h2⟩
theorem There.lst {H : Hp} {a : Addr} {xs : List V} (h : H a = some (.lst xs)) : There H a := ⟨_, h, fun ps z => by cases z⟩
theorem Le.cutAll {O : Addr → Prop} {H : Hp} : Le (cut O H) H := fun a o _ e => (cut_some.mp e).2
/-- fewer hidden, more there -/
theorem Le.cut {O O' : Addr → Prop} {H H' : Hp} (hO : ∀ a, O' a → O a ∨ New H a) (h : ∀ a o, ¬ O a → (∀ ps, o ≠ HO.tbl ps) → H a = some o → H' a = some o) : Le (cut O H) (V3.cut O' H') := fun a o t e => by
  obtain ⟨h1, h2⟩ := cut_some.mp e
  refine cut_some.mpr ⟨fun z => ?_, h a o h1 t h2⟩
  rcases hO a z with q | q
  · exact h1 q
  · exact q ⟨o, h2, t⟩
theorem Le.cutSub {O O' : Addr → Prop} {H : Hp} (h : ∀ a, O' a → O a) : Le (V3.cut O H) (V3.cut O' H) := Le.cut (fun a z => .inl (h a z)) fun _ _ _ _ e => e
theorem Rd.le {H H' : Hp} {a : Addr} {u : HO} (e : Le H H') (t : ∀ ps, u ≠ HO.tbl ps) (h : Rd H a u) : Rd H' a u := by
  rcases h with h | ⟨o, h⟩
  · exact .inl (e _ _ t h)
  · exact .inr ⟨o, e _ _ (fun ps => by intro z; cases z) h⟩
theorem SqT.le {K : PySem.W.Frag} {H H' : Hp} {a : Addr} {xs : List V} (e : Le H H') (h : SqT K H a xs) : SqT K H' a xs := by
  rcases h with h | h
  · exact .inl (Rd.le e (fun ps => by intro z; cases z) h)
  · exact .inr h
theorem SqL.le {K : PySem.W.Frag} {H H' : Hp} {a : Addr} {xs : List V} (e : Le H H') (h : SqL K H a xs) : SqL K H' a xs := by
  rcases h with h | h
  · exact .inl (Rd.le e (fun ps => by intro z; cases z) h)
  · exact .inr h
/-- a class of one's own, as an instance in data shows it -/
structure OwnC (K : PySem.W.Frag) (C : Addr) : Prop where
  cls : Cls K C
  insT : ∀ (H : Hp) (a dx : Addr) (fs : List (Str × V)), H a = some (.ins C dx fs) → TyX K H (.ref a) (.ref C)
  k_bool : PySem.W.kitOne K (.ref C) (.type "bool") = some false
  k_int : PySem.W.kitOne K (.ref C) (.type "int") = some false
  k_str : PySem.W.kitOne K (.ref C) (.type "str") = some false
  k_list : PySem.W.kitOne K (.ref C) (.type "list") = some false
  k_tuple : PySem.W.kitOne K (.ref C) (.type "tuple") = some false
  k_dict : PySem.W.kitOne K (.ref C) (.type "dict") = some false
/-- a key -/
@[simp] def kD : Key → D
  | .inl i => .int i
  | .inr x => .str x
/-- an instance as data: its class, its fields -/
abbrev fsD (fs : List (Str × D)) : List (D × D) := fs.map fun f => (.str f.1, f.2)
abbrev obD (C : Addr) (fs : List (Str × D)) : D := .dict ((.none, .int (C : Nat)) :: fsD fs)
/-- a dict whose keys are tuples, one whose keys are not, as data -/
abbrev dtD (kvs : List (List Key × D)) : D := .dict ((.bool true, .none) :: kvs.map fun f => (.tuple (f.1.map kD), f.2))
abbrev dkD (kvs : List (Key × D)) : D := .dict ((.bool false, .none) :: kvs.map fun f => (kD f.1, f.2))
mutual
inductive Rp (K : PySem.W.Frag) (H : Hp) : V → D → Prop
  | non : Rp K H .non .none
  | bl (b : Bool) : Rp K H (.bl b) (.bool b)
  | int (i : Int) : Rp K H (.int i) (.int i)
  | str (x : Str) : Rp K H (.str x) (.str x)
  | lst {a : Addr} {xs : List V} {ds : List D} : H a = some (.lst xs) → RpAll K H xs ds → Rp K H (.ref a) (.list ds)
  | tup {a : Addr} {xs : List V} {ds : List D} : SqT K H a xs → RpAll K H xs ds → Rp K H (.ref a) (.tuple ds)
  | dnil {a : Addr} : H a = some (.dK []) → Rp K H (.ref a) (.dict [])
  | ob {a C dx : Addr} {vs : List (Str × V)} {fs : List (D × D)} : OwnC K C → H a = some (.ins C dx vs) → RpKs K H vs fs → Rp K H (.ref a) (.dict ((.none, .int (C : Nat)) :: fs))
  | dt {a : Addr} {kvs : List (List Key × V)} {fs : List (D × D)} : H a = some (.dT kvs) → RpTs K H kvs fs → Rp K H (.ref a) (.dict ((.bool true, .none) :: fs))
  | dk {a : Addr} {kvs : List (Key × V)} {fs : List (D × D)} : H a = some (.dK kvs) → RpDs K H kvs fs → Rp K H (.ref a) (.dict ((.bool false, .none) :: fs))
inductive RpAll (K : PySem.W.Frag) (H : Hp) : List V → List D → Prop
  | nil : RpAll K H [] []
  | cons {v : V} {vs : List V} {d : D} {ds : List D} : Rp K H v d → RpAll K H vs ds → RpAll K H (v :: vs) (d :: ds)
inductive RpKs (K : PySem.W.Frag) (H : Hp) : List (Str × V) → List (D × D) → Prop
  | nil : RpKs K H [] []
  | cons {x : Str} {v : V} {vs : List (Str × V)} {d : D} {ds : List (D × D)} : Rp K H v d → RpKs K H vs ds → RpKs K H ((x, v) :: vs) ((.str x, d) :: ds)
inductive RpTs (K : PySem.W.Frag) (H : Hp) : List (List Key × V) → List (D × D) → Prop
  | nil : RpTs K H [] []
  | cons {x : List Key} {v : V} {vs : List (List Key × V)} {d : D} {ds : List (D × D)} : Rp K H v d → RpTs K H vs ds → RpTs K H ((x, v) :: vs) ((.tuple (x.map kD), d) :: ds)
inductive RpDs (K : PySem.W.Frag) (H : Hp) : List (Key × V) → List (D × D) → Prop
  | nil : RpDs K H [] []
  | cons {x : Key} {v : V} {vs : List (Key × V)} {d : D} {ds : List (D × D)} : Rp K H v d → RpDs K H vs ds → RpDs K H ((x, v) :: vs) ((kD x, d) :: ds)
end
mutual
theorem Rp.dp {K : PySem.W.Frag} {H : Hp} : ∀ (d : D) (v : V), d.canLay0 = true → Rp K H v d → L2.Dp K H v d
  | .none, _, _, h => by cases h; exact .non
  | .bool b, _, _, h => by cases h; exact .bl b
  | .int i, _, _, h => by cases h; exact .int i
  | .str x, _, _, h => by cases h; exact .str x
  | .list ds, _, c, h => by
    cases h with
    | lst hs ha => exact .lst (SqL.of hs) (RpAll.dp ds _ c ha)
  | .tuple ds, _, c, h => by
    cases h with
    | tup hs ha => exact .tup hs (RpAll.dp ds _ c ha)
  | .dict _, _, c, h => by cases c
theorem RpAll.dp {K : PySem.W.Frag} {H : Hp} : ∀ (ds : List D) (vs : List V), PyData.canLayAll0 ds = true → RpAll K H vs ds → L2.DpAll K H vs ds
  | [], _, _, h => by cases h; exact .nil
  | d :: ds, _, c, h => by
    have c2 : (d.canLay0 && PyData.canLayAll0 ds) = true := c
    rw [Bool.and_eq_true] at c2
    cases h with
    | cons h1 h2 => exact .cons (Rp.dp d _ c2.1 h1) (RpAll.dp ds _ c2.2 h2)
end
mutual
theorem Rp.le0 {K : PySem.W.Frag} {H H' : Hp} (e : Le H H') : ∀ {d : D} {v : V}, Rp K H v d → Rp K H' v d
  | _, _, .non => .non
  | _, _, .bl b => .bl b
  | _, _, .int i => .int i
  | _, _, .str x => .str x
  | _, _, .lst hs ha => .lst (e _ _ (fun ps z => by cases z) hs) (RpAll.le0 e ha)
  | _, _, .tup hs ha => .tup (SqT.le e hs) (RpAll.le0 e ha)
  | _, _, .dnil hs => .dnil (e _ _ (fun ps z => by cases z) hs)
  | _, _, .ob c hs ha => .ob c (e _ _ (fun ps z => by cases z) hs) (RpKs.le0 e ha)
  | _, _, .dt hs ha => .dt (e _ _ (fun ps z => by cases z) hs) (RpTs.le0 e ha)
  | _, _, .dk hs ha => .dk (e _ _ (fun ps z => by cases z) hs) (RpDs.le0 e ha)
theorem RpAll.le0 {K : PySem.W.Frag} {H H' : Hp} (e : Le H H') : ∀ {ds : List D} {vs : List V}, RpAll K H vs ds → RpAll K H' vs ds
  | _, _, .nil => .nil
  | _, _, .cons h1 h2 => .cons (Rp.le0 e h1) (RpAll.le0 e h2)
theorem RpKs.le0 {K : PySem.W.Frag} {H H' : Hp} (e : Le H H') : ∀ {ds : List (D × D)} {vs : List (Str × V)}, RpKs K H vs ds → RpKs K H' vs ds
  | _, _, .nil => .nil
  | _, _, .cons h1 h2 => .cons (Rp.le0 e h1) (RpKs.le0 e h2)
theorem RpTs.le0 {K : PySem.W.Frag} {H H' : Hp} (e : Le H H') : ∀ {ds : List (D × D)} {vs : List (List Key × V)}, RpTs K H vs ds → RpTs K H' vs ds
  | _, _, .nil => .nil
  | _, _, .cons h1 h2 => .cons (Rp.le0 e h1) (RpTs.le0 e h2)
theorem RpDs.le0 {K : PySem.W.Frag} {H H' : Hp} (e : Le H H') : ∀ {ds : List (D × D)} {vs : List (Key × V)}, RpDs K H vs ds → RpDs K H' vs ds
  | _, _, .nil => .nil
  | _, _, .cons h1 h2 => .cons (Rp.le0 e h1) (RpDs.le0 e h2)
end
theorem Rp.le {K : PySem.W.Frag} {H H' : Hp} (e : Le H H') (d : D) (v : V) (h : Rp K H v d) : Rp K H' v d := h.le0 e
theorem RpAll.le {K : PySem.W.Frag} {H H' : Hp} (e : Le H H') (ds : List D) (vs : List V) (h : RpAll K H vs ds) : RpAll K H' vs ds := h.le0 e
/-! ### flat data: no list, no dict -/
mutual
def flat : D → Bool
  | .list _ => false
  | .dict xs => flatKs xs
  | .tuple xs => flatAll xs
  | _ => true
def flatAll : List D → Bool
  | [] => true
  | x :: xs => flat x && flatAll xs
def flatKs : List (D × D) → Bool
  | [] => true
  | (_, x) :: xs => flat x && flatKs xs
end
theorem SqT.hide {K : PySem.W.Frag} {H : Hp} {O O' : Addr → Prop} {a : Addr} {xs : List V} (hO : ∀ p, O' p → O p ∨ ∃ ys, H p = some (.lst ys)) (h : SqT K (cut O H) a xs) : SqT K (cut O' H) a xs := by
  rcases h with h | h
  · refine .inl ?_
    rcases h with h | ⟨o, h⟩
    · obtain ⟨h1, h2⟩ := cut_some.mp h
      refine .inl (cut_some.mpr ⟨fun z => ?_, h2⟩)
      rcases hO _ z with z | ⟨ys, e⟩
      · exact h1 z
      · rw [h2] at e
        cases e
    · obtain ⟨h1, h2⟩ := cut_some.mp h
      refine .inr ⟨o, cut_some.mpr ⟨fun z => ?_, h2⟩⟩
      rcases hO _ z with z | ⟨ys, e⟩
      · exact h1 z
      · rw [h2] at e
        cases e
  · exact .inr h
theorem hide_at {H : Hp} {O O' : Addr → Prop} (hO : ∀ p, O' p → O p ∨ ∃ ys, H p = some (.lst ys)) {a : Addr} {o : HO} (t : ∀ ys, o ≠ .lst ys) (h : cut O H a = some o) : cut O' H a = some o := by
  obtain ⟨h1, h2⟩ := cut_some.mp h
  refine cut_some.mpr ⟨fun z => ?_, h2⟩
  rcases hO _ z with z | ⟨ys, e⟩
  · exact h1 z
  · rw [h2] at e
    exact t ys (Option.some.inj e)
mutual
theorem Rp.hide0 {K : PySem.W.Frag} {H : Hp} {O O' : Addr → Prop} (hO : ∀ p, O' p → O p ∨ ∃ ys, H p = some (.lst ys)) : ∀ {d : D} {v : V}, flat d = true → Rp K (cut O H) v d → Rp K (cut O' H) v d
  | _, _, _, .non => .non
  | _, _, _, .bl b => .bl b
  | _, _, _, .int i => .int i
  | _, _, _, .str x => .str x
  | _, _, f, .lst hs ha => absurd f (by rw [flat]; exact Bool.false_ne_true)
  | _, _, f, .tup hs ha => .tup (SqT.hide hO hs) (RpAll.hide0 hO (by rw [flat] at f; exact f) ha)
  | _, _, _, .dnil hs => .dnil (hide_at hO (fun ys z => by cases z) hs)
  | _, _, f, .ob c hs ha => .ob c (hide_at hO (fun ys z => by cases z) hs) (RpKs.hide0 hO (by simpa [flat, flatKs] using f) ha)
  | _, _, f, .dt hs ha => .dt (hide_at hO (fun ys z => by cases z) hs) (RpTs.hide0 hO (by simpa [flat, flatKs] using f) ha)
  | _, _, f, .dk hs ha => .dk (hide_at hO (fun ys z => by cases z) hs) (RpDs.hide0 hO (by simpa [flat, flatKs] using f) ha)
theorem RpAll.hide0 {K : PySem.W.Frag} {H : Hp} {O O' : Addr → Prop} (hO : ∀ p, O' p → O p ∨ ∃ ys, H p = some (.lst ys)) : ∀ {ds : List D} {vs : List V}, flatAll ds = true → RpAll K (cut O H) vs ds → RpAll K (cut O' H) vs ds
  | _, _, _, .nil => .nil
  | _, _, f, .cons h1 h2 => .cons (Rp.hide0 hO (by rw [flatAll, Bool.and_eq_true] at f; exact f.1) h1) (RpAll.hide0 hO (by rw [flatAll, Bool.and_eq_true] at f; exact f.2) h2)
theorem RpKs.hide0 {K : PySem.W.Frag} {H : Hp} {O O' : Addr → Prop} (hO : ∀ p, O' p → O p ∨ ∃ ys, H p = some (.lst ys)) : ∀ {ds : List (D × D)} {vs : List (Str × V)}, flatKs ds = true → RpKs K (cut O H) vs ds → RpKs K (cut O' H) vs ds
  | _, _, _, .nil => .nil
  | _, _, f, .cons h1 h2 => .cons (Rp.hide0 hO (by rw [flatKs, Bool.and_eq_true] at f; exact f.1) h1) (RpKs.hide0 hO (by rw [flatKs, Bool.and_eq_true] at f; exact f.2) h2)
theorem RpTs.hide0 {K : PySem.W.Frag} {H : Hp} {O O' : Addr → Prop} (hO : ∀ p, O' p → O p ∨ ∃ ys, H p = some (.lst ys)) : ∀ {ds : List (D × D)} {vs : List (List Key × V)}, flatKs ds = true → RpTs K (cut O H) vs ds → RpTs K (cut O' H) vs ds
  | _, _, _, .nil => .nil
  | _, _, f, .cons h1 h2 => .cons (Rp.hide0 hO (by rw [flatKs, Bool.and_eq_true] at f; exact f.1) h1) (RpTs.hide0 hO (by rw [flatKs, Bool.and_eq_true] at f; exact f.2) h2)
theorem RpDs.hide0 {K : PySem.W.Frag} {H : Hp} {O O' : Addr → Prop} (hO : ∀ p, O' p → O p ∨ ∃ ys, H p = some (.lst ys)) : ∀ {ds : List (D × D)} {vs : List (Key × V)}, flatKs ds = true → RpDs K (cut O H) vs ds → RpDs K (cut O' H) vs ds
  | _, _, _, .nil => .nil
  | _, _, f, .cons h1 h2 => .cons (Rp.hide0 hO (by rw [flatKs, Bool.and_eq_true] at f; exact f.1) h1) (RpDs.hide0 hO (by rw [flatKs, Bool.and_eq_true] at f; exact f.2) h2)
end
theorem Rp.hide {K : PySem.W.Frag} {H : Hp} {O O' : Addr → Prop} (hO : ∀ p, O' p → O p ∨ ∃ ys, H p = some (.lst ys)) (d : D) (v : V) (f : flat d = true) (h : Rp K (cut O H) v d) : Rp K (cut O' H) v d := h.hide0 hO f
theorem RpAll.hide {K : PySem.W.Frag} {H : Hp} {O O' : Addr → Prop} (hO : ∀ p, O' p → O p ∨ ∃ ys, H p = some (.lst ys)) (ds : List D) (vs : List V) (f : flatAll ds = true) (h : RpAll K (cut O H) vs ds) : RpAll K (cut O' H) vs ds := h.hide0 hO f
theorem RpAll.len {K : PySem.W.Frag} {H : Hp} : ∀ {ds : List D} {vs : List V}, RpAll K H vs ds → vs.length = ds.length
  | [], _, h => by cases h; rfl
  | d :: ds, _, h => by
    cases h with
    | cons h1 h2 => rw [List.length_cons, List.length_cons, RpAll.len h2]
theorem RpAll.get {K : PySem.W.Frag} {H : Hp} : ∀ {ds : List D} {vs : List V} {i : Nat} {d : D}, RpAll K H vs ds → ds[i]? = some d → ∃ v, vs[i]? = some v ∧ Rp K H v d
  | [], _, _, _, h, e => by simp at e
  | d :: ds, _, 0, _, h, e => by
    cases h with
    | cons h1 h2 =>
      simp at e
      subst e
      exact ⟨_, rfl, h1⟩
  | d :: ds, _, i + 1, d', h, e => by
    cases h with
    | cons h1 h2 =>
      obtain ⟨v, q1, q2⟩ := RpAll.get (i := i) (d := d') h2 (by simpa using e)
      exact ⟨v, by simpa using q1, q2⟩
theorem RpAll.getV {K : PySem.W.Frag} {H : Hp} {ds : List D} {vs : List V} {i : Nat} {v : V} (h : RpAll K H vs ds) (e : vs[i]? = some v) : ∃ d, ds[i]? = some d ∧ Rp K H v d := by
  have hl := RpAll.len h
  have hi : i < vs.length := (List.getElem?_eq_some_iff.mp e).1
  have e2 : ds[i]? = some ds[i] := List.getElem?_eq_getElem (by omega)
  obtain ⟨v', q1, q2⟩ := RpAll.get h e2
  rw [e] at q1
  cases q1
  exact ⟨_, e2, q2⟩
theorem RpAll.app {K : PySem.W.Frag} {H : Hp} : ∀ {ds es : List D} {vs ws : List V}, RpAll K H vs ds → RpAll K H ws es → RpAll K H (vs ++ ws) (ds ++ es)
  | [], _, _, _, h, g => by cases h; exact g
  | d :: ds, _, _, _, h, g => by
    cases h with
    | cons h1 h2 => exact .cons h1 (RpAll.app h2 g)
theorem RpAll.take {K : PySem.W.Frag} {H : Hp} : ∀ {ds : List D} {vs : List V} (n : Nat), RpAll K H vs ds → RpAll K H (vs.take n) (ds.take n)
  | _, _, 0, _ => .nil
  | [], _, n + 1, h => by cases h; exact .nil
  | d :: ds, _, n + 1, h => by
    cases h with
    | cons h1 h2 => exact .cons h1 (RpAll.take n h2)
theorem RpAll.drop {K : PySem.W.Frag} {H : Hp} : ∀ {ds : List D} {vs : List V} (n : Nat), RpAll K H vs ds → RpAll K H (vs.drop n) (ds.drop n)
  | _, _, 0, h => h
  | [], _, n + 1, h => by cases h; exact .nil
  | d :: ds, _, n + 1, h => by
    cases h with
    | cons h1 h2 => exact RpAll.drop n h2
theorem RpAll.rev {K : PySem.W.Frag} {H : Hp} : ∀ {ds : List D} {vs : List V}, RpAll K H vs ds → RpAll K H vs.reverse ds.reverse
  | [], _, h => by cases h; exact .nil
  | d :: ds, _, h => by
    cases h with
    | cons h1 h2 =>
      rw [List.reverse_cons, List.reverse_cons]
      exact RpAll.app (RpAll.rev h2) (.cons h1 .nil)
theorem RpAll.one {K : PySem.W.Frag} {H : Hp} {v : V} {d : D} (h : Rp K H v d) : RpAll K H [v] [d] := .cons h .nil
theorem RpAll.erase {K : PySem.W.Frag} {H : Hp} : ∀ {ds : List D} {vs : List V} (n : Nat), RpAll K H vs ds → RpAll K H (vs.eraseIdx n) (ds.eraseIdx n)
  | [], _, n, h => by cases h; exact .nil
  | d :: ds, _, 0, h => by
    cases h with
    | cons h1 h2 => exact h2
  | d :: ds, _, n + 1, h => by
    cases h with
    | cons h1 h2 => exact .cons h1 (RpAll.erase n h2)
theorem RpAll.put {K : PySem.W.Frag} {H : Hp} {v : V} {x : D} (hv : Rp K H v x) : ∀ {ds : List D} {vs : List V} (n : Nat), RpAll K H vs ds → RpAll K H (vs.set n v) (ds.set n x)
  | [], _, n, h => by cases h; exact .nil
  | d :: ds, _, 0, h => by
    cases h with
    | cons h1 h2 => exact .cons hv h2
  | d :: ds, _, n + 1, h => by
    cases h with
    | cons h1 h2 => exact .cons h1 (RpAll.put hv n h2)
theorem rp_ints {K : PySem.W.Frag} {H : Hp} : ∀ {ns : List Int} {vs : List V}, RpAll K H vs (ns.map PyData.int) → vs = ns.map V.int
  | [], _, h => by cases h; rfl
  | n :: ns, _, h => by
    cases h with
    | cons h1 h2 =>
      cases h1
      rw [List.map_cons, rp_ints h2]
theorem rp_bools {K : PySem.W.Frag} {H : Hp} : ∀ {ns : List Bool} {vs : List V}, RpAll K H vs (ns.map PyData.bool) → vs = ns.map V.bl
  | [], _, h => by cases h; rfl
  | n :: ns, _, h => by
    cases h with
    | cons h1 h2 =>
      cases h1
      rw [List.map_cons, rp_bools h2]
end V3
set_option Elab.async false
set_option linter.all false
set_option maxRecDepth 100000
set_option maxHeartbeats 4000000
namespace V3
open PySem PySem.Spec PyProof.Rows L2
/-! ### the draws -/
abbrev drK (g c : Addr) (n t : Int) : List (Key × V) := [(.inr "great", .ref g), (.inr "cells", .ref c), (.inr "left", .int n), (.inr "turn", .int t)]
/-- a dict of draws stands at d -/
def Dr (H : Hp) (d g c : Addr) (t : Int) : Prop := ∃ (gs cs : List Int) (n : Int), H d = some (.dK (drK g c n t)) ∧ H g = some (.lst (gs.map V.int)) ∧ H c = some (.lst (cs.map V.int)) ∧ g ≠ c ∧
  (∀ x ∈ gs, 0 ≤ x) ∧ (∀ x ∈ cs, 0 ≤ x ∧ x < 2147483629) ∧ 0 ≤ n ∧ 0 ≤ t
/-! ### values as one sees them -/
inductive U where
  | d (x : D)
  | dw (bs : List D)
  | tb (f : Int → Int) (ns : List Int)
  | dr
  | ob (fs : List (Str × D))
structure RR where
  dr : Option (Addr × Addr × Addr)
  hid : Addr → Prop
/-- what a def leans on -/
structure Am where
  K : PySem.W.Frag
  C : Addr
  R : RR
  TL : List (Addr × Str)
  Hs : Hp
  O0 : Addr → Prop
  E : XK
  e : Addr → Prop
  cls : Cls K C
  nB : NoAttr K C "blocks"
  insT : ∀ (H : Hp) (a dx : Addr) (fs : List (Str × V)), H a = some (.ins C dx fs) → TyX K H (.ref a) (.ref C)
  kD : PySem.W.kitOne K (.ref C) (.ref C) = some true
/-- all but the draws stands -/
def FrR (R : RR) (H H' : Hp) : Prop := (∀ b o, (∀ d g c, R.dr = some (d, g, c) → b ≠ d ∧ b ≠ g) → (∀ ps, o ≠ HO.tbl ps) → H b = some o → H' b = some o) ∧ ∀ b, There H b → There H' b
/-- what stood at the start, but for what may be written, stands -/
def Gr (am : Am) (H : Hp) : Prop := (∀ b o, ¬ am.O0 b → (∀ ps, o ≠ HO.tbl ps) → am.Hs b = some o → H b = some o) ∧ ∀ b, There am.Hs b → There H b
theorem FrR.refl (R : RR) (H : Hp) : FrR R H H := ⟨fun _ _ _ _ h => h, fun _ h => h⟩
theorem FrR.trans {R : RR} {H H1 H2 : Hp} (a : FrR R H H1) (b : FrR R H1 H2) : FrR R H H2 := ⟨fun c o h1 h2 h => b.1 c o h1 h2 (a.1 c o h1 h2 h), fun c h => b.2 c (a.2 c h)⟩
theorem FrR.of {R : RR} {H H' : Hp} (e : Same H H') : FrR R H H' := ⟨fun b o _ _ h => e b o h, fun b h => (Le.of e).there h⟩
theorem FrR.le {R : RR} {H H' : Hp} (e : Le H H') : FrR R H H' := ⟨fun b o _ t h => e b o t h, fun b h => e.there h⟩
structure Wd (R : RR) (TL : List (Addr × Str)) (H : Hp) (n : Nat) : Prop where
  hid : ∀ a, R.hid a → There H a
  tabs : LamX.Tabs TL H
  dr : ∀ d g c, R.dr = some (d, g, c) → R.hid d ∧ R.hid g ∧ R.hid c ∧ ∃ t : Int, t ≤ n ∧ Dr H d g c t
theorem tabs_keep {TL : List (Addr × Str)} {H H' : Hp} (e : ∀ b o, (∀ xs, o ≠ HO.lst xs) → (∀ kvs, o ≠ HO.dK kvs) → H b = some o → H' b = some o) (h : LamX.Tabs TL H) : LamX.Tabs TL H' := fun q hq => by
  obtain ⟨ps, h1, h2, h3⟩ := h q hq
  refine ⟨ps, e _ _ (fun xs => by intro z; cases z) (fun xs => by intro z; cases z) h1, h2, fun pos cv hc => ?_⟩
  obtain ⟨c, e3, e4⟩ := h3 pos cv hc
  exact ⟨c, e3, e _ _ (fun xs => by intro z; unfold LamX.CodeO at z; cases z) (fun xs => by intro z; unfold LamX.CodeO at z; cases z) e4⟩
theorem Dr.same {H H' : Hp} {d g c : Addr} {t : Int} (e : ∀ b o, b = d ∨ b = g ∨ b = c → H b = some o → H' b = some o) (h : Dr H d g c t) : Dr H' d g c t := by
  obtain ⟨gs, cs, n, h1, h2, h3, r⟩ := h
  exact ⟨gs, cs, n, e _ _ (.inl rfl) h1, e _ _ (.inr (.inl rfl)) h2, e _ _ (.inr (.inr rfl)) h3, r⟩
theorem Wd.same {R : RR} {TL : List (Addr × Str)} {H H' : Hp} {n : Nat} (e : Same H H') (h : Wd R TL H n) : Wd R TL H' n where
  hid a ha := (Le.of e).there (h.hid a ha)
  tabs := tabs_keep (fun b o _ _ q => e b o q) h.tabs
  dr d g c k := by
    obtain ⟨h1, h2, h3, t, ht, hd⟩ := h.dr d g c k
    exact ⟨h1, h2, h3, t, ht, hd.same fun b o _ q => e b o q⟩
theorem Wd.le {R : RR} {TL : List (Addr × Str)} {H : Hp} {n m : Nat} (h : Wd R TL H n) (k : n ≤ m) : Wd R TL H m where
  hid := h.hid
  tabs := h.tabs
  dr d g c q := by
    obtain ⟨h1, h2, h3, t, ht, hd⟩ := h.dr d g c q
    exact ⟨h1, h2, h3, t, by omega, hd⟩
/-- a list that is not hidden is written -/
theorem Wd.own {R : RR} {TL : List (Addr × Str)} {H : Hp} {n : Nat} {p : Addr} {xs ys : List V} (h : Wd R TL H n) (hp : ¬ R.hid p) (e : H p = some (.lst xs)) : Wd R TL (upd H p (.lst ys)) n where
  hid a ha := by
    have ne : a ≠ p := fun q => hp (q ▸ ha)
    obtain ⟨o, q1, q2⟩ := h.hid a ha
    exact ⟨o, by rw [upd_ne ne]; exact q1, q2⟩
  tabs := tabs_keep (fun b o h1 _ q => by
    have ne : b ≠ p := fun z => by
      rw [z, e] at q
      cases q
      exact h1 _ rfl
    rw [upd_ne ne]
    exact q) h.tabs
  dr d g c k := by
    obtain ⟨h1, h2, h3, t, ht, hd⟩ := h.dr d g c k
    refine ⟨h1, h2, h3, t, ht, hd.same fun b o hb q => ?_⟩
    have ne : b ≠ p := fun z => by
      subst z
      rcases hb with rfl | rfl | rfl
      · exact hp h1
      · exact hp h2
      · exact hp h3
    rw [upd_ne ne]
    exact q
/-- the fields of an object -/
def RpFs (K : PySem.W.Frag) (H : Hp) : List (Str × V) → List (Str × D) → Prop
  | [], [] => True
  | (x, v) :: vs, (y, d) :: fs => x = y ∧ Rp K H v d ∧ RpFs K H vs fs
  | _, _ => False
def flatFs : List (Str × D) → Bool
  | [] => true
  | f :: fs => flat f.2 && flatFs fs
theorem RpFs.le {K : PySem.W.Frag} {H H' : Hp} (e : Le H H') : ∀ {vs : List (Str × V)} {fs : List (Str × D)}, RpFs K H vs fs → RpFs K H' vs fs
  | [], [], _ => trivial
  | (_, _) :: _, (_, _) :: _, ⟨h1, h2, h3⟩ => ⟨h1, Rp.le e _ _ h2, RpFs.le e h3⟩
  | [], _ :: _, h => h.elim
  | _ :: _, [], h => h.elim
theorem RpFs.hide {K : PySem.W.Frag} {H : Hp} {O O' : Addr → Prop} (hO : ∀ p, O' p → O p ∨ ∃ ys, H p = some (.lst ys)) : ∀ {vs : List (Str × V)} {fs : List (Str × D)}, flatFs fs = true → RpFs K (cut O H) vs fs → RpFs K (cut O' H) vs fs
  | [], [], _, _ => trivial
  | (_, _) :: _, (_, _) :: _, f, ⟨h1, h2, h3⟩ => by
    have f2 := Bool.and_eq_true_iff.mp f
    exact ⟨h1, Rp.hide hO _ _ f2.1 h2, RpFs.hide hO f2.2 h3⟩
  | [], _ :: _, _, h => h.elim
  | _ :: _, [], _, h => h.elim
/-- v is u, in what of H is not hidden -/
def RepU (am : Am) (O : Addr → Prop) (H : Hp) (v : V) : U → Prop
  | .d x => Rp am.K (cut O H) v x
  | .dw bs => flatAll bs = true ∧ ∃ a dx t, v = .ref a ∧ cut O H a = some (.ins am.C dx [("blocks", .ref t)]) ∧ Rp am.K (cut O H) (.ref t) (.tuple bs)
  | .tb f ns => ∃ a kvs, v = .ref a ∧ cut O H a = some (.dK kvs) ∧ ∀ n ∈ ns, valV kvs (.inl n) = some (.int (f n))
  | .dr => ∃ d g c, am.R.dr = some (d, g, c) ∧ v = .ref d
  | .ob fs => flatFs fs = true ∧ ∃ a dx vs, v = .ref a ∧ cut O H a = some (.ins am.C dx vs) ∧ RpFs am.K (cut O H) vs fs
theorem RepU.le {am : Am} {O O' : Addr → Prop} {H H' : Hp} {v : V} {u : U} (e : Le (cut O H) (cut O' H')) (h : RepU am O H v u) : RepU am O' H' v u := by
  cases u with
  | d x => exact Rp.le e _ _ h
  | dw bs =>
    obtain ⟨f, a, dx, t, h1, h2, h3⟩ := h
    exact ⟨f, a, dx, t, h1, e _ _ (fun ps => by intro z; cases z) h2, Rp.le e _ _ h3⟩
  | tb f ns =>
    obtain ⟨a, kvs, h1, h2, h3⟩ := h
    exact ⟨a, kvs, h1, e _ _ (fun ps => by intro z; cases z) h2, h3⟩
  | dr => exact h
  | ob fs =>
    obtain ⟨f, a, dx, vs, h1, h2, h3⟩ := h
    exact ⟨f, a, dx, vs, h1, e _ _ (fun ps => by intro z; cases z) h2, h3.le e⟩
@[simp] def flatU : U → Bool
  | .d x => flat x
  | .dw _ => true
  | .tb _ _ => true
  | .dr => true
  | .ob _ => true
theorem RepU.hide {am : Am} {O O' : Addr → Prop} {H : Hp} {v : V} {u : U} (hO : ∀ p, O' p → O p ∨ ∃ ys, H p = some (.lst ys)) (f : flatU u = true) (h : RepU am O H v u) : RepU am O' H v u := by
  cases u with
  | d x => exact Rp.hide hO _ _ f h
  | dw bs =>
    obtain ⟨f, a, dx, t, h1, h2, h3⟩ := h
    refine ⟨f, a, dx, t, h1, ?_, Rp.hide hO _ _ f h3⟩
    obtain ⟨q1, q2⟩ := cut_some.mp h2
    refine cut_some.mpr ⟨fun z => ?_, q2⟩
    rcases hO _ z with z | ⟨ys, e⟩
    · exact q1 z
    · rw [q2] at e
      cases e
  | tb f ns =>
    obtain ⟨a, kvs, h1, h2, h3⟩ := h
    refine ⟨a, kvs, h1, ?_, h3⟩
    obtain ⟨q1, q2⟩ := cut_some.mp h2
    refine cut_some.mpr ⟨fun z => ?_, q2⟩
    rcases hO _ z with z | ⟨ys, e⟩
    · exact q1 z
    · rw [q2] at e
      cases e
  | dr => exact h
  | ob fs =>
    obtain ⟨f, a, dx, vs, h1, h2, h3⟩ := h
    refine ⟨f, a, dx, vs, h1, ?_, h3.hide hO f⟩
    obtain ⟨q1, q2⟩ := cut_some.mp h2
    refine cut_some.mpr ⟨fun z => ?_, q2⟩
    rcases hO _ z with z | ⟨ys, e⟩
    · exact q1 z
    · rw [q2] at e
      cases e
/-! ### slots -/
inductive Sl where
  | no
  | fz (u : U)
  | ow (ds : List D)
@[simp] def Sl.fzd : Sl → Sl
  | .no => .no
  | .fz u => .fz u
  | .ow ds => .fz (.d (.list ds))
abbrev Ro := List Sl
@[simp] def demAt (S : List Nat) : Nat → Ro → Ro
  | _, [] => []
  | n, s :: ρ => (if n ∈ S then s.fzd else s) :: demAt S (n + 1) ρ
abbrev dem (S : List Nat) (ρ : Ro) : Ro := demAt S 0 ρ
theorem demAt_get (S : List Nat) : ∀ (ρ : Ro) (n i : Nat), (demAt S n ρ)[i]? = (ρ[i]?).map fun s => if n + i ∈ S then s.fzd else s
  | [], n, i => by simp
  | s :: ρ, n, 0 => by simp
  | s :: ρ, n, i + 1 => by
    show (demAt S (n + 1) ρ)[i]? = _
    rw [demAt_get S ρ (n + 1) i]
    have e : n + 1 + i = n + (i + 1) := by omega
    rw [e]
    rfl
theorem dem_get (S : List Nat) (ρ : Ro) (i : Nat) : (dem S ρ)[i]? = (ρ[i]?).map fun s => if i ∈ S then s.fzd else s := by
  have h := demAt_get S ρ 0 i
  rw [Nat.zero_add] at h
  exact h
theorem dem_len (S : List Nat) : ∀ (ρ : Ro) (n : Nat), (demAt S n ρ).length = ρ.length
  | [], _ => rfl
  | s :: ρ, n => by
    show (demAt S (n + 1) ρ).length + 1 = ρ.length + 1
    rw [dem_len S ρ (n + 1)]
theorem dem_nil : ∀ (ρ : Ro) (n : Nat), demAt [] n ρ = ρ
  | [], _ => rfl
  | s :: ρ, n => by
    show (if n ∈ [] then s.fzd else s) :: demAt [] (n + 1) ρ = _
    rw [dem_nil ρ (n + 1), if_neg (by simp)]
/-- the list at p is slot i's own -/
def OwnAt (ρ : Ro) (σ : L2.St) (i : Nat) (p : Addr) : Prop := (∃ ds, ρ[i]? = some (Sl.ow ds)) ∧ σ[i]? = some (some (V.ref p))
def Hid (am : Am) (ρ : Ro) (σ : L2.St) (a : Addr) : Prop := am.R.hid a ∨ ∃ i, OwnAt ρ σ i a
structure Rl (am : Am) (ρ : Ro) (n : Nat) (σ : L2.St) (H : Hp) : Prop where
  len : ρ.length = σ.length
  fz : ∀ (i : Nat) (u : U), ρ[i]? = some (Sl.fz u) → ∃ v, σ[i]? = some (some v) ∧ RepU am (Hid am ρ σ) H v u
  ow : ∀ (i : Nat) (ds : List D), ρ[i]? = some (Sl.ow ds) → ∃ p vs, σ[i]? = some (some (V.ref p)) ∧ ((New am.Hs p ∨ am.O0 p) ∧ ¬ am.R.hid p) ∧ H p = some (.lst vs) ∧ RpAll am.K (cut (Hid am ρ σ) H) vs ds
  nd : ∀ (i j : Nat) (p : Addr), OwnAt ρ σ i p → OwnAt ρ σ j p → i = j
  od : ∀ d g c, am.R.dr = some (d, g, c) → am.O0 d ∧ am.O0 g
  gr : Gr am H
  wd : Wd am.R am.TL H n
  ex : ∀ C H' n', Gr am H' → Wd am.R am.TL H' n' → am.e C → am.E (.ref C) none H'
section
variable {am : Am} {ρ : Ro} {n n' : Nat} {σ : L2.St} {H H' : Hp}
theorem Rl.ownL (h : Rl am ρ n σ H) {i : Nat} {p : Addr} (o : OwnAt ρ σ i p) : (New am.Hs p ∨ am.O0 p) ∧ (∃ vs, H p = some (.lst vs)) ∧ ¬ am.R.hid p := by
  obtain ⟨⟨ds, e⟩, e2⟩ := o
  obtain ⟨p', vs, q1, q2, q3, q4⟩ := h.ow i ds e
  rw [e2] at q1
  cases q1
  exact ⟨q2.1, ⟨vs, q3⟩, q2.2⟩
theorem Rl.hidThere (h : Rl am ρ n σ H) {a : Addr} (z : Hid am ρ σ a) : There H a := by
  rcases z with z | ⟨i, z⟩
  · exact h.wd.hid a z
  · obtain ⟨_, ⟨vs, e⟩, _⟩ := h.ownL z
    exact .lst e
theorem Rl.new (h : Rl am ρ n σ H) {p : Addr} (e : New H p) : ¬ Hid am ρ σ p := fun z => e (h.hidThere z)
/-- what is new now was not there at the start -/
theorem Rl.new0 (h : Rl am ρ n σ H) {p : Addr} (e : New H p) : (New am.Hs p ∨ am.O0 p) ∧ ¬ am.R.hid p := by
  refine ⟨?_, fun z => h.new e (.inl z)⟩
  by_cases o : am.O0 p
  · exact .inr o
  · exact .inl fun ⟨x, q1, q2⟩ => e ⟨x, h.gr.1 p x o q2 q1, q2⟩
/-- what is not hidden and no draw of ours stands behind a step -/
theorem Rl.cutLe (h : Rl am ρ n σ H) (f : FrR am.R H H') (S : List Nat) : Le (cut (Hid am (dem S ρ) σ) H) (cut (Hid am (dem S ρ) σ) H') := Le.cut (fun a z => .inl z) fun a o hn t e => f.1 a o (fun d g c q => by
  obtain ⟨h1, h2, _, _⟩ := h.wd.dr d g c q
  exact ⟨fun z => hn (.inl (z ▸ h1)), fun z => hn (.inl (z ▸ h2))⟩) t e
theorem Rl.cutLe0 (h : Rl am ρ n σ H) (f : FrR am.R H H') : Le (cut (Hid am ρ σ) H) (cut (Hid am ρ σ) H') := by
  have q := h.cutLe f []
  rw [show dem [] ρ = ρ from dem_nil ρ 0] at q
  exact q
theorem Rl.keepOw (h : Rl am ρ n σ H) (f : FrR am.R H H') {i : Nat} {p : Addr} {vs : List V} (o : OwnAt ρ σ i p) (e : H p = some (.lst vs)) : H' p = some (.lst vs) := f.1 p _ (fun d g c q => by
  obtain ⟨h1, h2, _, _⟩ := h.wd.dr d g c q
  obtain ⟨_, _, h3⟩ := h.ownL o
  exact ⟨fun z => h3 (z ▸ h1), fun z => h3 (z ▸ h2)⟩) (fun ps z => by cases z) e
theorem Rl.step (h : Rl am ρ n σ H) (f : FrR am.R H H') (w : Wd am.R am.TL H' n') : Rl am ρ n' σ H' where
  len := h.len
  fz i u e := by
    obtain ⟨v, q1, q2⟩ := h.fz i u e
    exact ⟨v, q1, q2.le (h.cutLe0 f)⟩
  ow i ds e := by
    obtain ⟨p, vs, q1, q2, q3, q4⟩ := h.ow i ds e
    exact ⟨p, vs, q1, q2, h.keepOw f ⟨⟨ds, e⟩, q1⟩ q3, RpAll.le (h.cutLe0 f) _ _ q4⟩
  nd := h.nd
  od := h.od
  gr := ⟨fun b o h1 h2 e => f.1 b o (fun d g c q => by
    obtain ⟨a1, a2⟩ := h.od d g c q
    exact ⟨fun z => h1 (z ▸ a1), fun z => h1 (z ▸ a2)⟩) h2 (h.gr.1 b o h1 h2 e), fun b z => f.2 b (h.gr.2 b z)⟩
  wd := w
  ex := h.ex
theorem ownDem {S : List Nat} {i : Nat} {p : Addr} (o : OwnAt (dem S ρ) σ i p) : OwnAt ρ σ i p ∧ i ∉ S := by
  obtain ⟨⟨ds, e⟩, e2⟩ := o
  rw [dem_get] at e
  cases q : ρ[i]? with
  | none =>
    rw [q] at e
    cases e
  | some s =>
    rw [q] at e
    have e3 : (if i ∈ S then s.fzd else s) = .ow ds := Option.some.inj e
    by_cases hi : i ∈ S
    · rw [if_pos hi] at e3
      cases s <;> cases e3
    · rw [if_neg hi] at e3
      subst e3
      exact ⟨⟨⟨ds, q⟩, e2⟩, hi⟩
theorem hidDem {S : List Nat} {a : Addr} (z : Hid am (dem S ρ) σ a) : Hid am ρ σ a := by
  rcases z with z | ⟨i, z⟩
  · exact .inl z
  · exact .inr ⟨i, (ownDem z).1⟩
theorem hidDem2 {S S' : List Nat} (hS : ∀ i ∈ S', i ∈ S) {a : Addr} (z : Hid am (dem S ρ) σ a) : Hid am (dem S' ρ) σ a := by
  rcases z with z | ⟨i, z⟩
  · exact .inl z
  · obtain ⟨⟨⟨ds, e⟩, e2⟩, hi⟩ := ownDem z
    refine .inr ⟨i, ⟨ds, ?_⟩, e2⟩
    rw [dem_get, e]
    show some (if i ∈ S' then _ else _) = _
    rw [if_neg fun z => hi (hS i z)]
/-- the slots S are read: their lists are no longer ours -/
theorem Rl.dem (h : Rl am ρ n σ H) (S : List Nat) : Rl am (dem S ρ) n σ H where
  len := by rw [show (V3.dem S ρ).length = ρ.length from dem_len S ρ 0, h.len]
  fz i u e := by
    rw [dem_get] at e
    cases q : ρ[i]? with
    | none =>
      rw [q] at e
      cases e
    | some s =>
      rw [q] at e
      have e3 : (if i ∈ S then s.fzd else s) = .fz u := Option.some.inj e
      by_cases hi : i ∈ S
      · rw [if_pos hi] at e3
        cases s with
        | no => cases e3
        | fz u' =>
          cases e3
          obtain ⟨v, q1, q2⟩ := h.fz i _ q
          exact ⟨v, q1, q2.le (Le.cutSub fun a => hidDem)⟩
        | ow ds =>
          cases e3
          obtain ⟨p, vs, q1, q2, q3, q4⟩ := h.ow i ds q
          refine ⟨.ref p, q1, .lst (cut_some.mpr ⟨fun z => ?_, q3⟩) (RpAll.le (Le.cutSub fun a => hidDem) _ _ q4)⟩
          rcases z with z | ⟨j, z⟩
          · exact q2.2 z
          · obtain ⟨z1, z2⟩ := ownDem z
            rw [h.nd j i p z1 ⟨⟨ds, q⟩, q1⟩] at z2
            exact z2 hi
      · rw [if_neg hi] at e3
        subst e3
        obtain ⟨v, q1, q2⟩ := h.fz i _ q
        exact ⟨v, q1, q2.le (Le.cutSub fun a => hidDem)⟩
  ow i ds e := by
    rw [dem_get] at e
    cases q : ρ[i]? with
    | none =>
      rw [q] at e
      cases e
    | some s =>
      rw [q] at e
      have e3 : (if i ∈ S then s.fzd else s) = .ow ds := Option.some.inj e
      by_cases hi : i ∈ S
      · rw [if_pos hi] at e3
        cases s <;> cases e3
      · rw [if_neg hi] at e3
        subst e3
        obtain ⟨p, vs, q1, q2, q3, q4⟩ := h.ow i ds q
        exact ⟨p, vs, q1, q2, q3, RpAll.le (Le.cutSub fun a => hidDem) _ _ q4⟩
  nd i j p a b := h.nd i j p (ownDem a).1 (ownDem b).1
  od := h.od
  gr := h.gr
  wd := h.wd
  ex := h.ex
theorem set_get {α : Type} {l : List α} {i j : Nat} {x y : α} (h : (l.set i x)[j]? = some y) : (j = i ∧ i < l.length ∧ y = x) ∨ (j ≠ i ∧ l[j]? = some y) := by
  by_cases e : i = j
  · subst e
    by_cases hl : i < l.length
    · rw [List.getElem?_set_self hl] at h
      cases h
      exact .inl ⟨rfl, hl, rfl⟩
    · rw [List.getElem?_eq_none (by simpa using hl)] at h
      cases h
  · rw [List.getElem?_set_ne e] at h
    exact .inr ⟨fun z => e z.symm, h⟩
theorem own_set {s : Sl} {v : Option V} (hs : ∀ ds, s ≠ .ow ds) {i j : Nat} {p : Addr} (o : OwnAt (ρ.set i s) (σ.set i v) j p) : OwnAt ρ σ j p := by
  obtain ⟨⟨ds, e⟩, e2⟩ := o
  rcases set_get e with ⟨_, _, z⟩ | ⟨ne, e⟩
  · exact absurd z.symm (hs ds)
  · rcases set_get e2 with ⟨z, _⟩ | ⟨_, e2⟩
    · exact absurd z ne
    · exact ⟨⟨ds, e⟩, e2⟩
theorem hid_set {s : Sl} {v : Option V} (hs : ∀ ds, s ≠ .ow ds) {i : Nat} {a : Addr} (z : Hid am (ρ.set i s) (σ.set i v) a) : Hid am ρ σ a := by
  rcases z with z | ⟨j, z⟩
  · exact .inl z
  · exact .inr ⟨j, own_set hs z⟩
theorem Rl.setNo (h : Rl am ρ n σ H) (i : Nat) (v : Option V) : Rl am (ρ.set i .no) n (σ.set i v) H where
  len := by rw [List.length_set, List.length_set, h.len]
  fz j u e := by
    rcases set_get e with ⟨_, _, z⟩ | ⟨ne, e⟩
    · cases z
    · obtain ⟨v, q1, q2⟩ := h.fz j u e
      exact ⟨v, by rw [List.getElem?_set_ne (Ne.symm ne)]; exact q1, q2.le (Le.cutSub fun a => hid_set fun ds z => by cases z)⟩
  ow j ds e := by
    rcases set_get e with ⟨_, _, z⟩ | ⟨ne, e⟩
    · cases z
    · obtain ⟨p, vs, q1, q2, q3, q4⟩ := h.ow j ds e
      exact ⟨p, vs, by rw [List.getElem?_set_ne (Ne.symm ne)]; exact q1, q2, q3, RpAll.le (Le.cutSub fun a => hid_set fun ds z => by cases z) _ _ q4⟩
  nd i j p a b := h.nd i j p (own_set (fun ds z => by cases z) a) (own_set (fun ds z => by cases z) b)
  od := h.od
  gr := h.gr
  wd := h.wd
  ex := h.ex
theorem Rl.setFz (h : Rl am ρ n σ H) {v : V} {u : U} (i : Nat) (r : RepU am (Hid am ρ σ) H v u) : Rl am (ρ.set i (.fz u)) n (σ.set i (some v)) H where
  len := by rw [List.length_set, List.length_set, h.len]
  fz j u' e := by
    rcases set_get e with ⟨z1, z2, z⟩ | ⟨ne, e⟩
    · cases z
      subst z1
      exact ⟨v, by rw [List.getElem?_set_self (by rw [← h.len]; exact z2)], r.le (Le.cutSub fun a => hid_set fun ds z => by cases z)⟩
    · obtain ⟨v, q1, q2⟩ := h.fz j u' e
      exact ⟨v, by rw [List.getElem?_set_ne (Ne.symm ne)]; exact q1, q2.le (Le.cutSub fun a => hid_set fun ds z => by cases z)⟩
  ow j ds e := by
    rcases set_get e with ⟨_, _, z⟩ | ⟨ne, e⟩
    · cases z
    · obtain ⟨p, vs, q1, q2, q3, q4⟩ := h.ow j ds e
      exact ⟨p, vs, by rw [List.getElem?_set_ne (Ne.symm ne)]; exact q1, q2, q3, RpAll.le (Le.cutSub fun a => hid_set fun ds z => by cases z) _ _ q4⟩
  nd i j p a b := h.nd i j p (own_set (fun ds z => by cases z) a) (own_set (fun ds z => by cases z) b)
  od := h.od
  gr := h.gr
  wd := h.wd
  ex := h.ex
theorem own_setO {ds : List D} {p : Addr} {i j : Nat} {a : Addr} (o : OwnAt (ρ.set i (.ow ds)) (σ.set i (some (.ref p))) j a) : (j = i ∧ a = p) ∨ (j ≠ i ∧ OwnAt ρ σ j a) := by
  obtain ⟨⟨ds', e⟩, e2⟩ := o
  rcases set_get e with ⟨z1, _, _⟩ | ⟨ne, e⟩
  · rcases set_get e2 with ⟨_, _, z⟩ | ⟨ne, _⟩
    · cases z
      exact .inl ⟨z1, rfl⟩
    · exact absurd z1 ne
  · rcases set_get e2 with ⟨z, _⟩ | ⟨_, e2⟩
    · exact absurd z ne
    · exact .inr ⟨ne, ⟨ds', e⟩, e2⟩
theorem hid_setO {ds : List D} {p : Addr} {i : Nat} {a : Addr} (z : Hid am (ρ.set i (.ow ds)) (σ.set i (some (.ref p))) a) : a = p ∨ Hid am ρ σ a := by
  rcases z with z | ⟨j, z⟩
  · exact .inr (.inl z)
  · rcases own_setO z with ⟨_, z⟩ | ⟨_, z⟩
    · exact .inl z
    · exact .inr (.inr ⟨j, z⟩)
/-- a new list comes into slot i -/
theorem Rl.setOw (h : Rl am ρ n σ H) (f : FrR am.R H H') (w : Wd am.R am.TL H' n') {p : Addr} {vs : List V} {ds : List D} (i : Nat) (hp : New H p) (e : H' p = some (.lst vs)) (r : RpAll am.K (cut (fun a => a = p ∨ Hid am ρ σ a) H') vs ds) :
    Rl am (ρ.set i (.ow ds)) n' (σ.set i (some (.ref p))) H' := by
  have h' := h.step f w
  have L : Le (cut (Hid am ρ σ) H) (cut (Hid am (ρ.set i (.ow ds)) (σ.set i (some (.ref p)))) H') := Le.cut (fun a z => by
    rcases hid_setO z with z | z
    · exact .inr (by rw [z]; exact hp)
    · exact .inl z) fun a o hn t e => f.1 a o (fun d g c q => by
      obtain ⟨h1, h2, _, _⟩ := h.wd.dr d g c q
      exact ⟨fun z => hn (.inl (z ▸ h1)), fun z => hn (.inl (z ▸ h2))⟩) t e
  have pn : ¬ Hid am ρ σ p := h.new hp
  exact {
    len := by rw [List.length_set, List.length_set, h.len]
    fz := fun j u e => by
      rcases set_get e with ⟨_, _, z⟩ | ⟨ne, e⟩
      · cases z
      · obtain ⟨v, q1, q2⟩ := h.fz j u e
        exact ⟨v, by rw [List.getElem?_set_ne (Ne.symm ne)]; exact q1, q2.le L⟩
    ow := fun j ds' e' => by
      rcases set_get e' with ⟨z1, z2, z⟩ | ⟨ne, e'⟩
      · cases z
        subst z1
        refine ⟨p, vs, by rw [List.getElem?_set_self (by rw [← h.len]; exact z2)], h.new0 hp, e, RpAll.le (Le.cutSub fun a => hid_setO) _ _ r⟩
      · obtain ⟨p', vs', q1, q2, q3, q4⟩ := h.ow j ds' e'
        exact ⟨p', vs', by rw [List.getElem?_set_ne (Ne.symm ne)]; exact q1, q2, h.keepOw f ⟨⟨ds', e'⟩, q1⟩ q3, RpAll.le L _ _ q4⟩
    nd := fun i' j a x y => by
      rcases own_setO x with ⟨x1, x2⟩ | ⟨x1, x2⟩
      · rcases own_setO y with ⟨y1, y2⟩ | ⟨y1, y2⟩
        · rw [x1, y1]
        · exact absurd (.inr ⟨j, x2 ▸ y2⟩) pn
      · rcases own_setO y with ⟨y1, y2⟩ | ⟨y1, y2⟩
        · exact absurd (.inr ⟨i', y2 ▸ x2⟩) pn
        · exact h.nd i' j a x2 y2
    od := h.od
    gr := h'.gr
    wd := w
    ex := h.ex }
theorem own_setS {ds ds' : List D} {i j : Nat} {a : Addr} (hi : ρ[i]? = some (Sl.ow ds)) (o : OwnAt (ρ.set i (.ow ds')) σ j a) : OwnAt ρ σ j a := by
  obtain ⟨⟨ds2, e⟩, e2⟩ := o
  rcases set_get e with ⟨z1, _, _⟩ | ⟨ne, e⟩
  · subst z1
    exact ⟨⟨ds, hi⟩, e2⟩
  · exact ⟨⟨ds2, e⟩, e2⟩
/-- the list of slot i is written -/
theorem Rl.write (h : Rl am ρ n σ H) {i : Nat} {ds ds' : List D} {p : Addr} {vs' : List V} (hi : ρ[i]? = some (Sl.ow ds)) (hp : σ[i]? = some (some (V.ref p))) (r : RpAll am.K (cut (Hid am ρ σ) H) vs' ds') :
    Rl am (ρ.set i (.ow ds')) n σ (upd H p (.lst vs')) := by
  have own : OwnAt ρ σ i p := ⟨⟨ds, hi⟩, hp⟩
  obtain ⟨n0, ⟨xs, e0⟩, nh⟩ := h.ownL own
  have L : Le (cut (Hid am ρ σ) H) (cut (Hid am (ρ.set i (.ow ds')) σ) (upd H p (.lst vs'))) := Le.cut (fun a z => .inl (by
    rcases z with z | ⟨j, z⟩
    · exact .inl z
    · exact .inr ⟨j, own_setS hi z⟩)) fun a o hn t e => by
      have ne : a ≠ p := fun z => hn (.inr ⟨i, by rw [z]; exact own⟩)
      rw [upd_ne ne]
      exact e
  exact {
    len := by rw [List.length_set, h.len]
    fz := fun j u e => by
      rcases set_get e with ⟨_, _, z⟩ | ⟨ne, e⟩
      · cases z
      · obtain ⟨v, q1, q2⟩ := h.fz j u e
        exact ⟨v, q1, q2.le L⟩
    ow := fun j ds2 e => by
      rcases set_get e with ⟨z1, z2, z⟩ | ⟨ne, e⟩
      · cases z
        subst z1
        exact ⟨p, vs', hp, ⟨n0, nh⟩, upd_same, RpAll.le L _ _ r⟩
      · obtain ⟨p', vs2, q1, q2, q3, q4⟩ := h.ow j ds2 e
        have np : p' ≠ p := fun z => ne (h.nd j i p' ⟨⟨ds2, e⟩, q1⟩ (z ▸ own))
        exact ⟨p', vs2, q1, q2, by rw [upd_ne np]; exact q3, RpAll.le L _ _ q4⟩
    nd := fun i' j a x y => h.nd i' j a (own_setS hi x) (own_setS hi y)
    od := h.od
    gr := ⟨fun b o h1 h2 e => by
      have ne : b ≠ p := fun z => by
        rcases n0 with n0 | n0
        · exact n0 ⟨o, z ▸ e, h2⟩
        · exact h1 (z ▸ n0)
      rw [upd_ne ne]
      exact h.gr.1 b o h1 h2 e, fun b z => by
      by_cases hb : b = p
      · rw [hb]
        exact .lst upd_same
      · obtain ⟨o, q1, q2⟩ := h.gr.2 b z
        exact ⟨o, by rw [upd_ne hb]; exact q1, q2⟩⟩
    wd := h.wd.own nh e0
    ex := h.ex }
end
end V3
set_option Elab.async false
set_option linter.all false
set_option maxRecDepth 100000
set_option maxHeartbeats 4000000
namespace V3
open PySem PySem.Spec PyProof.Rows L2
/-! ### judgements: a reading t of the hand layer, and m, what it asks of values alone -/
theorem same_new {H : Hp} {p : Addr} {o : HO} (h : H p = none) : Same H (upd H p o) := fun b x e => by
  rw [upd_ne (ne_of_none e h)]
  exact e
abbrev TE3 := Ro → Nat → (Bool → U → Nat → Prop) → (Addr → Prop) → Prop
abbrev TT3 := Ro → Nat → (Bool → Nat → Prop) → (Addr → Prop) → Prop
abbrev TA3 := Ro → Nat → (List U → Nat → Prop) → (Addr → Prop) → Prop
abbrev TO3 := Ro → Nat → (Option Int → Nat → Prop) → (Addr → Prop) → Prop
abbrev RepA (am : Am) (O : Addr → Prop) (H : Hp) (vs : List V) (us : List U) : Prop := Paired (RepU am O H) vs us
theorem RepA.le {am : Am} {O O' : Addr → Prop} {H H' : Hp} (e : Le (cut O H) (cut O' H')) : ∀ {vs : List V} {us : List U}, RepA am O H vs us → RepA am O' H' vs us
  | _, _, .nil => .nil
  | _, _, .cons h t => .cons (h.le e) (RepA.le e t)
/-- v is u; fr: a new list -/
def RepV (am : Am) (O : Addr → Prop) (H H' : Hp) (fr : Bool) (v : V) (u : U) : Prop :=
  RepU am O H' v u ∧ (fr = true → ∃ p vs ds, v = .ref p ∧ u = .d (.list ds) ∧ New H p ∧ H' p = some (.lst vs) ∧ RpAll am.K (cut (fun a => a = p ∨ O a) H') vs ds)
theorem RepV.old {am : Am} {O : Addr → Prop} {H H' : Hp} {v : V} {u : U} (h : RepU am O H' v u) : RepV am O H H' false v u := ⟨h, fun z => by cases z⟩
/-- an expression; S: the slots whose lists may be what it gives -/
class LE (K : PySem.W.Frag) (C : Addr) (TL : List (Addr × Str)) (E : XK) (t : TE) (S : outParam (List Nat)) (m : outParam TE3) : Prop where
  s : ∀ (am : Am) (ρ : Ro) (n : Nat) (σ : L2.St) (H : Hp), am.K = K ∧ am.TL = TL ∧ am.E = E ∧ am.C = C → Rl am ρ n σ H → ∀ (Q : VK) (q : Bool → U → Nat → Prop), m ρ n q am.e →
    (∀ fr u n' v H', q fr u n' → FrR am.R H H' → Wd am.R am.TL H' n' → RepV am (Hid am (dem S ρ) σ) H H' fr v u → Q v H') → t σ H Q
class LT (K : PySem.W.Frag) (C : Addr) (TL : List (Addr × Str)) (E : XK) (t : TT) (m : outParam TT3) : Prop where
  s : ∀ (am : Am) (ρ : Ro) (n : Nat) (σ : L2.St) (H : Hp), am.K = K ∧ am.TL = TL ∧ am.E = E ∧ am.C = C → Rl am ρ n σ H → ∀ (Q : Bool → Hp → Prop) (q : Bool → Nat → Prop), m ρ n q am.e →
    (∀ b n' H', q b n' → FrR am.R H H' → Wd am.R am.TL H' n' → Q b H') → t σ H Q
class LA (K : PySem.W.Frag) (C : Addr) (TL : List (Addr × Str)) (E : XK) (t : TA) (S : outParam (List Nat)) (m : outParam TA3) : Prop where
  s : ∀ (am : Am) (ρ : Ro) (n : Nat) (σ : L2.St) (H : Hp), am.K = K ∧ am.TL = TL ∧ am.E = E ∧ am.C = C → Rl am ρ n σ H → ∀ (Q : List V → Hp → Prop) (q : List U → Nat → Prop), m ρ n q am.e →
    (∀ us n' vs H', q us n' → FrR am.R H H' → Wd am.R am.TL H' n' → RepA am (Hid am (dem S ρ) σ) H' vs us → Q vs H') → t σ H Q
class LO (K : PySem.W.Frag) (C : Addr) (TL : List (Addr × Str)) (E : XK) (t : TO) (m : outParam TO3) : Prop where
  s : ∀ (am : Am) (ρ : Ro) (n : Nat) (σ : L2.St) (H : Hp), am.K = K ∧ am.TL = TL ∧ am.E = E ∧ am.C = C → Rl am ρ n σ H → ∀ (Q : Option Int → Hp → Prop) (q : Option Int → Nat → Prop), m ρ n q am.e →
    (∀ b n' H', q b n' → FrR am.R H H' → Wd am.R am.TL H' n' → Q b H') → t σ H Q
theorem le_fr {am : Am} {ρ : Ro} {n : Nat} {σ : L2.St} {H H' : Hp} (h : Rl am ρ n σ H) {O : Addr → Prop} (hO : ∀ a, Hid am (dem [] ρ) σ a → O a) (f : FrR am.R H H') : Le (cut O H) (cut O H') := Le.cut (fun a z => .inl z) fun a o hn t e => f.1 a o (fun d g c q => by
  obtain ⟨h1, h2, _, _⟩ := h.wd.dr d g c q
  exact ⟨fun z => hn (hO _ (.inl (z ▸ h1))), fun z => hn (hO _ (.inl (z ▸ h2)))⟩) t e
theorem rl_cutS {am : Am} {ρ : Ro} {n : Nat} {σ : L2.St} {H H' : Hp} (h : Rl am ρ n σ H) (f : FrR am.R H H') {S S' : List Nat} (hS : ∀ i ∈ S, i ∈ S') : Le (cut (Hid am (dem S ρ) σ) H) (cut (Hid am (dem S' ρ) σ) H') :=
  (h.cutLe f S).trans (Le.cutSub fun a => hidDem2 hS)
section
variable {K : PySem.W.Frag} {C : Addr} {TL : List (Addr × Str)} {E : XK}
/-! ### names, constants -/
@[simp] def Sl.rd : Sl → Option U
  | .no => none
  | .fz u => some u
  | .ow ds => some (.d (.list ds))
@[simp] def rdAt : Ro → Nat → Option U
  | [], _ => none
  | s :: _, 0 => s.rd
  | _ :: ρ, i + 1 => rdAt ρ i
theorem rdAt_eq : ∀ (ρ : Ro) (i : Nat), rdAt ρ i = (ρ[i]?).bind Sl.rd
  | [], i => by simp
  | s :: ρ, 0 => by simp
  | s :: ρ, i + 1 => by
    show rdAt ρ i = _
    rw [rdAt_eq ρ i]
    simp
def ask {α : Type} (o : Option α) (k : α → Prop) : Prop := match o with
  | some x => k x
  | none => False
@[simp] theorem ask_s {α : Type} (x : α) (k : α → Prop) : ask (some x) k = k x := rfl
@[simp] theorem ask_n {α : Type} (k : α → Prop) : ask none k = False := rfl
theorem ask_some {α : Type} {o : Option α} {k : α → Prop} (h : ask o k) : ∃ x, o = some x ∧ k x := by
  cases o with
  | none => exact h.elim
  | some x => exact ⟨x, rfl, h⟩
@[simp ↓] theorem ask_rd (ρ : Ro) (i : Nat) (k : U → Prop) : ask (rdAt ρ i) k = if (rdAt ρ i).isSome = true then k ((rdAt ρ i).getD .dr) else False := by
  cases rdAt ρ i <;> simp
@[simp ↓] def mVar (i : Nat) : TE3 := fun ρ n q _ => ask (rdAt ρ i) fun u => q false u n
theorem slot_rd {am : Am} {ρ : Ro} {n : Nat} {σ : L2.St} {H : Hp} (h : Rl am ρ n σ H) {i : Nat} {u : U} (e : rdAt ρ i = some u) : ∃ v, σ[i]? = some (some v) ∧ RepU am (Hid am (dem [i] ρ) σ) H v u := by
  rw [rdAt_eq] at e
  have hd := h.dem [i]
  cases q : ρ[i]? with
  | none =>
    rw [q] at e
    cases e
  | some s =>
    have e2 : s.rd = some u := by
      rw [q] at e
      exact e
    have e3 : (dem [i] ρ)[i]? = some (Sl.fz u) := by
      rw [dem_get, q]
      show some (if i ∈ [i] then s.fzd else s) = _
      rw [if_pos (List.mem_singleton.mpr rfl)]
      cases s with
      | no => cases e2
      | fz u' =>
        cases e2
        rfl
      | ow ds =>
        cases e2
        rfl
    exact hd.fz i u e3
instance (i : Nat) : LE K C TL E (tVar i) [i] (mVar i) where
  s am ρ n σ H _ h Q q hm k := by
    unfold mVar ask at hm
    cases e : rdAt ρ i with
    | none =>
      rw [e] at hm
      exact hm.elim
    | some u =>
      rw [e] at hm
      obtain ⟨v, h1, h2⟩ := slot_rd h e
      exact ⟨v, h1, k false u n v H hm (FrR.refl _ _) h.wd (.old h2)⟩
@[simp ↓] def mC (u : U) : TE3 := fun _ n q _ => q false u n
instance (i : Int) : LE K C TL E (tC (.int i)) [] (mC (.d (.int i))) where
  s am ρ n σ H _ h Q q hm k := k _ _ n _ H hm (FrR.refl _ _) h.wd (.old (Rp.int i))
instance (i : Bool) : LE K C TL E (tC (.bl i)) [] (mC (.d (.bool i))) where
  s am ρ n σ H _ h Q q hm k := k _ _ n _ H hm (FrR.refl _ _) h.wd (.old (Rp.bl i))
instance : LE K C TL E (tC .non) [] (mC (.d .none)) where
  s am ρ n σ H _ h Q q hm k := k _ _ n _ H hm (FrR.refl _ _) h.wd (.old Rp.non)
instance (x : Str) : LE K C TL E (tC (.str x)) [] (mC (.d (.str x))) where
  s am ρ n σ H _ h Q q hm k := k _ _ n _ H hm (FrR.refl _ _) h.wd (.old (Rp.str x))
/-! ### arguments -/
@[simp ↓] def mNil : TA3 := fun _ n q _ => q [] n
@[simp ↓] def mCons (me : TE3) (ma : TA3) : TA3 := fun ρ n q e => me ρ n (fun _ u n1 => ma ρ n1 (fun us n2 => q (u :: us) n2) e) e
instance : LA K C TL E tNil [] mNil where
  s am ρ n σ H _ h Q q hm k := k _ n _ H hm (FrR.refl _ _) h.wd .nil
instance {te : TE} {ta : TA} {S1 S2 : List Nat} {me : TE3} {ma : TA3} [he : LE K C TL E te S1 me] [ha : LA K C TL E ta S2 ma] : LA K C TL E (tCons te ta) (S1 ++ S2) (mCons me ma) where
  s am ρ n σ H hE h Q q hm k := by
    refine he.s am ρ n σ H hE h _ _ hm fun fr u n1 v H1 hq f1 w1 r1 => ?_
    have h1 := h.step f1 w1
    refine ha.s am ρ n1 σ H1 hE h1 _ _ hq fun us n2 vs H2 hq2 f2 w2 r2 => ?_
    refine k _ n2 _ H2 hq2 (f1.trans f2) w2 (.cons (r1.1.le (rl_cutS h1 f2 fun i hi => List.mem_append_left _ hi)) (r2.le (rl_cutS (h1.step f2 w2) (FrR.refl _ _) fun i hi => List.mem_append_right _ hi)))
/-- a list of data -/
@[simp] def toDs : List U → Option (List D)
  | [] => some []
  | .d x :: us => (toDs us).map (x :: ·)
  | _ :: _ => none
theorem toDs_rep {am : Am} {O : Addr → Prop} {H : Hp} : ∀ {vs : List V} {us : List U} {ds : List D}, RepA am O H vs us → toDs us = some ds → RpAll am.K (cut O H) vs ds
  | _, _, _, .nil, e => by
    cases e
    exact .nil
  | v :: vs, u :: us, ds, .cons r t, e => by
    cases u with
    | d x =>
      have e2 : (toDs us).map (x :: ·) = some ds := e
      cases q : toDs us with
      | none =>
        rw [q] at e2
        cases e2
      | some ds' =>
        rw [q] at e2
        cases e2
        exact .cons r (toDs_rep t q)
    | dw bs => cases e
    | tb f ns => cases e
    | dr => cases e
    | ob fs => cases e
/-! ### a new object -/
theorem fresh_step {am : Am} {ρ : Ro} {n : Nat} {σ : L2.St} {H : Hp} (h : Rl am ρ n σ H) {p : Addr} (hp : H p = none) (o : HO) : FrR am.R H (upd H p o) ∧ Wd am.R am.TL (upd H p o) n :=
  ⟨.of (same_new hp), h.wd.same (same_new hp)⟩
theorem cut_new {am : Am} {ρ : Ro} {n : Nat} {σ : L2.St} {H : Hp} (h : Rl am ρ n σ H) (S : List Nat) {p : Addr} (hp : H p = none) (o : HO) : cut (Hid am (dem S ρ) σ) (upd H p o) p = some o :=
  cut_some.mpr ⟨fun z => (h.dem S).new (.of hp) z, upd_same⟩
theorem cut_grow {O : Addr → Prop} {H : Hp} {p : Addr} (hp : H p = none) (o : HO) : Le (cut O H) (cut O (upd H p o)) := Le.cut (fun a z => .inl z) fun a o' _ _ e => same_new hp a o' e
@[simp ↓] def mTup (ma : TA3) : TE3 := fun ρ n q e => ma ρ n (fun us n1 => ask (toDs us) fun ds => if ds.length ≤ 1000 then q false (.d (.tuple ds)) n1 else False) e
theorem le1000 {k : Nat} (h : k ≤ 1000) : k ≤ sizeLine := Nat.le_trans h (by decide)
instance {ta : TA} {S : List Nat} {ma : TA3} [ha : LA K C TL E ta S ma] : LE K C TL E (tTup ta) S (mTup ma) where
  s am ρ n σ H hE h Q q hm k := by
    refine ha.s am ρ n σ H hE h _ _ hm fun us n1 vs H1 hq f1 w1 r1 => ?_
    have h1 := h.step f1 w1
    unfold ask at hq
    cases e : toDs us with
    | none =>
      rw [e] at hq
      exact hq.elim
    | some ds =>
      rw [e] at hq
      have rd := toDs_rep r1 e
      have hl : ds.length ≤ 1000 := by
        by_cases z : ds.length ≤ 1000
        · exact z
        · have hq2 : (if ds.length ≤ 1000 then q false (.d (.tuple ds)) n1 else False) := hq
          rw [if_neg z] at hq2
          exact hq2.elim
      have hq2 : (if ds.length ≤ 1000 then q false (.d (.tuple ds)) n1 else False) := hq
      rw [if_pos hl] at hq2
      refine ⟨by rw [RpAll.len rd]; exact le1000 hl, fun p hp => ?_⟩
      obtain ⟨f2, w2⟩ := fresh_step h1 hp (.tup vs)
      exact k _ _ n1 _ _ hq2 (f1.trans f2) w2 (.old (Rp.tup (.inl (.inl (cut_new h1 S hp _))) (RpAll.le (cut_grow hp _) _ _ rd)))
@[simp ↓] def mLst (ma : TA3) : TE3 := fun ρ n q e => ma ρ n (fun us n1 => ask (toDs us) fun ds => if ds.length ≤ 1000 then q true (.d (.list ds)) n1 else False) e
theorem cut_own {am : Am} {ρ : Ro} {n : Nat} {σ : L2.St} {H : Hp} (h : Rl am ρ n σ H) (S : List Nat) {p : Addr} (hp : New H p) {vs : List V} {ds : List D} (r : RpAll am.K (cut (Hid am (dem S ρ) σ) H) vs ds) : RpAll am.K (cut (fun a => a = p ∨ Hid am (dem S ρ) σ a) H) vs ds :=
  RpAll.le (Le.cut (fun a z => by
    rcases z with z | z
    · exact .inr (z ▸ hp)
    · exact .inl z) fun a o _ _ e => e) _ _ r
instance {ta : TA} {S : List Nat} {ma : TA3} [ha : LA K C TL E ta S ma] : LE K C TL E (tLst ta) S (mLst ma) where
  s am ρ n σ H hE h Q q hm k := by
    refine ha.s am ρ n σ H hE h _ _ hm fun us n1 vs H1 hq f1 w1 r1 => ?_
    have h1 := h.step f1 w1
    unfold ask at hq
    cases e : toDs us with
    | none =>
      rw [e] at hq
      exact hq.elim
    | some ds =>
      rw [e] at hq
      have rd := toDs_rep r1 e
      have hl : ds.length ≤ 1000 := by
        by_cases z : ds.length ≤ 1000
        · exact z
        · have hq2 : (if ds.length ≤ 1000 then q true (.d (.list ds)) n1 else False) := hq
          rw [if_neg z] at hq2
          exact hq2.elim
      have hq2 : (if ds.length ≤ 1000 then q true (.d (.list ds)) n1 else False) := hq
      rw [if_pos hl] at hq2
      refine ⟨by rw [RpAll.len rd]; exact le1000 hl, fun p hp => ?_⟩
      obtain ⟨f2, w2⟩ := fresh_step h1 hp (.lst vs)
      have np : New H p := fun ⟨o, e1, e2⟩ => by
        by_cases hid : Hid am ρ σ p
        · exact absurd hid (h1.new (.of hp))
        · exact (New.of hp) ⟨o, f1.1 p o (fun d g c q' => by
            obtain ⟨a1, a2, _, _⟩ := h.wd.dr d g c q'
            exact ⟨fun z => hid (.inl (z ▸ a1)), fun z => hid (.inl (z ▸ a2))⟩) e2 e1, e2⟩
      exact k _ _ n1 _ _ hq2 (f1.trans f2) w2 ⟨Rp.lst (cut_new h1 S hp _) (RpAll.le (cut_grow hp _) _ _ rd), fun _ => ⟨p, vs, ds, rfl, rfl, np, upd_same, RpAll.le (cut_grow hp _) _ _ (cut_own h1 S (.of hp) rd)⟩⟩
end
end V3
set_option Elab.async false
set_option linter.all false
set_option maxRecDepth 100000
set_option maxHeartbeats 4000000
namespace V3
open PySem PySem.Spec PyProof.Rows L2
section
variable {K : PySem.W.Frag} {C : Addr} {TL : List (Addr × Str)} {E : XK}
theorem new_back {am : Am} {ρ : Ro} {n n1 : Nat} {σ : L2.St} {H H1 : Hp} (h : Rl am ρ n σ H) (f : FrR am.R H H1) (h1 : Rl am ρ n1 σ H1) {p : Addr} (np : New H1 p) : New H p := fun ⟨o, e1, e2⟩ => by
  have hid : ¬ Hid am ρ σ p := h1.new np
  exact np ⟨o, f.1 p o (fun d g c q' => by
    obtain ⟨a1, a2, _, _⟩ := h.wd.dr d g c q'
    exact ⟨fun z => hid (.inl (z ▸ a1)), fun z => hid (.inl (z ▸ a2))⟩) e2 e1, e2⟩
theorem RepV.back {am : Am} {ρ : Ro} {n n1 : Nat} {σ : L2.St} {H H1 H2 : Hp} (h : Rl am ρ n σ H) (f : FrR am.R H H1) (h1 : Rl am ρ n1 σ H1) {O : Addr → Prop} {fr : Bool} {v : V} {u : U} (r : RepV am O H1 H2 fr v u) : RepV am O H H2 fr v u :=
  ⟨r.1, fun z => by
    obtain ⟨p, vs, ds, a1, a2, a3, a4, a5⟩ := r.2 z
    exact ⟨p, vs, ds, a1, a2, new_back h f h1 a3, a4, a5⟩⟩
theorem RepV.sub {am : Am} {O O' : Addr → Prop} {H H' : Hp} {fr : Bool} {v : V} {u : U} (k : ∀ a, O' a → O a) (r : RepV am O H H' fr v u) : RepV am O' H H' fr v u :=
  ⟨r.1.le (Le.cutSub k), fun z => by
    obtain ⟨p, vs, ds, a1, a2, a3, a4, a5⟩ := r.2 z
    exact ⟨p, vs, ds, a1, a2, a3, a4, RpAll.le (Le.cutSub fun a q => q.imp id (k a)) _ _ a5⟩⟩
/-! ### operators by values -/
class LR (K : PySem.W.Frag) (r : R2) (m : outParam (U → U → (Bool → D → Prop) → Prop)) : Prop where
  s : ∀ (am : Am) (O : Addr → Prop) (H : Hp) (x y : V) (ux uy : U), am.K = K → (∀ a, O a → There H a) → RepU am O H x ux → RepU am O H y uy → ∀ (Q : VK) (q : Bool → D → Prop), m ux uy q →
    (∀ fr z v H', q fr z → Same H H' → RepV am O H H' fr v (.d z) → Q v H') → r x y H Q
class LU (K : PySem.W.Frag) (r : V → Hp → VK → Prop) (m : outParam (U → (Bool → D → Prop) → Prop)) : Prop where
  s : ∀ (am : Am) (O : Addr → Prop) (H : Hp) (x : V) (ux : U), am.K = K → (∀ a, O a → There H a) → RepU am O H x ux → ∀ (Q : VK) (q : Bool → D → Prop), m ux q →
    (∀ fr z v H', q fr z → Same H H' → RepV am O H H' fr v (.d z) → Q v H') → r x H Q
/-- a built-in called -/
class LC (K : PySem.W.Frag) (r : List V → Hp → VK → Prop) (m : outParam (List U → (Bool → D → Prop) → Prop)) : Prop where
  s : ∀ (am : Am) (O : Addr → Prop) (H : Hp) (xs : List V) (us : List U), am.K = K → (∀ a, O a → There H a) → RepA am O H xs us → ∀ (Q : VK) (q : Bool → D → Prop), m us q →
    (∀ fr z v H', q fr z → Same H H' → RepV am O H H' fr v (.d z) → Q v H') → r xs H Q
@[simp ↓] def mOp (mr : U → U → (Bool → D → Prop) → Prop) (ma mb : TE3) : TE3 := fun ρ n q e => ma ρ n (fun _ x n1 => mb ρ n1 (fun _ y n2 => mr x y fun fr z => q fr (.d z) n2) e) e
theorem hid_there {am : Am} {ρ : Ro} {n : Nat} {σ : L2.St} {H : Hp} (h : Rl am ρ n σ H) (S : List Nat) : ∀ a, Hid am (dem S ρ) σ a → There H a := fun a z => (h.dem S).hidThere z
theorem wd_same {R : RR} {TL : List (Addr × Str)} {H H' : Hp} {n : Nat} (h : Wd R TL H n) (e : Same H H') : Wd R TL H' n := h.same e
instance {r : R2} {ta tb : TE} {S1 S2 : List Nat} {ma mb : TE3} {mr : U → U → (Bool → D → Prop) → Prop} [ha : LE K C TL E ta S1 ma] [hb : LE K C TL E tb S2 mb] [hr : LR K r mr] : LE K C TL E (tOp r ta tb) (S1 ++ S2) (mOp mr ma mb) where
  s am ρ n σ H hE h Q q hm k := by
    refine ha.s am ρ n σ H hE h _ _ hm fun fr x n1 v H1 hq f1 w1 r1 => ?_
    have h1 := h.step f1 w1
    refine hb.s am ρ n1 σ H1 hE h1 _ _ hq fun fr2 y n2 v2 H2 hq2 f2 w2 r2 => ?_
    have h2 := h1.step f2 w2
    refine hr.s am (Hid am (dem (S1 ++ S2) ρ) σ) H2 v v2 x y hE.1 (hid_there h2 _) (r1.1.le (rl_cutS h1 f2 fun i hi => List.mem_append_left _ hi)) (r2.1.le (rl_cutS h2 (FrR.refl _ _) fun i hi => List.mem_append_right _ hi)) _ _ hq2 fun fr3 z v3 H3 hq3 sm r3 => ?_
    exact k _ _ n2 _ _ hq3 ((f1.trans f2).trans (.of sm)) (w2.same sm) (r3.back h (f1.trans f2) h2)
@[simp ↓] def mUn (mr : U → (Bool → D → Prop) → Prop) (ma : TE3) : TE3 := fun ρ n q e => ma ρ n (fun _ x n1 => mr x fun fr z => q fr (.d z) n1) e
instance {r : V → Hp → VK → Prop} {ta : TE} {S1 : List Nat} {ma : TE3} {mr : U → (Bool → D → Prop) → Prop} [ha : LE K C TL E ta S1 ma] [hr : LU K r mr] : LE K C TL E (tUn r ta) S1 (mUn mr ma) where
  s am ρ n σ H hE h Q q hm k := by
    refine ha.s am ρ n σ H hE h _ _ hm fun fr x n1 v H1 hq f1 w1 r1 => ?_
    have h1 := h.step f1 w1
    refine hr.s am (Hid am (dem S1 ρ) σ) H1 v x hE.1 (hid_there h1 _) r1.1 _ _ hq fun fr3 z v3 H3 hq3 sm r3 => ?_
    exact k _ _ n1 _ _ hq3 (f1.trans (.of sm)) (w1.same sm) (r3.back h f1 h1)
@[simp ↓] def mCB (mr : List U → (Bool → D → Prop) → Prop) (ma : TA3) : TE3 := fun ρ n q e => ma ρ n (fun us n1 => mr us fun fr z => q fr (.d z) n1) e
instance {r : List V → Hp → VK → Prop} {ta : TA} {S1 : List Nat} {ma : TA3} {mr : List U → (Bool → D → Prop) → Prop} [ha : LA K C TL E ta S1 ma] [hr : LC K r mr] : LE K C TL E (tCB r ta) S1 (mCB mr ma) where
  s am ρ n σ H hE h Q q hm k := by
    refine ha.s am ρ n σ H hE h _ _ hm fun us n1 vs H1 hq f1 w1 r1 => ?_
    have h1 := h.step f1 w1
    refine hr.s am (Hid am (dem S1 ρ) σ) H1 vs us hE.1 (hid_there h1 _) r1 _ _ hq fun fr3 z v3 H3 hq3 sm r3 => ?_
    exact k _ _ n1 _ _ hq3 (f1.trans (.of sm)) (w1.same sm) (r3.back h f1 h1)
def askI : U → (Int → Prop) → Prop
  | .d (.int i), k => k i
  | _, _ => False
def askB : U → (Bool → Prop) → Prop
  | .d (.bool i), k => k i
  | _, _ => False
def askL : U → (List D → Prop) → Prop
  | .d (.list i), k => k i
  | _, _ => False
def askT : U → (List D → Prop) → Prop
  | .d (.tuple i), k => k i
  | _, _ => False
@[simp] theorem askI_s (i : Int) (k : Int → Prop) : askI (.d (.int i)) k = k i := rfl
@[simp] theorem askB_s (i : Bool) (k : Bool → Prop) : askB (.d (.bool i)) k = k i := rfl
@[simp] theorem askL_s (i : List D) (k : List D → Prop) : askL (.d (.list i)) k = k i := rfl
@[simp] theorem askT_s (i : List D) (k : List D → Prop) : askT (.d (.tuple i)) k = k i := rfl
def isIU : U → Bool
  | .d (.int _) => true
  | _ => false
def intU : U → Int
  | .d (.int i) => i
  | _ => 0
def isBU : U → Bool
  | .d (.bool _) => true
  | _ => false
def boolU : U → Bool
  | .d (.bool i) => i
  | _ => false
def isLU : U → Bool
  | .d (.list _) => true
  | _ => false
def lstU : U → List D
  | .d (.list i) => i
  | _ => []
def isTU : U → Bool
  | .d (.tuple _) => true
  | _ => false
def tupU : U → List D
  | .d (.tuple i) => i
  | _ => []
@[simp] theorem isIU_s (i : Int) : isIU (.d (.int i)) = true := rfl
@[simp] theorem intU_s (i : Int) : intU (.d (.int i)) = i := rfl
@[simp ↓] theorem askI_if (u : U) (k : Int → Prop) : askI u k = ∃ i, u = .d (.int i) ∧ k i := by
  cases u with
  | d x => cases x <;> simp [askI]
  | _ => simp [askI]
@[simp] theorem isBU_s (i : Bool) : isBU (.d (.bool i)) = true := rfl
@[simp] theorem boolU_s (i : Bool) : boolU (.d (.bool i)) = i := rfl
@[simp ↓] theorem askB_if (u : U) (k : Bool → Prop) : askB u k = if isBU u = true then k (boolU u) else False := by
  cases u with
  | d x => cases x <;> simp [askB, isBU, boolU]
  | _ => simp [askB, isBU]
@[simp] theorem isLU_s (i : List D) : isLU (.d (.list i)) = true := rfl
@[simp] theorem lstU_s (i : List D) : lstU (.d (.list i)) = i := rfl
@[simp ↓] theorem askL_if (u : U) (k : List D → Prop) : askL u k = ∃ i, u = .d (.list i) ∧ k i := by
  cases u with
  | d x => cases x <;> simp [askL]
  | _ => simp [askL]
@[simp] theorem isTU_s (i : List D) : isTU (.d (.tuple i)) = true := rfl
@[simp] theorem tupU_s (i : List D) : tupU (.d (.tuple i)) = i := rfl
@[simp ↓] theorem askT_if (u : U) (k : List D → Prop) : askT u k = ∃ i, u = .d (.tuple i) ∧ k i := by
  cases u with
  | d x => cases x <;> simp [askT]
  | _ => simp [askT]
@[simp] theorem isIU_bool (i : Bool) : isIU (.d (.bool i)) = false := rfl
@[simp] theorem isIU_list (i : List D) : isIU (.d (.list i)) = false := rfl
@[simp] theorem isIU_tuple (i : List D) : isIU (.d (.tuple i)) = false := rfl
@[simp] theorem isIU_str (i : Str) : isIU (.d (.str i)) = false := rfl
@[simp] theorem isIU_none : isIU (.d .none) = false := rfl
@[simp] theorem isBU_int (i : Int) : isBU (.d (.int i)) = false := rfl
@[simp] theorem isBU_list (i : List D) : isBU (.d (.list i)) = false := rfl
@[simp] theorem isBU_tuple (i : List D) : isBU (.d (.tuple i)) = false := rfl
@[simp] theorem isBU_str (i : Str) : isBU (.d (.str i)) = false := rfl
@[simp] theorem isBU_none : isBU (.d .none) = false := rfl
@[simp] theorem isLU_int (i : Int) : isLU (.d (.int i)) = false := rfl
@[simp] theorem isLU_bool (i : Bool) : isLU (.d (.bool i)) = false := rfl
@[simp] theorem isLU_tuple (i : List D) : isLU (.d (.tuple i)) = false := rfl
@[simp] theorem isLU_str (i : Str) : isLU (.d (.str i)) = false := rfl
@[simp] theorem isLU_none : isLU (.d .none) = false := rfl
@[simp] theorem isTU_int (i : Int) : isTU (.d (.int i)) = false := rfl
@[simp] theorem isTU_bool (i : Bool) : isTU (.d (.bool i)) = false := rfl
@[simp] theorem isTU_list (i : List D) : isTU (.d (.list i)) = false := rfl
@[simp] theorem isTU_str (i : Str) : isTU (.d (.str i)) = false := rfl
@[simp] theorem isTU_none : isTU (.d .none) = false := rfl
theorem askI_rep {am : Am} {O : Addr → Prop} {H : Hp} {v : V} {u : U} {k : Int → Prop} (h : askI u k) (r : RepU am O H v u) : ∃ i, u = .d (.int i) ∧ v = .int i ∧ k i := by
  cases u with
  | d x =>
    cases x with
    | int i =>
      cases r
      exact ⟨i, rfl, rfl, h⟩
    | _ => exact h.elim
  | _ => exact h.elim
theorem askB_rep {am : Am} {O : Addr → Prop} {H : Hp} {v : V} {u : U} {k : Bool → Prop} (h : askB u k) (r : RepU am O H v u) : ∃ i, u = .d (.bool i) ∧ v = .bl i ∧ k i := by
  cases u with
  | d x =>
    cases x with
    | bool i =>
      cases r
      exact ⟨i, rfl, rfl, h⟩
    | _ => exact h.elim
  | _ => exact h.elim
theorem askL_rep {am : Am} {O : Addr → Prop} {H : Hp} {v : V} {u : U} {k : List D → Prop} (h : askL u k) (r : RepU am O H v u) : ∃ ds a vs, u = .d (.list ds) ∧ v = .ref a ∧ cut O H a = some (.lst vs) ∧ RpAll am.K (cut O H) vs ds ∧ k ds := by
  cases u with
  | d x =>
    cases x with
    | list i =>
      cases r with
      | lst h1 h2 => exact ⟨i, _, _, rfl, rfl, h1, h2, h⟩
    | _ => exact h.elim
  | _ => exact h.elim
theorem askT_rep {am : Am} {O : Addr → Prop} {H : Hp} {v : V} {u : U} {k : List D → Prop} (h : askT u k) (r : RepU am O H v u) : ∃ ds a vs, u = .d (.tuple ds) ∧ v = .ref a ∧ SqT am.K (cut O H) a vs ∧ RpAll am.K (cut O H) vs ds ∧ k ds := by
  cases u with
  | d x =>
    cases x with
    | tuple i =>
      cases r with
      | tup h1 h2 => exact ⟨i, _, _, rfl, rfl, h1, h2, h⟩
    | _ => exact h.elim
  | _ => exact h.elim
@[simp ↓] def mII (f : Int → Int → Int) : U → U → (Bool → D → Prop) → Prop := fun x y q => askI x fun i => askI y fun j => q false (.int (f i j))
@[simp ↓] def mIB (f : Int → Int → Bool) : U → U → (Bool → D → Prop) → Prop := fun x y q => askI x fun i => askI y fun j => q false (.bool (f i j))
@[simp ↓] def mIIc (C : Int → Int → Prop) (f : Int → Int → Int) : U → U → (Bool → D → Prop) → Prop := fun x y q => askI x fun i => askI y fun j => C i j ∧ q false (.int (f i j))
instance (f : Int → Int → Int) : LR K (rI0 fun i j => V.int (f i j)) (mII f) where
  s am O H x y ux uy hK hO rx ry Q q hm k := by
    obtain ⟨i, rfl, rfl, hm⟩ := askI_rep hm rx
    obtain ⟨j, rfl, rfl, hm⟩ := askI_rep hm ry
    exact ⟨i, j, rfl, rfl, k _ _ _ H hm (Same.refl _) (.old (Rp.int _))⟩
instance (f : Int → Int → Bool) : LR K (rI0 fun i j => V.bl (f i j)) (mIB f) where
  s am O H x y ux uy hK hO rx ry Q q hm k := by
    obtain ⟨i, rfl, rfl, hm⟩ := askI_rep hm rx
    obtain ⟨j, rfl, rfl, hm⟩ := askI_rep hm ry
    exact ⟨i, j, rfl, rfl, k _ _ _ H hm (Same.refl _) (.old (Rp.bl _))⟩
instance (C : Int → Int → Prop) (f : Int → Int → Int) : LR K (rI C fun i j => V.int (f i j)) (mIIc C f) where
  s am O H x y ux uy hK hO rx ry Q q hm k := by
    obtain ⟨i, rfl, rfl, hm⟩ := askI_rep hm rx
    obtain ⟨j, rfl, rfl, c, hm⟩ := askI_rep hm ry
    exact ⟨i, j, rfl, rfl, c, k _ _ _ H hm (Same.refl _) (.old (Rp.int _))⟩
@[simp ↓] def mNeg (f : Int → Int) : U → (Bool → D → Prop) → Prop := fun x q => askI x fun i => q false (.int (f i))
instance (f : Int → Int) : LU K (rU fun i => V.int (f i)) (mNeg f) where
  s am O H x ux hK hO rx Q q hm k := by
    obtain ⟨i, rfl, rfl, hm⟩ := askI_rep hm rx
    exact ⟨i, rfl, k _ _ _ H hm (Same.refl _) (.old (Rp.int _))⟩
/-! + of anything -/
def rAddU (K : PySem.W.Frag) : R2 := fun x y H Q => rI0 (fun i j => V.int (i + j)) x y H Q ∨ rCat x y H Q ∨ rCatA K x y H Q
theorem op_or {X : Cx} {f : Value → Value → Sem Value} {r r' : R2} (h : OpR X f r) (h' : OpR X f r') : OpR X f (fun x y H Q => r x y H Q ∨ r' x y H Q) := fun pins s σ H x y v u Q I rx ry q => by
  rcases q with q | q
  · exact h pins s σ H x y v u Q I rx ry q
  · exact h' pins s σ H x y v u Q I rx ry q
theorem op_addU {X : Cx} : OpR X (binaryOp .Add) (rAddU X.K) := op_or op_add (op_or op_cat op_catA)
def addU : U → U → (Bool → D → Prop) → Prop
  | .d (.int i), .d (.int j), q => q false (.int (i + j))
  | .d (.list xs), .d (.list ys), q => xs.length + ys.length ≤ sizeLine ∧ q true (.list (xs ++ ys))
  | .d (.tuple xs), .d (.tuple ys), q => xs.length + ys.length ≤ sizeLine ∧ q false (.tuple (xs ++ ys))
  | _, _, _ => False
@[simp] theorem addU_i (i j : Int) (q : Bool → D → Prop) : addU (.d (.int i)) (.d (.int j)) q = q false (.int (i + j)) := rfl
@[simp] theorem addU_l (xs ys : List D) (q : Bool → D → Prop) : addU (.d (.list xs)) (.d (.list ys)) q = (xs.length + ys.length ≤ sizeLine ∧ q true (.list (xs ++ ys))) := rfl
@[simp] theorem addU_t (xs ys : List D) (q : Bool → D → Prop) : addU (.d (.tuple xs)) (.d (.tuple ys)) q = (xs.length + ys.length ≤ sizeLine ∧ q false (.tuple (xs ++ ys))) := rfl
@[simp ↓] theorem addU_if (x y : U) (q : Bool → D → Prop) : addU x y q = if (isIU x && isIU y) = true then q false (.int (intU x + intU y)) else if (isLU x && isLU y) = true then (lstU x).length + (lstU y).length ≤ sizeLine ∧ q true (.list (lstU x ++ lstU y)) else
    if (isTU x && isTU y) = true then (tupU x).length + (tupU y).length ≤ sizeLine ∧ q false (.tuple (tupU x ++ tupU y)) else False := by
  cases x with
  | d x =>
    cases y with
    | d y => cases x <;> cases y <;> simp [addU, isIU, isLU, isTU, intU, lstU, tupU]
    | _ => cases x <;> simp [addU, isIU, isLU, isTU]
  | _ => simp [addU, isIU, isLU, isTU]
theorem new_list {am : Am} {O : Addr → Prop} {H : Hp} (hO : ∀ a, O a → There H a) {p : Addr} (hp : H p = none) {vs : List V} {ds : List D} (r : RpAll am.K (cut O H) vs ds) : RepV am O H (upd H p (.lst vs)) true (.ref p) (.d (.list ds)) := by
  have np : ¬ O p := fun z => (New.of hp) (hO p z)
  have r1 := RpAll.le (cut_grow hp (.lst vs)) _ _ r
  refine ⟨Rp.lst (cut_some.mpr ⟨np, upd_same⟩) r1, fun _ => ⟨p, vs, ds, rfl, rfl, .of hp, upd_same, RpAll.le (Le.cut (fun a z => ?_) fun a o _ _ e => same_new hp a o e) _ _ r⟩⟩
  rcases z with z | z
  · exact .inr (z ▸ .of hp)
  · exact .inl z
theorem new_tup {am : Am} {O : Addr → Prop} {H : Hp} (hO : ∀ a, O a → There H a) {p : Addr} (hp : H p = none) {vs : List V} {ds : List D} (r : RpAll am.K (cut O H) vs ds) : RepV am O H (upd H p (.tup vs)) false (.ref p) (.d (.tuple ds)) :=
  .old (Rp.tup (.inl (.inl (cut_some.mpr ⟨fun z => (New.of hp) (hO p z), upd_same⟩))) (RpAll.le (cut_grow hp (.tup vs)) _ _ r))
instance : LR K (rAddU K) addU where
  s am O H x y ux uy hK hO rx ry Q q hm k := by
    subst hK
    match ux, uy, hm with
    | .d (.int i), .d (.int j), hm =>
      cases rx
      cases ry
      exact .inl ⟨i, j, rfl, rfl, k _ _ _ H hm (Same.refl _) (.old (Rp.int _))⟩
    | .d (.list xs), .d (.list ys), hm =>
      cases rx with
      | lst a1 a2 =>
        cases ry with
        | lst b1 b2 =>
          refine .inr (.inl ⟨_, _, _, _, rfl, rfl, (cut_some.mp a1).2, (cut_some.mp b1).2, by rw [RpAll.len a2, RpAll.len b2]; exact hm.1, fun p hp => ?_⟩)
          exact k _ _ _ _ hm.2 (same_new hp) (new_list hO hp (RpAll.app a2 b2))
    | .d (.tuple xs), .d (.tuple ys), hm =>
      cases rx with
      | tup a1 a2 =>
        cases ry with
        | tup b1 b2 =>
          refine .inr (.inr ⟨_, _, _, _, rfl, rfl, SqT.le Le.cutAll a1, SqT.le Le.cutAll b1, by rw [RpAll.len a2, RpAll.len b2]; exact hm.1, fun e => ?_, fun e1 e2 => ?_, fun e1 e2 p hp => ?_⟩)
          · subst e
            have z : xs = [] := by
              have := RpAll.len a2
              exact List.length_eq_zero_iff.mp this.symm
            subst z
            exact k _ _ _ H hm.2 (Same.refl _) (.old (Rp.tup b1 b2))
          · subst e2
            have z : ys = [] := by
              have := RpAll.len b2
              exact List.length_eq_zero_iff.mp this.symm
            subst z
            exact k _ _ _ H hm.2 (Same.refl _) (.old (by rw [List.append_nil]; exact Rp.tup a1 a2))
          · exact k _ _ _ _ hm.2 (same_new hp) (new_tup hO hp (RpAll.app a2 b2))
/-! == and != of anything -/
theorem rep_dp {am : Am} {O : Addr → Prop} {H : Hp} {v : V} {x : D} (r : RepU am O H v (.d x)) (sh : SeqAt.shaped x = true) : L2.Dp am.K H v x := Rp.dp _ _ (Bool.and_eq_true_iff.mp sh).1 (Rp.le Le.cutAll _ _ r)
def eqU (f : Bool → Bool) : U → U → (Bool → D → Prop) → Prop
  | .d (.int i), .d (.int j), q => q false (.bool (f (decide (i = j))))
  | .d (.bool i), .d (.bool j), q => q false (.bool (f (decide (i = j))))
  | .d x, .d y, q => SeqAt.shaped x = true ∧ SeqAt.shaped y = true ∧ q false (.bool (f (PyData.eqv x y)))
  | _, _, _ => False
@[simp] theorem eqU_ii (f : Bool → Bool) (i j : Int) (q : Bool → D → Prop) : eqU f (.d (.int i)) (.d (.int j)) q = q false (.bool (f (decide (i = j)))) := rfl
@[simp] theorem eqU_bb (f : Bool → Bool) (i j : Bool) (q : Bool → D → Prop) : eqU f (.d (.bool i)) (.d (.bool j)) q = q false (.bool (f (decide (i = j)))) := rfl
@[simp] theorem eqU_ll (f : Bool → Bool) (i j : List D) (q : Bool → D → Prop) : eqU f (.d (.list i)) (.d (.list j)) q = (SeqAt.shaped (.list i) = true ∧ SeqAt.shaped (.list j) = true ∧ q false (.bool (f (PyData.eqv (.list i) (.list j))))) := rfl
@[simp] theorem eqU_tt (f : Bool → Bool) (i j : List D) (q : Bool → D → Prop) : eqU f (.d (.tuple i)) (.d (.tuple j)) q = (SeqAt.shaped (.tuple i) = true ∧ SeqAt.shaped (.tuple j) = true ∧ q false (.bool (f (PyData.eqv (.tuple i) (.tuple j))))) := rfl
theorem eqv_int (i j : Int) : PyData.eqv (.int i) (.int j) = decide (i = j) := by
  simp only [PyData.eqv]
  by_cases h : i = j
  · rw [decide_eq_true h, h]
    exact beq_self_eq_true j
  · rw [decide_eq_false h]
    exact beq_eq_false_iff_ne.mpr h
theorem shaped_int (i : Int) : SeqAt.shaped (.int i) = true := by
  show (PyData.canLay0 (.int i) && decide (PyData.depth (.int i) ≤ 64)) = true
  simp [PyData.canLay0, PyData.depth]
theorem shaped_bool (i : Bool) : SeqAt.shaped (.bool i) = true := by
  show (PyData.canLay0 (.bool i) && decide (PyData.depth (.bool i) ≤ 64)) = true
  simp [PyData.canLay0, PyData.depth]
theorem eqv_bool (i j : Bool) : PyData.eqv (.bool i) (.bool j) = decide (i = j) := by
  simp only [PyData.eqv]
  cases i <;> cases j <;> rfl
theorem eqU_of {f : Bool → Bool} {x y : U} {q : Bool → D → Prop} (h : eqU f x y q) : ∃ a b, x = .d a ∧ y = .d b ∧ SeqAt.shaped a = true ∧ SeqAt.shaped b = true ∧ q false (.bool (f (PyData.eqv a b))) := by
  unfold eqU at h
  split at h
  · exact ⟨_, _, rfl, rfl, shaped_int _, shaped_int _, by rw [eqv_int]; exact h⟩
  · exact ⟨_, _, rfl, rfl, shaped_bool _, shaped_bool _, by rw [eqv_bool]; exact h⟩
  · exact ⟨_, _, rfl, rfl, h.1, h.2.1, h.2.2⟩
  · exact h.elim
instance : LR K (rEqD K) (eqU id) where
  s am O H x y ux uy hK hO rx ry Q q hm k := by
    subst hK
    obtain ⟨a, b, rfl, rfl, h1, h2, h3⟩ := eqU_of hm
    exact ⟨a, b, rep_dp rx h1, rep_dp ry h2, h1, h2, k _ _ _ H h3 (Same.refl _) (.old (Rp.bl _))⟩
instance : LR K (rNeD K) (eqU not) where
  s am O H x y ux uy hK hO rx ry Q q hm k := by
    subst hK
    obtain ⟨a, b, rfl, rfl, h1, h2, h3⟩ := eqU_of hm
    exact ⟨a, b, rep_dp rx h1, rep_dp ry h2, h1, h2, k _ _ _ H h3 (Same.refl _) (.old (Rp.bl _))⟩
/-! is None, is True -/
def rIsN : R2 := fun x y H Q => y = .non ∧ Q (.bl (decide (x = .non))) H
def rNotN : R2 := fun x y H Q => y = .non ∧ Q (.bl (!decide (x = .non))) H
theorem op_isN3 {X : Cx} : OpR X (compareOp .Is) rIsN := op_isN
theorem op_notN3 {X : Cx} : OpR X (compareOp .IsNot) rNotN := op_notN
@[simp] def isNone : U → Bool
  | .d .none => true
  | _ => false
theorem isNone_rep {am : Am} {O : Addr → Prop} {H : Hp} {v : V} {u : U} (r : RepU am O H v u) : decide (v = .non) = isNone u := by
  cases u with
  | d x => cases r <;> simp
  | dw bs =>
    obtain ⟨_, a, dx, t, rfl, _⟩ := r
    simp
  | tb f ns =>
    obtain ⟨a, kvs, rfl, _⟩ := r
    simp
  | dr =>
    obtain ⟨d, g, c, _, rfl⟩ := r
    simp
  | ob fs =>
    obtain ⟨_, a, dx, vs, rfl, _⟩ := r
    simp
@[simp ↓] def mIsN (f : Bool → Bool) : U → U → (Bool → D → Prop) → Prop := fun x y q => if isNone y then q false (.bool (f (isNone x))) else False
theorem none_rep {am : Am} {O : Addr → Prop} {H : Hp} {v : V} {u : U} (r : RepU am O H v u) (e : isNone u = true) : v = .non := by
  rw [← isNone_rep r] at e
  exact of_decide_eq_true e
instance : LR K rIsN (mIsN id) where
  s am O H x y ux uy hK hO rx ry Q q hm k := by
    by_cases e : isNone uy = true
    · have hm2 : (if isNone uy = true then q false (.bool (id (isNone ux))) else False) := hm
      rw [if_pos e] at hm2
      exact ⟨none_rep ry e, k _ _ _ H hm2 (Same.refl _) (.old (by rw [isNone_rep rx]; exact Rp.bl _))⟩
    · have hm2 : (if isNone uy = true then q false (.bool (id (isNone ux))) else False) := hm
      rw [if_neg e] at hm2
      exact hm2.elim
instance : LR K rNotN (mIsN not) where
  s am O H x y ux uy hK hO rx ry Q q hm k := by
    by_cases e : isNone uy = true
    · have hm2 : (if isNone uy = true then q false (.bool (not (isNone ux))) else False) := hm
      rw [if_pos e] at hm2
      exact ⟨none_rep ry e, k _ _ _ H hm2 (Same.refl _) (.old (by rw [isNone_rep rx]; exact Rp.bl _))⟩
    · have hm2 : (if isNone uy = true then q false (.bool (not (isNone ux))) else False) := hm
      rw [if_neg e] at hm2
      exact hm2.elim
@[simp ↓] def mIsB (f : Bool → Bool) : U → U → (Bool → D → Prop) → Prop := fun x y q => askB x fun i => askB y fun j => q false (.bool (f (decide (i = j))))
instance : LR K rIsB (mIsB id) where
  s am O H x y ux uy hK hO rx ry Q q hm k := by
    obtain ⟨i, rfl, rfl, hm⟩ := askB_rep hm rx
    obtain ⟨j, rfl, rfl, hm⟩ := askB_rep hm ry
    exact ⟨i, j, rfl, rfl, k _ _ _ H hm (Same.refl _) (.old (Rp.bl _))⟩
instance : LR K rNotB (mIsB not) where
  s am O H x y ux uy hK hO rx ry Q q hm k := by
    obtain ⟨i, rfl, rfl, hm⟩ := askB_rep hm rx
    obtain ⟨j, rfl, rfl, hm⟩ := askB_rep hm ry
    exact ⟨i, j, rfl, rfl, k _ _ _ H hm (Same.refl _) (.old (Rp.bl _))⟩
/-! x[i] -/
@[simp] theorem atI_0 {α : Type} (xs : List α) : atI xs 0 = xs[0]? := by
  cases xs with
  | nil => rfl
  | cons x xs => exact atI_nat (j := 0) rfl
@[simp] theorem atI_c {α : Type} (xs : List α) (i : Nat) : atI xs (i : Int) = xs[i]? := by
  cases e : xs[i]? with
  | some x => exact atI_nat e
  | none =>
    unfold atI ixN
    have h := List.getElem?_eq_none_iff.mp e
    rw [if_pos (by omega), if_neg (by omega)]
    rfl
@[simp] theorem atI_1 {α : Type} (xs : List α) : atI xs 1 = xs[1]? := atI_c xs 1
@[simp] theorem atI_2 {α : Type} (xs : List α) : atI xs 2 = xs[2]? := atI_c xs 2
@[simp] theorem atI_3 {α : Type} (xs : List α) : atI xs 3 = xs[3]? := atI_c xs 3
@[simp] theorem atI_m1 {α : Type} (xs : List α) : atI xs (-1) = xs.getLast? := by
  cases xs with
  | nil => rfl
  | cons x xs =>
    unfold atI ixN
    rw [if_neg (by omega), if_pos (by simp; omega)]
    rw [List.getLast?_eq_getElem?]
    show (x :: xs)[_]? = _
    congr 1
    simp
    omega
def mIx : U → U → (Bool → D → Prop) → Prop
  | .d (.list xs), .d (.int i), q => ask (atI xs i) fun z => q false z
  | .d (.tuple xs), .d (.int i), q => ask (atI xs i) fun z => q false z
  | _, _, _ => False
@[simp] theorem mIx_l (xs : List D) (i : Int) (q : Bool → D → Prop) : mIx (.d (.list xs)) (.d (.int i)) q = ask (atI xs i) fun z => q false z := rfl
@[simp] theorem mIx_t (xs : List D) (i : Int) (q : Bool → D → Prop) : mIx (.d (.tuple xs)) (.d (.int i)) q = ask (atI xs i) fun z => q false z := rfl
theorem at_rep {K : PySem.W.Frag} {H : Hp} {vs : List V} {ds : List D} {i : Int} {z : D} (r : RpAll K H vs ds) (e : atI ds i = some z) : ∃ v, atI vs i = some v ∧ Rp K H v z := by
  unfold atI at e ⊢
  rw [RpAll.len r]
  cases q : ixN ds.length i with
  | none =>
    rw [q] at e
    cases e
  | some j =>
    rw [q] at e
    obtain ⟨v, h1, h2⟩ := RpAll.get (i := j) r e
    exact ⟨v, h1, h2⟩
instance : LR K (rIx K) mIx where
  s am O H x y ux uy hK hO rx ry Q q hm k := by
    subst hK
    match ux, uy, hm with
    | .d (.list xs), .d (.int i), hm =>
      cases ry
      cases rx with
      | lst a1 a2 =>
        have hm2 : ask (atI xs i) (fun z => q false z) := hm
        obtain ⟨z, e, hm2⟩ := ask_some hm2
        obtain ⟨v, h1, h2⟩ := at_rep a2 e
        exact .inl ⟨_, _, i, v, rfl, rfl, SqL.of (cut_some.mp a1).2, h1, k _ z _ H hm2 (Same.refl _) (.old h2)⟩
    | .d (.tuple xs), .d (.int i), hm =>
      cases ry
      cases rx with
      | tup a1 a2 =>
        have hm2 : ask (atI xs i) (fun z => q false z) := hm
        obtain ⟨z, e, hm2⟩ := ask_some hm2
        obtain ⟨v, h1, h2⟩ := at_rep a2 e
        exact .inr (.inl ⟨_, _, i, v, rfl, rfl, SqT.le Le.cutAll a1, h1, k _ z _ H hm2 (Same.refl _) (.old h2)⟩)
/-! a table read -/
@[simp ↓] def mDg (ma mb : TE3) : TE3 := fun ρ n q e => ma ρ n (fun _ x n1 => mb ρ n1 (fun _ y n2 => match x with
  | .tb f ns => askI y fun i => i ∈ ns ∧ q false (.d (.int (f i))) n2
  | _ => False) e) e
instance {ta tb : TE} {S1 S2 : List Nat} {ma mb : TE3} [ha : LE K C TL E ta S1 ma] [hb : LE K C TL E tb S2 mb] : LE K C TL E (tDGet ta tb) [] (mDg ma mb) where
  s am ρ n σ H hE h Q q hm k := by
    refine ha.s am ρ n σ H hE h _ _ hm fun fr x n1 v H1 hq f1 w1 r1 => ?_
    have h1 := h.step f1 w1
    refine hb.s am ρ n1 σ H1 hE h1 _ _ hq fun fr2 y n2 v2 H2 hq2 f2 w2 r2 => ?_
    have h2 := h1.step f2 w2
    match x, hq2, r1.1 with
    | .tb f ns, hq2, r1 =>
      obtain ⟨i, rfl, rfl, hi, hq2⟩ := askI_rep hq2 r2.1
      have r3 := RepU.le (rl_cutS h1 f2 (S := S1) (S' := S1) fun i hi => hi) (u := .tb f ns) r1
      obtain ⟨a, kvs, rfl, e, hv⟩ := r3
      refine ⟨a, .int (f i), rfl, ?_, k _ _ n2 _ H2 hq2 (f1.trans f2) w2 (.old (Rp.int _))⟩
      have q := DGet.k (k := .inl i) (cut_some.mp e).2
      rw [hv i hi] at q
      exact q
/-! in, not in -/
def rInU (K : PySem.W.Frag) : R2 := fun x y H Q => rInD K x y H Q ∨ rIn K false x y H Q
def rNotInU (K : PySem.W.Frag) : R2 := fun x y H Q => rNotInD K x y H Q ∨ rIn K true x y H Q
theorem op_inU {X : Cx} (hu : X.A.units + 65 < cLine) : OpR X (compareOp .In) (rInU X.K) := op_or (op_inD hu) op_in_seq
theorem op_notInU {X : Cx} (hu : X.A.units + 65 < cLine) : OpR X (compareOp .NotIn) (rNotInU X.K) := op_or (op_notInD hu) op_notIn_seq
def scalD : D → Bool
  | .none => true
  | .bool _ => true
  | .int _ => true
  | .str _ => true
  | _ => false
theorem scal_rep {K : PySem.W.Frag} {H : Hp} {v : V} {x : D} (r : Rp K H v x) (e : scalD x = true) : flatV v = true := by
  cases r <;> first | rfl | cases e
theorem scal_eq {K : PySem.W.Frag} {H : Hp} {v w : V} {x y : D} (r : Rp K H v x) (s : Rp K H w y) (e : scalD x = true) (f : scalD y = true) : eqV w v = PyData.eqv y x := by
  cases r <;> cases s <;> first | cases e; done | cases f; done | (simp [eqV, PyData.eqv]; done)
theorem scal_all {K : PySem.W.Frag} {H : Hp} : ∀ {vs : List V} {ds : List D}, RpAll K H vs ds → ds.all scalD = true → vs.all flatV = true
  | _, [], h, _ => by
    cases h
    rfl
  | _, d :: ds, h, e => by
    cases h with
    | cons h1 h2 =>
      rw [List.all_cons, Bool.and_eq_true] at e ⊢
      exact ⟨scal_rep h1 e.1, scal_all h2 e.2⟩
theorem scal_any {K : PySem.W.Frag} {H : Hp} {v : V} {x : D} (r : Rp K H v x) (ex : scalD x = true) : ∀ {vs : List V} {ds : List D}, RpAll K H vs ds → ds.all scalD = true → inV v vs = ds.any fun z => PyData.eqv z x
  | _, [], h, _ => by
    cases h
    rfl
  | _, d :: ds, h, e => by
    cases h with
    | cons h1 h2 =>
      rw [List.all_cons, Bool.and_eq_true] at e
      show (eqV _ v || inV v _) = _
      rw [scal_any r ex h2 e.2, scal_eq r h1 ex e.1]
      rfl
def mIn (f : Bool → Bool) : U → U → (Bool → D → Prop) → Prop
  | .d x, .d (.list ys), q => SeqAt.shaped x = true ∧ SeqAt.shaped (.list ys) = true ∧ q false (.bool (f (ys.any fun z => PyData.eqv z x)))
  | .d x, .d (.tuple ys), q => scalD x = true ∧ ys.all scalD = true ∧ q false (.bool (f (ys.any fun z => PyData.eqv z x)))
  | _, _, _ => False
@[simp] theorem mIn_l (f : Bool → Bool) (x : D) (ys : List D) (q : Bool → D → Prop) : mIn f (.d x) (.d (.list ys)) q = (SeqAt.shaped x = true ∧ SeqAt.shaped (.list ys) = true ∧ q false (.bool (f (ys.any fun z => PyData.eqv z x)))) := rfl
@[simp] theorem mIn_t (f : Bool → Bool) (x : D) (ys : List D) (q : Bool → D → Prop) : mIn f (.d x) (.d (.tuple ys)) q = (scalD x = true ∧ ys.all scalD = true ∧ q false (.bool (f (ys.any fun z => PyData.eqv z x)))) := rfl
instance : LR K (rInU K) (mIn id) where
  s am O H x y ux uy hK hO rx ry Q q hm k := by
    subst hK
    match ux, uy, hm with
    | .d a, .d (.list ys), hm => exact .inl ⟨a, ys, rep_dp rx hm.1, rep_dp ry hm.2.1, hm.1, hm.2.1, k _ _ _ H hm.2.2 (Same.refl _) (.old (Rp.bl _))⟩
    | .d a, .d (.tuple ys), hm =>
      cases ry with
      | tup a1 a2 => exact .inr ⟨_, _, rfl, .inr (SqT.le Le.cutAll a1), scal_rep rx hm.1, scal_all a2 hm.2.1, k _ _ _ H hm.2.2 (Same.refl _) (.old (by
          show Rp _ _ (.bl (inV x _)) _
          rw [scal_any rx hm.1 a2 hm.2.1]
          exact Rp.bl _))⟩
instance : LR K (rNotInU K) (mIn not) where
  s am O H x y ux uy hK hO rx ry Q q hm k := by
    subst hK
    match ux, uy, hm with
    | .d a, .d (.list ys), hm => exact .inl ⟨a, ys, rep_dp rx hm.1, rep_dp ry hm.2.1, hm.1, hm.2.1, k _ _ _ H hm.2.2 (Same.refl _) (.old (Rp.bl _))⟩
    | .d a, .d (.tuple ys), hm =>
      cases ry with
      | tup a1 a2 => exact .inr ⟨_, _, rfl, .inr (SqT.le Le.cutAll a1), scal_rep rx hm.1, scal_all a2 hm.2.1, k _ _ _ H hm.2.2 (Same.refl _) (.old (by
          show Rp _ _ (.bl (!inV x _)) _
          rw [scal_any rx hm.1 a2 hm.2.1]
          exact Rp.bl _))⟩
end
end V3
set_option Elab.async false
set_option linter.all false
set_option maxRecDepth 100000
set_option maxHeartbeats 4000000
namespace V3
open PySem PySem.Spec PyProof.Rows L2
section
variable {K : PySem.W.Frag} {C : Addr} {TL : List (Addr × Str)} {E : XK}
/-! ### tests -/
@[simp ↓] def mTest (me : TE3) : TT3 := fun ρ n q e => me ρ n (fun _ u n1 => askB u fun b => q b n1) e
instance {t : TE} {S : List Nat} {m : TE3} [h : LE K C TL E t S m] : LT K C TL E (tTest t) (mTest m) where
  s am ρ n σ H hE hr Q q hm k := by
    refine h.s am ρ n σ H hE hr _ _ hm fun fr u n1 v H1 hq f1 w1 r1 => ?_
    obtain ⟨b, rfl, rfl, hq⟩ := askB_rep hq r1.1
    exact ⟨b, rfl, k b n1 H1 hq f1 w1⟩
instance {t : TE} {S : List Nat} {m : TE3} [h : LE K C TL E t S m] : LT K C TL E (tB t) (mTest m) where
  s am ρ n σ H hE hr Q q hm k := by
    refine h.s am ρ n σ H hE hr _ _ hm fun fr u n1 v H1 hq f1 w1 r1 => ?_
    obtain ⟨b, rfl, rfl, hq⟩ := askB_rep hq r1.1
    exact ⟨b, rfl, k b n1 H1 hq f1 w1⟩
@[simp ↓] def mYes : TT3 := fun _ n q _ => q true n
instance : LT K C TL E tYes mYes where
  s am ρ n σ H hE hr Q q hm k := k true n H hm (FrR.refl _ _) hr.wd
@[simp ↓] def mAnd (mt mu : TT3) : TT3 := fun ρ n q e => mt ρ n (fun c n1 => if c = true then mu ρ n1 q e else q false n1) e
@[simp ↓] def mOr (mt mu : TT3) : TT3 := fun ρ n q e => mt ρ n (fun c n1 => if c = true then q true n1 else mu ρ n1 q e) e
@[simp ↓] def mNot (mt : TT3) : TT3 := fun ρ n q e => mt ρ n (fun c n1 => q (!c) n1) e
instance {t u : TT} {mt mu : TT3} [ht : LT K C TL E t mt] [hu : LT K C TL E u mu] : LT K C TL E (tAnd t u) (mAnd mt mu) where
  s am ρ n σ H hE hr Q q hm k := by
    refine ht.s am ρ n σ H hE hr _ _ hm fun b n1 H1 hq f1 w1 => ?_
    cases b with
    | true => exact hu.s am ρ n1 σ H1 hE (hr.step f1 w1) _ _ hq fun b2 n2 H2 hq2 f2 w2 => k b2 n2 H2 hq2 (f1.trans f2) w2
    | false => exact k false n1 H1 hq f1 w1
instance {t u : TT} {mt mu : TT3} [ht : LT K C TL E t mt] [hu : LT K C TL E u mu] : LT K C TL E (tOr t u) (mOr mt mu) where
  s am ρ n σ H hE hr Q q hm k := by
    refine ht.s am ρ n σ H hE hr _ _ hm fun b n1 H1 hq f1 w1 => ?_
    cases b with
    | false => exact hu.s am ρ n1 σ H1 hE (hr.step f1 w1) _ _ hq fun b2 n2 H2 hq2 f2 w2 => k b2 n2 H2 hq2 (f1.trans f2) w2
    | true => exact k true n1 H1 hq f1 w1
instance {t : TT} {mt : TT3} [ht : LT K C TL E t mt] : LT K C TL E (tNot t) (mNot mt) where
  s am ρ n σ H hE hr Q q hm k := ht.s am ρ n σ H hE hr _ _ hm fun b n1 H1 hq f1 w1 => k (!b) n1 H1 hq f1 w1
@[simp ↓] def mAndV (ma mb : TE3) : TE3 := fun ρ n q e => ma ρ n (fun _ u n1 => askB u fun c => if c = true then mb ρ n1 q e else q false (.d (.bool false)) n1) e
@[simp ↓] def mOrV (ma mb : TE3) : TE3 := fun ρ n q e => ma ρ n (fun _ u n1 => askB u fun c => if c = true then q false (.d (.bool true)) n1 else mb ρ n1 q e) e
@[simp ↓] def mNotV (ma : TE3) : TE3 := fun ρ n q e => ma ρ n (fun _ u n1 => askB u fun c => q false (.d (.bool (!c))) n1) e
theorem then_back {am : Am} {ρ : Ro} {n n1 : Nat} {σ : L2.St} {H H1 H2 : Hp} (h : Rl am ρ n σ H) (f : FrR am.R H H1) (w : Wd am.R am.TL H1 n1) {S S' : List Nat} (hS : ∀ i ∈ S, i ∈ S') {fr : Bool} {v : V} {u : U} (r : RepV am (Hid am (dem S ρ) σ) H1 H2 fr v u) : RepV am (Hid am (dem S' ρ) σ) H H2 fr v u :=
  (r.back h f (h.step f w)).sub fun a => hidDem2 hS
instance {ta tb : TE} {S1 S2 : List Nat} {ma mb : TE3} [ha : LE K C TL E ta S1 ma] [hb : LE K C TL E tb S2 mb] : LE K C TL E (tAndV ta tb) S2 (mAndV ma mb) where
  s am ρ n σ H hE hr Q q hm k := by
    refine ha.s am ρ n σ H hE hr _ _ hm fun fr u n1 v H1 hq f1 w1 r1 => ?_
    obtain ⟨b, rfl, rfl, hq⟩ := askB_rep hq r1.1
    refine ⟨b, rfl, ?_⟩
    cases b with
    | true => exact hb.s am ρ n1 σ H1 hE (hr.step f1 w1) _ _ hq fun fr2 u2 n2 v2 H2 hq2 f2 w2 r2 => k fr2 u2 n2 v2 H2 hq2 (f1.trans f2) w2 (then_back hr f1 w1 (fun _ z => z) r2)
    | false => exact k _ _ n1 _ H1 hq f1 w1 (.old (Rp.bl _))
instance {ta tb : TE} {S1 S2 : List Nat} {ma mb : TE3} [ha : LE K C TL E ta S1 ma] [hb : LE K C TL E tb S2 mb] : LE K C TL E (tOrV ta tb) S2 (mOrV ma mb) where
  s am ρ n σ H hE hr Q q hm k := by
    refine ha.s am ρ n σ H hE hr _ _ hm fun fr u n1 v H1 hq f1 w1 r1 => ?_
    obtain ⟨b, rfl, rfl, hq⟩ := askB_rep hq r1.1
    refine ⟨b, rfl, ?_⟩
    cases b with
    | false => exact hb.s am ρ n1 σ H1 hE (hr.step f1 w1) _ _ hq fun fr2 u2 n2 v2 H2 hq2 f2 w2 r2 => k fr2 u2 n2 v2 H2 hq2 (f1.trans f2) w2 (then_back hr f1 w1 (fun _ z => z) r2)
    | true => exact k _ _ n1 _ H1 hq f1 w1 (.old (Rp.bl _))
instance {ta : TE} {S1 : List Nat} {ma : TE3} [ha : LE K C TL E ta S1 ma] : LE K C TL E (tNotV ta) [] (mNotV ma) where
  s am ρ n σ H hE hr Q q hm k := by
    refine ha.s am ρ n σ H hE hr _ _ hm fun fr u n1 v H1 hq f1 w1 r1 => ?_
    obtain ⟨b, rfl, rfl, hq⟩ := askB_rep hq r1.1
    exact ⟨b, rfl, k _ _ n1 _ H1 hq f1 w1 (.old (Rp.bl _))⟩
@[simp ↓] def mIf (mt : TT3) (ma mb : TE3) : TE3 := fun ρ n q e => mt ρ n (fun c n1 => if c = true then ma ρ n1 q e else mb ρ n1 q e) e
instance {t : TT} {ta tb : TE} {S1 S2 : List Nat} {mt : TT3} {ma mb : TE3} [ht : LT K C TL E t mt] [ha : LE K C TL E ta S1 ma] [hb : LE K C TL E tb S2 mb] : LE K C TL E (tIf t ta tb) (S1 ++ S2) (mIf mt ma mb) where
  s am ρ n σ H hE hr Q q hm k := by
    refine ht.s am ρ n σ H hE hr _ _ hm fun b n1 H1 hq f1 w1 => ?_
    cases b with
    | true => exact ha.s am ρ n1 σ H1 hE (hr.step f1 w1) _ _ hq fun fr2 u2 n2 v2 H2 hq2 f2 w2 r2 => k fr2 u2 n2 v2 H2 hq2 (f1.trans f2) w2 (then_back hr f1 w1 (fun _ z => List.mem_append_left _ z) r2)
    | false => exact hb.s am ρ n1 σ H1 hE (hr.step f1 w1) _ _ hq fun fr2 u2 n2 v2 H2 hq2 f2 w2 r2 => k fr2 u2 n2 v2 H2 hq2 (f1.trans f2) w2 (then_back hr f1 w1 (fun _ z => List.mem_append_right _ z) r2)
@[simp ↓] def mChain (mr mr' : U → U → (Bool → D → Prop) → Prop) (ma mb mc : TE3) : TE3 := fun ρ n q e => ma ρ n (fun _ x n1 => mb ρ n1 (fun _ y n2 => mr x y fun _ z => askB (.d z) fun c => if c = true then mc ρ n2 (fun _ w n3 => mr' y w fun fr z' => q fr (.d z') n3) e else q false (.d (.bool false)) n2) e) e
instance {r r' : R2} {ta tb tc : TE} {S1 S2 S3 : List Nat} {ma mb mc : TE3} {mr mr' : U → U → (Bool → D → Prop) → Prop} [ha : LE K C TL E ta S1 ma] [hb : LE K C TL E tb S2 mb] [hc : LE K C TL E tc S3 mc] [hr : LR K r mr] [hr' : LR K r' mr'] : LE K C TL E (tChain r r' ta tb tc) (S1 ++ (S2 ++ S3)) (mChain mr mr' ma mb mc) where
  s am ρ n σ H hE h Q q hm k := by
    refine ha.s am ρ n σ H hE h _ _ hm fun fr x n1 v H1 hq f1 w1 r1 => ?_
    have h1 := h.step f1 w1
    refine hb.s am ρ n1 σ H1 hE h1 _ _ hq fun fr2 y n2 v2 H2 hq2 f2 w2 r2 => ?_
    have h2 := h1.step f2 w2
    refine hr.s am (Hid am (dem (S1 ++ (S2 ++ S3)) ρ) σ) H2 v v2 x y hE.1 (hid_there h2 _) (r1.1.le (rl_cutS h1 f2 fun i hi => List.mem_append_left _ hi)) (r2.1.le (rl_cutS h2 (FrR.refl _ _) fun i hi => List.mem_append_right _ (List.mem_append_left _ hi))) _ _ hq2 fun fr3 z v3 H3 hq3 sm r3 => ?_
    have w3 := w2.same sm
    have h3 := h2.step (.of sm) w3
    obtain ⟨b, e1, rfl, hq3⟩ := askB_rep hq3 r3.1
    refine ⟨b, rfl, ?_⟩
    cases b with
    | true =>
      refine hc.s am ρ n2 σ H3 hE h3 _ _ hq3 fun fr4 w n3 v4 H4 hq4 f4 w4 r4 => ?_
      have h4 := h3.step f4 w4
      refine hr'.s am (Hid am (dem (S1 ++ (S2 ++ S3)) ρ) σ) H4 v2 v4 y w hE.1 (hid_there h4 _) (r2.1.le (rl_cutS h2 ((FrR.of sm).trans f4) fun i hi => List.mem_append_right _ (List.mem_append_left _ hi))) (r4.1.le (rl_cutS h4 (FrR.refl _ _) fun i hi => List.mem_append_right _ (List.mem_append_right _ hi))) _ _ hq4 fun fr5 z5 v5 H5 hq5 sm5 r5 => ?_
      exact k _ _ n3 _ _ hq5 ((((f1.trans f2).trans (.of sm)).trans f4).trans (.of sm5)) (w4.same sm5) (r5.back h (((f1.trans f2).trans (.of sm)).trans f4) h4)
    | false => exact k _ _ n2 _ _ hq3 ((f1.trans f2).trans (.of sm)) w3 (.old (Rp.bl _))
/-! ### slices -/
@[simp ↓] def mNoPart : TO3 := fun _ n q _ => q none n
@[simp ↓] def mPart (me : TE3) : TO3 := fun ρ n q e => me ρ n (fun _ u n1 => askI u fun i => q (some i) n1) e
instance : LO K C TL E tNoPart mNoPart where
  s am ρ n σ H hE hr Q q hm k := k none n H hm (FrR.refl _ _) hr.wd
instance {t : TE} {S : List Nat} {m : TE3} [h : LE K C TL E t S m] : LO K C TL E (tPart t) (mPart m) where
  s am ρ n σ H hE hr Q q hm k := by
    refine h.s am ρ n σ H hE hr _ _ hm fun fr u n1 v H1 hq f1 w1 r1 => ?_
    obtain ⟨i, rfl, rfl, hq⟩ := askI_rep hq r1.1
    exact ⟨i, rfl, k _ n1 H1 hq f1 w1⟩
def cutD (xs : List D) (lo hi : Option Int) : List D := (xs.drop (HT.sIx xs.length 0 lo)).take (HT.sIx xs.length xs.length hi - HT.sIx xs.length 0 lo)
theorem cutD_rep {K : PySem.W.Frag} {H : Hp} {vs : List V} {ds : List D} (lo hi : Option Int) (r : RpAll K H vs ds) : RpAll K H (cutV vs lo hi) (cutD ds lo hi) := by
  unfold cutV cutD
  rw [RpAll.len r]
  exact RpAll.take _ (RpAll.drop _ r)
def rSlU (K : PySem.W.Frag) : V → Option Int → Option Int → Hp → VK → Prop := fun x lo hi H Q => rSlL K x lo hi H Q ∨ rSlA K x lo hi H Q
theorem sl_U {X : Cx} : SlR X (rSlU X.K) := by
  intro pins s σ H x v vl vu lo hi sl Q I rx hs pl pu h
  rcases h with h | h
  · exact sl_list pins s σ H x v vl vu lo hi sl Q I rx hs pl pu h
  · exact sl_tupA pins s σ H x v vl vu lo hi sl Q I rx hs pl pu h
@[simp] def slU (lo hi : Option Int) : U → (Bool → D → Prop) → Prop
  | .d (.list xs), q => q true (.list (cutD xs lo hi))
  | .d (.tuple xs), q => q false (.tuple (cutD xs lo hi))
  | _, _ => False
@[simp ↓] def mSl (me : TE3) (ml mh : TO3) : TE3 := fun ρ n q e => me ρ n (fun _ u n1 => ml ρ n1 (fun lo n2 => mh ρ n2 (fun hi n3 => slU lo hi u fun fr z => q fr (.d z) n3) e) e) e
instance {te : TE} {tl th : TO} {S : List Nat} {me : TE3} {ml mh : TO3} [he : LE K C TL E te S me] [hl : LO K C TL E tl ml] [hh : LO K C TL E th mh] : LE K C TL E (tSl (rSlU K) te tl th) S (mSl me ml mh) where
  s am ρ n σ H hE h Q q hm k := by
    obtain ⟨rfl, rfl, rfl, rfl⟩ := id hE
    refine he.s am ρ n σ H hE h _ _ hm fun fr u n1 v H1 hq f1 w1 r1 => ?_
    have h1 := h.step f1 w1
    refine hl.s am ρ n1 σ H1 hE h1 _ _ hq fun lo n2 H2 hq2 f2 w2 => ?_
    have h2 := h1.step f2 w2
    refine hh.s am ρ n2 σ H2 hE h2 _ _ hq2 fun hi n3 H3 hq3 f3 w3 => ?_
    have h3 := h2.step f3 w3
    have r3 := r1.1.le (rl_cutS h1 (f2.trans f3) (S' := S) fun i hi => hi)
    have f := (f1.trans f2).trans f3
    match u, hq3 with
    | .d (.list xs), hq3 =>
      cases r3 with
      | lst a1 a2 =>
        refine .inl ⟨_, _, rfl, SqL.of (cut_some.mp a1).2, fun p hp => ?_⟩
        exact k _ _ n3 _ _ hq3 (f.trans (.of (same_new hp))) (w3.same (same_new hp)) ((new_list (hid_there h3 S) hp (cutD_rep lo hi a2)).back h f h3)
    | .d (.tuple xs), hq3 =>
      cases r3 with
      | tup a1 a2 =>
        refine .inr ⟨_, _, rfl, SqT.le Le.cutAll a1, fun e => ?_, fun _ p hp => ?_⟩
        · refine k _ _ n3 _ _ hq3 f w3 (.old ?_)
          have e2 : cutD xs lo hi = xs := by
            unfold cutD
            rw [← RpAll.len a2, e.1, e.2, RpAll.len a2]
            simp
          show Rp _ _ _ _
          rw [e2]
          exact Rp.tup a1 a2
        · exact k _ _ n3 _ _ hq3 (f.trans (.of (same_new hp))) (w3.same (same_new hp)) ((new_tup (hid_there h3 S) hp (cutD_rep lo hi a2)).back h f h3)
/-! ### drawing.blocks -/
def askW : U → (List D → Prop) → Prop
  | .dw bs, k => k bs
  | _, _ => False
@[simp] theorem askW_s (i : List D) (k : List D → Prop) : askW (.dw i) k = k i := rfl
@[simp ↓] def mFld (me : TE3) : TE3 := fun ρ n q e => me ρ n (fun _ u n1 => askW u fun bs => q false (.d (.tuple bs)) n1) e
instance {te : TE} {S : List Nat} {me : TE3} [he : LE K C TL E te S me] : LE K C TL E (tFld K te "blocks") S (mFld me) where
  s am ρ n σ H hE h Q q hm k := by
    obtain ⟨rfl, rfl, rfl, rfl⟩ := id hE
    refine he.s am ρ n σ H hE h _ _ hm fun fr u n1 v H1 hq f1 w1 r1 => ?_
    match u, hq, r1.1 with
    | .dw bs, hq, r1 =>
      obtain ⟨fl, a, dx, t, rfl, h2, h3⟩ := r1
      exact ⟨a, am.C, dx, _, .ref t, rfl, (cut_some.mp h2).2, am.cls, am.nB, rfl, k _ _ n1 _ H1 hq f1 w1 (.old h3)⟩
end
end V3
set_option Elab.async false
set_option linter.all false
set_option maxRecDepth 100000
set_option maxHeartbeats 4000000
namespace V3
open PySem PySem.Spec PyProof.Rows L2
/-! ### statements -/
structure En3 where
  nx : Ro → Nat → Prop
  rt : Bool → U → Nat → Prop
  bk : Ro → Nat → Prop
  ct : Ro → Nat → Prop
abbrev TS3 := En3 → Ro → Nat → (Addr → Prop) → Prop
/-- what is given back -/
def RetV (am : Am) (H : Hp) (fr : Bool) (v : V) (u : U) : Prop :=
  RepU am am.R.hid H v u ∧ (fr = true → ∃ p vs ds, v = .ref p ∧ u = .d (.list ds) ∧ ((New am.Hs p ∨ am.O0 p) ∧ ¬ am.R.hid p) ∧ H p = some (.lst vs) ∧ RpAll am.K (cut (fun a => a = p ∨ am.R.hid a) H) vs ds)
structure EnR (am : Am) (D : Ends) (F : En3) : Prop where
  nx : ∀ ρ n σ H, F.nx ρ n → Rl am ρ n σ H → D.nx σ H
  bk : ∀ ρ n σ H, F.bk ρ n → Rl am ρ n σ H → D.bk σ H
  ct : ∀ ρ n σ H, F.ct ρ n → Rl am ρ n σ H → D.ct σ H
  rt : ∀ fr u n v H, F.rt fr u n → Gr am H → Wd am.R am.TL H n → RetV am H fr v u → D.rt v H
class LS (K : PySem.W.Frag) (C : Addr) (TL : List (Addr × Str)) (E : XK) (t : TS) (m : outParam TS3) : Prop where
  s : ∀ (am : Am) (ρ : Ro) (n : Nat) (σ : L2.St) (H : Hp) (D : Ends) (F : En3), am.K = K ∧ am.TL = TL ∧ am.E = E ∧ am.C = C → Rl am ρ n σ H → EnR am D F → m F ρ n am.e → t D σ H
section
variable {K : PySem.W.Frag} {C : Addr} {TL : List (Addr × Str)} {E : XK}
@[simp ↓] def mNext : TS3 := fun F ρ n _ => F.nx ρ n
instance : LS K C TL E tNext mNext where
  s am ρ n σ H D F hE h en hm := en.nx ρ n σ H hm h
@[simp ↓] def mSeq (mt mu : TS3) : TS3 := fun F ρ n e => mt { F with nx := fun ρ' n' => mu F ρ' n' e } ρ n e
instance {t u : TS} {mt mu : TS3} [ht : LS K C TL E t mt] [hu : LS K C TL E u mu] : LS K C TL E (tSeq t u) (mSeq mt mu) where
  s am ρ n σ H D F hE h en hm := ht.s am ρ n σ H { D with nx := u D } { F with nx := fun ρ' n' => mu F ρ' n' am.e } hE h ⟨fun ρ' n' σ' H' q r => hu.s am ρ' n' σ' H' D F hE r en q, en.bk, en.ct, en.rt⟩ hm
@[simp ↓] def mBreak : TS3 := fun F ρ n _ => F.bk ρ n
instance : LS K C TL E tBreak mBreak where
  s am ρ n σ H D F hE h en hm := en.bk ρ n σ H hm h
@[simp ↓] def mCont : TS3 := fun F ρ n _ => F.ct ρ n
instance : LS K C TL E tCont mCont where
  s am ρ n σ H D F hE h en hm := en.ct ρ n σ H hm h
@[simp ↓] def mIfS (mt : TT3) (ma mb : TS3) : TS3 := fun F ρ n e => mt ρ n (fun c n1 => if c = true then ma F ρ n1 e else mb F ρ n1 e) e
instance {c : TT} {t u : TS} {mc : TT3} {mt mu : TS3} [hc : LT K C TL E c mc] [ht : LS K C TL E t mt] [hu : LS K C TL E u mu] : LS K C TL E (tIfS c t u) (mIfS mc mt mu) where
  s am ρ n σ H D F hE h en hm := by
    refine hc.s am ρ n σ H hE h _ _ hm fun b n1 H1 hq f1 w1 => ?_
    cases b with
    | true => exact ht.s am ρ n1 σ H1 D F hE (h.step f1 w1) en hq
    | false => exact hu.s am ρ n1 σ H1 D F hE (h.step f1 w1) en hq
theorem ret_of {am : Am} {ρ : Ro} {n : Nat} {σ : L2.St} {H H1 : Hp} (h : Rl am ρ n σ H) {S : List Nat} {fr : Bool} {v : V} {u : U} (r : RepV am (Hid am (dem S ρ) σ) H H1 fr v u) : RetV am H1 fr v u :=
  ⟨r.1.le (Le.cutSub fun a z => .inl z), fun z => by
    obtain ⟨p, vs, ds, a1, a2, a3, a4, a5⟩ := r.2 z
    exact ⟨p, vs, ds, a1, a2, h.new0 a3, a4, RpAll.le (Le.cutSub fun a q => q.imp id fun y => .inl y) _ _ a5⟩⟩
@[simp ↓] def mRet (me : TE3) : TS3 := fun F ρ n e => me ρ n (fun fr u n1 => F.rt fr u n1) e
instance {te : TE} {S : List Nat} {me : TE3} [he : LE K C TL E te S me] : LS K C TL E (tRet te) (mRet me) where
  s am ρ n σ H D F hE h en hm := he.s am ρ n σ H hE h _ _ hm fun fr u n1 v H1 hq f1 w1 r1 => en.rt fr u n1 v H1 hq (h.step f1 w1).gr w1 (ret_of h r1)
@[simp] def isOw : Ro → Nat → Bool
  | [], _ => false
  | .ow _ :: _, 0 => true
  | _ :: _, 0 => false
  | _ :: ρ, i + 1 => isOw ρ i
theorem isOw_get : ∀ {ρ : Ro} {i : Nat}, isOw ρ i = true → ∃ ds, ρ[i]? = some (Sl.ow ds)
  | [], _, h => by cases h
  | .ow ds :: _, 0, _ => ⟨ds, rfl⟩
  | .no :: _, 0, h => by cases h
  | .fz _ :: _, 0, h => by cases h
  | s :: ρ, i + 1, h => isOw_get (ρ := ρ) (i := i) (by cases s <;> exact h)
@[simp ↓] def mRetVar (i : Nat) : TS3 := fun F ρ n _ => ask (rdAt ρ i) fun u => F.rt (isOw ρ i) u n
instance (priority := high) (i : Nat) : LS K C TL E (tRet (tVar i)) (mRetVar i) where
  s am ρ n σ H D F hE h en hm := by
    obtain ⟨u, e, hm⟩ := ask_some hm
    obtain ⟨v, h1, h2⟩ := slot_rd h e
    refine ⟨v, h1, en.rt _ u n v H hm h.gr h.wd ⟨h2.le (Le.cutSub fun a z => .inl z), fun o => ?_⟩⟩
    obtain ⟨ds, e2⟩ := isOw_get o
    obtain ⟨p, vs, q1, q2, q3, q4⟩ := h.ow i ds e2
    rw [h1] at q1
    cases q1
    rw [rdAt_eq, e2] at e
    cases e
    exact ⟨p, vs, ds, rfl, rfl, q2, q3, RpAll.le (Le.cutSub fun a z => by
      rcases z with z | z
      · exact .inr ⟨i, ⟨ds, e2⟩, by rw [z]; exact h1⟩
      · exact .inl z) _ _ q4⟩
@[simp ↓] def mRetN : TS3 := fun F _ n _ => F.rt false (.d .none) n
instance : LS K C TL E tRetN mRetN where
  s am ρ n σ H D F hE h en hm := en.rt _ _ n _ H hm h.gr h.wd ⟨Rp.non, fun z => by cases z⟩
/-! ### names given -/
def bind3 (S : List Nat) (i : Nat) : Bool → U → Ro → Ro
  | true, .d (.list ds), ρ => (if flatAll ds = true then ρ else dem S ρ).set i (.ow ds)
  | _, u, ρ => (if flatU u = true then ρ else dem S ρ).set i (.fz u)
@[simp] theorem bind3_l (S : List Nat) (i : Nat) (ds : List D) (ρ : Ro) : bind3 S i true (.d (.list ds)) ρ = (if flatAll ds = true then ρ else dem S ρ).set i (.ow ds) := rfl
@[simp] theorem bind3_d (S : List Nat) (i : Nat) (x : D) (ρ : Ro) : bind3 S i false (.d x) ρ = (if flat x = true then ρ else dem S ρ).set i (.fz (.d x)) := rfl
@[simp] theorem bind3_i (S : List Nat) (i : Nat) (b : Bool) (x : Int) (ρ : Ro) : bind3 S i b (.d (.int x)) ρ = ρ.set i (.fz (.d (.int x))) := by cases b <;> rfl
@[simp] theorem bind3_b (S : List Nat) (i : Nat) (b : Bool) (x : Bool) (ρ : Ro) : bind3 S i b (.d (.bool x)) ρ = ρ.set i (.fz (.d (.bool x))) := by cases b <;> rfl
@[simp] theorem bind3_s (S : List Nat) (i : Nat) (b : Bool) (x : Str) (ρ : Ro) : bind3 S i b (.d (.str x)) ρ = ρ.set i (.fz (.d (.str x))) := by cases b <;> rfl
@[simp] theorem bind3_n (S : List Nat) (i : Nat) (b : Bool) (ρ : Ro) : bind3 S i b (.d .none) ρ = ρ.set i (.fz (.d .none)) := by cases b <;> rfl
@[simp] theorem bind3_t (S : List Nat) (i : Nat) (b : Bool) (xs : List D) (ρ : Ro) : bind3 S i b (.d (.tuple xs)) ρ = (if flatAll xs = true then ρ else dem S ρ).set i (.fz (.d (.tuple xs))) := by cases b <;> rfl
@[simp] theorem bind3_o (S : List Nat) (i : Nat) (b : Bool) (fs : List (Str × D)) (ρ : Ro) : bind3 S i b (.ob fs) ρ = ρ.set i (.fz (.ob fs)) := by cases b <;> rfl
@[simp] theorem bind3_w (S : List Nat) (i : Nat) (b : Bool) (xs : List D) (ρ : Ro) : bind3 S i b (.dw xs) ρ = ρ.set i (.fz (.dw xs)) := by cases b <;> rfl
@[simp] theorem bind3_tb (S : List Nat) (i : Nat) (b : Bool) (f : Int → Int) (ns : List Int) (ρ : Ro) : bind3 S i b (.tb f ns) ρ = ρ.set i (.fz (.tb f ns)) := by cases b <;> rfl
@[simp] theorem bind3_r (S : List Nat) (i : Nat) (b : Bool) (ρ : Ro) : bind3 S i b .dr ρ = ρ.set i (.fz .dr) := by cases b <;> rfl
theorem bindFz {am : Am} {ρ : Ro} {n n' : Nat} {σ : L2.St} {H H' : Hp} (h : Rl am ρ n σ H) (f : FrR am.R H H') (w : Wd am.R am.TL H' n') {S : List Nat} {v : V} {u : U} (i : Nat) (r : RepU am (Hid am (dem S ρ) σ) H' v u) : Rl am ((if flatU u = true then ρ else dem S ρ).set i (.fz u)) n' (σ.set i (some v)) H' := by
  have h' := h.step f w
  by_cases fl : flatU u = true
  · rw [if_pos fl]
    refine h'.setFz i (r.hide (fun p z => ?_) fl)
    rcases z with z | ⟨j, z⟩
    · exact .inl (.inl z)
    · exact .inr (h'.ownL z).2.1
  · rw [if_neg fl]
    exact (h'.dem S).setFz i r
theorem bind_ok {am : Am} {ρ : Ro} {n n' : Nat} {σ : L2.St} {H H' : Hp} (h : Rl am ρ n σ H) (f : FrR am.R H H') (w : Wd am.R am.TL H' n') {S : List Nat} {fr : Bool} {v : V} {u : U} (i : Nat) (r : RepV am (Hid am (dem S ρ) σ) H H' fr v u) : Rl am (bind3 S i fr u ρ) n' (σ.set i (some v)) H' := by
  cases fr with
  | false => cases u <;> exact bindFz h f w i r.1
  | true =>
    obtain ⟨p, vs, ds, rfl, rfl, np, e, a⟩ := r.2 rfl
    show Rl am ((if flatAll ds = true then ρ else dem S ρ).set i (.ow ds)) n' _ H'
    by_cases fl : flatAll ds = true
    · rw [if_pos fl]
      refine h.setOw f w i np e (RpAll.hide (O := fun a => a = p ∨ Hid am (dem S ρ) σ a) (fun q z => ?_) _ _ fl a)
      rcases z with z | z | ⟨j, z⟩
      · exact .inl (.inl z)
      · exact .inl (.inr (.inl z))
      · exact .inr ((h.step f w).ownL z).2.1
    · rw [if_neg fl]
      exact (h.dem S).setOw f w i np e a
@[simp ↓] def mSet (S : List Nat) (i : Nat) (me : TE3) : TS3 := fun F ρ n e => me ρ n (fun fr u n1 => F.nx (bind3 S i fr u ρ) n1) e
instance {te : TE} {i : Nat} {S : List Nat} {me : TE3} [he : LE K C TL E te S me] : LS K C TL E (tAsg te (gName i)) (mSet S i me) where
  s am ρ n σ H D F hE h en hm := he.s am ρ n σ H hE h _ _ hm fun fr u n1 v H1 hq f1 w1 r1 => en.nx _ n1 _ H1 hq (bind_ok h f1 w1 i r1)
def flatF : Bool → U → Bool
  | true, .d (.list ds) => flatAll ds
  | _, u => flatU u
@[simp] theorem flatF_l (ds : List D) : flatF true (.d (.list ds)) = flatAll ds := rfl
@[simp] theorem flatF_d (x : D) : flatF false (.d x) = flat x := rfl
@[simp] theorem flatF_i (b : Bool) (x : Int) : flatF b (.d (.int x)) = true := by cases b <;> rfl
@[simp] theorem flatF_b (b : Bool) (x : Bool) : flatF b (.d (.bool x)) = true := by cases b <;> rfl
@[simp] theorem flatF_s (b : Bool) (x : Str) : flatF b (.d (.str x)) = true := by cases b <;> rfl
@[simp] theorem flatF_n (b : Bool) : flatF b (.d .none) = true := by cases b <;> rfl
@[simp] theorem flatF_t (b : Bool) (xs : List D) : flatF b (.d (.tuple xs)) = flatAll xs := by cases b <;> rfl
@[simp] theorem flatF_o (b : Bool) (fs : List (Str × D)) : flatF b (.ob fs) = true := by cases b <;> rfl
@[simp] theorem flatF_w (b : Bool) (xs : List D) : flatF b (.dw xs) = true := by cases b <;> rfl
@[simp] theorem flatF_tb (b : Bool) (f : Int → Int) (ns : List Int) : flatF b (.tb f ns) = true := by cases b <;> rfl
@[simp] theorem flatF_r (b : Bool) : flatF b .dr = true := by cases b <;> rfl
@[simp] theorem flat_i (i : Int) : flat (.int i) = true := rfl
@[simp] theorem flat_b (i : Bool) : flat (.bool i) = true := rfl
@[simp] theorem flat_n : flat .none = true := rfl
@[simp] theorem flat_s (i : Str) : flat (.str i) = true := rfl
@[simp] theorem flat_t (xs : List D) : flat (.tuple xs) = flatAll xs := rfl
@[simp] theorem flatAll_n : flatAll [] = true := rfl
@[simp] theorem flatAll_c (x : D) (xs : List D) : flatAll (x :: xs) = (flat x && flatAll xs) := rfl
@[simp ↓] def mPar (S1 S2 : List Nat) (i j : Nat) (ma mb : TE3) : TS3 := fun F ρ n e => ma ρ n (fun f1 x n1 => mb ρ n1 (fun f2 y n2 => if flatF f2 y = true then F.nx (bind3 S2 j f2 y (bind3 S1 i f1 x ρ)) n2 else False) e) e
theorem bind_flat {am : Am} {ρ : Ro} {n n' : Nat} {σ : L2.St} {H H' : Hp} (h : Rl am ρ n σ H) (f : FrR am.R H H') (w : Wd am.R am.TL H' n') (S : List Nat) {fr : Bool} {v : V} {u : U} (i : Nat) {O : Addr → Prop} (hO : ∀ a, am.R.hid a → O a) (fl : flatF fr u = true) (r : RepV am O H H' fr v u) : Rl am (bind3 S i fr u ρ) n' (σ.set i (some v)) H' := by
  have h' := h.step f w
  have hh : ∀ p, Hid am ρ σ p → O p ∨ ∃ ys, H' p = some (.lst ys) := fun p z => by
    rcases z with z | ⟨j, z⟩
    · exact .inl (hO p z)
    · exact .inr (h'.ownL z).2.1
  have fz : ∀ {u : U}, flatU u = true → RepU am O H' v u → Rl am ((if flatU u = true then ρ else dem S ρ).set i (.fz u)) n' (σ.set i (some v)) H' := fun fl r => by
    rw [if_pos fl]
    exact h'.setFz i (r.hide hh fl)
  cases fr with
  | false => cases u <;> exact fz fl r.1
  | true =>
    obtain ⟨p, vs, ds, rfl, rfl, np, e, a⟩ := r.2 rfl
    show Rl am ((if flatAll ds = true then ρ else dem S ρ).set i (.ow ds)) n' _ H'
    rw [if_pos (show flatAll ds = true from fl)]
    refine h.setOw f w i np e (RpAll.hide (O := fun a => a = p ∨ O a) (fun q z => ?_) _ _ fl a)
    rcases z with z | z
    · exact .inl (.inl z)
    · exact (hh q z).imp .inr id
theorem if_pos' {c : Prop} [Decidable c] {p : Prop} (h : if c then p else False) : c ∧ p := by
  by_cases hc : c
  · rw [if_pos hc] at h
    exact ⟨hc, h⟩
  · rw [if_neg hc] at h
    exact h.elim
instance {i j : Nat} {ta tb : TE} {S1 S2 : List Nat} {ma mb : TE3} [ha : LE K C TL E ta S1 ma] [hb : LE K C TL E tb S2 mb] : LS K C TL E (tPar i j (tCons ta (tCons tb tNil))) (mPar S1 S2 i j ma mb) where
  s am ρ n σ H D F hE h en hm := by
    refine ha.s am ρ n σ H hE h _ _ hm fun fr x n1 v H1 hq f1 w1 r1 => ?_
    have h1 := h.step f1 w1
    refine hb.s am ρ n1 σ H1 hE h1 _ _ hq fun fr2 y n2 v2 H2 hq2 f2 w2 r2 => ?_
    obtain ⟨fl, hq2⟩ := if_pos' hq2
    refine ⟨v, v2, rfl, en.nx _ n2 _ H2 hq2 ?_⟩
    exact bind_flat (bind_ok h f1 w1 i r1) f2 w2 S2 j (O := Hid am (dem S2 ρ) σ) (fun a z => .inl z) fl r2
/-! a, b = e -/
class HasLen (is : List Nat) (k : Nat) : Prop where
  e : is.length = k
instance : HasLen [] 0 := ⟨rfl⟩
instance {i : Nat} : HasLen [i] 1 := ⟨rfl⟩
instance {i j : Nat} : HasLen [i, j] 2 := ⟨rfl⟩
instance {i j k : Nat} : HasLen [i, j, k] 3 := ⟨rfl⟩
instance {i j k l : Nat} : HasLen [i, j, k, l] 4 := ⟨rfl⟩
@[simp] def setAll : List Nat → List D → Ro → Ro
  | i :: is, d :: ds, ρ => setAll is ds (ρ.set i (.fz (.d d)))
  | _, _, ρ => ρ
/-- a target: the slots, in order -/
class LG (K : PySem.W.Frag) (g : TG) (is : outParam (List Nat)) (tup : outParam Bool) : Prop where
  one : tup = false → ∃ i, is = [i] ∧ g = gName i
  many : tup = true → ∀ (v : V) (σ : L2.St) (H : Hp) (Q : L2.St → Hp → Prop) (a : Addr) (vs : List V), v = .ref a → SqT K H a vs → vs.length = is.length → Q ((is.zip vs).foldl (fun σ p => σ.set p.1 (some p.2)) σ) H → g v σ H Q
class LGs (gs : TGs) (is : outParam (List Nat)) : Prop where
  s : ∀ (vs : List V) (σ : L2.St) (H : Hp) (Q : L2.St → Hp → Prop), vs.length = is.length → Q ((is.zip vs).foldl (fun σ p => σ.set p.1 (some p.2)) σ) H → gs vs σ H Q
instance : LGs gNil [] where
  s vs σ H Q hl q := by
    have e : vs = [] := List.length_eq_zero_iff.mp hl
    subst e
    exact ⟨rfl, q⟩
instance {i : Nat} {gs : TGs} {is : List Nat} [h : LGs gs is] : LGs (gCons (gName i) gs) (i :: is) where
  s vs σ H Q hl q := by
    match vs, hl with
    | v :: vs, hl => exact ⟨v, vs, rfl, h.s vs _ H Q (by simpa using hl) q⟩
instance {i : Nat} : LG K (gName i) [i] false where
  one _ := ⟨i, rfl, rfl⟩
  many z := by cases z
instance {k : Nat} {gs : TGs} {is : List Nat} [h : LGs gs is] [hk : HasLen is k] : LG K (gTup K k gs) is true where
  one z := by cases z
  many _ v σ H Q a vs e hs hl q := ⟨a, vs, e, hs, by rw [hl]; exact hk.e, h.s vs σ H Q hl q⟩
/-- what an item leaves in the slots -/
def giv (is : List Nat) : Bool → D → Ro → (Ro → Prop) → Prop
  | false, d, ρ, k => match is with
    | [i] => k (ρ.set i (.fz (.d d)))
    | _ => False
  | true, .tuple ds, ρ, k => if ds.length = is.length then k (setAll is ds ρ) else False
  | true, _, _, _ => False
@[simp] theorem giv_1 (i : Nat) (d : D) (ρ : Ro) (k : Ro → Prop) : giv [i] false d ρ k = k (ρ.set i (.fz (.d d))) := rfl
@[simp] theorem giv_t (is : List Nat) (ds : List D) (ρ : Ro) (k : Ro → Prop) : giv is true (.tuple ds) ρ k = (if ds.length = is.length then k (setAll is ds ρ) else False) := rfl
theorem setAll_ok {am : Am} {n : Nat} {H : Hp} {O : Addr → Prop} : ∀ {is : List Nat} {ds : List D} {vs : List V} {ρ : Ro} {σ : L2.St}, (∀ a, Hid am ρ σ a → O a) → Rl am ρ n σ H → RpAll am.K (cut O H) vs ds → ds.length = is.length → Rl am (setAll is ds ρ) n ((is.zip vs).foldl (fun σ p => σ.set p.1 (some p.2)) σ) H
  | [], [], _, _, _, _, h, r, _ => by
    cases r
    exact h
  | i :: is, d :: ds, _, ρ, σ, hO, h, r, hl => by
    cases r with
    | cons r1 r2 =>
      show Rl am (setAll is ds (ρ.set i (.fz (.d d)))) n _ H
      exact setAll_ok (σ := σ.set i (some _)) (fun a z => hO a (hid_set (fun ds z => by cases z) z)) (h.setFz i (u := .d d) (Rp.le (Le.cutSub hO) _ _ r1)) r2 (by simpa using hl)
theorem giv_ok {am : Am} {ρ : Ro} {n : Nat} {σ : L2.St} {H : Hp} {g : TG} {is : List Nat} {tup : Bool} (hg : LG am.K g is tup) (h : Rl am ρ n σ H) {O : Addr → Prop} (hO : ∀ a, Hid am ρ σ a → O a) {d : D} {v : V} (r : Rp am.K (cut O H) v d) {k : Ro → Prop} (hk : giv is tup d ρ k) {Q : L2.St → Hp → Prop} (fin : ∀ ρ' σ', k ρ' → Rl am ρ' n σ' H → Q σ' H) : g v σ H Q := by
  cases tup with
  | false =>
    obtain ⟨i, rfl, rfl⟩ := hg.one rfl
    exact fin _ _ hk (h.setFz i (u := .d d) (Rp.le (Le.cutSub hO) _ _ r))
  | true =>
    match d, hk with
    | .tuple ds, hk =>
      obtain ⟨hl, hk⟩ := if_pos' hk
      cases r with
      | tup a1 a2 => exact hg.many rfl _ σ H Q _ _ rfl (SqT.le Le.cutAll a1) (by rw [RpAll.len a2, hl]) (fin _ _ hk (setAll_ok hO h a2 hl))
@[simp ↓] def mSetT (S is : List Nat) (me : TE3) : TS3 := fun F ρ n e => me ρ n (fun _ u n1 => askT u fun ds => giv is true (.tuple ds) (if flatAll ds = true then ρ else dem S ρ) fun ρ' => F.nx ρ' n1) e
instance (priority := low) {te : TE} {g : TG} {S is : List Nat} {me : TE3} [he : LE K C TL E te S me] [hg : LG K g is true] : LS K C TL E (tAsg te g) (mSetT S is me) where
  s am ρ n σ H D F hE h en hm := by
    obtain ⟨rfl, rfl, rfl, rfl⟩ := id hE
    refine he.s am ρ n σ H hE h _ _ hm fun fr u n1 v H1 hq f1 w1 r1 => ?_
    have h1 := h.step f1 w1
    obtain ⟨ds, a, vs, rfl, rfl, a1, a2, hq⟩ := askT_rep hq r1.1
    by_cases fl : flatAll ds = true
    · rw [if_pos fl] at hq
      refine giv_ok hg h1 (O := Hid am ρ σ) (fun a z => z) (Rp.hide (fun p z => ?_) (.tuple ds) _ fl (Rp.tup a1 a2)) hq fun ρ' σ' k r => en.nx ρ' n1 σ' H1 k r
      rcases z with z | ⟨j, z⟩
      · exact .inl (.inl z)
      · exact .inr (h1.ownL z).2.1
    · rw [if_neg fl] at hq
      exact giv_ok hg (h1.dem S) (fun a z => z) (Rp.tup a1 a2) hq fun ρ' σ' k r => en.nx ρ' n1 σ' H1 k r
end
end V3
set_option Elab.async false
set_option linter.all false
set_option maxRecDepth 100000
set_option maxHeartbeats 4000000
namespace V3
open PySem PySem.Spec PyProof.Rows L2
/-! ### what a loop walks -/
abbrev TI3 := Ro → Nat → (List D → Nat → Prop) → (Addr → Prop) → Prop
/-- J gives the items ds, as long as what is not in O stands -/
def ItOk (am : Am) (O : Addr → Prop) (J : It) (ds : List D) (H' : Hp) : Prop :=
  ∀ (H2 : Hp) (O2 : Addr → Prop), Le (cut O H') (cut O2 H2) → (∀ a, O2 a → There H2 a) → ∀ i, (∀ d, ds[i]? = some d → J.go i H2 ∧ ∀ x H3, J.yld i H2 x H3 → Same H2 H3 ∧ Rp am.K (cut O2 H3) x d) ∧ (ds.length ≤ i → J.stop i H2)
class LI (K : PySem.W.Frag) (C : Addr) (TL : List (Addr × Str)) (E : XK) (wi : TI) (S : outParam (List Nat)) (m : outParam TI3) : Prop where
  s : ∀ (am : Am) (ρ : Ro) (n : Nat) (σ : L2.St) (H : Hp), am.K = K ∧ am.TL = TL ∧ am.E = E ∧ am.C = C → Rl am ρ n σ H → ∀ (R : It → Hp → Prop) (q : List D → Nat → Prop), m ρ n q am.e →
    (∀ ds n' J H', q ds n' → FrR am.R H H' → Wd am.R am.TL H' n' → ItOk am (Hid am (dem S ρ) σ) J ds H' → R J H') → wi σ H R
section
variable {K : PySem.W.Frag} {C : Addr} {TL : List (Addr × Str)} {E : XK}
theorem it_lst {am : Am} {O : Addr → Prop} {a : Addr} {vs : List V} {ds : List D} {H : Hp} (h : cut O H a = some (.lst vs)) (r : RpAll am.K (cut O H) vs ds) : ItOk am O (Itl am.K a) ds H := fun H2 O2 le _ i => by
  have h2 := (cut_some.mp (le _ _ (fun ps z => by cases z) h)).2
  have r2 := RpAll.le le _ _ r
  refine ⟨fun d e => ?_, fun e => ⟨vs, SqL.of h2, by rw [RpAll.len r]; exact e⟩⟩
  obtain ⟨v, q1, q2⟩ := RpAll.get r2 e
  refine ⟨⟨vs, v, SqL.of h2, q1⟩, fun x H3 y => ?_⟩
  obtain ⟨rfl, y2⟩ := y
  have e3 := y2 vs (SqL.of h2)
  rw [q1] at e3
  cases e3
  exact ⟨Same.refl _, q2⟩
theorem it_tup {am : Am} {O : Addr → Prop} {a : Addr} {vs : List V} {ds : List D} {H : Hp} (h : SqT am.K (cut O H) a vs) (r : RpAll am.K (cut O H) vs ds) : ItOk am O (Itt am.K a) ds H := fun H2 O2 le _ i => by
  have h2 := SqT.le Le.cutAll (SqT.le le h)
  have r2 := RpAll.le le _ _ r
  refine ⟨fun d e => ?_, fun e => ⟨vs, h2, by rw [RpAll.len r]; exact e⟩⟩
  obtain ⟨v, q1, q2⟩ := RpAll.get r2 e
  refine ⟨⟨vs, v, h2, q1⟩, fun x H3 y => ?_⟩
  obtain ⟨rfl, y2⟩ := y
  have e3 := y2 vs h2
  rw [q1] at e3
  cases e3
  exact ⟨Same.refl _, q2⟩
/-- a list or a tuple -/
def iSeq (K : PySem.W.Frag) (te : TE) : TI := fun σ H R => te σ H fun v H1 => ∃ a, v = .ref a ∧ (((∃ xs, SqL K H1 a xs) ∧ R (Itl K a) H1) ∨ ((∃ xs, SqT K H1 a xs) ∧ R (Itt K a) H1))
theorem pi_seq {X : Cx} {tg l : Expr} {tl : TE} (hl : PE X l tl) : PI X tg l (iSeq X.K tl) := by
  refine ⟨fun pins s σ H R I h => ?_⟩
  refine thn (hl.run pins s σ H _ I h) fun v s1 ⟨x, H1, I1, r1, a, e, q⟩ => ?_
  have pe : ∀ {t : TE}, (∀ Q, t σ H1 Q → Q (.ref a) H1) → True := fun _ => trivial
  rcases q with ⟨⟨xs, hq⟩, q⟩ | ⟨⟨xs, hq⟩, q⟩
  · subst e
    cases r1
    obtain ⟨its, rv, p, hz⟩ := I1.list hq
    refine wpAny_pyIter_list p.isList ?_
    refine ⟨s1.heap.objs.size, [s1.heap.objs.size], _, _, H1, rfl, I1.kept (t' := s1.toks) fun b o e => Heap.get?_push_of_some _ e, turn_list a _, ⟨_, Heap.get?_push_size _ rfl, rfl, rfl⟩, fun b hb => ?_, q⟩
    have e : b = s1.heap.objs.size := by simpa using hb
    subst e
    exact I1.fpOk (Nat.le_refl _) (I1.hok.fresh (Nat.le_refl _))
  · subst e
    cases r1
    obtain ⟨its, rv, p, hz⟩ := I1.tuple hq
    refine wpAny_pyIter_tuple (show s1.heap.IsTuple a its.toArray from p) ?_
    refine ⟨s1.heap.objs.size, [s1.heap.objs.size], _, _, H1, rfl, I1.kept (t' := s1.toks) fun b o e => Heap.get?_push_of_some _ e, turn_tuple a _, ⟨_, Heap.get?_push_size _ rfl, rfl, rfl⟩, fun b hb => ?_, q⟩
    have e : b = s1.heap.objs.size := by simpa using hb
    subst e
    exact I1.fpOk (Nat.le_refl _) (I1.hok.fresh (Nat.le_refl _))
def askS : U → (List D → Prop) → Prop
  | .d (.list i), k => k i
  | .d (.tuple i), k => k i
  | _, _ => False
@[simp] theorem askS_l (i : List D) (k : List D → Prop) : askS (.d (.list i)) k = k i := rfl
@[simp] theorem askS_t (i : List D) (k : List D → Prop) : askS (.d (.tuple i)) k = k i := rfl
@[simp ↓] def mISeq (me : TE3) : TI3 := fun ρ n q e => me ρ n (fun _ u n1 => askS u fun ds => q ds n1) e
instance {te : TE} {S : List Nat} {me : TE3} [he : LE K C TL E te S me] : LI K C TL E (iSeq K te) S (mISeq me) where
  s am ρ n σ H hE h R q hm k := by
    obtain ⟨rfl, rfl, rfl, rfl⟩ := id hE
    refine he.s am ρ n σ H hE h _ _ hm fun fr u n1 v H1 hq f1 w1 r1 => ?_
    match u, hq, r1.1 with
    | .d (.list ds), hq, r =>
      cases r with
      | lst a1 a2 => exact ⟨_, rfl, .inl ⟨⟨_, SqL.of (cut_some.mp a1).2⟩, k ds n1 _ H1 hq f1 w1 (it_lst a1 a2)⟩⟩
    | .d (.tuple ds), hq, r =>
      cases r with
      | tup a1 a2 => exact ⟨_, rfl, .inr ⟨⟨_, SqT.le Le.cutAll a1⟩, k ds n1 _ H1 hq f1 w1 (it_tup a1 a2)⟩⟩
/-- the numbers from lo on, k of them -/
def upFrom (lo : Int) (k : Nat) : List D := (List.range k).map fun i => .int (lo + (i : Nat))
theorem it_rng {am : Am} {O : Addr → Prop} {lo : Int} {k : Nat} {H : Hp} : ItOk am O (Itr lo k) (upFrom lo k) H := fun H2 O2 le _ i => by
  unfold upFrom
  refine ⟨fun d e => ?_, fun e => ?_⟩
  · rw [List.getElem?_map] at e
    cases q : (List.range k)[i]? with
    | none =>
      rw [q] at e
      cases e
    | some j =>
      rw [q] at e
      cases e
      obtain ⟨hi, hj⟩ := List.getElem?_eq_some_iff.mp q
      rw [List.length_range] at hi
      rw [List.getElem_range] at hj
      subst hj
      refine ⟨hi, fun x H3 y => ?_⟩
      obtain ⟨rfl, rfl⟩ := y
      exact ⟨Same.refl _, .int _⟩
  · rw [List.length_map, List.length_range] at e
    exact e
@[simp ↓] def mIRng1 (ma : TA3) : TI3 := fun ρ n q e => ma ρ n (fun us n1 => match us with
  | [.d (.int j)] => (-(2 ^ 62) ≤ j ∧ j < 2 ^ 62) ∧ q (upFrom 0 j.toNat) n1
  | _ => False) e
instance {ta : TA} {S : List Nat} {ma : TA3} [ha : LA K C TL E ta S ma] : LI K C TL E (iRng1 ta) [] (mIRng1 ma) where
  s am ρ n σ H hE h R q hm k := by
    refine ha.s am ρ n σ H hE h _ _ hm fun us n1 vs H1 hq f1 w1 r1 => ?_
    match us, hq, r1 with
    | [.d (.int j)], hq, .cons r .nil =>
      cases r
      exact ⟨j, rfl, hq.1.1, hq.1.2, k _ n1 _ H1 hq.2 f1 w1 it_rng⟩
@[simp ↓] def mIRng2 (ma : TA3) : TI3 := fun ρ n q e => ma ρ n (fun us n1 => match us with
  | [.d (.int i), .d (.int j)] => (-(2 ^ 62) ≤ i ∧ i < 2 ^ 62 ∧ -(2 ^ 62) ≤ j ∧ j < 2 ^ 62) ∧ q (upFrom i (j - i).toNat) n1
  | _ => False) e
instance {ta : TA} {S : List Nat} {ma : TA3} [ha : LA K C TL E ta S ma] : LI K C TL E (iRng2 ta) [] (mIRng2 ma) where
  s am ρ n σ H hE h R q hm k := by
    refine ha.s am ρ n σ H hE h _ _ hm fun us n1 vs H1 hq f1 w1 r1 => ?_
    match us, hq, r1 with
    | [.d (.int i), .d (.int j)], hq, .cons r (.cons r2 .nil) =>
      cases r
      cases r2
      exact ⟨i, j, rfl, hq.1, k _ n1 _ H1 hq.2 f1 w1 it_rng⟩
/-! ### for -/
@[simp] def forL (is : List Nat) (tup : Bool) (mb : TS3) (F : En3) (e : Addr → Prop) : List D → Ro → Nat → Prop
  | [], ρ, n => F.nx ρ n
  | d :: ds, ρ, n => giv is tup d ρ fun ρ' => mb { F with nx := forL is tup mb F e ds, ct := forL is tup mb F e ds, bk := F.nx } ρ' n e
@[simp ↓] def mFor (S is : List Nat) (tup : Bool) (mi : TI3) (mb : TS3) : TS3 := fun F ρ n e => mi ρ n (fun ds n1 => forL is tup mb F e ds (dem S ρ) n1) e
/-- the loop's own start -/
def loopAm (am : Am) (ρ : Ro) (σ : L2.St) (H : Hp) : Am := { am with Hs := H, O0 := fun a => (∃ d g c, am.R.dr = some (d, g, c) ∧ (a = d ∨ a = g)) ∨ ∃ i, OwnAt ρ σ i a }
theorem loop_gr {am : Am} {ρ : Ro} {n : Nat} {σ : L2.St} {H H' : Hp} (h : Rl am ρ n σ H) (g : Gr (loopAm am ρ σ H) H') : Gr am H' := ⟨fun b o h1 h2 e => by
  refine g.1 b o (fun z => ?_) h2 (h.gr.1 b o h1 h2 e)
  rcases z with ⟨d, g', c, q, z⟩ | ⟨i, z⟩
  · obtain ⟨a1, a2⟩ := h.od d g' c q
    rcases z with z | z
    · exact h1 (z ▸ a1)
    · exact h1 (z ▸ a2)
  · rcases (h.ownL z).1 with y | y
    · exact y ⟨o, e, h2⟩
    · exact h1 y, fun b z => g.2 b (h.gr.2 b z)⟩
theorem loop_in {am : Am} {ρ : Ro} {n : Nat} {σ : L2.St} {H : Hp} (h : Rl am ρ n σ H) : Rl (loopAm am ρ σ H) ρ n σ H where
  len := h.len
  fz := h.fz
  ow i ds e := by
    obtain ⟨p, vs, q1, q2, q3, q4⟩ := h.ow i ds e
    exact ⟨p, vs, q1, ⟨.inr (.inr ⟨i, ⟨ds, e⟩, q1⟩), q2.2⟩, q3, q4⟩
  nd := h.nd
  od d g c q := ⟨.inl ⟨d, g, c, q, .inl rfl⟩, .inl ⟨d, g, c, q, .inr rfl⟩⟩
  gr := ⟨fun _ _ _ _ e => e, fun _ e => e⟩
  wd := h.wd
  ex C' H' n' g w e := h.ex C' H' n' (loop_gr h g) w e
theorem loop_new {am : Am} {ρ : Ro} {n : Nat} {σ : L2.St} {H : Hp} (h : Rl am ρ n σ H) {p : Addr} (z : (New H p ∨ (loopAm am ρ σ H).O0 p) ∧ ¬ am.R.hid p) : (New am.Hs p ∨ am.O0 p) ∧ ¬ am.R.hid p := by
  refine ⟨?_, z.2⟩
  rcases z.1 with y | ⟨d, g, c, q, y⟩ | ⟨i, y⟩
  · exact (by
      by_cases o : am.O0 p
      · exact .inr o
      · exact .inl fun ⟨x, q1, q2⟩ => y ⟨x, h.gr.1 p x o q2 q1, q2⟩)
  · obtain ⟨a1, a2⟩ := h.od d g c q
    rcases y with y | y
    · exact .inr (y ▸ a1)
    · exact .inr (y ▸ a2)
  · exact (h.ownL y).1
theorem loop_out {am : Am} {ρ ρ2 : Ro} {n n2 : Nat} {σ σ2 : L2.St} {H H2 : Hp} (h : Rl am ρ n σ H) (g : Rl (loopAm am ρ σ H) ρ2 n2 σ2 H2) : Rl am ρ2 n2 σ2 H2 where
  len := g.len
  fz := g.fz
  ow i ds e := by
    obtain ⟨p, vs, q1, q2, q3, q4⟩ := g.ow i ds e
    exact ⟨p, vs, q1, loop_new h q2, q3, q4⟩
  nd := g.nd
  od := h.od
  gr := loop_gr h g.gr
  wd := g.wd
  ex := h.ex
theorem loop_en {am : Am} {ρ : Ro} {n : Nat} {σ : L2.St} {H : Hp} {D : Ends} {F : En3} (h : Rl am ρ n σ H) (en : EnR am D F) : EnR (loopAm am ρ σ H) D F where
  nx ρ' n' σ' H' q r := en.nx ρ' n' σ' H' q (loop_out h r)
  bk ρ' n' σ' H' q r := en.bk ρ' n' σ' H' q (loop_out h r)
  ct ρ' n' σ' H' q r := en.ct ρ' n' σ' H' q (loop_out h r)
  rt fr u n' v H' q g w r := en.rt fr u n' v H' q (loop_gr h g) w ⟨r.1, fun z => by
    obtain ⟨p, vs, ds, a1, a2, a3, a4, a5⟩ := r.2 z
    exact ⟨p, vs, ds, a1, a2, loop_new h a3, a4, a5⟩⟩
theorem loop_le {am : Am} {ρ ρ2 : Ro} {n n2 : Nat} {σ σ2 : L2.St} {H H2 : Hp} (h : Rl am ρ n σ H) (g : Rl (loopAm am ρ σ H) ρ2 n2 σ2 H2) : Le (cut (Hid am ρ σ) H) (cut (Hid am ρ σ) H2) ∧ ∀ a, Hid am ρ σ a → There H2 a := by
  refine ⟨Le.cut (fun a z => .inl z) fun a o hn t e => g.gr.1 a o (fun z => ?_) t e, fun a z => g.gr.2 a (h.hidThere z)⟩
  rcases z with ⟨d, g', c, q, z⟩ | ⟨i, z⟩
  · obtain ⟨a1, a2, _, _⟩ := h.wd.dr d g' c q
    rcases z with z | z
    · exact hn (.inl (z ▸ a1))
    · exact hn (.inl (z ▸ a2))
  · exact hn (.inr ⟨i, z⟩)
instance {wi : TI} {g : TG} {tb : TS} {S is : List Nat} {tup : Bool} {mi : TI3} {mb : TS3} [hi : LI K C TL E wi S mi] [hg : LG K g is tup] [hb : LS K C TL E tb mb] : LS K C TL E (tFor wi g tb) (mFor S is tup mi mb) where
  s am ρ n σ H D F hE h en hm := by
    obtain ⟨rfl, rfl, rfl, rfl⟩ := id hE
    refine hi.s am ρ n σ H hE h _ _ hm fun ds n1 J H1 hq f1 w1 it => ?_
    have h1 := (h.step f1 w1).dem S
    have hE' : (loopAm am (dem S ρ) σ H1).K = am.K ∧ (loopAm am (dem S ρ) σ H1).TL = am.TL ∧ (loopAm am (dem S ρ) σ H1).E = am.E ∧ (loopAm am (dem S ρ) σ H1).C = am.C := ⟨rfl, rfl, rfl, rfl⟩
    refine ⟨fun i m σ2 H2 => m = ds.length - i ∧ i ≤ ds.length ∧ ∃ ρ2 n2, forL is tup mb F am.e (ds.drop i) ρ2 n2 ∧ Rl (loopAm am (dem S ρ) σ H1) ρ2 n2 σ2 H2, ⟨ds.length, by simp, Nat.zero_le _, dem S ρ, n1, hq, loop_in h1⟩, fun i m σ2 H2 w => ?_⟩
    obtain ⟨rfl, hi', ρ2, n2, hf, r2⟩ := w
    have nd : ∀ a, Hid (loopAm am (dem S ρ) σ H1) ρ2 σ2 a → (Hid am (dem S ρ) σ a ∨ New H1 a) := fun a z => by
      rcases z with z | ⟨j, z⟩
      · exact .inl (.inl z)
      · rcases (r2.ownL z).1 with y | ⟨d, g', c, q, y⟩ | y
        · exact .inr y
        · obtain ⟨a1, a2, _, _⟩ := h1.wd.dr d g' c q
          rcases y with y | y
          · exact .inl (.inl (y ▸ a1))
          · exact .inl (.inl (y ▸ a2))
        · exact .inl (.inr y)
    have le : Le (cut (Hid am (dem S ρ) σ) H1) (cut (Hid (loopAm am (dem S ρ) σ H1) ρ2 σ2) H2) := Le.cut nd fun a o hn t e => (cut_some.mp ((loop_le h1 r2).1 a o t (cut_some.mpr ⟨hn, e⟩))).2
    obtain ⟨it1, it2⟩ := it H2 _ le (fun a z => r2.hidThere z) i
    by_cases hlt : i < ds.length
    · have e : ds[i]? = some ds[i] := List.getElem?_eq_getElem hlt
      obtain ⟨go, y⟩ := it1 _ e
      refine .inr ⟨go, fun σ' H' => ∃ ρ' n', forL is tup mb F am.e (ds.drop (i + 1)) ρ' n' ∧ Rl (loopAm am (dem S ρ) σ H1) ρ' n' σ' H', fun σ' H' p => ⟨ds.length - (i + 1), by omega, rfl, hlt, p⟩, fun x H3 yl => ?_⟩
      obtain ⟨sm, rx⟩ := y x H3 yl
      rw [List.drop_eq_getElem_cons hlt] at hf
      have r3 := r2.step (FrR.of sm) (r2.wd.same sm)
      have r3' := r3
      refine giv_ok (am := loopAm am (dem S ρ) σ H1) hg r3 (O := Hid (loopAm am (dem S ρ) σ H1) ρ2 σ2) (fun a z => z) rx hf fun ρ4 σ4 hk r4 => ?_
      refine hb.s (loopAm am (dem S ρ) σ H1) ρ4 n2 σ4 H3 _ { F with nx := forL is tup mb F am.e (ds.drop (i + 1)), ct := forL is tup mb F am.e (ds.drop (i + 1)), bk := F.nx } hE' r4 ⟨fun ρ' n' σ' H' q r => ⟨ρ', n', q, r⟩, fun ρ' n' σ' H' q r => en.nx ρ' n' σ' H' q (loop_out h1 r), fun ρ' n' σ' H' q r => ⟨ρ', n', q, r⟩, (loop_en h1 en).rt⟩ hk
    · have e : i = ds.length := by omega
      subst e
      rw [List.drop_length] at hf
      exact .inl ⟨it2 (Nat.le_refl _), en.nx ρ2 n2 σ2 H2 hf (loop_out h1 r2)⟩
/-! ### comprehensions -/
@[simp] def lcL (is : List Nat) (tup : Bool) (mt : TT3) (me : TE3) (ρ : Ro) (e : Addr → Prop) : List D → Nat → (List D → Nat → Prop) → Prop
  | [], n, q => q [] n
  | d :: ds, n, q => giv is tup d ρ fun ρ' => mt ρ' n (fun b n1 => if b = true then me ρ' n1 (fun _ u n2 => match u with
    | .d x => lcL is tup mt me ρ e ds n2 fun xs n3 => q (x :: xs) n3
    | _ => False) e else lcL is tup mt me ρ e ds n1 q) e
@[simp] def wipe3 (ρ : Ro) : List Nat → Ro
  | [] => ρ
  | v :: vs => (wipe3 ρ vs).set v .no
theorem wipe_ok {am : Am} {ρ : Ro} {n : Nat} {σ : L2.St} {H : Hp} (h : Rl am ρ n σ H) : ∀ vs : List Nat, Rl am (wipe3 ρ vs) n (wipe σ vs) H
  | [] => h
  | v :: vs => (wipe_ok h vs).setNo v none
theorem wipe_hid {am : Am} {ρ : Ro} {σ : L2.St} {a : Addr} : ∀ {vs : List Nat}, Hid am (wipe3 ρ vs) (wipe σ vs) a → Hid am ρ σ a
  | [], h => h
  | v :: vs, h => wipe_hid (vs := vs) (hid_set (fun ds z => by cases z) h)
theorem wipe_set {σ : L2.St} {i : Nat} {x : Option V} : ∀ {vs : List Nat}, i ∈ vs → wipe (σ.set i x) vs = wipe σ vs
  | [], h => by cases h
  | v :: vs, h => by
    show (wipe (σ.set i x) vs).set v none = (wipe σ vs).set v none
    by_cases e : i = v
    · subst e
      have q : ∀ ws : List Nat, (wipe (σ.set i x) ws).set i none = (wipe σ ws).set i none := fun ws => by
        induction ws with
        | nil =>
          show (σ.set i x).set i none = σ.set i none
          rw [List.set_set]
        | cons w ws ih =>
          show ((wipe (σ.set i x) ws).set w none).set i none = ((wipe σ ws).set w none).set i none
          by_cases z : w = i
          · subst z
            rw [List.set_set, List.set_set, ih]
          · rw [List.set_comm _ _ z, List.set_comm _ _ z, ih]
      exact q vs
    · rcases List.mem_cons.mp h with z | z
      · exact absurd z e
      · rw [wipe_set z]
theorem wipe_fold {vs is : List Nat} (hs : ∀ i ∈ is, i ∈ vs) : ∀ {xs : List V} {σ : L2.St}, wipe ((is.zip xs).foldl (fun σ p => σ.set p.1 (some p.2)) σ) vs = wipe σ vs := by
  induction is with
  | nil =>
    intro xs σ
    rfl
  | cons i is ih =>
    intro xs σ
    cases xs with
    | nil => rfl
    | cons x xs =>
      show wipe ((is.zip xs).foldl _ (σ.set i (some x))) vs = _
      rw [ih fun j hj => hs j (List.mem_cons_of_mem _ hj), wipe_set (hs i (List.mem_cons_self ..))]
theorem wipe_idem (σ : L2.St) (vs : List Nat) : wipe (wipe σ vs) vs = wipe σ vs := by
  have q : ∀ ws : List Nat, (∀ w ∈ ws, w ∈ vs) → wipe (wipe σ ws) vs = wipe σ vs := fun ws => by
    induction ws with
    | nil => intro _; rfl
    | cons w ws ih =>
      intro h
      show wipe ((wipe σ ws).set w none) vs = _
      rw [wipe_set (h w (List.mem_cons_self ..)), ih fun z hz => h z (List.mem_cons_of_mem _ hz)]
  exact q vs fun _ z => z
/-- as giv_ok, with what the frame is behind it -/
theorem giv_ok2 {am : Am} {ρ : Ro} {n : Nat} {σ : L2.St} {H : Hp} {g : TG} {is : List Nat} {tup : Bool} (hg : LG am.K g is tup) (h : Rl am ρ n σ H) {O : Addr → Prop} (hO : ∀ a, Hid am ρ σ a → O a) {d : D} {v : V} (r : Rp am.K (cut O H) v d) {k : Ro → Prop} (hk : giv is tup d ρ k) {Q : L2.St → Hp → Prop} {vs : List Nat} (hv : ∀ i ∈ is, i ∈ vs) (fin : ∀ ρ' σ', k ρ' → Rl am ρ' n σ' H → (∀ i, i ∉ vs → ρ'[i]? = ρ[i]?) → wipe σ' vs = wipe σ vs → Q σ' H) : g v σ H Q := by
  cases tup with
  | false =>
    obtain ⟨i, rfl, rfl⟩ := hg.one rfl
    exact fin _ _ hk (h.setFz i (u := .d d) (Rp.le (Le.cutSub hO) _ _ r)) (fun j hj => List.getElem?_set_ne fun z => hj (by rw [← z]; exact hv i (List.mem_singleton.mpr rfl))) (wipe_set (hv i (List.mem_singleton.mpr rfl)))
  | true =>
    match d, hk with
    | .tuple ds, hk =>
      obtain ⟨hl, hk⟩ := if_pos' hk
      cases r with
      | tup a1 a2 =>
        refine hg.many rfl _ σ H Q _ _ rfl (SqT.le Le.cutAll a1) (by rw [RpAll.len a2, hl]) (fin _ _ hk (setAll_ok hO h a2 hl) ?_ (wipe_fold hv))
        have q : ∀ (is : List Nat) (ds : List D) (ρ : Ro), (∀ i ∈ is, i ∈ vs) → ∀ j, j ∉ vs → (setAll is ds ρ)[j]? = ρ[j]? := fun is => by
          induction is with
          | nil =>
            intro ds ρ _ j _
            cases ds <;> rfl
          | cons i is ih =>
            intro ds ρ hs j hj
            cases ds with
            | nil => rfl
            | cons d ds =>
              show (setAll is ds (ρ.set i (.fz (.d d))))[j]? = _
              rw [ih ds _ (fun k hk => hs k (List.mem_cons_of_mem _ hk)) j hj]
              exact List.getElem?_set_ne fun z => hj (by rw [← z]; exact hs i (List.mem_cons_self ..))
        exact q is ds ρ hv
theorem wipe_get {σ : L2.St} : ∀ {vs : List Nat} {i : Nat}, i ∉ vs → (wipe σ vs)[i]? = σ[i]?
  | [], _, _ => rfl
  | v :: vs, i, h => by
    show ((wipe σ vs).set v none)[i]? = _
    rw [List.getElem?_set_ne fun z => h (by rw [z]; exact List.mem_cons_self ..), wipe_get fun z => h (List.mem_cons_of_mem _ z)]
theorem wipe3_get {ρ : Ro} : ∀ {vs : List Nat} {i : Nat}, i ∉ vs → (wipe3 ρ vs)[i]? = ρ[i]?
  | [], _, _ => rfl
  | v :: vs, i, h => by
    show ((wipe3 ρ vs).set v .no)[i]? = _
    rw [List.getElem?_set_ne fun z => h (by rw [z]; exact List.mem_cons_self ..), wipe3_get fun z => h (List.mem_cons_of_mem _ z)]
/-- within a comprehension: its list is hidden, nothing is raised -/
def lcAm (am : Am) (Dl : Addr) : Am := { am with R := { am.R with hid := fun a => am.R.hid a ∨ a = Dl }, Hs := fun _ => none, O0 := fun a => ∃ d g c, am.R.dr = some (d, g, c) ∧ (a = d ∨ a = g), e := fun _ => False }
theorem lc_fr {am : Am} {Dl : Addr} {H H' : Hp} : FrR (lcAm am Dl).R H H' ↔ FrR am.R H H' := Iff.rfl
theorem lc_rep {am : Am} {Dl : Addr} {O : Addr → Prop} {H : Hp} {v : V} {u : U} : RepU (lcAm am Dl) O H v u ↔ RepU am O H v u := by
  cases u <;> exact Iff.rfl
theorem lc_hid {am : Am} {Dl : Addr} {ρ : Ro} {σ : L2.St} {a : Addr} : Hid (lcAm am Dl) ρ σ a ↔ (a = Dl ∨ Hid am ρ σ a) := by
  constructor
  · intro z
    rcases z with (z | z) | z
    · exact .inr (.inl z)
    · exact .inl z
    · exact .inr (.inr z)
  · intro z
    rcases z with z | z | z
    · exact .inl (.inr z)
    · exact .inl (.inl z)
    · exact .inr z
theorem lc_in {am : Am} {ρ : Ro} {n : Nat} {σ : L2.St} {H : Hp} (h : Rl am ρ n σ H) {Dl : Addr} (hD : H Dl = none) : Rl (lcAm am Dl) ρ n σ (upd H Dl (.lst [])) := by
  have L : Le (cut (Hid am ρ σ) H) (cut (Hid (lcAm am Dl) ρ σ) (upd H Dl (.lst []))) := Le.cut (fun a z => by
    rcases lc_hid.mp z with z | z
    · exact .inr (z ▸ .of hD)
    · exact .inl z) fun a o _ _ e => same_new hD a o e
  have w := h.wd.same (same_new (o := .lst []) hD)
  exact {
    len := h.len
    fz := fun i u e => by
      obtain ⟨v, q1, q2⟩ := h.fz i u e
      exact ⟨v, q1, lc_rep.mpr (q2.le L)⟩
    ow := fun i ds e => by
      obtain ⟨p, vs, q1, q2, q3, q4⟩ := h.ow i ds e
      refine ⟨p, vs, q1, ⟨.inl fun ⟨o, z, _⟩ => (by cases z), fun z => ?_⟩, same_new hD _ _ q3, RpAll.le L _ _ q4⟩
      rcases z with z | z
      · exact q2.2 z
      · rw [z, hD] at q3
        cases q3
    nd := h.nd
    od := fun d g c q => ⟨⟨d, g, c, q, .inl rfl⟩, ⟨d, g, c, q, .inr rfl⟩⟩
    gr := ⟨fun _ _ _ _ z => (by cases z), fun _ ⟨_, z, _⟩ => (by cases z)⟩
    wd := {
      hid := fun a z => by
        rcases z with z | z
        · exact w.hid a z
        · exact z ▸ .lst upd_same
      tabs := w.tabs
      dr := fun d g c q => by
        obtain ⟨a1, a2, a3, r⟩ := w.dr d g c q
        exact ⟨.inl a1, .inl a2, .inl a3, r⟩ }
    ex := fun _ _ _ _ _ z => z.elim }
/-- the comprehension's list is written -/
theorem lc_write {am : Am} {ρ : Ro} {n : Nat} {σ : L2.St} {H : Hp} {Dl : Addr} (hd : ∀ d g c, am.R.dr = some (d, g, c) → Dl ≠ d ∧ Dl ≠ g ∧ Dl ≠ c) (h : Rl (lcAm am Dl) ρ n σ H) {xs ys : List V} (e : H Dl = some (.lst xs)) : Rl (lcAm am Dl) ρ n σ (upd H Dl (.lst ys)) := by
  have L : Le (cut (Hid (lcAm am Dl) ρ σ) H) (cut (Hid (lcAm am Dl) ρ σ) (upd H Dl (.lst ys))) := Le.cut (fun a z => .inl z) fun a o hn t e => by
    have ne : a ≠ Dl := fun z => hn (lc_hid.mpr (.inl z))
    rw [upd_ne ne]
    exact e
  exact {
    len := h.len
    fz := fun i u e => by
      obtain ⟨v, q1, q2⟩ := h.fz i u e
      exact ⟨v, q1, q2.le L⟩
    ow := fun i ds e => by
      obtain ⟨p, vs, q1, q2, q3, q4⟩ := h.ow i ds e
      have ne : p ≠ Dl := fun z => q2.2 (.inr z)
      exact ⟨p, vs, q1, q2, by rw [upd_ne ne]; exact q3, RpAll.le L _ _ q4⟩
    nd := h.nd
    od := h.od
    gr := ⟨fun _ _ _ _ z => (by cases z), fun _ ⟨_, z, _⟩ => (by cases z)⟩
    wd := {
      hid := fun a z => by
        by_cases ne : a = Dl
        · exact ne ▸ .lst upd_same
        · obtain ⟨o, q1, q2⟩ := h.wd.hid a z
          exact ⟨o, by rw [upd_ne ne]; exact q1, q2⟩
      tabs := tabs_keep (fun b o h1 _ q => by
        have ne : b ≠ Dl := fun z => by
          rw [z, e] at q
          cases q
          exact h1 _ rfl
        rw [upd_ne ne]
        exact q) h.wd.tabs
      dr := fun d g c q => by
        obtain ⟨a1, a2, a3, t, ht, hr⟩ := h.wd.dr d g c q
        refine ⟨a1, a2, a3, t, ht, hr.same fun b o hb q' => ?_⟩
        have ne : b ≠ Dl := fun z => by
          obtain ⟨b1, b2, b3⟩ := hd d g c q
          rcases hb with y | y | y
          · exact b1 (z.symm.trans y)
          · exact b2 (z.symm.trans y)
          · exact b3 (z.symm.trans y)
        rw [upd_ne ne]
        exact q' }
    ex := fun _ _ _ _ _ z => z.elim }
class SubL (is vs : List Nat) : Prop where
  h : ∀ i ∈ is, i ∈ vs
instance {vs : List Nat} : SubL vs vs := ⟨fun _ z => z⟩
instance {a : Str} {i : Nat} : SubL [i] (List.map (fun (x : Str × Nat) => x.snd) [(a, i)]) := ⟨fun _ z => z⟩
instance {a b : Str} {i j : Nat} : SubL [i, j] (List.map (fun (x : Str × Nat) => x.snd) [(a, i), (b, j)]) := ⟨fun _ z => z⟩
instance {a b c : Str} {i j k : Nat} : SubL [i, j, k] (List.map (fun (x : Str × Nat) => x.snd) [(a, i), (b, j), (c, k)]) := ⟨fun _ z => z⟩
instance {a b c d : Str} {i j k l : Nat} : SubL [i, j, k, l] (List.map (fun (x : Str × Nat) => x.snd) [(a, i), (b, j), (c, k), (d, l)]) := ⟨fun _ z => z⟩
@[simp ↓] def mLc (Si is vs : List Nat) (tup : Bool) (mi : TI3) (mt : TT3) (me : TE3) : TE3 := fun ρ n q e => mi ρ n (fun ds n1 => ds.length < sizeLine ∧ lcL is tup mt me (wipe3 (dem Si ρ) vs) (fun _ => False) ds n1 (fun xs n2 => q true (.d (.list xs)) n2)) e
instance {wi : TI} {g : TG} {tt : TT} {te : TE} {vs : List Nat} {Si Se is : List Nat} {tup : Bool} {mi : TI3} {mt : TT3} {me : TE3} [hi : LI K C TL E wi Si mi] [hg : LG K g is tup] [hsub : SubL is vs] [ht : LT K C TL E tt mt] [he : LE K C TL E te Se me] : LE K C TL E (tLc wi g tt te vs) (Si ++ (Se ++ vs)) (mLc Si is vs tup mi mt me) where
  s am ρ n σ H hE h Q q hm k := by
    obtain ⟨rfl, rfl, rfl, rfl⟩ := id hE
    refine hi.s am ρ n σ H hE h _ _ hm fun ds n1 J H1 hq f1 w1 it => ?_
    obtain ⟨hz, hq⟩ := hq
    have h1 := h.step f1 w1
    have h1d := h1.dem Si
    intro Dl hD
    have hE' : (lcAm am Dl).K = am.K ∧ (lcAm am Dl).TL = am.TL ∧ (lcAm am Dl).E = am.E ∧ (lcAm am Dl).C = am.C := ⟨rfl, rfl, rfl, rfl⟩
    have hd : ∀ d g c, am.R.dr = some (d, g, c) → Dl ≠ d ∧ Dl ≠ g ∧ Dl ≠ c := fun d g' c q' => by
      obtain ⟨a1, a2, a3, _⟩ := w1.dr d g' c q'
      have nh : ∀ a, am.R.hid a → Dl ≠ a := fun a ha z => (New.of hD) (z ▸ w1.hid a ha)
      exact ⟨nh d a1, nh g' a2, nh c a3⟩
    have nd : New H1 Dl := .of hD
    have h0 := wipe_ok (lc_in h1d hD) vs
    have fD : FrR am.R H1 (upd H1 Dl (.lst [])) := .of (same_new hD)
    -- what is hidden from the items made
    have sub : ∀ (ρ' : Ro) (σ' : L2.St), (∀ i, i ∉ vs → ρ'[i]? = (wipe3 (dem Si ρ) vs)[i]?) → (∀ i, i ∉ vs → σ'[i]? = σ[i]?) → ∀ a, (a = Dl ∨ Hid am (dem (Si ++ (Se ++ vs)) ρ) σ a) → Hid (lcAm am Dl) (dem Se ρ') σ' a := fun ρ' σ' e1 e2 a z => by
      rcases z with z | z | ⟨i, z⟩
      · exact lc_hid.mpr (.inl z)
      · exact lc_hid.mpr (.inr (.inl z))
      · obtain ⟨⟨⟨es, y1⟩, y2⟩, ni⟩ := ownDem z
        have n1 : i ∉ Si := fun y => ni (List.mem_append_left _ y)
        have n2 : i ∉ Se := fun y => ni (List.mem_append_right _ (List.mem_append_left _ y))
        have n3 : i ∉ vs := fun y => ni (List.mem_append_right _ (List.mem_append_right _ y))
        refine .inr ⟨i, ⟨es, ?_⟩, by rw [e2 i n3]; exact y2⟩
        rw [dem_get, e1 i n3, wipe3_get n3, dem_get, y1]
        show some (if i ∈ Se then _ else (if i ∈ Si then _ else _)) = _
        rw [if_neg n2, if_neg n1]
    refine ⟨fun i m H2 => m = ds.length - i ∧ i ≤ ds.length ∧ ∃ n2 acc xs, H2 Dl = some (.lst acc) ∧ acc.length ≤ i ∧ RpAll am.K (cut (fun a => a = Dl ∨ Hid am (dem (Si ++ (Se ++ vs)) ρ) σ a) H2) acc xs ∧ FrR am.R H1 H2 ∧ Rl (lcAm am Dl) (wipe3 (dem Si ρ) vs) n2 (wipe σ vs) H2 ∧
      lcL is tup mt me (wipe3 (dem Si ρ) vs) (fun _ => False) (ds.drop i) n2 (fun ys n3 => q true (.d (.list (xs ++ ys))) n3), ⟨ds.length, by simp, Nat.zero_le _, n1, [], [], upd_same, Nat.le_refl _, .nil, fD, h0, hq⟩, fun i m H2 w => ?_⟩
    obtain ⟨rfl, hi', n2, acc, xs, eD, la, ra, fr, r2, hf⟩ := w
    have leO : Le (cut (Hid am (dem Si ρ) σ) H1) (cut (Hid (lcAm am Dl) (wipe3 (dem Si ρ) vs) (wipe σ vs)) H2) := Le.cut (fun a z => by
      rcases lc_hid.mp (wipe_hid z) with z | z
      · exact .inr (z ▸ nd)
      · exact .inl z) fun a o hn t e => fr.1 a o (fun d g' c q' => by
        obtain ⟨a1, a2, _, _⟩ := w1.dr d g' c q'
        exact ⟨fun z => hn (.inl (z ▸ a1)), fun z => hn (.inl (z ▸ a2))⟩) t e
    obtain ⟨it1, it2⟩ := it H2 _ leO (fun a z => r2.hidThere z) i
    by_cases hlt : i < ds.length
    · have e : ds[i]? = some ds[i] := List.getElem?_eq_getElem hlt
      obtain ⟨go, y⟩ := it1 _ e
      rw [List.drop_eq_getElem_cons hlt] at hf
      refine .inr ⟨go, fun H' => i + 1 ≤ ds.length ∧ ∃ n2 acc xs, H' Dl = some (.lst acc) ∧ acc.length ≤ i + 1 ∧ RpAll am.K (cut (fun a => a = Dl ∨ Hid am (dem (Si ++ (Se ++ vs)) ρ) σ a) H') acc xs ∧ FrR am.R H1 H' ∧ Rl (lcAm am Dl) (wipe3 (dem Si ρ) vs) n2 (wipe σ vs) H' ∧
        lcL is tup mt me (wipe3 (dem Si ρ) vs) (fun _ => False) (ds.drop (i + 1)) n2 (fun ys n3 => q true (.d (.list (xs ++ ys))) n3), fun H' p => ⟨ds.length - (i + 1), by omega, rfl, p⟩, fun x H3 yl => ?_⟩
      obtain ⟨sm, rx⟩ := y x H3 yl
      have r3 := r2.step (FrR.of sm) (r2.wd.same sm)
      refine giv_ok2 (am := lcAm am Dl) hg r3 (O := Hid (lcAm am Dl) (wipe3 (dem Si ρ) vs) (wipe σ vs)) (fun a z => z) rx hf hsub.h fun ρ4 σ4 hk r4 eρ eσ => ⟨eσ.trans (wipe_idem σ vs) |>.trans rfl, ?_⟩
      have eσ2 : ∀ i, i ∉ vs → σ4[i]? = σ[i]? := fun i hi => by
        have z1 := wipe_get (σ := σ4) hi
        have z2 := wipe_get (σ := wipe σ vs) hi
        have z3 := wipe_get (σ := σ) hi
        rw [← z1, eσ, z2, z3]
      have keepAcc : ∀ {Ha Hb : Hp}, FrR am.R Ha Hb → RpAll am.K (cut (fun a => a = Dl ∨ Hid am (dem (Si ++ (Se ++ vs)) ρ) σ a) Ha) acc xs → RpAll am.K (cut (fun a => a = Dl ∨ Hid am (dem (Si ++ (Se ++ vs)) ρ) σ a) Hb) acc xs := fun f r => RpAll.le (Le.cut (fun a z => .inl z) fun a o hn t e => f.1 a o (fun d g' c q' => by
        obtain ⟨a1, a2, _, _⟩ := w1.dr d g' c q'
        exact ⟨fun z => hn (.inr (.inl (z ▸ a1))), fun z => hn (.inr (.inl (z ▸ a2)))⟩) t e) _ _ r
      have keepD : ∀ {Ha Hb : Hp}, FrR am.R Ha Hb → Ha Dl = some (.lst acc) → Hb Dl = some (.lst acc) := fun f e => f.1 Dl _ (fun d g' c q' => ⟨(hd d g' c q').1, (hd d g' c q').2.1⟩) (fun ps z => by cases z) e
      refine ht.s (lcAm am Dl) ρ4 n2 σ4 H3 hE' r4 _ _ hk fun b n4 H4 hq4 f4 w4 => ?_
      have r5 := r3.step f4 w4
      have f04 := (fr.trans (.of sm)).trans f4
      cases b with
      | false => exact ⟨hlt, n4, acc, xs, keepD f4 (sm _ _ eD), by omega, keepAcc f4 (keepAcc (.of sm) ra), f04, r5, hq4⟩
      | true =>
        have r4' := r4.step f4 w4
        refine he.s (lcAm am Dl) ρ4 n4 σ4 H4 hE' r4' _ _ hq4 fun fr5 u n5 v H5 hq5 f5 w5 r6 => ?_
        match u, hq5, r6.1 with
        | .d z, hq5, rz =>
          have eD5 := keepD f5 (keepD f4 (sm _ _ eD))
          have rz2 : Rp am.K (cut (fun a => a = Dl ∨ Hid am (dem (Si ++ (Se ++ vs)) ρ) σ a) H5) v z := Rp.le (Le.cutSub (sub ρ4 σ4 eρ eσ2)) _ _ rz
          refine ⟨acc, eD5, by omega, hlt, n5, acc ++ [v], xs ++ [z], upd_same, by rw [List.length_append, List.length_singleton]; omega, ?_, ?_, lc_write hd (r5.step f5 w5) eD5, ?_⟩
          · refine RpAll.le (Le.cut (fun a z => .inl z) fun a o hn t e => ?_) _ _ (RpAll.app (keepAcc f5 (keepAcc f4 (keepAcc (.of sm) ra))) (.one rz2))
            rw [upd_ne fun z => hn (.inl z)]
            exact e
          · have f05 := f04.trans f5
            refine ⟨fun b o h1 h2 e => ?_, fun b z => ?_⟩
            · have ne : b ≠ Dl := fun z => by
                rw [z, hD] at e
                cases e
              rw [upd_ne ne]
              exact f05.1 b o h1 h2 e
            · by_cases ne : b = Dl
              · exact ne ▸ .lst upd_same
              · obtain ⟨o, q1, q2⟩ := f05.2 b z
                exact ⟨o, by rw [upd_ne ne]; exact q1, q2⟩
          · have ea : (fun (ys : List D) (n3 : Nat) => q true (.d (.list ((xs ++ [z]) ++ ys))) n3) = fun ys n3 => q true (.d (.list (xs ++ z :: ys))) n3 := by
              funext ys n3
              rw [List.append_assoc]
              rfl
            rw [ea]
            exact hq5
    · have e : i = ds.length := by omega
      subst e
      rw [List.drop_length] at hf
      refine .inl ⟨it2 (Nat.le_refl _), ?_⟩
      have hf2 : q true (.d (.list (xs ++ []))) n2 := hf
      rw [List.append_nil] at hf2
      have wE : Wd am.R am.TL H2 n2 := {
        hid := fun a z => r2.wd.hid a (.inl z)
        tabs := r2.wd.tabs
        dr := fun d g' c q' => by
          obtain ⟨_, _, _, r⟩ := r2.wd.dr d g' c q'
          obtain ⟨a1, a2, a3, _⟩ := w1.dr d g' c q'
          exact ⟨a1, a2, a3, r⟩ }
      refine k _ _ n2 _ H2 hf2 (f1.trans fr) wE ⟨Rp.lst (cut_some.mpr ⟨fun z => ?_, eD⟩) (RpAll.le (Le.cutSub fun a z => .inr z) _ _ ra), fun _ => ⟨Dl, acc, xs, rfl, rfl, new_back h f1 h1 nd, eD, ra⟩⟩
      exact (h1.dem _).new nd z
end
end V3
set_option Elab.async false
set_option linter.all false
set_option maxRecDepth 100000
set_option maxHeartbeats 4000000
namespace V3
open PySem PySem.Spec PyProof.Rows L2
abbrev VSp := List U → Nat → (U → Nat → Prop) → (Addr → Prop) → Prop
/-- a def's promise, of values -/
def toSp (K : PySem.W.Frag) (C : Addr) (TL : List (Addr × Str)) (fr : Bool) (sp : VSp) : Sp := fun vs H Q E => ∃ (am : Am) (us : List U) (n : Nat) (q : U → Nat → Prop) (e : Addr → Prop), am.K = K ∧ am.C = C ∧ am.TL = TL ∧ RepA am am.R.hid H vs us ∧ Wd am.R TL H n ∧ sp us n q e ∧
  (∀ u n' v H', q u n' → FrR am.R H H' → Wd am.R TL H' n' → RepV am am.R.hid H H' fr v u → Q v H') ∧ (∀ C' H' n', FrR am.R H H' → Wd am.R TL H' n' → e C' → E (.ref C') none H')
section
variable {K : PySem.W.Frag} {C : Addr} {TL : List (Addr × Str)} {E : XK}
theorem gr_step {am : Am} {ρ : Ro} {n : Nat} {σ : L2.St} {H H' : Hp} (h : Rl am ρ n σ H) (f : FrR am.R H H') : Gr am H' := ⟨fun b o h1 h2 e => f.1 b o (fun d g c q => by
    obtain ⟨a1, a2⟩ := h.od d g c q
    exact ⟨fun z => h1 (z ▸ a1), fun z => h1 (z ▸ a2)⟩) h2 (h.gr.1 b o h1 h2 e), fun b z => f.2 b (h.gr.2 b z)⟩
@[simp ↓] def mCall (fr : Bool) (sp : VSp) (ma : TA3) : TE3 := fun ρ n q e => ma ρ n (fun us n1 => sp us n1 (fun u n2 => q fr u n2) e) e
@[simp ↓] def mCall0 (fr : Bool) (sp : VSp) (ma : TA3) : TE3 := fun ρ n q e => ma ρ n (fun us n1 => sp us n1 (fun u n2 => q fr u n2) (fun _ => False)) e
theorem call_ok {am : Am} {ρ : Ro} {n : Nat} {σ : L2.St} {H H1 : Hp} {n1 : Nat} {S : List Nat} (h : Rl am ρ n σ H) (f1 : FrR am.R H H1) (w1 : Wd am.R am.TL H1 n1) {us : List U} {vs : List V} (r1 : RepA am (Hid am (dem S ρ) σ) H1 vs us) {fr : Bool} {sp : VSp} {q : Bool → U → Nat → Prop} {e : Addr → Prop} (hq : sp us n1 (fun u n2 => q fr u n2) e) {Q : VK} {E' : XK}
    (k : ∀ fr u n' v H', q fr u n' → FrR am.R H H' → Wd am.R am.TL H' n' → RepV am (Hid am (dem S ρ) σ) H H' fr v u → Q v H') (ke : ∀ C' H' n', FrR am.R H H' → Wd am.R am.TL H' n' → e C' → E' (.ref C') none H') : toSp am.K am.C am.TL fr sp (vs ++ []) H1 Q E' := by
  have h1 := h.step f1 w1
  rw [List.append_nil]
  have hw : ∀ {H' : Hp} {n' : Nat}, FrR am.R H1 H' → Wd am.R am.TL H' n' → Wd { am.R with hid := Hid am (dem S ρ) σ } am.TL H' n' := fun f w => {
    hid := fun a z => f.2 a ((h1.dem S).hidThere z)
    tabs := w.tabs
    dr := fun d g c q => by
      obtain ⟨a1, a2, a3, r⟩ := w.dr d g c q
      exact ⟨.inl a1, .inl a2, .inl a3, r⟩ }
  have hw2 : ∀ {H' : Hp} {n' : Nat}, Wd { am.R with hid := Hid am (dem S ρ) σ } am.TL H' n' → Wd am.R am.TL H' n' := fun w => {
    hid := fun a z => w.hid a (.inl z)
    tabs := w.tabs
    dr := fun d g c q => by
      obtain ⟨_, _, _, r⟩ := w.dr d g c q
      obtain ⟨a1, a2, a3, _⟩ := h.wd.dr d g c q
      exact ⟨a1, a2, a3, r⟩ }
  have rep : ∀ {O : Addr → Prop} {H' : Hp} {v : V} {u : U}, RepU am O H' v u ↔ RepU { am with R := { am.R with hid := Hid am (dem S ρ) σ } } O H' v u := fun {O H' v u} => by
    cases u <;> exact Iff.rfl
  have repA : ∀ {vs : List V} {us : List U} {O : Addr → Prop} {H' : Hp}, RepA am O H' vs us → RepA { am with R := { am.R with hid := Hid am (dem S ρ) σ } } O H' vs us := fun r => by
    induction r with
    | nil => exact .nil
    | cons r1 _ ih => exact .cons (rep.mp r1) ih
  refine ⟨{ am with R := { am.R with hid := Hid am (dem S ρ) σ } }, us, n1, _, e, rfl, rfl, rfl, repA r1, hw (FrR.refl _ _) w1, hq, fun u n' v H' hq' f' w' r' => ?_, fun C' H' n' f' w' z => ke C' H' n' (f1.trans f') (hw2 w') z⟩
  refine k fr u n' v H' hq' (f1.trans f') (hw2 w') ⟨rep.mpr r'.1, fun z => ?_⟩
  obtain ⟨p, vs, ds, a1, a2, a3, a4, a5⟩ := r'.2 z
  exact ⟨p, vs, ds, a1, a2, new_back h f1 h1 a3, a4, a5⟩
instance (priority := high) {ta : TA} {S : List Nat} {ma : TA3} {fr : Bool} {sp : VSp} [ha : LA K C TL E ta S ma] : LE K C TL E (tCall (toSp K C TL fr sp) [] E ta) S (mCall fr sp ma) where
  s am ρ n σ H hE h Q q hm k := by
    obtain ⟨rfl, rfl, rfl, rfl⟩ := id hE
    refine ha.s am ρ n σ H hE h _ _ hm fun us n1 vs H1 hq f1 w1 r1 => ?_
    exact call_ok h f1 w1 r1 hq k fun C' H' n' f w z => h.ex C' H' n' (gr_step h f) w z
instance {ta : TA} {S : List Nat} {ma : TA3} {fr : Bool} {sp : VSp} {E' : XK} [ha : LA K C TL E ta S ma] : LE K C TL E (tCall (toSp K C TL fr sp) [] E' ta) S (mCall0 fr sp ma) where
  s am ρ n σ H hE h Q q hm k := by
    obtain ⟨rfl, rfl, rfl, rfl⟩ := id hE
    refine ha.s am ρ n σ H hE h _ _ hm fun us n1 vs H1 hq f1 w1 r1 => ?_
    exact call_ok h f1 w1 r1 hq k fun C' H' n' f w z => z.elim
/-! ### raise -/
def tExc (t : L2.St → Hp → XK → Prop) (W : WX) : TS := fun _ σ H => t σ H fun cls d H' => W cls d σ H'
@[simp] def slotsOf : List U → Nat → Ro
  | [], 0 => []
  | [], k + 1 => .no :: slotsOf [] k
  | u :: us, 0 => .fz u :: slotsOf us 0
  | u :: us, k + 1 => .fz u :: slotsOf us k
theorem rep_len {am : Am} {O : Addr → Prop} {H : Hp} : ∀ {vs : List V} {us : List U}, RepA am O H vs us → vs.length = us.length
  | _, _, .nil => rfl
  | _, _, .cons _ t => by rw [List.length_cons, List.length_cons, rep_len t]
/-- the slots at the start: the arguments, then nothing -/
def ro0 (us : List U) (k : Nat) : Ro := us.map Sl.fz ++ List.replicate k .no
theorem start_rl {am : Am} {us : List U} {vs : List V} {n : Nat} {H : Hp} (r : RepA am am.R.hid H vs us) (w : Wd am.R am.TL H n) (k : Nat) (hHs : am.Hs = H) (hO : ∀ a, am.O0 a ↔ ∃ d g c, am.R.dr = some (d, g, c) ∧ (a = d ∨ a = g)) (ex : ∀ C' H' n', Gr am H' → Wd am.R am.TL H' n' → am.e C' → am.E (.ref C') none H') :
    Rl am (ro0 us k) n (vs.map some ++ List.replicate k none) H := by
  have no : ∀ {i : Nat} {ds : List D}, (ro0 us k)[i]? ≠ some (Sl.ow ds) := fun {i ds} z => by
    unfold ro0 at z
    rcases List.mem_append.mp (List.mem_of_getElem? z) with m | m
    · obtain ⟨u, _, e⟩ := List.mem_map.mp m
      cases e
    · cases (List.mem_replicate.mp m).2
  have hid : ∀ {a : Addr}, Hid am (ro0 us k) (vs.map some ++ List.replicate k none) a → am.R.hid a := fun z => by
    rcases z with z | ⟨i, ⟨ds, z⟩, _⟩
    · exact z
    · exact absurd z no
  exact {
    len := by
      unfold ro0
      rw [List.length_append, List.length_append, List.length_map, List.length_map, List.length_replicate, List.length_replicate, rep_len r]
    fz := fun i u e => by
      have hl := rep_len r
      unfold ro0 at e
      by_cases hi : i < us.length
      · rw [List.getElem?_append_left (by rw [List.length_map]; exact hi), List.getElem?_map] at e
        rw [List.getElem?_append_left (by rw [List.length_map, hl]; exact hi), List.getElem?_map]
        have q : ∀ {vs : List V} {us : List U} {i : Nat}, RepA am am.R.hid H vs us → (us[i]?).map Sl.fz = some (Sl.fz u) → ∃ v, (vs[i]?).map some = some (some v) ∧ RepU am am.R.hid H v u := fun {vs} {us} => by
          induction us generalizing vs with
          | nil =>
            intro i _ e
            simp at e
          | cons u0 us ih =>
            intro i r e
            cases r with
            | cons r1 r2 =>
              cases i with
              | zero =>
                simp at e
                subst e
                exact ⟨_, rfl, r1⟩
              | succ i =>
                obtain ⟨v, a1, a2⟩ := ih (i := i) r2 (by simpa using e)
                exact ⟨v, by simpa using a1, a2⟩
        obtain ⟨v, a1, a2⟩ := q r e
        exact ⟨v, a1, a2.le (Le.cutSub fun a => hid)⟩
      · rw [List.getElem?_append_right (by rw [List.length_map]; omega)] at e
        have m := List.mem_of_getElem? e
        cases (List.mem_replicate.mp m).2
    ow := fun i ds e => absurd e no
    nd := fun i j p a => by
      obtain ⟨⟨ds, e⟩, _⟩ := a
      exact absurd e no
    od := fun d g c q => ⟨(hO d).mpr ⟨d, g, c, q, .inl rfl⟩, (hO g).mpr ⟨d, g, c, q, .inr rfl⟩⟩
    gr := ⟨fun b o _ _ e => by rw [hHs] at e; exact e, fun b e => by rw [hHs] at e; exact e⟩
    wd := w
    ex := ex }
@[simp] def ends3 (fr : Bool) (q : U → Nat → Prop) : En3 := ⟨fun _ n' => if fr = true then False else q (.d .none) n', fun f u n' => if fr = true ∧ f = false then False else q u n', fun _ _ => False, fun _ _ => False⟩
theorem toSp_len {k : Nat} {fr : Bool} {sp : VSp} {vs : List V} {H : Hp} {Q : VK} (h : toSp K C TL fr sp vs H Q E) (hl : ∀ us n q e, sp us n q e → us.length = k) : vs.length = k := by
  obtain ⟨am, us, n, q, e, _, _, _, ra, _, hs, _⟩ := h
  rw [rep_len ra, hl us n q e hs]
/-- a def's body -/
theorem run3 {t : TS} {m : TS3} [ht : LS K C TL E t m] {N : List Str} {fr : Bool} {sp : VSp} {vs : List V} {H : Hp} {Q : VK} (hs : toSp K C TL fr sp vs H Q E)
    (pure : ∀ (us : List U) (n : Nat) (q : U → Nat → Prop) (e : Addr → Prop), sp us n q e → m (ends3 fr q) (ro0 us (N.length - us.length)) n e) :
    t { nx := fun _ H' => Q .non H', rt := Q } (L2.start N vs) H := by
  obtain ⟨am, us, n, q, e, rfl, rfl, rfl, ra, w, hsp, k, ke⟩ := hs
  have gq : ∀ {H' : Hp}, Gr { am with Hs := H, O0 := fun a => ∃ d g c, am.R.dr = some (d, g, c) ∧ (a = d ∨ a = g), E := E, e := e } H' → FrR am.R H H' := fun g => ⟨fun b o h1 h2 e' => g.1 b o (fun ⟨d, g', c, q', z⟩ => by
    obtain ⟨a1, a2⟩ := h1 d g' c q'
    rcases z with z | z
    · exact a1 z
    · exact a2 z) h2 e', g.2⟩
  have rep : ∀ {O : Addr → Prop} {H' : Hp} {v : V} {u : U}, RepU am O H' v u ↔ RepU { am with Hs := H, O0 := fun a => ∃ d g c, am.R.dr = some (d, g, c) ∧ (a = d ∨ a = g), E := E, e := e } O H' v u := fun {O H' v u} => by
    cases u <;> exact Iff.rfl
  have repA : ∀ {vs : List V} {us : List U} {O : Addr → Prop} {H' : Hp}, RepA am O H' vs us → RepA { am with Hs := H, O0 := fun a => ∃ d g c, am.R.dr = some (d, g, c) ∧ (a = d ∨ a = g), E := E, e := e } O H' vs us := fun r => by
    induction r with
    | nil => exact .nil
    | cons r1 _ ih => exact .cons (rep.mp r1) ih
  refine ht.s { am with Hs := H, O0 := fun a => ∃ d g c, am.R.dr = some (d, g, c) ∧ (a = d ∨ a = g), E := E, e := e } (ro0 us (N.length - vs.length)) n _ H _ (ends3 fr q) ⟨rfl, rfl, rfl, rfl⟩ (start_rl (repA ra) w _ rfl (fun _ => Iff.rfl) fun C' H' n' g w z => ke C' H' n' (gq g) w z) ⟨fun ρ' n' σ' H' hq r => ?_, fun _ _ _ _ z => False.elim z, fun _ _ _ _ z => False.elim z, fun f u n' v H' hq g w' r => ?_⟩ (by rw [rep_len ra]; exact pure us n q e hsp)
  · have hq : (if fr = true then False else q (.d .none) n') := hq
    by_cases hf : fr = true
    · rw [if_pos hf] at hq
      exact hq.elim
    · rw [if_neg hf] at hq
      refine k _ n' _ H' hq (gq r.gr) r.wd ⟨Rp.non, fun z => absurd z hf⟩
  · have hq : (if fr = true ∧ f = false then False else q u n') := hq
    by_cases hf : fr = true ∧ f = false
    · rw [if_pos hf] at hq
      exact hq.elim
    · rw [if_neg hf] at hq
      refine k u n' v H' hq (gq g) w' ⟨rep.mpr r.1, fun z => ?_⟩
      have ft : f = true := by
        cases f with
        | true => rfl
        | false => exact absurd ⟨z, rfl⟩ hf
      obtain ⟨p, vs', ds, a1, a2, a3, a4, a5⟩ := r.2 ft
      refine ⟨p, vs', ds, a1, a2, ?_, a4, a5⟩
      rcases a3.1 with y | ⟨d, g', c, q', y⟩
      · exact y
      · obtain ⟨b1, b2, _, _⟩ := w.dr d g' c q'
        exact absurd (by rcases y with y | y; exact y ▸ b1; exact y ▸ b2) a3.2
end
end V3
set_option Elab.async false
set_option linter.all false
set_option maxRecDepth 100000
set_option maxHeartbeats 4000000
namespace V3
open PySem PySem.Spec PyProof.Rows L2
section
variable {K : PySem.W.Frag} {C : Addr} {TL : List (Addr × Str)} {E : XK}
/-! ### raise -/
def tRz (E : XK) (C' : Addr) : TS := fun _ _ H => E (.ref C') none H
theorem ps_rz {X : Cx} {st : Stmt} {C' : Addr} {E : XK} (h : PS X st (fun _ σ H => (fun (_ : L2.St) (H : Hp) (Q : XK) => Q (.ref C') none H) σ H fun cls d H' => (fun (cls : Value) (d : Option Addr) (_ : L2.St) (H : Hp) => E cls d H) cls d σ H')) : PS X st (tRz E C') := h
@[simp ↓] def mRz (C' : Addr) : TS3 := fun _ _ _ e => e C'
instance {C' : Addr} : LS K C TL E (tRz E C') (mRz C') where
  s am ρ n σ H D F hE h en hm := by
    obtain ⟨rfl, rfl, rfl, rfl⟩ := id hE
    exact h.ex C' H _ h.gr h.wd hm
/-! ### types -/
@[simp] def pyTy : D → String
  | .none => "NoneType"
  | .bool _ => "bool"
  | .int _ => "int"
  | .str _ => "str"
  | .list _ => "list"
  | .tuple _ => "tuple"
  | .dict _ => "dict"
/-- no instance -/
@[simp] def notOb : List (D × D) → Bool
  | (.none, _) :: _ => false
  | _ => true
def noOb : D → Bool
  | .dict kvs => notOb kvs
  | _ => true
theorem ty_rep {am : Am} {O : Addr → Prop} {H : Hp} {v : V} {x : D} (r : RepU am O H v (.d x)) (ho : noOb x = true) : TyX am.K H v (.type (pyTy x)) := by
  cases x with
  | none => cases r; exact .base .non
  | bool b => cases r; exact .base (.bl b)
  | int i => cases r; exact .base (.int i)
  | str z => cases r; exact .base (.str z)
  | list xs =>
    cases r with
    | lst a1 a2 => exact .base (.lst (cut_some.mp a1).2)
  | tuple xs =>
    cases r with
    | tup a1 a2 =>
      rcases SqT.le Le.cutAll a1 with (h | ⟨o, h⟩) | ⟨o, its, n, h, hc, _⟩
      · exact .base (.tup h)
      · exact .fTuple h
      · exact .kTuple h hc
  | dict xs =>
    cases r with
    | dnil a1 => exact .base (.dK (cut_some.mp a1).2)
    | ob c a1 a2 => cases ho
    | dt a1 a2 => exact .base (.dT (cut_some.mp a1).2)
    | dk a1 a2 => exact .base (.dK (cut_some.mp a1).2)
theorem ob_rep {am : Am} {O : Addr → Prop} {H : Hp} {v : V} {x : D} (r : RepU am O H v (.d x)) (ho : noOb x = false) : ∃ (a C dx : Addr) (vs : List (Str × V)) (fs : List (D × D)), v = .ref a ∧ x = .dict ((.none, .int (C : Nat)) :: fs) ∧ OwnC am.K C ∧ cut O H a = some (.ins C dx vs) ∧ RpKs am.K (cut O H) vs fs := by
  cases x with
  | dict xs =>
    cases r with
    | dnil a1 => cases ho
    | ob c a1 a2 => exact ⟨_, _, _, _, _, rfl, rfl, c, a1, a2⟩
    | dt a1 a2 => cases ho
    | dk a1 a2 => cases ho
  | _ => cases ho
/-- what isinstance(x, n) says -/
@[simp] def isTy (n : String) : D → Bool
  | .none => false
  | .bool _ => n == "bool" || n == "int"
  | .int _ => n == "int"
  | .str _ => n == "str"
  | .list _ => n == "list"
  | .tuple _ => n == "tuple"
  | .dict kvs => n == "dict" && notOb kvs
class Kn6 (n : String) : Prop where
  h : ∀ x : D, noOb x = true → kitB (pyTy x) n = some (isTy n x)
  o : ∀ (K : PySem.W.Frag) (C : Addr), OwnC K C → PySem.W.kitOne K (.ref C) (.type n) = some false
theorem and_no {b : Bool} {kvs : List (D × D)} (h : noOb (.dict kvs) = true) {r : Option Bool} (e : r = some b) : r = some (b && notOb kvs) := by
  rw [show notOb kvs = true from h, Bool.and_true, e]
instance : Kn6 "int" := ⟨fun x ho => match x, ho with
  | .none, _ => (by decide +kernel : kitB "NoneType" "int" = some false)
  | .bool _, _ => (by decide +kernel : kitB "bool" "int" = some ("int" == "bool" || "int" == "int"))
  | .int _, _ => (by decide +kernel : kitB "int" "int" = some ("int" == "int"))
  | .str _, _ => (by decide +kernel : kitB "str" "int" = some ("int" == "str"))
  | .list _, _ => (by decide +kernel : kitB "list" "int" = some ("int" == "list"))
  | .tuple _, _ => (by decide +kernel : kitB "tuple" "int" = some ("int" == "tuple"))
  | .dict _, h => and_no h (by decide +kernel : kitB "dict" "int" = some ("int" == "dict")), fun K C h => h.k_int⟩
instance : Kn6 "bool" := ⟨fun x ho => match x, ho with
  | .none, _ => (by decide +kernel : kitB "NoneType" "bool" = some false)
  | .bool _, _ => (by decide +kernel : kitB "bool" "bool" = some ("bool" == "bool" || "bool" == "int"))
  | .int _, _ => (by decide +kernel : kitB "int" "bool" = some ("bool" == "int"))
  | .str _, _ => (by decide +kernel : kitB "str" "bool" = some ("bool" == "str"))
  | .list _, _ => (by decide +kernel : kitB "list" "bool" = some ("bool" == "list"))
  | .tuple _, _ => (by decide +kernel : kitB "tuple" "bool" = some ("bool" == "tuple"))
  | .dict _, h => and_no h (by decide +kernel : kitB "dict" "bool" = some ("bool" == "dict")), fun K C h => h.k_bool⟩
instance : Kn6 "str" := ⟨fun x ho => match x, ho with
  | .none, _ => (by decide +kernel : kitB "NoneType" "str" = some false)
  | .bool _, _ => (by decide +kernel : kitB "bool" "str" = some ("str" == "bool" || "str" == "int"))
  | .int _, _ => (by decide +kernel : kitB "int" "str" = some ("str" == "int"))
  | .str _, _ => (by decide +kernel : kitB "str" "str" = some ("str" == "str"))
  | .list _, _ => (by decide +kernel : kitB "list" "str" = some ("str" == "list"))
  | .tuple _, _ => (by decide +kernel : kitB "tuple" "str" = some ("str" == "tuple"))
  | .dict _, h => and_no h (by decide +kernel : kitB "dict" "str" = some ("str" == "dict")), fun K C h => h.k_str⟩
instance : Kn6 "list" := ⟨fun x ho => match x, ho with
  | .none, _ => (by decide +kernel : kitB "NoneType" "list" = some false)
  | .bool _, _ => (by decide +kernel : kitB "bool" "list" = some ("list" == "bool" || "list" == "int"))
  | .int _, _ => (by decide +kernel : kitB "int" "list" = some ("list" == "int"))
  | .str _, _ => (by decide +kernel : kitB "str" "list" = some ("list" == "str"))
  | .list _, _ => (by decide +kernel : kitB "list" "list" = some ("list" == "list"))
  | .tuple _, _ => (by decide +kernel : kitB "tuple" "list" = some ("list" == "tuple"))
  | .dict _, h => and_no h (by decide +kernel : kitB "dict" "list" = some ("list" == "dict")), fun K C h => h.k_list⟩
instance : Kn6 "tuple" := ⟨fun x ho => match x, ho with
  | .none, _ => (by decide +kernel : kitB "NoneType" "tuple" = some false)
  | .bool _, _ => (by decide +kernel : kitB "bool" "tuple" = some ("tuple" == "bool" || "tuple" == "int"))
  | .int _, _ => (by decide +kernel : kitB "int" "tuple" = some ("tuple" == "int"))
  | .str _, _ => (by decide +kernel : kitB "str" "tuple" = some ("tuple" == "str"))
  | .list _, _ => (by decide +kernel : kitB "list" "tuple" = some ("tuple" == "list"))
  | .tuple _, _ => (by decide +kernel : kitB "tuple" "tuple" = some ("tuple" == "tuple"))
  | .dict _, h => and_no h (by decide +kernel : kitB "dict" "tuple" = some ("tuple" == "dict")), fun K C h => h.k_tuple⟩
instance : Kn6 "dict" := ⟨fun x ho => match x, ho with
  | .none, _ => (by decide +kernel : kitB "NoneType" "dict" = some false)
  | .bool _, _ => (by decide +kernel : kitB "bool" "dict" = some ("dict" == "bool" || "dict" == "int"))
  | .int _, _ => (by decide +kernel : kitB "int" "dict" = some ("dict" == "int"))
  | .str _, _ => (by decide +kernel : kitB "str" "dict" = some ("dict" == "str"))
  | .list _, _ => (by decide +kernel : kitB "list" "dict" = some ("dict" == "list"))
  | .tuple _, _ => (by decide +kernel : kitB "tuple" "dict" = some ("dict" == "tuple"))
  | .dict _, h => and_no h (by decide +kernel : kitB "dict" "dict" = some ("dict" == "dict")), fun K C h => h.k_dict⟩
def askD : U → (D → Prop) → Prop
  | .d x, k => k x
  | _, _ => False
@[simp] theorem askD_s (i : D) (k : D → Prop) : askD (.d i) k = k i := rfl
@[simp ↓] def mIsi (n : String) (me : TE3) : TE3 := fun ρ k q e => me ρ k (fun _ u n1 => askD u fun x => q false (.d (.bool (isTy n x))) n1) e
instance (priority := high) {te : TE} {S : List Nat} {me : TE3} {nm : String} [he : LE K C TL E te S me] [hk : Kn6 nm] : LE K C TL E (tCB (rIsi K) (tCons te (tCons (tC (.ty nm)) tNil))) [] (mIsi nm me) where
  s am ρ n σ H hE h Q q hm k := by
    obtain ⟨rfl, rfl, rfl, rfl⟩ := id hE
    refine he.s am ρ n σ H hE h _ _ hm fun fr u n1 v H1 hq f1 w1 r1 => ?_
    match u, hq, r1.1 with
    | .d x, hq, r =>
      cases ho : noOb x with
      | true => exact ⟨v, .ty nm, .type (pyTy x), .type nm, isTy nm x, rfl, .ty nm, ty_rep r ho, kit_ty (hk.h x ho), k _ _ n1 _ H1 hq f1 w1 (.old (Rp.bl _))⟩
      | false =>
        obtain ⟨a, C', dx, vs, fs, rfl, rfl, c, q1, q2⟩ := ob_rep r ho
        have e : isTy nm (.dict ((.none, .int (C' : Nat)) :: fs)) = false := by simp
        rw [askD_s, e] at hq
        exact ⟨.ref a, .ty nm, .ref C', .type nm, false, rfl, .ty nm, c.insT H1 a dx _ (cut_some.mp q1).2, hk.o _ _ c, k _ _ n1 _ H1 hq f1 w1 (.old (Rp.bl _))⟩
@[simp ↓] def mIsW (me : TE3) : TE3 := fun ρ k q e => me ρ k (fun _ u n1 => match u with
  | .dw _ => q false (.d (.bool true)) n1
  | .ob _ => q false (.d (.bool true)) n1
  | _ => False) e
instance (priority := high) {te : TE} {S : List Nat} {me : TE3} [he : LE K C TL E te S me] : LE K C TL E (tCB (rIsi K) (tCons te (tCons (tC (.ref C)) tNil))) [] (mIsW me) where
  s am ρ n σ H hE h Q q hm k := by
    obtain ⟨rfl, rfl, rfl, rfl⟩ := id hE
    refine he.s am ρ n σ H hE h _ _ hm fun fr u n1 v H1 hq f1 w1 r1 => ?_
    match u, hq, r1.1 with
    | .dw bs, hq, r =>
      obtain ⟨_, a, dx, t, rfl, h2, _⟩ := r
      exact ⟨.ref a, .ref am.C, .ref am.C, .ref am.C, true, rfl, .own am.C, am.insT H1 a dx _ (cut_some.mp h2).2, am.kD, k _ _ n1 _ H1 hq f1 w1 (.old (Rp.bl _))⟩
    | .ob fs, hq, r =>
      obtain ⟨_, a, dx, t, rfl, h2, _⟩ := r
      exact ⟨.ref a, .ref am.C, .ref am.C, .ref am.C, true, rfl, .own am.C, am.insT H1 a dx _ (cut_some.mp h2).2, am.kD, k _ _ n1 _ H1 hq f1 w1 (.old (Rp.bl _))⟩
/-! isinstance(x, (a, b)) -/
@[simp ↓] def mIsi2 (n m : String) (me : TE3) : TE3 := fun ρ k q e => me ρ k (fun _ u n1 => askD u fun x => q false (.d (.bool (isTy n x || isTy m x))) n1) e
instance (priority := high) {te : TE} {S : List Nat} {me : TE3} {nm mm : String} [he : LE K C TL E te S me] [hk : Kn6 nm] [hm2 : Kn6 mm] : LE K C TL E (tCB (rIsiT K) (tCons te (tCons (tTup (tCons (tC (.ty nm)) (tCons (tC (.ty mm)) tNil))) tNil))) [] (mIsi2 nm mm me) where
  s am ρ n σ H hE h Q q hm k := by
    obtain ⟨rfl, rfl, rfl, rfl⟩ := id hE
    refine he.s am ρ n σ H hE h _ _ hm fun fr u n1 v H1 hq f1 w1 r1 => ?_
    match u, hq, r1.1 with
    | .d x, hq, r =>
      have h1 := h.step f1 w1
      refine ⟨by show 2 ≤ sizeLine; decide, fun p hp => ?_⟩
      obtain ⟨f2, w2⟩ := fresh_step h1 hp (.tup [.ty nm, .ty mm])
      cases ho : noOb x with
      | true =>
        refine ⟨v, p, _, .type (pyTy x), [.type nm, .type mm], (isTy nm x || isTy mm x), rfl, upd_same, .cons (.ty nm) (.cons (.ty mm) .nil), ty_rep (r.le (cut_grow hp _)) ho, ?_, k _ _ n1 _ _ hq (f1.trans f2) w2 (.old (Rp.bl _))⟩
        exact kitAny_cons (kit_ty (hk.h x ho)) (fun z => by
          rw [z, Bool.false_or]
          exact kitAny_cons (kit_ty (hm2.h x ho)) (fun z => by
            rw [z]
            rfl) fun z => z) fun z => by
          rw [z]
          rfl
      | false =>
        obtain ⟨a, C', dx, vs, fs, rfl, rfl, c, q1, q2⟩ := ob_rep r ho
        have e : (isTy nm (.dict ((.none, .int (C' : Nat)) :: fs)) || isTy mm (.dict ((.none, .int (C' : Nat)) :: fs))) = false := by simp
        rw [askD_s, e] at hq
        refine ⟨.ref a, p, _, .ref C', [.type nm, .type mm], false, rfl, upd_same, .cons (.ty nm) (.cons (.ty mm) .nil), c.insT _ a dx _ (same_new hp _ _ (cut_some.mp q1).2), ?_, k _ _ n1 _ _ hq (f1.trans f2) w2 (.old (Rp.bl _))⟩
        exact kitAny_cons (hk.o _ _ c) (fun _ => kitAny_cons (hm2.o _ _ c) (fun _ => rfl) fun z => by cases z) fun z => by cases z
/-! ### len, list, tuple, abs, int, min, max, sum, any, all -/
def rLen3 (K : PySem.W.Frag) : List V → Hp → VK → Prop := fun xs H Q => ∃ x n, xs = [x] ∧ LenV K x H n ∧ Q (.int n) H
theorem call_len3 {X : Cx} : CallR X (.builtin "len") (rLen3 X.K) := call_len
@[simp ↓] def mLen : List U → (Bool → D → Prop) → Prop
  | [.d (.list xs)], q => q false (.int (xs.length : Nat))
  | [.d (.tuple xs)], q => q false (.int (xs.length : Nat))
  | _, _ => False
instance : LC K (rLen3 K) mLen where
  s am O H xs us hK hO ra Q q hm k := by
    subst hK
    match us, hm, ra with
    | [.d (.list ds)], hm, .cons r .nil =>
      cases r with
      | lst a1 a2 => exact ⟨_, _, rfl, .inl ⟨_, SqL.of (cut_some.mp a1).2, rfl⟩, k _ _ _ H hm (Same.refl _) (.old (by rw [RpAll.len a2]; exact Rp.int _))⟩
    | [.d (.tuple ds)], hm, .cons r .nil =>
      cases r with
      | tup a1 a2 => exact ⟨_, _, rfl, .inr ⟨_, SqT.le Le.cutAll a1, rfl⟩, k _ _ _ H hm (Same.refl _) (.old (by rw [RpAll.len a2]; exact Rp.int _))⟩
def rList3 (K : PySem.W.Frag) : List V → Hp → VK → Prop := fun xs H Q => ∃ p ys, xs = [.ref p] ∧ (SqL K H p ys ∨ SqT K H p ys) ∧ ∀ l, H l = none → Q (.ref l) (upd H l (.lst ys))
theorem call_list3 {X : Cx} : CallR X (.type "list") (rList3 X.K) := call_list_of
@[simp ↓] def mList : List U → (Bool → D → Prop) → Prop
  | [.d (.list xs)], q => q true (.list xs)
  | [.d (.tuple xs)], q => q true (.list xs)
  | _, _ => False
instance : LC K (rList3 K) mList where
  s am O H xs us hK hO ra Q q hm k := by
    subst hK
    match us, hm, ra with
    | [.d (.list ds)], hm, .cons r .nil =>
      cases r with
      | lst a1 a2 => exact ⟨_, _, rfl, .inl (SqL.of (cut_some.mp a1).2), fun p hp => k _ _ _ _ hm (same_new hp) (new_list hO hp a2)⟩
    | [.d (.tuple ds)], hm, .cons r .nil =>
      cases r with
      | tup a1 a2 => exact ⟨_, _, rfl, .inr (SqT.le Le.cutAll a1), fun p hp => k _ _ _ _ hm (same_new hp) (new_list hO hp a2)⟩
def rTup3 (K : PySem.W.Frag) : List V → Hp → VK → Prop := fun xs H Q => ∃ p ys, xs = [.ref p] ∧ ((SqL K H p ys ∧ ∀ l, H l = none → Q (.ref l) (upd H l (.tup ys))) ∨ (SqT K H p ys ∧ Q (.ref p) H))
theorem call_tup3 {X : Cx} : CallR X (.type "tuple") (rTup3 X.K) := call_tuple_of
@[simp ↓] def mTuple : List U → (Bool → D → Prop) → Prop
  | [.d (.list xs)], q => q false (.tuple xs)
  | [.d (.tuple xs)], q => q false (.tuple xs)
  | _, _ => False
instance : LC K (rTup3 K) mTuple where
  s am O H xs us hK hO ra Q q hm k := by
    subst hK
    match us, hm, ra with
    | [.d (.list ds)], hm, .cons r .nil =>
      cases r with
      | lst a1 a2 => exact ⟨_, _, rfl, .inl ⟨SqL.of (cut_some.mp a1).2, fun p hp => k _ _ _ _ hm (same_new hp) (new_tup hO hp a2)⟩⟩
    | [.d (.tuple ds)], hm, .cons r .nil =>
      cases r with
      | tup a1 a2 => exact ⟨_, _, rfl, .inr ⟨SqT.le Le.cutAll a1, k _ _ _ H hm (Same.refl _) (.old (Rp.tup a1 a2))⟩⟩
def rAbs3 : List V → Hp → VK → Prop := fun xs H Q => ∃ i, xs = [.int i] ∧ Q (.int (if i < 0 then -i else i)) H
theorem call_abs3 {X : Cx} : CallR X (.builtin "abs") rAbs3 := call_abs
@[simp ↓] def mAbs : List U → (Bool → D → Prop) → Prop
  | [.d (.int i)], q => q false (.int (if i < 0 then -i else i))
  | _, _ => False
instance : LC K rAbs3 mAbs where
  s am O H xs us hK hO ra Q q hm k := by
    match us, hm, ra with
    | [.d (.int i)], hm, .cons r .nil =>
      cases r
      exact ⟨i, rfl, k _ _ _ H hm (Same.refl _) (.old (Rp.int _))⟩
def rInt3 : List V → Hp → VK → Prop := fun xs H Q => (∃ i, xs = [.int i] ∧ Q (.int i) H) ∨ ∃ k, xs = [.bl k] ∧ Q (.int (if k then 1 else 0)) H
theorem call_int3 {X : Cx} : CallR X (.type "int") rInt3 := call_int1
@[simp ↓] def mInt : List U → (Bool → D → Prop) → Prop
  | [.d (.int i)], q => q false (.int i)
  | [.d (.bool k)], q => q false (.int (if k then 1 else 0))
  | _, _ => False
instance : LC K rInt3 mInt where
  s am O H xs us hK hO ra Q q hm k := by
    match us, hm, ra with
    | [.d (.int i)], hm, .cons r .nil =>
      cases r
      exact .inl ⟨i, rfl, k _ _ _ H hm (Same.refl _) (.old (Rp.int _))⟩
    | [.d (.bool i)], hm, .cons r .nil =>
      cases r
      exact .inr ⟨i, rfl, k _ _ _ H hm (Same.refl _) (.old (Rp.int _))⟩
theorem call_or {X : Cx} {f : Value} {r r' : List V → Hp → VK → Prop} (h : CallR X f r) (h' : CallR X f r') : CallR X f (fun xs H Q => r xs H Q ∨ r' xs H Q) := fun pins s σ H xs us Q I r q => by
  rcases q with q | q
  · exact h pins s σ H xs us Q I r q
  · exact h' pins s σ H xs us Q I r q
@[simp] def toIs : List D → Option (List Int)
  | [] => some []
  | .int i :: ds => (toIs ds).map (i :: ·)
  | _ :: _ => none
theorem toIs_map (ns : List Int) : toIs (ns.map PyData.int) = some ns := by
  induction ns with
  | nil => rfl
  | cons n ns ih =>
    show (toIs (ns.map PyData.int)).map _ = _
    rw [ih]
    rfl
theorem toIs_eq : ∀ {ds : List D} {ns : List Int}, toIs ds = some ns → ds = ns.map PyData.int
  | [], _, h => by
    cases h
    rfl
  | d :: ds, ns, h => by
    cases d with
    | int i =>
      have h2 : (toIs ds).map (i :: ·) = some ns := h
      cases q : toIs ds with
      | none =>
        rw [q] at h2
        cases h2
      | some ms =>
        rw [q] at h2
        cases h2
        rw [toIs_eq q]
        rfl
    | _ => cases h
theorem fold_min (n : Int) : ∀ ns : List Int, (ns.foldl min n) ∈ n :: ns ∧ ∀ y ∈ n :: ns, ns.foldl min n ≤ y
  | [] => ⟨List.mem_singleton.mpr rfl, fun y h => by
    rw [List.mem_singleton.mp h]
    exact Int.le_refl _⟩
  | m :: ns => by
    obtain ⟨h1, h2⟩ := fold_min (min n m) ns
    show (ns.foldl min (min n m)) ∈ _ ∧ ∀ y ∈ _, ns.foldl min (min n m) ≤ y
    have h3 := h2 (min n m) (List.mem_cons_self ..)
    refine ⟨?_, fun y hy => ?_⟩
    · rcases List.mem_cons.mp h1 with e | e
      · rw [e]
        by_cases h : n ≤ m
        · rw [Int.min_eq_left h]
          exact List.mem_cons_self ..
        · rw [Int.min_eq_right (by omega)]
          exact List.mem_cons_of_mem _ (List.mem_cons_self ..)
      · exact List.mem_cons_of_mem _ (List.mem_cons_of_mem _ e)
    · rcases List.mem_cons.mp hy with e | e
      · subst e
        omega
      · rcases List.mem_cons.mp e with e | e
        · subst e
          omega
        · exact h2 y (List.mem_cons_of_mem _ e)
theorem fold_max (n : Int) : ∀ ns : List Int, (ns.foldl max n) ∈ n :: ns ∧ ∀ y ∈ n :: ns, y ≤ ns.foldl max n
  | [] => ⟨List.mem_singleton.mpr rfl, fun y h => by
    rw [List.mem_singleton.mp h]
    exact Int.le_refl _⟩
  | m :: ns => by
    obtain ⟨h1, h2⟩ := fold_max (max n m) ns
    show (ns.foldl max (max n m)) ∈ _ ∧ ∀ y ∈ _, y ≤ ns.foldl max (max n m)
    have h3 := h2 (max n m) (List.mem_cons_self ..)
    refine ⟨?_, fun y hy => ?_⟩
    · rcases List.mem_cons.mp h1 with e | e
      · rw [e]
        by_cases h : n ≤ m
        · rw [Int.max_eq_right h]
          exact List.mem_cons_of_mem _ (List.mem_cons_self ..)
        · rw [Int.max_eq_left (by omega)]
          exact List.mem_cons_self ..
      · exact List.mem_cons_of_mem _ (List.mem_cons_of_mem _ e)
    · rcases List.mem_cons.mp hy with e | e
      · subst e
        omega
      · rcases List.mem_cons.mp e with e | e
        · subst e
          omega
        · exact h2 y (List.mem_cons_of_mem _ e)
theorem depth_ints : ∀ ns : List Int, PyData.depthAll (ns.map PyData.int) = 0
  | [] => by simp [PyData.depthAll]
  | n :: ns => by
    rw [List.map_cons]
    simp only [PyData.depthAll, PyData.depth, depth_ints ns]
    omega
theorem alike_ints (ns : List Int) : PySem.W.AlikeAll (ns.map PyData.int) := ⟨fun x hx y hy => by
  obtain ⟨n, _, rfl⟩ := List.mem_map.mp hx
  obtain ⟨m, _, rfl⟩ := List.mem_map.mp hy
  simp [PySem.W.alike], fun x hx => by
  obtain ⟨n, _, rfl⟩ := List.mem_map.mp hx
  intro z
  cases z⟩
theorem reads_ints {h : Heap} : ∀ {ns : List Int} {us : List Value}, Vals (ns.map V.int) us → ReadsAll h us (ns.map PyData.int) (ns.flatMap fun _ => [])
  | [], _, r => by
    cases r
    exact ReadsAll.nil
  | n :: ns, _, r => by
    cases r with
    | cons r1 r2 =>
      obtain ⟨t, rfl⟩ := r1
      exact ReadsAll.cons (Reads.int n t) (reads_ints r2)
def rMinT (K : PySem.W.Frag) : List V → Hp → VK → Prop := fun vs H Q => ∃ (a : Addr) (ns : List Int), vs = [V.ref a] ∧ SqT K H a (ns.map V.int) ∧ 0 < ns.length ∧ ∀ m, m ∈ ns → (∀ y, y ∈ ns → m ≤ y) → Q (.int m) H
def rMaxT (K : PySem.W.Frag) : List V → Hp → VK → Prop := fun vs H Q => ∃ (a : Addr) (ns : List Int), vs = [V.ref a] ∧ SqT K H a (ns.map V.int) ∧ 0 < ns.length ∧ ∀ m, m ∈ ns → (∀ y, y ∈ ns → y ≤ m) → Q (.int m) H
theorem cr_minT {X : Cx} (hc : X.calm = true) (hu : X.A.units + 1 < cLine) : CallR X (.builtin "min") (rMinT X.K) := by
  intro pins s σ H vs us Q I r h
  obtain ⟨a, ns, rfl, hs, hne, q⟩ := h
  obtain ⟨its, rv, hl, _⟩ := I.tuple hs
  rw [Vals.ref1 r]
  match ns, hne, rv with
  | n :: ns, _, rv =>
    refine PySem.W.min_tuple_data (I.ok.hd hc) (vs := its.toArray) hl (x := .int n) (xs := ns.map .int) (as := (n :: ns).flatMap fun _ => []) (reads_ints (ns := n :: ns) rv) (alike_ints (n :: ns)) (by rw [show PyData.int n :: ns.map PyData.int = (n :: ns).map PyData.int from rfl, depth_ints]; omega) fun i v h' tk bs hv hr hk => ?_
    rw [PySem.W.minD_ints] at hr
    obtain ⟨t, rfl⟩ : ∃ t, v = .int (ns.foldl min n) t := by
      cases hr with
      | int i t => exact ⟨t, rfl⟩
    obtain ⟨h1, h2⟩ := fold_min n ns
    exact ⟨.int _, H, I.kept hk, ⟨_, rfl⟩, q _ h1 h2⟩
theorem cr_maxT {X : Cx} (hc : X.calm = true) (hu : X.A.units + 1 < cLine) : CallR X (.builtin "max") (rMaxT X.K) := by
  intro pins s σ H vs us Q I r h
  obtain ⟨a, ns, rfl, hs, hne, q⟩ := h
  obtain ⟨its, rv, hl, _⟩ := I.tuple hs
  rw [Vals.ref1 r]
  match ns, hne, rv with
  | n :: ns, _, rv =>
    refine PySem.W.max_tuple_data (I.ok.hd hc) (vs := its.toArray) hl (x := .int n) (xs := ns.map .int) (as := (n :: ns).flatMap fun _ => []) (reads_ints (ns := n :: ns) rv) (alike_ints (n :: ns)) (by rw [show PyData.int n :: ns.map PyData.int = (n :: ns).map PyData.int from rfl, depth_ints]; omega) fun i v h' tk bs hv hr hk => ?_
    rw [PySem.W.maxD_ints] at hr
    obtain ⟨t, rfl⟩ : ∃ t, v = .int (ns.foldl max n) t := by
      cases hr with
      | int i t => exact ⟨t, rfl⟩
    obtain ⟨h1, h2⟩ := fold_max n ns
    exact ⟨.int _, H, I.kept hk, ⟨_, rfl⟩, q _ h1 h2⟩
def rMin3 (K : PySem.W.Frag) : List V → Hp → VK → Prop := fun xs H Q => (∃ i j, xs = [.int i, .int j] ∧ Q (.int (if j < i then j else i)) H) ∨ rMin K xs H Q ∨ rMinT K xs H Q
def rMax3 (K : PySem.W.Frag) : List V → Hp → VK → Prop := fun xs H Q => (∃ i j, xs = [.int i, .int j] ∧ Q (.int (if j > i then j else i)) H) ∨ rMax K xs H Q ∨ rMaxT K xs H Q
theorem call_min3 {X : Cx} (hc : X.calm = true) (hu : X.A.units + 1 < cLine) : CallR X (.builtin "min") (rMin3 X.K) := call_or (call_min2 hc) (call_or (cr_min hc) (cr_minT hc hu))
theorem call_max3 {X : Cx} (hc : X.calm = true) (hu : X.A.units + 1 < cLine) : CallR X (.builtin "max") (rMax3 X.K) := call_or (call_max2 hc) (call_or (cr_max hc) (cr_maxT hc hu))
@[simp ↓] def mMin : List U → (Bool → D → Prop) → Prop
  | [.d (.int i), .d (.int j)], q => q false (.int (min i j))
  | [.d (.list xs)], q => ask (toIs xs) fun ns => ns ≠ [] ∧ ∀ m, m ∈ ns → (∀ y ∈ ns, m ≤ y) → q false (.int m)
  | [.d (.tuple xs)], q => ask (toIs xs) fun ns => ns ≠ [] ∧ ∀ m, m ∈ ns → (∀ y ∈ ns, m ≤ y) → q false (.int m)
  | _, _ => False
@[simp ↓] def mMax : List U → (Bool → D → Prop) → Prop
  | [.d (.int i), .d (.int j)], q => q false (.int (max i j))
  | [.d (.list xs)], q => ask (toIs xs) fun ns => ns ≠ [] ∧ ∀ m, m ∈ ns → (∀ y ∈ ns, y ≤ m) → q false (.int m)
  | [.d (.tuple xs)], q => ask (toIs xs) fun ns => ns ≠ [] ∧ ∀ m, m ∈ ns → (∀ y ∈ ns, y ≤ m) → q false (.int m)
  | _, _ => False
theorem min_if (i j : Int) : (if j < i then j else i) = min i j := by
  by_cases h : j < i
  · rw [if_pos h]
    omega
  · rw [if_neg h]
    omega
theorem max_if (i j : Int) : (if j > i then j else i) = max i j := by
  by_cases h : i < j
  · rw [if_pos h]
    omega
  · rw [if_neg h]
    omega
instance : LC K (rMin3 K) mMin where
  s am O H xs us hK hO ra Q q hm k := by
    subst hK
    match us, hm, ra with
    | [.d (.int i), .d (.int j)], hm, .cons r (.cons r2 .nil) =>
      cases r
      cases r2
      refine .inl ⟨i, j, rfl, ?_⟩
      rw [min_if]
      exact k _ _ _ H hm (Same.refl _) (.old (Rp.int _))
    | [.d (.list ds)], hm, .cons r .nil =>
      obtain ⟨ns, e, hne, hm⟩ := ask_some (k := fun ns => ns ≠ [] ∧ ∀ m, m ∈ ns → (∀ y ∈ ns, m ≤ y) → q false (.int m)) hm
      cases r with
      | lst a1 a2 =>
        rw [toIs_eq e] at a2
        have e2 := rp_ints a2
        subst e2
        exact .inr (.inl ⟨_, ns, rfl, SqL.of (cut_some.mp a1).2, List.length_pos_iff.mpr hne, fun m h1 h2 => k _ _ _ H (hm m h1 h2) (Same.refl _) (.old (Rp.int _))⟩)
    | [.d (.tuple ds)], hm, .cons r .nil =>
      obtain ⟨ns, e, hne, hm⟩ := ask_some (k := fun ns => ns ≠ [] ∧ ∀ m, m ∈ ns → (∀ y ∈ ns, m ≤ y) → q false (.int m)) hm
      cases r with
      | tup a1 a2 =>
        rw [toIs_eq e] at a2
        have e2 := rp_ints a2
        subst e2
        exact .inr (.inr ⟨_, ns, rfl, SqT.le Le.cutAll a1, List.length_pos_iff.mpr hne, fun m h1 h2 => k _ _ _ H (hm m h1 h2) (Same.refl _) (.old (Rp.int _))⟩)
instance : LC K (rMax3 K) mMax where
  s am O H xs us hK hO ra Q q hm k := by
    subst hK
    match us, hm, ra with
    | [.d (.int i), .d (.int j)], hm, .cons r (.cons r2 .nil) =>
      cases r
      cases r2
      refine .inl ⟨i, j, rfl, ?_⟩
      rw [max_if]
      exact k _ _ _ H hm (Same.refl _) (.old (Rp.int _))
    | [.d (.list ds)], hm, .cons r .nil =>
      obtain ⟨ns, e, hne, hm⟩ := ask_some (k := fun ns => ns ≠ [] ∧ ∀ m, m ∈ ns → (∀ y ∈ ns, y ≤ m) → q false (.int m)) hm
      cases r with
      | lst a1 a2 =>
        rw [toIs_eq e] at a2
        have e2 := rp_ints a2
        subst e2
        exact .inr (.inl ⟨_, ns, rfl, SqL.of (cut_some.mp a1).2, List.length_pos_iff.mpr hne, fun m h1 h2 => k _ _ _ H (hm m h1 h2) (Same.refl _) (.old (Rp.int _))⟩)
    | [.d (.tuple ds)], hm, .cons r .nil =>
      obtain ⟨ns, e, hne, hm⟩ := ask_some (k := fun ns => ns ≠ [] ∧ ∀ m, m ∈ ns → (∀ y ∈ ns, y ≤ m) → q false (.int m)) hm
      cases r with
      | tup a1 a2 =>
        rw [toIs_eq e] at a2
        have e2 := rp_ints a2
        subst e2
        exact .inr (.inr ⟨_, ns, rfl, SqT.le Le.cutAll a1, List.length_pos_iff.mpr hne, fun m h1 h2 => k _ _ _ H (hm m h1 h2) (Same.refl _) (.old (Rp.int _))⟩)
@[simp ↓] def mSum : List U → (Bool → D → Prop) → Prop
  | [.d (.list xs)], q => ask (toIs xs) fun ns => q false (.int ns.sum)
  | _, _ => False
instance : LC K (rSum K) mSum where
  s am O H xs us hK hO ra Q q hm k := by
    subst hK
    match us, hm, ra with
    | [.d (.list ds)], hm, .cons r .nil =>
      obtain ⟨ns, e, hm⟩ := ask_some (k := fun ns => q false (.int (List.sum ns))) hm
      cases r with
      | lst a1 a2 =>
        rw [toIs_eq e] at a2
        have e2 := rp_ints a2
        subst e2
        exact ⟨_, ns, rfl, SqL.of (cut_some.mp a1).2, k _ _ _ H hm (Same.refl _) (.old (Rp.int _))⟩
@[simp] def toBs : List D → Option (List Bool)
  | [] => some []
  | .bool i :: ds => (toBs ds).map (i :: ·)
  | _ :: _ => none
theorem toBs_map (ns : List Bool) : toBs (ns.map PyData.bool) = some ns := by
  induction ns with
  | nil => rfl
  | cons n ns ih =>
    show (toBs (ns.map PyData.bool)).map _ = _
    rw [ih]
    rfl
theorem toBs_eq : ∀ {ds : List D} {ns : List Bool}, toBs ds = some ns → ds = ns.map PyData.bool
  | [], _, h => by
    cases h
    rfl
  | d :: ds, ns, h => by
    cases d with
    | bool i =>
      have h2 : (toBs ds).map (i :: ·) = some ns := h
      cases q : toBs ds with
      | none =>
        rw [q] at h2
        cases h2
      | some ms =>
        rw [q] at h2
        cases h2
        rw [toBs_eq q]
        rfl
    | _ => cases h
@[simp ↓] def mAnyAll (f : List Bool → Bool) : List U → (Bool → D → Prop) → Prop
  | [.d (.list xs)], q => ask (toBs xs) fun ns => q false (.bool (f ns))
  | _, _ => False
instance : LC K (rAny K) (mAnyAll fun bs => bs.any id) where
  s am O H xs us hK hO ra Q q hm k := by
    subst hK
    match us, hm, ra with
    | [.d (.list ds)], hm, .cons r .nil =>
      obtain ⟨ns, e, hm⟩ := ask_some (k := fun ns => q false (.bool (List.any ns id))) hm
      cases r with
      | lst a1 a2 =>
        rw [toBs_eq e] at a2
        have e2 := rp_bools a2
        subst e2
        exact ⟨_, ns, rfl, SqL.of (cut_some.mp a1).2, k _ _ _ H hm (Same.refl _) (.old (Rp.bl _))⟩
instance : LC K (rAll K) (mAnyAll fun bs => bs.all id) where
  s am O H xs us hK hO ra Q q hm k := by
    subst hK
    match us, hm, ra with
    | [.d (.list ds)], hm, .cons r .nil =>
      obtain ⟨ns, e, hm⟩ := ask_some (k := fun ns => q false (.bool (List.all ns id))) hm
      cases r with
      | lst a1 a2 =>
        rw [toBs_eq e] at a2
        have e2 := rp_bools a2
        subst e2
        exact ⟨_, ns, rfl, SqL.of (cut_some.mp a1).2, k _ _ _ H hm (Same.refl _) (.old (Rp.bl _))⟩
end
end V3
set_option Elab.async false
set_option linter.all false
set_option maxRecDepth 100000
set_option maxHeartbeats 4000000
namespace V3
open PySem PySem.Spec PyProof.Rows L2
/-! ### the rules with the written part named -/
theorem un65 {A : Around} {k : Nat} (hr : Room k A) : A.units + 65 < cLine := by
  have := hr.un
  omega
section
variable {X : Cx} {K : PySem.W.Frag}
theorem ix3 (K : PySem.W.Frag) (h : X.K = K := by rfl) : IxR X (rIx K) := h ▸ ix_seq
theorem add3 (K : PySem.W.Frag) (h : X.K = K := by rfl) : OpR X (binaryOp .Add) (rAddU K) := h ▸ op_addU
theorem eq3 (K : PySem.W.Frag) (hu : X.A.units + 64 < cLine) (h : X.K = K := by rfl) : OpR X (compareOp .Eq) (rEqD K) := h ▸ op_eqD hu
theorem ne3 (K : PySem.W.Frag) (hu : X.A.units + 64 < cLine) (h : X.K = K := by rfl) : OpR X (compareOp .NotEq) (rNeD K) := h ▸ op_neD hu
theorem in3 (K : PySem.W.Frag) (hu : X.A.units + 65 < cLine) (h : X.K = K := by rfl) : OpR X (compareOp .In) (rInU K) := h ▸ op_inU hu
theorem notIn3 (K : PySem.W.Frag) (hu : X.A.units + 65 < cLine) (h : X.K = K := by rfl) : OpR X (compareOp .NotIn) (rNotInU K) := h ▸ op_notInU hu
theorem sl3 (K : PySem.W.Frag) (h : X.K = K := by rfl) : SlR X (rSlU K) := h ▸ sl_U
theorem len3 (K : PySem.W.Frag) (h : X.K = K := by rfl) : CallR X (.builtin "len") (rLen3 K) := h ▸ call_len3
theorem list3 (K : PySem.W.Frag) (h : X.K = K := by rfl) : CallR X (.type "list") (rList3 K) := h ▸ call_list3
theorem tup3 (K : PySem.W.Frag) (h : X.K = K := by rfl) : CallR X (.type "tuple") (rTup3 K) := h ▸ call_tup3
theorem min3 (K : PySem.W.Frag) (hc : X.calm = true) (hu : X.A.units + 1 < cLine) (h : X.K = K := by rfl) : CallR X (.builtin "min") (rMin3 K) := h ▸ call_min3 hc hu
theorem max3 (K : PySem.W.Frag) (hc : X.calm = true) (hu : X.A.units + 1 < cLine) (h : X.K = K := by rfl) : CallR X (.builtin "max") (rMax3 K) := h ▸ call_max3 hc hu
theorem sum3 (K : PySem.W.Frag) (hc : X.calm = true) (h : X.K = K := by rfl) : CallR X (.builtin "sum") (rSum K) := h ▸ cr_sum hc
theorem any3 (K : PySem.W.Frag) (hc : X.calm = true) (h : X.K = K := by rfl) : CallR X (.builtin "any") (rAny K) := h ▸ cr_any hc
theorem all3 (K : PySem.W.Frag) (hc : X.calm = true) (h : X.K = K := by rfl) : CallR X (.builtin "all") (rAll K) := h ▸ cr_all hc
theorem isi3 (K : PySem.W.Frag) (h : X.K = K := by rfl) : CallR X (.builtin "isinstance") (rIsi K) := h ▸ call_isi
theorem isiT3 (K : PySem.W.Frag) (h : X.K = K := by rfl) : CallR X (.builtin "isinstance") (rIsiT K) := h ▸ call_isiT
theorem seq3 (K : PySem.W.Frag) {tg l : Expr} {tl : TE} (hl : PE X l tl) (h : X.K = K := by rfl) : PI X tg l (iSeq K tl) := h ▸ pi_seq hl
theorem fld3 (K : PySem.W.Frag) {e : Expr} {f : Str} {pos : Pos} {ta : TE} (he : PE X e ta) (hb : attributeBase e f X.env (eval e X.env) = eval e X.env) (h : X.K = K := by rfl) : PE X (.Attribute e f pos) (tFld K ta f) := h ▸ pe_fld he hb
theorem tupG3 (K : PySem.W.Frag) {es : List Expr} {t : TGs} {n : Nat} {k : _} {pos : Pos} (hc : X.calm = true) (h' : PGs X es t) (hn : (assignEach es X.env).length = n := by rfl) (hst : (assignEach es X.env).findIdx? (·.1) = none := by rfl) (h : X.K = K := by rfl) : PG X (.Tuple es k pos) (gTup K n t) := h ▸ pg_tup hc h' hn hst
end
section
variable {K : PySem.W.Frag} {C : Addr} {TL : List (Addr × Str)} {E : XK}
/-- a place where ways meet -/
@[simp ↓] def mCut (mt mu : TS3) : TS3 := fun F ρ n e => ∃ Mid : Ro → Nat → Prop, mt { F with nx := Mid } ρ n e ∧ ∀ ρ' n', Mid ρ' n' → mu F ρ' n' e
instance {t u : TS} {mt mu : TS3} [ht : LS K C TL E t mt] [hu : LS K C TL E u mu] : LS K C TL E (C8.tCut t u) (mCut mt mu) where
  s am ρ n σ H D F hE h en hm := by
    obtain ⟨Mid, h1, h2⟩ := hm
    exact ⟨fun σ' H' => ∃ ρ' n', Mid ρ' n' ∧ Rl am ρ' n' σ' H' ∧ EnR am D F, ht.s am ρ n σ H _ { F with nx := Mid } hE h ⟨fun ρ' n' σ' H' q r => ⟨ρ', n', q, r, en⟩, en.bk, en.ct, en.rt⟩ h1, fun σ' H' ⟨ρ', n', q, r, _⟩ => hu.s am ρ' n' σ' H' D F hE r en (h2 ρ' n' q)⟩
@[simp ↓] def mDrop (me : TE3) : TS3 := fun F ρ n e => me ρ n (fun _ _ n1 => F.nx ρ n1) e
instance {te : TE} {S : List Nat} {me : TE3} [he : LE K C TL E te S me] : LS K C TL E (tDrop te) (mDrop me) where
  s am ρ n σ H D F hE h en hm := he.s am ρ n σ H hE h _ _ hm fun fr u n1 v H1 hq f1 w1 _ => en.nx ρ n1 σ H1 hq (h.step f1 w1)
/-! ### x.append(e), x.extend(e), x.pop(k) -/
@[simp] def owAt : Ro → Nat → Option (List D)
  | [], _ => none
  | .ow ds :: _, 0 => some ds
  | _ :: _, 0 => none
  | _ :: ρ, i + 1 => owAt ρ i
theorem owAt_eq : ∀ {ρ : Ro} {i : Nat} {ds : List D}, owAt ρ i = some ds → ρ[i]? = some (Sl.ow ds)
  | [], _, _, h => by cases h
  | .ow ds :: _, 0, _, h => by
    cases h
    rfl
  | .no :: _, 0, _, h => by cases h
  | .fz _ :: _, 0, _, h => by cases h
  | s :: ρ, i + 1, ds, h => by
    have h2 : owAt ρ i = some ds := by cases s <;> exact h
    rw [List.getElem?_cons_succ]
    exact owAt_eq h2
@[simp ↓] def mApp (S : List Nat) (i : Nat) (me : TE3) : TS3 := fun F ρ n e => ask (owAt ρ i) fun ds => me ρ n (fun _ u n1 => askD u fun x => ds.length < sizeLine ∧ (if flat x = true then F.nx (ρ.set i (.ow (ds ++ [x]))) n1 else i ∉ S ∧ F.nx ((dem S ρ).set i (.ow (ds ++ [x]))) n1)) e
/-- an item comes behind the list of slot i -/
theorem app_ok {am : Am} {ρ : Ro} {n : Nat} {σ : L2.St} {H : Hp} (h : Rl am ρ n σ H) {i : Nat} {ds : List D} {p : Addr} {vs : List V} {S : List Nat} {v : V} {x : D} (hi : ρ[i]? = some (Sl.ow ds)) (hp : σ[i]? = some (some (V.ref p))) (e : H p = some (.lst vs)) (r : RpAll am.K (cut (Hid am ρ σ) H) vs ds)
    (rx : Rp am.K (cut (Hid am (dem S ρ) σ) H) v x) {k : Ro → Prop} (hk : if flat x = true then k (ρ.set i (.ow (ds ++ [x]))) else i ∉ S ∧ k ((dem S ρ).set i (.ow (ds ++ [x])))) : ∃ ρ', k ρ' ∧ Rl am ρ' n σ (upd H p (.lst (vs ++ [v]))) := by
  by_cases f : flat x = true
  · rw [if_pos f] at hk
    refine ⟨_, hk, h.write hi hp (RpAll.app r (.one (Rp.hide (fun q z => ?_) _ _ f rx)))⟩
    rcases z with z | ⟨j, z⟩
    · exact .inl (.inl z)
    · exact .inr (h.ownL z).2.1
  · rw [if_neg f] at hk
    have hi2 : (dem S ρ)[i]? = some (Sl.ow ds) := by
      rw [dem_get, hi]
      show some (if i ∈ S then _ else _) = _
      rw [if_neg hk.1]
    exact ⟨_, hk.2, (h.dem S).write hi2 hp (RpAll.app (RpAll.le (Le.cutSub fun a => hidDem) _ _ r) (.one rx))⟩
instance (priority := high) {te : TE} {i : Nat} {S : List Nat} {me : TE3} [he : LE K C TL E te S me] : LS K C TL E (tDrop (tBM K "list" rAppend (tVar i) (tCons te tNil))) (mApp S i me) where
  s am ρ n σ H D F hE h en hm := by
    obtain ⟨rfl, rfl, rfl, rfl⟩ := id hE
    obtain ⟨ds, e, hm⟩ := ask_some hm
    have hi := owAt_eq e
    obtain ⟨p, vs, q1, q2, q3, q4⟩ := h.ow i ds hi
    refine ⟨.ref p, q1, .inl ⟨rfl, vs, SqL.of q3⟩, he.s am ρ n σ H hE h _ _ hm fun fr u n1 v H1 hq f1 w1 r1 => ?_⟩
    have h1 := h.step f1 w1
    match u, hq, r1.1 with
    | .d x, hq, rx =>
      have e1 := h.keepOw f1 ⟨⟨ds, hi⟩, q1⟩ q3
      have r4 := RpAll.le (h.cutLe0 f1) _ _ q4
      obtain ⟨ρ', hk, r5⟩ := app_ok h1 hi q1 e1 r4 rx (k := fun ρ' => F.nx ρ' n1) hq.2
      exact ⟨p, vs, v, rfl, rfl, e1, by rw [RpAll.len r4]; exact hq.1, en.nx ρ' n1 σ _ hk r5⟩
@[simp ↓] def mExt (S : List Nat) (i : Nat) (me : TE3) : TS3 := fun F ρ n e => ask (owAt ρ i) fun ds => me ρ n (fun _ u n1 => askL u fun xs => ds.length + xs.length ≤ sizeLine ∧ flatAll xs = true ∧ F.nx (ρ.set i (.ow (ds ++ xs))) n1) e
instance (priority := high) {te : TE} {i : Nat} {S : List Nat} {me : TE3} [he : LE K C TL E te S me] : LS K C TL E (tDrop (tBM K "list" rExtend (tVar i) (tCons te tNil))) (mExt S i me) where
  s am ρ n σ H D F hE h en hm := by
    obtain ⟨rfl, rfl, rfl, rfl⟩ := id hE
    obtain ⟨ds, e, hm⟩ := ask_some hm
    have hi := owAt_eq e
    obtain ⟨p, vs, q1, q2, q3, q4⟩ := h.ow i ds hi
    refine ⟨.ref p, q1, .inl ⟨rfl, vs, SqL.of q3⟩, he.s am ρ n σ H hE h _ _ hm fun fr u n1 v H1 hq f1 w1 r1 => ?_⟩
    have h1 := h.step f1 w1
    obtain ⟨xs, a, ws, rfl, rfl, a1, a2, hl, fl, hq⟩ := askL_rep hq r1.1
    have e1 := h.keepOw f1 ⟨⟨ds, hi⟩, q1⟩ q3
    have r4 := RpAll.le (h.cutLe0 f1) _ _ q4
    refine ⟨p, a, vs, ws, rfl, rfl, e1, (cut_some.mp a1).2, by rw [RpAll.len r4, RpAll.len a2]; exact hl, en.nx _ n1 σ _ hq (h1.write hi q1 (RpAll.app r4 (RpAll.hide (fun q z => ?_) _ _ fl a2)))⟩
    rcases z with z | ⟨j, z⟩
    · exact .inl (.inl z)
    · exact .inr (h1.ownL z).2.1
/-- an item taken out of the list of slot j: which one, what is left -/
@[simp] def popD (ds : List D) (i : Int) (k : D → List D → Prop) : Prop := ((-(2 ^ 63) ≤ i ∧ i < 2 ^ 63) ∧ ask (ixN ds.length i) fun j => ask ds[j]? fun x => flat x = true ∧ k x (ds.eraseIdx j))
@[simp ↓] def mPopTo (i j : Nat) (me : TE3) : TS3 := fun F ρ n e => ask (owAt ρ j) fun ds => me ρ n (fun _ u n1 => askI u fun k => popD ds k fun x rest => F.nx ((ρ.set j (.ow rest)).set i (.fz (.d x))) n1) e
theorem ixN_seq {n : Nat} {i : Int} {j : Nat} (h : ixN n i = some j) : seqIndex? i n = some j := by
  unfold ixN at h
  unfold seqIndex?
  split at h
  · split at h
    · cases h
      simp
      omega
    · cases h
  · split at h
    · cases h
      simp
      omega
    · cases h
@[simp] theorem toBs_f {α : Type} (g : α → Bool) : ∀ as : List α, toBs (as.map fun a => PyData.bool (g a)) = some (as.map g)
  | [] => rfl
  | a :: as => by
    show (toBs (as.map fun a => PyData.bool (g a))).map _ = _
    rw [toBs_f g as]
    rfl
@[simp] theorem toIs_f {α : Type} (g : α → Int) : ∀ as : List α, toIs (as.map fun a => PyData.int (g a)) = some (as.map g)
  | [] => rfl
  | a :: as => by
    show (toIs (as.map fun a => PyData.int (g a))).map _ = _
    rw [toIs_f g as]
    rfl
theorem few {k : Nat} (h : k ≤ 10000) : k < sizeLine := Nat.lt_of_le_of_lt h (by decide)
/-! ### loops and comprehensions over what is known -/
theorem lcL_pure {is : List Nat} {tup : Bool} {mt : TT3} {me : TE3} {ρ : Ro} {e : Addr → Prop} {α : Type} (D0 : α → D) (f : α → D) (p : α → Bool) : ∀ (as : List α) (n : Nat) (q : List D → Nat → Prop),
    (∀ a ∈ as, ∀ (n : Nat) (Kt : D → Nat → Prop) (Ks : Nat → Prop), (if p a = true then Kt (f a) n else Ks n) → giv is tup (D0 a) ρ fun ρ' => mt ρ' n (fun b n1 => if b = true then me ρ' n1 (fun _ u n2 => match u with
      | .d x => Kt x n2
      | _ => False) e else Ks n1) e) → q ((as.filter p).map f) n → lcL is tup mt me ρ e (as.map D0) n q
  | [], n, q, _, h => h
  | a :: as, n, q, hit, h => by
    show giv is tup (D0 a) ρ fun ρ' => mt ρ' n (fun b n1 => if b = true then me ρ' n1 (fun _ u n2 => match u with
      | .d x => lcL is tup mt me ρ e (as.map D0) n2 fun xs n3 => q (x :: xs) n3
      | _ => False) e else lcL is tup mt me ρ e (as.map D0) n1 q) e
    refine hit a (List.mem_cons_self ..) n (fun x n2 => lcL is tup mt me ρ e (as.map D0) n2 fun xs n3 => q (x :: xs) n3) (fun n1 => lcL is tup mt me ρ e (as.map D0) n1 q) ?_
    by_cases hp : p a = true
    · rw [if_pos hp]
      refine lcL_pure D0 f p as n _ (fun b hb => hit b (List.mem_cons_of_mem _ hb)) ?_
      rw [List.filter_cons_of_pos hp] at h
      exact h
    · rw [if_neg hp]
      refine lcL_pure D0 f p as n _ (fun b hb => hit b (List.mem_cons_of_mem _ hb)) ?_
      rw [List.filter_cons_of_neg hp] at h
      exact h
/-- all are taken -/
theorem lcL_all {is : List Nat} {tup : Bool} {mt : TT3} {me : TE3} {ρ : Ro} {e : Addr → Prop} {α : Type} (D0 : α → D) (f : α → D) (as : List α) (n : Nat) (q : List D → Nat → Prop)
    (hit : ∀ a ∈ as, ∀ (n : Nat) (Kt : D → Nat → Prop) (Ks : Nat → Prop), Kt (f a) n → giv is tup (D0 a) ρ fun ρ' => mt ρ' n (fun b n1 => if b = true then me ρ' n1 (fun _ u n2 => match u with
      | .d x => Kt x n2
      | _ => False) e else Ks n1) e) (h : q (as.map f) n) : lcL is tup mt me ρ e (as.map D0) n q := by
  refine lcL_pure D0 f (fun _ => true) as n q (fun a ha n Kt Ks k => hit a ha n Kt Ks (by simpa using k)) ?_
  have e : as.filter (fun _ => true) = as := List.filter_eq_self.mpr fun _ _ => rfl
  rw [e]
  exact h
/-- the same over the items as they stand -/
theorem lcL_id {is : List Nat} {tup : Bool} {mt : TT3} {me : TE3} {ρ : Ro} {e : Addr → Prop} (f : D → D) (as : List D) (n : Nat) (q : List D → Nat → Prop)
    (hit : ∀ a ∈ as, ∀ (n : Nat) (Kt : D → Nat → Prop) (Ks : Nat → Prop), Kt (f a) n → giv is tup a ρ fun ρ' => mt ρ' n (fun b n1 => if b = true then me ρ' n1 (fun _ u n2 => match u with
      | .d x => Kt x n2
      | _ => False) e else Ks n1) e) (h : q (as.map f) n) : lcL is tup mt me ρ e as n q := by
  have z := lcL_all (is := is) (tup := tup) (mt := mt) (me := me) (ρ := ρ) (e := e) (fun d => d) f as n q hit h
  rw [List.map_id'] at z
  exact z
/-- over the numbers from 0 on -/
theorem lcL_up {is : List Nat} {tup : Bool} {mt : TT3} {me : TE3} {ρ : Ro} {e : Addr → Prop} (f : Nat → D) (lo : Int) (k : Nat) (n : Nat) (q : List D → Nat → Prop)
    (hit : ∀ i, i < k → ∀ (n : Nat) (Kt : D → Nat → Prop) (Ks : Nat → Prop), Kt (f i) n → giv is tup (.int (lo + (i : Nat))) ρ fun ρ' => mt ρ' n (fun b n1 => if b = true then me ρ' n1 (fun _ u n2 => match u with
      | .d x => Kt x n2
      | _ => False) e else Ks n1) e) (h : q ((List.range k).map f) n) : lcL is tup mt me ρ e (upFrom lo k) n q :=
  lcL_all (fun (i : Nat) => PyData.int (lo + (i : Nat))) f (List.range k) n q (fun i hi => hit i (List.mem_range.mp hi)) h
@[simp] theorem upFrom_len (lo : Int) (k : Nat) : (upFrom lo k).length = k := by
  unfold upFrom
  rw [List.length_map, List.length_range]
/-- a loop by what holds ahead of each turn, of the items left -/
theorem forL_ind {is : List Nat} {tup : Bool} {mb : TS3} {F : En3} {e : Addr → Prop} (Pv : List D → Ro → Nat → Prop) (h0 : ∀ ρ n, Pv [] ρ n → F.nx ρ n)
    (hs : ∀ d ds ρ n (G : Ro → Nat → Prop), (∀ ρ n, Pv ds ρ n → G ρ n) → Pv (d :: ds) ρ n → giv is tup d ρ fun ρ' => mb { F with nx := G, ct := G, bk := F.nx } ρ' n e) : ∀ (ds : List D) (ρ : Ro) (n : Nat), Pv ds ρ n → forL is tup mb F e ds ρ n
  | [], ρ, n, h => h0 ρ n h
  | d :: ds, ρ, n, h => hs d ds ρ n _ (fun ρ n p => forL_ind Pv h0 hs ds ρ n p) h
end
end V3
set_option Elab.async false
set_option linter.all false
set_option maxRecDepth 100000
set_option maxHeartbeats 4000000
set_option synthInstance.maxSize 100000
set_option synthInstance.maxHeartbeats 0
namespace G21
open PySem PySem.Spec PyProof.Rows L2 V3
/-! ### blocks, bodies, spots as data -/
abbrev pr (a b : Int) : D := .tuple [.int a, .int b]
abbrev qd (a b c d : Int) : D := .tuple [.int a, .int b, .int c, .int d]
abbrev bkD (b : Bk) : D := qd b.l b.d b.r b.u
abbrev rt (q : U → Nat → Prop) (n : Nat) (x : D) : Prop := q (.d x) n
def isN : D → Bool
  | .int _ => true
  | _ => false
@[simp ↓] def sp_num : VSp := fun us n q _ => ∃ x, us = [.d x] ∧ q (.d (.bool (isN x))) n
@[simp ↓] def sp_box_of : VSp := fun us n q _ => ∃ l d r u a b, us = [.d (qd l d r u), .d (pr a b)] ∧ q (.d (qd (l - a) (d - b) r u)) n
def inB (x y l d r u : Int) : Bool := (decide (l < x) && decide (x < r)) && (decide (d < y) && decide (y < u))
@[simp ↓] def sp_lies_in : VSp := fun us n q _ => ∃ x y l d r u, us = [.d (pr x y), .d (qd l d r u)] ∧ q (.d (.bool (inB x y l d r u))) n
def isIxD (m : Int) : D → Bool
  | .int i => decide (0 ≤ i) && decide (i < m)
  | _ => false
@[simp ↓] def sp_index : VSp := fun us n q _ => ∃ x m, us = [.d x, .d (.int m)] ∧ q (.d (.bool (isIxD m x))) n
def isSzD : D → Bool
  | .int i => decide (1 ≤ i)
  | _ => false
@[simp ↓] def sp_size : VSp := fun us n q _ => ∃ x, us = [.d x] ∧ q (.d (.bool (isSzD x))) n
def isBd : D → Bool
  | .tuple [a, b] => isSzD a && isSzD b
  | _ => false
@[simp ↓] def sp_body : VSp := fun us n q _ => ∃ x : D, us = [.d x] ∧ (∀ xs, x = .tuple xs → xs.length ≤ 1000) ∧ q (.d (.bool (isBd x))) n
@[simp ↓] def sp_chk_body (BB : Addr) : VSp := fun us n q e => ∃ x : D, us = [.d x] ∧ (∀ xs, x = .tuple xs → xs.length ≤ 1000) ∧ (isBd x = true → q (.d .none) n) ∧ (isBd x = false → e BB)
def bar1 (x y a b : Int) (k : Bk) : Bool := inB x y (k.l - a) (k.d - b) k.r k.u
def freeB (bs : List Bk) (a b x y : Int) : Bool := !(bs.any (bar1 x y a b))
def sp_free : VSp := fun us n q _ => ∃ bs a b x y, us = [.dw (bs.map bkD), .d (pr a b), .d (pr x y)] ∧ bs.length ≤ 12 ∧ q (.d (.bool (freeB bs a b x y))) n
section
variable {P : Program} {w : World} {K : PySem.W.Frag} {mg : Str → Option Value} {base : Heap} {TL : List (Addr × Str)}
theorem ok_q_is_number (T : Txt K mg) : FnOk P w K mg base CX0 1 T.q_is_number.a T.q_is_number.d ["thing"] (toSp K T.C TL false sp_num) := by
  refine T.q_is_number.F.ok c_q_is_number (fun vs H Q E h => toSp_len h fun us n q e hs => ?_) (fun cdv A outer s H vs Q E hr h => ?_)
  · (first | (obtain ⟨rfl, _⟩ := hs; rfl) | (obtain ⟨_, hs⟩ := hs; (first | (obtain ⟨rfl, _⟩ := hs; rfl) | (obtain ⟨_, hs⟩ := hs; (first | (obtain ⟨rfl, _⟩ := hs; rfl) | (obtain ⟨_, hs⟩ := hs; (first | (obtain ⟨rfl, _⟩ := hs; rfl) | (obtain ⟨_, hs⟩ := hs; (first | (obtain ⟨rfl, _⟩ := hs; rfl) | (obtain ⟨_, hs⟩ := hs; (first | (obtain ⟨rfl, _⟩ := hs; rfl) | (obtain ⟨_, hs⟩ := hs; (first | (obtain ⟨rfl, _⟩ := hs; rfl) | (obtain ⟨_, hs⟩ := hs; (first | (obtain ⟨rfl, _⟩ := hs; rfl) | (obtain ⟨_, hs⟩ := hs; (first | (obtain ⟨rfl, _⟩ := hs; rfl) | (obtain ⟨_, hs⟩ := hs; (first | (obtain ⟨rfl, _⟩ := hs; rfl) | (obtain ⟨_, hs⟩ := hs; (first | (obtain ⟨rfl, _⟩ := hs; rfl) | (obtain ⟨_, hs⟩ := hs; (first | (obtain ⟨rfl, _⟩ := hs; rfl) | (obtain ⟨_, hs⟩ := hs; (first | (obtain ⟨rfl, _⟩ := hs; rfl) | (obtain ⟨_, hs⟩ := hs; (first | (obtain ⟨rfl, _⟩ := hs; rfl) | (obtain ⟨_, hs⟩ := hs; (first | (obtain ⟨rfl, _⟩ := hs; rfl) | (obtain ⟨_, hs⟩ := hs; (first | (obtain ⟨rfl, _⟩ := hs; rfl) | (obtain ⟨_, hs⟩ := hs; (obtain ⟨rfl, _⟩ := hs; rfl)))))))))))))))))))))))))))))))))
  · refine ⟨_,
      (pss_one (ps_ret (pe_and (pe_callB (isi3 K) (by rfl) T.z_isinstance (by decide +kernel) (pa_cons (pv 0) (pa_cons (pe_bltn (v := .ty "int") (u := .type "int") rfl T.z_int (by decide +kernel) rfl) pa_nil))) (pe_one (pe_not (pe_callB (isi3 K) (by rfl) T.z_isinstance (by decide +kernel) (pa_cons (pv 0) (pa_cons (pe_bltn (v := .ty "bool") (u := .type "bool") rfl T.z_bool (by decide +kernel) rfl) pa_nil))))))))
      , run3 (K := K) (C := T.C) (TL := TL) h fun us n q e hs => ?_⟩
    obtain ⟨x, rfl, hq⟩ := hs
    cases x <;> simpa [ro0, isN] using hq
theorem ok_q_is_size (T : Txt K mg) : FnOk P w K mg base CX0 2 T.q_is_size.a T.q_is_size.d ["thing"] (toSp K T.C TL false sp_size) := by
  refine T.q_is_size.F.ok c_q_is_size (fun vs H Q E h => toSp_len h fun us n q e hs => ?_) (fun cdv A outer s H vs Q E hr h => ?_)
  · (first | (obtain ⟨rfl, _⟩ := hs; rfl) | (obtain ⟨_, hs⟩ := hs; (first | (obtain ⟨rfl, _⟩ := hs; rfl) | (obtain ⟨_, hs⟩ := hs; (first | (obtain ⟨rfl, _⟩ := hs; rfl) | (obtain ⟨_, hs⟩ := hs; (first | (obtain ⟨rfl, _⟩ := hs; rfl) | (obtain ⟨_, hs⟩ := hs; (first | (obtain ⟨rfl, _⟩ := hs; rfl) | (obtain ⟨_, hs⟩ := hs; (first | (obtain ⟨rfl, _⟩ := hs; rfl) | (obtain ⟨_, hs⟩ := hs; (first | (obtain ⟨rfl, _⟩ := hs; rfl) | (obtain ⟨_, hs⟩ := hs; (first | (obtain ⟨rfl, _⟩ := hs; rfl) | (obtain ⟨_, hs⟩ := hs; (first | (obtain ⟨rfl, _⟩ := hs; rfl) | (obtain ⟨_, hs⟩ := hs; (first | (obtain ⟨rfl, _⟩ := hs; rfl) | (obtain ⟨_, hs⟩ := hs; (first | (obtain ⟨rfl, _⟩ := hs; rfl) | (obtain ⟨_, hs⟩ := hs; (first | (obtain ⟨rfl, _⟩ := hs; rfl) | (obtain ⟨_, hs⟩ := hs; (first | (obtain ⟨rfl, _⟩ := hs; rfl) | (obtain ⟨_, hs⟩ := hs; (first | (obtain ⟨rfl, _⟩ := hs; rfl) | (obtain ⟨_, hs⟩ := hs; (first | (obtain ⟨rfl, _⟩ := hs; rfl) | (obtain ⟨_, hs⟩ := hs; (first | (obtain ⟨rfl, _⟩ := hs; rfl) | (obtain ⟨_, hs⟩ := hs; (obtain ⟨rfl, _⟩ := hs; rfl)))))))))))))))))))))))))))))))))
  · refine ⟨_,
      (pss_one (ps_ret (pe_and (pe_call (ok_q_is_number T (TL := TL)) (hr.mono (by decide)) rfl T.q_is_number.g T.q_is_number.k T.q_is_number.b .nil pass0 (pa_cons (pv 0) pa_nil)) (pe_one (pe_cmpR op_ge (pv 0) pe_int (nomark _))))))
      , run3 (K := K) (C := T.C) (TL := TL) h fun us n q e hs => ?_⟩
    obtain ⟨x, rfl, hq⟩ := hs
    cases x <;> simpa [ro0, sp_num, isN, isSzD] using hq
theorem ok_q_is_body (T : Txt K mg) : FnOk P w K mg base CX0 3 T.q_is_body.a T.q_is_body.d ["thing"] (toSp K T.C TL false sp_body) := by
  refine T.q_is_body.F.ok c_q_is_body (fun vs H Q E h => toSp_len h fun us n q e hs => ?_) (fun cdv A outer s H vs Q E hr h => ?_)
  · (first | (obtain ⟨rfl, _⟩ := hs; rfl) | (obtain ⟨_, hs⟩ := hs; (first | (obtain ⟨rfl, _⟩ := hs; rfl) | (obtain ⟨_, hs⟩ := hs; (first | (obtain ⟨rfl, _⟩ := hs; rfl) | (obtain ⟨_, hs⟩ := hs; (first | (obtain ⟨rfl, _⟩ := hs; rfl) | (obtain ⟨_, hs⟩ := hs; (first | (obtain ⟨rfl, _⟩ := hs; rfl) | (obtain ⟨_, hs⟩ := hs; (first | (obtain ⟨rfl, _⟩ := hs; rfl) | (obtain ⟨_, hs⟩ := hs; (first | (obtain ⟨rfl, _⟩ := hs; rfl) | (obtain ⟨_, hs⟩ := hs; (first | (obtain ⟨rfl, _⟩ := hs; rfl) | (obtain ⟨_, hs⟩ := hs; (first | (obtain ⟨rfl, _⟩ := hs; rfl) | (obtain ⟨_, hs⟩ := hs; (first | (obtain ⟨rfl, _⟩ := hs; rfl) | (obtain ⟨_, hs⟩ := hs; (first | (obtain ⟨rfl, _⟩ := hs; rfl) | (obtain ⟨_, hs⟩ := hs; (first | (obtain ⟨rfl, _⟩ := hs; rfl) | (obtain ⟨_, hs⟩ := hs; (first | (obtain ⟨rfl, _⟩ := hs; rfl) | (obtain ⟨_, hs⟩ := hs; (first | (obtain ⟨rfl, _⟩ := hs; rfl) | (obtain ⟨_, hs⟩ := hs; (first | (obtain ⟨rfl, _⟩ := hs; rfl) | (obtain ⟨_, hs⟩ := hs; (first | (obtain ⟨rfl, _⟩ := hs; rfl) | (obtain ⟨_, hs⟩ := hs; (obtain ⟨rfl, _⟩ := hs; rfl)))))))))))))))))))))))))))))))))
  · refine ⟨_,
      (pss_one (ps_ret (pe_and (pe_callB (isi3 K) (by rfl) T.z_isinstance (by decide +kernel) (pa_cons (pv 0) (pa_cons (pe_bltn (v := .ty "tuple") (u := .type "tuple") rfl T.z_tuple (by decide +kernel) rfl) pa_nil))) (pe_and (pe_cmpR (eq3 K hr.units) (pe_callB (len3 K) (by rfl) T.z_len (by decide +kernel) (pa_cons (pv 0) pa_nil)) pe_int (nomark _)) (pe_and (pe_call (ok_q_is_size T (TL := TL)) (hr.mono (by decide)) rfl T.q_is_size.g T.q_is_size.k T.q_is_size.b .nil pass0 (pa_cons (pe_ix (ix3 K) (pv 0) pe_int (fun _ _ => rfl)) pa_nil)) (pe_one (pe_call (ok_q_is_size T (TL := TL)) (hr.mono (by decide)) rfl T.q_is_size.g T.q_is_size.k T.q_is_size.b .nil pass0 (pa_cons (pe_ix (ix3 K) (pv 0) pe_int (fun _ _ => rfl)) pa_nil))))))))
      , run3 (K := K) (C := T.C) (TL := TL) h fun us n q e hs => ?_⟩
    obtain ⟨x, rfl, hl, hq⟩ := hs
    cases x with
    | tuple xs =>
      have hl := hl xs rfl
      match xs, hl, hq with
      | [], _, hq => simpa [ro0, isBd] using hq
      | [y], _, hq => simpa [ro0, isBd] using hq
      | [y, z], _, hq =>
        simp [ro0, isBd] at hq ⊢
        cases h : isSzD y <;> simpa [h] using hq
      | y :: z :: w :: ws, hl, hq =>
        simp [ro0, isBd] at hq ⊢
        exact hq
    | _ => simpa [ro0, isBd] using hq
theorem ok_q_check_body (T : Txt K mg) : FnOk P w K mg base (L2.CX P w) 4 T.q_check_body.a T.q_check_body.d ["body"] (toSp K T.C TL false (sp_chk_body T.x_BadBody.C)) := by
  refine T.q_check_body.F.okX c_q_check_body (fun vs H Q E h => toSp_len h fun us n q e hs => ?_) (fun cdv A outer s H vs Q E hr h => ?_)
  · (first | (obtain ⟨rfl, _⟩ := hs; rfl) | (obtain ⟨_, hs⟩ := hs; (first | (obtain ⟨rfl, _⟩ := hs; rfl) | (obtain ⟨_, hs⟩ := hs; (first | (obtain ⟨rfl, _⟩ := hs; rfl) | (obtain ⟨_, hs⟩ := hs; (first | (obtain ⟨rfl, _⟩ := hs; rfl) | (obtain ⟨_, hs⟩ := hs; (first | (obtain ⟨rfl, _⟩ := hs; rfl) | (obtain ⟨_, hs⟩ := hs; (first | (obtain ⟨rfl, _⟩ := hs; rfl) | (obtain ⟨_, hs⟩ := hs; (first | (obtain ⟨rfl, _⟩ := hs; rfl) | (obtain ⟨_, hs⟩ := hs; (first | (obtain ⟨rfl, _⟩ := hs; rfl) | (obtain ⟨_, hs⟩ := hs; (first | (obtain ⟨rfl, _⟩ := hs; rfl) | (obtain ⟨_, hs⟩ := hs; (first | (obtain ⟨rfl, _⟩ := hs; rfl) | (obtain ⟨_, hs⟩ := hs; (first | (obtain ⟨rfl, _⟩ := hs; rfl) | (obtain ⟨_, hs⟩ := hs; (first | (obtain ⟨rfl, _⟩ := hs; rfl) | (obtain ⟨_, hs⟩ := hs; (first | (obtain ⟨rfl, _⟩ := hs; rfl) | (obtain ⟨_, hs⟩ := hs; (first | (obtain ⟨rfl, _⟩ := hs; rfl) | (obtain ⟨_, hs⟩ := hs; (first | (obtain ⟨rfl, _⟩ := hs; rfl) | (obtain ⟨_, hs⟩ := hs; (first | (obtain ⟨rfl, _⟩ := hs; rfl) | (obtain ⟨_, hs⟩ := hs; (obtain ⟨rfl, _⟩ := hs; rfl)))))))))))))))))))))))))))))))))
  · refine ⟨_,
      (pss_one (ps_if (pt_not (pt_val (pe_call (ok_q_is_body T (TL := TL)) (hr.mono (by decide)) rfl T.q_is_body.g T.q_is_body.k T.q_is_body.b .nil pass0 (pa_cons (pv 0) pa_nil))))
      (pss_one (ps_rz (C' := T.x_BadBody.C) (ps_raise rfl (takes_of rfl rfl rfl rfl) (pmk_own PySem.F.excBase_ValueError T.x_BadBody.q T.x_BadBody.g T.x_BadBody.k (raises_own T.x_BadBody.b T.x_BadBody.t) (by exact rfl)))))
      pss_nil))
      , run3 (K := K) (C := T.C) (TL := TL) h fun us n q e hs => ?_⟩
    obtain ⟨x, rfl, hl, h1, h2⟩ := hs
    simp [ro0]
    refine ⟨hl, ?_⟩
    cases hf : isBd x
    · simpa [hf] using h2 hf
    · simpa [hf] using h1 hf
end
end G21
set_option Elab.async false
set_option linter.all false
set_option maxRecDepth 100000
set_option maxHeartbeats 4000000
set_option synthInstance.maxSize 100000
set_option synthInstance.maxHeartbeats 0
namespace G21
open PySem PySem.Spec PyProof.Rows L2 V3
/-! ### draws, as values -/
theorem fr_wd {R : RR} {TL : List (Addr × Str)} {H H' : Hp} {n n' : Nat} {d g c : Addr} {t : Int} (hR : R.dr = some (d, g, c)) (w : Wd R TL H n) (f : Fr d g H H') (D : Dr H' d g c t) (ht : t ≤ n') : FrR R H H' ∧ Wd R TL H' n' := by
  obtain ⟨a1, a2, a3, t0, _, gs0, cs0, n0, e1, e2, _⟩ := w.dr d g c hR
  obtain ⟨gs, cs, m, p1, p2, p3, _⟩ := id D
  have th : ∀ b, There H b → There H' b := fun b ⟨o, q1, q2⟩ => by
    by_cases h1 : b = d
    · subst h1
      exact ⟨_, p1, fun ps z => by cases z⟩
    · by_cases h2 : b = g
      · subst h2
        exact ⟨_, p2, fun ps z => by cases z⟩
      · exact ⟨o, f b o h1 h2 q1, q2⟩
  refine ⟨⟨fun b o h1 _ e => f b o (h1 d g c hR).1 (h1 d g c hR).2 e, th⟩, fun a z => th a (w.hid a z), ?_, fun d' g' c' q => ?_⟩
  · refine tabs_keep (fun b o h1 h2 e => f b o (fun z => ?_) (fun z => ?_) e) w.tabs
    · subst z
      rw [e1] at e
      cases e
      exact h2 _ rfl
    · subst z
      rw [e2] at e
      cases e
      exact h1 _ rfl
  · rw [hR] at q
    cases q
    exact ⟨a1, a2, a3, t, ht, D⟩
theorem top_ex : ∃ k : Nat, k = 1000000000000 := ⟨_, rfl⟩
noncomputable def topD : Nat := Classical.choose top_ex
theorem topD_eq : topD = 1000000000000 := Classical.choose_spec top_ex
theorem cap_ex : ∃ k : Int, k = 1000000000 := ⟨_, rfl⟩
noncomputable def capD : Int := Classical.choose cap_ex
theorem capD_eq : capD = 1000000000 := Classical.choose_spec cap_ex
@[simp ↓] def sp_take : VSp := fun us n q _ => ∃ m : Int, us = [.dr, .d (.int m)] ∧ n ≤ topD ∧ 0 < m ∧ m < capD ∧ ∀ x : Int, 0 ≤ x → x < m → q (.d (.int x)) (n + 1)
section
variable {P : Program} {w : World} {K : PySem.W.Frag} {mg : Str → Option Value} {base : Heap} {TL : List (Addr × Str)}
theorem ok_l_take (T : Txt K mg) : FnOk P w K mg base CX0 2 T.l_take.a T.l_take.d ["draw", "many"] (toSp K T.C TL false sp_take) := (ok0_l_take T).imp fun vs H Q E h => by
  obtain ⟨am, us, n, q, e, hK, hC, hTL, ra, w, ⟨m, rfl, hn, h0, h1, hq⟩, k, ke⟩ := h
  cases ra with
  | cons r1 ra =>
    cases ra with
    | cons r2 ra =>
      cases ra
      obtain ⟨d, g, c, hR, rfl⟩ := r1
      cases r2
      obtain ⟨_, _, _, t, ht, D⟩ := w.dr d g c hR
      refine ⟨d, g, c, t, m, rfl, D, by rw [topD_eq] at hn; omega, h0, by rw [capD_eq] at h1; exact h1, fun H' r t' hr0 hr1 ht' f D' => ?_⟩
      obtain ⟨f', w'⟩ := fr_wd (n' := n + 1) hR w f D' (by omega)
      exact k _ (n + 1) _ _ (hq r hr0 hr1) f' w' (.old (Rp.int _))
@[simp] def asL : D → Option (List D)
  | .list xs => some xs
  | .tuple xs => some xs
  | _ => none
@[simp ↓] def sp_pick : VSp := fun us n q _ => ∃ x : D, us = [.dr, .d x] ∧ V3.ask (asL x) fun xs => n ≤ topD ∧ xs ≠ [] ∧ xs.length < 100000 ∧ ∀ y ∈ xs, q (.d y) (n + 1)
theorem atI_lt {xs : List D} {i : Int} (h0 : 0 ≤ i) (h1 : i < xs.length) : ∃ x ∈ xs, atI xs i = some x := by
  obtain ⟨k, rfl⟩ := Int.eq_ofNat_of_zero_le h0
  have hk : k < xs.length := by omega
  refine ⟨xs[k], List.getElem_mem hk, ?_⟩
  have e : ixN xs.length (k : Int) = some k := by
    unfold ixN
    simp [hk]
  unfold atI
  rw [e]
  simp [hk]
theorem ok_l_pick (T : Txt K mg) : FnOk P w K mg base CX0 3 T.l_pick.a T.l_pick.d ["draw", "some"] (toSp K T.C TL false sp_pick) := by
  refine T.l_pick.F.ok c_l_pick (fun vs H Q E h => toSp_len h fun us n q e hs => ?_) (fun cdv A outer s H vs Q E hr h => ?_)
  · (first | (obtain ⟨rfl, _⟩ := hs; rfl) | (obtain ⟨_, hs⟩ := hs; (first | (obtain ⟨rfl, _⟩ := hs; rfl) | (obtain ⟨_, hs⟩ := hs; (first | (obtain ⟨rfl, _⟩ := hs; rfl) | (obtain ⟨_, hs⟩ := hs; (first | (obtain ⟨rfl, _⟩ := hs; rfl) | (obtain ⟨_, hs⟩ := hs; (first | (obtain ⟨rfl, _⟩ := hs; rfl) | (obtain ⟨_, hs⟩ := hs; (first | (obtain ⟨rfl, _⟩ := hs; rfl) | (obtain ⟨_, hs⟩ := hs; (first | (obtain ⟨rfl, _⟩ := hs; rfl) | (obtain ⟨_, hs⟩ := hs; (first | (obtain ⟨rfl, _⟩ := hs; rfl) | (obtain ⟨_, hs⟩ := hs; (first | (obtain ⟨rfl, _⟩ := hs; rfl) | (obtain ⟨_, hs⟩ := hs; (first | (obtain ⟨rfl, _⟩ := hs; rfl) | (obtain ⟨_, hs⟩ := hs; (first | (obtain ⟨rfl, _⟩ := hs; rfl) | (obtain ⟨_, hs⟩ := hs; (first | (obtain ⟨rfl, _⟩ := hs; rfl) | (obtain ⟨_, hs⟩ := hs; (first | (obtain ⟨rfl, _⟩ := hs; rfl) | (obtain ⟨_, hs⟩ := hs; (first | (obtain ⟨rfl, _⟩ := hs; rfl) | (obtain ⟨_, hs⟩ := hs; (first | (obtain ⟨rfl, _⟩ := hs; rfl) | (obtain ⟨_, hs⟩ := hs; (first | (obtain ⟨rfl, _⟩ := hs; rfl) | (obtain ⟨_, hs⟩ := hs; (obtain ⟨rfl, _⟩ := hs; rfl)))))))))))))))))))))))))))))))))
  · refine ⟨_,
      (pss_one (ps_ret (pe_ix (ix3 K) (pv 1) (pe_call (ok_l_take T (TL := TL)) (hr.mono (by decide)) rfl T.l_take.g T.l_take.k T.l_take.b .nil pass0 (pa_cons (pv 0) (pa_cons (pe_callB (len3 K) (by rfl) T.z_len (by decide +kernel) (pa_cons (pv 1) pa_nil)) pa_nil))) (fun _ _ => rfl))))
      , run3 (K := K) (C := T.C) (TL := TL) h fun us n q e hs => ?_⟩
    obtain ⟨x, rfl, hq⟩ := hs
    obtain ⟨xs, hx, hn, hne, hl, h2⟩ := V3.ask_some hq
    have hp : 0 < xs.length := List.length_pos_iff.mpr hne
    cases x <;> cases hx <;> simp [ro0]
    all_goals
      refine ⟨hn, hp, by rw [capD_eq]; omega, fun i h0 h1 => ?_⟩
      obtain ⟨y, hy, e⟩ := atI_lt h0 h1
      rw [e]
      exact h2 y hy
end
end G21
set_option Elab.async false
set_option linter.all false
set_option maxRecDepth 100000
set_option maxHeartbeats 4000000
/-! len(set(xs)) of a list or tuple of ints -/
namespace V3
open PySem PySem.Spec PyProof.Rows L2
/-- m is how many different numbers ns has -/
def Diff (ns : List Int) (m : Nat) : Prop := ∃ L : List Int, L.Nodup ∧ (∀ k, k ∈ L ↔ k ∈ ns) ∧ L.length = m
theorem diff_of {w : World} {h : Heap} {a : Addr} {ns : List Int} {n : Nat} (R : SetR w h a (fun j => decide (j ∈ ns)) n) : Diff ns n := by
  obtain ⟨o, es, ep, t, _, _, _, _, nd, mem, _, _, sz, _⟩ := R
  refine ⟨es.toList.map keyOf, nd, fun k => ?_, by rw [List.length_map, Array.length_toList, sz]⟩
  rw [← mem k]
  exact ⟨fun z => of_decide_eq_true z, fun z => decide_eq_true z⟩
def tLenSetI (K : PySem.W.Frag) (ta : TE) : TE := fun σ H Q => ta σ H fun x H1 => ∃ l, ∃ ns : List Int, x = .ref l ∧ (SqL K H1 l (ns.map V.int) ∨ SqT K H1 l (ns.map V.int)) ∧ ns.length < 1000 ∧ ∀ m, Diff ns m → Q (.int (m : Nat)) H1
section
variable {X : Cx}
theorem pe_lenSetI {a : Expr} {ta : TE} {p p2 q pos : Pos} (hc : X.calm = true) (hg : Gl X "len") (hm : X.mg "len" = none) (hg2 : Gl X "set") (hm2 : X.mg "set" = none) (ha : PE X a ta)
    (na : starEach [a] X.env = (false, eval a X.env) :: starEach [] X.env := by rfl) : PE X (.Call (.Name "len" p) [.Call (.Name "set" p2) [a] [] q] [] pos) (tLenSetI X.K ta) := by
  refine ⟨fun pins s σ H Q I h => ?_⟩
  refine Call_ (ld_blt I hg hm boot_len ?_)
  refine PyProof.Rows.callWith_builtin1 (PyProof.Rows.args_cons ?_ rfl) rfl rfl
  refine Call_ (ld_blt I hg2 hm2 boot_set ?_)
  refine PyProof.Rows.callWith_type1 (PyProof.Rows.args_cons (thn (ha.run pins s σ H _ I h) fun v s1 ⟨x, H1, I1, r1, q1⟩ => PyProof.Rows.args_nil ?_) na) na rfl
  obtain ⟨l, ns, rfl, hq, h1, q1⟩ := q1
  cases r1
  have fin : ∀ (h' : Heap) (tk c : Nat), SetR X.w h' s1.heap.objs.size (fun j => decide (j ∈ ns)) c → (∀ b o, s1.heap.get? b = some o → h'.get? b = some o) →
      wpAny (model X.prog X.w) X.A (spliced (backTo pos (starEach [] X.env))) (fun vs s₂ => wpAny (model X.prog X.w) X.A (call (.builtin "len") (Value.ref s1.heap.objs.size :: vs)) (EP X pins σ Q) X.xe s₂) X.xe { s1 with heap := h', toks := tk } := fun h' tk c R hk => by
    refine PyProof.Rows.args_nil ?_
    have dif := diff_of R
    obtain ⟨o, es, ep, t, ho, hex, hd, _, _, _, hb, hf, hn, _⟩ := R
    have I2 : Inv X pins σ H1 { s1 with heap := h', toks := tk } := I1.kept hk
    refine call_len_set ho hex hd hf (by unfold scanBound at hb; omega) ⟨.int c, H1, I2.tok _, ⟨_, by rw [hn]⟩, q1 c dif⟩
  have ia : ∀ {ns : List Int} {us : List Value}, Vals (ns.map V.int) us → IntsAre us ns := fun {ns} => by
    induction ns with
    | nil =>
      intro us r
      cases r
      exact .nil
    | cons n ns ih =>
      intro us r
      cases r with
      | cons r1 r2 =>
        obtain ⟨t, rfl⟩ := r1
        exact .cons n t (ih r2)
  rcases hq with hq | hq
  · obtain ⟨its, r, pl, hz⟩ := I1.list hq
    exact GS.call_set_listI ns (I1.ok.hd hc) pl.isList (by simpa using ia r) (by unfold scanBound; omega) fun h' tk c R _ k => fin h' tk c R k
  · obtain ⟨its, r, pl, hz⟩ := I1.tuple hq
    exact call_set_tupI ns (I1.ok.hd hc) pl (by simpa using ia r) (by unfold scanBound; omega) fun h' tk c R _ k => fin h' tk c R k
end
section
variable {K : PySem.W.Frag} {C : Addr} {TL : List (Addr × Str)} {E : XK}
theorem lenSet3 {X : Cx} (K : PySem.W.Frag) {a : Expr} {ta : TE} {p p2 q pos : Pos} (hc : X.calm = true) (hg : Gl X "len") (hm : X.mg "len" = none) (hg2 : Gl X "set") (hm2 : X.mg "set" = none) (ha : PE X a ta)
    (na : starEach [a] X.env = (false, eval a X.env) :: starEach [] X.env := by rfl) (h : X.K = K := by rfl) : PE X (.Call (.Name "len" p) [.Call (.Name "set" p2) [a] [] q] [] pos) (tLenSetI K ta) := h ▸ pe_lenSetI hc hg hm hg2 hm2 ha na
@[simp ↓] def mLenSet (me : TE3) : TE3 := fun ρ n q e => me ρ n (fun _ u n1 => askS u fun xs => ask (toIs xs) fun ns => ns.length < 1000 ∧ ∀ m, Diff ns m → q false (.d (.int (m : Nat))) n1) e
instance {te : TE} {S : List Nat} {me : TE3} [he : LE K C TL E te S me] : LE K C TL E (tLenSetI K te) [] (mLenSet me) where
  s am ρ n σ H hE h Q q hm k := by
    obtain ⟨rfl, rfl, rfl, rfl⟩ := id hE
    refine he.s am ρ n σ H hE h _ _ hm fun fr u n1 v H1 hq f1 w1 r1 => ?_
    match u, hq, r1.1 with
    | .d (.list ds), hq, r =>
      have hq : ask (toIs ds) (fun ns => ns.length < 1000 ∧ ∀ m, Diff ns m → q false (.d (.int (m : Nat))) n1) := hq
      obtain ⟨ns, e, hl, hq⟩ := ask_some hq
      cases r with
      | lst a1 a2 =>
        rw [toIs_eq e] at a2
        have e2 := rp_ints a2
        subst e2
        exact ⟨_, ns, rfl, .inl (SqL.of (cut_some.mp a1).2), hl, fun m dm => k _ _ n1 _ H1 (hq m dm) f1 w1 (.old (Rp.int _))⟩
    | .d (.tuple ds), hq, r =>
      have hq : ask (toIs ds) (fun ns => ns.length < 1000 ∧ ∀ m, Diff ns m → q false (.d (.int (m : Nat))) n1) := hq
      obtain ⟨ns, e, hl, hq⟩ := ask_some hq
      cases r with
      | tup a1 a2 =>
        rw [toIs_eq e] at a2
        have e2 := rp_ints a2
        subst e2
        exact ⟨_, ns, rfl, .inr (SqT.le Le.cutAll a1), hl, fun m dm => k _ _ n1 _ H1 (hq m dm) f1 w1 (.old (Rp.int _))⟩
end
end V3
set_option Elab.async false
set_option linter.all false
set_option maxRecDepth 100000
set_option maxHeartbeats 4000000
namespace V3
open PySem PySem.Spec PyProof.Rows L2
section
variable {K : PySem.W.Frag} {C : Addr} {TL : List (Addr × Str)} {E : XK}
/-! ### sorted: ints, tuples of ints of one length -/
def tupI (ns : List Int) : D := .tuple (ns.map .int)
@[simp] def toTs : List D → Option (List (List Int))
  | [] => some []
  | .tuple xs :: ds => match toIs xs, toTs ds with
    | some ns, some L => some (ns :: L)
    | _, _ => none
  | _ :: _ => none
theorem toTs_eq : ∀ {ds : List D} {L : List (List Int)}, toTs ds = some L → ds = L.map tupI
  | [], _, h => by
    cases h
    rfl
  | d :: ds, L, h => by
    cases d with
    | tuple xs =>
      have h2 : (match toIs xs, toTs ds with
        | some ns, some L => some (ns :: L)
        | _, _ => none) = some L := h
      cases e1 : toIs xs with
      | none =>
        rw [e1] at h2
        cases h2
      | some ns =>
        cases e2 : toTs ds with
        | none =>
          rw [e1, e2] at h2
          cases h2
        | some L2 =>
          rw [e1, e2] at h2
          cases h2
          rw [toIs_eq e1, toTs_eq e2]
          rfl
    | _ => cases h
theorem toTs_map : ∀ L : List (List Int), toTs (L.map tupI) = some L
  | [] => rfl
  | ns :: L => by
    show (match toIs (ns.map PyData.int), toTs (L.map tupI) with
      | some ns, some L => some (ns :: L)
      | _, _ => none) = _
    rw [toIs_map, toTs_map L]
theorem tups_rep {am : Am} {O : Addr → Prop} {H : Hp} : ∀ {L : List (List Int)} {vs : List V}, RpAll am.K (cut O H) vs (L.map tupI) → ∃ as : List Addr, vs = as.map V.ref ∧ Paired (fun a ns => SqT am.K (cut O H) a (ns.map V.int)) as L
  | [], _, h => by
    cases h
    exact ⟨[], rfl, .nil⟩
  | ns :: L, _, h => by
    cases h with
    | cons h1 h2 =>
      cases h1 with
      | tup a1 a2 =>
        obtain ⟨as, rfl, p⟩ := tups_rep h2
        have e := rp_ints a2
        subst e
        exact ⟨_ :: as, rfl, .cons a1 p⟩
def rSorted3 (K : PySem.W.Frag) (d : Nat) : List V → Hp → VK → Prop := fun vs H Q => rSortedI K vs H Q ∨ GS.rSortL K d vs H Q
theorem call_sorted3 {X : Cx} (d : Nat) (hd : 1 ≤ d) : CallR X (.builtin "sorted") (rSorted3 X.K d) := call_or cr_sortedI (GS.cr_sortL hd)
theorem sorted3 {X : Cx} (K : PySem.W.Frag) (d : Nat) (hd : 1 ≤ d) (h : X.K = K := by rfl) : CallR X (.builtin "sorted") (rSorted3 K d) := h ▸ call_sorted3 d hd
@[simp ↓] def mSorted (d : Nat) : List U → (Bool → D → Prop) → Prop
  | [.d (.list xs)], q => (∃ ns : List Int, xs = ns.map .int ∧ ∀ ms : List Int, ms.Perm ns → ms.Pairwise (· ≤ ·) → q true (.list (ms.map .int))) ∨
      (∃ L : List (List Int), xs = L.map tupI ∧ (∀ l ∈ L, l.length = d) ∧ ∀ M : List (List Int), M.Perm L → M.Pairwise (fun a b => HT.lexLt b a = false) → q true (.list (M.map tupI)))
  | _, _ => False
theorem pd_perm {α β : Type} {F : α → β → Prop} : ∀ {as bs : List α}, as.Perm bs → ∀ {xs : List β}, Paired F bs xs → ∃ ys, ys.Perm xs ∧ Paired F as ys := fun {as bs} h => by
  induction h with
  | nil => exact fun p => ⟨_, .refl _, p⟩
  | cons a _ ih =>
    intro xs p
    cases p with
    | cons r t =>
      obtain ⟨ys, h1, h2⟩ := ih t
      exact ⟨_ :: ys, h1.cons _, .cons r h2⟩
  | swap a b l =>
    intro xs p
    cases p with
    | cons r t =>
      cases t with
      | cons r2 t2 => exact ⟨_, .swap _ _ _, .cons r2 (.cons r t2)⟩
  | trans _ _ ih1 ih2 =>
    intro xs p
    obtain ⟨ys, h1, h2⟩ := ih2 p
    obtain ⟨zs, h3, h4⟩ := ih1 h2
    exact ⟨zs, h3.trans h1, h4⟩
theorem pd_pw {α β : Type} {F : α → β → Prop} {R : α → α → Prop} {S : β → β → Prop} (hRS : ∀ a b x y, F a x → F b y → R a b → S x y) : ∀ {as : List α} {xs : List β}, Paired F as xs → as.Pairwise R → xs.Pairwise S
  | _, _, .nil, _ => .nil
  | _, _, .cons (a := a) (b := x) r t, p => by
    obtain ⟨p1, p2⟩ := List.pairwise_cons.mp p
    refine List.pairwise_cons.mpr ⟨fun y hy => ?_, pd_pw hRS t p2⟩
    have q : ∀ {as : List α} {xs : List β}, Paired F as xs → ∀ y ∈ xs, ∃ b ∈ as, F b y := fun {as xs} p => by
      induction p with
      | nil => exact fun y h => absurd h (by simp)
      | cons r _ ih =>
        intro y h
        rcases List.mem_cons.mp h with e | h
        · exact ⟨_, List.mem_cons_self .., by rw [e]; exact r⟩
        · obtain ⟨b, h1, h2⟩ := ih y h
          exact ⟨b, List.mem_cons_of_mem _ h1, h2⟩
    obtain ⟨b, hb, fb⟩ := q t y hy
    exact hRS _ _ _ _ r fb (p1 b hb)
theorem perm_map_ref : ∀ {ys : List V} {as : List Addr}, ys.Perm (as.map V.ref) → ∃ bs : List Addr, ys = bs.map V.ref ∧ bs.Perm as := fun {ys as} h => by
  refine ⟨ys.filterMap (fun v => match v with
    | .ref a => some a
    | _ => none), ?_, ?_⟩
  · have q : ∀ y ∈ ys, ∃ a, y = V.ref a := fun y hy => by
      obtain ⟨a, _, e⟩ := List.mem_map.mp (h.mem_iff.mp hy)
      exact ⟨a, e.symm⟩
    clear h
    induction ys with
    | nil => rfl
    | cons y ys ih =>
      obtain ⟨a, rfl⟩ := q y (List.mem_cons_self ..)
      have e := ih fun z hz => q z (List.mem_cons_of_mem _ hz)
      show V.ref a :: ys = V.ref a :: _
      rw [← e]
  · have z := h.filterMap (fun v => match v with
      | V.ref a => some a
      | _ => none)
    have e : ∀ as : List Addr, (as.map V.ref).filterMap (fun v => match v with
      | V.ref a => some a
      | _ => none) = as := fun as => by
      induction as with
      | nil => rfl
      | cons a as ih =>
        show a :: (as.map V.ref).filterMap _ = _
        rw [ih]
    rw [e as] at z
    exact z
theorem lex_self (ns : List Int) : HT.lexLt ns ns = false := by
  induction ns with
  | nil => rfl
  | cons n ns ih => rw [HT.lexLt_cons, if_pos rfl, ih]
instance {d : Nat} : LC K (rSorted3 K d) (mSorted d) where
  s am O H xs us hK hO ra Q q hm k := by
    subst hK
    match us, hm, ra with
    | [.d (.list ds)], hm, .cons r .nil =>
      cases r with
      | lst a1 a2 =>
        rcases hm with ⟨ns, rfl, hm⟩ | ⟨L, rfl, hd, hm⟩
        · have e2 := rp_ints a2
          subst e2
          refine .inl ⟨_, ns, rfl, SqL.of (cut_some.mp a1).2, fun ms p h1 h2 hp => k _ _ _ _ (hm ms h1 h2) (same_new hp) (new_list hO hp ?_)⟩
          have q : ∀ ms : List Int, RpAll am.K (cut O H) (ms.map V.int) (ms.map .int) := fun ms => by
            induction ms with
            | nil => exact .nil
            | cons m ms ih => exact .cons (.int m) ih
          exact q ms
        · obtain ⟨as, rfl, pd⟩ := tups_rep a2
          have tp : ∀ {as : List Addr} {L : List (List Int)}, Paired (fun a ns => SqT am.K (cut O H) a (ns.map V.int)) as L → (∀ l ∈ L, l.length = d) → ∀ x ∈ as.map V.ref, ∃ ns, TupI am.K H x ns ∧ ns.length = d := fun {as L} p => by
            induction p with
            | nil => exact fun _ x h => absurd h (by simp)
            | cons r _ ih =>
              intro hl x h
              rcases List.mem_cons.mp h with e | h
              · exact ⟨_, ⟨_, e, SqT.le Le.cutAll r⟩, hl _ (List.mem_cons_self ..)⟩
              · exact ih (fun l hl' => hl l (List.mem_cons_of_mem _ hl')) x h
          refine .inr ⟨_, _, rfl, SqL.of (cut_some.mp a1).2, tp pd hd, fun ys p hperm hpw hp => ?_⟩
          obtain ⟨bs, rfl, hb⟩ := perm_map_ref hperm
          obtain ⟨M, h1, h2⟩ := pd_perm hb pd
          refine k _ _ _ _ (hm M h1 (pd_pw (R := fun a b => ∀ n m, TupI am.K H (.ref a) n → TupI am.K H (.ref b) m → HT.lexLt m n = false) (fun a b x y f g r => r x y ⟨a, rfl, SqT.le Le.cutAll f⟩ ⟨b, rfl, SqT.le Le.cutAll g⟩) h2 (List.pairwise_map.mp hpw))) (same_new hp) (new_list hO hp ?_)
          have q : ∀ {bs : List Addr} {M : List (List Int)}, Paired (fun a ns => SqT am.K (cut O H) a (ns.map V.int)) bs M → RpAll am.K (cut O H) (bs.map V.ref) (M.map tupI) := fun {bs M} p => by
            induction p with
            | nil => exact .nil
            | cons r _ ih =>
              refine .cons (.tup r ?_) ih
              have q : ∀ ms : List Int, RpAll am.K (cut O H) (ms.map V.int) (ms.map .int) := fun ms => by
                induction ms with
                | nil => exact .nil
                | cons m ms ih => exact .cons (.int m) ih
              exact q _
          exact q h2
end
end V3
set_option Elab.async false
set_option linter.all false
set_option maxRecDepth 100000
set_option maxHeartbeats 4000000
namespace V3
open PySem PySem.Spec PyProof.Rows L2
def tEither (t t' : TE) : TE := fun σ H Q => t σ H Q ∨ t' σ H Q
section
variable {X : Cx}
theorem pe_or {e : Expr} {t t' : TE} (h : PE X e t) (h' : PE X e t') : PE X e (tEither t t') := ⟨fun pins s σ H Q I q => q.elim (h.run pins s σ H Q I) (h'.run pins s σ H Q I)⟩
theorem setT3 {P : Program} {w : World} (K : PySem.W.Frag) (hc : X.calm = true) (hu : X.A.units + 64 < cLine) (h : X.K = K := by rfl) (h2 : X.prog = P := by rfl) (h3 : X.w = w := by rfl) : CallR X (.type "set") (rSetOfT K P w) := h ▸ h2 ▸ h3 ▸ cr_setOfT hc hu
theorem lenT3 {P : Program} {w : World} (K : PySem.W.Frag) (h : X.K = K := by rfl) (h2 : X.prog = P := by rfl) (h3 : X.w = w := by rfl) : CallR X (.builtin "len") (GS.rLenT K P w) := h ▸ h2 ▸ h3 ▸ GS.call_lenT
end
section
variable {K : PySem.W.Frag} {C : Addr} {TL : List (Addr × Str)} {E : XK}
@[simp ↓] def mEither (m1 m2 : TE3) : TE3 := fun ρ n q e => m1 ρ n q e ∨ m2 ρ n q e
instance {t1 t2 : TE} {S1 S2 : List Nat} {m1 m2 : TE3} [h1 : LE K C TL E t1 S1 m1] [h2 : LE K C TL E t2 S2 m2] : LE K C TL E (tEither t1 t2) (S1 ++ S2) (mEither m1 m2) where
  s am ρ n σ H hE h Q q hm k := by
    rcases hm with hm | hm
    · exact .inl (h1.s am ρ n σ H hE h Q q hm fun fr u n' v H' hq f w r => k fr u n' v H' hq f w (r.sub fun a z => hidDem2 (fun i hi => List.mem_append_left _ hi) z))
    · exact .inr (h2.s am ρ n σ H hE h Q q hm fun fr u n' v H' hq f w r => k fr u n' v H' hq f w (r.sub fun a z => hidDem2 (fun i hi => List.mem_append_right _ hi) z))
/-- how many tuples of ints there are in a list without doubles -/
@[simp ↓] def mLenSetT (me : TE3) : TE3 := fun ρ n q e => me ρ n (fun _ u n1 => askL u fun xs => ∃ L : List (List Int), xs = L.map tupI ∧ L.length < 64 ∧ L.Nodup ∧ q false (.d (.int (L.length : Nat))) n1) e
theorem zip_fst {α β : Type} : ∀ {as : List α} {bs : List β}, as.length = bs.length → (as.zip bs).map (·.1) = as
  | [], [], _ => rfl
  | a :: as, b :: bs, h => by
    show a :: (as.zip bs).map (·.1) = _
    rw [zip_fst (by simpa using h)]
theorem zip_snd {α β : Type} : ∀ {as : List α} {bs : List β}, as.length = bs.length → (as.zip bs).map (·.2) = bs
  | [], [], _ => rfl
  | a :: as, b :: bs, h => by
    show b :: (as.zip bs).map (·.2) = _
    rw [zip_snd (by simpa using h)]
theorem pd_zip {α β : Type} {F : α → β → Prop} : ∀ {as : List α} {bs : List β}, Paired F as bs → as.length = bs.length ∧ ∀ p ∈ as.zip bs, F p.1 p.2
  | _, _, .nil => ⟨rfl, fun p h => absurd h (by simp)⟩
  | _, _, .cons r t => by
    obtain ⟨h1, h2⟩ := pd_zip t
    refine ⟨by rw [List.length_cons, List.length_cons, h1], fun p h => ?_⟩
    rcases List.mem_cons.mp h with e | h
    · rw [e]
      exact r
    · exact h2 p h
instance {P : Program} {w : World} {te : TE} {S : List Nat} {me : TE3} [he : LE K C TL E te S me] : LE K C TL E (tCB (GS.rLenT K P w) (tCons (tCB (rSetOfT K P w) (tCons te tNil)) tNil)) [] (mLenSetT me) where
  s am ρ n σ H hE h Q q hm k := by
    obtain ⟨rfl, rfl, rfl, rfl⟩ := id hE
    refine he.s am ρ n σ H hE h _ _ hm fun fr u n1 v H1 hq f1 w1 r1 => ?_
    have h1 := h.step f1 w1
    obtain ⟨xs, a, vs, rfl, rfl, a1, a2, L, rfl, hl, nd, hq⟩ := askL_rep hq r1.1
    obtain ⟨as, rfl, pd⟩ := tups_rep a2
    obtain ⟨ln, pz⟩ := pd_zip pd
    refine ⟨a, as.zip L, rfl, ?_, fun p hp => SqT.le Le.cutAll (pz p hp), by rw [List.length_zip, ln]; omega, fun p M hp h3 h4 => ?_⟩
    · have e : (as.zip L).map (fun p => V.ref p.1) = as.map V.ref := by
        rw [← zip_fst (as := as) (bs := L) ln, List.map_map, zip_fst ln]
        rfl
      rw [e]
      exact SqL.of (cut_some.mp a1).2
    · obtain ⟨f2, w2⟩ := fresh_step h1 hp (SetTO P w p M)
      refine ⟨p, M, rfl, upd_same, fun z hz => SqT.le (Le.of (same_new hp)) (SqT.le Le.cutAll (pz z (h3 z hz))), fun nd2 => ?_⟩
      have e : M.length = L.length := by
        rw [← List.length_map (f := fun z : Addr × List Int => z.2) (as := M)]
        refine GS.nodup_len nd2 nd (fun x hx => ?_) (fun x hx => ?_)
        · obtain ⟨z, hz, rfl⟩ := List.mem_map.mp hx
          have m := List.mem_map_of_mem (f := fun z : Addr × List Int => z.2) (h3 z hz)
          rw [zip_snd ln] at m
          exact m
        · rw [← zip_snd (as := as) (bs := L) ln] at hx
          obtain ⟨z, hz, rfl⟩ := List.mem_map.mp hx
          exact h4 z hz
      exact k _ _ n1 _ _ hq (f1.trans f2) w2 (.old (by rw [e]; exact Rp.int _))
end
end V3
set_option Elab.async false
set_option linter.all false
set_option maxRecDepth 100000
set_option maxHeartbeats 4000000
namespace V3
open PySem PySem.Spec PyProof.Rows L2
section
variable {K : PySem.W.Frag} {C : Addr} {TL : List (Addr × Str)} {E : XK}
/-! ### x.append(y.pop(k)) -/
theorem write_le {am : Am} {ρ : Ro} {n : Nat} {σ : L2.St} {H : Hp} {p : Addr} {i : Nat} {ds ds' : List D} {vs' : List V} (h : Rl am ρ n σ H) (hi : ρ[i]? = some (Sl.ow ds)) (hp : σ[i]? = some (some (V.ref p))) : Le (cut (Hid am ρ σ) H) (cut (Hid am (ρ.set i (.ow ds')) σ) (upd H p (.lst vs'))) := by
  have own : OwnAt ρ σ i p := ⟨⟨ds, hi⟩, hp⟩
  exact Le.cut (fun a z => .inl (by
    rcases z with z | ⟨j, z⟩
    · exact .inl z
    · exact .inr ⟨j, own_setS hi z⟩)) fun a o hn t e => by
      have ne : a ≠ p := fun z => hn (.inr ⟨i, by rw [z]; exact own⟩)
      rw [upd_ne ne]
      exact e
@[simp ↓] def mAppPop (i j : Nat) (me : TE3) : TS3 := fun F ρ n e => i ≠ j ∧ ask (owAt ρ i) fun ds => ask (owAt ρ j) fun es => me ρ n (fun _ u n1 => askI u fun k => ds.length < sizeLine ∧ popD es k fun x rest => F.nx ((ρ.set j (.ow rest)).set i (.ow (ds ++ [x]))) n1) e
instance (priority := high + 1) {te : TE} {i j : Nat} {S : List Nat} {me : TE3} [he : LE K C TL E te S me] : LS K C TL E (tDrop (tBM K "list" rAppend (tVar i) (tCons (tBM K "list" rPopAt (tVar j) (tCons te tNil)) tNil))) (mAppPop i j me) where
  s am ρ n σ H D F hE h en hm := by
    obtain ⟨rfl, rfl, rfl, rfl⟩ := id hE
    obtain ⟨nij, hm⟩ := hm
    obtain ⟨ds, e, hm⟩ := ask_some hm
    obtain ⟨es, e2, hm⟩ := ask_some hm
    have hi := owAt_eq e
    have hj := owAt_eq e2
    obtain ⟨p, vs, q1, q2, q3, q4⟩ := h.ow i ds hi
    obtain ⟨p2, ws, b1, b2, b3, b4⟩ := h.ow j es hj
    refine ⟨.ref p, q1, .inl ⟨rfl, vs, SqL.of q3⟩, .ref p2, b1, .inl ⟨rfl, ws, SqL.of b3⟩, he.s am ρ n σ H hE h _ _ hm fun fr u n1 v H1 hq f1 w1 r1 => ?_⟩
    have h1 := h.step f1 w1
    match u, hq, r1.1 with
    | .d (.int k), hq, r =>
      cases r
      obtain ⟨hz, hk, hq⟩ := hq
      obtain ⟨j', ej, hq⟩ := ask_some hq
      obtain ⟨x, ex, fl, hq⟩ := ask_some hq
      have e1 := h.keepOw f1 ⟨⟨ds, hi⟩, q1⟩ q3
      have e3 := h.keepOw f1 ⟨⟨es, hj⟩, b1⟩ b3
      have r4 := RpAll.le (h.cutLe0 f1) _ _ q4
      have r5 := RpAll.le (h.cutLe0 f1) _ _ b4
      obtain ⟨y, y1, y2⟩ := RpAll.get r5 ex
      refine ⟨p2, ws, k, j', y, rfl, rfl, e3, hk.1, hk.2, by rw [RpAll.len r5]; exact ixN_seq ej, y1, ?_⟩
      have h2 := h1.write hj b1 (RpAll.erase j' r5)
      have hi2 : (ρ.set j (.ow (es.eraseIdx j')))[i]? = some (Sl.ow ds) := by rw [List.getElem?_set_ne (Ne.symm nij)]; exact hi
      obtain ⟨p', vs', c1, c2, c3, c4⟩ := h2.ow i ds hi2
      rw [q1] at c1
      cases c1
      refine ⟨p, vs', y, rfl, rfl, c3, by rw [RpAll.len c4]; exact hz, en.nx _ n1 σ _ hq (h2.write hi2 q1 (RpAll.app c4 (.one ?_)))⟩
      exact Rp.le (write_le h1 hj b1) _ _ y2
/-! ### a, b, c = x, y, z -/
@[simp ↓] def mPar3 (S1 S2 S3 : List Nat) (i j l : Nat) (ma mb mc : TE3) : TS3 := fun F ρ n e => ma ρ n (fun f1 x n1 => mb ρ n1 (fun f2 y n2 => mc ρ n2 (fun f3 z n3 => if flatF f2 y = true then (if flatF f3 z = true then F.nx (bind3 S3 l f3 z (bind3 S2 j f2 y (bind3 S1 i f1 x ρ))) n3 else False) else False) e) e) e
instance {i j l : Nat} {ta tb tc : TE} {S1 S2 S3 : List Nat} {ma mb mc : TE3} [ha : LE K C TL E ta S1 ma] [hb : LE K C TL E tb S2 mb] [hc : LE K C TL E tc S3 mc] : LS K C TL E (tPar3 i j l (tCons ta (tCons tb (tCons tc tNil)))) (mPar3 S1 S2 S3 i j l ma mb mc) where
  s am ρ n σ H D F hE h en hm := by
    refine ha.s am ρ n σ H hE h _ _ hm fun fr x n1 v H1 hq f1 w1 r1 => ?_
    have h1 := h.step f1 w1
    refine hb.s am ρ n1 σ H1 hE h1 _ _ hq fun fr2 y n2 v2 H2 hq2 f2 w2 r2 => ?_
    have h2 := h1.step f2 w2
    refine hc.s am ρ n2 σ H2 hE h2 _ _ hq2 fun fr3 z n3 v3 H3 hq3 f3 w3 r3 => ?_
    obtain ⟨fl2, hq3⟩ := if_pos' hq3
    obtain ⟨fl3, hq3⟩ := if_pos' hq3
    refine ⟨v, v2, v3, rfl, en.nx _ n3 _ H3 hq3 ?_⟩
    exact bind_flat (bind_flat (bind_ok h f1 w1 i r1) f2 w2 S2 j (O := Hid am (dem S2 ρ) σ) (fun a z => .inl z) fl2 r2) f3 w3 S3 l (O := Hid am (dem S3 ρ) σ) (fun a z => .inl z) fl3 r3
/-! ### enumerate -/
def numD (ds : List D) : List D := (ds.zipIdx).map fun p => .tuple [.int (p.2 : Nat), p.1]
theorem numD_get {ds : List D} {i : Nat} {d : D} (h : (numD ds)[i]? = some d) : ∃ x, ds[i]? = some x ∧ d = .tuple [.int (i : Nat), x] := by
  unfold numD at h
  rw [List.getElem?_map, List.getElem?_zipIdx] at h
  cases e : ds[i]? with
  | none =>
    rw [e] at h
    cases h
  | some x =>
    rw [e] at h
    simp at h
    exact ⟨x, rfl, h.symm⟩
theorem numD_len (ds : List D) : (numD ds).length = ds.length := by
  unfold numD
  simp
theorem rp_num {am : Am} {O2 : Addr → Prop} {H2 H3 : Hp} {T : Addr} {i : Nat} {x : V} {d : D} (hO : ∀ a, O2 a → There H2 a) (hT : H2 T = none) (e : H3 = upd H2 T (.tup [.int (i : Nat), x])) (r : Rp am.K (cut O2 H2) x d) : Same H2 H3 ∧ Rp am.K (cut O2 H3) (.ref T) (.tuple [.int (i : Nat), d]) := by
  subst e
  have s := same_new (o := .tup [.int (i : Nat), x]) hT
  refine ⟨s, ?_⟩
  have nO : ¬ O2 T := fun z => by
    obtain ⟨o, q1, _⟩ := hO T z
    rw [hT] at q1
    cases q1
  refine .tup (xs := [.int (i : Nat), x]) (SqT.of (cut_some.mpr ⟨nO, upd_same⟩)) (.cons (Rp.int _) (.cons ?_ .nil))
  exact Rp.le (Le.cut (fun a z => .inl z) fun a o _ _ e => s a o e) _ _ r
theorem it_enum {am : Am} {O : Addr → Prop} {a : Addr} {vs : List V} {ds : List D} {H : Hp} (h : cut O H a = some (.lst vs)) (r : RpAll am.K (cut O H) vs ds) : ItOk am O (Ite am.K a) (numD ds) H := fun H2 O2 le th i => by
  have h2 := (cut_some.mp (le _ _ (fun ps z => by cases z) h)).2
  have r2 := RpAll.le le _ _ r
  refine ⟨fun d e => ?_, fun e => ⟨vs, SqL.of h2, by rw [RpAll.len r]; rw [numD_len] at e; exact e⟩⟩
  obtain ⟨x, e1, rfl⟩ := numD_get e
  obtain ⟨v, q1, q2⟩ := RpAll.get r2 e1
  refine ⟨⟨vs, v, SqL.of h2, q1⟩, fun y H3 w => ?_⟩
  obtain ⟨T, x', rfl, hT, e3, w⟩ := w
  have e4 := w vs (SqL.of h2)
  rw [q1] at e4
  cases e4
  exact rp_num th hT e3 q2
theorem it_enumT {am : Am} {O : Addr → Prop} {a : Addr} {vs : List V} {ds : List D} {H : Hp} (h : SqT am.K (cut O H) a vs) (r : RpAll am.K (cut O H) vs ds) : ItOk am O (GS.IeT am.K a) (numD ds) H := fun H2 O2 le th i => by
  have h2 := SqT.le Le.cutAll (SqT.le le h)
  have r2 := RpAll.le le _ _ r
  refine ⟨fun d e => ?_, fun e => ⟨vs, h2, by rw [RpAll.len r]; rw [numD_len] at e; exact e⟩⟩
  obtain ⟨x, e1, rfl⟩ := numD_get e
  obtain ⟨v, q1, q2⟩ := RpAll.get r2 e1
  refine ⟨⟨vs, v, h2, q1⟩, fun y H3 w => ?_⟩
  obtain ⟨T, x', rfl, hT, e3, w⟩ := w
  have e4 := w vs h2
  rw [q1] at e4
  cases e4
  exact rp_num th hT e3 q2
def iEnT (K : PySem.W.Frag) (ta : TA) : TI := fun σ H R => ta σ H fun vs H1 => ∃ a xs, vs = [.ref a] ∧ SqT K H1 a xs ∧ R (GS.IeT K a) H1
def iEn3 (K : PySem.W.Frag) (ta : TA) : TI := fun σ H R => iEnum K ta σ H R ∨ iEnT K ta σ H R
@[simp ↓] def mEn3 (ma : TA3) : TI3 := fun ρ n q e => ma ρ n (fun us n1 => match us with
    | [.d (.list ds)] => q (numD ds) n1
    | _ => False) e ∨ ma ρ n (fun us n1 => match us with
    | [.d (.tuple ds)] => q (numD ds) n1
    | _ => False) e
instance {ta : TA} {S : List Nat} {ma : TA3} [ha : LA K C TL E ta S ma] : LI K C TL E (iEn3 K ta) S (mEn3 ma) where
  s am ρ n σ H hE h R q hm k := by
    obtain ⟨rfl, rfl, rfl, rfl⟩ := id hE
    rcases hm with hm | hm
    · refine .inl (ha.s am ρ n σ H hE h _ _ hm fun us n1 vs H1 hq f1 w1 r1 => ?_)
      match us, hq, r1 with
      | [.d (.list ds)], hq, .cons r .nil =>
        cases r with
        | lst a1 a2 => exact ⟨_, _, rfl, SqL.of (cut_some.mp a1).2, k _ n1 _ H1 hq f1 w1 (it_enum a1 a2)⟩
    · refine .inr (ha.s am ρ n σ H hE h _ _ hm fun us n1 vs H1 hq f1 w1 r1 => ?_)
      match us, hq, r1 with
      | [.d (.tuple ds)], hq, .cons r .nil =>
        cases r with
        | tup a1 a2 => exact ⟨_, _, rfl, SqT.le Le.cutAll a1, k _ n1 _ H1 hq f1 w1 (it_enumT a1 a2)⟩
end
section
variable {X : Cx} {K : PySem.W.Frag}
theorem enum3 (K : PySem.W.Frag) {e : Expr} {ta : TA} {p pos tpos : Pos} {elts : List Expr} {kk : Nat} (hg : Gl X "enumerate") (hm : X.mg "enumerate" = none) (ha : PA X [e] ta) (hs : starEach [e] X.env = [(false, eval e X.env)] := by rfl) (h : X.K = K := by rfl) :
    PI X (.Tuple elts kk tpos) (.Call (.Name "enumerate" p) [e] [] pos) (iEn3 K ta) := by
  subst h
  exact ⟨fun pins s σ H R I h => h.elim ((pi_enum hg hm ha hs).run pins s σ H R I) ((GS.pi_enumT hg hm ha hs).run pins s σ H R I)⟩
theorem bm3 (K : PySem.W.Frag) {o e : Expr} {es : List Expr} {to : TE} {t : TA} {name : Str} {apos cpos : Pos} {T id : String} {r : V → List V → Hp → VK → Prop} (pa : PlainAttrs T) (slot : Slot T name id) (hty : typeOf (.builtin id) = pure (.type "method_descriptor")) (hm : MtR X id r) (ho : PE X o to) (ha : PA X (e :: es) t)
    (hbase : attributeBase o name X.env (eval o X.env) = eval o X.env := by rfl)
    (hfew : ((backTo cpos (starEach (e :: es) X.env)).all (fun x => !x.1) && (backToKw cpos (keywordEach [] X.env)).all (fun x => x.1.isSome)
      && decide ((e :: es).length + ([] : List Keyword).length + (if ([] : List Keyword).isEmpty then 0 else 1) < 30)) = true := by rfl)
    (hline : (apos.endLine == cpos.line) = true := by rfl) (hs : starEach (e :: es) X.env = (false, eval e X.env) :: starEach es X.env := by rfl) (hplain : (backTo cpos (starEach es X.env)).any (·.1) = false := by rfl) (h : X.K = K := by rfl) :
    PE X (.Call (.Attribute o name apos) (e :: es) [] cpos) (tBM K T r to t) := by
  subst h
  exact pe_bm pa slot hty hm ho ha hbase hfew hline hs hplain
end
end V3
set_option Elab.async false
set_option linter.all false
set_option maxRecDepth 100000
set_option maxHeartbeats 4000000
set_option synthInstance.maxSize 100000
set_option synthInstance.maxHeartbeats 0
namespace G21
open PySem PySem.Spec PyProof.Rows L2 V3
@[simp ↓] def sp_shuf : VSp := fun us n q _ => ∃ xs, us = [.dr, .d (.list xs)] ∧ n + 100 ≤ topD ∧ xs.length ≤ 100 ∧ V3.flatAll xs = true ∧ ∀ ys : List D, ys.Perm xs → q (.d (.list ys)) (n + xs.length)
theorem ixN_nat {n k : Nat} (h : k < n) : ixN n (k : Int) = some k := by
  unfold ixN
  simp [h]
theorem flat_in {xs : List D} (h : V3.flatAll xs = true) {x : D} (hx : x ∈ xs) : V3.flat x = true := by
  induction xs with
  | nil => cases hx
  | cons y ys ih =>
    have h : (V3.flat y && V3.flatAll ys) = true := h
    obtain ⟨h1, h2⟩ := Bool.and_eq_true_iff.mp h
    rcases List.mem_cons.mp hx with e | hx
    · rw [e]
      exact h1
    · exact ih h2 hx
theorem perm_erase {α : Type} : ∀ {xs : List α} {k : Nat} (h : k < xs.length), ([xs[k]] ++ xs.eraseIdx k).Perm xs
  | x :: xs, 0, _ => .refl _
  | x :: xs, k + 1, h => by
    simp
    exact List.Perm.trans (.swap _ _ _) (.cons _ (perm_erase (by simpa using h)))
section
variable {P : Program} {w : World} {K : PySem.W.Frag} {mg : Str → Option Value} {base : Heap} {TL : List (Addr × Str)}
end
end G21
set_option Elab.async false
set_option linter.all false
set_option maxRecDepth 100000
set_option maxHeartbeats 4000000
set_option synthInstance.maxSize 100000
set_option synthInstance.maxHeartbeats 0
namespace G21
open PySem PySem.Spec PyProof.Rows L2 V3
/-- a comprehension whose items are drawn: c draws each, R of each -/
theorem lcL_draw {is : List Nat} {tup : Bool} {mt : TT3} {me : TE3} {ρ : Ro} {e : Addr → Prop} (R : D → Prop) (c : Nat) : ∀ (ds : List D) (n : Nat) (q : List D → Nat → Prop),
    (∀ d ∈ ds, ∀ (m : Nat) (Kt : D → Nat → Prop) (Ks : Nat → Prop), n ≤ m → m + c ≤ n + c * ds.length → (∀ x, R x → Kt x (m + c)) → giv is tup d ρ fun ρ' => mt ρ' m (fun b n1 => if b = true then me ρ' n1 (fun _ u n2 => match u with
      | .d x => Kt x n2
      | _ => False) e else Ks n1) e) → (∀ xs : List D, xs.length = ds.length → (∀ x ∈ xs, R x) → q xs (n + c * ds.length)) → lcL is tup mt me ρ e ds n q
  | [], n, q, _, h => h [] rfl (fun x z => by cases z)
  | d :: ds, n, q, hit, h => by
    have e1 : n + c + c * ds.length = n + c * (d :: ds).length := by
      rw [List.length_cons, Nat.mul_succ]
      omega
    refine hit d (List.mem_cons_self ..) n (fun x n2 => lcL is tup mt me ρ e ds n2 fun xs n3 => q (x :: xs) n3) (fun n1 => lcL is tup mt me ρ e ds n1 q) (Nat.le_refl _) (by omega) fun x hx => ?_
    refine lcL_draw R c ds (n + c) _ (fun y hy m Kt Ks h1 h2 k => hit y (List.mem_cons_of_mem _ hy) m Kt Ks (by omega) (by omega) k) fun xs hl hxs => ?_
    show q (x :: xs) (n + c + c * ds.length)
    rw [e1]
    refine h _ (by rw [List.length_cons, List.length_cons, hl]) fun y hy => ?_
    rcases List.mem_cons.mp hy with z | z
    · rw [z]
      exact hx
    · exact hxs y z
def inR (lo hi : Int) (b : Bk) : Prop := lo ≤ b.l ∧ lo ≤ b.d ∧ b.r ≤ hi ∧ b.u ≤ hi
@[simp ↓] def sp_block : VSp := fun us n q _ => ∃ m : Int, us = [.dr, .d (.int m)] ∧ n + 100 ≤ topD ∧ 0 < m ∧ m ≤ 20 ∧ ∀ b : Bk, b.ok → inR 0 30 b → q (.d (bkD b)) (n + 4)
theorem pick6 {y : D} (h : y ∈ [PyData.int 0, .int 0, .int 1, .int 2, .int 3, .int 6]) : ∃ z : Int, y = .int z ∧ 0 ≤ z ∧ z ≤ 6 := by
  simp only [List.mem_cons, List.not_mem_nil, or_false] at h
  rcases h with rfl | rfl | rfl | rfl | rfl | rfl <;> exact ⟨_, rfl, by decide, by decide⟩
theorem pick7 {y : D} (h : y ∈ [PyData.int 0, .int 0, .int 0, .int 1, .int 1, .int 2, .int 3]) : ∃ z : Int, y = .int z ∧ 0 ≤ z ∧ z ≤ 3 := by
  simp only [List.mem_cons, List.not_mem_nil, or_false] at h
  rcases h with rfl | rfl | rfl | rfl | rfl | rfl | rfl <;> exact ⟨_, rfl, by decide, by decide⟩
theorem pick3 {y : D} (h : y ∈ [PyData.int 0, .int 1, .int 1]) : ∃ z : Int, y = .int z ∧ 0 ≤ z ∧ z ≤ 1 := by
  simp only [List.mem_cons, List.not_mem_nil, or_false] at h
  rcases h with rfl | rfl | rfl <;> exact ⟨_, rfl, by decide, by decide⟩
@[simp ↓] def sp_pen : VSp := fun us n q _ => ∃ w t : Int, us = [.dr, .d (.int 2), .d (.int 2), .d (.int w), .d (.int t)] ∧ n + 100 ≤ topD ∧ 2 ≤ w ∧ w ≤ 6 ∧ 2 ≤ t ∧ t ≤ 6 ∧ ∀ bs : List Bk, (∀ b ∈ bs, b.ok ∧ inR 0 30 b) → bs.Nodup → bs.length = 4 → q (.d (.list (bs.map bkD))) (n + 6)
section
variable {P : Program} {w : World} {K : PySem.W.Frag} {mg : Str → Option Value} {base : Heap} {TL : List (Addr × Str)}
end
end G21
set_option Elab.async false
set_option linter.all false
set_option maxRecDepth 100000
set_option maxHeartbeats 4000000
set_option synthInstance.maxSize 100000
set_option synthInstance.maxHeartbeats 0
namespace G21
open PySem PySem.Spec PyProof.Rows L2 V3
@[simp ↓] def sp_stretched : VSp := fun us n q _ => ∃ (bs : List Bk) (f g : Int → Int) (ns ms : List Int), us = [.d (.list (bs.map bkD)), .tb f ns, .tb g ms] ∧ bs.length ≤ 100 ∧ (∀ b ∈ bs, b.l ∈ ns ∧ b.r ∈ ns ∧ b.d ∈ ms ∧ b.u ∈ ms) ∧ q (.d (.list ((bs.map (stB f g)).map bkD))) n
@[simp ↓] def sp_lnumber : VSp := fun us n q _ => ∃ x, us = [.d x] ∧ q (.d (.bool (isN x))) n
@[simp ↓] def sp_lhere : VSp := fun us n q _ => ∃ (x : D) (m : Int), us = [.d x, .d (.int m)] ∧ q (.d (.bool (isIxD m x))) n
@[simp ↓] def sp_lsays : VSp := fun us n q _ => ∃ a b : Bool, us = [.d (.bool a), .d (.bool b)] ∧ q (.d (.bool (a == b))) n
@[simp ↓] def sp_lheart : VSp := fun us n q _ => ∃ (bs : List Bk) (a b : Int) (i : Int) (k : Bk), us = [.d (.list (bs.map bkD)), .d (pr a b), .d (.int i)] ∧ atI bs i = some k ∧ q (.d (pr (k.l - a + k.r) (k.d - b + k.u))) n
@[simp ↓] def sp_lbarred : VSp := fun us n q _ => ∃ (bs : List Bk) (a b x y : Int), us = [.d (.list (bs.map bkD)), .d (pr a b), .d (pr x y)] ∧ bs.length ≤ 100 ∧ ∀ ks : List D, (ks = [] ↔ freeB bs a b x y = true) → V3.flatAll ks = true → ks.length ≤ 100 → SeqAt.shaped (.list ks) = true → q (.d (.list ks)) n
theorem atI_map {α β : Type} (f : α → β) {xs : List α} {i : Int} {x : α} (h : atI xs i = some x) : atI (xs.map f) i = some (f x) := by
  unfold atI at h ⊢
  rw [List.length_map]
  cases e : ixN xs.length i with
  | none =>
    rw [e] at h
    cases h
  | some j =>
    rw [e] at h
    have h : xs[j]? = some x := h
    show (xs.map f)[j]? = _
    rw [List.getElem?_map, h]
    rfl
def numFrom : Nat → List D → List D
  | _, [] => []
  | k, d :: ds => .tuple [.int (k : Nat), d] :: numFrom (k + 1) ds
theorem numFrom_eq : ∀ (ds : List D) (k : Nat), numFrom k ds = (ds.zipIdx k).map fun p => PyData.tuple [.int (p.2 : Nat), p.1]
  | [], _ => rfl
  | d :: ds, k => by
    show _ :: numFrom (k + 1) ds = _
    rw [numFrom_eq ds (k + 1)]
    rfl
theorem numD_from (ds : List D) : V3.numD ds = numFrom 0 ds := (numFrom_eq ds 0).symm
theorem flat_ints : ∀ ks : List Int, V3.flatAll (ks.map PyData.int) = true
  | [] => rfl
  | k :: ks => by
    show (V3.flat (.int k) && V3.flatAll (ks.map PyData.int)) = true
    rw [flat_ints ks]
    rfl
theorem shaped_ints (ks : List Int) : SeqAt.shaped (.list (ks.map PyData.int)) = true := GS.shaped_is _
section
variable {P : Program} {w : World} {K : PySem.W.Frag} {mg : Str → Option Value} {base : Heap} {TL : List (Addr × Str)}
end
end G21
set_option Elab.async false
set_option linter.all false
set_option maxRecDepth 100000
set_option maxHeartbeats 4000000
set_option synthInstance.maxSize 100000
set_option synthInstance.maxHeartbeats 0
namespace G21
open PySem PySem.Spec PyProof.Rows L2 V3
def oD : Option Int → D
  | none => .none
  | some n => .int n
@[simp] theorem oD_n : oD none = .none := rfl
@[simp] theorem oD_s (n : Int) : oD (some n) = .int n := rfl
def lsO : Option Int → Option Int → Option Int
  | none, q => q
  | some p, none => some p
  | some p, some q => some (min p q)
abbrev cD (c : Option Int × Option Int) : D := .tuple [oD c.1, oD c.2]
@[simp ↓] def sp_lleast : VSp := fun us n q _ => ∃ (a b : Option Int), us = [.d (oD a), .d (oD b)] ∧ q (.d (oD (lsO a b))) n
def hdO (c b : Option Int × Option Int) : Bool := decide (lsO c.1 b.1 = b.1) && decide (lsO c.2 b.2 = b.2)
@[simp ↓] def sp_lholds : VSp := fun us n q _ => ∃ (c b : Option Int × Option Int), us = [.d (cD c), .d (cD b)] ∧ q (.d (.bool (hdO c b))) n
@[simp ↓] def sp_lrank : VSp := fun us n q _ => ∃ (a : Option Int), us = [.d (oD a)] ∧ q (.d (match a with
  | none => pr 1 0
  | some k => pr 0 k)) n
def isNums (m : Int) : D → Bool
  | .tuple xs => decide ((xs.length : Int) = m) && xs.all isN
  | _ => false
@[simp ↓] def sp_lnums : VSp := fun us n q _ => ∃ (x : D) (m : Int), us = [.d x, .d (.int m)] ∧ (∀ xs, x = .tuple xs → xs.length ≤ 1000) ∧ q (.d (.bool (isNums m x))) n
theorem oD_inj {a b : Option Int} (h : oD a = oD b) : a = b := by
  cases a <;> cases b <;> simp at h ⊢
  exact h
theorem eq_oD (a b : Option Int) (k : Bool → D → Prop) : V3.eqU id (.d (oD a)) (.d (oD b)) k = k false (.bool (decide (a = b))) := by
  cases a <;> cases b <;> simp [V3.eqU, PyData.eqv, SeqAt.shaped, PyData.canLay0, PyData.depth]
/-- a list of ones, for the items that p takes -/
theorem ones_sh (p : D → Bool) (xs : List D) : SeqAt.shaped (.list ((xs.filter p).map fun _ => PyData.int 1)) = true := by
  have e : ((xs.filter p).map fun _ => PyData.int 1) = ((xs.filter p).map fun _ => (1 : Int)).map PyData.int := by
    rw [List.map_map]
    rfl
  rw [e]
  exact shaped_ints _
theorem ones_eq (p : D → Bool) (xs : List D) : PyData.eqv (.list ((xs.filter p).map fun _ => PyData.int 1)) (.list []) = xs.all (fun x => !p x) := by
  induction xs with
  | nil => rfl
  | cons x xs ih =>
    by_cases h : p x = true
    · rw [List.filter_cons_of_pos h, List.all_cons, h]
      rfl
    · rw [List.filter_cons_of_neg h, List.all_cons, ih]
      simp [h]
theorem lcL_ones {is : List Nat} {tup : Bool} {mt : TT3} {me : TE3} {ρ : Ro} {e : Addr → Prop} (p : D → Bool) (xs : List D) (n : Nat) (q : List D → Nat → Prop)
    (hit : ∀ a ∈ xs, ∀ (n : Nat) (Kt : D → Nat → Prop) (Ks : Nat → Prop), (if p a = true then Kt (.int 1) n else Ks n) → giv is tup a ρ fun ρ' => mt ρ' n (fun b n1 => if b = true then me ρ' n1 (fun _ u n2 => match u with
      | .d x => Kt x n2
      | _ => False) e else Ks n1) e) (h : q ((xs.filter p).map fun _ => PyData.int 1) n) : lcL is tup mt me ρ e xs n q := by
  have z := lcL_pure (is := is) (tup := tup) (mt := mt) (me := me) (ρ := ρ) (e := e) (fun d => d) (fun _ => PyData.int 1) p xs n q hit h
  rw [List.map_id'] at z
  exact z
section
variable {P : Program} {w : World} {K : PySem.W.Frag} {mg : Str → Option Value} {base : Heap} {TL : List (Addr × Str)}
theorem ok_l_least (T : Txt K mg) : FnOk P w K mg base CX0 1 T.l_least.a T.l_least.d ["one", "other"] (toSp K T.C TL false sp_lleast) := by
  refine T.l_least.F.ok c_l_least (fun vs H Q E h => toSp_len h fun us n q e hs => ?_) (fun cdv A outer s H vs Q E hr h => ?_)
  · (first | (obtain ⟨rfl, _⟩ := hs; rfl) | (obtain ⟨_, hs⟩ := hs; (first | (obtain ⟨rfl, _⟩ := hs; rfl) | (obtain ⟨_, hs⟩ := hs; (first | (obtain ⟨rfl, _⟩ := hs; rfl) | (obtain ⟨_, hs⟩ := hs; (first | (obtain ⟨rfl, _⟩ := hs; rfl) | (obtain ⟨_, hs⟩ := hs; (first | (obtain ⟨rfl, _⟩ := hs; rfl) | (obtain ⟨_, hs⟩ := hs; (first | (obtain ⟨rfl, _⟩ := hs; rfl) | (obtain ⟨_, hs⟩ := hs; (first | (obtain ⟨rfl, _⟩ := hs; rfl) | (obtain ⟨_, hs⟩ := hs; (first | (obtain ⟨rfl, _⟩ := hs; rfl) | (obtain ⟨_, hs⟩ := hs; (first | (obtain ⟨rfl, _⟩ := hs; rfl) | (obtain ⟨_, hs⟩ := hs; (first | (obtain ⟨rfl, _⟩ := hs; rfl) | (obtain ⟨_, hs⟩ := hs; (first | (obtain ⟨rfl, _⟩ := hs; rfl) | (obtain ⟨_, hs⟩ := hs; (first | (obtain ⟨rfl, _⟩ := hs; rfl) | (obtain ⟨_, hs⟩ := hs; (first | (obtain ⟨rfl, _⟩ := hs; rfl) | (obtain ⟨_, hs⟩ := hs; (first | (obtain ⟨rfl, _⟩ := hs; rfl) | (obtain ⟨_, hs⟩ := hs; (first | (obtain ⟨rfl, _⟩ := hs; rfl) | (obtain ⟨_, hs⟩ := hs; (first | (obtain ⟨rfl, _⟩ := hs; rfl) | (obtain ⟨_, hs⟩ := hs; (obtain ⟨rfl, _⟩ := hs; rfl)))))))))))))))))))))))))))))))))
  · refine ⟨_,
      (pss_cons (ps_if (pt_cmpR op_isN3 (pv 0) pe_non (nomark _))
      (pss_one (ps_ret (pv 1)))
      pss_nil)
      (pss_one (ps_ret (pe_ifExp (pt_cmpR op_isN3 (pv 1) pe_non (nomark _)) (pv 0) (pe_callB (min3 K rfl (hu_of hr)) (by rfl) T.z_min (by decide +kernel) (pa_cons (pv 0) (pa_cons (pv 1) pa_nil)))))))
      , run3 (K := K) (C := T.C) (TL := TL) h fun us n q e hs => ?_⟩
    obtain ⟨a, b, rfl, hq⟩ := hs
    cases a <;> cases b <;> simp [ro0] at hq ⊢ <;> exact hq
theorem ok_l_rank (T : Txt K mg) : FnOk P w K mg base CX0 1 T.l_rank.a T.l_rank.d ["item"] (toSp K T.C TL false sp_lrank) := by
  refine T.l_rank.F.ok c_l_rank (fun vs H Q E h => toSp_len h fun us n q e hs => ?_) (fun cdv A outer s H vs Q E hr h => ?_)
  · (first | (obtain ⟨rfl, _⟩ := hs; rfl) | (obtain ⟨_, hs⟩ := hs; (first | (obtain ⟨rfl, _⟩ := hs; rfl) | (obtain ⟨_, hs⟩ := hs; (first | (obtain ⟨rfl, _⟩ := hs; rfl) | (obtain ⟨_, hs⟩ := hs; (first | (obtain ⟨rfl, _⟩ := hs; rfl) | (obtain ⟨_, hs⟩ := hs; (first | (obtain ⟨rfl, _⟩ := hs; rfl) | (obtain ⟨_, hs⟩ := hs; (first | (obtain ⟨rfl, _⟩ := hs; rfl) | (obtain ⟨_, hs⟩ := hs; (first | (obtain ⟨rfl, _⟩ := hs; rfl) | (obtain ⟨_, hs⟩ := hs; (first | (obtain ⟨rfl, _⟩ := hs; rfl) | (obtain ⟨_, hs⟩ := hs; (first | (obtain ⟨rfl, _⟩ := hs; rfl) | (obtain ⟨_, hs⟩ := hs; (first | (obtain ⟨rfl, _⟩ := hs; rfl) | (obtain ⟨_, hs⟩ := hs; (first | (obtain ⟨rfl, _⟩ := hs; rfl) | (obtain ⟨_, hs⟩ := hs; (first | (obtain ⟨rfl, _⟩ := hs; rfl) | (obtain ⟨_, hs⟩ := hs; (first | (obtain ⟨rfl, _⟩ := hs; rfl) | (obtain ⟨_, hs⟩ := hs; (first | (obtain ⟨rfl, _⟩ := hs; rfl) | (obtain ⟨_, hs⟩ := hs; (first | (obtain ⟨rfl, _⟩ := hs; rfl) | (obtain ⟨_, hs⟩ := hs; (first | (obtain ⟨rfl, _⟩ := hs; rfl) | (obtain ⟨_, hs⟩ := hs; (obtain ⟨rfl, _⟩ := hs; rfl)))))))))))))))))))))))))))))))))
  · refine ⟨_,
      (pss_one (ps_ret (pe_ifExp (pt_cmpR op_isN3 (pv 0) pe_non (nomark _)) (pe_tup (pa_cons pe_int (pa_cons pe_int pa_nil))) (pe_tup (pa_cons pe_int (pa_cons (pv 0) pa_nil))))))
      , run3 (K := K) (C := T.C) (TL := TL) h fun us n q e hs => ?_⟩
    obtain ⟨a, rfl, hq⟩ := hs
    cases a <;> simp [ro0] at hq ⊢ <;> exact hq
theorem ok_l_holds (T : Txt K mg) : FnOk P w K mg base CX0 2 T.l_holds.a T.l_holds.d ["corner", "body"] (toSp K T.C TL false sp_lholds) := by
  refine T.l_holds.F.ok c_l_holds (fun vs H Q E h => toSp_len h fun us n q e hs => ?_) (fun cdv A outer s H vs Q E hr h => ?_)
  · (first | (obtain ⟨rfl, _⟩ := hs; rfl) | (obtain ⟨_, hs⟩ := hs; (first | (obtain ⟨rfl, _⟩ := hs; rfl) | (obtain ⟨_, hs⟩ := hs; (first | (obtain ⟨rfl, _⟩ := hs; rfl) | (obtain ⟨_, hs⟩ := hs; (first | (obtain ⟨rfl, _⟩ := hs; rfl) | (obtain ⟨_, hs⟩ := hs; (first | (obtain ⟨rfl, _⟩ := hs; rfl) | (obtain ⟨_, hs⟩ := hs; (first | (obtain ⟨rfl, _⟩ := hs; rfl) | (obtain ⟨_, hs⟩ := hs; (first | (obtain ⟨rfl, _⟩ := hs; rfl) | (obtain ⟨_, hs⟩ := hs; (first | (obtain ⟨rfl, _⟩ := hs; rfl) | (obtain ⟨_, hs⟩ := hs; (first | (obtain ⟨rfl, _⟩ := hs; rfl) | (obtain ⟨_, hs⟩ := hs; (first | (obtain ⟨rfl, _⟩ := hs; rfl) | (obtain ⟨_, hs⟩ := hs; (first | (obtain ⟨rfl, _⟩ := hs; rfl) | (obtain ⟨_, hs⟩ := hs; (first | (obtain ⟨rfl, _⟩ := hs; rfl) | (obtain ⟨_, hs⟩ := hs; (first | (obtain ⟨rfl, _⟩ := hs; rfl) | (obtain ⟨_, hs⟩ := hs; (first | (obtain ⟨rfl, _⟩ := hs; rfl) | (obtain ⟨_, hs⟩ := hs; (first | (obtain ⟨rfl, _⟩ := hs; rfl) | (obtain ⟨_, hs⟩ := hs; (first | (obtain ⟨rfl, _⟩ := hs; rfl) | (obtain ⟨_, hs⟩ := hs; (obtain ⟨rfl, _⟩ := hs; rfl)))))))))))))))))))))))))))))))))
  · refine ⟨_,
      (pss_one (ps_ret (pe_and (pe_cmpR (eq3 K hr.units) (pe_call (ok_l_least T (TL := TL)) (hr.mono (by decide)) rfl T.l_least.g T.l_least.k T.l_least.b .nil pass0 (pa_cons (pe_ix (ix3 K) (pv 0) pe_int (fun _ _ => rfl)) (pa_cons (pe_ix (ix3 K) (pv 1) pe_int (fun _ _ => rfl)) pa_nil))) (pe_ix (ix3 K) (pv 1) pe_int (fun _ _ => rfl)) (nomark _)) (pe_one (pe_cmpR (eq3 K hr.units) (pe_call (ok_l_least T (TL := TL)) (hr.mono (by decide)) rfl T.l_least.g T.l_least.k T.l_least.b .nil pass0 (pa_cons (pe_ix (ix3 K) (pv 0) pe_int (fun _ _ => rfl)) (pa_cons (pe_ix (ix3 K) (pv 1) pe_int (fun _ _ => rfl)) pa_nil))) (pe_ix (ix3 K) (pv 1) pe_int (fun _ _ => rfl)) (nomark _))))))
      , run3 (K := K) (C := T.C) (TL := TL) h fun us n q e hs => ?_⟩
    obtain ⟨⟨c1, c2⟩, ⟨b1, b2⟩, rfl, hq⟩ := hs
    simp [ro0]
    refine ⟨c1, b1, ⟨rfl, rfl⟩, ?_⟩
    rw [eq_oD]
    unfold hdO at hq
    by_cases h1 : lsO c1 b1 = b1
    · simp [h1] at hq ⊢
      refine ⟨c2, b2, ⟨rfl, rfl⟩, ?_⟩
      rw [eq_oD]
      exact hq
    · simp [h1] at hq ⊢
      exact hq
end
end G21
set_option Elab.async false
set_option linter.all false
set_option maxRecDepth 100000
set_option maxHeartbeats 4000000
set_option synthInstance.maxSize 100000
set_option synthInstance.maxHeartbeats 0
namespace G21
open PySem PySem.Spec PyProof.Rows L2 V3
abbrev Co : Type := Option Int × Option Int
/-- a corner holds a body -/
def cle (c : Co) (A B : Int) : Prop := (∀ k, c.1 = some k → A ≤ k) ∧ ∀ k, c.2 = some k → B ≤ k
theorem ones_eqA {α : Type} (p : α → Bool) (as : List α) : PyData.eqv (.list ((as.filter p).map fun _ => PyData.int 1)) (.list []) = as.all (fun x => !p x) := by
  induction as with
  | nil => rfl
  | cons x xs ih =>
    by_cases h : p x = true
    · rw [List.filter_cons_of_pos h, List.all_cons, h]
      rfl
    · rw [List.filter_cons_of_neg h, List.all_cons, ih]
      simp [h]
theorem ones_shA {α : Type} (p : α → Bool) (as : List α) : SeqAt.shaped (.list ((as.filter p).map fun _ => PyData.int 1)) = true := by
  have e : ((as.filter p).map fun _ => PyData.int 1) = ((as.filter p).map fun _ => (1 : Int)).map PyData.int := by
    rw [List.map_map]
    rfl
  rw [e]
  exact shaped_ints _
/-! ### staircases: their one form -/
def ltO (p q : Option Int) : Prop := match p, q with
  | some a, some b => a < b
  | some _, none => True
  | none, _ => False
def leO (p q : Option Int) : Prop := match p, q with
  | some a, some b => a ≤ b
  | _, none => True
  | none, some _ => False
theorem leO_refl (p : Option Int) : leO p p := by
  cases p <;> simp [leO]
theorem leO_anti {p q : Option Int} (h : leO p q) (g : leO q p) : p = q := by
  cases p <;> cases q <;> simp [leO] at h g ⊢
  omega
theorem leO_trans {p q r : Option Int} (h : leO p q) (g : leO q r) : leO p r := by
  cases p <;> cases q <;> cases r <;> simp [leO] at h g ⊢
  omega
theorem ltO_not {p q : Option Int} (h : ltO p q) : ¬ leO q p := by
  cases p <;> cases q <;> simp [ltO, leO] at h ⊢
  omega
theorem ltO_tri (p q : Option Int) : ltO p q ∨ p = q ∨ ltO q p := by
  cases p <;> cases q <;> simp [ltO]
  omega
def leC (c d : Co) : Prop := leO c.1 d.1 ∧ leO c.2 d.2
/-- steps that go down, in one row -/
def Can (cs : List Co) : Prop := cs.Pairwise fun c d => ltO c.1 d.1 ∧ ltO d.2 c.2
def heldI (cs : List Co) (A B : Int) : Prop := ∃ c ∈ cs, cle c A B
theorem can_anti {cs : List Co} (h : Can cs) {c d : Co} (hc : c ∈ cs) (hd : d ∈ cs) (l : leC c d) : c = d := by
  induction cs with
  | nil => cases hc
  | cons x xs ih =>
    obtain ⟨h1, h2⟩ := List.pairwise_cons.mp h
    rcases List.mem_cons.mp hc with e1 | m1
    · rcases List.mem_cons.mp hd with e2 | m2
      · rw [e1, e2]
      · rw [e1] at l
        exact absurd l.2 (ltO_not (h1 d m2).2)
    · rcases List.mem_cons.mp hd with e2 | m2
      · rw [e2] at l
        exact absurd l.1 (ltO_not (h1 c m1).1)
      · exact ih h2 m1 m2
/-- a number above all that stand there -/
def topN : List Co → Int
  | [] => 1
  | c :: cs => max (max (c.1.getD 0 + 1) (c.2.getD 0 + 1)) (topN cs)
theorem topN_one : ∀ cs : List Co, 1 ≤ topN cs
  | [] => by simp [topN]
  | c :: cs => by
    have := topN_one cs
    simp only [topN]
    omega
theorem topN_le : ∀ {cs : List Co} {c : Co}, c ∈ cs → (∀ k, c.1 = some k → k < topN cs) ∧ ∀ k, c.2 = some k → k < topN cs
  | x :: xs, c, h => by
    rcases List.mem_cons.mp h with rfl | h
    · refine ⟨fun k e => ?_, fun k e => ?_⟩ <;> simp only [topN, e, Option.getD_some] <;> omega
    · obtain ⟨a, b⟩ := topN_le h
      refine ⟨fun k e => ?_, fun k e => ?_⟩
      · have := a k e
        simp only [topN]
        omega
      · have := b k e
        simp only [topN]
        omega
theorem can_sub {cs ds : List Co} (pos : ∀ c ∈ cs, (∀ k, c.1 = some k → 1 ≤ k) ∧ ∀ k, c.2 = some k → 1 ≤ k) (same : ∀ A B : Int, 1 ≤ A → 1 ≤ B → heldI cs A B → heldI ds A B) {c : Co} (hc : c ∈ cs) : ∃ d ∈ ds, leC c d := by
  obtain ⟨p1, p2⟩ := pos c hc
  have t1 := topN_one ds
  have g1 : 1 ≤ c.1.getD (topN ds) := by
    cases e : c.1 with
    | none => simpa using t1
    | some k => simpa using p1 k e
  have g2 : 1 ≤ c.2.getD (topN ds) := by
    cases e : c.2 with
    | none => simpa using t1
    | some k => simpa using p2 k e
  obtain ⟨d, hd, d1, d2⟩ := same _ _ g1 g2 ⟨c, hc, fun k e => by rw [e]; simp, fun k e => by rw [e]; simp⟩
  obtain ⟨u1, u2⟩ := topN_le hd
  refine ⟨d, hd, ?_, ?_⟩
  · cases e : d.1 with
    | none => cases c.1 <;> simp [leO]
    | some k =>
      have := d1 k e
      have := u1 k e
      cases ec : c.1 with
      | none =>
        rw [ec] at d1
        have := d1 k e
        simp at this
        omega
      | some j =>
        rw [ec] at d1
        have := d1 k e
        simpa [leO] using this
  · cases e : d.2 with
    | none => cases c.2 <;> simp [leO]
    | some k =>
      have := u2 k e
      cases ec : c.2 with
      | none =>
        rw [ec] at d2
        have := d2 k e
        simp at this
        omega
      | some j =>
        rw [ec] at d2
        have := d2 k e
        simpa [leO] using this
theorem can_mem {cs ds : List Co} (h : Can cs) (pc : ∀ c ∈ cs, (∀ k, c.1 = some k → 1 ≤ k) ∧ ∀ k, c.2 = some k → 1 ≤ k) (pd : ∀ c ∈ ds, (∀ k, c.1 = some k → 1 ≤ k) ∧ ∀ k, c.2 = some k → 1 ≤ k)
    (same : ∀ A B : Int, 1 ≤ A → 1 ≤ B → (heldI cs A B ↔ heldI ds A B)) {c : Co} (hc : c ∈ cs) : c ∈ ds := by
  obtain ⟨d, hd, l1⟩ := can_sub pc (fun A B a b z => (same A B a b).mp z) hc
  obtain ⟨c', hc', l2⟩ := can_sub pd (fun A B a b z => (same A B a b).mpr z) hd
  have e := can_anti h hc hc' ⟨leO_trans l1.1 l2.1, leO_trans l1.2 l2.2⟩
  subst e
  have e2 : c = d := Prod.ext (leO_anti l1.1 l2.1) (leO_anti l1.2 l2.2)
  exact e2 ▸ hd
theorem can_nodup {cs : List Co} (h : Can cs) : cs.Nodup := by
  refine List.Pairwise.imp ?_ h
  intro a b z e
  exact ltO_not z.1 (by rw [e]; exact leO_refl _)
theorem can_list : ∀ {cs ds : List Co}, Can cs → Can ds → (∀ c, c ∈ cs ↔ c ∈ ds) → cs = ds
  | [], [], _, _, _ => rfl
  | [], d :: ds, _, _, h => by
    have := (h d).mpr List.mem_cons_self
    cases this
  | c :: cs, [], _, _, h => by
    have := (h c).mp List.mem_cons_self
    cases this
  | c :: cs, d :: ds, hc, hd, h => by
    obtain ⟨c1, c2⟩ := List.pairwise_cons.mp hc
    obtain ⟨d1, d2⟩ := List.pairwise_cons.mp hd
    have e : c = d := by
      rcases List.mem_cons.mp ((h c).mp List.mem_cons_self) with z | z
      · exact z
      · rcases List.mem_cons.mp ((h d).mpr List.mem_cons_self) with y | y
        · exact y.symm
        · have q1 := (d1 c z).1
          have q2 := (c1 d y).1
          revert q1 q2
          cases c.1 <;> cases d.1 <;> simp [ltO]
          omega
    subst e
    have nc : c ∉ cs := (List.nodup_cons.mp (can_nodup hc)).1
    have nd : c ∉ ds := (List.nodup_cons.mp (can_nodup hd)).1
    rw [can_list c2 d2 fun x => ⟨fun z => ?_, fun z => ?_⟩]
    · rcases List.mem_cons.mp ((h x).mp (List.mem_cons_of_mem _ z)) with y | y
      · exact absurd (y ▸ z) nc
      · exact y
    · rcases List.mem_cons.mp ((h x).mpr (List.mem_cons_of_mem _ z)) with y | y
      · exact absurd (y ▸ z) nd
      · exact y
/-- one staircase for each lot of bodies -/
theorem can_eq {cs ds : List Co} (hc : Can cs) (hd : Can ds) (pc : ∀ c ∈ cs, (∀ k, c.1 = some k → 1 ≤ k) ∧ ∀ k, c.2 = some k → 1 ≤ k) (pd : ∀ c ∈ ds, (∀ k, c.1 = some k → 1 ≤ k) ∧ ∀ k, c.2 = some k → 1 ≤ k)
    (same : ∀ A B : Int, 1 ≤ A → 1 ≤ B → (heldI cs A B ↔ heldI ds A B)) : cs = ds :=
  can_list hc hd fun c => ⟨can_mem hc pc pd same, can_mem hd pd pc fun A B a b => (same A B a b).symm⟩
/-! ### what is greatest in a list of corners -/
def maxC (cs : List Co) (c : Co) : Prop := ∀ o ∈ cs, leC c o → o = c
theorem leC_refl (c : Co) : leC c c := ⟨leO_refl _, leO_refl _⟩
theorem leC_trans {a b c : Co} (h : leC a b) (g : leC b c) : leC a c := ⟨leO_trans h.1 g.1, leO_trans h.2 g.2⟩
theorem leC_anti {a b : Co} (h : leC a b) (g : leC b a) : a = b := Prod.ext (leO_anti h.1 g.1) (leO_anti h.2 g.2)
theorem max_above (cs : List Co) {c : Co} (hc : c ∈ cs) : ∀ L : List Co, (∀ x ∈ L, x ∈ cs) → ∃ d ∈ cs, leC c d ∧ maxC L d
  | [], _ => ⟨c, hc, leC_refl c, fun _ h => by cases h⟩
  | e :: L, hL => by
    obtain ⟨d, hd, l, m⟩ := max_above cs hc L fun x hx => hL x (List.mem_cons_of_mem _ hx)
    by_cases le : leC d e
    · refine ⟨e, hL e List.mem_cons_self, leC_trans l le, fun o ho lo => ?_⟩
      rcases List.mem_cons.mp ho with z | z
      · exact z
      · have q := m o z (leC_trans le lo)
        rw [q] at lo ⊢
        exact leC_anti le lo
    · refine ⟨d, hd, l, fun o ho lo => ?_⟩
      rcases List.mem_cons.mp ho with z | z
      · exact absurd (z ▸ lo) le
      · exact m o z lo
theorem hdO_le (o c : Co) : hdO o c = true ↔ leC c o := by
  obtain ⟨o1, o2⟩ := o
  obtain ⟨c1, c2⟩ := c
  unfold hdO leC
  rw [Bool.and_eq_true, decide_eq_true_eq, decide_eq_true_eq]
  refine and_congr ?_ ?_
  · cases o1 <;> cases c1 <;> simp [lsO, leO]
    omega
  · cases o2 <;> cases c2 <;> simp [lsO, leO]
    omega
theorem max_not {cs : List Co} {c : Co} : cs.all (fun o => !(!decide (o = c) && hdO o c)) = true ↔ maxC cs c := by
  rw [List.all_eq_true]
  refine forall_congr' fun o => forall_congr' fun _ => ?_
  rw [← hdO_le]
  by_cases e : o = c <;> cases h : hdO o c <;> simp [e]
/-- the greatest ones, in the order of their widths -/
theorem can_sorted {cs : List Co} : ∀ {fs : List Co}, fs.Nodup → (∀ c ∈ fs, c ∈ cs ∧ maxC cs c) → fs.Pairwise (fun c d => leO c.1 d.1) → Can fs
  | [], _, _, _ => List.Pairwise.nil
  | c :: fs, nd, hm, hs => by
    obtain ⟨n1, n2⟩ := List.nodup_cons.mp nd
    obtain ⟨s1, s2⟩ := List.pairwise_cons.mp hs
    refine List.pairwise_cons.mpr ⟨fun d hd => ?_, can_sorted n2 (fun x hx => hm x (List.mem_cons_of_mem _ hx)) s2⟩
    obtain ⟨c1, c2⟩ := hm c List.mem_cons_self
    obtain ⟨d1, d2⟩ := hm d (List.mem_cons_of_mem _ hd)
    have ne : d ≠ c := fun e => n1 (e ▸ hd)
    have l1 := s1 d hd
    have nl : ¬ leO c.2 d.2 := fun z => ne (c2 d d1 ⟨l1, z⟩)
    have g2 : ltO d.2 c.2 := by
      rcases ltO_tri c.2 d.2 with z | z | z
      · exfalso
        revert z nl
        cases c.2 <;> cases d.2 <;> simp [ltO, leO]
        omega
      · exact absurd (z ▸ leO_refl _) nl
      · exact z
    refine ⟨?_, g2⟩
    rcases ltO_tri c.1 d.1 with z | z | z
    · exact z
    · exfalso
      refine ne (d2 c c1 ⟨by rw [z]; exact leO_refl _, ?_⟩).symm
      revert g2
      cases c.2 <;> cases d.2 <;> simp [ltO, leO]
      omega
    · exact absurd l1 (ltO_not z)
end G21
set_option Elab.async false
set_option linter.all false
set_option maxRecDepth 100000
set_option maxHeartbeats 4000000
namespace V3
open PySem PySem.Spec PyProof.Rows L2
section
variable {K : PySem.W.Frag} {C : Addr} {TL : List (Addr × Str)} {E : XK}
/-! ### list(reversed(x)) -/
@[simp ↓] def mListRev (me : TE3) : TE3 := fun ρ n q e => me ρ n (fun _ u n1 => match u with
    | .d (.list xs) => q true (.d (.list xs.reverse)) n1
    | .d (.tuple xs) => q true (.d (.list xs.reverse)) n1
    | _ => False) e
instance {te : TE} {S : List Nat} {me : TE3} [he : LE K C TL E te S me] : LE K C TL E (tListRev K te) S (mListRev me) where
  s am ρ n σ H hE h Q q hm k := by
    obtain ⟨rfl, rfl, rfl, rfl⟩ := id hE
    refine he.s am ρ n σ H hE h _ _ hm fun fr u n1 v H1 hq f1 w1 r1 => ?_
    have h1 := h.step f1 w1
    match u, hq, r1.1 with
    | .d (.list xs), hq, r =>
      cases r with
      | lst a1 a2 => exact ⟨_, _, rfl, .inl (SqL.of (cut_some.mp a1).2), fun p hp => k _ _ n1 _ _ hq (f1.trans (.of (same_new hp))) (w1.same (same_new hp)) ((new_list (hid_there h1 S) hp (RpAll.rev a2)).back h f1 h1)⟩
    | .d (.tuple xs), hq, r =>
      cases r with
      | tup a1 a2 => exact ⟨_, _, rfl, .inr (SqT.le Le.cutAll a1), fun p hp => k _ _ n1 _ _ hq (f1.trans (.of (same_new hp))) (w1.same (same_new hp)) ((new_list (hid_there h1 S) hp (RpAll.rev a2)).back h f1 h1)⟩
/-! ### sorted(set(ints)) -/
@[simp ↓] def mSortSet (me : TE3) : TE3 := fun ρ n q e => me ρ n (fun _ u n1 => askL u fun xs => ∃ ns : List Int, xs = ns.map PyData.int ∧ ns.length < 64 ∧
  ∀ line : List Int, line.Pairwise (· < ·) → (∀ j, j ∈ line ↔ j ∈ ns) → line.length ≤ ns.length → q true (.d (.list (line.map PyData.int))) n1) e
theorem ints_rep {K : PySem.W.Frag} {H : Hp} (ns : List Int) : RpAll K H (ns.map V.int) (ns.map PyData.int) := by
  induction ns with
  | nil => exact .nil
  | cons m ms ih => exact .cons (.int m) ih
instance (priority := high) {w : World} {te : TE} {S : List Nat} {me : TE3} [he : LE K C TL E te S me] : LE K C TL E (tCB (rSortedSet w) (tCons (tCB (GS.rSetL K w) (tCons te tNil)) tNil)) [] (mSortSet me) where
  s am ρ n σ H hE h Q q hm k := by
    obtain ⟨rfl, rfl, rfl, rfl⟩ := id hE
    refine he.s am ρ n σ H hE h _ _ hm fun fr u n1 v H1 hq f1 w1 r1 => ?_
    have h1 := h.step f1 w1
    obtain ⟨xs, a, vs, rfl, rfl, a1, a2, ns, rfl, hl, hq⟩ := askL_rep hq r1.1
    have e := rp_ints a2
    subst e
    refine ⟨a, ns, rfl, SqL.of (cut_some.mp a1).2, by omega, fun p m hp hm => ?_⟩
    obtain ⟨f2, w2⟩ := fresh_step h1 hp (SetO w p (fun j => decide (j ∈ ns)) m)
    have h2 := h1.step f2 w2
    refine ⟨p, _, m, rfl, upd_same, by omega, fun line l2 up mem hlen hp2 => ?_⟩
    obtain ⟨f3, w3⟩ := fresh_step h2 hp2 (.lst (line.map V.int))
    refine k _ _ n1 _ _ (hq line up (fun j => by rw [mem j]; simp) (by omega)) ((f1.trans f2).trans f3) w3 ((new_list (hid_there h2 []) hp2 (ints_rep line)).back h (f1.trans f2) h2)
/-! ### x.index(y), among ints -/
@[simp ↓] def mIndex (mo me : TE3) : TE3 := fun ρ n q e => mo ρ n (fun _ u n1 => askL u fun xs => me ρ n1 (fun _ w n2 => askI w fun k => ∃ (ns : List Int) (j : Nat), xs = ns.map PyData.int ∧ ns[j]? = some k ∧ (∀ i, i < j → ns[i]? ≠ some k) ∧ q false (.d (.int (j : Nat))) n2) e) e
theorem ints_flat (ns : List Int) : (ns.map V.int).all flatV = true := by
  induction ns with
  | nil => rfl
  | cons m ms ih =>
    rw [List.map_cons, List.all_cons, ih]
    rfl
instance (priority := high) {to te : TE} {S1 S2 : List Nat} {mo me : TE3} [ho : LE K C TL E to S1 mo] [he : LE K C TL E te S2 me] : LE K C TL E (tBM K "list" (rIndex K) to (tCons te tNil)) [] (mIndex mo me) where
  s am ρ n σ H hE h Q q hm k := by
    obtain ⟨rfl, rfl, rfl, rfl⟩ := id hE
    refine ho.s am ρ n σ H hE h _ _ hm fun fr u n1 v H1 hq f1 w1 r1 => ?_
    have h1 := h.step f1 w1
    obtain ⟨xs, a, vs, rfl, rfl, a1, a2, hq⟩ := askL_rep hq r1.1
    refine ⟨.inl ⟨rfl, vs, SqL.of (cut_some.mp a1).2⟩, ?_⟩
    refine he.s am ρ n1 σ H1 hE h1 _ _ hq fun fr2 u2 n2 v2 H2 hq2 f2 w2 r2 => ?_
    obtain ⟨i, rfl, rfl, ns, j, rfl, hj, hno, hq2⟩ := askI_rep hq2 r2.1
    have e := rp_ints a2
    subst e
    have a3 : Rp am.K (cut (Hid am (dem S1 ρ) σ) H2) (.ref a) (.list (ns.map PyData.int)) := r1.1.le (rl_cutS h1 f2 (S' := S1) fun i hi => hi)
    cases a3 with
    | lst b1 b2 =>
      have e := rp_ints b2
      subst e
      refine ⟨a, ns.map V.int, .int i, j, .int i, rfl, rfl, SqL.of (cut_some.mp b1).2, rfl, ints_flat _, by rw [List.getElem?_map, hj]; rfl, by simp [eqV], fun m z' hm hz => ?_, k _ _ n2 _ H2 hq2 (f1.trans f2) w2 (.old (Rp.int _))⟩
      rw [List.getElem?_map] at hz
      cases e : ns[m]? with
      | none =>
        rw [e] at hz
        cases hz
      | some y =>
        rw [e] at hz
        cases hz
        have := hno m hm
        rw [e] at this
        have ne : ¬ y = i := fun z => this (by rw [z])
        simp [eqV, ne]
/-! ### f(a, k = b) -/
@[simp ↓] def mCallK (fr : Bool) (sp : VSp) (i j : Nat) (ma mk : TA3) : TE3 := fun ρ n q e => ma ρ n (fun us n1 => mk ρ n1 (fun ws n2 => (us.length = i ∧ ws.length = j) ∧ sp (us ++ ws) n2 (fun u n3 => q fr u n3) e) e) e
@[simp ↓] def mCallK0 (fr : Bool) (sp : VSp) (i j : Nat) (ma mk : TA3) : TE3 := fun ρ n q e => ma ρ n (fun us n1 => mk ρ n1 (fun ws n2 => (us.length = i ∧ ws.length = j) ∧ sp (us ++ ws) n2 (fun u n3 => q fr u n3) (fun _ => False)) e) e
theorem rep_app {am : Am} {O : Addr → Prop} {H : Hp} : ∀ {vs ws : List V} {us xs : List U}, RepA am O H vs us → RepA am O H ws xs → RepA am O H (vs ++ ws) (us ++ xs)
  | _, _, _, _, .nil, h => h
  | _, _, _, _, .cons r t, h => .cons r (rep_app t h)
theorem repA_sub {am : Am} {O O' : Addr → Prop} {H : Hp} {vs : List V} {us : List U} (k : ∀ a, O' a → O a) (r : RepA am O H vs us) : RepA am O' H vs us := r.le (Le.cutSub k)
instance (priority := high) {ta tk : TA} {S1 S2 : List Nat} {ma mk : TA3} {fr : Bool} {sp : VSp} {i j : Nat} [ha : LA K C TL E ta S1 ma] [hk : LA K C TL E tk S2 mk] : LE K C TL E (tCallK (toSp K C TL fr sp) (GS.gA i j) E ta tk) (S1 ++ S2) (mCallK fr sp i j ma mk) where
  s am ρ n σ H hE h Q q hm k := by
    obtain ⟨rfl, rfl, rfl, rfl⟩ := id hE
    refine ha.s am ρ n σ H hE h _ _ hm fun us n1 vs H1 hq f1 w1 r1 => ?_
    have h1 := h.step f1 w1
    refine hk.s am ρ n1 σ H1 hE h1 _ _ hq fun ws n2 zs H2 hq2 f2 w2 r2 => ?_
    obtain ⟨⟨l1, l2⟩, hq2⟩ := hq2
    have e : GS.gA i j vs zs = (vs ++ zs) ++ [] := by
      unfold GS.gA
      rw [if_pos ⟨by rw [rep_len r1, l1], by rw [rep_len r2, l2]⟩, List.append_nil]
    rw [e]
    exact call_ok h (f1.trans f2) w2 (rep_app (r1.le (rl_cutS h1 f2 fun i hi => List.mem_append_left _ hi)) (r2.le (rl_cutS (h1.step f2 w2) (FrR.refl _ _) fun i hi => List.mem_append_right _ hi))) hq2 k fun C' H' n' f w z => h.ex C' H' n' (gr_step h f) w z
instance {ta tk : TA} {S1 S2 : List Nat} {ma mk : TA3} {fr : Bool} {sp : VSp} {i j : Nat} {E' : XK} [ha : LA K C TL E ta S1 ma] [hk : LA K C TL E tk S2 mk] : LE K C TL E (tCallK (toSp K C TL fr sp) (GS.gA i j) E' ta tk) (S1 ++ S2) (mCallK0 fr sp i j ma mk) where
  s am ρ n σ H hE h Q q hm k := by
    obtain ⟨rfl, rfl, rfl, rfl⟩ := id hE
    refine ha.s am ρ n σ H hE h _ _ hm fun us n1 vs H1 hq f1 w1 r1 => ?_
    have h1 := h.step f1 w1
    refine hk.s am ρ n1 σ H1 hE h1 _ _ hq fun ws n2 zs H2 hq2 f2 w2 r2 => ?_
    obtain ⟨⟨l1, l2⟩, hq2⟩ := hq2
    have e : GS.gA i j vs zs = (vs ++ zs) ++ [] := by
      unfold GS.gA
      rw [if_pos ⟨by rw [rep_len r1, l1], by rw [rep_len r2, l2]⟩, List.append_nil]
    rw [e]
    exact call_ok h (f1.trans f2) w2 (rep_app (r1.le (rl_cutS h1 f2 fun i hi => List.mem_append_left _ hi)) (r2.le (rl_cutS (h1.step f2 w2) (FrR.refl _ _) fun i hi => List.mem_append_right _ hi))) hq2 k fun C' H' n' f w z => z.elim
/-! ### {} -/
@[simp ↓] def mDnew : TE3 := fun _ n q _ => q false (.d (.dict [])) n
end
end V3
set_option Elab.async false
set_option linter.all false
set_option maxRecDepth 100000
set_option maxHeartbeats 4000000
/-! x, y = [..], [[..], [..]]: a list of one's own, and a list of lists that is only read -/
namespace V3
open PySem PySem.Spec PyProof.Rows L2
section
variable {K : PySem.W.Frag} {C : Addr} {TL : List (Addr × Str)} {E : XK}
def tParN (i j : Nat) (ta tb : TE) : TS := tPar i j (tCons ta (tCons tb tNil))
theorem parN {X : Cx} {s : Stmt} {i j : Nat} {ta tb : TE} (h : PS X s (tPar i j (tCons ta (tCons tb tNil)))) : PS X s (tParN i j ta tb) := h
@[simp ↓] def mParN (S2 : List Nat) (i j : Nat) (ma mb : TE3) : TS3 := fun F ρ n e => ma ρ n (fun f1 x n1 => f1 = true ∧ askL x fun ds => flatAll ds = true ∧ mb ρ n1 (fun _ y n2 => askD y fun z => F.nx (((dem S2 ρ).set i (.ow ds)).set j (.fz (.d z))) n2) (fun _ => False)) e
theorem hid_in {am : Am} {ρ : Ro} {n n1 : Nat} {σ : L2.St} {H H1 : Hp} (h : Rl am ρ n σ H) (f : FrR am.R H H1) (w : Wd am.R am.TL H1 n1) {p : Addr} {vs : List V} (hp : New H p) (e : H1 p = some (.lst vs)) : Rl (lcAm am p) ρ n1 σ H1 := by
  have L : Le (cut (Hid am ρ σ) H) (cut (Hid (lcAm am p) ρ σ) H1) := Le.cut (fun a z => by
    rcases lc_hid.mp z with z | z
    · exact .inr (z ▸ hp)
    · exact .inl z) fun a o hn t e => f.1 a o (fun d g c q => by
      obtain ⟨h1, h2, _, _⟩ := h.wd.dr d g c q
      exact ⟨fun z => hn (.inl (z ▸ h1)), fun z => hn (.inl (z ▸ h2))⟩) t e
  exact {
    len := h.len
    fz := fun i u e => by
      obtain ⟨v, q1, q2⟩ := h.fz i u e
      exact ⟨v, q1, lc_rep.mpr (q2.le L)⟩
    ow := fun i ds e' => by
      obtain ⟨p', vs', q1, q2, q3, q4⟩ := h.ow i ds e'
      refine ⟨p', vs', q1, ⟨.inl fun ⟨o, z, _⟩ => (by cases z), fun z => ?_⟩, h.keepOw f ⟨⟨ds, e'⟩, q1⟩ q3, RpAll.le L _ _ q4⟩
      rcases z with z | z
      · exact q2.2 z
      · exact hp (z ▸ .lst q3)
    nd := h.nd
    od := fun d g c q => ⟨⟨d, g, c, q, .inl rfl⟩, ⟨d, g, c, q, .inr rfl⟩⟩
    gr := ⟨fun _ _ _ _ z => (by cases z), fun _ ⟨_, z, _⟩ => (by cases z)⟩
    wd := {
      hid := fun a z => by
        rcases z with z | z
        · exact w.hid a z
        · exact z ▸ .lst e
      tabs := w.tabs
      dr := fun d g c q => by
        obtain ⟨a1, a2, a3, r⟩ := w.dr d g c q
        exact ⟨.inl a1, .inl a2, .inl a3, r⟩ }
    ex := fun _ _ _ _ _ z => z.elim }
instance {i j : Nat} {ta tb : TE} {S1 S2 : List Nat} {ma mb : TE3} [ha : LE K C TL E ta S1 ma] [hb : LE K C TL E tb S2 mb] : LS K C TL E (tParN i j ta tb) (mParN S2 i j ma mb) where
  s am ρ n σ H D F hE h en hm := by
    obtain ⟨rfl, rfl, rfl, rfl⟩ := id hE
    refine ha.s am ρ n σ H hE h _ _ hm fun fr x n1 v H1 hq f1 w1 r1 => ?_
    obtain ⟨rfl, hq⟩ := hq
    obtain ⟨p, vs, ds, rfl, rfl, np, e, a⟩ := r1.2 rfl
    obtain ⟨fl, hq⟩ := hq
    have h1 := hid_in h f1 w1 np e
    refine hb.s (lcAm am p) ρ n1 σ H1 ⟨rfl, rfl, rfl, rfl⟩ h1 _ _ hq fun fr2 y n2 v2 H2 hq2 f2 w2 r2 => ?_
    match y, hq2, r2.1 with
    | .d z, hq2, r3 =>
      have f2' : FrR am.R H1 H2 := lc_fr.mp f2
      have w2' : Wd am.R am.TL H2 n2 := {
        hid := fun a z => w2.hid a (.inl z)
        tabs := w2.tabs
        dr := fun d g c q => by
          obtain ⟨_, _, _, r⟩ := w2.dr d g c q
          obtain ⟨a1, a2, a3, _⟩ := h.wd.dr d g c q
          exact ⟨a1, a2, a3, r⟩ }
      have e2 : H2 p = some (.lst vs) := f2'.1 p _ (fun d g c q => by
        obtain ⟨a1, a2, _, _⟩ := h.wd.dr d g c q
        exact ⟨fun z => np (h.wd.hid p (z ▸ a1)), fun z => np (h.wd.hid p (z ▸ a2))⟩) (fun ps z => by cases z) e
      have h1' := h.step f1 w1
      have a1 : RpAll am.K (cut (fun a => a = p ∨ Hid am (dem S2 ρ) σ a) H1) vs ds := RpAll.hide (O := fun a => a = p ∨ Hid am (dem S1 ρ) σ a) (fun q z => by
        rcases z with z | z | ⟨k, z⟩
        · exact .inl (.inl z)
        · exact .inl (.inr (.inl z))
        · exact .inr ((h1'.dem S2).ownL ⟨z.1, z.2⟩).2.1) _ _ fl a
      have L2 : Le (cut (fun a => a = p ∨ Hid am (dem S2 ρ) σ a) H1) (cut (fun a => a = p ∨ Hid am (dem S2 ρ) σ a) H2) := Le.cut (fun a z => .inl z) fun a o hn t e => f2'.1 a o (fun d g c q => by
        obtain ⟨b1, b2, _, _⟩ := h.wd.dr d g c q
        exact ⟨fun z => hn (.inr (.inl (z ▸ b1))), fun z => hn (.inr (.inl (z ▸ b2)))⟩) t e
      have r4 := (h.dem S2).setOw (f1.trans f2') w2' i np e2 (RpAll.le L2 _ _ a1)
      refine ⟨.ref p, v2, rfl, en.nx _ n2 _ H2 hq2 (r4.setFz j ?_)⟩
      have r3 : Rp am.K (cut (Hid (lcAm am p) (dem S2 ρ) σ) H2) v2 z := r3
      exact Rp.le (Le.cutSub fun a q => lc_hid.mpr (hid_setO q)) _ _ r3
/-! ### the truth of a list, of a tuple -/
def tTru (K : PySem.W.Frag) (te : TE) : TT := fun σ H Q => te σ H fun x H' => ∃ k, TruV K x H' k ∧ Q k H'
theorem tru3 {X : Cx} (K : PySem.W.Frag) {a : Expr} {ta : TE} (ha : PE X a ta) (he : ∀ whole, isTrue a X.env whole = (do let v ← whole; standAt a.pos; holding [v] (truthy v))) (h : X.K = K := by rfl) : PT X a (tTru K ta) := h ▸ pt_truth ha he
@[simp ↓] def mTru (me : TE3) : TT3 := fun ρ n q e => me ρ n (fun _ u n1 => askS u fun ds => q (!ds.isEmpty) n1) e
theorem rpAll_empty {K : PySem.W.Frag} {H : Hp} {vs : List V} {ds : List D} (r : RpAll K H vs ds) : vs.isEmpty = ds.isEmpty := by
  cases r <;> rfl
instance {te : TE} {S : List Nat} {me : TE3} [he : LE K C TL E te S me] : LT K C TL E (tTru K te) (mTru me) where
  s am ρ n σ H hE h Q q hm k := by
    obtain ⟨rfl, rfl, rfl, rfl⟩ := id hE
    refine he.s am ρ n σ H hE h _ _ hm fun fr u n1 v H1 hq f1 w1 r1 => ?_
    match u, hq, r1.1 with
    | .d (.list ds), hq, r =>
      cases r with
      | lst a1 a2 => exact ⟨_, .inl ⟨_, SqL.of (cut_some.mp a1).2, rfl⟩, by rw [rpAll_empty a2]; exact k _ n1 H1 hq f1 w1⟩
    | .d (.tuple ds), hq, r =>
      cases r with
      | tup a1 a2 => exact ⟨_, .inr (.inl ⟨_, SqT.le Le.cutAll a1, rfl⟩), by rw [rpAll_empty a2]; exact k _ n1 H1 hq f1 w1⟩
end
end V3
set_option Elab.async false
set_option linter.all false
set_option maxRecDepth 100000
set_option maxHeartbeats 4000000
/-! while -/
namespace V3
open PySem PySem.Spec PyProof.Rows L2
section
variable {K : PySem.W.Frag} {C : Addr} {TL : List (Addr × Str)} {E : XK}
@[simp ↓] def mWhile (mc : TT3) (mb : TS3) : TS3 := fun F ρ n e => ∃ W : Nat → Ro → Nat → Prop, (∃ m, W m ρ n) ∧ ∀ m ρ n, W m ρ n →
  mc ρ n (fun b n1 => if b = true then mb { F with nx := fun ρ' n' => ∃ m', m' < m ∧ W m' ρ' n', ct := fun ρ' n' => ∃ m', m' < m ∧ W m' ρ' n', bk := F.nx } ρ n1 e else F.nx ρ n1) e
instance {c : TT} {tb : TS} {mc : TT3} {mb : TS3} [hc : LT K C TL E c mc] [hb : LS K C TL E tb mb] : LS K C TL E (tWhile c tb) (mWhile mc mb) where
  s am ρ n σ H D F hE h en hm := by
    obtain ⟨W, ⟨m0, w0⟩, turn⟩ := hm
    refine ⟨fun m σ H => ∃ ρ n, W m ρ n ∧ Rl am ρ n σ H, ⟨m0, ρ, n, w0, h⟩, ?_⟩
    rintro m σ1 H1 ⟨ρ1, n1, w, r⟩
    refine hc.s am ρ1 n1 σ1 H1 hE r _ _ (turn m ρ1 n1 w) fun b n2 H2 hq f1 w1 => ?_
    cases b with
    | true =>
      exact ⟨fun σ' H' => ∃ ρ' n', (∃ m', m' < m ∧ W m' ρ' n') ∧ Rl am ρ' n' σ' H', fun σ' H' ⟨ρ', n', ⟨m', l, w'⟩, r'⟩ => ⟨m', l, ρ', n', w', r'⟩,
        hb.s am ρ1 n2 σ1 H2 _ { F with nx := fun ρ' n' => ∃ m', m' < m ∧ W m' ρ' n', ct := fun ρ' n' => ∃ m', m' < m ∧ W m' ρ' n', bk := F.nx } hE (r.step f1 w1) ⟨fun ρ' n' σ' H' q r' => ⟨ρ', n', q, r'⟩, fun ρ' n' σ' H' q r' => en.nx ρ' n' σ' H' q r', fun ρ' n' σ' H' q r' => ⟨ρ', n', q, r'⟩, en.rt⟩ hq⟩
    | false => exact en.nx ρ1 n2 σ1 H2 hq (r.step f1 w1)
end
end V3
set_option Elab.async false
set_option linter.all false
set_option maxRecDepth 100000
set_option maxHeartbeats 4000000
/-! x += e and x -= e of numbers -/
namespace V3
open PySem PySem.Spec PyProof.Rows L2
section
variable {K : PySem.W.Frag} {C : Addr} {TL : List (Addr × Str)} {E : XK}
@[simp ↓] def mAug (i : Nat) (f : Int → Int → Int) (me : TE3) : TS3 := fun F ρ n e => ask (rdAt ρ i) fun u => askI u fun x => me ρ n (fun _ w n1 => askI w fun y => F.nx (ρ.set i (.fz (.d (.int (f x y))))) n1) e
instance {te : TE} {i : Nat} {f : Int → Int → Int} {S : List Nat} {me : TE3} [he : LE K C TL E te S me] : LS K C TL E (tAug i te (ipI f)) (mAug i f me) where
  s am ρ n σ H D F hE h en hm := by
    obtain ⟨u, e1, h1⟩ := ask_some hm
    obtain ⟨v, q1, r1⟩ := slot_rd h e1
    obtain ⟨x, rfl, rfl, h2⟩ := askI_rep h1 r1
    refine ⟨_, q1, he.s am ρ n σ H hE h _ _ h2 fun fr w n1 v H1 hq f1 w1 r2 => ?_⟩
    obtain ⟨y, rfl, rfl, h3⟩ := askI_rep hq r2.1
    exact ⟨x, y, rfl, rfl, en.nx _ n1 _ H1 h3 ((h.step f1 w1).setFz i (.int _))⟩
end
end V3
set_option Elab.async false
set_option linter.all false
set_option maxRecDepth 100000
set_option maxHeartbeats 4000000
namespace V3
open PySem PySem.Spec PyProof.Rows L2
section
variable {X : Cx}
theorem sortK3 {P : Program} {w : World} (K : PySem.W.Frag) {mg : Str → Option Value} {base : Heap} {k d : Nat} (hd : 1 ≤ d) (hr : Room (k + 1) X.A) (h : X.K = K := by rfl) (h1 : X.prog = P := by rfl) (h2 : X.w = w := by rfl) (h3 : X.mg = mg := by rfl) (h4 : X.base = base := by rfl) :
    CallRK X (.builtin "sorted") ["key"] (GS.rSortK P w K mg base k d) := h ▸ h1 ▸ h2 ▸ h3 ▸ h4 ▸ GS.cr_sortKey hd hr
theorem setL3 (K : PySem.W.Frag) (w : World) (hc : X.calm = true) (h : X.K = K := by rfl) (h2 : X.w = w := by rfl) : CallR X (.type "set") (GS.rSetL K w) := h ▸ h2 ▸ GS.cr_setL hc
theorem sortedSet3 (w : World) (hc : X.calm = true) (h2 : X.w = w := by rfl) : CallR X (.builtin "sorted") (rSortedSet w) := h2 ▸ cr_sortedSet hc
theorem idx3 (K : PySem.W.Frag) (h : X.K = K := by rfl) : MtR X "list.index" (rIndex K) := h ▸ mt_index
end
section
variable {K : PySem.W.Frag} {C : Addr} {TL : List (Addr × Str)} {E : XK}
instance : LE K C TL E tDNewK [] mDnew where
  s am ρ n σ H hE h Q q hm k := fun p hp => by
    obtain ⟨f2, w2⟩ := fresh_step h hp (.dK [])
    exact k _ _ n _ _ hm f2 w2 (.old (Rp.dnil (cut_new h [] hp _)))
/-! ### sorted(xs, key = f), f a lambda that makes tuples of ints -/
def spKeyD (K : PySem.W.Frag) (dom : D → Prop) (kz : D → List Int) : Sp := fun vs H Q _ => ∃ (v : V) (x : D), vs = [v] ∧ dom x ∧ Rp K H v x ∧ ∀ t, H t = none → Q (.ref t) (upd H t (.tup ((kz x).map V.int)))
def isTup : D → Bool
  | .tuple _ => true
  | _ => false
@[simp] theorem isTup_t (xs : List D) : isTup (.tuple xs) = true := rfl
@[simp ↓] def mSortK (P : Program) (w : World) (K : PySem.W.Frag) (mg : Str → Option Value) (base : Heap) (k d : Nat) (qn : Str) (params : Arguments) (body : Expr) (scope : Scope) (me : TE3) : TE3 := fun ρ n q e => me ρ n (fun _ u n1 => askL u fun xs => ∃ (dom : D → Prop) (kz : D → List Int),
  GS.LamRun P w K mg base CX0 k qn params body scope 1 (spKeyD K dom kz) ∧ (∀ x ∈ xs, dom x ∧ (kz x).length = d ∧ isTup x = true) ∧ ∀ ys : List D, ys.Perm xs → q true (.d (.list ys)) n1) e
theorem rp_perm {K : PySem.W.Frag} {H : Hp} {vs ws : List V} (p : ws.Perm vs) : ∀ {ds : List D}, RpAll K H vs ds → ∃ es : List D, es.Perm ds ∧ RpAll K H ws es := by
  induction p with
  | nil => exact fun r => ⟨_, .refl _, r⟩
  | cons x _ ih =>
    intro ds r
    cases r with
    | cons r1 r2 =>
      obtain ⟨es, e1, e2⟩ := ih r2
      exact ⟨_ :: es, e1.cons _, .cons r1 e2⟩
  | swap x y l =>
    intro ds r
    cases r with
    | cons r1 r2 =>
      cases r2 with
      | cons r3 r4 => exact ⟨_, .swap _ _ _, .cons r3 (.cons r1 r4)⟩
  | trans _ _ ih1 ih2 =>
    intro ds r
    obtain ⟨es, e1, e2⟩ := ih2 r
    obtain ⟨fs, f1, f2⟩ := ih1 e2
    exact ⟨fs, f1.trans e1, f2⟩
theorem rp_mem {K : PySem.W.Frag} {H : Hp} : ∀ {vs : List V} {ds : List D} {v : V}, RpAll K H vs ds → v ∈ vs → ∃ x ∈ ds, Rp K H v x
  | _, [], _, h, m => by
    cases h
    cases m
  | _, d :: ds, v, h, m => by
    cases h with
    | cons h1 h2 =>
      rcases List.mem_cons.mp m with z | z
      · exact ⟨d, List.mem_cons_self .., z ▸ h1⟩
      · obtain ⟨x, q1, q2⟩ := rp_mem h2 z
        exact ⟨x, List.mem_cons_of_mem _ q1, q2⟩
open Classical in
instance (priority := high) {P : Program} {w : World} {mg : Str → Option Value} {base : Heap} {k d : Nat} {qn : Str} {params : Arguments} {body : Expr} {scope : Scope} {te : TE} {S : List Nat} {me : TE3} [he : LE K C TL E te S me] :
    LE K C TL E (tCKw (GS.rSortK P w K mg base k d) (tCons te tNil) (tCons (GS.tLamV TL qn params body scope) tNil)) S (mSortK P w K mg base k d qn params body scope me) where
  s am ρ n σ H hE h Q q hm kk := by
    obtain ⟨rfl, rfl, rfl, rfl⟩ := id hE
    refine he.s am ρ n σ H hE h _ _ hm fun fr u n1 v H1 hq f1 w1 r1 => ?_
    have h1 := h.step f1 w1
    obtain ⟨xs, a, vs, rfl, rfl, a1, a2, dom, kz, run, hdom, hq⟩ := askL_rep hq r1.1
    refine ⟨h1.wd.tabs, fun H2 f c' ext tabs hf hc => ?_⟩
    have le12 : Le H1 H2 := fun b o t e => ext b o e t
    have hc2 : ∀ (o : HO), Le H1 (upd H2 f o) := fun o => le12.trans (Le.of (same_new hf))
    have cutle : ∀ (O : Addr → Prop) (o : HO), Le (cut O H1) (cut O (upd H2 f o)) := fun O o => Le.cut (fun a z => .inl z) fun a o' _ t e => hc2 o a o' t e
    let kv : V → D := fun v => if g : ∃ x ∈ xs, Rp am.K (cut (Hid am (dem S ρ) σ) H1) v x then choose g else .none
    have kvs : ∀ v ∈ vs, kv v ∈ xs ∧ Rp am.K (cut (Hid am (dem S ρ) σ) H1) v (kv v) := fun v hv => by
      have g := rp_mem a2 hv
      have e : kv v = choose g := dif_pos g
      rw [e]
      exact ⟨(choose_spec g).1, (choose_spec g).2⟩
    refine ⟨a, f, c', qn, params, body, scope, vs, fun v => kz (kv v), spKeyD am.K dom kz, rfl, rfl, SqL.of ?_, fun v hv => ?_, upd_same, same_new hf _ _ hc, run, fun v hv => ?_, fun ys p H3 s3 hp perm _ => ?_⟩
    · exact hc2 _ _ _ (fun ps z => by cases z) (cut_some.mp a1).2
    · obtain ⟨m1, m2⟩ := kvs v hv
      obtain ⟨_, _, it⟩ := hdom _ m1
      cases e : kv v with
      | tuple ds =>
        rw [e] at m2
        cases m2
        exact ⟨_, rfl⟩
      | _ =>
        rw [e] at it
        cases it
    · obtain ⟨m1, m2⟩ := kvs v hv
      obtain ⟨d1, d2, _⟩ := hdom _ m1
      refine ⟨d2, fun H4 s4 => ⟨v, kv v, rfl, d1, ?_, fun t ht => ⟨t, rfl, same_new ht, upd_same⟩⟩⟩
      exact Rp.le (Le.cutAll.trans ((hc2 _).trans (Le.of s4))) _ _ m2
    · have f4 : FrR am.R H1 (upd H3 p (.lst ys)) := .le ((hc2 _).trans ((Le.of s3).trans (Le.of (same_new hp))))
      have w4 : Wd am.R am.TL (upd H3 p (.lst ys)) n1 := {
        hid := fun a z => ((hc2 _).trans ((Le.of s3).trans (Le.of (same_new hp)))).there (w1.hid a z)
        tabs := (tabs.ext (same_new hf)).ext fun b o e => same_new hp b o (s3 b o e)
        dr := fun d g c q => by
          obtain ⟨b1, b2, b3, t, b4, b5⟩ := w1.dr d g c q
          obtain ⟨gs, cs, m, c1, c2, c3, r⟩ := b5
          have kp := (hc2 (GS.LamO c' qn params body scope f)).trans ((Le.of s3).trans (Le.of (same_new (o := .lst ys) hp)))
          exact ⟨b1, b2, b3, t, b4, gs, cs, m, kp _ _ (fun ps z => by cases z) c1, kp _ _ (fun ps z => by cases z) c2, kp _ _ (fun ps z => by cases z) c3, r⟩ }
      obtain ⟨es, e1, e2⟩ := rp_perm perm a2
      have np : New H1 p := fun ⟨o, q1, q2⟩ => by
        have z := s3 _ _ (hc2 _ _ _ q2 q1)
        rw [hp] at z
        cases z
      have no : ¬ Hid am (dem S ρ) σ p := (h1.dem S).new np
      have L : Le (cut (Hid am (dem S ρ) σ) H1) (cut (Hid am (dem S ρ) σ) (upd H3 p (.lst ys))) := Le.cut (fun a z => .inl z) fun a o' _ t e => same_new hp _ _ (s3 _ _ (hc2 _ _ _ t e))
      refine kk _ _ n1 _ _ (hq es e1) (f1.trans f4) w4 (RepV.back h f1 h1 ⟨Rp.lst (cut_some.mpr ⟨no, upd_same⟩) (RpAll.le L _ _ e2), fun _ => ⟨p, ys, es, rfl, rfl, np, upd_same, ?_⟩⟩)
      refine RpAll.le (Le.cut (fun a z => ?_) fun a o' _ t e => same_new hp _ _ (s3 _ _ (hc2 _ _ _ t e))) _ _ e2
      rcases z with z | z
      · exact .inr (z ▸ np)
      · exact .inl z
end
end V3
set_option Elab.async false
set_option linter.all false
set_option maxRecDepth 100000
set_option maxHeartbeats 4000000
/-! isinstance(_law_caught(lambda: a call), X), told by values -/
namespace V3
open PySem PySem.Spec PyProof.Rows L2 G21
/-- what is known of a class of refusals -/
class ExcF (K : PySem.W.Frag) (CS X : Addr) : Prop where
  x : ExcC K X
  kit : PySem.W.kitOne K (.ref X) (.ref X) = some true
  exm : PySem.W.exmOne K (.ref X) (.ref CS) = some true
@[simp] def Sl.frz : Sl → Sl
  | .no => .no
  | .fz (.d x) => .fz (.d x)
  | .fz (.dw xs) => .fz (.dw xs)
  | .fz (.tb f ns) => .fz (.tb f ns)
  | .fz (.ob fs) => .fz (.ob fs)
  | .fz .dr => .no
  | .ow ds => .fz (.d (.list ds))
@[simp] def frzRo : Ro → Ro
  | [] => []
  | s :: ρ => s.frz :: frzRo ρ
theorem frz_get : ∀ (ρ : Ro) (i : Nat), (frzRo ρ)[i]? = (ρ[i]?).map Sl.frz
  | [], i => by simp
  | s :: ρ, 0 => by simp
  | s :: ρ, i + 1 => by simp [frz_get ρ i]
theorem frz_len : ∀ ρ : Ro, (frzRo ρ).length = ρ.length
  | [] => rfl
  | s :: ρ => by simp [frz_len ρ]
@[simp ↓] def mCaught (X : Addr) (me : TE3) : TE3 := fun ρ n q _ => me (frzRo ρ) n (fun _ _ _ => False) (fun c => c = X ∧ q false (.d (.bool true)) n)
theorem frz_ow {s : Sl} {ds : List D} : s.frz ≠ .ow ds := by
  cases s with
  | no => intro z; cases z
  | fz u => cases u <;> (intro z; cases z)
  | ow ds => intro z; cases z
section
variable {K : PySem.W.Frag} {C : Addr} {TL : List (Addr × Str)} {E : XK}
instance (priority := high) {CS X : Addr} {t : XK → TE} {S : List Nat} {me : TE3} [hf : ExcF K CS X] [ht : ∀ E' : XK, LE K C TL E' (t E') S me] : LE K C TL E (tCB (rIsT K) (tCons (LamX.tLam TL (TTc K CS) t) (tCons (tC (.ref X)) tNil))) [] (mCaught X me) where
  s am ρ n σ H hE h Q q hm k := by
    obtain ⟨rfl, rfl, rfl, rfl⟩ := id hE
    refine ⟨h.wd.tabs, fun H1 eN T1 => ?_⟩
    let S0 := List.range ρ.length
    have hd := h.dem S0
    have low : ∀ a, ¬ ∃ i, OwnAt (frzRo ρ) σ i a := fun a ⟨i, ⟨ds, e⟩, _⟩ => by
      rw [frz_get] at e
      cases z : ρ[i]? with
      | none =>
        rw [z] at e
        cases e
      | some s =>
        rw [z] at e
        exact frz_ow (Option.some.inj e)
    let E1 : XK := fun cls d H' => d = none ∧ PySem.W.exmOne am.K cls (.ref CS) = some true ∧ ∀ a, H' a = none → (tCons (tC (.ref X)) tNil) σ (upd H' a (GS.ExT cls a)) (fun xs H2 => rIsT am.K (.ref a :: xs) H2 Q)
    let R1 : RR := { dr := none, hid := am.R.hid }
    let am1 : Am := { am with R := R1, Hs := H1, O0 := fun _ => False, E := E1, e := fun c => c = X ∧ q false (.d (.bool true)) n }
    have st1 : ∀ b o, (∀ ps, o ≠ HO.tbl ps) → H b = some o → H1 b = some o := fun b o z e => eN b o e z
    have w1 : Wd am1.R am1.TL H1 n := {
      hid := fun a z => by
        obtain ⟨o, q1, q2⟩ := h.wd.hid a z
        exact ⟨o, st1 a o q2 q1, q2⟩
      tabs := T1
      dr := fun d g c z => by cases z }
    have lec : Le (cut (Hid am (dem S0 ρ) σ) H) (cut (Hid am1 (frzRo ρ) σ) H1) := Le.cut (fun a z => by
      rcases z with z | z
      · exact .inl (.inl z)
      · exact absurd z (low a)) fun a o _ t e => st1 a o t e
    have r1 : Rl am1 (frzRo ρ) n σ H1 := {
      len := by rw [frz_len, h.len]
      fz := fun i u e => by
        rw [frz_get] at e
        cases z : ρ[i]? with
        | none =>
          rw [z] at e
          cases e
        | some s =>
          rw [z] at e
          have e := Option.some.inj e
          have hi : i ∈ S0 := List.mem_range.mpr (List.getElem?_eq_some_iff.mp z).1
          have ez : (dem S0 ρ)[i]? = some s.fzd := by
            rw [dem_get, z]
            show some (if i ∈ S0 then s.fzd else s) = _
            rw [if_pos hi]
          cases s with
          | no => cases e
          | fz u' =>
            obtain ⟨v, q1, q2⟩ := hd.fz i u' ez
            cases u' with
            | d x =>
              cases e
              exact ⟨v, q1, Rp.le lec _ _ q2⟩
            | dw xs =>
              cases e
              obtain ⟨f, a, dx, t, h1, h2, h3⟩ := q2
              exact ⟨v, q1, f, a, dx, t, h1, lec _ _ (fun ps => by intro z; cases z) h2, Rp.le lec _ _ h3⟩
            | tb f ns =>
              cases e
              obtain ⟨a, kvs, h1, h2, h3⟩ := q2
              exact ⟨v, q1, a, kvs, h1, lec _ _ (fun ps => by intro z; cases z) h2, h3⟩
            | ob fs =>
              cases e
              obtain ⟨f, a, dx, vs, h1, h2, h3⟩ := q2
              exact ⟨v, q1, f, a, dx, vs, h1, lec _ _ (fun ps => by intro z; cases z) h2, h3.le lec⟩
            | dr => cases e
          | ow ds =>
            cases e
            obtain ⟨v, q1, q2⟩ := hd.fz i (.d (.list ds)) ez
            exact ⟨v, q1, Rp.le lec _ _ q2⟩
      ow := fun i ds e => by
        rw [frz_get] at e
        cases z : ρ[i]? with
        | none =>
          rw [z] at e
          cases e
        | some s =>
          rw [z] at e
          exact absurd (Option.some.inj e) frz_ow
      nd := fun i j p a _ => absurd ⟨i, a⟩ (low p)
      od := fun d g c z => by cases z
      gr := ⟨fun b o _ _ e => e, fun b z => z⟩
      wd := w1
      ex := fun c H' n' g w ⟨z, hq⟩ => by
        subst z
        refine ⟨rfl, hf.exm, fun a ha => ?_⟩
        have sm : Same H' (upd H' a (GS.ExT (.ref c) a)) := same_new ha
        refine ⟨a, c, c, true, rfl, hf.x, upd_same, hf.kit, ?_⟩
        have st : ∀ b o, (∀ ps, o ≠ HO.tbl ps) → H b = some o → upd H' a (GS.ExT (.ref c) a) b = some o := fun b o t e => sm _ _ (g.1 b o (fun z => z) t (st1 b o t e))
        have w2 := w.same sm
        refine k false (.d (.bool true)) n (.bl true) _ hq ⟨fun b o _ t e => st b o t e, fun b ⟨o, e, t⟩ => ⟨o, st b o t e, t⟩⟩ ⟨w2.hid, w2.tabs, fun d g' c' z => ?_⟩ (.old (Rp.bl true))
        obtain ⟨a1, a2, a3, t, ht, hD⟩ := h.wd.dr d g' c' z
        refine ⟨a1, a2, a3, t, ht, ?_⟩
        obtain ⟨gs, cs, m, z1, z2, z3, r⟩ := hD
        exact ⟨gs, cs, m, st _ _ (fun ps => by intro z; cases z) z1, st _ _ (fun ps => by intro z; cases z) z2, st _ _ (fun ps => by intro z; cases z) z3, r⟩ }
    exact (ht E1).s am1 (frzRo ρ) n σ H1 ⟨rfl, rfl, rfl, rfl⟩ r1 _ (fun _ _ _ => False) hm fun fr u n' v H' z _ _ _ => z.elim
end
end V3
set_option Elab.async false
set_option linter.all false
set_option maxRecDepth 100000
set_option maxHeartbeats 4000000
/-! isinstance(_law_caught(lambda: f(..)), X), where the arguments may draw -/
namespace V3
open PySem PySem.Spec PyProof.Rows L2 G21
@[simp] def Sl.frd : Sl → Sl
  | .no => .no
  | .fz (.d x) => .fz (.d x)
  | .fz (.dw xs) => .fz (.dw xs)
  | .fz (.tb f ns) => .fz (.tb f ns)
  | .fz (.ob fs) => .fz (.ob fs)
  | .fz .dr => .fz .dr
  | .ow ds => .fz (.d (.list ds))
@[simp] def frdRo : Ro → Ro
  | [] => []
  | s :: ρ => s.frd :: frdRo ρ
theorem frd_get : ∀ (ρ : Ro) (i : Nat), (frdRo ρ)[i]? = (ρ[i]?).map Sl.frd
  | [], i => by simp
  | s :: ρ, 0 => by simp
  | s :: ρ, i + 1 => by simp [frd_get ρ i]
theorem frd_len : ∀ ρ : Ro, (frdRo ρ).length = ρ.length
  | [] => rfl
  | s :: ρ => by simp [frd_len ρ]
theorem frd_ow {s : Sl} {ds : List D} : s.frd ≠ .ow ds := by
  cases s with
  | no => intro z; cases z
  | fz u => cases u <;> (intro z; cases z)
  | ow ds => intro z; cases z
@[simp] def noDr : List U → Bool
  | [] => true
  | .d _ :: us => noDr us
  | .dw _ :: us => noDr us
  | .tb _ _ :: us => noDr us
  | .ob _ :: us => noDr us
  | .dr :: _ => false
theorem rep_noDr {am am2 : Am} (hK : am.K = am2.K) (hC : am.C = am2.C) {O : Addr → Prop} {H : Hp} : ∀ {us : List U} {vs : List V}, noDr us = true → RepA am O H vs us → RepA am2 O H vs us
  | [], _, _, .nil => .nil
  | .d x :: us, _, h, .cons r t => .cons (by
      have r : Rp am.K (cut O H) _ x := r
      show Rp am2.K (cut O H) _ x
      rw [← hK]
      exact r) (rep_noDr hK hC h t)
  | .dw bs :: us, _, h, .cons r t => .cons (by
      obtain ⟨f, a, dx, t, h1, h2, h3⟩ := r
      exact ⟨f, a, dx, t, h1, by rw [← hC]; exact h2, by rw [← hK]; exact h3⟩) (rep_noDr hK hC h t)
  | .tb f ns :: us, _, h, .cons r t => .cons (by
      obtain ⟨a, kvs, h1, h2, h3⟩ := r
      exact ⟨a, kvs, h1, h2, h3⟩) (rep_noDr hK hC h t)
  | .dr :: _, _, h, _ => by cases h
  | .ob fs :: us, _, h, .cons r t => .cons (by
      obtain ⟨f, a, dx, vs, h1, h2, h3⟩ := r
      exact ⟨f, a, dx, vs, h1, by rw [← hC]; exact h2, by rw [← hK]; exact h3⟩) (rep_noDr hK hC h t)
@[simp ↓] def mCaughtC (X : Addr) (sp : VSp) (ma : TA3) : TE3 := fun ρ n q _ => ma (frdRo ρ) n (fun us n1 => noDr us = true ∧ sp us n1 (fun _ _ => False) (fun c => c = X ∧ q false (.d (.bool true)) n1)) (fun _ => False)
section
variable {K : PySem.W.Frag} {C : Addr} {TL : List (Addr × Str)} {E : XK}
instance (priority := high + 1) {CS X : Addr} {ta : XK → TA} {S : List Nat} {ma : TA3} {fr : Bool} {sp : VSp} [hf : ExcF K CS X] [ht : ∀ E' : XK, LA K C TL E' (ta E') S ma] : LE K C TL E (tCB (rIsT K) (tCons (LamX.tLam TL (TTc K CS) (fun E' => tCall (toSp K C TL fr sp) [] E' (ta E'))) (tCons (tC (.ref X)) tNil))) [] (mCaughtC X sp ma) where
  s am ρ n σ H hE h Q q hm k := by
    obtain ⟨rfl, rfl, rfl, rfl⟩ := id hE
    refine ⟨h.wd.tabs, fun H1 eN T1 => ?_⟩
    let S0 := List.range ρ.length
    have hd := h.dem S0
    have low : ∀ a, ¬ ∃ i, OwnAt (frdRo ρ) σ i a := fun a ⟨i, ⟨ds, e⟩, _⟩ => by
      rw [frd_get] at e
      cases z : ρ[i]? with
      | none =>
        rw [z] at e
        cases e
      | some s =>
        rw [z] at e
        exact frd_ow (Option.some.inj e)
    let E1 : XK := fun cls d H' => d = none ∧ PySem.W.exmOne am.K cls (.ref CS) = some true ∧ ∀ a, H' a = none → (tCons (tC (.ref X)) tNil) σ (upd H' a (GS.ExT cls a)) (fun xs H2 => rIsT am.K (.ref a :: xs) H2 Q)
    let am1 : Am := { am with Hs := H1, O0 := fun a => ∃ d g c, am.R.dr = some (d, g, c) ∧ (a = d ∨ a = g), E := E1, e := fun _ => False }
    have st1 : ∀ b o, (∀ ps, o ≠ HO.tbl ps) → H b = some o → H1 b = some o := fun b o z e => eN b o e z
    have w1 : Wd am1.R am1.TL H1 n := {
      hid := fun a z => by
        obtain ⟨o, q1, q2⟩ := h.wd.hid a z
        exact ⟨o, st1 a o q2 q1, q2⟩
      tabs := T1
      dr := fun d g c z => by
        obtain ⟨a1, a2, a3, t, ht, hD⟩ := h.wd.dr d g c z
        refine ⟨a1, a2, a3, t, ht, ?_⟩
        obtain ⟨gs, cs, m, z1, z2, z3, r⟩ := hD
        exact ⟨gs, cs, m, st1 _ _ (fun ps => by intro z; cases z) z1, st1 _ _ (fun ps => by intro z; cases z) z2, st1 _ _ (fun ps => by intro z; cases z) z3, r⟩ }
    have lec : Le (cut (Hid am (dem S0 ρ) σ) H) (cut (Hid am1 (frdRo ρ) σ) H1) := Le.cut (fun a z => by
      rcases z with z | z
      · exact .inl (.inl z)
      · exact absurd z (low a)) fun a o _ t e => st1 a o t e
    have r1 : Rl am1 (frdRo ρ) n σ H1 := {
      len := by rw [frd_len, h.len]
      fz := fun i u e => by
        rw [frd_get] at e
        cases z : ρ[i]? with
        | none =>
          rw [z] at e
          cases e
        | some s =>
          rw [z] at e
          have e := Option.some.inj e
          have hi : i ∈ S0 := List.mem_range.mpr (List.getElem?_eq_some_iff.mp z).1
          have ez : (dem S0 ρ)[i]? = some s.fzd := by
            rw [dem_get, z]
            show some (if i ∈ S0 then s.fzd else s) = _
            rw [if_pos hi]
          cases s with
          | no => cases e
          | fz u' =>
            obtain ⟨v, q1, q2⟩ := hd.fz i u' ez
            cases u' with
            | d x =>
              cases e
              exact ⟨v, q1, Rp.le lec _ _ q2⟩
            | dw xs =>
              cases e
              obtain ⟨f, a, dx, t, h1, h2, h3⟩ := q2
              exact ⟨v, q1, f, a, dx, t, h1, lec _ _ (fun ps => by intro z; cases z) h2, Rp.le lec _ _ h3⟩
            | tb f ns =>
              cases e
              obtain ⟨a, kvs, h1, h2, h3⟩ := q2
              exact ⟨v, q1, a, kvs, h1, lec _ _ (fun ps => by intro z; cases z) h2, h3⟩
            | ob fs =>
              cases e
              obtain ⟨f, a, dx, vs, h1, h2, h3⟩ := q2
              exact ⟨v, q1, f, a, dx, vs, h1, lec _ _ (fun ps => by intro z; cases z) h2, h3.le lec⟩
            | dr =>
              cases e
              exact ⟨v, q1, q2⟩
          | ow ds =>
            cases e
            obtain ⟨v, q1, q2⟩ := hd.fz i (.d (.list ds)) ez
            exact ⟨v, q1, Rp.le lec _ _ q2⟩
      ow := fun i ds e => by
        rw [frd_get] at e
        cases z : ρ[i]? with
        | none =>
          rw [z] at e
          cases e
        | some s =>
          rw [z] at e
          exact absurd (Option.some.inj e) frd_ow
      nd := fun i j p a _ => absurd ⟨i, a⟩ (low p)
      od := fun d g c z => ⟨⟨d, g, c, z, .inl rfl⟩, d, g, c, z, .inr rfl⟩
      gr := ⟨fun b o _ _ e => e, fun b z => z⟩
      wd := w1
      ex := fun c H' n' g w z => z.elim }
    refine (ht E1).s am1 (frdRo ρ) n σ H1 ⟨rfl, rfl, rfl, rfl⟩ r1 _ _ hm fun us n1 vs H2 hq f2 w2 r2 => ?_
    obtain ⟨nd, hsp⟩ := hq
    show toSp am.K am.C am.TL fr sp (vs ++ []) H2 _ E1
    rw [List.append_nil]
    let am2 : Am := { am with R := { dr := none, hid := am.R.hid } }
    have r3 : RepA am1 am.R.hid H2 vs us := r2.le (Le.cutSub fun a z => .inl z)
    refine ⟨am2, us, n1, _, _, rfl, rfl, rfl, rep_noDr (am := am1) (am2 := am2) rfl rfl nd r3, ⟨w2.hid, w2.tabs, fun d g c z => by cases z⟩, hsp, (fun _ _ _ _ z => z.elim), fun c H' n' f w z => ?_⟩
    obtain ⟨z, hq⟩ := z
    subst z
    refine ⟨rfl, hf.exm, fun a ha => ?_⟩
    have sm : Same H' (upd H' a (GS.ExT (.ref c) a)) := same_new ha
    refine ⟨a, c, c, true, rfl, hf.x, upd_same, hf.kit, ?_⟩
    have st2 : ∀ b o, (∀ ps, o ≠ HO.tbl ps) → H2 b = some o → upd H' a (GS.ExT (.ref c) a) b = some o := fun b o t e => sm _ _ (f.1 b o (fun d g c z => by cases z) t e)
    have fr2 : FrR am.R H2 (upd H' a (GS.ExT (.ref c) a)) := ⟨fun b o _ t e => st2 b o t e, fun b ⟨o, e, t⟩ => ⟨o, st2 b o t e, t⟩⟩
    have fr1 : FrR am.R H H1 := ⟨fun b o _ t e => st1 b o t e, fun b ⟨o, e, t⟩ => ⟨o, st1 b o t e, t⟩⟩
    have w4 := w.same sm
    refine k false (.d (.bool true)) n1 (.bl true) _ hq ((fr1.trans f2).trans fr2) ⟨w4.hid, w4.tabs, fun d g' c' z => ?_⟩ (.old (Rp.bl true))
    obtain ⟨a1, a2, a3, t, ht, hD⟩ := w2.dr d g' c' z
    refine ⟨a1, a2, a3, t, ht, ?_⟩
    obtain ⟨gs, cs, m, z1, z2, z3, r⟩ := hD
    exact ⟨gs, cs, m, st2 _ _ (fun ps => by intro z; cases z) z1, st2 _ _ (fun ps => by intro z; cases z) z2, st2 _ _ (fun ps => by intro z; cases z) z3, r⟩
end
end V3
set_option Elab.async false
set_option linter.all false
set_option maxRecDepth 100000
set_option maxHeartbeats 4000000
/-! isinstance(_law_caught(lambda: f(..)), X), where f may come back; isinstance(x, Drawing) of data -/
namespace V3
open PySem PySem.Spec PyProof.Rows L2 G21
@[simp ↓] def mCaughtN (X : Addr) (sp : VSp) (ma : TA3) : TE3 := fun ρ n q _ => ma (frdRo ρ) n (fun us n1 => noDr us = true ∧ sp us n1 (fun _ _ => q false (.d (.bool false)) n1) (fun c => c = X ∧ q false (.d (.bool true)) n1)) (fun _ => False)
class ExcN (K : PySem.W.Frag) (X : Addr) : Prop where
  n : PySem.W.kitOne K (.type "NoneType") (.ref X) = some false
def rIsTU (K : PySem.W.Frag) : List V → Hp → VK → Prop := fun xs H Q => rIsT K xs H Q ∨ rIsi K xs H Q
theorem isTU3 {X : Cx} (K : PySem.W.Frag) (h : X.K = K := by rfl) : CallR X (.builtin "isinstance") (rIsTU K) := by
  subst h
  exact call_or call_isT call_isi
section
variable {K : PySem.W.Frag} {C : Addr} {TL : List (Addr × Str)} {E : XK}
instance (priority := high + 1) {CS X : Addr} {ta : XK → TA} {S : List Nat} {ma : TA3} {fr : Bool} {sp : VSp} [hf : ExcF K CS X] [hn : ExcN K X] [ht : ∀ E' : XK, LA K C TL E' (ta E') S ma] : LE K C TL E (tCB (rIsTU K) (tCons (LamX.tLam TL (TTc K CS) (fun E' => tCall (toSp K C TL fr sp) [] E' (ta E'))) (tCons (tC (.ref X)) tNil))) [] (mCaughtN X sp ma) where
  s am ρ n σ H hE h Q q hm k := by
    obtain ⟨rfl, rfl, rfl, rfl⟩ := id hE
    refine ⟨h.wd.tabs, fun H1 eN T1 => ?_⟩
    let S0 := List.range ρ.length
    have hd := h.dem S0
    have low : ∀ a, ¬ ∃ i, OwnAt (frdRo ρ) σ i a := fun a ⟨i, ⟨ds, e⟩, _⟩ => by
      rw [frd_get] at e
      cases z : ρ[i]? with
      | none =>
        rw [z] at e
        cases e
      | some s =>
        rw [z] at e
        exact frd_ow (Option.some.inj e)
    let E1 : XK := fun cls d H' => d = none ∧ PySem.W.exmOne am.K cls (.ref CS) = some true ∧ ∀ a, H' a = none → (tCons (tC (.ref X)) tNil) σ (upd H' a (GS.ExT cls a)) (fun xs H2 => rIsTU am.K (.ref a :: xs) H2 Q)
    let am1 : Am := { am with Hs := H1, O0 := fun a => ∃ d g c, am.R.dr = some (d, g, c) ∧ (a = d ∨ a = g), E := E1, e := fun _ => False }
    have st1 : ∀ b o, (∀ ps, o ≠ HO.tbl ps) → H b = some o → H1 b = some o := fun b o z e => eN b o e z
    have w1 : Wd am1.R am1.TL H1 n := {
      hid := fun a z => by
        obtain ⟨o, q1, q2⟩ := h.wd.hid a z
        exact ⟨o, st1 a o q2 q1, q2⟩
      tabs := T1
      dr := fun d g c z => by
        obtain ⟨a1, a2, a3, t, ht, hD⟩ := h.wd.dr d g c z
        refine ⟨a1, a2, a3, t, ht, ?_⟩
        obtain ⟨gs, cs, m, z1, z2, z3, r⟩ := hD
        exact ⟨gs, cs, m, st1 _ _ (fun ps => by intro z; cases z) z1, st1 _ _ (fun ps => by intro z; cases z) z2, st1 _ _ (fun ps => by intro z; cases z) z3, r⟩ }
    have lec : Le (cut (Hid am (dem S0 ρ) σ) H) (cut (Hid am1 (frdRo ρ) σ) H1) := Le.cut (fun a z => by
      rcases z with z | z
      · exact .inl (.inl z)
      · exact absurd z (low a)) fun a o _ t e => st1 a o t e
    have r1 : Rl am1 (frdRo ρ) n σ H1 := {
      len := by rw [frd_len, h.len]
      fz := fun i u e => by
        rw [frd_get] at e
        cases z : ρ[i]? with
        | none =>
          rw [z] at e
          cases e
        | some s =>
          rw [z] at e
          have e := Option.some.inj e
          have hi : i ∈ S0 := List.mem_range.mpr (List.getElem?_eq_some_iff.mp z).1
          have ez : (dem S0 ρ)[i]? = some s.fzd := by
            rw [dem_get, z]
            show some (if i ∈ S0 then s.fzd else s) = _
            rw [if_pos hi]
          cases s with
          | no => cases e
          | fz u' =>
            obtain ⟨v, q1, q2⟩ := hd.fz i u' ez
            cases u' with
            | d x =>
              cases e
              exact ⟨v, q1, Rp.le lec _ _ q2⟩
            | dw xs =>
              cases e
              obtain ⟨f, a, dx, t, h1, h2, h3⟩ := q2
              exact ⟨v, q1, f, a, dx, t, h1, lec _ _ (fun ps => by intro z; cases z) h2, Rp.le lec _ _ h3⟩
            | tb f ns =>
              cases e
              obtain ⟨a, kvs, h1, h2, h3⟩ := q2
              exact ⟨v, q1, a, kvs, h1, lec _ _ (fun ps => by intro z; cases z) h2, h3⟩
            | ob fs =>
              cases e
              obtain ⟨f, a, dx, vs, h1, h2, h3⟩ := q2
              exact ⟨v, q1, f, a, dx, vs, h1, lec _ _ (fun ps => by intro z; cases z) h2, h3.le lec⟩
            | dr =>
              cases e
              exact ⟨v, q1, q2⟩
          | ow ds =>
            cases e
            obtain ⟨v, q1, q2⟩ := hd.fz i (.d (.list ds)) ez
            exact ⟨v, q1, Rp.le lec _ _ q2⟩
      ow := fun i ds e => by
        rw [frd_get] at e
        cases z : ρ[i]? with
        | none =>
          rw [z] at e
          cases e
        | some s =>
          rw [z] at e
          exact absurd (Option.some.inj e) frd_ow
      nd := fun i j p a _ => absurd ⟨i, a⟩ (low p)
      od := fun d g c z => ⟨⟨d, g, c, z, .inl rfl⟩, d, g, c, z, .inr rfl⟩
      gr := ⟨fun b o _ _ e => e, fun b z => z⟩
      wd := w1
      ex := fun c H' n' g w z => z.elim }
    refine (ht E1).s am1 (frdRo ρ) n σ H1 ⟨rfl, rfl, rfl, rfl⟩ r1 _ _ hm fun us n1 vs H2 hq f2 w2 r2 => ?_
    obtain ⟨nd, hsp⟩ := hq
    show toSp am.K am.C am.TL fr sp (vs ++ []) H2 _ E1
    rw [List.append_nil]
    let am2 : Am := { am with R := { dr := none, hid := am.R.hid } }
    have r3 : RepA am1 am.R.hid H2 vs us := r2.le (Le.cutSub fun a z => .inl z)
    have fr1 : FrR am.R H H1 := ⟨fun b o _ t e => st1 b o t e, fun b ⟨o, e, t⟩ => ⟨o, st1 b o t e, t⟩⟩
    refine ⟨am2, us, n1, _, _, rfl, rfl, rfl, rep_noDr (am := am1) (am2 := am2) rfl rfl nd r3, ⟨w2.hid, w2.tabs, fun d g c z => by cases z⟩, hsp, (fun u n' v H' hq f w _ => ?_), fun c H' n' f w z => ?_⟩
    · have st2 : ∀ b o, (∀ ps, o ≠ HO.tbl ps) → H2 b = some o → H' b = some o := fun b o t e => f.1 b o (fun d g c z => by cases z) t e
      have fr2 : FrR am.R H2 H' := ⟨fun b o _ t e => st2 b o t e, fun b ⟨o, e, t⟩ => ⟨o, st2 b o t e, t⟩⟩
      refine ⟨V.non, rfl, .inr ⟨.non, .ref X, .type "NoneType", .ref X, false, rfl, .own X, ty_rep (am := am) (O := fun _ => False) (H := H') (x := .none) Rp.non rfl, hn.n, ?_⟩⟩
      refine k false (.d (.bool false)) n1 (.bl false) _ hq ((fr1.trans f2).trans fr2) ⟨w.hid, w.tabs, fun d g' c' z => ?_⟩ (.old (Rp.bl false))
      obtain ⟨a1, a2, a3, t, ht, hD⟩ := w2.dr d g' c' z
      refine ⟨a1, a2, a3, t, ht, ?_⟩
      obtain ⟨gs, cs, m, z1, z2, z3, r⟩ := hD
      exact ⟨gs, cs, m, st2 _ _ (fun ps => by intro z; cases z) z1, st2 _ _ (fun ps => by intro z; cases z) z2, st2 _ _ (fun ps => by intro z; cases z) z3, r⟩
    obtain ⟨z, hq⟩ := z
    subst z
    refine ⟨rfl, hf.exm, fun a ha => ?_⟩
    have sm : Same H' (upd H' a (GS.ExT (.ref c) a)) := same_new ha
    refine .inl ⟨a, c, c, true, rfl, hf.x, upd_same, hf.kit, ?_⟩
    have st2 : ∀ b o, (∀ ps, o ≠ HO.tbl ps) → H2 b = some o → upd H' a (GS.ExT (.ref c) a) b = some o := fun b o t e => sm _ _ (f.1 b o (fun d g c z => by cases z) t e)
    have fr2 : FrR am.R H2 (upd H' a (GS.ExT (.ref c) a)) := ⟨fun b o _ t e => st2 b o t e, fun b ⟨o, e, t⟩ => ⟨o, st2 b o t e, t⟩⟩
    have w4 := w.same sm
    refine k false (.d (.bool true)) n1 (.bl true) _ hq ((fr1.trans f2).trans fr2) ⟨w4.hid, w4.tabs, fun d g' c' z => ?_⟩ (.old (Rp.bl true))
    obtain ⟨a1, a2, a3, t, ht, hD⟩ := w2.dr d g' c' z
    refine ⟨a1, a2, a3, t, ht, ?_⟩
    obtain ⟨gs, cs, m, z1, z2, z3, r⟩ := hD
    exact ⟨gs, cs, m, st2 _ _ (fun ps => by intro z; cases z) z1, st2 _ _ (fun ps => by intro z; cases z) z2, st2 _ _ (fun ps => by intro z; cases z) z3, r⟩
/-! isinstance(x, Drawing), x data too -/
class KnC (K : PySem.W.Frag) (C : Addr) : Prop where
  k : ∀ x : D, (∀ kvs, x ≠ .dict kvs) → PySem.W.kitOne K (.type (pyTy x)) (.ref C) = some false
@[simp ↓] def mIsW2 (me : TE3) : TE3 := fun ρ k q e => me ρ k (fun _ u n1 => match u with
  | .dw _ => q false (.d (.bool true)) n1
  | .ob _ => q false (.d (.bool true)) n1
  | .d (.dict _) => False
  | .d _ => q false (.d (.bool false)) n1
  | _ => False) e
instance (priority := high + 1) {te : TE} {S : List Nat} {me : TE3} [hc : KnC K C] [he : LE K C TL E te S me] : LE K C TL E (tCB (rIsi K) (tCons te (tCons (tC (.ref C)) tNil))) [] (mIsW2 me) where
  s am ρ n σ H hE h Q q hm k := by
    obtain ⟨rfl, rfl, rfl, rfl⟩ := id hE
    refine he.s am ρ n σ H hE h _ _ hm fun fr u n1 v H1 hq f1 w1 r1 => ?_
    match u, hq, r1.1 with
    | .dw bs, hq, r =>
      obtain ⟨_, a, dx, t, rfl, h2, _⟩ := r
      exact ⟨.ref a, .ref am.C, .ref am.C, .ref am.C, true, rfl, .own am.C, am.insT H1 a dx _ (cut_some.mp h2).2, am.kD, k _ _ n1 _ H1 hq f1 w1 (.old (Rp.bl _))⟩
    | .ob fs, hq, r =>
      obtain ⟨_, a, dx, t, rfl, h2, _⟩ := r
      exact ⟨.ref a, .ref am.C, .ref am.C, .ref am.C, true, rfl, .own am.C, am.insT H1 a dx _ (cut_some.mp h2).2, am.kD, k _ _ n1 _ H1 hq f1 w1 (.old (Rp.bl _))⟩
    | .d x, hq, r =>
      have nd : ∀ kvs, x ≠ .dict kvs := fun kvs z => by
        subst z
        exact hq
      have hq2 : q false (.d (.bool false)) n1 := by
        cases x <;> first | exact hq | exact hq.elim
      exact ⟨v, .ref am.C, .type (pyTy x), .ref am.C, false, rfl, .own am.C, ty_rep r (by cases x <;> first | rfl | exact absurd rfl (nd _)), hc.k x nd, k _ _ n1 _ H1 hq2 f1 w1 (.old (Rp.bl _))⟩
end
end V3
set_option Elab.async false
set_option linter.all false
set_option maxRecDepth 100000
set_option maxHeartbeats 4000000
/-! fields of objects of one's own class -/
namespace V3
open PySem PySem.Spec PyProof.Rows L2
/-- the class has no attribute of that name -/
class FieldC (K : PySem.W.Frag) (C : Addr) (f : Str) : Prop where
  n : NoAttr K C f
def askO : U → (List (Str × D) → Prop) → Prop
  | .ob fs, k => k fs
  | _, _ => False
@[simp] theorem askO_s (i : List (Str × D)) (k : List (Str × D) → Prop) : askO (.ob i) k = k i := rfl
def getF (f : Str) (fs : List (Str × D)) : Option D := fs.lookup f
theorem RpFs.get {K : PySem.W.Frag} {H : Hp} {f : Str} {d : D} : ∀ {vs : List (Str × V)} {fs : List (Str × D)}, RpFs K H vs fs → getF f fs = some d → ∃ v, vs.lookup f = some v ∧ Rp K H v d
  | [], [], _, e => by cases e
  | (x, v) :: vs, (y, b) :: fs, ⟨h1, h2, h3⟩, e => by
    subst h1
    unfold getF at e
    rw [List.lookup_cons] at e
    rw [List.lookup_cons]
    cases q : f == x with
    | true =>
      rw [q] at e
      cases e
      exact ⟨v, rfl, h2⟩
    | false =>
      rw [q] at e
      exact RpFs.get h3 e
  | [], _ :: _, h, _ => h.elim
  | _ :: _, [], h, _ => h.elim
section
variable {K : PySem.W.Frag} {C : Addr} {TL : List (Addr × Str)} {E : XK}
@[simp ↓] def mFldO (f : Str) (me : TE3) : TE3 := fun ρ n q e => me ρ n (fun _ u n1 => askO u fun fs => ask (getF f fs) fun d => q false (.d d) n1) e
instance {te : TE} {S : List Nat} {me : TE3} {f : Str} [hf : FieldC K C f] [he : LE K C TL E te S me] : LE K C TL E (tFld K te f) S (mFldO f me) where
  s am ρ n σ H hE h Q q hm k := by
    obtain ⟨rfl, rfl, rfl, rfl⟩ := id hE
    refine he.s am ρ n σ H hE h _ _ hm fun fr u n1 v H1 hq f1 w1 r1 => ?_
    match u, hq, r1.1 with
    | .ob fs, hq, r1 =>
      obtain ⟨d, e, hq⟩ := ask_some hq
      obtain ⟨fl, a, dx, vs, rfl, h2, h3⟩ := r1
      obtain ⟨v, l, r⟩ := h3.get e
      exact ⟨a, am.C, dx, _, v, rfl, (cut_some.mp h2).2, am.cls, hf.n, l, k _ _ n1 _ H1 hq f1 w1 (.old r)⟩
end
end V3
set_option Elab.async false
set_option linter.all false
set_option maxRecDepth 100000
set_option maxHeartbeats 4000000
/-! f == g, f != g of objects -/
namespace V3
open PySem PySem.Spec PyProof.Rows L2 LamX
theorem objEq3 {X : Cx} {P : Program} {w : World} (K : PySem.W.Frag) {mg : Str → Option Value} {base : Heap} {k : Nat} {C f : Addr} {sp : Sp} (Y : GO.EqC P w K mg base k C f sp) (hr : Room k X.A) (hx : Passes CX0 X E0) (h : X.K = K := by rfl) (h1 : X.prog = P := by rfl) (h2 : X.w = w := by rfl) (h3 : X.mg = mg := by rfl) (h4 : X.base = base := by rfl) :
    OpR X (compareOp .Eq) (GO.rObj K C false sp) := by
  subst h h1 h2 h3 h4
  exact GO.op_objEq Y hr hx
theorem objNe3 {X : Cx} {P : Program} {w : World} (K : PySem.W.Frag) {mg : Str → Option Value} {base : Heap} {k : Nat} {C f : Addr} {sp : Sp} (Y : GO.EqC P w K mg base k C f sp) (hr : Room (k + 1) X.A) (hx : Passes CX0 X E0) (h : X.K = K := by rfl) (h1 : X.prog = P := by rfl) (h2 : X.w = w := by rfl) (h3 : X.mg = mg := by rfl) (h4 : X.base = base := by rfl) :
    OpR X (compareOp .NotEq) (GO.rObj K C true sp) := by
  subst h h1 h2 h3 h4
  exact GO.op_objNe Y hr hx
def obOk : List U → Prop
  | [.ob _, .ob _] => True
  | [.ob _, .d (.tuple _)] => True
  | _ => False
section
variable {K : PySem.W.Frag} {C : Addr} {TL : List (Addr × Str)} {E : XK}
@[simp ↓] def mObj (neg : Bool) (sp : VSp) (ma : TA3) : TE3 := fun ρ n q e => ma ρ n (fun us n1 => obOk us ∧ sp us n1 (fun u n2 => ∃ c, u = .d (.bool c) ∧ q false (.d (.bool (if neg = true then !c else c))) n2) (fun _ => False)) e
instance {te tf : TE} {S : List Nat} {ma : TA3} {neg : Bool} {sp : VSp} [ha : LA K C TL E (tCons te (tCons tf tNil)) S ma] : LE K C TL E (tOp (GO.rObj K C neg (toSp K C TL false sp)) te tf) S (mObj neg sp ma) where
  s am ρ n σ H hE h Q q hm k := by
    obtain ⟨rfl, rfl, rfl, rfl⟩ := id hE
    have go := ha.s am ρ n σ H hE h (fun vs H2 => match vs with
      | [x, y] => GO.rObj am.K am.C neg (toSp am.K am.C am.TL false sp) x y H2 Q
      | _ => False) _ hm fun us n1 vs H1 hq f1 w1 r1 => ?_
    · exact go
    obtain ⟨ok, hq⟩ := hq
    have sp1 : ∀ {x y : V}, vs = [x, y] → toSp am.K am.C am.TL false sp [x, y] H1 (fun z H' => ∃ c, z = .bl c ∧ Q (.bl (if neg = true then !c else c)) H') E0 := fun {x y} e => by
      subst e
      refine call_ok (q := fun _ u n2 => ∃ c, u = .d (.bool c) ∧ q false (.d (.bool (if neg = true then !c else c))) n2) h f1 w1 r1 hq (fun fr u n2 v H2 hq2 f2 w2 r2 => ?_) fun C' H' n' f w z => z.elim
      obtain ⟨c, rfl, hq3⟩ := hq2
      have r3 : Rp _ _ v (.bool c) := r2.1
      cases r3
      exact ⟨c, rfl, k _ _ _ _ _ hq3 f2 w2 (.old (Rp.bl _))⟩
    match us, ok, r1 with
    | [.ob fs, .ob gs], _, .cons rx (.cons ry .nil) =>
      have s2 := sp1 rfl
      obtain ⟨_, a, dx, ws, rfl, c1, _⟩ := rx
      obtain ⟨_, b, dy, zs, rfl, c2, _⟩ := ry
      exact ⟨a, dx, ws, rfl, (cut_some.mp c1).2, .inl ⟨b, dy, zs, rfl, (cut_some.mp c2).2⟩, s2⟩
    | [.ob fs, .d (.tuple ds)], _, .cons rx (.cons ry .nil) =>
      have s2 := sp1 rfl
      obtain ⟨_, a, dx, ws, rfl, c1, _⟩ := rx
      cases ry with
      | tup h1 h2 => exact ⟨a, dx, ws, rfl, (cut_some.mp c1).2, .inr ⟨_, _, rfl, SqT.le Le.cutAll h1⟩, s2⟩
end
end V3
set_option Elab.async false
set_option linter.all false
set_option maxRecDepth 100000
set_option maxHeartbeats 4000000
/-! sorted(xs, key = f) by values, with the order told -/
namespace V3
open PySem PySem.Spec PyProof.Rows L2
/-- a tuple's items are its own -/
def SqF (K : PySem.W.Frag) (H : Hp) : Prop := ∀ (a : Addr) (xs ys : List V), SqT K H a xs → SqT K H a ys → xs = ys
def rSortU (P : Program) (w : World) (K : PySem.W.Frag) (mg : Str → Option Value) (base : Heap) (k d : Nat) : List V → List V → Hp → VK → Prop := fun vs zs H Q => SqF K H → GS.rSortK P w K mg base k d vs zs H Q
theorem sortU3 {X : Cx} {P : Program} {w : World} (K : PySem.W.Frag) {mg : Str → Option Value} {base : Heap} {k d : Nat} (hd : 1 ≤ d) (hr : Room (k + 1) X.A) (h : X.K = K := by rfl) (h1 : X.prog = P := by rfl) (h2 : X.w = w := by rfl) (h3 : X.mg = mg := by rfl) (h4 : X.base = base := by rfl) :
    CallRK X (.builtin "sorted") ["key"] (rSortU P w K mg base k d) := by
  intro pins s σ H vs zs us ws Q I r1 r2 z
  exact sortK3 (X := X) K hd hr h h1 h2 h3 h4 pins s σ H vs zs us ws Q I r1 r2 (z fun a xs ys p q => I.tuple_inj (h ▸ p) (h ▸ q))
mutual
/-- no list, no dict, no instance -/
def flat0 : D → Bool
  | .list _ => false
  | .dict _ => false
  | .tuple xs => flat0All xs
  | _ => true
def flat0All : List D → Bool
  | [] => true
  | x :: xs => flat0 x && flat0All xs
end
mutual
theorem rp_one {K : PySem.W.Frag} {H : Hp} (F : SqF K H) : ∀ (d d' : D) (v : V), flat0 d = true → flat0 d' = true → Rp K H v d → Rp K H v d' → d = d'
  | .none, _, _, _, f, h, g => by
    cases h
    cases g
    rfl
  | .bool b, _, _, _, f, h, g => by
    cases h
    cases g
    rfl
  | .int i, _, _, _, f, h, g => by
    cases h
    cases g
    rfl
  | .str x, _, _, _, f, h, g => by
    cases h
    cases g
    rfl
  | .list ds, _, _, e, _, _, _ => by cases e
  | .dict ds, _, _, e, _, _, _ => by cases e
  | .tuple ds, d', _, e, f, h, g => by
    cases h with
    | tup hs ha =>
      cases g with
      | tup gs ga =>
        have z := F _ _ _ hs gs
        subst z
        rw [rp_ones F ds _ _ e f ha ga]
      | _ => cases f
theorem rp_ones {K : PySem.W.Frag} {H : Hp} (F : SqF K H) : ∀ (ds ds' : List D) (vs : List V), flat0All ds = true → flat0All ds' = true → RpAll K H vs ds → RpAll K H vs ds' → ds = ds'
  | [], _, _, _, _, h, g => by
    cases h
    cases g
    rfl
  | d :: ds, ds', _, e, f, h, g => by
    have e2 : (flat0 d && flat0All ds) = true := e
    rw [Bool.and_eq_true] at e2
    cases h with
    | cons h1 h2 =>
      cases g with
      | cons g1 g2 =>
        rename_i d' es'
        have f2 : (flat0 d' && flat0All es') = true := f
        rw [Bool.and_eq_true] at f2
        rw [rp_one F d _ _ e2.1 f2.1 h1 g1, rp_ones F ds _ _ e2.2 f2.2 h2 g2]
end
theorem rp_map {K : PySem.W.Frag} {H : Hp} (F : SqF K H) {kv : V → D} : ∀ {ys : List V} {es : List D}, (∀ v ∈ ys, flat0 (kv v) = true) → (∀ x ∈ es, flat0 x = true) → (∀ v ∈ ys, Rp K H v (kv v)) → RpAll K H ys es → es = ys.map kv
  | _, [], _, _, _, h => by
    cases h
    rfl
  | _, e :: es, a, b, c, h => by
    cases h with
    | cons h1 h2 =>
      rw [List.map_cons, rp_one F e _ _ (b _ List.mem_cons_self) (a _ List.mem_cons_self) h1 (c _ List.mem_cons_self), ← rp_map F (fun v hv => a v (List.mem_cons_of_mem _ hv)) (fun x hx => b x (List.mem_cons_of_mem _ hx)) (fun v hv => c v (List.mem_cons_of_mem _ hv)) h2]
section
variable {K : PySem.W.Frag} {C : Addr} {TL : List (Addr × Str)} {E : XK}
@[simp ↓] def mSortU (P : Program) (w : World) (K : PySem.W.Frag) (mg : Str → Option Value) (base : Heap) (k d : Nat) (qn : Str) (params : Arguments) (body : Expr) (scope : Scope) (me : TE3) : TE3 := fun ρ n q e => me ρ n (fun _ u n1 => askL u fun xs => ∃ (dom : D → Prop) (kz : D → List Int),
  GS.LamRun P w K mg base CX0 k qn params body scope 1 (spKeyD K dom kz) ∧ (∀ x ∈ xs, dom x ∧ (kz x).length = d ∧ isTup x = true ∧ flat0 x = true) ∧ ∀ ys : List D, ys.Perm xs → ys.Pairwise (fun x y => HT.lexLt (kz y) (kz x) = false) → q true (.d (.list ys)) n1) e
open Classical in
instance (priority := high) {P : Program} {w : World} {mg : Str → Option Value} {base : Heap} {k d : Nat} {qn : Str} {params : Arguments} {body : Expr} {scope : Scope} {te : TE} {S : List Nat} {me : TE3} [he : LE K C TL E te S me] :
    LE K C TL E (tCKw (rSortU P w K mg base k d) (tCons te tNil) (tCons (GS.tLamV TL qn params body scope) tNil)) S (mSortU P w K mg base k d qn params body scope me) where
  s am ρ n σ H hE h Q q hm kk := by
    obtain ⟨rfl, rfl, rfl, rfl⟩ := id hE
    refine he.s am ρ n σ H hE h _ _ hm fun fr u n1 v H1 hq f1 w1 r1 => ?_
    have h1 := h.step f1 w1
    obtain ⟨xs, a, vs, rfl, rfl, a1, a2, dom, kz, run, hdom, hq⟩ := askL_rep hq r1.1
    refine ⟨h1.wd.tabs, fun H2 f c' ext tabs hf hc => ?_⟩
    have le12 : Le H1 H2 := fun b o t e => ext b o e t
    have hc2 : ∀ (o : HO), Le H1 (upd H2 f o) := fun o => le12.trans (Le.of (same_new hf))
    have cutle : ∀ (O : Addr → Prop) (o : HO), Le (cut O H1) (cut O (upd H2 f o)) := fun O o => Le.cut (fun a z => .inl z) fun a o' _ t e => hc2 o a o' t e
    let kv : V → D := fun v => if g : ∃ x ∈ xs, Rp am.K (cut (Hid am (dem S ρ) σ) H1) v x then choose g else .none
    have kvs : ∀ v ∈ vs, kv v ∈ xs ∧ Rp am.K (cut (Hid am (dem S ρ) σ) H1) v (kv v) := fun v hv => by
      have g := rp_mem a2 hv
      have e : kv v = choose g := dif_pos g
      rw [e]
      exact ⟨(choose_spec g).1, (choose_spec g).2⟩
    intro F
    refine ⟨a, f, c', qn, params, body, scope, vs, fun v => kz (kv v), spKeyD am.K dom kz, rfl, rfl, SqL.of ?_, fun v hv => ?_, upd_same, same_new hf _ _ hc, run, fun v hv => ?_, fun ys p H3 s3 hp perm srt => ?_⟩
    · exact hc2 _ _ _ (fun ps z => by cases z) (cut_some.mp a1).2
    · obtain ⟨m1, m2⟩ := kvs v hv
      obtain ⟨_, _, it, _⟩ := hdom _ m1
      cases e : kv v with
      | tuple ds =>
        rw [e] at m2
        cases m2
        exact ⟨_, rfl⟩
      | _ =>
        rw [e] at it
        cases it
    · obtain ⟨m1, m2⟩ := kvs v hv
      obtain ⟨d1, d2, _, _⟩ := hdom _ m1
      refine ⟨d2, fun H4 s4 => ⟨v, kv v, rfl, d1, ?_, fun t ht => ⟨t, rfl, same_new ht, upd_same⟩⟩⟩
      exact Rp.le (Le.cutAll.trans ((hc2 _).trans (Le.of s4))) _ _ m2
    · have f4 : FrR am.R H1 (upd H3 p (.lst ys)) := .le ((hc2 _).trans ((Le.of s3).trans (Le.of (same_new hp))))
      have w4 : Wd am.R am.TL (upd H3 p (.lst ys)) n1 := {
        hid := fun a z => ((hc2 _).trans ((Le.of s3).trans (Le.of (same_new hp)))).there (w1.hid a z)
        tabs := (tabs.ext (same_new hf)).ext fun b o e => same_new hp b o (s3 b o e)
        dr := fun d g c q => by
          obtain ⟨b1, b2, b3, t, b4, b5⟩ := w1.dr d g c q
          obtain ⟨gs, cs, m, c1, c2, c3, r⟩ := b5
          have kp := (hc2 (GS.LamO c' qn params body scope f)).trans ((Le.of s3).trans (Le.of (same_new (o := .lst ys) hp)))
          exact ⟨b1, b2, b3, t, b4, gs, cs, m, kp _ _ (fun ps z => by cases z) c1, kp _ _ (fun ps z => by cases z) c2, kp _ _ (fun ps z => by cases z) c3, r⟩ }
      obtain ⟨es, e1, e2⟩ := rp_perm perm a2
      have np : New H1 p := fun ⟨o, q1, q2⟩ => by
        have z := s3 _ _ (hc2 _ _ _ q2 q1)
        rw [hp] at z
        cases z
      have no : ¬ Hid am (dem S ρ) σ p := (h1.dem S).new np
      have L : Le (cut (Hid am (dem S ρ) σ) H1) (cut (Hid am (dem S ρ) σ) (upd H3 p (.lst ys))) := Le.cut (fun a z => .inl z) fun a o' _ t e => same_new hp _ _ (s3 _ _ (hc2 _ _ _ t e))
      have ek : es = ys.map kv := rp_map F (fun v hv => (hdom _ ((kvs v (perm.mem_iff.mp hv)).1)).2.2.2) (fun x hx => (hdom _ (e1.mem_iff.mp hx)).2.2.2) (fun v hv => Rp.le (Le.cutAll.trans (hc2 _)) _ _ (kvs v (perm.mem_iff.mp hv)).2) (RpAll.le (Le.cutAll.trans (hc2 _)) _ _ e2)
      refine kk _ _ n1 _ _ (hq es e1 (by rw [ek]; exact List.pairwise_map.mpr srt)) (f1.trans f4) w4 (RepV.back h f1 h1 ⟨Rp.lst (cut_some.mpr ⟨no, upd_same⟩) (RpAll.le L _ _ e2), fun _ => ⟨p, ys, es, rfl, rfl, np, upd_same, ?_⟩⟩)
      refine RpAll.le (Le.cut (fun a z => ?_) fun a o' _ t e => same_new hp _ _ (s3 _ _ (hc2 _ _ _ t e))) _ _ e2
      rcases z with z | z
      · exact .inr (z ▸ np)
      · exact .inl z
end
end V3
set_option Elab.async false
set_option linter.all false
set_option maxRecDepth 100000
set_option maxHeartbeats 4000000
/-! sorted(xs, key = f) by values, f a def that makes tuples of (truth value, number, truth value, number) -/
namespace V3
open PySem PySem.Spec PyProof.Rows L2
def rSortFU (P : Program) (w : World) (K : PySem.W.Frag) (mg : Str → Option Value) (base : Heap) (k : Nat) : List V → List V → Hp → VK → Prop := fun vs zs H Q => SqF K H → GS.rSortF P w K mg base k vs zs H Q
theorem sortF3 {X : Cx} {P : Program} {w : World} (K : PySem.W.Frag) {mg : Str → Option Value} {base : Heap} {k : Nat} (hr : Room (k + 1) X.A) (h : X.K = K := by rfl) (h1 : X.prog = P := by rfl) (h2 : X.w = w := by rfl) (h3 : X.mg = mg := by rfl) (h4 : X.base = base := by rfl) :
    CallRK X (.builtin "sorted") ["key"] (rSortFU P w K mg base k) := by
  intro pins s σ H vs zs us ws Q I r1 r2 z
  have cr : CallRK X (.builtin "sorted") ["key"] (GS.rSortF P w K mg base k) := h ▸ h1 ▸ h2 ▸ h3 ▸ h4 ▸ GS.cr_sortF hr
  exact cr pins s σ H vs zs us ws Q I r1 r2 (z fun a xs ys p q => I.tuple_inj (h ▸ p) (h ▸ q))
def spKeyF (K : PySem.W.Frag) (dom : D → Prop) (kz : D → GS.K4) : Sp := fun vs H Q _ => ∃ (v : V) (x : D), vs = [v] ∧ dom x ∧ Rp K H v x ∧ ∀ t, H t = none → Q (.ref t) (upd H t (.tup (GS.kV (kz x))))
class KeyF (P : Program) (w : World) (K : PySem.W.Frag) (mg : Str → Option Value) (base : Heap) (k : Nat) (f : Addr) (dom : outParam (D → Prop)) (kz : outParam (D → GS.K4)) : Prop where
  ok : ∃ (fd : FuncData) (x : Str), FnOk P w K mg base CX0 k f fd [x] (spKeyF K dom kz) ∧ Binds K fd [x] []
section
variable {K : PySem.W.Frag} {C : Addr} {TL : List (Addr × Str)} {E : XK}
@[simp ↓] def mSortF (dom : D → Prop) (kz : D → GS.K4) (me : TE3) : TE3 := fun ρ n q e => me ρ n (fun _ u n1 => askL u fun xs => (∀ x ∈ xs, dom x ∧ isTup x = true ∧ flat0 x = true) ∧ ∀ ys : List D, ys.Perm xs → ys.Pairwise (fun x y => GS.ltK (kz y) (kz x) = false) → q true (.d (.list ys)) n1) e
open Classical in
instance (priority := high) {P : Program} {w : World} {mg : Str → Option Value} {base : Heap} {k : Nat} {f : Addr} {dom : D → Prop} {kz : D → GS.K4} {te : TE} {S : List Nat} {me : TE3} [hf : KeyF P w K mg base k f dom kz] [he : LE K C TL E te S me] :
    LE K C TL E (tCKw (rSortFU P w K mg base k) (tCons te tNil) (tCons (tC (.ref f)) tNil)) S (mSortF dom kz me) where
  s am ρ n σ H hE h Q q hm kk := by
    obtain ⟨rfl, rfl, rfl, rfl⟩ := id hE
    refine he.s am ρ n σ H hE h _ _ hm fun fr u n1 v H1 hq f1 w1 r1 => ?_
    have h1 := h.step f1 w1
    obtain ⟨xs, a, vs, rfl, rfl, a1, a2, hdom, hq⟩ := askL_rep hq r1.1
    obtain ⟨fd, px, run, bnd⟩ := hf.ok
    let kv : V → D := fun v => if g : ∃ x ∈ xs, Rp am.K (cut (Hid am (dem S ρ) σ) H1) v x then choose g else .none
    have kvs : ∀ v ∈ vs, kv v ∈ xs ∧ Rp am.K (cut (Hid am (dem S ρ) σ) H1) v (kv v) := fun v hv => by
      have g := rp_mem a2 hv
      have e : kv v = choose g := dif_pos g
      rw [e]
      exact ⟨(choose_spec g).1, (choose_spec g).2⟩
    intro F
    refine ⟨a, f, fd, px, vs, fun v => kz (kv v), spKeyF am.K dom kz, rfl, rfl, SqL.of (cut_some.mp a1).2, fun v hv => ?_, run, bnd, fun v hv H4 s4 => ?_, fun ys p H3 s3 hp perm srt => ?_⟩
    · obtain ⟨m1, m2⟩ := kvs v hv
      obtain ⟨_, it, _⟩ := hdom _ m1
      cases e : kv v with
      | tuple ds =>
        rw [e] at m2
        cases m2
        exact ⟨_, rfl⟩
      | _ =>
        rw [e] at it
        cases it
    · obtain ⟨m1, m2⟩ := kvs v hv
      obtain ⟨d1, _, _⟩ := hdom _ m1
      exact ⟨v, kv v, rfl, d1, Rp.le (Le.cutAll.trans (Le.of s4)) _ _ m2, fun t ht => ⟨t, rfl, same_new ht, upd_same⟩⟩
    · have f4 : FrR am.R H1 (upd H3 p (.lst ys)) := .le ((Le.of s3).trans (Le.of (same_new hp)))
      have w4 : Wd am.R am.TL (upd H3 p (.lst ys)) n1 := w1.same (fun b o e => same_new hp b o (s3 b o e))
      obtain ⟨es, e1, e2⟩ := rp_perm perm a2
      have np : New H1 p := fun ⟨o, q1, q2⟩ => by
        have z := s3 _ _ q1
        rw [hp] at z
        cases z
      have no : ¬ Hid am (dem S ρ) σ p := (h1.dem S).new np
      have L : Le (cut (Hid am (dem S ρ) σ) H1) (cut (Hid am (dem S ρ) σ) (upd H3 p (.lst ys))) := Le.cut (fun a z => .inl z) fun a o' _ t e => same_new hp _ _ (s3 _ _ e)
      have ek : es = ys.map kv := rp_map F (fun v hv => (hdom _ ((kvs v (perm.mem_iff.mp hv)).1)).2.2) (fun x hx => (hdom _ (e1.mem_iff.mp hx)).2.2) (fun v hv => Rp.le Le.cutAll _ _ (kvs v (perm.mem_iff.mp hv)).2) (RpAll.le Le.cutAll _ _ e2)
      refine kk _ _ n1 _ _ (hq es e1 (by rw [ek]; exact List.pairwise_map.mpr srt)) (f1.trans f4) w4 (RepV.back h f1 h1 ⟨Rp.lst (cut_some.mpr ⟨no, upd_same⟩) (RpAll.le L _ _ e2), fun _ => ⟨p, ys, es, rfl, rfl, np, upd_same, ?_⟩⟩)
      refine RpAll.le (Le.cut (fun a z => ?_) fun a o' _ t e => same_new hp _ _ (s3 _ _ e)) _ _ e2
      rcases z with z | z
      · exact .inr (z ▸ np)
      · exact .inl z
end
end V3
set_option Elab.async false
set_option linter.all false
set_option maxRecDepth 100000
set_option maxHeartbeats 4000000
/-! for x in reversed(xs); tuple(reversed(xs)), xs a list -/
namespace V3
open PySem PySem.Spec PyProof.Rows L2
section
variable {X : Cx}
theorem rev3 (K : PySem.W.Frag) {tg e : Expr} {te : TE} {p pos : Pos} (hg : Gl X "reversed") (hm : X.mg "reversed" = none) (he : PE X e te) (h : X.K = K := by rfl) (hs : starEach [e] X.env = (false, eval e X.env) :: starEach [] X.env := by rfl) : PI X tg (.Call (.Name "reversed" p) [e] [] pos) (RT.iRevA K te) := h ▸ RT.pi_revA hg hm he hs
theorem tupRev3 (K : PySem.W.Frag) {e : Expr} {te : TE} {p p2 pos pos2 : Pos} (hc : X.calm = true) (hg : Gl X "tuple") (hm : X.mg "tuple" = none) (hg2 : Gl X "reversed") (hm2 : X.mg "reversed" = none) (he : PE X e te) (h : X.K = K := by rfl)
    (hs : starEach [e] X.env = (false, eval e X.env) :: starEach [] X.env := by rfl)
    (hs2 : starEach [.Call (.Name "reversed" p2) [e] [] pos2] X.env = (false, eval (.Call (.Name "reversed" p2) [e] [] pos2) X.env) :: starEach [] X.env := by rfl) :
    PE X (.Call (.Name "tuple" p) [.Call (.Name "reversed" p2) [e] [] pos2] [] pos) (RT.tTupRev K te) := h ▸ RT.pe_tupRev hc hg hm hg2 hm2 he hs hs2
end
section
variable {K : PySem.W.Frag} {C : Addr} {TL : List (Addr × Str)} {E : XK}
theorem it_rev {am : Am} {O : Addr → Prop} {a : Addr} {vs : List V} {ds : List D} {H : Hp} (h : cut O H a = some (.lst vs)) (r : RpAll am.K (cut O H) vs ds) : ItOk am O (Itv am.K a vs.length) ds.reverse H := fun H2 O2 le _ i => by
  have h2 := (cut_some.mp (le _ _ (fun ps z => by cases z) h)).2
  have r2 := RpAll.le le _ _ r
  have hl : vs.length = ds.length := RpAll.len r
  refine ⟨fun d e => ?_, fun e => by rw [List.length_reverse] at e; show vs.length ≤ i; omega⟩
  have hi : i < ds.length := by
    have := (List.getElem?_eq_some_iff.mp e).1
    rwa [List.length_reverse] at this
  rw [List.getElem?_reverse hi] at e
  obtain ⟨v, q1, q2⟩ := RpAll.get r2 e
  rw [← hl] at q1
  refine ⟨⟨by omega, vs, v, SqL.of h2, q1⟩, fun x H3 y => ?_⟩
  obtain ⟨rfl, y2⟩ := y
  have e3 := y2 vs (SqL.of h2)
  rw [q1] at e3
  cases e3
  exact ⟨Same.refl _, q2⟩
theorem it_revT {am : Am} {O : Addr → Prop} {a : Addr} {vs : List V} {ds : List D} {H : Hp} (h : SqT am.K (cut O H) a vs) (r : RpAll am.K (cut O H) vs ds) : ItOk am O (RT.ItvT am.K a vs.length) ds.reverse H := fun H2 O2 le _ i => by
  have h2 := SqT.le Le.cutAll (SqT.le le h)
  have r2 := RpAll.le le _ _ r
  have hl : vs.length = ds.length := RpAll.len r
  refine ⟨fun d e => ?_, fun e => by rw [List.length_reverse] at e; show vs.length ≤ i; omega⟩
  have hi : i < ds.length := by
    have := (List.getElem?_eq_some_iff.mp e).1
    rwa [List.length_reverse] at this
  rw [List.getElem?_reverse hi] at e
  obtain ⟨v, q1, q2⟩ := RpAll.get r2 e
  rw [← hl] at q1
  refine ⟨⟨by omega, vs, v, h2, q1⟩, fun x H3 y => ?_⟩
  obtain ⟨rfl, y2⟩ := y
  have e3 := y2 vs h2
  rw [q1] at e3
  cases e3
  exact ⟨Same.refl _, q2⟩
@[simp ↓] def mIRev (me : TE3) : TI3 := fun ρ n q e => me ρ n (fun _ u n1 => askS u fun ds => q ds.reverse n1) e
instance {te : TE} {S : List Nat} {me : TE3} [he : LE K C TL E te S me] : LI K C TL E (RT.iRevA K te) S (mIRev me) where
  s am ρ n σ H hE h R q hm k := by
    obtain ⟨rfl, rfl, rfl, rfl⟩ := id hE
    refine he.s am ρ n σ H hE h _ _ hm fun fr u n1 v H1 hq f1 w1 r1 => ?_
    match u, hq, r1.1 with
    | .d (.list ds), hq, r =>
      cases r with
      | lst a1 a2 => exact ⟨_, _, rfl, .inl ⟨SqL.of (cut_some.mp a1).2, k _ n1 _ H1 hq f1 w1 (it_rev a1 a2)⟩⟩
    | .d (.tuple ds), hq, r =>
      cases r with
      | tup a1 a2 => exact ⟨_, _, rfl, .inr ⟨SqT.le Le.cutAll a1, k _ n1 _ H1 hq f1 w1 (it_revT a1 a2)⟩⟩
@[simp ↓] def mTupRev (me : TE3) : TE3 := fun ρ n q e => me ρ n (fun _ u n1 => askL u fun xs => q false (.d (.tuple xs.reverse)) n1) e
instance {te : TE} {S : List Nat} {me : TE3} [he : LE K C TL E te S me] : LE K C TL E (RT.tTupRev K te) S (mTupRev me) where
  s am ρ n σ H hE h Q q hm k := by
    obtain ⟨rfl, rfl, rfl, rfl⟩ := id hE
    refine he.s am ρ n σ H hE h _ _ hm fun fr u n1 v H1 hq f1 w1 r1 => ?_
    have h1 := h.step f1 w1
    obtain ⟨xs, a, vs, rfl, rfl, a1, a2, hq⟩ := askL_rep hq r1.1
    refine ⟨_, _, rfl, SqL.of (cut_some.mp a1).2, fun p hp => ?_⟩
    obtain ⟨f2, w2⟩ := fresh_step h1 hp (.tup vs.reverse)
    exact k _ _ n1 _ _ hq (f1.trans f2) w2 (.old (Rp.tup (SqT.of (cut_new h1 S hp _)) (RpAll.le (cut_grow hp _) _ _ (RpAll.rev a2))))
end
end V3
set_option Elab.async false
set_option linter.all false
set_option maxRecDepth 100000
set_option maxHeartbeats 4000000
/-! xs[k] = a number, of a list of one's own -/
namespace V3
open PySem PySem.Spec PyProof.Rows L2
section
variable {K : PySem.W.Frag} {C : Addr} {TL : List (Addr × Str)} {E : XK}
@[simp ↓] def mPut (i : Nat) (me mk : TE3) : TS3 := fun F ρ n e => me ρ n (fun _ u n1 => askI u fun z => ask (owAt ρ i) fun ds => mk ρ n1 (fun _ w n2 => askI w fun k => ask (ixN ds.length k) fun j => F.nx (ρ.set i (.ow (ds.set j (.int z)))) n2) e) e
instance {te tk : TE} {i : Nat} {S S2 : List Nat} {me mk : TE3} [he : LE K C TL E te S me] [hk : LE K C TL E tk S2 mk] : LS K C TL E (tAsg te (gSub (tVar i) tk rSetL)) (mPut i me mk) where
  s am ρ n σ H D F hE h en hm := by
    obtain ⟨rfl, rfl, rfl, rfl⟩ := id hE
    refine he.s am ρ n σ H hE h _ _ hm fun fr u n1 v H1 hq f1 w1 r1 => ?_
    have h1 := h.step f1 w1
    match u, hq, r1.1 with
    | .d (.int z), hq, r =>
      cases r
      obtain ⟨ds, e, hq⟩ := ask_some hq
      have hi := owAt_eq e
      obtain ⟨p, vs, q1, q2, q3, q4⟩ := h1.ow i ds hi
      refine ⟨.ref p, q1, hk.s am ρ n1 σ H1 hE h1 _ _ hq fun fr2 u2 n2 v2 H2 hq2 f2 w2 r2 => ?_⟩
      have h2 := h1.step f2 w2
      match u2, hq2, r2.1 with
      | .d (.int k), hq2, r =>
        cases r
        obtain ⟨j, ej, hq2⟩ := ask_some hq2
        have e1 := h1.keepOw f2 ⟨⟨ds, hi⟩, q1⟩ q3
        have r4 := RpAll.le (h1.cutLe0 f2) _ _ q4
        exact ⟨p, vs, k, j, rfl, rfl, e1, by rw [RpAll.len r4]; exact ej, en.nx _ n2 σ _ hq2 (h2.write hi q1 (RpAll.put (Rp.int _) j r4))⟩
end
end V3
set_option Elab.async false
set_option linter.all false
set_option maxRecDepth 100000
set_option maxHeartbeats 4000000
/-! instances as data: fields, isinstance, ==, * -/
namespace V3
open PySem PySem.Spec PyProof.Rows L2 LamX
/-- an instance as data -/
def obJ (C : Addr) (fs : List (Str × D)) : D := obD C fs
theorem fsD_inj : ∀ {fs gs : List (Str × D)}, fsD fs = fsD gs → fs = gs
  | [], [], _ => rfl
  | [], _ :: _, e => by cases e
  | _ :: _, [], e => by cases e
  | (x, d) :: fs, (y, b) :: gs, e => by
    have e : (PyData.str x, d) :: fsD fs = (PyData.str y, b) :: fsD gs := e
    obtain ⟨h1, h2⟩ := List.cons.inj e
    obtain ⟨h3, h4⟩ := Prod.mk.inj h1
    cases h3
    cases h4
    rw [fsD_inj h2]
@[simp] theorem obJ_inj {C C' : Addr} {fs gs : List (Str × D)} : obJ C fs = obJ C' gs ↔ C = C' ∧ fs = gs := by
  constructor
  · intro e
    have e : PyData.dict ((.none, .int (C : Nat)) :: fsD fs) = .dict ((.none, .int (C' : Nat)) :: fsD gs) := e
    injection e with e
    obtain ⟨h1, h2⟩ := List.cons.inj e
    obtain ⟨_, h3⟩ := Prod.mk.inj h1
    injection h3 with h3
    exact ⟨Int.ofNat.inj h3, fsD_inj h2⟩
  · rintro ⟨rfl, rfl⟩
    rfl
@[simp] theorem obJ_t {C : Addr} {fs : List (Str × D)} {xs : List D} : obJ C fs = .tuple xs ↔ False := ⟨(fun z => by cases z), False.elim⟩
@[simp] theorem obJ_l {C : Addr} {fs : List (Str × D)} {xs : List D} : obJ C fs = .list xs ↔ False := ⟨(fun z => by cases z), False.elim⟩
@[simp] theorem obJ_i {C : Addr} {fs : List (Str × D)} {i : Int} : obJ C fs = .int i ↔ False := ⟨(fun z => by cases z), False.elim⟩
@[simp] theorem obJ_b {C : Addr} {fs : List (Str × D)} {i : Bool} : obJ C fs = .bool i ↔ False := ⟨(fun z => by cases z), False.elim⟩
@[simp] theorem obJ_n {C : Addr} {fs : List (Str × D)} : obJ C fs = .none ↔ False := ⟨(fun z => by cases z), False.elim⟩
@[simp] theorem t_obJ {C : Addr} {fs : List (Str × D)} {xs : List D} : .tuple xs = obJ C fs ↔ False := ⟨(fun z => by cases z), False.elim⟩
@[simp] theorem l_obJ {C : Addr} {fs : List (Str × D)} {xs : List D} : .list xs = obJ C fs ↔ False := ⟨(fun z => by cases z), False.elim⟩
@[simp] theorem i_obJ {C : Addr} {fs : List (Str × D)} {i : Int} : .int i = obJ C fs ↔ False := ⟨(fun z => by cases z), False.elim⟩
@[simp] theorem b_obJ {C : Addr} {fs : List (Str × D)} {i : Bool} : .bool i = obJ C fs ↔ False := ⟨(fun z => by cases z), False.elim⟩
@[simp] theorem n_obJ {C : Addr} {fs : List (Str × D)} : .none = obJ C fs ↔ False := ⟨(fun z => by cases z), False.elim⟩
@[simp] theorem isTy_ob {n : String} {C : Addr} {fs : List (Str × D)} : isTy n (obJ C fs) = false := by
  show (n == "dict" && false) = false
  rw [Bool.and_false]
theorem flatKs_fs : ∀ fs : List (Str × D), flatKs (fsD fs) = flatFs fs
  | [] => rfl
  | (x, d) :: fs => by
    show (flat d && flatKs (fsD fs)) = (flat d && flatFs fs)
    rw [flatKs_fs fs]
@[simp] theorem flat_ob {C : Addr} {fs : List (Str × D)} : flat (obJ C fs) = flatFs fs := by
  show (true && flatKs (fsD fs)) = flatFs fs
  rw [Bool.true_and, flatKs_fs]
theorem ks_fs {K : PySem.W.Frag} {H : Hp} : ∀ {vs : List (Str × V)} {fs : List (Str × D)}, RpKs K H vs (fsD fs) → RpFs K H vs fs
  | [], [], _ => trivial
  | (x, v) :: vs, (y, d) :: fs, h => by
    have h : RpKs K H ((x, v) :: vs) ((PyData.str y, d) :: fsD fs) := h
    cases h with
    | cons h1 h2 => exact ⟨rfl, h1, ks_fs h2⟩
  | [], (y, d) :: fs, h => by
    have h : RpKs K H [] ((PyData.str y, d) :: fsD fs) := h
    cases h
  | (x, v) :: vs, [], h => by
    have h : RpKs K H ((x, v) :: vs) [] := h
    cases h
theorem fs_ks {K : PySem.W.Frag} {H : Hp} : ∀ {vs : List (Str × V)} {fs : List (Str × D)}, RpFs K H vs fs → RpKs K H vs (fsD fs)
  | [], [], _ => .nil
  | (x, v) :: vs, (y, d) :: fs, ⟨h1, h2, h3⟩ => by
    subst h1
    exact RpKs.cons h2 (fs_ks h3)
  | [], _ :: _, h => h.elim
  | _ :: _, [], h => h.elim
theorem rp_ob {K : PySem.W.Frag} {H : Hp} {v : V} {C : Addr} {fs : List (Str × D)} (h : Rp K H v (obJ C fs)) : ∃ a dx vs, v = .ref a ∧ OwnC K C ∧ H a = some (.ins C dx vs) ∧ RpFs K H vs fs := by
  have h : Rp K H v (.dict ((.none, .int (C : Nat)) :: fsD fs)) := h
  generalize e : PyData.dict ((.none, .int (C : Nat)) :: fsD fs) = x at h
  cases h with
  | ob c h1 h2 =>
    injection e with e
    obtain ⟨e1, e2⟩ := List.cons.inj e
    obtain ⟨_, e3⟩ := Prod.mk.inj e1
    injection e3 with e3
    cases Int.ofNat.inj e3
    subst e2
    exact ⟨_, _, _, rfl, c, h1, ks_fs h2⟩
  | _ => cases e
theorem ob_rp {K : PySem.W.Frag} {H : Hp} {a C dx : Addr} {vs : List (Str × V)} {fs : List (Str × D)} (c : OwnC K C) (h : H a = some (.ins C dx vs)) (r : RpFs K H vs fs) : Rp K H (.ref a) (obJ C fs) := Rp.ob c h (fs_ks r)
/-- what isinstance(x, C) goes by -/
def obOf (C : Addr) : D → Bool
  | .dict ((.none, .int c) :: _) => decide (c = (C : Nat))
  | _ => false
@[simp] theorem obOf_ob {C C' : Addr} {fs : List (Str × D)} : obOf C (obJ C' fs) = decide (C' = C) := by
  show decide (((C' : Nat) : Int) = (C : Nat)) = decide (C' = C)
  rw [Bool.eq_iff_iff, decide_eq_true_iff, decide_eq_true_iff]
  exact ⟨fun z => Int.ofNat.inj z, fun z => by rw [z]⟩
@[simp] theorem obOf_t {C : Addr} {xs : List D} : obOf C (.tuple xs) = false := rfl
@[simp] theorem obOf_l {C : Addr} {xs : List D} : obOf C (.list xs) = false := rfl
@[simp] theorem obOf_i {C : Addr} {i : Int} : obOf C (.int i) = false := rfl
@[simp] theorem obOf_b {C : Addr} {i : Bool} : obOf C (.bool i) = false := rfl
@[simp] theorem obOf_s {C : Addr} {i : Str} : obOf C (.str i) = false := rfl
@[simp] theorem obOf_n {C : Addr} : obOf C .none = false := rfl
@[simp] theorem noOb_ob {C : Addr} {fs : List (Str × D)} : noOb (obJ C fs) = false := rfl
@[simp] theorem noOb_t {xs : List D} : noOb (.tuple xs) = true := rfl
@[simp] theorem noOb_l {xs : List D} : noOb (.list xs) = true := rfl
@[simp] theorem noOb_i {i : Int} : noOb (.int i) = true := rfl
@[simp] theorem noOb_b {i : Bool} : noOb (.bool i) = true := rfl
@[simp] theorem noOb_s {i : Str} : noOb (.str i) = true := rfl
@[simp] theorem noOb_n : noOb .none = true := rfl
theorem obOf_no {C : Addr} : ∀ {x : D}, noOb x = true → obOf C x = false
  | .none, _ => rfl
  | .bool _, _ => rfl
  | .int _, _ => rfl
  | .str _, _ => rfl
  | .list _, _ => rfl
  | .tuple _, _ => rfl
  | .dict [], _ => rfl
  | .dict ((.bool _, _) :: _), _ => rfl
  | .dict ((.int _, _) :: _), _ => rfl
  | .dict ((.str _, _) :: _), _ => rfl
  | .dict ((.list _, _) :: _), _ => rfl
  | .dict ((.tuple _, _) :: _), _ => rfl
  | .dict ((.dict _, _) :: _), _ => rfl
/-- what isinstance asks of a class -/
class IsC (K : PySem.W.Frag) (C : Addr) : Prop where
  own : OwnC K C
  self : PySem.W.kitOne K (.ref C) (.ref C) = some true
  k : ∀ x : D, noOb x = true → PySem.W.kitOne K (.type (pyTy x)) (.ref C) = some false
section
variable {K : PySem.W.Frag} {C : Addr} {TL : List (Addr × Str)} {E : XK}
def askJ (u : U) (k : Addr → List (Str × D) → Prop) : Prop := ∃ (C' : Addr) (fs : List (Str × D)), u = .d (obJ C' fs) ∧ k C' fs
@[simp] theorem askJ_s (C' : Addr) (fs : List (Str × D)) (k : Addr → List (Str × D) → Prop) : askJ (.d (obJ C' fs)) k = k C' fs := by
  apply propext
  constructor
  · rintro ⟨C2, gs, e, h⟩
    injection e with e
    obtain ⟨rfl, rfl⟩ := obJ_inj.mp e
    exact h
  · exact fun h => ⟨_, _, rfl, h⟩
@[simp ↓] def mFldD (K : PySem.W.Frag) (f : Str) (me : TE3) : TE3 := fun ρ n q e => me ρ n (fun _ u n1 => askJ u fun C' fs => NoAttr K C' f ∧ ask (getF f fs) fun d => q false (.d d) n1) e
instance (priority := high + 2) {te : TE} {S : List Nat} {me : TE3} {f : Str} [he : LE K C TL E te S me] : LE K C TL E (tFld K te f) S (mFldD K f me) where
  s am ρ n σ H hE h Q q hm k := by
    obtain ⟨rfl, rfl, rfl, rfl⟩ := id hE
    refine he.s am ρ n σ H hE h _ _ hm fun fr u n1 v H1 hq f1 w1 r1 => ?_
    obtain ⟨C', fs, rfl, hn, hq⟩ := hq
    obtain ⟨d, e, hq⟩ := ask_some hq
    obtain ⟨a, dx, vs, rfl, c, h2, h3⟩ := rp_ob r1.1
    obtain ⟨v, l, r⟩ := h3.get e
    exact ⟨a, C', dx, _, v, rfl, (cut_some.mp h2).2, c.cls, hn, l, k _ _ n1 _ H1 hq f1 w1 (.old r)⟩
@[simp ↓] def mIsD (C' : Addr) (me : TE3) : TE3 := fun ρ k q e => me ρ k (fun _ u n1 => askD u fun x => (noOb x = true ∨ obOf C' x = true) ∧ q false (.d (.bool (obOf C' x))) n1) e
instance (priority := high + 2) {te : TE} {S : List Nat} {me : TE3} {C' : Addr} [hc : IsC K C'] [he : LE K C TL E te S me] : LE K C TL E (tCB (rIsi K) (tCons te (tCons (tC (.ref C')) tNil))) [] (mIsD C' me) where
  s am ρ n σ H hE h Q q hm k := by
    obtain ⟨rfl, rfl, rfl, rfl⟩ := id hE
    refine he.s am ρ n σ H hE h _ _ hm fun fr u n1 v H1 hq f1 w1 r1 => ?_
    match u, hq, r1.1 with
    | .d x, hq, r =>
      obtain ⟨hx, hq⟩ := hq
      cases ho : noOb x with
      | true =>
        have e : obOf C' x = false := obOf_no ho
        rw [e] at hq
        exact ⟨v, .ref C', .type (pyTy x), .ref C', false, rfl, .own C', ty_rep r ho, hc.k x ho, k _ _ n1 _ H1 hq f1 w1 (.old (Rp.bl _))⟩
      | false =>
        obtain ⟨a, C2, dx, vs, fs, rfl, rfl, c, q1, q2⟩ := ob_rep r ho
        have e : obOf C' (.dict ((.none, .int (C2 : Nat)) :: fs)) = true := by
          rcases hx with z | z
          · rw [ho] at z
            cases z
          · exact z
        have e2 : C2 = C' := by
          have z : decide (((C2 : Nat) : Int) = (C' : Nat)) = true := e
          exact Int.ofNat.inj (of_decide_eq_true z)
        subst e2
        rw [e] at hq
        exact ⟨.ref a, .ref C2, .ref C2, .ref C2, true, rfl, .own C2, c.insT H1 a dx _ (cut_some.mp q1).2, hc.self, k _ _ n1 _ H1 hq f1 w1 (.old (Rp.bl _))⟩
/-! own == of data -/
def obOkD (C : Addr) (us : List U) : Prop := (∃ fs gs, us = [.d (obJ C fs), .d (obJ C gs)]) ∨ ∃ fs xs, us = [.d (obJ C fs), .d (.tuple xs)]
@[simp] theorem obOkD_o {C : Addr} {fs gs : List (Str × D)} : obOkD C [.d (obJ C fs), .d (obJ C gs)] = True := eq_true (.inl ⟨_, _, rfl⟩)
@[simp] theorem obOkD_t {C : Addr} {fs : List (Str × D)} {xs : List D} : obOkD C [.d (obJ C fs), .d (.tuple xs)] = True := eq_true (.inr ⟨_, _, rfl⟩)
@[simp ↓] def mObjD (C' : Addr) (neg : Bool) (sp : VSp) (ma : TA3) : TE3 := fun ρ n q e => ma ρ n (fun us n1 => obOkD C' us ∧ sp us n1 (fun u n2 => ∃ c, u = .d (.bool c) ∧ q false (.d (.bool (if neg = true then !c else c))) n2) (fun _ => False)) e
instance (priority := high) {te tf : TE} {S : List Nat} {ma : TA3} {neg : Bool} {sp : VSp} {C' : Addr} [ha : LA K C TL E (tCons te (tCons tf tNil)) S ma] : LE K C TL E (tOp (GO.rObj K C' neg (toSp K C TL false sp)) te tf) S (mObjD C' neg sp ma) where
  s am ρ n σ H hE h Q q hm k := by
    obtain ⟨rfl, rfl, rfl, rfl⟩ := id hE
    have go := ha.s am ρ n σ H hE h (fun vs H2 => match vs with
      | [x, y] => GO.rObj am.K C' neg (toSp am.K am.C am.TL false sp) x y H2 Q
      | _ => False) _ hm fun us n1 vs H1 hq f1 w1 r1 => ?_
    · exact go
    obtain ⟨ok, hq⟩ := hq
    have sp1 : ∀ {x y : V}, vs = [x, y] → toSp am.K am.C am.TL false sp [x, y] H1 (fun z H' => ∃ c, z = .bl c ∧ Q (.bl (if neg = true then !c else c)) H') E0 := fun {x y} e => by
      subst e
      refine call_ok (q := fun _ u n2 => ∃ c, u = .d (.bool c) ∧ q false (.d (.bool (if neg = true then !c else c))) n2) h f1 w1 r1 hq (fun fr u n2 v H2 hq2 f2 w2 r2 => ?_) fun C' H' n' f w z => z.elim
      obtain ⟨c, rfl, hq3⟩ := hq2
      have r3 : Rp _ _ v (.bool c) := r2.1
      cases r3
      exact ⟨c, rfl, k _ _ _ _ _ hq3 f2 w2 (.old (Rp.bl _))⟩
    rcases ok with ⟨fs, gs, rfl⟩ | ⟨fs, xs, rfl⟩
    · cases r1 with
      | cons rx r1 =>
        cases r1 with
        | cons ry r1 =>
          cases r1
          have s2 := sp1 rfl
          obtain ⟨a, dx, ws, rfl, _, c1, _⟩ := rp_ob rx
          obtain ⟨b, dy, zs, rfl, _, c2, _⟩ := rp_ob ry
          exact ⟨a, dx, ws, rfl, (cut_some.mp c1).2, .inl ⟨b, dy, zs, rfl, (cut_some.mp c2).2⟩, s2⟩
    · cases r1 with
      | cons rx r1 =>
        cases r1 with
        | cons ry r1 =>
          cases r1
          have s2 := sp1 rfl
          obtain ⟨a, dx, ws, rfl, _, c1, _⟩ := rp_ob rx
          cases ry with
          | tup h1 h2 => exact ⟨a, dx, ws, rfl, (cut_some.mp c1).2, .inr ⟨_, _, rfl, SqT.le Le.cutAll h1⟩, s2⟩
end
/-! own * -/
def facU (C : Addr) : U → Prop
  | .d (.dict x) => ∃ gs, PyData.dict x = obJ C gs
  | .d (.bool _) => False
  | .d (.str _) => False
  | .d _ => True
  | _ => False
theorem mul_guard {K : PySem.W.Frag} {C C' : Addr} {TL : List (Addr × Str)} {fr : Bool} {sp : VSp} (ok : ∀ us n q e, sp us n q e → ∃ fs u, us = [.d (obJ C' fs), u] ∧ facU C' u) (E : XK) : ∀ x y H Q, toSp K C TL fr sp [x, y] H Q E → ∃ a dx fs, x = .ref a ∧ H a = some (.ins C' dx fs) ∧ GM.Fac K C' H y := by
  intro x y H Q h
  obtain ⟨am, us, n, q, e, rfl, rfl, rfl, ra, w, hsp, _⟩ := h
  obtain ⟨fs, u, rfl, hu⟩ := ok _ _ _ _ hsp
  cases ra with
  | cons rx ra =>
    cases ra with
    | cons ry ra =>
      cases ra
      obtain ⟨a, dx, ws, rfl, _, c1, _⟩ := rp_ob rx
      refine ⟨a, dx, ws, rfl, (cut_some.mp c1).2, ?_⟩
      match u, hu, ry with
      | .d (.dict z), hu, ry =>
        obtain ⟨gs, e⟩ := hu
        have ry : Rp am.K (cut am.R.hid H) y (.dict z) := ry
        rw [e] at ry
        obtain ⟨b, dy, zs, rfl, _, c2, _⟩ := rp_ob ry
        exact .ins (cut_some.mp c2).2
      | .d .none, _, ry =>
        cases ry
        exact .non
      | .d (.int i), _, ry =>
        cases ry
        exact .int i
      | .d (.list xs), _, ry =>
        cases ry with
        | lst a1 a2 => exact .lst (cut_some.mp a1).2
      | .d (.tuple xs), _, ry =>
        cases ry with
        | tup a1 a2 => exact .tup (SqT.le Le.cutAll a1)
end V3
set_option Elab.async false
set_option linter.all false
set_option maxRecDepth 100000
set_option maxHeartbeats 4000000
set_option synthInstance.maxSize 100000
set_option synthInstance.maxHeartbeats 0
namespace G21
open PySem PySem.Spec PyProof.Rows L2 V3
def posC (c : Co) : Prop := (∀ k, c.1 = some k → 1 ≤ k) ∧ ∀ k, c.2 = some k → 1 ≤ k
/-- more than -/
def abO : Option Int → Option Int → Bool
  | _, none => false
  | none, some _ => true
  | some j, some k => decide (k < j)
theorem abO_lt {p q : Option Int} (h : ltO p q) : abO q p = true := by
  cases p <;> cases q <;> simp [ltO, abO] at h ⊢
  exact h
@[simp ↓] def sp_above : VSp := fun us n q _ => ∃ a b : Option Int, us = [.d (oD a), .d (oD b)] ∧ q (.d (.bool (abO a b))) n
def enB (c d : Co) : Bool := !abO d.1 c.1 && !abO d.2 c.2
@[simp ↓] def sp_encl : VSp := fun us n q _ => ∃ c d : Co, us = [.d (cD c), .d (cD d)] ∧ q (.d (.bool (enB c d))) n
def hasB (cs : List Co) (d : Co) : Bool := cs.any fun c => enB c d
@[simp ↓] def sp_has : VSp := fun us n q _ => ∃ (cs : List Co) (d : Co), us = [.d (.tuple (cs.map cD)), .d (cD d)] ∧ cs.length ≤ 300 ∧ q (.d (.bool (hasB cs d))) n
def lenT (x : D) : Prop := ∀ xs, x = .tuple xs → xs.length ≤ 1000
def isIt : D → Bool
  | .none => true
  | x => isSzD x
def isCo : D → Bool
  | .tuple [a, b] => isIt a && isIt b
  | _ => false
@[simp ↓] def sp_corner : VSp := fun us n q _ => ∃ x : D, us = [.d x] ∧ lenT x ∧ q (.d (.bool (isCo x))) n
@[simp ↓] def sp_step : VSp := fun us n q _ => ∃ c f : Co, us = [.d (cD c), .d (cD f)] ∧ q (.d (.bool (abO f.1 c.1 && abO c.2 f.2))) n
@[simp ↓] def sp_isst : VSp := fun us n q _ => ∃ x : D, us = [.d x] ∧ ((∃ cs : List Co, x = .tuple (cs.map cD) ∧ Can cs ∧ (∀ c ∈ cs, posC c) ∧ cs.length ≤ 300 ∧ q (.d (.bool true)) n) ∨ ((∀ xs, x ≠ .tuple xs) ∧ q (.d (.bool false)) n) ∨
  ∃ xs, x = .tuple xs ∧ xs.length ≤ 100 ∧ (∀ y ∈ xs, lenT y) ∧ (∃ y ∈ xs, isCo y = false) ∧ q (.d (.bool false)) n)
def isPr : D → Bool
  | .tuple [a, b] => isN a && isN b
  | _ => false
@[simp ↓] def sp_npair : VSp := fun us n q _ => ∃ x : D, us = [.d x] ∧ lenT x ∧ q (.d (.bool (isPr x))) n
/-- a place -/
abbrev plD (m x y : Int) : D := .tuple [.int m, pr x y]
def isPl : D → Bool
  | .tuple [.int m, p] => decide (0 ≤ m) && isPr p
  | _ => false
@[simp ↓] def sp_place : VSp := fun us n q _ => ∃ x : D, us = [.d x] ∧ lenT x ∧ (∀ a b, x = .tuple [a, b] → lenT b) ∧ q (.d (.bool (isPl x))) n
theorem co_pos {c : Co} (h : posC c) : isCo (cD c) = true := by
  obtain ⟨c1, c2⟩ := c
  obtain ⟨h1, h2⟩ := h
  cases c1 <;> cases c2 <;> simp [isCo, isIt, oD, isSzD] <;> first | exact h1 _ rfl | exact h2 _ rfl | exact ⟨h1 _ rfl, h2 _ rfl⟩
theorem lenT_c (c : Co) : lenT (cD c) := fun xs e => by
  cases e
  simp
@[simp ↓] def sp_great : VSp := fun us n q _ => ∃ (cs : List Co) (c d : Co) (i : Int), us = [.d (.tuple (cs.map cD)), .d (.int i)] ∧ cs.head? = some c ∧ cs.getLast? = some d ∧ q (.d (oD (if i = 0 then d.1 else c.2))) n
@[simp ↓] def sp_grown : VSp := fun us n q _ => ∃ l b s : Int, us = [.d (.int l), .d (.int b), .d (.int s)] ∧ q (.d (.int (max l (s + b)))) n
def plainB (m : Option Int) (l b : Int) : Int := match m with
  | none => b
  | some k => max l (k + b) - k
@[simp ↓] def sp_plain : VSp := fun us n q _ => ∃ (cs : List Co) (c d : Co) (l b : Int × Int) (i : Int), us = [.d (.tuple (cs.map cD)), .d (pr l.1 l.2), .d (pr b.1 b.2), .d (.int i)] ∧ (i = 0 ∨ i = 1) ∧ cs.head? = some c ∧ cs.getLast? = some d ∧
  q (.d (.int (if i = 0 then plainB d.1 l.1 b.1 else plainB c.2 l.2 b.2))) n
/-- what a form does to a body -/
@[simp ↓] def sp_behind (C : Addr) : VSp := fun us n q _ => ∃ (fs : List (Str × D)) (l b s : Int × Int), us = [.d (obJ C fs), .d (pr s.1 s.2)] ∧ getF "least" fs = some (pr l.1 l.2) ∧ getF "by" fs = some (pr b.1 b.2) ∧
  q (.d (pr (max l.1 (s.1 + b.1)) (max l.2 (s.2 + b.2)))) n
theorem ownCT {K : PySem.W.Frag} {mg : Str → Option Value} (T : Txt K mg) : OwnC K T.C := ⟨T.cls, fun H a dx fs h => .base (.ins h T.cls T.iA T.iN T.iT T.iM), T.kb_bool, T.kb_int, T.kb_str, T.kb_list, T.kb_tuple, T.kb_dict⟩
instance {K : PySem.W.Frag} {mg : Str → Option Value} (T : Txt K mg) : IsC K T.C := ⟨ownCT T, T.kD, fun x h => match x with
  | .none => T.kNoneType
  | .bool _ => T.kbool
  | .int _ => T.kint
  | .str _ => T.kstr
  | .list _ => T.klist
  | .tuple _ => T.ktuple
  | .dict _ => T.kdict⟩
@[simp] theorem nF_start_s {K : PySem.W.Frag} {mg : Str → Option Value} (T : Txt K mg) : NoAttr K T.C "start" = True := eq_true T.nF_start
@[simp] theorem nF_end_s {K : PySem.W.Frag} {mg : Str → Option Value} (T : Txt K mg) : NoAttr K T.C "end" = True := eq_true T.nF_end
@[simp] theorem nF_stairs_s {K : PySem.W.Frag} {mg : Str → Option Value} (T : Txt K mg) : NoAttr K T.C "stairs" = True := eq_true T.nF_stairs
@[simp] theorem nF_least_s {K : PySem.W.Frag} {mg : Str → Option Value} (T : Txt K mg) : NoAttr K T.C "least" = True := eq_true T.nF_least
@[simp] theorem nF_by_s {K : PySem.W.Frag} {mg : Str → Option Value} (T : Txt K mg) : NoAttr K T.C "by" = True := eq_true T.nF_by
instance {K : PySem.W.Frag} {mg : Str → Option Value} (T : Txt K mg) : FieldC K T.C "start" := ⟨T.nF_start⟩
instance {K : PySem.W.Frag} {mg : Str → Option Value} (T : Txt K mg) : FieldC K T.C "end" := ⟨T.nF_end⟩
instance {K : PySem.W.Frag} {mg : Str → Option Value} (T : Txt K mg) : FieldC K T.C "stairs" := ⟨T.nF_stairs⟩
instance {K : PySem.W.Frag} {mg : Str → Option Value} (T : Txt K mg) : FieldC K T.C "least" := ⟨T.nF_least⟩
instance {K : PySem.W.Frag} {mg : Str → Option Value} (T : Txt K mg) : FieldC K T.C "by" := ⟨T.nF_by⟩
section
variable {P : Program} {w : World} {K : PySem.W.Frag} {mg : Str → Option Value} {base : Heap} {TL : List (Addr × Str)}
theorem ok_q_is_above (T : Txt K mg) : FnOk P w K mg base CX0 1 T.q_is_above.a T.q_is_above.d ["one", "other"] (toSp K T.C TL false sp_above) := by
  refine T.q_is_above.F.ok c_q_is_above (fun vs H Q E h => toSp_len h fun us n q e hs => ?_) (fun cdv A outer s H vs Q E hr h => ?_)
  · (first | (obtain ⟨rfl, _⟩ := hs; rfl) | (obtain ⟨_, hs⟩ := hs; (first | (obtain ⟨rfl, _⟩ := hs; rfl) | (obtain ⟨_, hs⟩ := hs; (first | (obtain ⟨rfl, _⟩ := hs; rfl) | (obtain ⟨_, hs⟩ := hs; (first | (obtain ⟨rfl, _⟩ := hs; rfl) | (obtain ⟨_, hs⟩ := hs; (first | (obtain ⟨rfl, _⟩ := hs; rfl) | (obtain ⟨_, hs⟩ := hs; (first | (obtain ⟨rfl, _⟩ := hs; rfl) | (obtain ⟨_, hs⟩ := hs; (first | (obtain ⟨rfl, _⟩ := hs; rfl) | (obtain ⟨_, hs⟩ := hs; (first | (obtain ⟨rfl, _⟩ := hs; rfl) | (obtain ⟨_, hs⟩ := hs; (first | (obtain ⟨rfl, _⟩ := hs; rfl) | (obtain ⟨_, hs⟩ := hs; (first | (obtain ⟨rfl, _⟩ := hs; rfl) | (obtain ⟨_, hs⟩ := hs; (first | (obtain ⟨rfl, _⟩ := hs; rfl) | (obtain ⟨_, hs⟩ := hs; (first | (obtain ⟨rfl, _⟩ := hs; rfl) | (obtain ⟨_, hs⟩ := hs; (first | (obtain ⟨rfl, _⟩ := hs; rfl) | (obtain ⟨_, hs⟩ := hs; (first | (obtain ⟨rfl, _⟩ := hs; rfl) | (obtain ⟨_, hs⟩ := hs; (first | (obtain ⟨rfl, _⟩ := hs; rfl) | (obtain ⟨_, hs⟩ := hs; (first | (obtain ⟨rfl, _⟩ := hs; rfl) | (obtain ⟨_, hs⟩ := hs; (obtain ⟨rfl, _⟩ := hs; rfl)))))))))))))))))))))))))))))))))
  · refine ⟨_,
      (pss_one (ps_ret (pe_and (pe_cmpR op_notN3 (pv 1) pe_non (nomark _)) (pe_one (pe_or (pe_cmpR op_isN3 (pv 0) pe_non (nomark _)) (pe_one (pe_cmpR op_gt (pv 0) (pv 1) (nomark _))))))))
      , run3 (K := K) (C := T.C) (TL := TL) h fun us n q e hs => ?_⟩
    obtain ⟨a, b, rfl, hq⟩ := hs
    cases a <;> cases b <;> simp [ro0, abO] at hq ⊢ <;> exact hq
theorem ok_q_encloses (T : Txt K mg) : FnOk P w K mg base CX0 2 T.q_encloses.a T.q_encloses.d ["corner", "inner"] (toSp K T.C TL false sp_encl) := by
  refine T.q_encloses.F.ok c_q_encloses (fun vs H Q E h => toSp_len h fun us n q e hs => ?_) (fun cdv A outer s H vs Q E hr h => ?_)
  · (first | (obtain ⟨rfl, _⟩ := hs; rfl) | (obtain ⟨_, hs⟩ := hs; (first | (obtain ⟨rfl, _⟩ := hs; rfl) | (obtain ⟨_, hs⟩ := hs; (first | (obtain ⟨rfl, _⟩ := hs; rfl) | (obtain ⟨_, hs⟩ := hs; (first | (obtain ⟨rfl, _⟩ := hs; rfl) | (obtain ⟨_, hs⟩ := hs; (first | (obtain ⟨rfl, _⟩ := hs; rfl) | (obtain ⟨_, hs⟩ := hs; (first | (obtain ⟨rfl, _⟩ := hs; rfl) | (obtain ⟨_, hs⟩ := hs; (first | (obtain ⟨rfl, _⟩ := hs; rfl) | (obtain ⟨_, hs⟩ := hs; (first | (obtain ⟨rfl, _⟩ := hs; rfl) | (obtain ⟨_, hs⟩ := hs; (first | (obtain ⟨rfl, _⟩ := hs; rfl) | (obtain ⟨_, hs⟩ := hs; (first | (obtain ⟨rfl, _⟩ := hs; rfl) | (obtain ⟨_, hs⟩ := hs; (first | (obtain ⟨rfl, _⟩ := hs; rfl) | (obtain ⟨_, hs⟩ := hs; (first | (obtain ⟨rfl, _⟩ := hs; rfl) | (obtain ⟨_, hs⟩ := hs; (first | (obtain ⟨rfl, _⟩ := hs; rfl) | (obtain ⟨_, hs⟩ := hs; (first | (obtain ⟨rfl, _⟩ := hs; rfl) | (obtain ⟨_, hs⟩ := hs; (first | (obtain ⟨rfl, _⟩ := hs; rfl) | (obtain ⟨_, hs⟩ := hs; (first | (obtain ⟨rfl, _⟩ := hs; rfl) | (obtain ⟨_, hs⟩ := hs; (obtain ⟨rfl, _⟩ := hs; rfl)))))))))))))))))))))))))))))))))
  · refine ⟨_,
      (pss_one (ps_ret (pe_and (pe_not (pe_call (ok_q_is_above T (TL := TL)) (hr.mono (by decide)) rfl T.q_is_above.g T.q_is_above.k T.q_is_above.b .nil pass0 (pa_cons (pe_ix (ix3 K) (pv 1) pe_int (fun _ _ => rfl)) (pa_cons (pe_ix (ix3 K) (pv 0) pe_int (fun _ _ => rfl)) pa_nil)))) (pe_one (pe_not (pe_call (ok_q_is_above T (TL := TL)) (hr.mono (by decide)) rfl T.q_is_above.g T.q_is_above.k T.q_is_above.b .nil pass0 (pa_cons (pe_ix (ix3 K) (pv 1) pe_int (fun _ _ => rfl)) (pa_cons (pe_ix (ix3 K) (pv 0) pe_int (fun _ _ => rfl)) pa_nil))))))))
      , run3 (K := K) (C := T.C) (TL := TL) h fun us n q e hs => ?_⟩
    obtain ⟨⟨c1, c2⟩, ⟨d1, d2⟩, rfl, hq⟩ := hs
    simp [ro0]
    refine ⟨d1, c1, ⟨rfl, rfl⟩, ?_⟩
    unfold enB at hq
    cases h : abO d1 c1
    · simp [h] at hq ⊢
      exact ⟨d2, c2, ⟨rfl, rfl⟩, hq⟩
    · simp [h] at hq ⊢
      exact hq
theorem ok_q_has (T : Txt K mg) : FnOk P w K mg base CX0 3 T.q_has.a T.q_has.d ["stairs", "corner"] (toSp K T.C TL false sp_has) := by
  refine T.q_has.F.ok c_q_has (fun vs H Q E h => toSp_len h fun us n q e hs => ?_) (fun cdv A outer s H vs Q E hr h => ?_)
  · (first | (obtain ⟨rfl, _⟩ := hs; rfl) | (obtain ⟨_, hs⟩ := hs; (first | (obtain ⟨rfl, _⟩ := hs; rfl) | (obtain ⟨_, hs⟩ := hs; (first | (obtain ⟨rfl, _⟩ := hs; rfl) | (obtain ⟨_, hs⟩ := hs; (first | (obtain ⟨rfl, _⟩ := hs; rfl) | (obtain ⟨_, hs⟩ := hs; (first | (obtain ⟨rfl, _⟩ := hs; rfl) | (obtain ⟨_, hs⟩ := hs; (first | (obtain ⟨rfl, _⟩ := hs; rfl) | (obtain ⟨_, hs⟩ := hs; (first | (obtain ⟨rfl, _⟩ := hs; rfl) | (obtain ⟨_, hs⟩ := hs; (first | (obtain ⟨rfl, _⟩ := hs; rfl) | (obtain ⟨_, hs⟩ := hs; (first | (obtain ⟨rfl, _⟩ := hs; rfl) | (obtain ⟨_, hs⟩ := hs; (first | (obtain ⟨rfl, _⟩ := hs; rfl) | (obtain ⟨_, hs⟩ := hs; (first | (obtain ⟨rfl, _⟩ := hs; rfl) | (obtain ⟨_, hs⟩ := hs; (first | (obtain ⟨rfl, _⟩ := hs; rfl) | (obtain ⟨_, hs⟩ := hs; (first | (obtain ⟨rfl, _⟩ := hs; rfl) | (obtain ⟨_, hs⟩ := hs; (first | (obtain ⟨rfl, _⟩ := hs; rfl) | (obtain ⟨_, hs⟩ := hs; (first | (obtain ⟨rfl, _⟩ := hs; rfl) | (obtain ⟨_, hs⟩ := hs; (first | (obtain ⟨rfl, _⟩ := hs; rfl) | (obtain ⟨_, hs⟩ := hs; (obtain ⟨rfl, _⟩ := hs; rfl)))))))))))))))))))))))))))))))))
  · refine ⟨_,
      (pss_one (ps_ret (pe_callB (any3 K rfl) (by rfl) T.z_any (by decide +kernel) (pa_cons (pe_lc (own := [("own", 2)]) (g := gName 2) (by rfl) c_q_has.nd (seq3 K (pv 0)) (blkOk_by (own := [("own", 2)]) (N := N_q_has) (sc := defScope S_q_has) (by decide +kernel)) (fun _ _ _ _ _ => pg_name (i := 2) c_q_has.nd rfl (Or.inl rfl)) (fun _ _ _ _ _ => pts_nil) (fun _ _ _ _ _ => (pe_call (ok_q_encloses T (TL := TL)) (hr.mono (by decide)) rfl T.q_encloses.g T.q_encloses.k T.q_encloses.b .nil pass0 (pa_cons (pv 2) (pa_cons (pv 1) pa_nil))))) pa_nil))))
      , run3 (K := K) (C := T.C) (TL := TL) h fun us n q e hs => ?_⟩
    obtain ⟨cs, d, rfl, hl, hq⟩ := hs
    simp [ro0]
    refine ⟨few (by omega), lcL_all cD (fun c => .bool (enB c d)) cs n _ (fun c _ n Kt Ks h => ?_) ?_⟩
    · simp
      exact ⟨c.1, c.2, d.1, d.2, ⟨⟨rfl, rfl⟩, rfl, rfl⟩, h⟩
    · rw [toBs_f]
      show q (.d (.bool ((cs.map fun c => enB c d).any id))) n
      rw [List.any_map]
      exact hq
theorem ok_q_is_step (T : Txt K mg) : FnOk P w K mg base CX0 2 T.q_is_step.a T.q_is_step.d ["corner", "further"] (toSp K T.C TL false sp_step) := by
  refine T.q_is_step.F.ok c_q_is_step (fun vs H Q E h => toSp_len h fun us n q e hs => ?_) (fun cdv A outer s H vs Q E hr h => ?_)
  · (first | (obtain ⟨rfl, _⟩ := hs; rfl) | (obtain ⟨_, hs⟩ := hs; (first | (obtain ⟨rfl, _⟩ := hs; rfl) | (obtain ⟨_, hs⟩ := hs; (first | (obtain ⟨rfl, _⟩ := hs; rfl) | (obtain ⟨_, hs⟩ := hs; (first | (obtain ⟨rfl, _⟩ := hs; rfl) | (obtain ⟨_, hs⟩ := hs; (first | (obtain ⟨rfl, _⟩ := hs; rfl) | (obtain ⟨_, hs⟩ := hs; (first | (obtain ⟨rfl, _⟩ := hs; rfl) | (obtain ⟨_, hs⟩ := hs; (first | (obtain ⟨rfl, _⟩ := hs; rfl) | (obtain ⟨_, hs⟩ := hs; (first | (obtain ⟨rfl, _⟩ := hs; rfl) | (obtain ⟨_, hs⟩ := hs; (first | (obtain ⟨rfl, _⟩ := hs; rfl) | (obtain ⟨_, hs⟩ := hs; (first | (obtain ⟨rfl, _⟩ := hs; rfl) | (obtain ⟨_, hs⟩ := hs; (first | (obtain ⟨rfl, _⟩ := hs; rfl) | (obtain ⟨_, hs⟩ := hs; (first | (obtain ⟨rfl, _⟩ := hs; rfl) | (obtain ⟨_, hs⟩ := hs; (first | (obtain ⟨rfl, _⟩ := hs; rfl) | (obtain ⟨_, hs⟩ := hs; (first | (obtain ⟨rfl, _⟩ := hs; rfl) | (obtain ⟨_, hs⟩ := hs; (first | (obtain ⟨rfl, _⟩ := hs; rfl) | (obtain ⟨_, hs⟩ := hs; (first | (obtain ⟨rfl, _⟩ := hs; rfl) | (obtain ⟨_, hs⟩ := hs; (obtain ⟨rfl, _⟩ := hs; rfl)))))))))))))))))))))))))))))))))
  · refine ⟨_,
      (pss_one (ps_ret (pe_and (pe_call (ok_q_is_above T (TL := TL)) (hr.mono (by decide)) rfl T.q_is_above.g T.q_is_above.k T.q_is_above.b .nil pass0 (pa_cons (pe_ix (ix3 K) (pv 1) pe_int (fun _ _ => rfl)) (pa_cons (pe_ix (ix3 K) (pv 0) pe_int (fun _ _ => rfl)) pa_nil))) (pe_one (pe_call (ok_q_is_above T (TL := TL)) (hr.mono (by decide)) rfl T.q_is_above.g T.q_is_above.k T.q_is_above.b .nil pass0 (pa_cons (pe_ix (ix3 K) (pv 0) pe_int (fun _ _ => rfl)) (pa_cons (pe_ix (ix3 K) (pv 1) pe_int (fun _ _ => rfl)) pa_nil)))))))
      , run3 (K := K) (C := T.C) (TL := TL) h fun us n q e hs => ?_⟩
    obtain ⟨⟨c1, c2⟩, ⟨f1, f2⟩, rfl, hq⟩ := hs
    simp [ro0]
    refine ⟨f1, c1, ⟨rfl, rfl⟩, ?_⟩
    cases h : abO f1 c1
    · simp [h] at hq ⊢
      exact hq
    · simp [h] at hq ⊢
      exact ⟨c2, f2, ⟨rfl, rfl⟩, hq⟩
theorem ok_q_is_corner (T : Txt K mg) : FnOk P w K mg base CX0 3 T.q_is_corner.a T.q_is_corner.d ["thing"] (toSp K T.C TL false sp_corner) := by
  refine T.q_is_corner.F.ok c_q_is_corner (fun vs H Q E h => toSp_len h fun us n q e hs => ?_) (fun cdv A outer s H vs Q E hr h => ?_)
  · (first | (obtain ⟨rfl, _⟩ := hs; rfl) | (obtain ⟨_, hs⟩ := hs; (first | (obtain ⟨rfl, _⟩ := hs; rfl) | (obtain ⟨_, hs⟩ := hs; (first | (obtain ⟨rfl, _⟩ := hs; rfl) | (obtain ⟨_, hs⟩ := hs; (first | (obtain ⟨rfl, _⟩ := hs; rfl) | (obtain ⟨_, hs⟩ := hs; (first | (obtain ⟨rfl, _⟩ := hs; rfl) | (obtain ⟨_, hs⟩ := hs; (first | (obtain ⟨rfl, _⟩ := hs; rfl) | (obtain ⟨_, hs⟩ := hs; (first | (obtain ⟨rfl, _⟩ := hs; rfl) | (obtain ⟨_, hs⟩ := hs; (first | (obtain ⟨rfl, _⟩ := hs; rfl) | (obtain ⟨_, hs⟩ := hs; (first | (obtain ⟨rfl, _⟩ := hs; rfl) | (obtain ⟨_, hs⟩ := hs; (first | (obtain ⟨rfl, _⟩ := hs; rfl) | (obtain ⟨_, hs⟩ := hs; (first | (obtain ⟨rfl, _⟩ := hs; rfl) | (obtain ⟨_, hs⟩ := hs; (first | (obtain ⟨rfl, _⟩ := hs; rfl) | (obtain ⟨_, hs⟩ := hs; (first | (obtain ⟨rfl, _⟩ := hs; rfl) | (obtain ⟨_, hs⟩ := hs; (first | (obtain ⟨rfl, _⟩ := hs; rfl) | (obtain ⟨_, hs⟩ := hs; (first | (obtain ⟨rfl, _⟩ := hs; rfl) | (obtain ⟨_, hs⟩ := hs; (first | (obtain ⟨rfl, _⟩ := hs; rfl) | (obtain ⟨_, hs⟩ := hs; (obtain ⟨rfl, _⟩ := hs; rfl)))))))))))))))))))))))))))))))))
  · refine ⟨_,
      (pss_cons (ps_if (PW.pt (pw_or (pt_not (pt_val (pe_callB (isi3 K) (by rfl) T.z_isinstance (by decide +kernel) (pa_cons (pv 0) (pa_cons (pe_bltn (v := .ty "tuple") (u := .type "tuple") rfl T.z_tuple (by decide +kernel) rfl) pa_nil))))) (pw_or1 (pt_cmpR (ne3 K hr.units) (pe_callB (len3 K) (by rfl) T.z_len (by decide +kernel) (pa_cons (pv 0) pa_nil)) pe_int (nomark _)))))
      (pss_one (ps_ret pe_bl))
      pss_nil)
      (pss_one (ps_ret (pe_callB (all3 K rfl) (by rfl) T.z_all (by decide +kernel) (pa_cons (pe_lc (own := [("item", 1)]) (g := gName 1) (by rfl) c_q_is_corner.nd (seq3 K (pv 0)) (blkOk_by (own := [("item", 1)]) (N := N_q_is_corner) (sc := defScope S_q_is_corner) (by decide +kernel)) (fun _ _ _ _ _ => pg_name (i := 1) c_q_is_corner.nd rfl (Or.inl rfl)) (fun _ _ _ _ _ => pts_nil) (fun _ _ _ _ _ => (pe_or (pe_cmpR op_isN3 (pv 1) pe_non (nomark _)) (pe_one (pe_call (ok_q_is_size T (TL := TL)) (hr.mono (by decide)) rfl T.q_is_size.g T.q_is_size.k T.q_is_size.b .nil pass0 (pa_cons (pv 1) pa_nil)))))) pa_nil)))))
      , run3 (K := K) (C := T.C) (TL := TL) h fun us n q e hs => ?_⟩
    obtain ⟨x, rfl, hl, hq⟩ := hs
    cases x with
    | tuple xs =>
      have hl := hl xs rfl
      match xs, hl, hq with
      | [], _, hq => simpa [ro0, isCo] using hq
      | [y], _, hq => simpa [ro0, isCo] using hq
      | [y, z], _, hq =>
        simp [ro0, isCo] at hq ⊢
        refine ⟨few (by omega), ?_⟩
        cases y <;> cases z <;> simpa [isIt, isSzD] using hq
      | y :: z :: w :: ws, hl, hq =>
        simp [ro0, isCo] at hq ⊢
        exact hq
    | _ => simpa [ro0, isCo] using hq
theorem ok_q_is_stairs (T : Txt K mg) : FnOk P w K mg base CX0 4 T.q_is_stairs.a T.q_is_stairs.d ["thing"] (toSp K T.C TL false sp_isst) := by
  refine T.q_is_stairs.F.ok c_q_is_stairs (fun vs H Q E h => toSp_len h fun us n q e hs => ?_) (fun cdv A outer s H vs Q E hr h => ?_)
  · (first | (obtain ⟨rfl, _⟩ := hs; rfl) | (obtain ⟨_, hs⟩ := hs; (first | (obtain ⟨rfl, _⟩ := hs; rfl) | (obtain ⟨_, hs⟩ := hs; (first | (obtain ⟨rfl, _⟩ := hs; rfl) | (obtain ⟨_, hs⟩ := hs; (first | (obtain ⟨rfl, _⟩ := hs; rfl) | (obtain ⟨_, hs⟩ := hs; (first | (obtain ⟨rfl, _⟩ := hs; rfl) | (obtain ⟨_, hs⟩ := hs; (first | (obtain ⟨rfl, _⟩ := hs; rfl) | (obtain ⟨_, hs⟩ := hs; (first | (obtain ⟨rfl, _⟩ := hs; rfl) | (obtain ⟨_, hs⟩ := hs; (first | (obtain ⟨rfl, _⟩ := hs; rfl) | (obtain ⟨_, hs⟩ := hs; (first | (obtain ⟨rfl, _⟩ := hs; rfl) | (obtain ⟨_, hs⟩ := hs; (first | (obtain ⟨rfl, _⟩ := hs; rfl) | (obtain ⟨_, hs⟩ := hs; (first | (obtain ⟨rfl, _⟩ := hs; rfl) | (obtain ⟨_, hs⟩ := hs; (first | (obtain ⟨rfl, _⟩ := hs; rfl) | (obtain ⟨_, hs⟩ := hs; (first | (obtain ⟨rfl, _⟩ := hs; rfl) | (obtain ⟨_, hs⟩ := hs; (first | (obtain ⟨rfl, _⟩ := hs; rfl) | (obtain ⟨_, hs⟩ := hs; (first | (obtain ⟨rfl, _⟩ := hs; rfl) | (obtain ⟨_, hs⟩ := hs; (first | (obtain ⟨rfl, _⟩ := hs; rfl) | (obtain ⟨_, hs⟩ := hs; (obtain ⟨rfl, _⟩ := hs; rfl)))))))))))))))))))))))))))))))))
  · refine ⟨_,
      (pss_cons (ps_if (PW.pt (pw_or (pt_not (pt_val (pe_callB (isi3 K) (by rfl) T.z_isinstance (by decide +kernel) (pa_cons (pv 0) (pa_cons (pe_bltn (v := .ty "tuple") (u := .type "tuple") rfl T.z_tuple (by decide +kernel) rfl) pa_nil))))) (pw_or1 (pt_not (pt_val (pe_callB (all3 K rfl) (by rfl) T.z_all (by decide +kernel) (pa_cons (pe_lc (own := [("corner", 1)]) (g := gName 1) (by rfl) c_q_is_stairs.nd (seq3 K (pv 0)) (blkOk_by (own := [("corner", 1)]) (N := N_q_is_stairs) (sc := defScope S_q_is_stairs) (by decide +kernel)) (fun _ _ _ _ _ => pg_name (i := 1) c_q_is_stairs.nd rfl (Or.inl rfl)) (fun _ _ _ _ _ => pts_nil) (fun _ _ _ _ _ => (pe_call (ok_q_is_corner T (TL := TL)) (hr.mono (by decide)) rfl T.q_is_corner.g T.q_is_corner.k T.q_is_corner.b .nil pass0 (pa_cons (pv 1) pa_nil)))) pa_nil)))))))
      (pss_one (ps_ret pe_bl))
      pss_nil)
      (pss_one (ps_ret (pe_callB (all3 K rfl) (by rfl) T.z_all (by decide +kernel) (pa_cons (pe_lc (own := [("k", 2)]) (g := gName 2) (by rfl) c_q_is_stairs.nd (pi_range1 rfl T.z_range (pa_cons (pe_op op_sub (pe_callB (len3 K) (by rfl) T.z_len (by decide +kernel) (pa_cons (pv 0) pa_nil)) pe_int) pa_nil)) (blkOk_by (own := [("k", 2)]) (N := N_q_is_stairs) (sc := defScope S_q_is_stairs) (by decide +kernel)) (fun _ _ _ _ _ => pg_name (i := 2) c_q_is_stairs.nd rfl (Or.inl rfl)) (fun _ _ _ _ _ => pts_nil) (fun _ _ _ _ _ => (pe_call (ok_q_is_step T (TL := TL)) (hr.mono (by decide)) rfl T.q_is_step.g T.q_is_step.k T.q_is_step.b .nil pass0 (pa_cons (pe_ix (ix3 K) (pv 0) (pv 2) (fun _ _ => rfl)) (pa_cons (pe_ix (ix3 K) (pv 0) (pe_op (add3 K) (pv 2) pe_int) (fun _ _ => rfl)) pa_nil))))) pa_nil)))))
      , run3 (K := K) (C := T.C) (TL := TL) h fun us n q e hs => ?_⟩
    obtain ⟨x, rfl, hs⟩ := hs
    rcases hs with ⟨cs, rfl, hc, hp, hl, hq⟩ | ⟨nt, hq⟩ | ⟨xs, rfl, hl, hly, hbad, hq⟩
    rotate_left
    · cases x with
      | tuple xs => exact absurd rfl (nt xs)
      | _ => simpa [ro0] using hq
    · simp [ro0]
      refine ⟨few (by omega), ?_⟩
      have key : ∀ (ys : List D) (n : Nat) (K1 : List D → Nat → Prop), (∀ y ∈ ys, lenT y) → K1 (ys.map fun y => PyData.bool (isCo y)) n → lcL [1] false mYes (mCall0 false sp_corner (mCons (mVar 1) mNil)) [Sl.fz (U.d (PyData.tuple xs)), Sl.no, Sl.no] (fun _ => False) ys n K1 := fun ys n K1 hy h => by
        have k := lcL_all (is := [1]) (tup := false) (mt := mYes) (me := mCall0 false sp_corner (mCons (mVar 1) mNil)) (ρ := [Sl.fz (U.d (PyData.tuple xs)), Sl.no, Sl.no]) (e := fun _ => False) (fun y : D => y) (fun y => PyData.bool (isCo y)) ys n K1 (fun y m n Kt Ks h => by simp; exact ⟨hy y m, h⟩) h
        rw [List.map_id'] at k
        exact k
      refine key xs n _ hly ?_
      rw [toBs_f]
      show if false ∈ xs.map (fun y => isCo y) then _ else _
      obtain ⟨y, hy, hb⟩ := hbad
      rw [if_pos (List.mem_map.mpr ⟨y, hy, hb⟩)]
      exact hq
    simp [ro0]
    refine ⟨few (by omega), lcL_all cD (fun _ => .bool true) cs n _ (fun c hc n Kt Ks h => ?_) ?_⟩
    · simp
      rw [co_pos (hp c hc)]
      exact ⟨lenT_c c, h⟩
    have nf : ¬ false ∈ cs.map (fun _ => true) := fun z => by
      obtain ⟨_, _, z⟩ := List.mem_map.mp z
      cases z
    rw [toBs_f]
    show if false ∈ cs.map (fun _ => true) then _ else _
    rw [if_neg nf]
    refine ⟨by omega, few (by omega), lcL_up (fun _ => .bool true) 0 (cs.length - 1) n _ (fun i hi n Kt Ks h => ?_) ?_⟩
    · have h1 : i < cs.length := by omega
      have h2 : i + 1 < cs.length := by omega
      have st := List.pairwise_iff_getElem.mp hc i (i + 1) h1 h2 (by omega)
      have g1 : (cs.map cD)[i]? = some (cD cs[i]) := by simp [h1]
      have g2 : (cs.map cD)[i + 1]? = some (cD cs[i + 1]) := by simp [h2]
      have a1 : atI (cs.map cD) ((i : Int) + 1) = some (cD cs[i + 1]) := by
        rw [show ((i : Int) + 1) = ((i + 1 : Nat) : Int) from rfl, atI_c]
        exact g2
      have e1 : (abO cs[i + 1].1 cs[i].1 && abO cs[i].2 cs[i + 1].2) = true := by
        rw [abO_lt st.1, abO_lt st.2]
        rfl
      simp [a1, h1]
      refine ⟨cs[i].1, cs[i].2, cs[i + 1].1, cs[i + 1].2, ⟨⟨rfl, rfl⟩, rfl, rfl⟩, ?_⟩
      rw [e1]
      exact h
    · rw [toBs_f]
      show q (.d (.bool (((List.range (cs.length - 1)).map fun _ => true).all id))) n
      have e : (((List.range (cs.length - 1)).map fun _ => true).all id) = true := by simp
      rw [e]
      exact hq
theorem ok_q_is_number_pair (T : Txt K mg) : FnOk P w K mg base CX0 2 T.q_is_number_pair.a T.q_is_number_pair.d ["thing"] (toSp K T.C TL false sp_npair) := by
  refine T.q_is_number_pair.F.ok c_q_is_number_pair (fun vs H Q E h => toSp_len h fun us n q e hs => ?_) (fun cdv A outer s H vs Q E hr h => ?_)
  · (first | (obtain ⟨rfl, _⟩ := hs; rfl) | (obtain ⟨_, hs⟩ := hs; (first | (obtain ⟨rfl, _⟩ := hs; rfl) | (obtain ⟨_, hs⟩ := hs; (first | (obtain ⟨rfl, _⟩ := hs; rfl) | (obtain ⟨_, hs⟩ := hs; (first | (obtain ⟨rfl, _⟩ := hs; rfl) | (obtain ⟨_, hs⟩ := hs; (first | (obtain ⟨rfl, _⟩ := hs; rfl) | (obtain ⟨_, hs⟩ := hs; (first | (obtain ⟨rfl, _⟩ := hs; rfl) | (obtain ⟨_, hs⟩ := hs; (first | (obtain ⟨rfl, _⟩ := hs; rfl) | (obtain ⟨_, hs⟩ := hs; (first | (obtain ⟨rfl, _⟩ := hs; rfl) | (obtain ⟨_, hs⟩ := hs; (first | (obtain ⟨rfl, _⟩ := hs; rfl) | (obtain ⟨_, hs⟩ := hs; (first | (obtain ⟨rfl, _⟩ := hs; rfl) | (obtain ⟨_, hs⟩ := hs; (first | (obtain ⟨rfl, _⟩ := hs; rfl) | (obtain ⟨_, hs⟩ := hs; (first | (obtain ⟨rfl, _⟩ := hs; rfl) | (obtain ⟨_, hs⟩ := hs; (first | (obtain ⟨rfl, _⟩ := hs; rfl) | (obtain ⟨_, hs⟩ := hs; (first | (obtain ⟨rfl, _⟩ := hs; rfl) | (obtain ⟨_, hs⟩ := hs; (first | (obtain ⟨rfl, _⟩ := hs; rfl) | (obtain ⟨_, hs⟩ := hs; (first | (obtain ⟨rfl, _⟩ := hs; rfl) | (obtain ⟨_, hs⟩ := hs; (obtain ⟨rfl, _⟩ := hs; rfl)))))))))))))))))))))))))))))))))
  · refine ⟨_,
      (pss_one (ps_ret (pe_and (pe_callB (isi3 K) (by rfl) T.z_isinstance (by decide +kernel) (pa_cons (pv 0) (pa_cons (pe_bltn (v := .ty "tuple") (u := .type "tuple") rfl T.z_tuple (by decide +kernel) rfl) pa_nil))) (pe_and (pe_cmpR (eq3 K hr.units) (pe_callB (len3 K) (by rfl) T.z_len (by decide +kernel) (pa_cons (pv 0) pa_nil)) pe_int (nomark _)) (pe_and (pe_call (ok_q_is_number T (TL := TL)) (hr.mono (by decide)) rfl T.q_is_number.g T.q_is_number.k T.q_is_number.b .nil pass0 (pa_cons (pe_ix (ix3 K) (pv 0) pe_int (fun _ _ => rfl)) pa_nil)) (pe_one (pe_call (ok_q_is_number T (TL := TL)) (hr.mono (by decide)) rfl T.q_is_number.g T.q_is_number.k T.q_is_number.b .nil pass0 (pa_cons (pe_ix (ix3 K) (pv 0) pe_int (fun _ _ => rfl)) pa_nil))))))))
      , run3 (K := K) (C := T.C) (TL := TL) h fun us n q e hs => ?_⟩
    obtain ⟨x, rfl, hl, hq⟩ := hs
    cases x with
    | tuple xs =>
      have hl := hl xs rfl
      match xs, hl, hq with
      | [], _, hq => simpa [ro0, isPr] using hq
      | [y], _, hq => simpa [ro0, isPr] using hq
      | [y, z], _, hq =>
        simp [ro0, isPr] at hq ⊢
        cases h : isN y <;> simpa [h] using hq
      | y :: z :: w :: ws, hl, hq =>
        simp [ro0, isPr] at hq ⊢
        exact hq
    | _ => simpa [ro0, isPr] using hq
theorem ok_q_is_any_place (T : Txt K mg) : FnOk P w K mg base CX0 3 T.q_is_any_place.a T.q_is_any_place.d ["thing"] (toSp K T.C TL false sp_place) := by
  refine T.q_is_any_place.F.ok c_q_is_any_place (fun vs H Q E h => toSp_len h fun us n q e hs => ?_) (fun cdv A outer s H vs Q E hr h => ?_)
  · (first | (obtain ⟨rfl, _⟩ := hs; rfl) | (obtain ⟨_, hs⟩ := hs; (first | (obtain ⟨rfl, _⟩ := hs; rfl) | (obtain ⟨_, hs⟩ := hs; (first | (obtain ⟨rfl, _⟩ := hs; rfl) | (obtain ⟨_, hs⟩ := hs; (first | (obtain ⟨rfl, _⟩ := hs; rfl) | (obtain ⟨_, hs⟩ := hs; (first | (obtain ⟨rfl, _⟩ := hs; rfl) | (obtain ⟨_, hs⟩ := hs; (first | (obtain ⟨rfl, _⟩ := hs; rfl) | (obtain ⟨_, hs⟩ := hs; (first | (obtain ⟨rfl, _⟩ := hs; rfl) | (obtain ⟨_, hs⟩ := hs; (first | (obtain ⟨rfl, _⟩ := hs; rfl) | (obtain ⟨_, hs⟩ := hs; (first | (obtain ⟨rfl, _⟩ := hs; rfl) | (obtain ⟨_, hs⟩ := hs; (first | (obtain ⟨rfl, _⟩ := hs; rfl) | (obtain ⟨_, hs⟩ := hs; (first | (obtain ⟨rfl, _⟩ := hs; rfl) | (obtain ⟨_, hs⟩ := hs; (first | (obtain ⟨rfl, _⟩ := hs; rfl) | (obtain ⟨_, hs⟩ := hs; (first | (obtain ⟨rfl, _⟩ := hs; rfl) | (obtain ⟨_, hs⟩ := hs; (first | (obtain ⟨rfl, _⟩ := hs; rfl) | (obtain ⟨_, hs⟩ := hs; (first | (obtain ⟨rfl, _⟩ := hs; rfl) | (obtain ⟨_, hs⟩ := hs; (first | (obtain ⟨rfl, _⟩ := hs; rfl) | (obtain ⟨_, hs⟩ := hs; (obtain ⟨rfl, _⟩ := hs; rfl)))))))))))))))))))))))))))))))))
  · refine ⟨_,
      (pss_cons (ps_if (PW.pt (pw_or (pt_not (pt_val (pe_callB (isi3 K) (by rfl) T.z_isinstance (by decide +kernel) (pa_cons (pv 0) (pa_cons (pe_bltn (v := .ty "tuple") (u := .type "tuple") rfl T.z_tuple (by decide +kernel) rfl) pa_nil))))) (pw_or (pt_cmpR (ne3 K hr.units) (pe_callB (len3 K) (by rfl) T.z_len (by decide +kernel) (pa_cons (pv 0) pa_nil)) pe_int (nomark _)) (pw_or (pt_not (pt_val (pe_call (ok_q_is_number T (TL := TL)) (hr.mono (by decide)) rfl T.q_is_number.g T.q_is_number.k T.q_is_number.b .nil pass0 (pa_cons (pe_ix (ix3 K) (pv 0) pe_int (fun _ _ => rfl)) pa_nil)))) (pw_or1 (pt_cmpR op_lt (pe_ix (ix3 K) (pv 0) pe_int (fun _ _ => rfl)) pe_int (nomark _)))))))
      (pss_one (ps_ret pe_bl))
      pss_nil)
      (pss_one (ps_ret (pe_call (ok_q_is_number_pair T (TL := TL)) (hr.mono (by decide)) rfl T.q_is_number_pair.g T.q_is_number_pair.k T.q_is_number_pair.b .nil pass0 (pa_cons (pe_ix (ix3 K) (pv 0) pe_int (fun _ _ => rfl)) pa_nil)))))
      , run3 (K := K) (C := T.C) (TL := TL) h fun us n q e hs => ?_⟩
    obtain ⟨x, rfl, hl, hlb, hq⟩ := hs
    cases x with
    | tuple xs =>
      have hl : xs.length ≤ 1000 := hl xs rfl
      match xs, hl, hq, hlb with
      | [], _, hq, _ => simpa [ro0, isPl] using hq
      | [y], _, hq, _ =>
        cases y <;> simpa [ro0, isPl] using hq
      | [y, z], _, hq, hlb =>
        have hz : lenT z := hlb y z rfl
        cases y with
        | int i =>
          simp [ro0, isPl, isN] at hq ⊢
          by_cases hi : i < 0
          · rw [if_pos hi]
            have : decide (0 ≤ i) = false := decide_eq_false (by omega)
            rw [this] at hq
            exact hq
          · rw [if_neg hi]
            have : decide (0 ≤ i) = true := decide_eq_true (by omega)
            rw [this] at hq
            exact ⟨hz, hq⟩
        | _ =>
          simp [ro0, isPl, isN] at hq ⊢
          exact hq
      | y :: z :: w :: ws, hl, hq, _ =>
        cases y <;> simp [ro0, isPl] at hq ⊢ <;> exact hq
    | _ => simpa [ro0, isPl] using hq
theorem ok_q_greatest (T : Txt K mg) : FnOk P w K mg base CX0 1 T.q_greatest.a T.q_greatest.d ["stairs", "index"] (toSp K T.C TL false sp_great) := by
  refine T.q_greatest.F.ok c_q_greatest (fun vs H Q E h => toSp_len h fun us n q e hs => ?_) (fun cdv A outer s H vs Q E hr h => ?_)
  · (first | (obtain ⟨rfl, _⟩ := hs; rfl) | (obtain ⟨_, hs⟩ := hs; (first | (obtain ⟨rfl, _⟩ := hs; rfl) | (obtain ⟨_, hs⟩ := hs; (first | (obtain ⟨rfl, _⟩ := hs; rfl) | (obtain ⟨_, hs⟩ := hs; (first | (obtain ⟨rfl, _⟩ := hs; rfl) | (obtain ⟨_, hs⟩ := hs; (first | (obtain ⟨rfl, _⟩ := hs; rfl) | (obtain ⟨_, hs⟩ := hs; (first | (obtain ⟨rfl, _⟩ := hs; rfl) | (obtain ⟨_, hs⟩ := hs; (first | (obtain ⟨rfl, _⟩ := hs; rfl) | (obtain ⟨_, hs⟩ := hs; (first | (obtain ⟨rfl, _⟩ := hs; rfl) | (obtain ⟨_, hs⟩ := hs; (first | (obtain ⟨rfl, _⟩ := hs; rfl) | (obtain ⟨_, hs⟩ := hs; (first | (obtain ⟨rfl, _⟩ := hs; rfl) | (obtain ⟨_, hs⟩ := hs; (first | (obtain ⟨rfl, _⟩ := hs; rfl) | (obtain ⟨_, hs⟩ := hs; (first | (obtain ⟨rfl, _⟩ := hs; rfl) | (obtain ⟨_, hs⟩ := hs; (first | (obtain ⟨rfl, _⟩ := hs; rfl) | (obtain ⟨_, hs⟩ := hs; (first | (obtain ⟨rfl, _⟩ := hs; rfl) | (obtain ⟨_, hs⟩ := hs; (first | (obtain ⟨rfl, _⟩ := hs; rfl) | (obtain ⟨_, hs⟩ := hs; (first | (obtain ⟨rfl, _⟩ := hs; rfl) | (obtain ⟨_, hs⟩ := hs; (obtain ⟨rfl, _⟩ := hs; rfl)))))))))))))))))))))))))))))))))
  · refine ⟨_,
      (pss_one (ps_ret (pe_ifExp (pt_cmpR (eq3 K hr.units) (pv 1) pe_int (nomark _)) (pe_ix (ix3 K) (pe_ix (ix3 K) (pv 0) (pe_un un_neg pe_int) (fun _ _ => rfl)) pe_int (fun _ _ => rfl)) (pe_ix (ix3 K) (pe_ix (ix3 K) (pv 0) pe_int (fun _ _ => rfl)) pe_int (fun _ _ => rfl)))))
      , run3 (K := K) (C := T.C) (TL := TL) h fun us n q e hs => ?_⟩
    obtain ⟨cs, ⟨c1, c2⟩, ⟨d1, d2⟩, i, rfl, h1, h2, hq⟩ := hs
    rw [List.head?_eq_getElem?] at h1
    by_cases hi : i = 0
    · simp [ro0, hi, h2] at hq ⊢
      exact hq
    · simp [ro0, hi, h1] at hq ⊢
      exact hq
theorem ok_q_grown (T : Txt K mg) : FnOk P w K mg base CX0 1 T.q_grown.a T.q_grown.d ["least", "by", "size"] (toSp K T.C TL false sp_grown) := by
  refine T.q_grown.F.ok c_q_grown (fun vs H Q E h => toSp_len h fun us n q e hs => ?_) (fun cdv A outer s H vs Q E hr h => ?_)
  · (first | (obtain ⟨rfl, _⟩ := hs; rfl) | (obtain ⟨_, hs⟩ := hs; (first | (obtain ⟨rfl, _⟩ := hs; rfl) | (obtain ⟨_, hs⟩ := hs; (first | (obtain ⟨rfl, _⟩ := hs; rfl) | (obtain ⟨_, hs⟩ := hs; (first | (obtain ⟨rfl, _⟩ := hs; rfl) | (obtain ⟨_, hs⟩ := hs; (first | (obtain ⟨rfl, _⟩ := hs; rfl) | (obtain ⟨_, hs⟩ := hs; (first | (obtain ⟨rfl, _⟩ := hs; rfl) | (obtain ⟨_, hs⟩ := hs; (first | (obtain ⟨rfl, _⟩ := hs; rfl) | (obtain ⟨_, hs⟩ := hs; (first | (obtain ⟨rfl, _⟩ := hs; rfl) | (obtain ⟨_, hs⟩ := hs; (first | (obtain ⟨rfl, _⟩ := hs; rfl) | (obtain ⟨_, hs⟩ := hs; (first | (obtain ⟨rfl, _⟩ := hs; rfl) | (obtain ⟨_, hs⟩ := hs; (first | (obtain ⟨rfl, _⟩ := hs; rfl) | (obtain ⟨_, hs⟩ := hs; (first | (obtain ⟨rfl, _⟩ := hs; rfl) | (obtain ⟨_, hs⟩ := hs; (first | (obtain ⟨rfl, _⟩ := hs; rfl) | (obtain ⟨_, hs⟩ := hs; (first | (obtain ⟨rfl, _⟩ := hs; rfl) | (obtain ⟨_, hs⟩ := hs; (first | (obtain ⟨rfl, _⟩ := hs; rfl) | (obtain ⟨_, hs⟩ := hs; (first | (obtain ⟨rfl, _⟩ := hs; rfl) | (obtain ⟨_, hs⟩ := hs; (obtain ⟨rfl, _⟩ := hs; rfl)))))))))))))))))))))))))))))))))
  · refine ⟨_,
      (pss_one (ps_ret (pe_callB (max3 K rfl (hu_of hr)) (by rfl) T.z_max (by decide +kernel) (pa_cons (pv 0) (pa_cons (pe_op (add3 K) (pv 2) (pv 1)) pa_nil)))))
      , run3 (K := K) (C := T.C) (TL := TL) h fun us n q e hs => ?_⟩
    obtain ⟨l, b, s, rfl, hq⟩ := hs
    simp [ro0]
    exact hq
theorem ok_q_plain_by (T : Txt K mg) : FnOk P w K mg base CX0 2 T.q_plain_by.a T.q_plain_by.d ["stairs", "least", "by", "index"] (toSp K T.C TL false sp_plain) := by
  refine T.q_plain_by.F.ok c_q_plain_by (fun vs H Q E h => toSp_len h fun us n q e hs => ?_) (fun cdv A outer s H vs Q E hr h => ?_)
  · (first | (obtain ⟨rfl, _⟩ := hs; rfl) | (obtain ⟨_, hs⟩ := hs; (first | (obtain ⟨rfl, _⟩ := hs; rfl) | (obtain ⟨_, hs⟩ := hs; (first | (obtain ⟨rfl, _⟩ := hs; rfl) | (obtain ⟨_, hs⟩ := hs; (first | (obtain ⟨rfl, _⟩ := hs; rfl) | (obtain ⟨_, hs⟩ := hs; (first | (obtain ⟨rfl, _⟩ := hs; rfl) | (obtain ⟨_, hs⟩ := hs; (first | (obtain ⟨rfl, _⟩ := hs; rfl) | (obtain ⟨_, hs⟩ := hs; (first | (obtain ⟨rfl, _⟩ := hs; rfl) | (obtain ⟨_, hs⟩ := hs; (first | (obtain ⟨rfl, _⟩ := hs; rfl) | (obtain ⟨_, hs⟩ := hs; (first | (obtain ⟨rfl, _⟩ := hs; rfl) | (obtain ⟨_, hs⟩ := hs; (first | (obtain ⟨rfl, _⟩ := hs; rfl) | (obtain ⟨_, hs⟩ := hs; (first | (obtain ⟨rfl, _⟩ := hs; rfl) | (obtain ⟨_, hs⟩ := hs; (first | (obtain ⟨rfl, _⟩ := hs; rfl) | (obtain ⟨_, hs⟩ := hs; (first | (obtain ⟨rfl, _⟩ := hs; rfl) | (obtain ⟨_, hs⟩ := hs; (first | (obtain ⟨rfl, _⟩ := hs; rfl) | (obtain ⟨_, hs⟩ := hs; (first | (obtain ⟨rfl, _⟩ := hs; rfl) | (obtain ⟨_, hs⟩ := hs; (first | (obtain ⟨rfl, _⟩ := hs; rfl) | (obtain ⟨_, hs⟩ := hs; (obtain ⟨rfl, _⟩ := hs; rfl)))))))))))))))))))))))))))))))))
  · refine ⟨_,
      (pss_cons (ps_set (i := 4) c_q_plain_by.nd rfl (Or.inl rfl) (pe_call (ok_q_greatest T (TL := TL)) (hr.mono (by decide)) rfl T.q_greatest.g T.q_greatest.k T.q_greatest.b .nil pass0 (pa_cons (pv 0) (pa_cons (pv 3) pa_nil))))
      (pss_one (ps_ret (pe_ifExp (pt_cmpR op_isN3 (pv 4) pe_non (nomark _)) (pe_ix (ix3 K) (pv 2) (pv 3) (fun _ _ => rfl)) (pe_op op_sub (pe_call (ok_q_grown T (TL := TL)) (hr.mono (by decide)) rfl T.q_grown.g T.q_grown.k T.q_grown.b .nil pass0 (pa_cons (pe_ix (ix3 K) (pv 1) (pv 3) (fun _ _ => rfl)) (pa_cons (pe_ix (ix3 K) (pv 2) (pv 3) (fun _ _ => rfl)) (pa_cons (pv 4) pa_nil)))) (pv 4))))))
      , run3 (K := K) (C := T.C) (TL := TL) h fun us n q e hs => ?_⟩
    obtain ⟨cs, c, d, l, b, i, rfl, hi, h1, h2, hq⟩ := hs
    simp [ro0]
    refine ⟨cs, c.1, c.2, d.1, d.2, i, ⟨rfl, rfl⟩, h1, h2, ?_⟩
    rcases hi with rfl | rfl
    · cases e : d.1 <;> simp [e, plainB] at hq ⊢
      · exact hq
      · exact ⟨_, _, _, ⟨rfl, rfl, rfl⟩, hq⟩
    · cases e : c.2 <;> simp [e, plainB] at hq ⊢
      · exact hq
      · exact ⟨_, _, _, ⟨rfl, rfl, rfl⟩, hq⟩
theorem ok_q_body_behind (T : Txt K mg) : FnOk P w K mg base CX0 2 T.q_body_behind.a T.q_body_behind.d ["form", "body"] (toSp K T.C TL false (sp_behind T.C)) := by
  refine T.q_body_behind.F.ok c_q_body_behind (fun vs H Q E h => toSp_len h fun us n q e hs => ?_) (fun cdv A outer s H vs Q E hr h => ?_)
  · (first | (obtain ⟨rfl, _⟩ := hs; rfl) | (obtain ⟨_, hs⟩ := hs; (first | (obtain ⟨rfl, _⟩ := hs; rfl) | (obtain ⟨_, hs⟩ := hs; (first | (obtain ⟨rfl, _⟩ := hs; rfl) | (obtain ⟨_, hs⟩ := hs; (first | (obtain ⟨rfl, _⟩ := hs; rfl) | (obtain ⟨_, hs⟩ := hs; (first | (obtain ⟨rfl, _⟩ := hs; rfl) | (obtain ⟨_, hs⟩ := hs; (first | (obtain ⟨rfl, _⟩ := hs; rfl) | (obtain ⟨_, hs⟩ := hs; (first | (obtain ⟨rfl, _⟩ := hs; rfl) | (obtain ⟨_, hs⟩ := hs; (first | (obtain ⟨rfl, _⟩ := hs; rfl) | (obtain ⟨_, hs⟩ := hs; (first | (obtain ⟨rfl, _⟩ := hs; rfl) | (obtain ⟨_, hs⟩ := hs; (first | (obtain ⟨rfl, _⟩ := hs; rfl) | (obtain ⟨_, hs⟩ := hs; (first | (obtain ⟨rfl, _⟩ := hs; rfl) | (obtain ⟨_, hs⟩ := hs; (first | (obtain ⟨rfl, _⟩ := hs; rfl) | (obtain ⟨_, hs⟩ := hs; (first | (obtain ⟨rfl, _⟩ := hs; rfl) | (obtain ⟨_, hs⟩ := hs; (first | (obtain ⟨rfl, _⟩ := hs; rfl) | (obtain ⟨_, hs⟩ := hs; (first | (obtain ⟨rfl, _⟩ := hs; rfl) | (obtain ⟨_, hs⟩ := hs; (first | (obtain ⟨rfl, _⟩ := hs; rfl) | (obtain ⟨_, hs⟩ := hs; (obtain ⟨rfl, _⟩ := hs; rfl)))))))))))))))))))))))))))))))))
  · refine ⟨_,
      (pss_one (ps_ret (pe_tup (pa_cons (pe_call (ok_q_grown T (TL := TL)) (hr.mono (by decide)) rfl T.q_grown.g T.q_grown.k T.q_grown.b .nil pass0 (pa_cons (pe_ix (ix3 K) (fld3 K (pv 0) rfl) pe_int (fun _ _ => rfl)) (pa_cons (pe_ix (ix3 K) (fld3 K (pv 0) rfl) pe_int (fun _ _ => rfl)) (pa_cons (pe_ix (ix3 K) (pv 1) pe_int (fun _ _ => rfl)) pa_nil)))) (pa_cons (pe_call (ok_q_grown T (TL := TL)) (hr.mono (by decide)) rfl T.q_grown.g T.q_grown.k T.q_grown.b .nil pass0 (pa_cons (pe_ix (ix3 K) (fld3 K (pv 0) rfl) pe_int (fun _ _ => rfl)) (pa_cons (pe_ix (ix3 K) (fld3 K (pv 0) rfl) pe_int (fun _ _ => rfl)) (pa_cons (pe_ix (ix3 K) (pv 1) pe_int (fun _ _ => rfl)) pa_nil)))) pa_nil)))))
      , run3 (K := K) (C := T.C) (TL := TL) h fun us n q e hs => ?_⟩
    obtain ⟨fs, l, b, s, rfl, h1, h2, hq⟩ := hs
    simp [ro0, h1, h2]
    exact ⟨_, _, _, ⟨rfl, rfl, rfl⟩, _, _, _, ⟨rfl, rfl, rfl⟩, hq⟩
end
end G21
set_option Elab.async false
set_option linter.all false
set_option maxRecDepth 100000
set_option maxHeartbeats 4000000
set_option synthInstance.maxSize 100000
set_option synthInstance.maxHeartbeats 0
namespace G21
open PySem PySem.Spec PyProof.Rows L2 V3
/-! ### an object is made: its fields are set one after another -/
theorem tabs_keep2 {TL : List (Addr × Str)} {H H' : Hp} (e : ∀ b o, ((∃ ps, o = HO.tbl ps) ∨ ∃ f, o = HO.ext f) → H b = some o → H' b = some o) (h : LamX.Tabs TL H) : LamX.Tabs TL H' := fun q hq => by
  obtain ⟨ps, h1, h2, h3⟩ := h q hq
  refine ⟨ps, e _ _ (.inl ⟨_, rfl⟩) h1, h2, fun pos cv hc => ?_⟩
  obtain ⟨c, e3, e4⟩ := h3 pos cv hc
  exact ⟨c, e3, e _ _ (.inr ⟨_, rfl⟩) e4⟩
def initAm (am : Am) (m : Addr) (E : XK) (H0 : Hp) (ee : Addr → Prop) : Am := { am with R := { am.R with hid := fun a => a = m ∨ am.R.hid a }, Hs := fun b => if b = m then none else H0 b, O0 := fun a => ∃ d g c, am.R.dr = some (d, g, c) ∧ (a = d ∨ a = g), E := E, e := ee }
theorem init_rep {am : Am} {m : Addr} {E : XK} {H0 : Hp} {ee : Addr → Prop} {O : Addr → Prop} {H : Hp} {v : V} {u : U} (h : RepU am O H v u) : RepU (initAm am m E H0 ee) O H v u := by
  cases u <;> exact h
/-- between two statements of __init__ -/
structure IniS (am : Am) (E : XK) (ee : Addr → Prop) (m dx : Addr) (H0 : Hp) (fs : List (Str × D)) (ro : Ro) (n : Nat) (σ : L2.St) (H : Hp) : Prop where
  rl : Rl (initAm am m E H0 ee) ro n σ H
  sf : σ[0]? = some (some (.ref m))
  nm : ∀ d g c, am.R.dr = some (d, g, c) → m ≠ d ∧ m ≠ g ∧ m ≠ c
  hd : ∀ d g c, am.R.dr = some (d, g, c) → am.R.hid d ∧ am.R.hid g ∧ am.R.hid c
  ob : ∃ vs, H m = some (.ins am.C dx vs) ∧ RpFs am.K (cut (fun a => a = m ∨ am.R.hid a) H) vs fs
  fr : ∀ b o, b ≠ m → (∀ d g c, am.R.dr = some (d, g, c) → b ≠ d ∧ b ≠ g) → (∀ ps, o ≠ HO.tbl ps) → H0 b = some o → H b = some o
theorem IniS.step {am : Am} {E : XK} {ee : Addr → Prop} {m dx : Addr} {H0 H H' : Hp} {fs : List (Str × D)} {ro : Ro} {n n' : Nat} {σ : L2.St} (i : IniS am E ee m dx H0 fs ro n σ H) (f : FrR (initAm am m E H0 ee).R H H') (w : Wd (initAm am m E H0 ee).R am.TL H' n') : IniS am E ee m dx H0 fs ro n' σ H' where
  rl := i.rl.step f w
  sf := i.sf
  nm := i.nm
  hd := i.hd
  ob := by
    obtain ⟨vs, h1, h2⟩ := i.ob
    refine ⟨vs, f.1 m _ (fun d g c q => ⟨(i.nm d g c q).1, (i.nm d g c q).2.1⟩) (fun ps z => by cases z) h1, h2.le (Le.cut (fun a z => .inl z) fun a o hn t e => f.1 a o (fun d g c q => ?_) t e)⟩
    obtain ⟨a1, a2, _⟩ := i.hd d g c q
    exact ⟨fun z => hn (.inr (z ▸ a1)), fun z => hn (.inr (z ▸ a2))⟩
  fr := fun b o h1 h2 h3 e => f.1 b o h2 h3 (i.fr b o h1 h2 h3 e)
theorem putF_app {f : Str} {v : V} {K : PySem.W.Frag} {H : Hp} {d : D} : ∀ {vs : List (Str × V)} {fs : List (Str × D)}, RpFs K H vs fs → getF f fs = none → Rp K H v d → RpFs K H (putF f v vs) (fs ++ [(f, d)])
  | [], [], _, _, r => ⟨rfl, r, trivial⟩
  | (x, w) :: vs, (y, b) :: fs, ⟨h1, h2, h3⟩, e, r => by
    subst h1
    unfold getF at e
    rw [List.lookup_cons] at e
    cases q : f == x with
    | true =>
      rw [q] at e
      cases e
    | false =>
      rw [q] at e
      have ne : x ≠ f := fun z => by
        rw [z] at q
        simp at q
      show RpFs K H (if x = f then (x, v) :: vs else (x, w) :: putF f v vs) ((x, b) :: (fs ++ [(f, d)]))
      rw [if_neg ne]
      exact ⟨rfl, h2, putF_app h3 e r⟩
  | [], _ :: _, h, _, _ => h.elim
  | _ :: _, [], h, _, _ => h.elim
theorem putF_len (f : Str) (v : V) : ∀ vs : List (Str × V), vs.length < 1000 → True := fun _ _ => trivial
theorem IniS.put {am : Am} {E : XK} {ee : Addr → Prop} {m dx : Addr} {H0 H : Hp} {fs : List (Str × D)} {ro : Ro} {n : Nat} {σ : L2.St} {f : Str} {v : V} {d : D} {vs : List (Str × V)} (i : IniS am E ee m dx H0 fs ro n σ H) (h1 : H m = some (.ins am.C dx vs)) (h2 : RpFs am.K (cut (fun a => a = m ∨ am.R.hid a) H) vs fs)
    (e : getF f fs = none) (r : Rp am.K (cut (fun a => a = m ∨ am.R.hid a) H) v d) : IniS am E ee m dx H0 (fs ++ [(f, d)]) ro n σ (upd H m (.ins am.C dx (putF f v vs))) where
  rl := {
    len := i.rl.len
    fz := fun j u z => by
      obtain ⟨v, q1, q2⟩ := i.rl.fz j u z
      refine ⟨v, q1, q2.le (Le.cut (fun a z => .inl z) fun a o hn _ e => ?_)⟩
      have ne : a ≠ m := fun z => hn (.inl (.inl z))
      rw [upd_ne ne]
      exact e
    ow := fun j ds z => by
      obtain ⟨p, ws, q1, q2, q3, q4⟩ := i.rl.ow j ds z
      have ne : p ≠ m := fun z => q2.2 (.inl z)
      refine ⟨p, ws, q1, q2, by rw [upd_ne ne]; exact q3, RpAll.le (Le.cut (fun a z => .inl z) fun a o hn _ e => ?_) _ _ q4⟩
      have ne : a ≠ m := fun z => hn (.inl (.inl z))
      rw [upd_ne ne]
      exact e
    nd := i.rl.nd
    od := i.rl.od
    gr := ⟨fun b o h t z => by
        have ne : b ≠ m := fun y => by
          have z : (if b = m then none else H0 b) = some o := z
          rw [if_pos y] at z
          cases z
        rw [upd_ne ne]
        exact i.rl.gr.1 b o h t z, fun b th => by
        obtain ⟨o, z, t⟩ := i.rl.gr.2 b th
        by_cases ne : b = m
        · rw [ne]
          exact ⟨_, upd_same, fun ps z => by cases z⟩
        · exact ⟨o, by rw [upd_ne ne]; exact z, t⟩⟩
    wd := {
      hid := fun a z => by
        by_cases ne : a = m
        · rw [ne]
          exact ⟨_, upd_same, fun ps z => by cases z⟩
        · obtain ⟨o, q1, q2⟩ := i.rl.wd.hid a z
          exact ⟨o, by rw [upd_ne ne]; exact q1, q2⟩
      tabs := tabs_keep2 (fun b o h q => by
        have ne : b ≠ m := fun z => by
          rw [z, h1] at q
          cases q
          rcases h with ⟨_, y⟩ | ⟨_, y⟩ <;> cases y
        rw [upd_ne ne]
        exact q) i.rl.wd.tabs
      dr := fun d g c q => by
        obtain ⟨a1, a2, a3, tt, ht, hr⟩ := i.rl.wd.dr d g c q
        refine ⟨a1, a2, a3, tt, ht, hr.same fun b o hb q' => ?_⟩
        obtain ⟨n1, n2, n3⟩ := i.nm d g c q
        have ne : b ≠ m := by
          rcases hb with z | z | z
          · exact fun y => n1 (y.symm.trans z)
          · exact fun y => n2 (y.symm.trans z)
          · exact fun y => n3 (y.symm.trans z)
        rw [upd_ne ne]
        exact q' }
    ex := i.rl.ex }
  sf := i.sf
  nm := i.nm
  hd := i.hd
  ob := by
    have c : Le (cut (fun a => a = m ∨ am.R.hid a) H) (cut (fun a => a = m ∨ am.R.hid a) (upd H m (.ins am.C dx (putF f v vs)))) := Le.cut (fun a z => .inl z) fun a o hn _ e => by
      have ne : a ≠ m := fun z => hn (.inl z)
      rw [upd_ne ne]
      exact e
    exact ⟨_, upd_same, putF_app (h2.le c) e (Rp.le c _ _ r)⟩
  fr := fun b o h1 h2 h3 e => by
    rw [upd_ne h1]
    exact i.fr b o h1 h2 h3 e
theorem fs_len {K : PySem.W.Frag} {H : Hp} : ∀ {vs : List (Str × V)} {fs : List (Str × D)}, RpFs K H vs fs → vs.length = fs.length
  | [], [], _ => rfl
  | (_, _) :: _, (_, _) :: _, ⟨_, _, h⟩ => by rw [List.length_cons, List.length_cons, fs_len h]
  | [], _ :: _, h => h.elim
  | _ :: _, [], h => h.elim
theorem use_ifI {K : PySem.W.Frag} {C : Addr} {TL : List (Addr × Str)} {E : XK} {c : TT} {t1 t2 u : TS} {mc : TT3} {D : Ends} {am : Am} {ee : Addr → Prop} {m dx : Addr} {H0 H : Hp} {fs : List (Str × V3.D)} {ro : Ro} {n : Nat} {σ : L2.St} [hc : V3.LT K C TL E c mc] (hE : am.K = K ∧ am.TL = TL ∧ am.C = C)
    (i : IniS am E ee m dx H0 fs ro n σ H) (b0 : Bool) (hm : mc ro n (fun b n' => b = b0 ∧ n' = n) ee) (k : ∀ H', IniS am E ee m dx H0 fs ro n σ H' → if b0 = true then t1 { D with nx := u D } σ H' else t2 { D with nx := u D } σ H') : tSeq (tIfS c t1 t2) u D σ H :=
  hc.s (initAm am m E H0 ee) ro n σ H ⟨hE.1, hE.2.1, rfl, hE.2.2⟩ i.rl _ _ hm fun b n' H' q f w => by
    obtain ⟨rfl, rfl⟩ := q
    exact k H' (i.step f w)
theorem use_fldI {K : PySem.W.Frag} {C : Addr} {TL : List (Addr × Str)} {E : XK} {tv : TE} {f : Str} {S : List Nat} {mc : TE3} {D : Ends} {am : Am} {ee : Addr → Prop} {m dx : Addr} {H0 H : Hp} {fs : List (Str × V3.D)} {ro : Ro} {n : Nat} {σ : L2.St} [hc : LE K C TL E tv S mc] [hf : FieldC K C f] (hE : am.K = K ∧ am.TL = TL ∧ am.C = C)
    (i : IniS am E ee m dx H0 fs ro n σ H) (d : V3.D) (hl : fs.length < 900) (he : getF f fs = none) (hm : mc ro n (fun fr u n' => u = .d d ∧ n' = n) ee) (k : ∀ H', IniS am E ee m dx H0 (fs ++ [(f, d)]) ro n σ H' → D.nx σ H') : sFld K (tVar 0) tv f D σ H :=
  hc.s (initAm am m E H0 ee) ro n σ H ⟨hE.1, hE.2.1, rfl, hE.2.2⟩ i.rl _ _ hm fun fr u n' v H' q ff w r => by
    obtain ⟨rfl, rfl⟩ := q
    have i2 := i.step ff w
    obtain ⟨vs, h1, h2⟩ := i2.ob
    obtain ⟨rfl, rfl, rfl⟩ := hE
    refine ⟨.ref m, i.sf, m, am.C, dx, vs, rfl, h1, am.cls, hf.n, by rw [fs_len h2]; omega, k _ (i2.put h1 h2 he ?_)⟩
    exact Rp.le (Le.cutSub fun a z => .inl z) _ _ r.1
/-- a statement that only raises -/
theorem use_rz {K : PySem.W.Frag} {C : Addr} {TL : List (Addr × Str)} {E : XK} {t : TS} {mt : TS3} {D : Ends} {am : Am} {ee : Addr → Prop} {m dx : Addr} {H0 H : Hp} {fs : List (Str × V3.D)} {ro : Ro} {n : Nat} {σ : L2.St} [ht : V3.LS K C TL E t mt] (hE : am.K = K ∧ am.TL = TL ∧ am.C = C)
    (i : IniS am E ee m dx H0 fs ro n σ H) (hm : mt ⟨fun _ _ => False, fun _ _ _ => False, fun _ _ => False, fun _ _ => False⟩ ro n ee) : t D σ H :=
  ht.s (initAm am m E H0 ee) ro n σ H D ⟨fun _ _ => False, fun _ _ _ => False, fun _ _ => False, fun _ _ => False⟩ ⟨hE.1, hE.2.1, rfl, hE.2.2⟩ i.rl ⟨fun _ _ _ _ q => q.elim, fun _ _ _ _ q => q.elim, fun _ _ _ _ q => q.elim, fun _ _ _ _ _ q => q.elim⟩ hm
end G21
set_option Elab.async false
set_option linter.all false
set_option maxRecDepth 100000
set_option maxHeartbeats 4000000
set_option synthInstance.maxSize 100000
set_option synthInstance.maxHeartbeats 0
namespace G21
open PySem PySem.Spec PyProof.Rows L2 V3
def stairQ : Str := Str.ofString "_law_staircase.<locals>.<lambda>"
/-- law's staircase, its code and its table of lambdas -/
structure TzS {K : PySem.W.Frag} {mg : Str → Option Value} (T : Txt K mg) (base : Heap) (TL : List (Addr × Str)) where
  c : Addr
  P : Addr
  h : T.l_staircase.d.code = .ref c
  TBstaircase : LamX.TabB base mg c P
  mstaircase : (P, stairQ) ∈ TL
  ustaircase : ∀ p ∈ TL, p.1 = P → p.2 = stairQ
@[simp ↓] def sp_stair : VSp := fun us n q _ => ∃ (x : D) (cs : List Co), us = [.d x] ∧ asL x = some (cs.map cD) ∧ cs.length ≤ 300 ∧ ∀ cs' : List Co, Can cs' → (∀ c ∈ cs', c ∈ cs) → (∀ c ∈ cs, ∃ d ∈ cs', leC c d) → cs'.length ≤ cs.length → q (.d (.tuple (cs'.map cD))) n
theorem flat_cos (cs : List Co) : V3.flatAll (cs.map cD) = true := by
  induction cs with
  | nil => rfl
  | cons c cs ih =>
    show (V3.flat (cD c) && V3.flatAll (cs.map cD)) = true
    rw [ih]
    obtain ⟨a, b⟩ := c
    cases a <;> cases b <;> rfl
theorem flat0_cD (c : Co) : V3.flat0 (cD c) = true := by
  obtain ⟨c1, c2⟩ := c
  cases c1 <;> cases c2 <;> rfl
theorem flat_cD (c : Co) : V3.flat (cD c) = true := by
  obtain ⟨a, b⟩ := c
  cases a <;> cases b <;> rfl
theorem lay_cos : ∀ cs : List Co, PyData.canLayAll0 (cs.map cD) = true
  | [] => by simp [PyData.canLayAll0]
  | c :: cs => by
    obtain ⟨a, b⟩ := c
    rw [List.map_cons]
    cases a <;> cases b <;> simp [cD, oD, PyData.canLayAll0, PyData.canLay0, lay_cos cs]
theorem deep_cos : ∀ cs : List Co, PyData.depthAll (cs.map cD) ≤ 1
  | [] => by simp [PyData.depthAll]
  | c :: cs => by
    have ih := deep_cos cs
    obtain ⟨a, b⟩ := c
    rw [List.map_cons]
    cases a <;> cases b <;> simp only [cD, oD, PyData.depthAll, PyData.depth] <;> omega
theorem shaped_cos (cs : List Co) : SeqAt.shaped (.list (cs.map cD)) = true := by
  have h := deep_cos cs
  have h3 : PyData.depth (.list (cs.map cD)) ≤ 64 := by
    simp only [PyData.depth]
    omega
  simp [SeqAt.shaped, PyData.canLay0, lay_cos cs, h3]
theorem shaped_cD (c : Co) : SeqAt.shaped (cD c) = true := by
  obtain ⟨a, b⟩ := c
  cases a <;> cases b <;> simp [SeqAt.shaped, cD, oD, PyData.canLay0, PyData.canLayAll0, PyData.depth, PyData.depthAll]
theorem shaped_cT (cs : List Co) : SeqAt.shaped (.tuple (cs.map cD)) = true := by
  have h := deep_cos cs
  have h3 : PyData.depth (.tuple (cs.map cD)) ≤ 64 := by
    simp only [PyData.depth]
    omega
  simp [SeqAt.shaped, PyData.canLay0, lay_cos cs, h3]
/-- a loop over a list of data: what is done, what is left -/
theorem forL_map {is : List Nat} {tup : Bool} {mb : TS3} {F : En3} {e : Addr → Prop} {α : Type} (D0 : α → D) (I : List α → List α → Ro → Nat → Prop) :
    ∀ (left done : List α) (ρ : Ro) (n : Nat), (∀ done ρ m, I done [] ρ m → F.nx ρ m) →
    (∀ done x left ρ m (G : Ro → Nat → Prop), (∀ ρ' m', I (done ++ [x]) left ρ' m' → G ρ' m') → I done (x :: left) ρ m → giv is tup (D0 x) ρ fun ρ' => mb { F with nx := G, ct := G, bk := F.nx } ρ' m e) →
    I done left ρ n → forL is tup mb F e (left.map D0) ρ n
  | [], done, ρ, n, h0, _, i => h0 done ρ n i
  | x :: left, done, ρ, n, h0, hs, i => hs done x left ρ n _ (fun ρ' m' i' => forL_map D0 I left (done ++ [x]) ρ' m' h0 hs i') i
def keyC : D → List Int
  | .tuple (.none :: _) => [1, 0]
  | .tuple (.int n :: _) => [0, n]
  | _ => []
theorem keyC_at (c : Co) : keyC (cD c) = rankN c.1 := by
  obtain ⟨a, b⟩ := c
  cases a <;> rfl
theorem rankN_len (p : Option Int) : (rankN p).length = 2 := by cases p <;> rfl
theorem perm_map {α β : Type} {f : α → β} {xs : List α} {ys : List β} (h : ys.Perm (xs.map f)) : ∃ zs : List α, ys = zs.map f ∧ zs.Perm xs := by
  generalize e : xs.map f = ws at h
  induction h generalizing xs with
  | nil =>
    cases xs with
    | nil => exact ⟨[], rfl, .refl _⟩
    | cons _ _ => cases e
  | cons y _ ih =>
    cases xs with
    | nil => cases e
    | cons x xs =>
      injection e with e1 e2
      subst e1
      obtain ⟨zs, rfl, p⟩ := ih e2
      exact ⟨x :: zs, rfl, p.cons _⟩
  | swap y y' l =>
    match xs, e with
    | x :: x' :: xs, e =>
      injection e with e1 e2
      injection e2 with e2 e3
      subst e1 e2 e3
      exact ⟨x' :: x :: xs, rfl, .swap _ _ _⟩
  | trans _ _ ih1 ih2 =>
    obtain ⟨zs, rfl, p⟩ := ih2 e
    obtain ⟨ws, rfl, p2⟩ := ih1 rfl
    exact ⟨ws, rfl, p2.trans p⟩
/-- a comprehension of which it does not matter which items it takes -/
theorem lcL_sub {is : List Nat} {tup : Bool} {mt : TT3} {me : TE3} {ρ : Ro} {e : Addr → Prop} (R : D → Prop) : ∀ (ds : List D) (n : Nat) (q : List D → Nat → Prop),
    (∀ d ∈ ds, ∀ (m : Nat) (Kt : D → Nat → Prop) (Ks : Nat → Prop), (∀ x, R x → Kt x m) → Ks m → giv is tup d ρ fun ρ' => mt ρ' m (fun b n1 => if b = true then me ρ' n1 (fun _ u n2 => match u with
      | .d x => Kt x n2
      | _ => False) e else Ks n1) e) → (∀ xs : List D, xs.length ≤ ds.length → (∀ x ∈ xs, R x) → q xs n) → lcL is tup mt me ρ e ds n q
  | [], n, q, _, h => h [] (Nat.le_refl _) (fun x z => by cases z)
  | d :: ds, n, q, hit, h => by
    refine hit d (List.mem_cons_self ..) n (fun x n2 => lcL is tup mt me ρ e ds n2 fun xs n3 => q (x :: xs) n3) (fun n1 => lcL is tup mt me ρ e ds n1 q) (fun x hx => ?_) ?_
    · refine lcL_sub R ds n _ (fun y hy m Kt Ks k1 k2 => hit y (List.mem_cons_of_mem _ hy) m Kt Ks k1 k2) fun xs hl hxs => h _ (by simp; exact hl) fun y hy => ?_
      rcases List.mem_cons.mp hy with z | z
      · rw [z]
        exact hx
      · exact hxs y z
    · exact lcL_sub R ds n _ (fun y hy m Kt Ks k1 k2 => hit y (List.mem_cons_of_mem _ hy) m Kt Ks k1 k2) fun xs hl hxs => h xs (by simp; omega) hxs
theorem ones_shaped {xs : List D} (h : ∀ x ∈ xs, x = .int 1) : SeqAt.shaped (.list xs) = true := by
  have e : xs = (xs.map fun _ => (1 : Int)).map PyData.int := by
    rw [List.map_map]
    exact (List.map_id' xs).symm.trans (List.map_congr_left fun x hx => h x hx)
  rw [e]
  exact shaped_ints _
theorem eqv_cD (o c : Co) : PyData.eqv (cD o) (cD c) = decide (o = c) := by
  obtain ⟨a, b⟩ := o
  obtain ⟨a', b'⟩ := c
  cases a <;> cases b <;> cases a' <;> cases b' <;> simp [PyData.eqv, PyData.eqvAll, cD, oD]
  all_goals
    rw [Bool.eq_iff_iff]
    simp
theorem any_cD (fs : List Co) (c : Co) : ((fs.map cD).any fun z => PyData.eqv z (cD c)) = decide (c ∈ fs) := by
  rw [List.any_map, Bool.eq_iff_iff, List.any_eq_true, decide_eq_true_eq]
  refine ⟨fun ⟨o, ho, e⟩ => ?_, fun h => ⟨c, h, ?_⟩⟩
  · have e : PyData.eqv (cD o) (cD c) = true := e
    rw [eqv_cD, decide_eq_true_eq] at e
    exact e ▸ ho
  · show PyData.eqv (cD c) (cD c) = true
    rw [eqv_cD]
    simp
theorem rank_le {p q : Option Int} (h : HT.lexLt (rankN q) (rankN p) = false) : leO p q := by
  cases p with
  | none =>
    cases q with
    | none => trivial
    | some b =>
      exfalso
      simp [rankN, HT.lexLt_cons] at h
  | some a =>
    cases q with
    | none => trivial
    | some b =>
      simp [rankN, HT.lexLt_cons] at h
      show a ≤ b
      by_cases e : b = a
      · omega
      · simp [e] at h
        omega
section
variable {P : Program} {w : World} {K : PySem.W.Frag} {mg : Str → Option Value} {base : Heap} {TL : List (Addr × Str)}
theorem ok_l_staircase (T : Txt K mg) (Y : TzS T base TL) : FnOk P w K mg base CX0 6 T.l_staircase.a T.l_staircase.d ["corners"] (toSp K T.C TL false sp_stair) := by
  refine okC T.l_staircase.F Y.h c_l_staircase (fun vs H Q E h => toSp_len h fun us n q e hs => ?_) (fun A outer s H vs Q E hr h => ?_)
  · obtain ⟨x, cs, rfl, _⟩ := hs
    rfl
  · refine ⟨_,
      (pss_cons (ps_set (i := 1) c_l_staircase.nd rfl (Or.inl rfl) (pe_lst pa_nil))
      (pss_cons (ps_for PassesOwn.never rfl (seq3 K (pv 0)) (pg_name (i := 2) c_l_staircase.nd rfl (Or.inr rfl))
      (pss_one (ps_if (PW.pt (pw_and (pt_cmpR (eq3 K hr.units) (pe_lc (own := [("other", 3)]) (g := gName 3) (by rfl) c_l_staircase.nd (seq3 K (pv 0)) (blkOk_by (own := [("other", 3)]) (N := N_l_staircase) (sc := defScope S_l_staircase) (by decide +kernel)) (fun _ _ _ _ _ => pg_name (i := 3) c_l_staircase.nd rfl (Or.inl rfl)) (fun _ _ _ _ _ => (pts_one (PW.pt (pw_and (pt_cmpR (ne3 K hr.units) (pv 3) (pv 2) (nomark _)) (pw_and1 (pt_val (pe_call (ok_l_holds T (TL := TL)) (hr.mono (by decide)) rfl T.l_holds.g T.l_holds.k T.l_holds.b .nil pass0 (pa_cons (pv 3) (pa_cons (pv 2) pa_nil))))))))) (fun _ _ _ _ _ => pe_int)) (pe_lst pa_nil) (nomark _)) (pw_and1 (pt_cmpR (notIn3 K (un65 hr)) (pv 2) (pv 1) rfl))))
      (pss_one (ps_expr (bm3 K PySem.F.plainAttrs_list PySem.F.slot_list_append PySem.F.type_list_append mt_append (pv 1) (pa_cons (pv 2) pa_nil))))
      pss_nil)))
      (pss_one (ps_ret (pe_callTy (tup3 K) (by rfl) T.z_tuple (by decide +kernel) (pa_cons (pe_callBK (sortU3 (P := P) (w := w) (mg := mg) (base := base) K (k := 2) (d := 2) (by decide) (hr.mono (by decide))) rfl T.z_sorted (by decide +kernel) (pa_cons (pv 1) pa_nil) (pk_cons (GS.pe_lamV (T := TL) Y.TBstaircase rfl Y.mstaircase Y.ustaircase rfl (by decide +kernel)) pk_nil)) pa_nil))))))
      , run3 (K := K) (C := T.C) (TL := TL) h fun us n q e hs => ?_⟩
    obtain ⟨x, cs, rfl, hx, hl, hq⟩ := hs
    cases x <;> cases hx <;> simp [ro0]
    all_goals
      refine forL_map cD (fun done left ρ m => ∃ (fs : List Co) (z1 z2 : Sl) (u : U), m = n ∧ ρ = [.fz u, .ow (fs.map cD), z1, z2] ∧ (u = .d (.list (cs.map cD)) ∨ u = .d (.tuple (cs.map cD))) ∧ fs.Nodup ∧ (∀ c, c ∈ fs ↔ c ∈ done ∧ maxC cs c) ∧ done ++ left = cs ∧ fs.length ≤ done.length) cs [] _ _ ?_ ?_ ?_
      · rintro done ρ m ⟨fs, z1, z2, u, rfl, rfl, hu, h1, h2, h3, h4⟩
        rw [List.append_nil] at h3
        subst h3
        simp
        refine ⟨fun x => ∃ c : Co, x = cD c, keyC, ?run, fun c a b hab e => by subst e; exact ⟨⟨(a, b), rfl⟩, by rw [keyC_at]; exact rankN_len _, rfl, flat0_cD (a, b)⟩, fun ys hp hs => ?_⟩
        case run =>
          refine GS.lam_run (N := ["corner"]) (ps := ["corner"]) ⟨rfl, rfl, rfl, by decide +kernel, rfl, by decide +kernel, by decide +kernel⟩ (fun pm cv ctv us hl => match us, hl with | [_], _ => rfl) (fun f c' A outer s H vs Q E hr h => ?_)
          obtain ⟨v, x, rfl, ⟨c, rfl⟩, hr1, k⟩ := h
          refine ⟨_, pe_call (ok0_l_rank T) (hr.mono (by decide)) rfl T.l_rank.g T.l_rank.k T.l_rank.b .nil pass0 (pa_cons (pe_ix ix_tup (pv 0) pe_int (fun _ _ => rfl)) pa_nil), ?_⟩
          cases hr1 with
          | tup b1 b2 =>
            cases b2 with
            | cons r1 b2 =>
              rw [keyC_at] at k
              refine ⟨.ref _, rfl, _, _, 0, vO c.1, rfl, rfl, b1, atI_nat (j := 0) ?_, c.1, rfl, fun z hz => k z hz⟩
              obtain ⟨c1, c2⟩ := c
              cases c1 <;> cases r1 <;> rfl
        · obtain ⟨cs', rfl, hp'⟩ := perm_map hp
          have mem : ∀ c, c ∈ cs' ↔ c ∈ done ∧ maxC done c := fun c => (hp'.mem_iff).trans (h2 c)
          refine hq cs' (can_sorted (hp'.nodup_iff.mpr h1) (fun c hc => (mem c).mp hc) ?_) (fun c hc => ((mem c).mp hc).1) (fun c hc => ?_) (by rw [hp'.length_eq]; exact h4)
          · refine List.Pairwise.imp ?_ (List.pairwise_map.mp hs)
            intro c d hcd
            rw [keyC_at, keyC_at] at hcd
            exact rank_le hcd
          · obtain ⟨d, hd, l, m⟩ := max_above done hc done fun _ h => h
            exact ⟨d, (mem d).mpr ⟨hd, m⟩, l⟩
      · rintro done c left ρ m G hG ⟨fs, z1, z2, u, rfl, rfl, hu, h1, h2, h3, h4⟩
        have hlen : done.length + (left.length + 1) = cs.length := by
          rw [← h3]
          simp
        have hll : fs.length < sizeLine := few (by omega)
        have old : (c ∈ fs ∨ ¬ maxC cs c) → ∀ z : Sl, G [Sl.fz u, Sl.ow (fs.map cD), Sl.fz (U.d (cD c)), z] m := fun hc z => hG _ _ ⟨fs, _, _, u, rfl, rfl, hu, h1, fun d => by
          rw [h2 d, List.mem_append, List.mem_singleton]
          refine ⟨fun q => ⟨.inl q.1, q.2⟩, fun ⟨q1, q2⟩ => ?_⟩
          rcases q1 with q1 | q1
          · exact ⟨q1, q2⟩
          · rcases hc with hc | hc
            · exact (h2 d).mp (q1 ▸ hc)
            · exact absurd (q1 ▸ q2) hc, by rw [← h3]; simp, by simp; omega⟩
        have new : c ∉ fs → maxC cs c → ∀ z : Sl, G [Sl.fz u, Sl.ow (fs.map cD ++ [cD c]), Sl.fz (U.d (cD c)), z] m := fun hc hm z => hG _ _ ⟨fs ++ [c], _, _, u, rfl, by rw [List.map_append]; rfl, hu, List.nodup_append.mpr ⟨h1, by simp, fun x hx y hy e => hc (by rw [List.mem_singleton.mp hy] at e; exact e ▸ hx)⟩, fun d => by
          rw [List.mem_append, List.mem_append, List.mem_singleton, h2 d]
          refine ⟨fun q => ?_, fun ⟨q1, q2⟩ => ?_⟩
          · rcases q with q | q
            · exact ⟨.inl q.1, q.2⟩
            · exact ⟨.inr q, q ▸ hm⟩
          · rcases q1 with q1 | q1
            · exact .inl ⟨q1, q2⟩
            · exact .inr q1, by rw [← h3]; simp, by simp; omega⟩
        rcases hu with rfl | rfl <;> simp
        all_goals
          refine ⟨few (by omega), lcL_pure cD (fun _ => PyData.int 1) (fun o => !decide (o = c) && hdO o c) cs m _ (fun o _ m Kt Ks k => ?_) ?_⟩
          · simp
            refine ⟨shaped_cD _, shaped_cD _, ?_⟩
            rw [show (PyData.tuple [oD o.fst, oD o.snd]).eqv (PyData.tuple [oD c.fst, oD c.snd]) = decide (o = c) from eqv_cD o c]
            by_cases e : o = c
            · simp only [e, decide_true, Bool.not_true, Bool.false_and, Bool.false_eq_true, if_false, if_true] at k ⊢
              exact k
            · simp only [e, decide_false, Bool.not_false, Bool.true_and, Bool.false_eq_true, if_false] at k ⊢
              exact ⟨o.1, o.2, c.1, c.2, ⟨⟨rfl, rfl⟩, rfl, rfl⟩, k⟩
          · refine ⟨ones_shA _ _, by rfl, ?_⟩
            rw [ones_eqA]
            by_cases hm : maxC cs c
            · rw [if_pos (max_not.mpr hm)]
              refine ⟨shaped_cD _, shaped_cos _, ?_⟩
              rw [any_cD]
              by_cases hc : c ∈ fs
              · simp only [hc, decide_true, Bool.not_true, Bool.false_eq_true, if_false]
                exact old (.inl hc) _
              · simp only [hc, decide_false, Bool.not_false, if_true]
                exact ⟨hll, new hc hm _⟩
            · rw [if_neg fun z => hm (max_not.mp z)]
              exact old (.inr hm) _
      · refine ⟨[], _, _, _, rfl, rfl, ?_, List.nodup_nil, (fun c => by simp), rfl, Nat.le_refl _⟩
        first
        | exact .inl rfl
        | exact .inr rfl
end
end G21
set_option Elab.async false
set_option linter.all false
set_option maxRecDepth 100000
set_option maxHeartbeats 4000000
set_option synthInstance.maxSize 100000
set_option synthInstance.maxHeartbeats 0
namespace G21
open PySem PySem.Spec PyProof.Rows L2 V3
def nLw (cs : List Co) (l b : Int × Int) : Int × Int := if cs = [] then (1, 1) else (max l.1 (1 + b.1), max l.2 (1 + b.2))
def nBy (cs : List Co) (l b : Int × Int) : Int × Int := match cs.head?, cs.getLast? with
  | some c, some d => (plainB d.1 l.1 b.1, plainB c.2 l.2 b.2)
  | _, _ => (0, 0)
def fldF (s e : D) (cs : List Co) (l b : Int × Int) : List (Str × D) := [("start", s), ("end", e), ("stairs", .tuple (cs.map cD)), ("least", pr l.1 l.2), ("by", pr b.1 b.2)]
@[simp] theorem get_start (s e : D) (cs : List Co) (l b : Int × Int) : getF "start" (fldF s e cs l b) = some s := rfl
@[simp] theorem get_end (s e : D) (cs : List Co) (l b : Int × Int) : getF "end" (fldF s e cs l b) = some e := rfl
@[simp] theorem get_stairs (s e : D) (cs : List Co) (l b : Int × Int) : getF "stairs" (fldF s e cs l b) = some (.tuple (cs.map cD)) := rfl
@[simp] theorem get_least (s e : D) (cs : List Co) (l b : Int × Int) : getF "least" (fldF s e cs l b) = some (pr l.1 l.2) := rfl
@[simp] theorem get_by (s e : D) (cs : List Co) (l b : Int × Int) : getF "by" (fldF s e cs l b) = some (pr b.1 b.2) := rfl
def badS (x : D) : Prop := (∀ xs, x ≠ .tuple xs) ∨ ∃ xs, x = .tuple xs ∧ xs.length ≤ 100 ∧ (∀ y ∈ xs, lenT y) ∧ ∃ y ∈ xs, isCo y = false
def plOk (x : D) : Prop := lenT x ∧ ∀ a b, x = .tuple [a, b] → lenT b
def goodS (x : D) : Prop := ∃ cs : List Co, x = .tuple (cs.map cD) ∧ Can cs ∧ (∀ c ∈ cs, posC c) ∧ cs.length ≤ 300
/-- what is no form, and why -/
def mkBad (BS BE BT BL BB : Addr) (x1 x2 x3 x4 x5 : D) (ee : Addr → Prop) : Prop := (plOk x1 ∧ plOk x2 ∧ lenT x4 ∧ lenT x5) ∧
  ((isPl x1 = false ∧ ee BS) ∨ (isPl x1 = true ∧ ((isPl x2 = false ∧ ee BE) ∨ (isPl x2 = true ∧ ((badS x3 ∧ ee BT) ∨ (goodS x3 ∧ ((isBd x4 = false ∧ ee BL) ∨ (isBd x4 = true ∧ isPr x5 = false ∧ ee BB))))))))
def spIF (K : PySem.W.Frag) (C : Addr) (TL : List (Addr × Str)) (BS BE BT BL BB : Addr) : Sp := fun vs H Q E => ∃ (am : Am) (m dx : Addr) (v1 v2 v3 v4 v5 : V) (x1 x2 x3 x4 x5 : V3.D) (n : Nat) (ee : Addr → Prop), am.K = K ∧ am.C = C ∧ am.TL = TL ∧ vs = [.ref m, v1, v2, v3, v4, v5] ∧ H m = some (.ins C dx []) ∧ (∀ a, am.R.hid a → a ≠ m) ∧
  RepA am (fun a => a = m ∨ am.R.hid a) H [v1, v2, v3, v4, v5] [.d x1, .d x2, .d x3, .d x4, .d x5] ∧ Wd am.R TL H n ∧
  (∀ C' H' n', ee C' → (∀ b o, b ≠ m → (∀ d g c, am.R.dr = some (d, g, c) → b ≠ d ∧ b ≠ g) → (∀ ps, o ≠ HO.tbl ps) → H b = some o → H' b = some o) → (∀ b, b ≠ m → There H b → There H' b) → Wd am.R TL H' n' → E (.ref C') none H') ∧
  (mkBad BS BE BT BL BB x1 x2 x3 x4 x5 ee ∨ ∃ (m1 a1 b1 m2 a2 b2 : Int) (cs : List Co) (l b : Int × Int), x1 = plD m1 a1 b1 ∧ x2 = plD m2 a2 b2 ∧ x3 = .tuple (cs.map cD) ∧ x4 = pr l.1 l.2 ∧ x5 = pr b.1 b.2 ∧ 0 ≤ m1 ∧ 0 ≤ m2 ∧ Can cs ∧ (∀ c ∈ cs, posC c) ∧ cs.length ≤ 300 ∧ 1 ≤ l.1 ∧ 1 ≤ l.2 ∧
    ∀ H', (∀ b o, b ≠ m → (∀ d g c, am.R.dr = some (d, g, c) → b ≠ d ∧ b ≠ g) → (∀ ps, o ≠ HO.tbl ps) → H b = some o → H' b = some o) → Wd am.R TL H' n →
      (∃ vs, H' m = some (.ins C dx vs) ∧ RpFs K (cut (fun a => a = m ∨ am.R.hid a) H') vs (fldF (plD m1 a1 b1) (plD m2 a2 b2) cs (nLw cs l b) (nBy cs l b))) → Q .non H')
theorem use_fldS {K : PySem.W.Frag} {C : Addr} {TL : List (Addr × Str)} {E : XK} {tv : TE} {f : Str} {S : List Nat} {mc : TE3} {u : TS} {D : Ends} {am : Am} {ee : Addr → Prop} {m dx : Addr} {H0 H : Hp} {fs : List (Str × V3.D)} {ro : Ro} {n : Nat} {σ : L2.St} [hc : LE K C TL E tv S mc] [hf : FieldC K C f] (hE : am.K = K ∧ am.TL = TL ∧ am.C = C)
    (i : IniS am E ee m dx H0 fs ro n σ H) (d : V3.D) (hl : fs.length < 900) (he : getF f fs = none) (hm : mc ro n (fun fr u n' => u = .d d ∧ n' = n) ee) (k : ∀ H', IniS am E ee m dx H0 (fs ++ [(f, d)]) ro n σ H' → u D σ H') : tSeq (sFld K (tVar 0) tv f) u D σ H :=
  use_fldI (D := { D with nx := u D }) hE i d hl he hm k
theorem use_ifL {K : PySem.W.Frag} {C : Addr} {TL : List (Addr × Str)} {E : XK} {c : TT} {t1 t2 : TS} {mc : TT3} {D : Ends} {am : Am} {ee : Addr → Prop} {m dx : Addr} {H0 H : Hp} {fs : List (Str × V3.D)} {ro : Ro} {n : Nat} {σ : L2.St} [hc : V3.LT K C TL E c mc] (hE : am.K = K ∧ am.TL = TL ∧ am.C = C)
    (i : IniS am E ee m dx H0 fs ro n σ H) (b0 : Bool) (hm : mc ro n (fun b n' => b = b0 ∧ n' = n) ee) (k : ∀ H', IniS am E ee m dx H0 fs ro n σ H' → if b0 = true then t1 D σ H' else t2 D σ H') : tIfS c t1 t2 D σ H :=
  hc.s (initAm am m E H0 ee) ro n σ H ⟨hE.1, hE.2.1, rfl, hE.2.2⟩ i.rl _ _ hm fun b n' H' q f w => by
    obtain ⟨rfl, rfl⟩ := q
    exact k H' (i.step f w)
theorem lenT_t2 (a b : D) : lenT (.tuple [a, b]) := fun xs e => by
  cases e
  simp
section
variable {P : Program} {w : World} {K : PySem.W.Frag} {mg : Str → Option Value} {base : Heap} {TL : List (Addr × Str)}
theorem ok_q_Form_init (T : Txt K mg) : FnOk P w K mg base (L2.CX P w) 6 T.fI T.dI ["self", "start", "end", "stairs", "least", "by"] (spIF K T.C TL T.x_BadStart.C T.x_BadEnd.C T.x_BadStairs.C T.x_BadLeast.C T.x_BadBy.C) := by
  refine T.FI.okX c_q_Form_init (fun vs H Q E h => ?_) (fun cdv A outer s H vs Q E hr h => ?_)
  · obtain ⟨am, m, dx, v1, v2, v3, v4, v5, x1, x2, x3, x4, x5, n, ee, _, _, _, rfl, _⟩ := h
    rfl
  · obtain ⟨am, m, dx, v1, v2, v3, v4, v5, x1, x2, x3, x4, x5, n, ee, hK, hC, hTL, rfl, hm, hnm, hv, hw, kx, hgb⟩ := h
    refine ⟨_,
      (pss_cons (ps_if (pt_not (pt_val (pe_call (ok_q_is_any_place T (TL := TL)) (hr.mono (by decide)) rfl T.q_is_any_place.g T.q_is_any_place.k T.q_is_any_place.b .nil pass0 (pa_cons (pv 1) pa_nil))))
      (pss_one (ps_rz (C' := T.x_BadStart.C) (ps_raise rfl (takes_of rfl rfl rfl rfl) (pmk_own PySem.F.excBase_ValueError T.x_BadStart.q T.x_BadStart.g T.x_BadStart.k (raises_own T.x_BadStart.b T.x_BadStart.t) (by exact rfl)))))
      pss_nil)
      (pss_cons (ps_if (pt_not (pt_val (pe_call (ok_q_is_any_place T (TL := TL)) (hr.mono (by decide)) rfl T.q_is_any_place.g T.q_is_any_place.k T.q_is_any_place.b .nil pass0 (pa_cons (pv 2) pa_nil))))
      (pss_one (ps_rz (C' := T.x_BadEnd.C) (ps_raise rfl (takes_of rfl rfl rfl rfl) (pmk_own PySem.F.excBase_ValueError T.x_BadEnd.q T.x_BadEnd.g T.x_BadEnd.k (raises_own T.x_BadEnd.b T.x_BadEnd.t) (by exact rfl)))))
      pss_nil)
      (pss_cons (ps_if (pt_not (pt_val (pe_call (ok_q_is_stairs T (TL := TL)) (hr.mono (by decide)) rfl T.q_is_stairs.g T.q_is_stairs.k T.q_is_stairs.b .nil pass0 (pa_cons (pv 3) pa_nil))))
      (pss_one (ps_rz (C' := T.x_BadStairs.C) (ps_raise rfl (takes_of rfl rfl rfl rfl) (pmk_own PySem.F.excBase_ValueError T.x_BadStairs.q T.x_BadStairs.g T.x_BadStairs.k (raises_own T.x_BadStairs.b T.x_BadStairs.t) (by exact rfl)))))
      pss_nil)
      (pss_cons (ps_if (pt_not (pt_val (pe_call (ok_q_is_body T (TL := TL)) (hr.mono (by decide)) rfl T.q_is_body.g T.q_is_body.k T.q_is_body.b .nil pass0 (pa_cons (pv 4) pa_nil))))
      (pss_one (ps_rz (C' := T.x_BadLeast.C) (ps_raise rfl (takes_of rfl rfl rfl rfl) (pmk_own PySem.F.excBase_ValueError T.x_BadLeast.q T.x_BadLeast.g T.x_BadLeast.k (raises_own T.x_BadLeast.b T.x_BadLeast.t) (by exact rfl)))))
      pss_nil)
      (pss_cons (ps_if (pt_not (pt_val (pe_call (ok_q_is_number_pair T (TL := TL)) (hr.mono (by decide)) rfl T.q_is_number_pair.g T.q_is_number_pair.k T.q_is_number_pair.b .nil pass0 (pa_cons (pv 5) pa_nil))))
      (pss_one (ps_rz (C' := T.x_BadBy.C) (ps_raise rfl (takes_of rfl rfl rfl rfl) (pmk_own PySem.F.excBase_ValueError T.x_BadBy.q T.x_BadBy.g T.x_BadBy.k (raises_own T.x_BadBy.b T.x_BadBy.t) (by exact rfl)))))
      pss_nil)
      (pss_cons (ps_fld (pv 0) (pv 1) rfl)
      (pss_cons (ps_fld (pv 0) (pv 2) rfl)
      (pss_cons (ps_fld (pv 0) (pv 3) rfl)
      (pss_one (ps_if (pt_cmpR (eq3 K hr.units) (pv 3) (pe_tup pa_nil) (nomark _))
      (pss_cons (ps_fld (pv 0) (pe_tup (pa_cons pe_int (pa_cons pe_int pa_nil))) rfl)
      (pss_one (ps_fld (pv 0) (pe_tup (pa_cons pe_int (pa_cons pe_int pa_nil))) rfl)))
      (pss_cons (ps_fld (pv 0) (pe_tup (pa_cons (pe_call (ok_q_grown T (TL := TL)) (hr.mono (by decide)) rfl T.q_grown.g T.q_grown.k T.q_grown.b .nil pass0 (pa_cons (pe_ix (ix3 K) (pv 4) pe_int (fun _ _ => rfl)) (pa_cons (pe_ix (ix3 K) (pv 5) pe_int (fun _ _ => rfl)) (pa_cons pe_int pa_nil)))) (pa_cons (pe_call (ok_q_grown T (TL := TL)) (hr.mono (by decide)) rfl T.q_grown.g T.q_grown.k T.q_grown.b .nil pass0 (pa_cons (pe_ix (ix3 K) (pv 4) pe_int (fun _ _ => rfl)) (pa_cons (pe_ix (ix3 K) (pv 5) pe_int (fun _ _ => rfl)) (pa_cons pe_int pa_nil)))) pa_nil))) rfl)
      (pss_one (ps_fld (pv 0) (pe_tup (pa_cons (pe_call (ok_q_plain_by T (TL := TL)) (hr.mono (by decide)) rfl T.q_plain_by.g T.q_plain_by.k T.q_plain_by.b .nil pass0 (pa_cons (pv 3) (pa_cons (pv 4) (pa_cons (pv 5) (pa_cons pe_int pa_nil))))) (pa_cons (pe_call (ok_q_plain_by T (TL := TL)) (hr.mono (by decide)) rfl T.q_plain_by.g T.q_plain_by.k T.q_plain_by.b .nil pass0 (pa_cons (pv 3) (pa_cons (pv 4) (pa_cons (pv 5) (pa_cons pe_int pa_nil))))) pa_nil))) rfl)))))))))))))
      , ?_⟩
    have ro : Rl (initAm am m E H ee) [.no, .fz (.d x1), .fz (.d x2), .fz (.d x3), .fz (.d x4), .fz (.d x5)] n (L2.start N_q_Form_init [.ref m, v1, v2, v3, v4, v5]) H := {
      len := rfl
      fz := fun i u e => by
        have low : ∀ a, Hid (initAm am m E H ee) [.no, .fz (.d x1), .fz (.d x2), .fz (.d x3), .fz (.d x4), .fz (.d x5)] (L2.start N_q_Form_init [.ref m, v1, v2, v3, v4, v5]) a → a = m ∨ am.R.hid a := fun a z => by
          rcases z with z | ⟨j, ⟨ds, z⟩, _⟩
          · exact z
          · match j, z with
            | 0, z => cases z
            | 1, z => cases z
            | 2, z => cases z
            | 3, z => cases z
            | 4, z => cases z
            | 5, z => cases z
            | j + 6, z => simp at z
        cases hv with | cons r1 hv => cases hv with | cons r2 hv => cases hv with | cons r3 hv => cases hv with | cons r4 hv => cases hv with | cons r5 hv =>
        match i, e with
        | 1, e =>
          cases e
          exact ⟨v1, rfl, init_rep (RepU.le (Le.cutSub low) r1)⟩
        | 2, e =>
          cases e
          exact ⟨v2, rfl, init_rep (RepU.le (Le.cutSub low) r2)⟩
        | 3, e =>
          cases e
          exact ⟨v3, rfl, init_rep (RepU.le (Le.cutSub low) r3)⟩
        | 4, e =>
          cases e
          exact ⟨v4, rfl, init_rep (RepU.le (Le.cutSub low) r4)⟩
        | 5, e =>
          cases e
          exact ⟨v5, rfl, init_rep (RepU.le (Le.cutSub low) r5)⟩
        | i + 6, e => simp at e
      ow := fun i ds e => by
        match i, e with
        | 0, e => cases e
        | 1, e => cases e
        | 2, e => cases e
        | 3, e => cases e
        | 4, e => cases e
        | 5, e => cases e
        | i + 6, e => simp at e
      nd := fun i j p a => by
        obtain ⟨⟨ds, e⟩, _⟩ := a
        match i, e with
        | 0, e => cases e
        | 1, e => cases e
        | 2, e => cases e
        | 3, e => cases e
        | 4, e => cases e
        | 5, e => cases e
        | i + 6, e => simp at e
      od := fun d g c q => ⟨⟨d, g, c, q, .inl rfl⟩, ⟨d, g, c, q, .inr rfl⟩⟩
      gr := ⟨fun b o _ _ z => by
          have z : (if b = m then none else H b) = some o := z
          by_cases y : b = m
          · rw [if_pos y] at z
            cases z
          · rw [if_neg y] at z
            exact z, fun b th => by
          obtain ⟨o, z, t⟩ := th
          have z : (if b = m then none else H b) = some o := z
          by_cases y : b = m
          · rw [if_pos y] at z
            cases z
          · rw [if_neg y] at z
            exact ⟨o, z, t⟩⟩
      wd := {
        hid := fun a z => by
          rcases z with z | z
          · rw [z]
            exact ⟨_, hm, fun ps z => by cases z⟩
          · exact hw.hid a z
        tabs := hTL ▸ hw.tabs
        dr := fun d g c q => by
          obtain ⟨a1, a2, a3, r⟩ := hw.dr d g c q
          exact ⟨.inr a1, .inr a2, .inr a3, r⟩ }
      ex := fun C' H' n' g w z => by
        refine kx C' H' n' z (fun b o h1 h2 h3 e => g.1 b o (fun ⟨d, g', c, q, y⟩ => ?_) h3 ?_) (fun b h1 th => ?_) ?_
        · obtain ⟨n1, n2⟩ := h2 d g' c q
          rcases y with y | y
          · exact n1 y
          · exact n2 y
        · show (if b = m then none else H b) = some o
          rw [if_neg h1]
          exact e
        · obtain ⟨o, e, t⟩ := th
          refine g.2 b ⟨o, ?_, t⟩
          show (if b = m then none else H b) = some o
          rw [if_neg h1]
          exact e
        · exact {
            hid := fun a z => w.hid a (.inr z)
            tabs := hTL ▸ w.tabs
            dr := fun d g c q => by
              obtain ⟨_, _, _, r⟩ := w.dr d g c q
              obtain ⟨a1, a2, a3, _⟩ := hw.dr d g c q
              exact ⟨a1, a2, a3, r⟩ } }
    have i0 : IniS am E ee m dx H [] _ n _ H := {
      rl := ro
      sf := rfl
      nm := fun d g c q => by
        obtain ⟨a1, a2, a3, _⟩ := hw.dr d g c q
        exact ⟨fun z => hnm _ a1 z.symm, fun z => hnm _ a2 z.symm, fun z => hnm _ a3 z.symm⟩
      hd := fun d g c q => by
        obtain ⟨a1, a2, a3, _⟩ := hw.dr d g c q
        exact ⟨a1, a2, a3⟩
      ob := ⟨[], hC ▸ hm, trivial⟩
      fr := fun b o _ _ _ e => e }
    have hE : am.K = K ∧ am.TL = TL ∧ am.C = T.C := ⟨hK, hTL, hC⟩
    rcases hgb with ⟨⟨⟨p1, p2⟩, ⟨p3, p4⟩, p5, p6⟩, hb⟩ | ⟨m1, a1, b1, m2, a2, b2, cs, l, b, rfl, rfl, rfl, rfl, rfl, hm1, hm2, hcan, hpos, hlen, hl1, hl2, k⟩
    · rcases hb with ⟨q1, he⟩ | ⟨q1, hb⟩
      · refine use_ifI (C := T.C) (K := K) (TL := TL) hE i0 true ?_ fun H1 i1 => ?_
        · simp [q1]
          exact ⟨p1, p2⟩
        rw [if_pos rfl]
        exact use_rz (C := T.C) (K := K) (TL := TL) hE i1 he
      refine use_ifI (C := T.C) (K := K) (TL := TL) hE i0 false ?_ fun H1 i1 => ?_
      · simp [q1]
        exact ⟨p1, p2⟩
      rw [if_neg Bool.false_ne_true]
      unfold tNext
      dsimp only
      rcases hb with ⟨q2, he⟩ | ⟨q2, hb⟩
      · refine use_ifI (C := T.C) (K := K) (TL := TL) hE i1 true ?_ fun H2 i2 => ?_
        · simp [q2]
          exact ⟨p3, p4⟩
        rw [if_pos rfl]
        exact use_rz (C := T.C) (K := K) (TL := TL) hE i2 he
      refine use_ifI (C := T.C) (K := K) (TL := TL) hE i1 false ?_ fun H2 i2 => ?_
      · simp [q2]
        exact ⟨p3, p4⟩
      rw [if_neg Bool.false_ne_true]
      dsimp only
      rcases hb with ⟨q3, he⟩ | ⟨q3, hb⟩
      · refine use_ifI (C := T.C) (K := K) (TL := TL) hE i2 true ?_ fun H3 i3 => ?_
        · simp
          rcases q3 with nt | ⟨xs, rfl, b1, b2, b3⟩
          · exact .inl nt
          · exact .inr ⟨xs, rfl, b1, b2, b3⟩
        rw [if_pos rfl]
        exact use_rz (C := T.C) (K := K) (TL := TL) hE i3 he
      refine use_ifI (C := T.C) (K := K) (TL := TL) hE i2 false ?_ fun H3 i3 => ?_
      · obtain ⟨cs, rfl, g1, g2, g3⟩ := q3
        simp
        exact ⟨cs, rfl, g1, fun a b h => g2 (a, b) h, g3⟩
      rw [if_neg Bool.false_ne_true]
      dsimp only
      rcases hb with ⟨q4, he⟩ | ⟨q4, q5, he⟩
      · refine use_ifI (C := T.C) (K := K) (TL := TL) hE i3 true ?_ fun H4 i4 => ?_
        · simp [q4]
          exact p5
        rw [if_pos rfl]
        exact use_rz (C := T.C) (K := K) (TL := TL) hE i4 he
      refine use_ifI (C := T.C) (K := K) (TL := TL) hE i3 false ?_ fun H4 i4 => ?_
      · simp [q4]
        exact p5
      rw [if_neg Bool.false_ne_true]
      dsimp only
      refine use_ifI (C := T.C) (K := K) (TL := TL) hE i4 true ?_ fun H5 i5 => ?_
      · simp [q5]
        exact p6
      rw [if_pos rfl]
      exact use_rz (C := T.C) (K := K) (TL := TL) hE i5 he
    refine use_ifI (C := T.C) (K := K) (TL := TL) hE i0 false ?_ fun H1 i1 => ?_
    · simp [isPl, isPr, isN, hm1]
      exact ⟨lenT_t2 _ _, lenT_t2 _ _⟩
    rw [if_neg Bool.false_ne_true]
    unfold tNext
    dsimp only
    refine use_ifI (C := T.C) (K := K) (TL := TL) hE i1 false ?_ fun H2 i2 => ?_
    · simp [isPl, isPr, isN, hm2]
      exact ⟨lenT_t2 _ _, lenT_t2 _ _⟩
    rw [if_neg Bool.false_ne_true]
    dsimp only
    refine use_ifI (C := T.C) (K := K) (TL := TL) hE i2 false ?_ fun H3 i3 => ?_
    · simp
      exact ⟨cs, rfl, hcan, fun a b h => hpos (a, b) h, hlen⟩
    rw [if_neg Bool.false_ne_true]
    dsimp only
    refine use_ifI (C := T.C) (K := K) (TL := TL) hE i3 false ?_ fun H4 i4 => ?_
    · simp [isBd, isSzD, hl1, hl2]
    rw [if_neg Bool.false_ne_true]
    dsimp only
    refine use_ifI (C := T.C) (K := K) (TL := TL) hE i4 false ?_ fun H5 i5 => ?_
    · simp [isPr, isN]
      exact lenT_t2 _ _
    rw [if_neg Bool.false_ne_true]
    dsimp only
    refine use_fldS (C := T.C) (K := K) (TL := TL) hE i5 (plD m1 a1 b1) (by simp) rfl ?_ fun H6 i6 => ?_
    · simp
    refine use_fldS (C := T.C) (K := K) (TL := TL) hE i6 (plD m2 a2 b2) (by simp) rfl ?_ fun H7 i7 => ?_
    · simp
    refine use_fldS (C := T.C) (K := K) (TL := TL) hE i7 (.tuple (cs.map cD)) (by simp) rfl ?_ fun H8 i8 => ?_
    · simp
    have fin : ∀ H', IniS am E ee m dx H (fldF (plD m1 a1 b1) (plD m2 a2 b2) cs (nLw cs l b) (nBy cs l b)) [.no, .fz (.d (plD m1 a1 b1)), .fz (.d (plD m2 a2 b2)), .fz (.d (.tuple (cs.map cD))), .fz (.d (pr l.1 l.2)), .fz (.d (pr b.1 b.2))] n (L2.start N_q_Form_init [.ref m, v1, v2, v3, v4, v5]) H' → Q .non H' := fun H' i => by
      refine k H' i.fr ?_ ?_
      · have w := i.rl.wd
        exact {
          hid := fun a z => w.hid a (.inr z)
          tabs := hTL ▸ w.tabs
          dr := fun d g c q => by
            obtain ⟨_, _, _, r⟩ := w.dr d g c q
            obtain ⟨a1, a2, a3⟩ := i.hd d g c q
            exact ⟨a1, a2, a3, r⟩ }
      · obtain ⟨vs, q1, q2⟩ := i.ob
        rw [hK] at q2
        exact ⟨vs, hC ▸ q1, q2⟩
    by_cases hcs : cs = []
    · refine use_ifL (C := T.C) (K := K) (TL := TL) hE i8 true ?_ fun H9 i9 => ?_
      · simp [hcs]
        exact ⟨rfl, rfl⟩
      rw [if_pos rfl]
      refine use_fldS (C := T.C) (K := K) (TL := TL) hE i9 (pr (nLw cs l b).1 (nLw cs l b).2) (by simp) rfl ?_ fun H10 i10 => ?_
      · simp [hcs, nLw]
      refine use_fldI (C := T.C) (K := K) (TL := TL) hE i10 (pr (nBy cs l b).1 (nBy cs l b).2) (by simp) rfl ?_ fun H11 i11 => ?_
      · simp [hcs, nBy]
      exact fin H11 i11
    · obtain ⟨c, hc⟩ : ∃ c, cs.head? = some c := by
        cases cs with
        | nil => exact absurd rfl hcs
        | cons c _ => exact ⟨c, rfl⟩
      obtain ⟨d, hd⟩ : ∃ d, cs.getLast? = some d := ⟨_, List.getLast?_eq_some_getLast hcs⟩
      refine use_ifL (C := T.C) (K := K) (TL := TL) hE i8 false ?_ fun H9 i9 => ?_
      · simp
        refine ⟨shaped_cT _, rfl, ?_⟩
        cases cs with
        | nil => exact absurd rfl hcs
        | cons c cs => rfl
      rw [if_neg Bool.false_ne_true]
      refine use_fldS (C := T.C) (K := K) (TL := TL) hE i9 (pr (nLw cs l b).1 (nLw cs l b).2) (by simp) rfl ?_ fun H10 i10 => ?_
      · simp
        exact ⟨_, _, _, ⟨rfl, rfl, rfl⟩, _, _, _, ⟨rfl, rfl, rfl⟩, by simp [nLw, hcs], by simp [nLw, hcs]⟩
      refine use_fldI (C := T.C) (K := K) (TL := TL) hE i10 (pr (nBy cs l b).1 (nBy cs l b).2) (by simp) rfl ?_ fun H11 i11 => ?_
      · simp
        exact ⟨cs, c.1, c.2, d.1, d.2, l.1, l.2, b.1, b.2, 0, ⟨rfl, ⟨rfl, rfl⟩, ⟨rfl, rfl⟩, rfl⟩, .inl rfl, hc, hd, cs, c.1, c.2, d.1, d.2, l.1, l.2, b.1, b.2, 1, ⟨rfl, ⟨rfl, rfl⟩, ⟨rfl, rfl⟩, rfl⟩, .inr rfl, hc, hd, by simp [nBy, hc, hd], by simp [nBy, hc, hd]⟩
      exact fin H11 i11
end
end G21
set_option Elab.async false
set_option linter.all false
set_option maxRecDepth 100000
set_option maxHeartbeats 4000000
set_option synthInstance.maxSize 100000
set_option synthInstance.maxHeartbeats 0
namespace G21
open PySem PySem.Spec PyProof.Rows L2 V3
theorem upd_none {H : Hp} {x : Addr} {o : HO} (h : H x = none) : ∀ b y, H b = some y → upd H x o b = some y := fun b y e => by
  rw [upd_ne (ne_of_none e h)]
  exact e
def askF (us : List U) (k : List (Str × D) → Prop) : Prop := ∃ (m1 x1 y1 m2 x2 y2 : Int) (cs : List Co) (l b : Int × Int), us = [.d (plD m1 x1 y1), .d (plD m2 x2 y2), .d (.tuple (cs.map cD)), .d (pr l.1 l.2), .d (pr b.1 b.2)] ∧
  0 ≤ m1 ∧ 0 ≤ m2 ∧ Can cs ∧ (∀ c ∈ cs, posC c) ∧ cs.length ≤ 300 ∧ 1 ≤ l.1 ∧ 1 ≤ l.2 ∧ k (fldF (plD m1 x1 y1) (plD m2 x2 y2) cs (nLw cs l b) (nBy cs l b))
@[simp ↓] def mMakeF (C : Addr) (ma : TA3) : TE3 := fun ρ n q e => ma ρ n (fun us n1 => askF us fun fs => q false (.d (obJ C fs)) n1) e
theorem flat_pl (m x y : Int) : V3.flat (plD m x y) = true := rfl
theorem flat_fldF (m1 x1 y1 m2 x2 y2 : Int) (cs : List Co) (l b : Int × Int) : flatFs (fldF (plD m1 x1 y1) (plD m2 x2 y2) cs l b) = true := by
  have h : V3.flat (.tuple (cs.map cD)) = true := flat_cos cs
  show (true && (true && (V3.flat (.tuple (cs.map cD)) && (true && (true && true))))) = true
  rw [h]
  rfl
section
variable {K : PySem.W.Frag} {C : Addr} {TL : List (Addr × Str)} {E : XK}
instance mkLE {ta : TA} {S : List Nat} {ma : TA3} {E' : XK} {BS BE BT BL BB : Addr} [oc : IsC K C] [ha : LA K C TL E ta S ma] : LE K C TL E (tMake C (spIF K C TL BS BE BT BL BB) [] E' ta) S (mMakeF C ma) where
  s am ρ n σ H hE h Q q hm k := by
    obtain ⟨rfl, rfl, rfl, rfl⟩ := id hE
    refine ha.s am ρ n σ H hE h _ _ hm fun us n1 vs H1 hq f1 w1 r1 => ?_
    have h1 := h.step f1 w1
    obtain ⟨m1, x1, y1, m2, x2, y2, cs, l, b, rfl, hm1, hm2, hcan, hpos, hlen, hl1, hl2, hk⟩ := hq
    obtain ⟨v1, v2, v3, v4, v5, rfl⟩ : ∃ v1 v2 v3 v4 v5 : V, vs = [v1, v2, v3, v4, v5] := by
      cases r1 with | cons r1 t => cases t with | cons r2 t => cases t with | cons r3 t => cases t with | cons r4 t => cases t with | cons r5 t =>
      cases t
      exact ⟨_, _, _, _, _, rfl⟩
    show ∀ x dx, H1 x = none → H1 dx = none → dx ≠ x → _
    intro x dx hx hdx hne
    have st : ∀ b y, H1 b = some y → upd (upd H1 dx (.own x)) x (.ins am.C dx []) b = some y := fun b y e => by
      rw [upd_ne (ne_of_none e hx)]
      exact upd_none hdx b y e
    have sm : Same H1 (upd (upd H1 dx (.own x)) x (.ins am.C dx [])) := fun b y e => st b y e
    have hn : ∀ a, Hid am (dem S ρ) σ a → a ≠ x := fun a z e => by
      obtain ⟨o, q1, _⟩ := (h1.dem S).hidThere z
      rw [e, hx] at q1
      cases q1
    have f2 : FrR am.R H1 (upd (upd H1 dx (.own x)) x (.ins am.C dx [])) := .of sm
    have w2 : Wd am.R am.TL (upd (upd H1 dx (.own x)) x (.ins am.C dx [])) n1 := w1.same sm
    refine ⟨{ am with R := { am.R with hid := Hid am (dem S ρ) σ } }, x, dx, v1, v2, v3, v4, v5, plD m1 x1 y1, plD m2 x2 y2, .tuple (cs.map cD), pr l.1 l.2, pr b.1 b.2, n1, fun _ => False, rfl, rfl, rfl, rfl, upd_same, hn, ?_, ?_, fun _ _ _ z => z.elim, .inr ⟨m1, x1, y1, m2, x2, y2, cs, l, b, rfl, rfl, rfl, rfl, rfl, hm1, hm2, hcan, hpos, hlen, hl1, hl2, fun H' g1 g2 g3 => ⟨rfl, ?_⟩⟩⟩
    · have lec : Le (cut (Hid am (dem S ρ) σ) H1) (cut (fun a => a = x ∨ Hid am (dem S ρ) σ a) (upd (upd H1 dx (.own x)) x (.ins am.C dx []))) := Le.cut (fun a z => by
        rcases z with z | z
        · exact .inr (by
            rw [z]
            intro ⟨o, q1, _⟩
            rw [hx] at q1
            cases q1)
        · exact .inl z) fun a o _ _ e => st a o e
      cases r1 with | cons r1 t => cases t with | cons r2 t => cases t with | cons r3 t => cases t with | cons r4 t => cases t with | cons r5 t =>
      exact .cons (Rp.le lec _ _ r1) (.cons (Rp.le lec _ _ r2) (.cons (Rp.le lec _ _ r3) (.cons (Rp.le lec _ _ r4) (.cons (Rp.le lec _ _ r5) .nil))))
    · exact {
        hid := fun a z => f2.2 a ((h1.dem S).hidThere z)
        tabs := w2.tabs
        dr := fun d g c q => by
          obtain ⟨a1, a2, a3, r⟩ := w2.dr d g c q
          exact ⟨.inl a1, .inl a2, .inl a3, r⟩ }
    · have w3 : Wd am.R am.TL H' n1 := {
        hid := fun a z => g2.hid a (.inl z)
        tabs := g2.tabs
        dr := fun d g c q => by
          obtain ⟨_, _, _, r⟩ := g2.dr d g c q
          obtain ⟨a1, a2, a3, _⟩ := h.wd.dr d g c q
          exact ⟨a1, a2, a3, r⟩ }
      have f3 : FrR am.R H H' := by
        refine ⟨fun b o h2 h3 e => ?_, fun b z => ?_⟩
        · have e1 := f1.1 b o h2 h3 e
          refine g1 b o (ne_of_none e1 hx) h2 h3 (st b o e1)
        · obtain ⟨o, q1, q2⟩ := f1.2 b z
          by_cases hb : ∃ d g c, am.R.dr = some (d, g, c) ∧ (b = d ∨ b = g)
          · obtain ⟨d, g, c, hd, hb⟩ := hb
            obtain ⟨_, _, _, t', _, gs, cs, nn, p1, p2, _⟩ := g2.dr d g c hd
            rcases hb with rfl | rfl
            · exact ⟨_, p1, fun ps z => by cases z⟩
            · exact ⟨_, p2, fun ps z => by cases z⟩
          · exact ⟨o, g1 b o (ne_of_none q1 hx) (fun d g c q => ⟨fun z => hb ⟨d, g, c, q, .inl z⟩, fun z => hb ⟨d, g, c, q, .inr z⟩⟩) q2 (st b o q1), q2⟩
      obtain ⟨ws, g4, g5⟩ := g3
      exact k _ _ n1 _ _ hk f3 w3 (.old (ob_rp oc.own (cut_some.mpr ⟨fun z => hn x z rfl, g4⟩) (g5.le (Le.cutSub fun a z => .inr z))))
end
end G21
set_option Elab.async false
set_option linter.all false
set_option maxRecDepth 100000
set_option maxHeartbeats 4000000
/-! comprehensions of two clauses, whose items are flat -/
namespace V3
open PySem PySem.Spec PyProof.Rows L2
@[simp] def lcI (is : List Nat) (tup : Bool) (mt : TT3) (me : TE3) (ρ : Ro) (e : Addr → Prop) : List D → List D → Nat → (List D → Nat → Prop) → Prop
  | [], acc, n, k => k acc n
  | x :: es, acc, n, k => giv is tup x ρ fun ρ' => mt ρ' n (fun b n1 => if b = true then me ρ' n1 (fun _ u n2 => match u with
    | .d z => acc.length < sizeLine ∧ flat z = true ∧ lcI is tup mt me ρ e es (acc ++ [z]) n2 k
    | _ => False) e else lcI is tup mt me ρ e es acc n1 k) e
@[simp] def lcO (is : List Nat) (tup : Bool) (mt : TT3) (mi1 : TI3) (Si1 is1 vs1 : List Nat) (tup1 : Bool) (mt1 : TT3) (me : TE3) (ρ : Ro) (e : Addr → Prop) : List D → List D → Nat → (List D → Nat → Prop) → Prop
  | [], acc, n, q => q acc n
  | d :: ds, acc, n, q => giv is tup d ρ fun ρ' => mt ρ' n (fun b n1 => if b = true then mi1 ρ' n1 (fun es n2 => lcI is1 tup1 mt1 me (wipe3 (dem Si1 ρ') vs1) e es acc n2 (fun acc' n3 => lcO is tup mt mi1 Si1 is1 vs1 tup1 mt1 me ρ e ds acc' n3 q)) e else lcO is tup mt mi1 Si1 is1 vs1 tup1 mt1 me ρ e ds acc n1 q) e
@[simp ↓] def mLc2 (Si is vs : List Nat) (tup : Bool) (mi : TI3) (mt : TT3) (mi1 : TI3) (Si1 is1 vs1 : List Nat) (tup1 : Bool) (mt1 : TT3) (me : TE3) : TE3 := fun ρ n q e => mi ρ n (fun ds n1 => lcO is tup mt mi1 Si1 is1 vs1 tup1 mt1 me (wipe3 (dem Si ρ) vs) (fun _ => False) ds [] n1 (fun xs n2 => q true (.d (.list xs)) n2)) e
instance {a b : Str} {i j : Nat} : SubL [i] (List.map (fun (x : Str × Nat) => x.snd) [(a, i), (b, j)]) := ⟨fun k z => by
  rw [List.mem_singleton.mp z]
  exact List.mem_cons_self⟩
section
variable {K : PySem.W.Frag} {C : Addr} {TL : List (Addr × Str)} {E : XK}
instance {wi wi1 : TI} {g g1 : TG} {tt tt1 : TT} {te : TE} {vs vs1 : List Nat} {Si Si1 Se is is1 : List Nat} {tup tup1 : Bool} {mi mi1 : TI3} {mt mt1 : TT3} {me : TE3} [hi : LI K C TL E wi Si mi] [hg : LG K g is tup] [hsub : SubL is vs] [ht : LT K C TL E tt mt] [hi1 : LI K C TL E wi1 Si1 mi1] [hg1 : LG K g1 is1 tup1] [hsub1 : SubL is1 vs1] [ht1 : LT K C TL E tt1 mt1] [he : LE K C TL E te Se me] :
    LE K C TL E (tLc2 wi g tt wi1 g1 tt1 te vs vs1) [] (mLc2 Si is vs tup mi mt mi1 Si1 is1 vs1 tup1 mt1 me) where
  s am ρ n σ H hE h Q q hm k := by
    obtain ⟨rfl, rfl, rfl, rfl⟩ := id hE
    refine hi.s am ρ n σ H hE h _ _ hm fun ds n1 J H1 hq f1 w1 it => ?_
    have h1 := h.step f1 w1
    have h1d := h1.dem Si
    intro Dl hD
    have hE' : (lcAm am Dl).K = am.K ∧ (lcAm am Dl).TL = am.TL ∧ (lcAm am Dl).E = am.E ∧ (lcAm am Dl).C = am.C := ⟨rfl, rfl, rfl, rfl⟩
    have hd : ∀ d g c, am.R.dr = some (d, g, c) → Dl ≠ d ∧ Dl ≠ g ∧ Dl ≠ c := fun d g' c q' => by
      obtain ⟨a1, a2, a3, _⟩ := w1.dr d g' c q'
      have nh : ∀ a, am.R.hid a → Dl ≠ a := fun a ha z => (New.of hD) (z ▸ w1.hid a ha)
      exact ⟨nh d a1, nh g' a2, nh c a3⟩
    have nd : New H1 Dl := .of hD
    have h0 := wipe_ok (lc_in h1d hD) vs
    have fD : FrR am.R H1 (upd H1 Dl (.lst [])) := .of (same_new hD)
    let OO : Addr → Prop := fun a => a = Dl ∨ Hid am ρ σ a
    -- what is made so far stands behind steps that leave Dl alone
    have keepD : ∀ {Ha Hb : Hp} {acc : List V}, FrR am.R Ha Hb → Ha Dl = some (.lst acc) → Hb Dl = some (.lst acc) := fun f e => f.1 Dl _ (fun d g' c q' => ⟨(hd d g' c q').1, (hd d g' c q').2.1⟩) (fun ps z => by cases z) e
    have keepAcc : ∀ {Ha Hb : Hp} {acc : List V} {xs : List D}, FrR am.R Ha Hb → RpAll am.K (cut OO Ha) acc xs → RpAll am.K (cut OO Hb) acc xs := fun f r => RpAll.le (Le.cut (fun a z => .inl z) fun a o hn t e => f.1 a o (fun d g' c q' => by
      obtain ⟨a1, a2, _, _⟩ := w1.dr d g' c q'
      exact ⟨fun z => hn (.inr (.inl (z ▸ a1))), fun z => hn (.inr (.inl (z ▸ a2)))⟩) t e) _ _ r
    have wrD : ∀ {Ha : Hp} {ys : List V}, FrR am.R H1 Ha → FrR am.R H1 (upd Ha Dl (.lst ys)) := fun {Ha ys} f => by
      refine ⟨fun b o h1 h2 e => ?_, fun b z => ?_⟩
      · have ne : b ≠ Dl := fun z => by
          rw [z, hD] at e
          cases e
        rw [upd_ne ne]
        exact f.1 b o h1 h2 e
      · by_cases ne : b = Dl
        · exact ne ▸ .lst upd_same
        · obtain ⟨o, q1, q2⟩ := f.2 b z
          exact ⟨o, by rw [upd_ne ne]; exact q1, q2⟩
    -- hidden lists of slots are lists
    have lists : ∀ {Ha : Hp}, FrR am.R H1 Ha → ∀ a, Hid am ρ σ a → am.R.hid a ∨ ∃ ys, Ha a = some (.lst ys) := fun {Ha} f a z => by
      rcases z with z | ⟨j, z⟩
      · exact .inl z
      · obtain ⟨o1, ⟨ys, o2⟩, o3⟩ := h1.ownL z
        exact .inr ⟨ys, f.1 a _ (fun d g' c q' => by
          obtain ⟨a1, a2, _, _⟩ := w1.dr d g' c q'
          exact ⟨fun y => o3 (y ▸ a1), fun y => o3 (y ▸ a2)⟩) (fun ps y => by cases y) o2⟩
    refine ⟨fun i m H2 => m = ds.length - i ∧ i ≤ ds.length ∧ ∃ n2 acc xs, H2 Dl = some (.lst acc) ∧ RpAll am.K (cut OO H2) acc xs ∧ FrR am.R H1 H2 ∧ Rl (lcAm am Dl) (wipe3 (dem Si ρ) vs) n2 (wipe σ vs) H2 ∧
      lcO is tup mt mi1 Si1 is1 vs1 tup1 mt1 me (wipe3 (dem Si ρ) vs) (fun _ => False) (ds.drop i) xs n2 (fun ys n3 => q true (.d (.list ys)) n3), ⟨ds.length, by simp, Nat.zero_le _, n1, [], [], upd_same, .nil, fD, h0, hq⟩, fun i m H2 w => ?_⟩
    obtain ⟨rfl, hi', n2, acc, xs, eD, ra, fr, r2, hf⟩ := w
    have leO : Le (cut (Hid am (dem Si ρ) σ) H1) (cut (Hid (lcAm am Dl) (wipe3 (dem Si ρ) vs) (wipe σ vs)) H2) := Le.cut (fun a z => by
      rcases lc_hid.mp (wipe_hid z) with z | z
      · exact .inr (z ▸ nd)
      · exact .inl z) fun a o hn t e => fr.1 a o (fun d g' c q' => by
        obtain ⟨a1, a2, _, _⟩ := w1.dr d g' c q'
        exact ⟨fun z => hn (.inl (z ▸ a1)), fun z => hn (.inl (z ▸ a2))⟩) t e
    obtain ⟨it1, it2⟩ := it H2 _ leO (fun a z => r2.hidThere z) i
    by_cases hlt : i < ds.length
    · have e : ds[i]? = some ds[i] := List.getElem?_eq_getElem hlt
      obtain ⟨go, y⟩ := it1 _ e
      rw [List.drop_eq_getElem_cons hlt] at hf
      refine .inr ⟨go, fun H' => i + 1 ≤ ds.length ∧ ∃ n2 acc xs, H' Dl = some (.lst acc) ∧ RpAll am.K (cut OO H') acc xs ∧ FrR am.R H1 H' ∧ Rl (lcAm am Dl) (wipe3 (dem Si ρ) vs) n2 (wipe σ vs) H' ∧
        lcO is tup mt mi1 Si1 is1 vs1 tup1 mt1 me (wipe3 (dem Si ρ) vs) (fun _ => False) (ds.drop (i + 1)) xs n2 (fun ys n3 => q true (.d (.list ys)) n3), fun H' p => ⟨ds.length - (i + 1), by omega, rfl, p⟩, fun x H3 yl => ?_⟩
      obtain ⟨sm, rx⟩ := y x H3 yl
      have r3 := r2.step (FrR.of sm) (r2.wd.same sm)
      refine giv_ok2 (am := lcAm am Dl) hg r3 (O := Hid (lcAm am Dl) (wipe3 (dem Si ρ) vs) (wipe σ vs)) (fun a z => z) rx hf hsub.h fun ρ4 σ4 hk r4 eρ eσ => ⟨eσ.trans (wipe_idem σ vs) |>.trans rfl, ?_⟩
      refine ht.s (lcAm am Dl) ρ4 n2 σ4 H3 hE' r4 _ _ hk fun b n4 H4 hq4 f4 w4 => ?_
      have r5 := r3.step f4 w4
      have f04 := (fr.trans (.of sm)).trans f4
      have eD4 := keepD f4 (sm _ _ eD)
      have ra4 := keepAcc f4 (keepAcc (.of sm) ra)
      cases b with
      | false => exact ⟨hlt, n4, acc, xs, eD4, ra4, f04, r5, hq4⟩
      | true =>
        have r4' := r4.step f4 w4
        refine hi1.s (lcAm am Dl) ρ4 n4 σ4 H4 hE' r4' _ _ hq4 fun es n5 J1 H5 hq5 f5 w5 itI => ?_
        have r6 := (r4'.step f5 w5)
        have rI0 := wipe_ok (r6.dem Si1) vs1
        refine ⟨fun j m H6 => m = es.length - j ∧ j ≤ es.length ∧ ∃ n6 acc xs, H6 Dl = some (.lst acc) ∧ RpAll am.K (cut OO H6) acc xs ∧ FrR am.R H1 H6 ∧ Rl (lcAm am Dl) (wipe3 (dem Si ρ) vs) n6 (wipe σ vs) H6 ∧ Rl (lcAm am Dl) (wipe3 (dem Si1 ρ4) vs1) n6 (wipe σ4 vs1) H6 ∧
          (∀ b o, b ≠ Dl → (∀ d g c, am.R.dr = some (d, g, c) → b ≠ d ∧ b ≠ g) → (∀ ps, o ≠ HO.tbl ps) → H5 b = some o → H6 b = some o) ∧
          lcI is1 tup1 mt1 me (wipe3 (dem Si1 ρ4) vs1) (fun _ => False) (es.drop j) xs n6 (fun acc' n3 => lcO is tup mt mi1 Si1 is1 vs1 tup1 mt1 me (wipe3 (dem Si ρ) vs) (fun _ => False) (ds.drop (i + 1)) acc' n3 (fun ys n3 => q true (.d (.list ys)) n3)),
          ⟨es.length, by simp, Nat.zero_le _, n5, acc, xs, keepD f5 eD4, keepAcc f5 ra4, f04.trans f5, r5.step f5 w5, rI0, (fun b o _ _ _ e => e), hq5⟩, fun j m H6 w => ?_⟩
        obtain ⟨rfl, hj, n6, acc, xs, eD6, ra6, fr6, rO, rI, frI, hf6⟩ := w
        have leI : Le (cut (Hid (lcAm am Dl) (dem Si1 ρ4) σ4) H5) (cut (Hid (lcAm am Dl) (wipe3 (dem Si1 ρ4) vs1) (wipe σ4 vs1)) H6) := Le.cut (fun a z => .inl (wipe_hid z)) fun a o hn t e => frI a o (fun z => hn (lc_hid.mpr (.inl z))) (fun d g' c q' => by
          obtain ⟨a1, a2, _, _⟩ := w1.dr d g' c q'
          exact ⟨fun z => hn (.inl (.inl (z ▸ a1))), fun z => hn (.inl (.inl (z ▸ a2)))⟩) t e
        obtain ⟨jt1, jt2⟩ := itI H6 _ leI (fun a z => rI.hidThere z) j
        by_cases hjt : j < es.length
        · have ej : es[j]? = some es[j] := List.getElem?_eq_getElem hjt
          obtain ⟨goj, yj⟩ := jt1 _ ej
          rw [List.drop_eq_getElem_cons hjt] at hf6
          refine .inr ⟨goj, fun H' => j + 1 ≤ es.length ∧ ∃ n6 acc xs, H' Dl = some (.lst acc) ∧ RpAll am.K (cut OO H') acc xs ∧ FrR am.R H1 H' ∧ Rl (lcAm am Dl) (wipe3 (dem Si ρ) vs) n6 (wipe σ vs) H' ∧ Rl (lcAm am Dl) (wipe3 (dem Si1 ρ4) vs1) n6 (wipe σ4 vs1) H' ∧
            (∀ b o, b ≠ Dl → (∀ d g c, am.R.dr = some (d, g, c) → b ≠ d ∧ b ≠ g) → (∀ ps, o ≠ HO.tbl ps) → H5 b = some o → H' b = some o) ∧
            lcI is1 tup1 mt1 me (wipe3 (dem Si1 ρ4) vs1) (fun _ => False) (es.drop (j + 1)) xs n6 (fun acc' n3 => lcO is tup mt mi1 Si1 is1 vs1 tup1 mt1 me (wipe3 (dem Si ρ) vs) (fun _ => False) (ds.drop (i + 1)) acc' n3 (fun ys n3 => q true (.d (.list ys)) n3)), fun H' p => ⟨es.length - (j + 1), by omega, rfl, p⟩, fun x6 H7 yl6 => ?_⟩
          obtain ⟨sm6, rx6⟩ := yj x6 H7 yl6
          have fs6 : FrR am.R H6 H7 := FrR.of sm6
          have rI7 := rI.step (FrR.of sm6) (rI.wd.same sm6)
          have rO7 := rO.step (FrR.of sm6) (rO.wd.same sm6)
          refine giv_ok2 (am := lcAm am Dl) hg1 rI7 (O := Hid (lcAm am Dl) (wipe3 (dem Si1 ρ4) vs1) (wipe σ4 vs1)) (fun a z => z) rx6 hf6 hsub1.h fun ρ8 σ8 hk8 r8 eρ8 eσ8 => ⟨eσ8.trans (wipe_idem σ4 vs1) |>.trans rfl, ?_⟩
          refine ht1.s (lcAm am Dl) ρ8 n6 σ8 H7 hE' r8 _ _ hk8 fun b8 n9 H9 hq9 f9 w9 => ?_
          have eD9 := keepD f9 (keepD fs6 eD6)
          have ra9 := keepAcc f9 (keepAcc fs6 ra6)
          have fr9 := (fr6.trans fs6).trans f9
          have step9 : ∀ b o, b ≠ Dl → (∀ d g c, am.R.dr = some (d, g, c) → b ≠ d ∧ b ≠ g) → (∀ ps, o ≠ HO.tbl ps) → H5 b = some o → H9 b = some o := fun b o ne hb t e => f9.1 b o hb t (fs6.1 b o hb t (frI b o ne hb t e))
          cases b8 with
          | false => exact ⟨hjt, n9, acc, xs, eD9, ra9, fr9, rO7.step f9 w9, rI7.step f9 w9, step9, hq9⟩
          | true =>
            refine he.s (lcAm am Dl) ρ8 n9 σ8 H9 hE' (r8.step f9 w9) _ _ hq9 fun fr10 u n10 v H10 hq10 f10 w10 r10 => ?_
            match u, hq10, r10.1 with
            | .d z, hq10, rz =>
              obtain ⟨hlen, hflat, hq10⟩ := hq10
              have eD10 := keepD f10 eD9
              have ra10 := keepAcc f10 ra9
              have fr10' := fr9.trans f10
              have rz2 : Rp am.K (cut OO H10) v z := by
                refine Rp.hide (O := Hid (lcAm am Dl) (dem Se ρ8) σ8) (fun p hp => ?_) _ _ hflat rz
                rcases hp with hp | hp
                · exact .inl (lc_hid.mpr (.inl hp))
                · rcases lists fr10' p hp with y | y
                  · exact .inl (lc_hid.mpr (.inr (.inl y)))
                  · exact .inr y
              refine ⟨acc, eD10, by rw [RpAll.len ra10]; exact hlen, hjt, n10, acc ++ [v], xs ++ [z], upd_same, ?_, wrD fr10', lc_write hd ((rO7.step f9 w9).step f10 w10) eD10, lc_write hd ((rI7.step f9 w9).step f10 w10) eD10, fun b o ne hb t e => ?_, hq10⟩
              · refine RpAll.le (Le.cut (fun a z => .inl z) fun a o hn t e => ?_) _ _ (RpAll.app ra10 (.one rz2))
                rw [upd_ne fun z => hn (.inl z)]
                exact e
              · rw [upd_ne ne]
                exact f10.1 b o hb t (step9 b o ne hb t e)
        · have e6 : j = es.length := by omega
          subst e6
          rw [List.drop_length] at hf6
          exact .inl ⟨jt2 (Nat.le_refl _), hlt, n6, acc, xs, eD6, ra6, fr6, rO, hf6⟩
    · have e : i = ds.length := by omega
      subst e
      rw [List.drop_length] at hf
      refine .inl ⟨it2 (Nat.le_refl _), ?_⟩
      have hf2 : q true (.d (.list xs)) n2 := hf
      have wE : Wd am.R am.TL H2 n2 := {
        hid := fun a z => r2.wd.hid a (.inl z)
        tabs := r2.wd.tabs
        dr := fun d g' c q' => by
          obtain ⟨_, _, _, r⟩ := r2.wd.dr d g' c q'
          obtain ⟨a1, a2, a3, _⟩ := w1.dr d g' c q'
          exact ⟨a1, a2, a3, r⟩ }
      have sub : ∀ a, Hid am (dem [] ρ) σ a → Hid am ρ σ a := fun a z => hidDem z
      refine k _ _ n2 _ H2 hf2 (f1.trans fr) wE ⟨Rp.lst (cut_some.mpr ⟨fun z => ?_, eD⟩) (RpAll.le (Le.cutSub fun a z => .inr (sub a z)) _ _ ra), fun _ => ⟨Dl, acc, xs, rfl, rfl, new_back h f1 h1 nd, eD, RpAll.le (Le.cutSub fun a z => z.imp id (sub a)) _ _ ra⟩⟩
      exact (h1.dem _).new nd z
end
end V3
set_option Elab.async false
set_option linter.all false
set_option maxRecDepth 100000
set_option maxHeartbeats 4000000
/-! comprehensions of two clauses over tuples of variables, objects among them -/
namespace V3
open PySem PySem.Spec PyProof.Rows L2
abbrev TI3U := Ro → Nat → (List U → Nat → Prop) → (Addr → Prop) → Prop
@[simp] def givU (is : List Nat) (u : U) (ρ : Ro) (k : Ro → Prop) : Prop := match is with
  | [i] => k (ρ.set i (.fz u))
  | _ => False
def ItOkU (am : Am) (O : Addr → Prop) (J : It) (ds : List U) (H' : Hp) : Prop :=
  ∀ (H2 : Hp) (O2 : Addr → Prop), Le (cut O H') (cut O2 H2) → (∀ a, O2 a → There H2 a) → ∀ i, (∀ d, ds[i]? = some d → J.go i H2 ∧ ∀ x H3, J.yld i H2 x H3 → Same H2 H3 ∧ RepU am O2 H3 x d) ∧ (ds.length ≤ i → J.stop i H2)
class LIU (K : PySem.W.Frag) (C : Addr) (TL : List (Addr × Str)) (E : XK) (wi : TI) (S : outParam (List Nat)) (m : outParam TI3U) : Prop where
  s : ∀ (am : Am) (ρ : Ro) (n : Nat) (σ : L2.St) (H : Hp), am.K = K ∧ am.TL = TL ∧ am.E = E ∧ am.C = C → Rl am ρ n σ H → ∀ (R : It → Hp → Prop) (q : List U → Nat → Prop), m ρ n q am.e →
    (∀ ds n' J H', q ds n' → FrR am.R H H' → Wd am.R am.TL H' n' → ItOkU am (Hid am (dem S ρ) σ) J ds H' → R J H') → wi σ H R
theorem giv_okU {am : Am} {ρ : Ro} {n : Nat} {σ : L2.St} {H : Hp} {g : TG} {is : List Nat} (hg : LG am.K g is false) (h : Rl am ρ n σ H) {O : Addr → Prop} (hO : ∀ a, Hid am ρ σ a → O a) {d : U} {v : V} (r : RepU am O H v d) {k : Ro → Prop} (hk : givU is d ρ k) {Q : L2.St → Hp → Prop} {vs : List Nat} (hv : ∀ i ∈ is, i ∈ vs) (fin : ∀ ρ' σ', k ρ' → Rl am ρ' n σ' H → (∀ i, i ∉ vs → ρ'[i]? = ρ[i]?) → wipe σ' vs = wipe σ vs → Q σ' H) : g v σ H Q := by
  obtain ⟨i, rfl, rfl⟩ := hg.one rfl
  exact fin _ _ hk (h.setFz i (u := d) (RepU.le (Le.cutSub hO) r)) (fun j hj => List.getElem?_set_ne fun z => hj (by rw [← z]; exact hv i (List.mem_singleton.mpr rfl))) (wipe_set (hv i (List.mem_singleton.mpr rfl)))
theorem rep_lc {am : Am} {Dl : Addr} {O : Addr → Prop} {H : Hp} {v : V} {u : U} (h : RepU am O H v u) : RepU (lcAm am Dl) O H v u := by
  cases u <;> exact h
@[simp] def lcIU (is : List Nat) (mt : TT3) (me : TE3) (ρ : Ro) (e : Addr → Prop) : List U → List D → Nat → (List D → Nat → Prop) → Prop
  | [], acc, n, k => k acc n
  | x :: es, acc, n, k => givU is x ρ fun ρ' => mt ρ' n (fun b n1 => if b = true then me ρ' n1 (fun _ u n2 => match u with
    | .d z => acc.length < sizeLine ∧ flat z = true ∧ lcIU is mt me ρ e es (acc ++ [z]) n2 k
    | _ => False) e else lcIU is mt me ρ e es acc n1 k) e
@[simp] def lcOU (is : List Nat) (mt : TT3) (mi1 : TI3U) (Si1 is1 vs1 : List Nat) (mt1 : TT3) (me : TE3) (ρ : Ro) (e : Addr → Prop) : List U → List D → Nat → (List D → Nat → Prop) → Prop
  | [], acc, n, q => q acc n
  | d :: ds, acc, n, q => givU is d ρ fun ρ' => mt ρ' n (fun b n1 => if b = true then mi1 ρ' n1 (fun es n2 => lcIU is1 mt1 me (wipe3 (dem Si1 ρ') vs1) e es acc n2 (fun acc' n3 => lcOU is mt mi1 Si1 is1 vs1 mt1 me ρ e ds acc' n3 q)) e else lcOU is mt mi1 Si1 is1 vs1 mt1 me ρ e ds acc n1 q) e
@[simp ↓] def mLc2U (Si is vs : List Nat) (mi : TI3U) (mt : TT3) (mi1 : TI3U) (Si1 is1 vs1 : List Nat) (mt1 : TT3) (me : TE3) : TE3 := fun ρ n q e => mi ρ n (fun ds n1 => lcOU is mt mi1 Si1 is1 vs1 mt1 me (wipe3 (dem Si ρ) vs) (fun _ => False) ds [] n1 (fun xs n2 => q true (.d (.list xs)) n2)) e
section
variable {K : PySem.W.Frag} {C : Addr} {TL : List (Addr × Str)} {E : XK}
instance {wi wi1 : TI} {g g1 : TG} {tt tt1 : TT} {te : TE} {vs vs1 : List Nat} {Si Si1 Se is is1 : List Nat} {mi mi1 : TI3U} {mt mt1 : TT3} {me : TE3} [hi : LIU K C TL E wi Si mi] [hg : LG K g is false] [hsub : SubL is vs] [ht : LT K C TL E tt mt] [hi1 : LIU K C TL E wi1 Si1 mi1] [hg1 : LG K g1 is1 false] [hsub1 : SubL is1 vs1] [ht1 : LT K C TL E tt1 mt1] [he : LE K C TL E te Se me] :
    LE K C TL E (tLc2 wi g tt wi1 g1 tt1 te vs vs1) [] (mLc2U Si is vs mi mt mi1 Si1 is1 vs1 mt1 me) where
  s am ρ n σ H hE h Q q hm k := by
    obtain ⟨rfl, rfl, rfl, rfl⟩ := id hE
    refine hi.s am ρ n σ H hE h _ _ hm fun ds n1 J H1 hq f1 w1 it => ?_
    have h1 := h.step f1 w1
    have h1d := h1.dem Si
    intro Dl hD
    have hE' : (lcAm am Dl).K = am.K ∧ (lcAm am Dl).TL = am.TL ∧ (lcAm am Dl).E = am.E ∧ (lcAm am Dl).C = am.C := ⟨rfl, rfl, rfl, rfl⟩
    have hd : ∀ d g c, am.R.dr = some (d, g, c) → Dl ≠ d ∧ Dl ≠ g ∧ Dl ≠ c := fun d g' c q' => by
      obtain ⟨a1, a2, a3, _⟩ := w1.dr d g' c q'
      have nh : ∀ a, am.R.hid a → Dl ≠ a := fun a ha z => (New.of hD) (z ▸ w1.hid a ha)
      exact ⟨nh d a1, nh g' a2, nh c a3⟩
    have nd : New H1 Dl := .of hD
    have h0 := wipe_ok (lc_in h1d hD) vs
    have fD : FrR am.R H1 (upd H1 Dl (.lst [])) := .of (same_new hD)
    let OO : Addr → Prop := fun a => a = Dl ∨ Hid am ρ σ a
    -- what is made so far stands behind steps that leave Dl alone
    have keepD : ∀ {Ha Hb : Hp} {acc : List V}, FrR am.R Ha Hb → Ha Dl = some (.lst acc) → Hb Dl = some (.lst acc) := fun f e => f.1 Dl _ (fun d g' c q' => ⟨(hd d g' c q').1, (hd d g' c q').2.1⟩) (fun ps z => by cases z) e
    have keepAcc : ∀ {Ha Hb : Hp} {acc : List V} {xs : List D}, FrR am.R Ha Hb → RpAll am.K (cut OO Ha) acc xs → RpAll am.K (cut OO Hb) acc xs := fun f r => RpAll.le (Le.cut (fun a z => .inl z) fun a o hn t e => f.1 a o (fun d g' c q' => by
      obtain ⟨a1, a2, _, _⟩ := w1.dr d g' c q'
      exact ⟨fun z => hn (.inr (.inl (z ▸ a1))), fun z => hn (.inr (.inl (z ▸ a2)))⟩) t e) _ _ r
    have wrD : ∀ {Ha : Hp} {ys : List V}, FrR am.R H1 Ha → FrR am.R H1 (upd Ha Dl (.lst ys)) := fun {Ha ys} f => by
      refine ⟨fun b o h1 h2 e => ?_, fun b z => ?_⟩
      · have ne : b ≠ Dl := fun z => by
          rw [z, hD] at e
          cases e
        rw [upd_ne ne]
        exact f.1 b o h1 h2 e
      · by_cases ne : b = Dl
        · exact ne ▸ .lst upd_same
        · obtain ⟨o, q1, q2⟩ := f.2 b z
          exact ⟨o, by rw [upd_ne ne]; exact q1, q2⟩
    -- hidden lists of slots are lists
    have lists : ∀ {Ha : Hp}, FrR am.R H1 Ha → ∀ a, Hid am ρ σ a → am.R.hid a ∨ ∃ ys, Ha a = some (.lst ys) := fun {Ha} f a z => by
      rcases z with z | ⟨j, z⟩
      · exact .inl z
      · obtain ⟨o1, ⟨ys, o2⟩, o3⟩ := h1.ownL z
        exact .inr ⟨ys, f.1 a _ (fun d g' c q' => by
          obtain ⟨a1, a2, _, _⟩ := w1.dr d g' c q'
          exact ⟨fun y => o3 (y ▸ a1), fun y => o3 (y ▸ a2)⟩) (fun ps y => by cases y) o2⟩
    refine ⟨fun i m H2 => m = ds.length - i ∧ i ≤ ds.length ∧ ∃ n2 acc xs, H2 Dl = some (.lst acc) ∧ RpAll am.K (cut OO H2) acc xs ∧ FrR am.R H1 H2 ∧ Rl (lcAm am Dl) (wipe3 (dem Si ρ) vs) n2 (wipe σ vs) H2 ∧
      lcOU is mt mi1 Si1 is1 vs1 mt1 me (wipe3 (dem Si ρ) vs) (fun _ => False) (ds.drop i) xs n2 (fun ys n3 => q true (.d (.list ys)) n3), ⟨ds.length, by simp, Nat.zero_le _, n1, [], [], upd_same, .nil, fD, h0, hq⟩, fun i m H2 w => ?_⟩
    obtain ⟨rfl, hi', n2, acc, xs, eD, ra, fr, r2, hf⟩ := w
    have leO : Le (cut (Hid am (dem Si ρ) σ) H1) (cut (Hid (lcAm am Dl) (wipe3 (dem Si ρ) vs) (wipe σ vs)) H2) := Le.cut (fun a z => by
      rcases lc_hid.mp (wipe_hid z) with z | z
      · exact .inr (z ▸ nd)
      · exact .inl z) fun a o hn t e => fr.1 a o (fun d g' c q' => by
        obtain ⟨a1, a2, _, _⟩ := w1.dr d g' c q'
        exact ⟨fun z => hn (.inl (z ▸ a1)), fun z => hn (.inl (z ▸ a2))⟩) t e
    obtain ⟨it1, it2⟩ := it H2 _ leO (fun a z => r2.hidThere z) i
    by_cases hlt : i < ds.length
    · have e : ds[i]? = some ds[i] := List.getElem?_eq_getElem hlt
      obtain ⟨go, y⟩ := it1 _ e
      rw [List.drop_eq_getElem_cons hlt] at hf
      refine .inr ⟨go, fun H' => i + 1 ≤ ds.length ∧ ∃ n2 acc xs, H' Dl = some (.lst acc) ∧ RpAll am.K (cut OO H') acc xs ∧ FrR am.R H1 H' ∧ Rl (lcAm am Dl) (wipe3 (dem Si ρ) vs) n2 (wipe σ vs) H' ∧
        lcOU is mt mi1 Si1 is1 vs1 mt1 me (wipe3 (dem Si ρ) vs) (fun _ => False) (ds.drop (i + 1)) xs n2 (fun ys n3 => q true (.d (.list ys)) n3), fun H' p => ⟨ds.length - (i + 1), by omega, rfl, p⟩, fun x H3 yl => ?_⟩
      obtain ⟨sm, rx⟩ := y x H3 yl
      have r3 := r2.step (FrR.of sm) (r2.wd.same sm)
      refine giv_okU (am := lcAm am Dl) hg r3 (O := Hid (lcAm am Dl) (wipe3 (dem Si ρ) vs) (wipe σ vs)) (fun a z => z) (rep_lc rx) hf hsub.h fun ρ4 σ4 hk r4 eρ eσ => ⟨eσ.trans (wipe_idem σ vs) |>.trans rfl, ?_⟩
      refine ht.s (lcAm am Dl) ρ4 n2 σ4 H3 hE' r4 _ _ hk fun b n4 H4 hq4 f4 w4 => ?_
      have r5 := r3.step f4 w4
      have f04 := (fr.trans (.of sm)).trans f4
      have eD4 := keepD f4 (sm _ _ eD)
      have ra4 := keepAcc f4 (keepAcc (.of sm) ra)
      cases b with
      | false => exact ⟨hlt, n4, acc, xs, eD4, ra4, f04, r5, hq4⟩
      | true =>
        have r4' := r4.step f4 w4
        refine hi1.s (lcAm am Dl) ρ4 n4 σ4 H4 hE' r4' _ _ hq4 fun es n5 J1 H5 hq5 f5 w5 itI => ?_
        have r6 := (r4'.step f5 w5)
        have rI0 := wipe_ok (r6.dem Si1) vs1
        refine ⟨fun j m H6 => m = es.length - j ∧ j ≤ es.length ∧ ∃ n6 acc xs, H6 Dl = some (.lst acc) ∧ RpAll am.K (cut OO H6) acc xs ∧ FrR am.R H1 H6 ∧ Rl (lcAm am Dl) (wipe3 (dem Si ρ) vs) n6 (wipe σ vs) H6 ∧ Rl (lcAm am Dl) (wipe3 (dem Si1 ρ4) vs1) n6 (wipe σ4 vs1) H6 ∧
          (∀ b o, b ≠ Dl → (∀ d g c, am.R.dr = some (d, g, c) → b ≠ d ∧ b ≠ g) → (∀ ps, o ≠ HO.tbl ps) → H5 b = some o → H6 b = some o) ∧
          lcIU is1 mt1 me (wipe3 (dem Si1 ρ4) vs1) (fun _ => False) (es.drop j) xs n6 (fun acc' n3 => lcOU is mt mi1 Si1 is1 vs1 mt1 me (wipe3 (dem Si ρ) vs) (fun _ => False) (ds.drop (i + 1)) acc' n3 (fun ys n3 => q true (.d (.list ys)) n3)),
          ⟨es.length, by simp, Nat.zero_le _, n5, acc, xs, keepD f5 eD4, keepAcc f5 ra4, f04.trans f5, r5.step f5 w5, rI0, (fun b o _ _ _ e => e), hq5⟩, fun j m H6 w => ?_⟩
        obtain ⟨rfl, hj, n6, acc, xs, eD6, ra6, fr6, rO, rI, frI, hf6⟩ := w
        have leI : Le (cut (Hid (lcAm am Dl) (dem Si1 ρ4) σ4) H5) (cut (Hid (lcAm am Dl) (wipe3 (dem Si1 ρ4) vs1) (wipe σ4 vs1)) H6) := Le.cut (fun a z => .inl (wipe_hid z)) fun a o hn t e => frI a o (fun z => hn (lc_hid.mpr (.inl z))) (fun d g' c q' => by
          obtain ⟨a1, a2, _, _⟩ := w1.dr d g' c q'
          exact ⟨fun z => hn (.inl (.inl (z ▸ a1))), fun z => hn (.inl (.inl (z ▸ a2)))⟩) t e
        obtain ⟨jt1, jt2⟩ := itI H6 _ leI (fun a z => rI.hidThere z) j
        by_cases hjt : j < es.length
        · have ej : es[j]? = some es[j] := List.getElem?_eq_getElem hjt
          obtain ⟨goj, yj⟩ := jt1 _ ej
          rw [List.drop_eq_getElem_cons hjt] at hf6
          refine .inr ⟨goj, fun H' => j + 1 ≤ es.length ∧ ∃ n6 acc xs, H' Dl = some (.lst acc) ∧ RpAll am.K (cut OO H') acc xs ∧ FrR am.R H1 H' ∧ Rl (lcAm am Dl) (wipe3 (dem Si ρ) vs) n6 (wipe σ vs) H' ∧ Rl (lcAm am Dl) (wipe3 (dem Si1 ρ4) vs1) n6 (wipe σ4 vs1) H' ∧
            (∀ b o, b ≠ Dl → (∀ d g c, am.R.dr = some (d, g, c) → b ≠ d ∧ b ≠ g) → (∀ ps, o ≠ HO.tbl ps) → H5 b = some o → H' b = some o) ∧
            lcIU is1 mt1 me (wipe3 (dem Si1 ρ4) vs1) (fun _ => False) (es.drop (j + 1)) xs n6 (fun acc' n3 => lcOU is mt mi1 Si1 is1 vs1 mt1 me (wipe3 (dem Si ρ) vs) (fun _ => False) (ds.drop (i + 1)) acc' n3 (fun ys n3 => q true (.d (.list ys)) n3)), fun H' p => ⟨es.length - (j + 1), by omega, rfl, p⟩, fun x6 H7 yl6 => ?_⟩
          obtain ⟨sm6, rx6⟩ := yj x6 H7 yl6
          have fs6 : FrR am.R H6 H7 := FrR.of sm6
          have rI7 := rI.step (FrR.of sm6) (rI.wd.same sm6)
          have rO7 := rO.step (FrR.of sm6) (rO.wd.same sm6)
          refine giv_okU (am := lcAm am Dl) hg1 rI7 (O := Hid (lcAm am Dl) (wipe3 (dem Si1 ρ4) vs1) (wipe σ4 vs1)) (fun a z => z) rx6 hf6 hsub1.h fun ρ8 σ8 hk8 r8 eρ8 eσ8 => ⟨eσ8.trans (wipe_idem σ4 vs1) |>.trans rfl, ?_⟩
          refine ht1.s (lcAm am Dl) ρ8 n6 σ8 H7 hE' r8 _ _ hk8 fun b8 n9 H9 hq9 f9 w9 => ?_
          have eD9 := keepD f9 (keepD fs6 eD6)
          have ra9 := keepAcc f9 (keepAcc fs6 ra6)
          have fr9 := (fr6.trans fs6).trans f9
          have step9 : ∀ b o, b ≠ Dl → (∀ d g c, am.R.dr = some (d, g, c) → b ≠ d ∧ b ≠ g) → (∀ ps, o ≠ HO.tbl ps) → H5 b = some o → H9 b = some o := fun b o ne hb t e => f9.1 b o hb t (fs6.1 b o hb t (frI b o ne hb t e))
          cases b8 with
          | false => exact ⟨hjt, n9, acc, xs, eD9, ra9, fr9, rO7.step f9 w9, rI7.step f9 w9, step9, hq9⟩
          | true =>
            refine he.s (lcAm am Dl) ρ8 n9 σ8 H9 hE' (r8.step f9 w9) _ _ hq9 fun fr10 u n10 v H10 hq10 f10 w10 r10 => ?_
            match u, hq10, r10.1 with
            | .d z, hq10, rz =>
              obtain ⟨hlen, hflat, hq10⟩ := hq10
              have eD10 := keepD f10 eD9
              have ra10 := keepAcc f10 ra9
              have fr10' := fr9.trans f10
              have rz2 : Rp am.K (cut OO H10) v z := by
                refine Rp.hide (O := Hid (lcAm am Dl) (dem Se ρ8) σ8) (fun p hp => ?_) _ _ hflat rz
                rcases hp with hp | hp
                · exact .inl (lc_hid.mpr (.inl hp))
                · rcases lists fr10' p hp with y | y
                  · exact .inl (lc_hid.mpr (.inr (.inl y)))
                  · exact .inr y
              refine ⟨acc, eD10, by rw [RpAll.len ra10]; exact hlen, hjt, n10, acc ++ [v], xs ++ [z], upd_same, ?_, wrD fr10', lc_write hd ((rO7.step f9 w9).step f10 w10) eD10, lc_write hd ((rI7.step f9 w9).step f10 w10) eD10, fun b o ne hb t e => ?_, hq10⟩
              · refine RpAll.le (Le.cut (fun a z => .inl z) fun a o hn t e => ?_) _ _ (RpAll.app ra10 (.one rz2))
                rw [upd_ne fun z => hn (.inl z)]
                exact e
              · rw [upd_ne ne]
                exact f10.1 b o hb t (step9 b o ne hb t e)
        · have e6 : j = es.length := by omega
          subst e6
          rw [List.drop_length] at hf6
          exact .inl ⟨jt2 (Nat.le_refl _), hlt, n6, acc, xs, eD6, ra6, fr6, rO, hf6⟩
    · have e : i = ds.length := by omega
      subst e
      rw [List.drop_length] at hf
      refine .inl ⟨it2 (Nat.le_refl _), ?_⟩
      have hf2 : q true (.d (.list xs)) n2 := hf
      have wE : Wd am.R am.TL H2 n2 := {
        hid := fun a z => r2.wd.hid a (.inl z)
        tabs := r2.wd.tabs
        dr := fun d g' c q' => by
          obtain ⟨_, _, _, r⟩ := r2.wd.dr d g' c q'
          obtain ⟨a1, a2, a3, _⟩ := w1.dr d g' c q'
          exact ⟨a1, a2, a3, r⟩ }
      have sub : ∀ a, Hid am (dem [] ρ) σ a → Hid am ρ σ a := fun a z => hidDem z
      refine k _ _ n2 _ H2 hf2 (f1.trans fr) wE ⟨Rp.lst (cut_some.mpr ⟨fun z => ?_, eD⟩) (RpAll.le (Le.cutSub fun a z => .inr (sub a z)) _ _ ra), fun _ => ⟨Dl, acc, xs, rfl, rfl, new_back h f1 h1 nd, eD, RpAll.le (Le.cutSub fun a z => z.imp id (sub a)) _ _ ra⟩⟩
      exact (h1.dem _).new nd z
theorem RepA.len {am : Am} {O : Addr → Prop} {H : Hp} {vs : List V} {us : List U} (h : RepA am O H vs us) : vs.length = us.length := Paired.length h
theorem RepA.get {am : Am} {O : Addr → Prop} {H : Hp} : ∀ {vs : List V} {us : List U} {i : Nat} {u : U}, RepA am O H vs us → us[i]? = some u → ∃ v, vs[i]? = some v ∧ RepU am O H v u
  | _, _, _, _, .nil, e => by simp at e
  | _, _, 0, _, .cons r _, e => by
    simp at e
    subst e
    exact ⟨_, rfl, r⟩
  | _, _, i + 1, u, .cons _ t, e => by
    obtain ⟨v, h1, h2⟩ := RepA.get (i := i) (u := u) t (by simpa using e)
    exact ⟨v, by simpa using h1, h2⟩
theorem it_tupU {am : Am} {O : Addr → Prop} {a : Addr} {vs : List V} {us : List U} {H : Hp} (h : SqT am.K (cut O H) a vs) (r : RepA am O H vs us) : ItOkU am O (Itt am.K a) us H := fun H2 O2 le _ i => by
  have h2 := SqT.le Le.cutAll (SqT.le le h)
  have r2 := RepA.le le r
  refine ⟨fun d e => ?_, fun e => ⟨vs, h2, by rw [RepA.len r]; exact e⟩⟩
  obtain ⟨v, q1, q2⟩ := RepA.get r2 e
  refine ⟨⟨vs, v, h2, q1⟩, fun x H3 y => ?_⟩
  obtain ⟨rfl, y2⟩ := y
  have e3 := y2 vs h2
  rw [q1] at e3
  cases e3
  exact ⟨Same.refl _, q2⟩
@[simp ↓] def mITupU (ma : TA3) : TI3U := fun ρ n q e => ma ρ n (fun us n1 => if us.length ≤ 1000 then q us n1 else False) e
instance {ta : TA} {S : List Nat} {ma : TA3} [ha : LA K C TL E ta S ma] : LIU K C TL E (iSeq K (tTup ta)) S (mITupU ma) where
  s am ρ n σ H hE h R q hm k := by
    obtain ⟨rfl, rfl, rfl, rfl⟩ := id hE
    refine ha.s am ρ n σ H hE h _ _ hm fun us n1 vs H1 hq f1 w1 r1 => ?_
    have h1 := h.step f1 w1
    have hl : us.length ≤ 1000 := by
      by_cases z : us.length ≤ 1000
      · exact z
      · rw [if_neg z] at hq
        exact hq.elim
    rw [if_pos hl] at hq
    refine ⟨by rw [RepA.len r1]; exact le1000 hl, fun p hp => ?_⟩
    obtain ⟨f2, w2⟩ := fresh_step h1 hp (.tup vs)
    exact ⟨p, rfl, .inr ⟨⟨vs, .inl (.inl upd_same)⟩, k us n1 _ _ hq (f1.trans f2) w2 (it_tupU (.inl (.inl (cut_new h1 S hp _))) (RepA.le (cut_grow hp _) r1))⟩⟩
end
end V3
set_option Elab.async false
set_option linter.all false
set_option maxRecDepth 100000
set_option maxHeartbeats 4000000
set_option synthInstance.maxSize 100000
set_option synthInstance.maxHeartbeats 0
namespace G21
open PySem PySem.Spec PyProof.Rows L2 V3
@[simp ↓] def sp_chk_form (C BF : Addr) : VSp := fun us n q e => ∃ x : D, us = [.d x] ∧ (noOb x = true ∨ obOf C x = true) ∧ (obOf C x = true → q (.d .none) n) ∧ (obOf C x = false → e BF)
/-- a form that was made -/
structure Fm where
  e : D
  cs : List Co
  l : Int × Int
  b : Int × Int
abbrev fmJ (C : Addr) (s : D) (f : Fm) : D := obJ C (fldF s f.e f.cs f.l f.b)
abbrev fmU (C : Addr) (s : D) (f : Fm) : U := .d (fmJ C s f)
def behI (l b s : Int × Int) : Int × Int := (max l.1 (s.1 + b.1), max l.2 (s.2 + b.2))
def hasI (f : Fm) (s : Int × Int) : Bool := hasB f.cs (some s.1, some s.2)
@[simp ↓] def sp_endsize (C BF BB : Addr) : VSp := fun us n q e => ∃ u w : U, us = [u, w] ∧ ((∃ (s : D) (f : Fm) (p : Int × Int), u = fmU C s f ∧ w = .d (pr p.1 p.2) ∧ 1 ≤ p.1 ∧ 1 ≤ p.2 ∧ f.cs.length ≤ 300 ∧ q (.d (if hasI f p = true then pr (behI f.l f.b p).1 (behI f.l f.b p).2 else .none)) n) ∨
  (∃ x y : D, u = .d x ∧ w = .d y ∧ noOb x = true ∧ e BF) ∨ ∃ (s : D) (f : Fm) (y : D), u = fmU C s f ∧ w = .d y ∧ lenT y ∧ isBd y = false ∧ e BB)
/-- the forms part there -/
def prtB (f g : Fm) (p : Int × Int) : Bool := (hasI f p != hasI g p) || (hasI f p && (!(PyData.eqv f.e g.e) || !decide (behI f.l f.b p = behI g.l g.b p)))
@[simp ↓] def sp_parted (C : Addr) : VSp := fun us n q _ => ∃ (s t : D) (f g : Fm) (p : Int × Int), us = [fmU C s f, fmU C t g, .d (pr p.1 p.2)] ∧ f.cs.length ≤ 300 ∧ g.cs.length ≤ 300 ∧ SeqAt.shaped f.e = true ∧ SeqAt.shaped g.e = true ∧ (∃ xs, f.e = .tuple xs) ∧ (∃ xs, g.e = .tuple xs) ∧ q (.d (.bool (prtB f g p))) n
theorem shaped_pr2 (a b : Int) : SeqAt.shaped (pr a b) = true := by
  simp [SeqAt.shaped, PyData.canLay0, PyData.canLayAll0, PyData.depth, PyData.depthAll]
theorem eqv_pr2 (a b c d : Int) : PyData.eqv (pr a b) (pr c d) = decide ((a, b) = (c, d)) := by
  simp [PyData.eqv, PyData.eqvAll]
  rw [Bool.eq_iff_iff]
  simp
section
variable {P : Program} {w : World} {K : PySem.W.Frag} {mg : Str → Option Value} {base : Heap} {TL : List (Addr × Str)}
theorem ok_q_check_form (T : Txt K mg) : FnOk P w K mg base (L2.CX P w) 1 T.q_check_form.a T.q_check_form.d ["form"] (toSp K T.C TL false (sp_chk_form T.C T.x_BadForm.C)) := by
  refine T.q_check_form.F.okX c_q_check_form (fun vs H Q E h => toSp_len h fun us n q e hs => ?_) (fun cdv A outer s H vs Q E hr h => ?_)
  · (first | (obtain ⟨rfl, _⟩ := hs; rfl) | (obtain ⟨_, hs⟩ := hs; (first | (obtain ⟨rfl, _⟩ := hs; rfl) | (obtain ⟨_, hs⟩ := hs; (first | (obtain ⟨rfl, _⟩ := hs; rfl) | (obtain ⟨_, hs⟩ := hs; (first | (obtain ⟨rfl, _⟩ := hs; rfl) | (obtain ⟨_, hs⟩ := hs; (first | (obtain ⟨rfl, _⟩ := hs; rfl) | (obtain ⟨_, hs⟩ := hs; (first | (obtain ⟨rfl, _⟩ := hs; rfl) | (obtain ⟨_, hs⟩ := hs; (first | (obtain ⟨rfl, _⟩ := hs; rfl) | (obtain ⟨_, hs⟩ := hs; (first | (obtain ⟨rfl, _⟩ := hs; rfl) | (obtain ⟨_, hs⟩ := hs; (first | (obtain ⟨rfl, _⟩ := hs; rfl) | (obtain ⟨_, hs⟩ := hs; (first | (obtain ⟨rfl, _⟩ := hs; rfl) | (obtain ⟨_, hs⟩ := hs; (first | (obtain ⟨rfl, _⟩ := hs; rfl) | (obtain ⟨_, hs⟩ := hs; (first | (obtain ⟨rfl, _⟩ := hs; rfl) | (obtain ⟨_, hs⟩ := hs; (first | (obtain ⟨rfl, _⟩ := hs; rfl) | (obtain ⟨_, hs⟩ := hs; (first | (obtain ⟨rfl, _⟩ := hs; rfl) | (obtain ⟨_, hs⟩ := hs; (first | (obtain ⟨rfl, _⟩ := hs; rfl) | (obtain ⟨_, hs⟩ := hs; (first | (obtain ⟨rfl, _⟩ := hs; rfl) | (obtain ⟨_, hs⟩ := hs; (obtain ⟨rfl, _⟩ := hs; rfl)))))))))))))))))))))))))))))))))
  · refine ⟨_,
      (pss_one (ps_if (pt_not (pt_val (pe_callB (isi3 K) (by rfl) T.z_isinstance (by decide +kernel) (pa_cons (pv 0) (pa_cons (pe_glob (v := .ref T.C) (u := .ref T.C) rfl T.gC rfl) pa_nil)))))
      (pss_one (ps_rz (C' := T.x_BadForm.C) (ps_raise rfl (takes_of rfl rfl rfl rfl) (pmk_own PySem.F.excBase_ValueError T.x_BadForm.q T.x_BadForm.g T.x_BadForm.k (raises_own T.x_BadForm.b T.x_BadForm.t) (by exact rfl)))))
      pss_nil))
      , run3 (K := K) (C := T.C) (TL := TL) h fun us n q e hs => ?_⟩
    obtain ⟨x, rfl, hx, hq, he⟩ := hs
    simp [ro0]
    refine ⟨hx, ?_⟩
    cases h : obOf T.C x
    · simp [h] at he ⊢
      exact he
    · simp [h] at hq ⊢
      exact hq
theorem ok_q_end_size (T : Txt K mg) : FnOk P w K mg base (L2.CX P w) 5 T.q_end_size.a T.q_end_size.d ["form", "body"] (toSp K T.C TL false (sp_endsize T.C T.x_BadForm.C T.x_BadBody.C)) := by
  refine T.q_end_size.F.okX c_q_end_size (fun vs H Q E h => toSp_len h fun us n q e hs => ?_) (fun cdv A outer s H vs Q E hr h => ?_)
  · (first | (obtain ⟨rfl, _⟩ := hs; rfl) | (obtain ⟨_, hs⟩ := hs; (first | (obtain ⟨rfl, _⟩ := hs; rfl) | (obtain ⟨_, hs⟩ := hs; (first | (obtain ⟨rfl, _⟩ := hs; rfl) | (obtain ⟨_, hs⟩ := hs; (first | (obtain ⟨rfl, _⟩ := hs; rfl) | (obtain ⟨_, hs⟩ := hs; (first | (obtain ⟨rfl, _⟩ := hs; rfl) | (obtain ⟨_, hs⟩ := hs; (first | (obtain ⟨rfl, _⟩ := hs; rfl) | (obtain ⟨_, hs⟩ := hs; (first | (obtain ⟨rfl, _⟩ := hs; rfl) | (obtain ⟨_, hs⟩ := hs; (first | (obtain ⟨rfl, _⟩ := hs; rfl) | (obtain ⟨_, hs⟩ := hs; (first | (obtain ⟨rfl, _⟩ := hs; rfl) | (obtain ⟨_, hs⟩ := hs; (first | (obtain ⟨rfl, _⟩ := hs; rfl) | (obtain ⟨_, hs⟩ := hs; (first | (obtain ⟨rfl, _⟩ := hs; rfl) | (obtain ⟨_, hs⟩ := hs; (first | (obtain ⟨rfl, _⟩ := hs; rfl) | (obtain ⟨_, hs⟩ := hs; (first | (obtain ⟨rfl, _⟩ := hs; rfl) | (obtain ⟨_, hs⟩ := hs; (first | (obtain ⟨rfl, _⟩ := hs; rfl) | (obtain ⟨_, hs⟩ := hs; (first | (obtain ⟨rfl, _⟩ := hs; rfl) | (obtain ⟨_, hs⟩ := hs; (first | (obtain ⟨rfl, _⟩ := hs; rfl) | (obtain ⟨_, hs⟩ := hs; (obtain ⟨rfl, _⟩ := hs; rfl)))))))))))))))))))))))))))))))))
  · refine ⟨_,
      (pss_cons (ps_expr (pe_call (ok_q_check_form T (TL := TL)) (hr.mono (by decide)) rfl T.q_check_form.g T.q_check_form.k T.q_check_form.b .nil (passes_call (takes_of rfl rfl rfl rfl) (fun _ _ _ _ h => h)) (pa_cons (pv 0) pa_nil)))
      (pss_cons (ps_expr (pe_call (ok_q_check_body T (TL := TL)) (hr.mono (by decide)) rfl T.q_check_body.g T.q_check_body.k T.q_check_body.b .nil (passes_call (takes_of rfl rfl rfl rfl) (fun _ _ _ _ h => h)) (pa_cons (pv 1) pa_nil)))
      (pss_one (ps_ret (pe_ifExp (pt_val (pe_call (ok_q_has T (TL := TL)) (hr.mono (by decide)) rfl T.q_has.g T.q_has.k T.q_has.b .nil pass0 (pa_cons (fld3 K (pv 0) rfl) (pa_cons (pv 1) pa_nil)))) (pe_call (ok_q_body_behind T (TL := TL)) (hr.mono (by decide)) rfl T.q_body_behind.g T.q_body_behind.k T.q_body_behind.b .nil pass0 (pa_cons (pv 0) (pa_cons (pv 1) pa_nil))) pe_non)))))
      , run3 (K := K) (C := T.C) (TL := TL) h fun us n q e hs => ?_⟩
    obtain ⟨u, w, rfl, hs⟩ := hs
    rcases hs with ⟨s, f, p, rfl, rfl, h1, h2, hl, hq⟩ | ⟨x, y, rfl, rfl, hx, he⟩ | ⟨s, f, y, rfl, rfl, hl, hy, he⟩
    · simp [ro0]
      refine ⟨fun _ => ⟨f.cs, some p.1, some p.2, ⟨rfl, rfl, rfl⟩, hl, ?_⟩, fun z => ?_⟩
      · by_cases h : hasI f p = true
        · have h' : hasB f.cs (some p.1, some p.2) = true := h
          rw [if_pos h']
          rw [if_pos h] at hq
          exact ⟨_, f.l.1, f.l.2, f.b.1, f.b.2, p.1, p.2, ⟨rfl, rfl, rfl⟩, rfl, rfl, hq⟩
        · have h' : ¬ hasB f.cs (some p.1, some p.2) = true := h
          rw [if_neg h']
          rw [if_neg h] at hq
          exact hq
      · simp [isBd, isSzD, h1, h2] at z
    · simp [ro0, obOf_no hx]
      exact ⟨hx, he⟩
    · simp [ro0]
      exact ⟨hl, fun z => absurd (hy.symm.trans z) (by decide), fun _ => he⟩
end
end G21
set_option Elab.async false
set_option linter.all false
set_option maxRecDepth 100000
set_option maxHeartbeats 4000000
set_option synthInstance.maxSize 100000
set_option synthInstance.maxHeartbeats 0
namespace G21
open PySem PySem.Spec PyProof.Rows L2 V3
@[simp ↓] def sp_feq (C : Addr) : VSp := fun us n q _ => ∃ (s : D) (f : Fm) (u : U), us = [fmU C s f, u] ∧ SeqAt.shaped s = true ∧ (∃ xs, s = .tuple xs) ∧ SeqAt.shaped f.e = true ∧ (∃ xs, f.e = .tuple xs) ∧ ((∃ xs, u = .d (.tuple xs) ∧ q (.d (.bool false)) n) ∨
  ∃ (t : D) (g : Fm), u = fmU C t g ∧ SeqAt.shaped t = true ∧ (∃ xs, t = .tuple xs) ∧ SeqAt.shaped g.e = true ∧ (∃ xs, g.e = .tuple xs) ∧ q (.d (.bool (PyData.eqv s t && (PyData.eqv f.e g.e && (decide (f.cs = g.cs) && (decide (f.l = g.l) && decide (f.b = g.b))))))) n)
theorem eqv_cDs : ∀ cs ds : List Co, PyData.eqvAll (cs.map cD) (ds.map cD) = decide (cs = ds)
  | [], [] => rfl
  | [], _ :: _ => rfl
  | _ :: _, [] => rfl
  | c :: cs, d :: ds => by
    rw [List.map_cons, List.map_cons, PyData.eqvAll, eqv_cDs cs ds, eqv_cD, Bool.eq_iff_iff]
    simp
theorem eqv_cTs (cs ds : List Co) : PyData.eqv (.tuple (cs.map cD)) (.tuple (ds.map cD)) = decide (cs = ds) := by
  rw [PyData.eqv, eqv_cDs]
section
variable {P : Program} {w : World} {K : PySem.W.Frag} {mg : Str → Option Value} {base : Heap} {TL : List (Addr × Str)}
theorem ok_q_Form_eq (T : Txt K mg) : FnOk P w K mg base CX0 3 T.f_eq T.d_eq ["self", "other"] (toSp K T.C TL false (sp_feq T.C)) := by
  refine T.F_eq.ok c_q_Form_eq (fun vs H Q E h => toSp_len h fun us n q e hs => ?_) (fun cdv A outer s H vs Q E hr h => ?_)
  · obtain ⟨_, _, _, rfl, _⟩ := hs
    rfl
  · refine ⟨_,
      (pss_cons (ps_if (PW.pt (pw_or (pt_not (pt_val (pe_callB (isi3 K) (by rfl) T.z_isinstance (by decide +kernel) (pa_cons (pv 1) (pa_cons (pe_glob (v := .ref T.C) (u := .ref T.C) rfl T.gC rfl) pa_nil))))) (pw_or (pt_cmpR (ne3 K hr.units) (fld3 K (pv 0) rfl) (fld3 K (pv 1) rfl) (nomark _)) (pw_or1 (pt_cmpR (ne3 K hr.units) (fld3 K (pv 0) rfl) (fld3 K (pv 1) rfl) (nomark _))))))
      (pss_one (ps_ret pe_bl))
      pss_nil)
      (pss_one (ps_ret (pe_and (pe_cmpR (eq3 K hr.units) (fld3 K (pv 0) rfl) (fld3 K (pv 1) rfl) (nomark _)) (pe_and (pe_cmpR (eq3 K hr.units) (fld3 K (pv 0) rfl) (fld3 K (pv 1) rfl) (nomark _)) (pe_one (pe_cmpR (eq3 K hr.units) (fld3 K (pv 0) rfl) (fld3 K (pv 1) rfl) (nomark _))))))))
      , run3 (K := K) (C := T.C) (TL := TL) h fun us n q e hs => ?_⟩
    obtain ⟨s, f, u, rfl, s1, ⟨xs, rfl⟩, s2, ⟨ys, e2⟩, hs⟩ := hs
    obtain ⟨fe, fc, fl, fb⟩ := f
    dsimp only at s2 e2
    subst e2
    rcases hs with ⟨zs, rfl, hq⟩ | ⟨t, g, rfl, s3, ⟨zs, rfl⟩, s4, ⟨ws, e4⟩, hq⟩
    · simp [ro0]
      exact hq
    · obtain ⟨ge, gc, gl, gb⟩ := g
      dsimp only at s4 e4
      subst e4
      simp [ro0]
      refine ⟨s1, s3, ?_⟩
      dsimp only at hq
      cases h1 : (PyData.tuple xs).eqv (PyData.tuple zs)
      · simp [h1] at hq ⊢
        exact hq
      rw [h1] at hq
      simp only [if_true]
      refine ⟨s2, s4, ?_⟩
      cases h2 : (PyData.tuple ys).eqv (PyData.tuple ws)
      · simp [h2] at hq ⊢
        exact hq
      rw [h2] at hq
      simp only [if_true]
      refine ⟨shaped_cT _, shaped_cT _, ?_⟩
      rw [eqv_cTs]
      by_cases h3 : fc = gc
      · have e3 : decide (fc = gc) = true := decide_eq_true h3
        rw [e3] at hq
        simp only [e3, if_true]
        refine ⟨shaped_pr2 _ _, shaped_pr2 _ _, ?_⟩
        rw [show PyData.tuple [PyData.int fl.1, PyData.int fl.2] = pr fl.1 fl.2 from rfl, show PyData.tuple [PyData.int gl.1, PyData.int gl.2] = pr gl.1 gl.2 from rfl, eqv_pr2]
        by_cases h4 : fl = gl
        · have e4 : decide (fl = gl) = true := decide_eq_true h4
          have e5 : decide ((fl.1, fl.2) = (gl.1, gl.2)) = true := decide_eq_true h4
          rw [e4] at hq
          simp only [e5, if_true]
          refine ⟨shaped_pr2 _ _, shaped_pr2 _ _, ?_⟩
          rw [show PyData.tuple [PyData.int fb.1, PyData.int fb.2] = pr fb.1 fb.2 from rfl, show PyData.tuple [PyData.int gb.1, PyData.int gb.2] = pr gb.1 gb.2 from rfl, eqv_pr2]
          exact hq
        · have e4 : decide (fl = gl) = false := decide_eq_false h4
          have e5 : decide ((fl.1, fl.2) = (gl.1, gl.2)) = false := decide_eq_false h4
          rw [e4] at hq
          simp only [e5, Bool.false_eq_true, if_false]
          exact hq
      · have e3 : decide (fc = gc) = false := decide_eq_false h3
        rw [e3] at hq
        simp only [e3, Bool.false_eq_true, if_false]
        exact hq
end
end G21
set_option Elab.async false
set_option linter.all false
set_option maxRecDepth 100000
set_option maxHeartbeats 4000000
set_option synthInstance.maxSize 100000
set_option synthInstance.maxHeartbeats 0
namespace G21
open PySem PySem.Spec PyProof.Rows L2 V3
def noneD : D → Bool
  | .none => true
  | _ => false
def numD : D → Int
  | .int i => i
  | _ => 0
/-- what corners are sorted by -/
def kOD : D → GS.K4
  | .tuple [a, b] => (noneD a, numD a, noneD b, numD b)
  | _ => (false, 0, false, 0)
def domO (x : D) : Prop := ∃ c : Co, x = cD c
section
variable {P : Program} {w : World} {K : PySem.W.Frag} {mg : Str → Option Value} {base : Heap} {TL : List (Addr × Str)}
theorem ok_q_corner_order (T : Txt K mg) : FnOk P w K mg base CX0 1 T.q_corner_order.a T.q_corner_order.d ["corner"] (spKeyF K domO kOD) := by
  refine T.q_corner_order.F.ok c_q_corner_order (fun vs H Q E h => ?_) (fun cdv A outer s H vs Q E hr h => ?_)
  · obtain ⟨v, x, rfl, _⟩ := h
    rfl
  · obtain ⟨v, x, rfl, ⟨c, rfl⟩, r, hq⟩ := h
    refine ⟨_,
      (pss_one (ps_ret (pe_tup (pa_cons (pe_cmpR op_isN3 (pe_ix (ix3 K) (pv 0) pe_int (fun _ _ => rfl)) pe_non (nomark _)) (pa_cons (pe_orT (pe_ix (ix3 K) (pv 0) pe_int (fun _ _ => rfl)) (pe_one pe_int)) (pa_cons (pe_cmpR op_isN3 (pe_ix (ix3 K) (pv 0) pe_int (fun _ _ => rfl)) pe_non (nomark _)) (pa_cons (pe_orT (pe_ix (ix3 K) (pv 0) pe_int (fun _ _ => rfl)) (pe_one pe_int)) pa_nil)))))))
      , ?_⟩
    cases r with
    | tup hs ha =>
      cases ha with | cons r1 t => cases t with | cons r2 t =>
      cases t
      rename_i a x1 x2
      have i0 : ∀ Q : VK, Q x1 H → rIx K (.ref a) (.int 0) H Q := fun Q q => .inr (.inl ⟨a, _, 0, x1, rfl, rfl, hs, rfl, q⟩)
      have i1 : ∀ Q : VK, Q x2 H → rIx K (.ref a) (.int 1) H Q := fun Q q => .inr (.inl ⟨a, _, 1, x2, rfl, rfl, hs, rfl, q⟩)
      have go : ∀ (o : Option Int) (x : V), Rp K H x (oD o) → ∃ (b : Bool) (i : Int), b = noneD (oD o) ∧ i = numD (oD o) ∧ b = decide (x = .non) ∧ ((x = .non ∧ i = 0) ∨ x = .int i) := fun o x r => by
        cases o with
        | none =>
          cases r
          exact ⟨true, 0, rfl, rfl, rfl, .inl ⟨rfl, rfl⟩⟩
        | some k =>
          cases r
          exact ⟨false, k, rfl, rfl, rfl, .inr rfl⟩
      obtain ⟨b1, n1, eb1, en1, d1, y1⟩ := go c.1 x1 r1
      obtain ⟨b2, n2, eb2, en2, d2, y2⟩ := go c.2 x2 r2
      have kz : kOD (cD c) = (b1, n1, b2, n2) := by
        show (noneD (oD c.1), numD (oD c.1), noneD (oD c.2), numD (oD c.2)) = _
        rw [← eb1, ← en1, ← eb2, ← en2]
      have tr : ∀ (x : V) (i : Int), ((x = .non ∧ i = 0) ∨ x = .int i) → ∃ k, L2.TruV K x H k ∧ ((k = false ∧ i = 0) ∨ (k = true ∧ x = .int i)) := fun x i y => by
        rcases y with ⟨rfl, rfl⟩ | rfl
        · exact ⟨false, rfl, .inl ⟨rfl, rfl⟩⟩
        · by_cases e : i = 0
          · subst e
            exact ⟨false, rfl, .inl ⟨rfl, rfl⟩⟩
          · exact ⟨true, by show true = (i != 0); simp [e], .inr ⟨rfl, rfl⟩⟩
      obtain ⟨k1, t1, z1⟩ := tr x1 n1 y1
      obtain ⟨k2, t2, z2⟩ := tr x2 n2 y2
      have fin : ∀ p, H p = none → Q (.ref p) (upd H p (.tup [.bl b1, .int n1, .bl b2, .int n2])) := fun p hp => by
        have q := hq p hp
        rw [kz] at q
        exact q
      rw [d1, d2] at fin
      refine ⟨_, rfl, i0 _ ⟨rfl, ?_⟩⟩
      refine ⟨_, rfl, i0 _ ⟨k1, t1, ?_⟩⟩
      rcases z1 with ⟨rfl, rfl⟩ | ⟨rfl, rfl⟩
      · rw [if_neg (by decide)]
        refine ⟨_, rfl, i1 _ ⟨rfl, ?_⟩⟩
        refine ⟨_, rfl, i1 _ ⟨k2, t2, ?_⟩⟩
        rcases z2 with ⟨rfl, rfl⟩ | ⟨rfl, rfl⟩
        · rw [if_neg (by decide)]
          exact ⟨Nat.le_of_lt (few (by simp)), fin⟩
        · rw [if_pos rfl]
          exact ⟨Nat.le_of_lt (few (by simp)), fin⟩
      · rw [if_pos rfl]
        refine ⟨_, rfl, i1 _ ⟨rfl, ?_⟩⟩
        refine ⟨_, rfl, i1 _ ⟨k2, t2, ?_⟩⟩
        rcases z2 with ⟨rfl, rfl⟩ | ⟨rfl, rfl⟩
        · rw [if_neg (by decide)]
          exact ⟨Nat.le_of_lt (few (by simp)), fin⟩
        · rw [if_pos rfl]
          exact ⟨Nat.le_of_lt (few (by simp)), fin⟩
instance (T : Txt K mg) : KeyF P w K mg base 1 T.q_corner_order.a domO kOD := ⟨_, _, ok_q_corner_order T, T.q_corner_order.b⟩
end
end G21
set_option Elab.async false
set_option linter.all false
set_option maxRecDepth 100000
set_option maxHeartbeats 4000000
set_option synthInstance.maxSize 100000
set_option synthInstance.maxHeartbeats 0
namespace G21
open PySem PySem.Spec PyProof.Rows L2 V3
def stOfS (L cs : List Co) : Prop := Can cs ∧ (∀ c ∈ cs, c ∈ L) ∧ (∀ c ∈ L, ∃ d ∈ cs, leC c d) ∧ cs.length ≤ L.length
theorem ab_lt {p q : Option Int} : abO q p = true ↔ ltO p q := by
  cases p <;> cases q <;> simp [abO, ltO]
theorem nlt_le {p q : Option Int} : ¬ ltO p q ↔ leO q p := by
  cases p <;> cases q <;> simp [ltO, leO]
theorem lx1 : ∀ xs ys : List Int, PyProof.Rows.lexLt itemOrd (xs.map Sum.inl) (ys.map Sum.inl) = HT.lexLt xs ys
  | [], [] => rfl
  | [], _ :: _ => rfl
  | _ :: _, [] => rfl
  | x :: xs, y :: ys => by
    rw [HT.lexLt_cons]
    by_cases e : x = y
    · subst e
      rw [if_pos rfl, ← lx1 xs ys]
      exact PyProof.Rows.lex_self _ _ _
    · rw [if_neg e]
      exact PyProof.Rows.lex_diff (fun z => e (Sum.inl.inj z))
def bN (b : Bool) : Int := if b = true then 1 else 0
def kL (z : GS.K4) : List Int := [1, bN z.1, 1, z.2.1, 1, bN z.2.2.1, 1, z.2.2.2, 0]
theorem ltK_lex (z y : GS.K4) : GS.ltK z y = HT.lexLt (kL z) (kL y) := by
  rw [← lx1]
  unfold GS.ltK GS.kP
  rw [PySem.W.dataLt_tuple]
  simp only [PySem.W.toks_all_cons, PySem.W.keyToks, PySem.W.keyToksAll, List.cons_append, List.nil_append]
  rfl
/-- narrower, or as wide and lower -/
def bfO (c d : Co) : Prop := ltO c.1 d.1 ∨ (c.1 = d.1 ∧ ltO c.2 d.2)
theorem ltK_iff (c d : Co) : GS.ltK (kOD (cD c)) (kOD (cD d)) = true ↔ bfO c d := by
  obtain ⟨c1, c2⟩ := c
  obtain ⟨d1, d2⟩ := d
  rw [ltK_lex]
  unfold bfO
  cases c1 <;> cases c2 <;> cases d1 <;> cases d2 <;> simp [kOD, noneD, numD, oD, ltO, kL, bN, HT.lexLt_cons, HT.lexLt_nil_nil]
  all_goals first | omega | (split <;> omega)
/-- all steps from wide to narrow -/
def Dsc (F : List Co) : Prop := F.Pairwise fun c d => ltO d.1 c.1 ∧ ltO c.2 d.2
structure StI (F done : List Co) (b : Option Int) : Prop where
  dsc : Dsc F
  sub : ∀ c ∈ F, c ∈ done
  cov : ∀ c ∈ done, ∃ d ∈ F, leC c d
  top : (F = [] ∧ b = some 0) ∨ ∃ f, F.getLast? = some f ∧ b = f.2
  len : F.length ≤ done.length
theorem dsc_last {F : List Co} {f : Co} (h : Dsc F) (e : F.getLast? = some f) : ∀ c ∈ F, c = f ∨ (ltO f.1 c.1 ∧ ltO c.2 f.2) := by
  induction F with
  | nil => cases e
  | cons x xs ih =>
    obtain ⟨h1, h2⟩ := List.pairwise_cons.mp h
    cases xs with
    | nil =>
      cases e
      intro c hc
      exact .inl (List.mem_singleton.mp hc)
    | cons y ys =>
      have e2 : (y :: ys).getLast? = some f := by
        rw [List.getLast?_cons_cons] at e
        exact e
      intro c hc
      rcases List.mem_cons.mp hc with rfl | hc
      · exact .inr (h1 f (List.mem_of_getLast? e2))
      · exact ih h2 e2 c hc
theorem st_put {F done : List Co} {b : Option Int} {x : Co} (h : StI F done b) (hx : ∀ c ∈ done, ¬ bfO c x) (hb : ltO b x.2) : StI (F ++ [x]) (done ++ [x]) x.2 := by
  refine ⟨List.pairwise_append.mpr ⟨h.dsc, List.pairwise_singleton _ _, fun c hc y hy => ?_⟩, fun c hc => ?_, fun c hc => ?_, .inr ⟨x, by simp, rfl⟩, by simp; exact h.len⟩
  · rw [List.mem_singleton.mp hy]
    have l2 : ltO c.2 x.2 := by
      rcases h.top with ⟨e, _⟩ | ⟨f, e, rfl⟩
      · rw [e] at hc
        cases hc
      · rcases dsc_last h.dsc e c hc with rfl | ⟨_, g⟩
        · exact hb
        · cases p : c.2 <;> cases q : f.2 <;> cases r : x.2 <;> simp [p, q, r, ltO] at g hb ⊢
          omega
    refine ⟨?_, l2⟩
    rcases ltO_tri x.1 c.1 with z | z | z
    · exact z
    · exact absurd (.inr ⟨z.symm, l2⟩) (hx c (h.sub c hc))
    · exact absurd (.inl z) (hx c (h.sub c hc))
  · rcases List.mem_append.mp hc with z | z
    · exact List.mem_append_left _ (h.sub c z)
    · exact List.mem_append_right _ z
  · rcases List.mem_append.mp hc with z | z
    · obtain ⟨d, hd, l⟩ := h.cov c z
      exact ⟨d, List.mem_append_left _ hd, l⟩
    · exact ⟨x, List.mem_append_right _ (List.mem_singleton.mpr rfl), by rw [List.mem_singleton.mp z]; exact ⟨leO_refl _, leO_refl _⟩⟩
theorem st_skip {F done : List Co} {b : Option Int} {x : Co} (h : StI F done b) (hx : ∀ c ∈ done, ¬ bfO c x) (hb : ¬ ltO b x.2) (hp : posC x) : StI F (done ++ [x]) b := by
  refine ⟨h.dsc, fun c hc => List.mem_append_left _ (h.sub c hc), fun c hc => ?_, h.top, by simp; have := h.len; omega⟩
  rcases List.mem_append.mp hc with z | z
  · exact h.cov c z
  · rw [List.mem_singleton.mp z]
    rcases h.top with ⟨_, rfl⟩ | ⟨f, e, rfl⟩
    · exfalso
      apply hb
      cases p : x.2 with
      | none => trivial
      | some k =>
        have := hp.2 k p
        show (0 : Int) < k
        omega
    · have mf := List.mem_of_getLast? e
      refine ⟨f, mf, ?_, nlt_le.mp hb⟩
      have nf := hx f (h.sub f mf)
      exact nlt_le.mp fun z => nf (.inl z)
@[simp ↓] def sp_stairsof : VSp := fun us n q _ => ∃ L : List Co, us = [.d (.list (L.map cD))] ∧ L.length ≤ 1000 ∧ (∀ c ∈ L, posC c) ∧ ∀ cs : List Co, stOfS L cs → q (.d (.tuple (cs.map cD))) n
theorem perm_mapC {α β : Type} {f : α → β} {xs : List α} {ys : List β} (h : ys.Perm (xs.map f)) : ∃ zs : List α, ys = zs.map f ∧ zs.Perm xs := by
  generalize e : xs.map f = ws at h
  induction h generalizing xs with
  | nil =>
    cases xs with
    | nil => exact ⟨[], rfl, .refl _⟩
    | cons _ _ => cases e
  | cons y _ ih =>
    cases xs with
    | nil => cases e
    | cons x xs =>
      injection e with e1 e2
      subst e1
      obtain ⟨zs, rfl, p⟩ := ih e2
      exact ⟨x :: zs, rfl, p.cons _⟩
  | swap y y' l =>
    match xs, e with
    | x :: x' :: xs, e =>
      injection e with e1 e2
      injection e2 with e2 e3
      subst e1 e2 e3
      exact ⟨x' :: x :: xs, rfl, .swap _ _ _⟩
  | trans _ _ ih1 ih2 =>
    obtain ⟨zs, rfl, p⟩ := ih2 e
    obtain ⟨ws, rfl, p2⟩ := ih1 rfl
    exact ⟨ws, rfl, p2.trans p⟩
/-- a loop over a list of data: what is done, what is left -/
theorem forL_mapS {is : List Nat} {tup : Bool} {mb : TS3} {F : En3} {e : Addr → Prop} {α : Type} (D0 : α → D) (I : List α → List α → Ro → Nat → Prop) :
    ∀ (left done : List α) (ρ : Ro) (n : Nat), (∀ done ρ m, I done [] ρ m → F.nx ρ m) →
    (∀ done x left ρ m (G : Ro → Nat → Prop), (∀ ρ' m', I (done ++ [x]) left ρ' m' → G ρ' m') → I done (x :: left) ρ m → giv is tup (D0 x) ρ fun ρ' => mb { F with nx := G, ct := G, bk := F.nx } ρ' m e) →
    I done left ρ n → forL is tup mb F e (left.map D0) ρ n
  | [], done, ρ, n, h0, _, i => h0 done ρ n i
  | x :: left, done, ρ, n, h0, hs, i => hs done x left ρ n _ (fun ρ' m' i' => forL_mapS D0 I left (done ++ [x]) ρ' m' h0 hs i') i
section
variable {P : Program} {w : World} {K : PySem.W.Frag} {mg : Str → Option Value} {base : Heap} {TL : List (Addr × Str)}
theorem ok_q_stairs_of (T : Txt K mg) : FnOk P w K mg base CX0 4 T.q_stairs_of.a T.q_stairs_of.d ["corners"] (toSp K T.C TL false sp_stairsof) := by
  refine T.q_stairs_of.F.ok c_q_stairs_of (fun vs H Q E h => toSp_len h fun us n q e hs => ?_) (fun cdv A outer s H vs Q E hr h => ?_)
  · (first | (obtain ⟨rfl, _⟩ := hs; rfl) | (obtain ⟨_, hs⟩ := hs; (first | (obtain ⟨rfl, _⟩ := hs; rfl) | (obtain ⟨_, hs⟩ := hs; (first | (obtain ⟨rfl, _⟩ := hs; rfl) | (obtain ⟨_, hs⟩ := hs; (first | (obtain ⟨rfl, _⟩ := hs; rfl) | (obtain ⟨_, hs⟩ := hs; (first | (obtain ⟨rfl, _⟩ := hs; rfl) | (obtain ⟨_, hs⟩ := hs; (first | (obtain ⟨rfl, _⟩ := hs; rfl) | (obtain ⟨_, hs⟩ := hs; (first | (obtain ⟨rfl, _⟩ := hs; rfl) | (obtain ⟨_, hs⟩ := hs; (first | (obtain ⟨rfl, _⟩ := hs; rfl) | (obtain ⟨_, hs⟩ := hs; (first | (obtain ⟨rfl, _⟩ := hs; rfl) | (obtain ⟨_, hs⟩ := hs; (first | (obtain ⟨rfl, _⟩ := hs; rfl) | (obtain ⟨_, hs⟩ := hs; (first | (obtain ⟨rfl, _⟩ := hs; rfl) | (obtain ⟨_, hs⟩ := hs; (first | (obtain ⟨rfl, _⟩ := hs; rfl) | (obtain ⟨_, hs⟩ := hs; (first | (obtain ⟨rfl, _⟩ := hs; rfl) | (obtain ⟨_, hs⟩ := hs; (first | (obtain ⟨rfl, _⟩ := hs; rfl) | (obtain ⟨_, hs⟩ := hs; (first | (obtain ⟨rfl, _⟩ := hs; rfl) | (obtain ⟨_, hs⟩ := hs; (first | (obtain ⟨rfl, _⟩ := hs; rfl) | (obtain ⟨_, hs⟩ := hs; (obtain ⟨rfl, _⟩ := hs; rfl)))))))))))))))))))))))))))))))))
  · refine ⟨_,
      (pss_cons (ps_set (i := 1) c_q_stairs_of.nd rfl (Or.inl rfl) (pe_lst pa_nil))
      (pss_cons (ps_set (i := 2) c_q_stairs_of.nd rfl (Or.inl rfl) pe_int)
      (pss_cons (ps_for PassesOwn.never rfl (rev3 K (by rfl) T.z_reversed (pe_callBK (sortF3 (P := P) (w := w) (mg := mg) (base := base) K (k := 1) (hr.mono (by decide))) rfl T.z_sorted (by decide +kernel) (pa_cons (pv 0) pa_nil) (pk_cons (pe_glob (v := .ref T.q_corner_order.a) (u := .ref T.q_corner_order.a) rfl T.q_corner_order.g rfl) pk_nil))) (pg_name (i := 3) c_q_stairs_of.nd rfl (Or.inl rfl))
      (pss_one (ps_if (pt_val (pe_call (ok_q_is_above T (TL := TL)) (hr.mono (by decide)) rfl T.q_is_above.g T.q_is_above.k T.q_is_above.b .nil pass0 (pa_cons (pe_ix (ix3 K) (pv 3) pe_int (fun _ _ => rfl)) (pa_cons (pv 2) pa_nil))))
      (pss_cons (ps_expr (bm3 K PySem.F.plainAttrs_list PySem.F.slot_list_append PySem.F.type_list_append mt_append (pv 1) (pa_cons (pv 3) pa_nil)))
      (pss_one (ps_set (i := 2) c_q_stairs_of.nd rfl (Or.inl rfl) (pe_ix (ix3 K) (pv 3) pe_int (fun _ _ => rfl)))))
      pss_nil)))
      (pss_one (ps_ret (tupRev3 K rfl (by rfl) T.z_tuple (by rfl) T.z_reversed (pv 1)))))))
      , run3 (K := K) (C := T.C) (TL := TL) h fun us n q e hs => ?_⟩
    obtain ⟨L, rfl, hl, hpos, hq⟩ := hs
    simp [ro0, -V3.forL]
    refine ⟨fun x a b m e => by subst e; exact ⟨⟨(a, b), rfl⟩, rfl, by cases a <;> cases b <;> rfl⟩, fun ys pm so => ?_⟩
    obtain ⟨zs, rfl, pz⟩ := perm_mapC pm
    have so2 : zs.Pairwise fun x y => ¬ bfO y x := (List.pairwise_map.mp so).imp fun {x y} h z => by
      have := (ltK_iff y x).mpr z
      rw [h] at this
      cases this
    have so3 : zs.reverse.Pairwise fun x y => ¬ bfO x y := List.pairwise_reverse.mpr so2
    rw [← List.map_reverse]
    have lz : zs.reverse.length = L.length := by rw [List.length_reverse, pz.length_eq]
    have mz : ∀ c, c ∈ zs.reverse ↔ c ∈ L := fun c => by rw [List.mem_reverse, pz.mem_iff]
    generalize zs.reverse = rs at so3 lz mz
    refine forL_mapS cD (fun done left ρ m => m = n ∧ done ++ left = rs ∧ ∃ (F : List Co) (b : Option Int) (z3 : Sl), ρ = [.fz (.d (.list (L.map cD))), .ow (F.map cD), .fz (.d (oD b)), z3] ∧ StI F done b) rs [] _ _ ?_ ?_ ?_
    · rintro done ρ m ⟨rfl, hd, F, b, z3, rfl, h⟩
      rw [List.append_nil] at hd
      subst hd
      simp
      rw [← List.map_reverse]
      refine hq F.reverse ⟨List.pairwise_reverse.mpr h.dsc, fun c hc => (mz c).mp (h.sub c (List.mem_reverse.mp hc)), fun c hc => ?_, by rw [List.length_reverse]; have := h.len; omega⟩
      obtain ⟨d, hd, l⟩ := h.cov c ((mz c).mpr hc)
      exact ⟨d, List.mem_reverse.mpr hd, l⟩
    · rintro done x left ρ m G hG ⟨rfl, hd, F, b, z3, rfl, h⟩
      have hx : ∀ c ∈ done, ¬ bfO c x := fun c hc => by
        rw [← hd] at so3
        exact (List.pairwise_append.mp so3).2.2 c hc x List.mem_cons_self
      have xl : posC x := hpos x ((mz x).mp (by rw [← hd]; simp))
      have hdd : (done ++ [x]) ++ left = rs := by
        rw [List.append_assoc]
        exact hd
      have hlen := congrArg List.length hd
      have hF := h.len
      simp at hlen
      simp
      refine ⟨x.2, b, ⟨rfl, rfl⟩, ?_⟩
      by_cases hb : ltO b x.2
      · have e : abO x.2 b = true := abO_lt hb
        simp only [e, if_true]
        exact ⟨few (by omega), hG _ _ ⟨rfl, hdd, F ++ [x], x.2, _, by rw [List.map_append]; rfl, st_put h hx hb⟩⟩
      · have e : abO x.2 b = false := by
          cases q : abO x.2 b with
          | false => rfl
          | true => exact absurd (ab_lt.mp q) hb
        simp only [e, Bool.false_eq_true, if_false]
        exact hG _ _ ⟨rfl, hdd, F, b, _, rfl, st_skip h hx hb xl⟩
    · exact ⟨rfl, rfl, [], some 0, _, rfl, ⟨List.Pairwise.nil, (fun c h => by cases h), (fun c h => by cases h), .inl ⟨rfl, rfl⟩, Nat.le_refl _⟩⟩
end
end G21
set_option Elab.async false
set_option linter.all false
set_option maxRecDepth 100000
set_option maxHeartbeats 4000000
set_option synthInstance.maxSize 100000
set_option synthInstance.maxHeartbeats 0
namespace G21
open PySem PySem.Spec PyProof.Rows L2 V3
def mnO (a b : Option Int) : Option Int := if abO a b = true then b else a
def mnC (c d : Co) : Co := (mnO c.1 d.1, mnO c.2 d.2)
@[simp ↓] def sp_lesser : VSp := fun us n q _ => ∃ a b : Option Int, us = [.d (oD a), .d (oD b)] ∧ q (.d (oD (mnO a b))) n
/-- held by both -/
def btI (cs ds es : List Co) : Prop := ∀ x y : Int, heldI es x y ↔ heldI cs x y ∧ heldI ds x y
@[simp ↓] def sp_both : VSp := fun us n q _ => ∃ cs ds : List Co, us = [.d (.tuple (cs.map cD)), .d (.tuple (ds.map cD))] ∧ cs.length ≤ 300 ∧ ds.length ≤ 300 ∧ Can cs ∧ Can ds ∧ (∀ c ∈ cs, posC c) ∧ (∀ c ∈ ds, posC c) ∧
  ∀ es : List Co, Can es → (∀ c ∈ es, posC c) → btI cs ds es → es.length ≤ cs.length + ds.length → q (.d (.tuple (es.map cD))) n
theorem ab_false {a b : Option Int} : abO a b = false ↔ leO a b := by
  cases a <;> cases b <;> simp [abO, leO]
theorem mn_le {a b : Option Int} {x : Int} : (∀ k, mnO a b = some k → x ≤ k) ↔ (∀ k, a = some k → x ≤ k) ∧ ∀ k, b = some k → x ≤ k := by
  unfold mnO
  cases a <;> cases b <;> simp [abO]
  split <;> simp <;> omega
theorem mn_cle {a b : Co} {x y : Int} : cle (mnC a b) x y ↔ cle a x y ∧ cle b x y := by
  unfold cle mnC
  dsimp only
  rw [mn_le, mn_le]
  exact ⟨fun ⟨⟨p1, p2⟩, p3, p4⟩ => ⟨⟨p1, p3⟩, p2, p4⟩, fun ⟨⟨p1, p3⟩, p2, p4⟩ => ⟨⟨p1, p2⟩, p3, p4⟩⟩
theorem mn_pos {a b : Co} (h : posC a) (g : posC b) : posC (mnC a b) := by
  obtain ⟨h1, h2⟩ := h
  obtain ⟨g1, g2⟩ := g
  unfold mnC mnO posC
  dsimp only
  constructor
  · split
    · exact g1
    · exact h1
  · split
    · exact g2
    · exact h2
theorem drop_at {cs : List Co} {i : Nat} {a : Co} (ha : cs[i]? = some a) : cs.drop i = a :: cs.drop (i + 1) := by
  have hi := (List.getElem?_eq_some_iff.mp ha)
  obtain ⟨h, e⟩ := hi
  rw [List.drop_eq_getElem_cons h, e]
theorem held_now {cs : List Co} {i : Nat} {a : Co} {x y : Int} (h : Can cs) (ha : cs[i]? = some a) (hh : heldI (cs.drop i) x y) (hx : ∀ k, a.1 = some k → x ≤ k) : cle a x y := by
  have hd : Can (cs.drop i) := List.Pairwise.sublist (List.drop_sublist i cs) h
  rw [drop_at ha] at hh hd
  obtain ⟨c, hc, h1, h2⟩ := hh
  rcases List.mem_cons.mp hc with rfl | hc
  · exact ⟨h1, h2⟩
  · have l := ((List.pairwise_cons.mp hd).1 c hc).2
    refine ⟨hx, fun k e => ?_⟩
    rw [e] at l
    cases q : c.2 with
    | none =>
      rw [q] at l
      cases l
    | some j =>
      rw [q] at l
      have l : j < k := l
      have := h2 j q
      omega
theorem held_next {cs : List Co} {i : Nat} {a : Co} {x y : Int} (ha : cs[i]? = some a) (hh : heldI (cs.drop i) x y) (hx : ¬ ∀ k, a.1 = some k → x ≤ k) : heldI (cs.drop (i + 1)) x y := by
  rw [drop_at ha] at hh
  obtain ⟨c, hc, h1, h2⟩ := hh
  rcases List.mem_cons.mp hc with rfl | hc
  · exact absurd h1 hx
  · exact ⟨c, hc, h1, h2⟩
structure BtI (cs ds : List Co) (i j : Nat) (L : List Co) : Prop where
  sub : ∀ c ∈ L, ∃ a ∈ cs, ∃ b ∈ ds, c = mnC a b
  cov : ∀ x y : Int, heldI cs x y → heldI ds x y → heldI L x y ∨ (heldI (cs.drop i) x y ∧ heldI (ds.drop j) x y)
theorem bt_step {cs ds : List Co} {i j : Nat} {L : List Co} {a b : Co} (h1 : Can cs) (h2 : Can ds) (ha : cs[i]? = some a) (hb : ds[j]? = some b) (h : BtI cs ds i j L) :
    BtI cs ds (if abO a.1 b.1 = true then i else i + 1) (if abO b.1 a.1 = true then j else j + 1) (L ++ [mnC a b]) := by
  refine ⟨fun c hc => ?_, fun x y hx hy => ?_⟩
  · rcases List.mem_append.mp hc with z | z
    · exact h.sub c z
    · exact ⟨a, List.mem_of_getElem? ha, b, List.mem_of_getElem? hb, List.mem_singleton.mp z⟩
  · rcases h.cov x y hx hy with ⟨c, hc, hl⟩ | ⟨g1, g2⟩
    · exact .inl ⟨c, List.mem_append_left _ hc, hl⟩
    · by_cases q1 : ∀ k, a.1 = some k → x ≤ k
      · by_cases q2 : ∀ k, b.1 = some k → x ≤ k
        · exact .inl ⟨mnC a b, List.mem_append_right _ (List.mem_singleton.mpr rfl), mn_cle.mpr ⟨held_now h1 ha g1 q1, held_now h2 hb g2 q2⟩⟩
        · refine .inr ⟨?_, ?_⟩
          · have : abO a.1 b.1 = true := by
              cases e : b.1 with
              | none => exact absurd (fun k z => by rw [e] at z; cases z) q2
              | some k =>
                cases e2 : a.1 with
                | none => rfl
                | some m =>
                  have := q1 m e2
                  show decide (k < m) = true
                  rw [decide_eq_true_eq]
                  by_cases z : k < m
                  · exact z
                  · exact absurd (fun k' z' => by rw [e] at z'; cases z'; omega) q2
            rw [if_pos this]
            exact g1
          · split
            · exact g2
            · exact held_next hb g2 q2
      · by_cases q2 : ∀ k, b.1 = some k → x ≤ k
        · refine .inr ⟨?_, ?_⟩
          · split
            · exact g1
            · exact held_next ha g1 q1
          · have : abO b.1 a.1 = true := by
              cases e : a.1 with
              | none => exact absurd (fun k z => by rw [e] at z; cases z) q1
              | some k =>
                cases e2 : b.1 with
                | none => rfl
                | some m =>
                  have := q2 m e2
                  show decide (k < m) = true
                  rw [decide_eq_true_eq]
                  by_cases z : k < m
                  · exact z
                  · exact absurd (fun k' z' => by rw [e] at z'; cases z'; omega) q1
            rw [if_pos this]
            exact g2
        · refine .inr ⟨?_, ?_⟩
          · split
            · exact g1
            · exact held_next ha g1 q1
          · split
            · exact g2
            · exact held_next hb g2 q2
theorem ab_one (a b : Option Int) : abO a b = false ∨ abO b a = false := by
  cases a <;> cases b <;> simp [abO] <;> omega
theorem st_held {L cs : List Co} (h : stOfS L cs) (x y : Int) : heldI cs x y ↔ heldI L x y := by
  obtain ⟨_, h2, h3, _⟩ := h
  constructor
  · rintro ⟨c, hc, hl⟩
    exact ⟨c, h2 c hc, hl⟩
  · rintro ⟨c, hc, l1, l2⟩
    obtain ⟨d, hd, g1, g2⟩ := h3 c hc
    refine ⟨d, hd, fun k e => ?_, fun k e => ?_⟩
    · cases q : c.1 with
      | none =>
        rw [q, e] at g1
        cases g1
      | some j =>
        rw [q, e] at g1
        have g1 : j ≤ k := g1
        have := l1 j q
        omega
    · cases q : c.2 with
      | none =>
        rw [q, e] at g2
        cases g2
      | some j =>
        rw [q, e] at g2
        have g2 : j ≤ k := g2
        have := l2 j q
        omega
theorem bt_done {cs ds : List Co} {i j : Nat} {L es : List Co} (h : BtI cs ds i j L) (hi : cs.length ≤ i ∨ ds.length ≤ j) (he : stOfS L es) : btI cs ds es := fun x y => by
  rw [st_held he]
  constructor
  · rintro ⟨c, hc, hl⟩
    obtain ⟨a, ha, b, hb, rfl⟩ := h.sub c hc
    obtain ⟨l1, l2⟩ := mn_cle.mp hl
    exact ⟨⟨a, ha, l1⟩, b, hb, l2⟩
  · rintro ⟨h1, h2⟩
    rcases h.cov x y h1 h2 with z | ⟨z1, z2⟩
    · exact z
    · rcases hi with q | q
      · obtain ⟨c, hc, _⟩ := z1
        rw [List.drop_eq_nil_of_le q] at hc
        cases hc
      · obtain ⟨c, hc, _⟩ := z2
        rw [List.drop_eq_nil_of_le q] at hc
        cases hc
section
variable {P : Program} {w : World} {K : PySem.W.Frag} {mg : Str → Option Value} {base : Heap} {TL : List (Addr × Str)}
theorem ok_q_lesser (T : Txt K mg) : FnOk P w K mg base CX0 2 T.q_lesser.a T.q_lesser.d ["one", "other"] (toSp K T.C TL false sp_lesser) := by
  refine T.q_lesser.F.ok c_q_lesser (fun vs H Q E h => toSp_len h fun us n q e hs => ?_) (fun cdv A outer s H vs Q E hr h => ?_)
  · (first | (obtain ⟨rfl, _⟩ := hs; rfl) | (obtain ⟨_, hs⟩ := hs; (first | (obtain ⟨rfl, _⟩ := hs; rfl) | (obtain ⟨_, hs⟩ := hs; (first | (obtain ⟨rfl, _⟩ := hs; rfl) | (obtain ⟨_, hs⟩ := hs; (first | (obtain ⟨rfl, _⟩ := hs; rfl) | (obtain ⟨_, hs⟩ := hs; (first | (obtain ⟨rfl, _⟩ := hs; rfl) | (obtain ⟨_, hs⟩ := hs; (first | (obtain ⟨rfl, _⟩ := hs; rfl) | (obtain ⟨_, hs⟩ := hs; (first | (obtain ⟨rfl, _⟩ := hs; rfl) | (obtain ⟨_, hs⟩ := hs; (first | (obtain ⟨rfl, _⟩ := hs; rfl) | (obtain ⟨_, hs⟩ := hs; (first | (obtain ⟨rfl, _⟩ := hs; rfl) | (obtain ⟨_, hs⟩ := hs; (first | (obtain ⟨rfl, _⟩ := hs; rfl) | (obtain ⟨_, hs⟩ := hs; (first | (obtain ⟨rfl, _⟩ := hs; rfl) | (obtain ⟨_, hs⟩ := hs; (first | (obtain ⟨rfl, _⟩ := hs; rfl) | (obtain ⟨_, hs⟩ := hs; (first | (obtain ⟨rfl, _⟩ := hs; rfl) | (obtain ⟨_, hs⟩ := hs; (first | (obtain ⟨rfl, _⟩ := hs; rfl) | (obtain ⟨_, hs⟩ := hs; (first | (obtain ⟨rfl, _⟩ := hs; rfl) | (obtain ⟨_, hs⟩ := hs; (first | (obtain ⟨rfl, _⟩ := hs; rfl) | (obtain ⟨_, hs⟩ := hs; (obtain ⟨rfl, _⟩ := hs; rfl)))))))))))))))))))))))))))))))))
  · refine ⟨_,
      (pss_one (ps_ret (pe_ifExp (pt_val (pe_call (ok_q_is_above T (TL := TL)) (hr.mono (by decide)) rfl T.q_is_above.g T.q_is_above.k T.q_is_above.b .nil pass0 (pa_cons (pv 0) (pa_cons (pv 1) pa_nil)))) (pv 1) (pv 0))))
      , run3 (K := K) (C := T.C) (TL := TL) h fun us n q e hs => ?_⟩
    obtain ⟨a, b, rfl, hq⟩ := hs
    simp [ro0]
    refine ⟨a, b, ⟨rfl, rfl⟩, ?_⟩
    unfold mnO at hq
    cases h : abO a b <;> simp [h] at hq ⊢ <;> exact hq
theorem ok_q_both (T : Txt K mg) : FnOk P w K mg base CX0 5 T.q_both.a T.q_both.d ["one", "other"] (toSp K T.C TL false sp_both) := by
  refine T.q_both.F.ok c_q_both (fun vs H Q E h => toSp_len h fun us n q e hs => ?_) (fun cdv A outer s H vs Q E hr h => ?_)
  · (first | (obtain ⟨rfl, _⟩ := hs; rfl) | (obtain ⟨_, hs⟩ := hs; (first | (obtain ⟨rfl, _⟩ := hs; rfl) | (obtain ⟨_, hs⟩ := hs; (first | (obtain ⟨rfl, _⟩ := hs; rfl) | (obtain ⟨_, hs⟩ := hs; (first | (obtain ⟨rfl, _⟩ := hs; rfl) | (obtain ⟨_, hs⟩ := hs; (first | (obtain ⟨rfl, _⟩ := hs; rfl) | (obtain ⟨_, hs⟩ := hs; (first | (obtain ⟨rfl, _⟩ := hs; rfl) | (obtain ⟨_, hs⟩ := hs; (first | (obtain ⟨rfl, _⟩ := hs; rfl) | (obtain ⟨_, hs⟩ := hs; (first | (obtain ⟨rfl, _⟩ := hs; rfl) | (obtain ⟨_, hs⟩ := hs; (first | (obtain ⟨rfl, _⟩ := hs; rfl) | (obtain ⟨_, hs⟩ := hs; (first | (obtain ⟨rfl, _⟩ := hs; rfl) | (obtain ⟨_, hs⟩ := hs; (first | (obtain ⟨rfl, _⟩ := hs; rfl) | (obtain ⟨_, hs⟩ := hs; (first | (obtain ⟨rfl, _⟩ := hs; rfl) | (obtain ⟨_, hs⟩ := hs; (first | (obtain ⟨rfl, _⟩ := hs; rfl) | (obtain ⟨_, hs⟩ := hs; (first | (obtain ⟨rfl, _⟩ := hs; rfl) | (obtain ⟨_, hs⟩ := hs; (first | (obtain ⟨rfl, _⟩ := hs; rfl) | (obtain ⟨_, hs⟩ := hs; (first | (obtain ⟨rfl, _⟩ := hs; rfl) | (obtain ⟨_, hs⟩ := hs; (obtain ⟨rfl, _⟩ := hs; rfl)))))))))))))))))))))))))))))))))
  · refine ⟨_,
      (pss_cons (ps_set (i := 2) c_q_both.nd rfl (Or.inl rfl) (pe_lst pa_nil))
      (pss_cons (ps_set (i := 3) c_q_both.nd rfl (Or.inl rfl) pe_int)
      (pss_cons (ps_set (i := 4) c_q_both.nd rfl (Or.inl rfl) pe_int)
      (pss_cons (ps_while PassesOwn.never (PW.pt (pw_and (pt_cmpR op_lt (pv 3) (pe_callB (len3 K) (by rfl) T.z_len (by decide +kernel) (pa_cons (pv 0) pa_nil)) (nomark _)) (pw_and1 (pt_cmpR op_lt (pv 4) (pe_callB (len3 K) (by rfl) T.z_len (by decide +kernel) (pa_cons (pv 1) pa_nil)) (nomark _)))))
      (pss_cons (ps_expr (bm3 K PySem.F.plainAttrs_list PySem.F.slot_list_append PySem.F.type_list_append mt_append (pv 2) (pa_cons (pe_tup (pa_cons (pe_call (ok_q_lesser T (TL := TL)) (hr.mono (by decide)) rfl T.q_lesser.g T.q_lesser.k T.q_lesser.b .nil pass0 (pa_cons (pe_ix (ix3 K) (pe_ix (ix3 K) (pv 0) (pv 3) (fun _ _ => rfl)) pe_int (fun _ _ => rfl)) (pa_cons (pe_ix (ix3 K) (pe_ix (ix3 K) (pv 1) (pv 4) (fun _ _ => rfl)) pe_int (fun _ _ => rfl)) pa_nil))) (pa_cons (pe_call (ok_q_lesser T (TL := TL)) (hr.mono (by decide)) rfl T.q_lesser.g T.q_lesser.k T.q_lesser.b .nil pass0 (pa_cons (pe_ix (ix3 K) (pe_ix (ix3 K) (pv 0) (pv 3) (fun _ _ => rfl)) pe_int (fun _ _ => rfl)) (pa_cons (pe_ix (ix3 K) (pe_ix (ix3 K) (pv 1) (pv 4) (fun _ _ => rfl)) pe_int (fun _ _ => rfl)) pa_nil))) pa_nil))) pa_nil)))
      (pss_cons (ps_set (i := 5) c_q_both.nd rfl (Or.inl rfl) (pe_not (pe_call (ok_q_is_above T (TL := TL)) (hr.mono (by decide)) rfl T.q_is_above.g T.q_is_above.k T.q_is_above.b .nil pass0 (pa_cons (pe_ix (ix3 K) (pe_ix (ix3 K) (pv 0) (pv 3) (fun _ _ => rfl)) pe_int (fun _ _ => rfl)) (pa_cons (pe_ix (ix3 K) (pe_ix (ix3 K) (pv 1) (pv 4) (fun _ _ => rfl)) pe_int (fun _ _ => rfl)) pa_nil)))))
      (pss_cons (ps_set (i := 6) c_q_both.nd rfl (Or.inl rfl) (pe_not (pe_call (ok_q_is_above T (TL := TL)) (hr.mono (by decide)) rfl T.q_is_above.g T.q_is_above.k T.q_is_above.b .nil pass0 (pa_cons (pe_ix (ix3 K) (pe_ix (ix3 K) (pv 1) (pv 4) (fun _ _ => rfl)) pe_int (fun _ _ => rfl)) (pa_cons (pe_ix (ix3 K) (pe_ix (ix3 K) (pv 0) (pv 3) (fun _ _ => rfl)) pe_int (fun _ _ => rfl)) pa_nil)))))
      (pss_cons (ps_if (pt_val (pv 5))
      (pss_one (ps_aug (i := 3) c_q_both.nd rfl (Or.inl rfl) pe_int ip_add))
      pss_nil)
      (pss_one (ps_if (pt_val (pv 6))
      (pss_one (ps_aug (i := 4) c_q_both.nd rfl (Or.inl rfl) pe_int ip_add))
      pss_nil)))))))
      (pss_one (ps_ret (pe_call (ok_q_stairs_of T (TL := TL)) (hr.mono (by decide)) rfl T.q_stairs_of.g T.q_stairs_of.k T.q_stairs_of.b .nil pass0 (pa_cons (pv 2) pa_nil))))))))
      , run3 (K := K) (C := T.C) (TL := TL) h fun us n q e hs => ?_⟩
    obtain ⟨cs, ds, rfl, hl, hl2, h1, h2, p1, p2, hq⟩ := hs
    simp [ro0]
    refine ⟨fun m ρ n' => n' = n ∧ ∃ (i j : Nat) (L : List Co) (z5 z6 : Sl), ρ = [.fz (.d (.tuple (cs.map cD))), .fz (.d (.tuple (ds.map cD))), .ow (L.map cD), .fz (.d (.int (i : Nat))), .fz (.d (.int (j : Nat))), z5, z6] ∧ m = (cs.length - i) + (ds.length - j) ∧ BtI cs ds i j L ∧ L.length ≤ i + j ∧ i ≤ cs.length ∧ j ≤ ds.length, ⟨_, rfl, 0, 0, [], _, _, rfl, rfl, ⟨(fun c h => by cases h), fun x y h g => .inr ⟨h, g⟩⟩, by simp, by omega, by omega⟩, ?_⟩
    rintro m ρ n' ⟨rfl, i, j, L, z5, z6, rfl, em, h, hL, hi, hj⟩
    have fin : (cs.length ≤ i ∨ ds.length ≤ j) → ∃ L_1 : List Co, List.map cD L = List.map cD L_1 ∧ L_1.length ≤ 1000 ∧ (∀ (a b : Option Int), (a, b) ∈ L_1 → posC (a, b)) ∧ ∀ (cs : List Co), stOfS L_1 cs → q (U.d (PyData.tuple (List.map cD cs))) n' := fun hij => by
      have pL : ∀ c ∈ L, posC c := fun c hc => by
        obtain ⟨a, ha, b, hb, rfl⟩ := h.sub c hc
        exact mn_pos (p1 a ha) (p2 b hb)
      refine ⟨L, rfl, by omega, fun a b m => pL _ m, fun es he => hq es he.1 (fun c hc => pL c (he.2.1 c hc)) (bt_done h hij he) ?_⟩
      have := he.2.2.2
      omega
    simp
    by_cases ci : i < cs.length
    · rw [if_pos ci]
      by_cases cj : j < ds.length
      · rw [if_pos cj]
        obtain ⟨a, ea⟩ : ∃ a, cs[i]? = some a := ⟨_, List.getElem?_eq_getElem ci⟩
        obtain ⟨b, eb⟩ : ∃ b, ds[j]? = some b := ⟨_, List.getElem?_eq_getElem cj⟩
        have st := bt_step h1 h2 ea eb h
        rw [ea, eb]
        simp
        refine ⟨a.1, b.1, ⟨rfl, rfl⟩, a.2, b.2, ⟨rfl, rfl⟩, few (by omega), a.1, b.1, ⟨rfl, rfl⟩, b.1, a.1, ⟨rfl, rfl⟩, ?_⟩
        have em2 : List.map cD L ++ [PyData.tuple [oD (mnO a.fst b.fst), oD (mnO a.snd b.snd)]] = (L ++ [mnC a b]).map cD := by
          rw [List.map_append]
          rfl
        rw [em2]
        have l1 : (L ++ [mnC a b]).length = L.length + 1 := by simp
        by_cases c1 : abO a.1 b.1 = true
        · have c2 : abO b.1 a.1 = false := by
            rcases ab_one a.1 b.1 with z | z
            · rw [c1] at z
              cases z
            · exact z
          rw [if_pos c1, c2] at st
          rw [if_pos c1, c2]
          exact ⟨_, by omega, i, j + 1, _, ⟨rfl, rfl, rfl⟩, rfl, st, by omega, by omega, by omega⟩
        · by_cases c2 : abO b.1 a.1 = true
          · rw [if_neg c1, if_pos c2] at st
            rw [if_neg c1, if_pos c2]
            exact ⟨_, by omega, i + 1, j, _, ⟨rfl, rfl, rfl⟩, rfl, st, by omega, by omega, by omega⟩
          · rw [if_neg c1, if_neg c2] at st
            rw [if_neg c1, if_neg c2]
            exact ⟨_, by omega, i + 1, j + 1, _, ⟨rfl, rfl, rfl⟩, rfl, st, by omega, by omega, by omega⟩
      · rw [if_neg cj]
        exact fin (.inr (by omega))
    · rw [if_neg ci]
      exact fin (.inl (by omega))
end
end G21
set_option Elab.async false
set_option linter.all false
set_option maxRecDepth 100000
set_option maxHeartbeats 4000000
set_option synthInstance.maxSize 100000
set_option synthInstance.maxHeartbeats 0
namespace G21
open PySem PySem.Spec PyProof.Rows L2 V3
@[simp ↓] def sp_mvitem : VSp := fun us n q _ => ∃ (a : Option Int) (b : Int), us = [.d (oD a), .d (.int b)] ∧ q (.d (oD (a.map fun k => k - b))) n
def mvC (b : Int × Int) (c : Co) : Co := (c.1.map fun k => k - b.1, c.2.map fun k => k - b.2)
/-- held when they have grown -/
def mvI (l b : Int × Int) (cs es : List Co) : Prop := ∀ x y : Int, 1 ≤ x → 1 ≤ y → (heldI es x y ↔ heldI cs (max l.1 (x + b.1)) (max l.2 (y + b.2)))
@[simp ↓] def sp_moved : VSp := fun us n q _ => ∃ (cs : List Co) (l b : Int × Int), us = [.d (.tuple (cs.map cD)), .d (pr l.1 l.2), .d (pr b.1 b.2)] ∧ cs.length ≤ 300 ∧ Can cs ∧ (∀ c ∈ cs, posC c) ∧ 1 ≤ l.1 ∧ 1 ≤ l.2 ∧
  ∀ es : List Co, Can es → (∀ c ∈ es, posC c) → mvI l b cs es → es.length ≤ cs.length → q (.d (.tuple (es.map cD))) n
@[simp ↓] def sp_chkst (BF : Addr) : VSp := fun us n q e => ∃ x : D, us = [.d x] ∧ ((∃ cs : List Co, x = .tuple (cs.map cD) ∧ Can cs ∧ (∀ c ∈ cs, posC c) ∧ cs.length ≤ 300 ∧ q (.d .none) n) ∨ ((∀ xs, x ≠ .tuple xs) ∧ e BF) ∨
  ∃ xs, x = .tuple xs ∧ xs.length ≤ 100 ∧ (∀ y ∈ xs, lenT y) ∧ (∃ y ∈ xs, isCo y = false) ∧ e BF)
@[simp ↓] def sp_chkby (BF : Addr) : VSp := fun us n q e => ∃ x : D, us = [.d x] ∧ lenT x ∧ (isPr x = true → q (.d .none) n) ∧ (isPr x = false → e BF)
def enP (c : Co) (x y : Int) : Bool := enB c (some x, some y)
theorem mv_list {l b : Int × Int} {cs es : List Co} (he : stOfS (((cs.filter fun c => enB c (some l.1, some l.2)).map (mvC b)).filter fun c => enB c (some 1, some 1)) es) : mvI l b cs es := fun x y hx hy => by
  rw [st_held he]
  constructor
  · rintro ⟨c, hc, h1, h2⟩
    obtain ⟨hc, _⟩ := List.mem_filter.mp hc
    obtain ⟨d, hd, rfl⟩ := List.mem_map.mp hc
    obtain ⟨hd, hl⟩ := List.mem_filter.mp hd
    have hl : cle d l.1 l.2 := by
      obtain ⟨d1, d2⟩ := d
      unfold enB at hl
      unfold cle
      cases d1 <;> cases d2 <;> simp [abO] at hl ⊢ <;> omega
    refine ⟨d, hd, fun k e => ?_, fun k e => ?_⟩
    · have := hl.1 k e
      have := h1 (k - b.1) (by unfold mvC; rw [e]; rfl)
      omega
    · have := hl.2 k e
      have := h2 (k - b.2) (by unfold mvC; rw [e]; rfl)
      omega
  · rintro ⟨d, hd, h1, h2⟩
    refine ⟨mvC b d, List.mem_filter.mpr ⟨List.mem_map.mpr ⟨d, List.mem_filter.mpr ⟨hd, ?_⟩, rfl⟩, ?_⟩, fun k e => ?_, fun k e => ?_⟩
    · obtain ⟨d1, d2⟩ := d
      unfold enB
      cases d1 <;> cases d2 <;> simp [abO]
      all_goals simp at h1 h2
      all_goals omega
    · obtain ⟨d1, d2⟩ := d
      unfold enB mvC
      cases d1 <;> cases d2 <;> simp [abO]
      all_goals simp at h1 h2
      all_goals omega
    · unfold mvC at e
      cases q : d.1 with
      | none =>
        rw [q] at e
        cases e
      | some j =>
        rw [q] at e
        have e : j - b.1 = k := Option.some.inj e
        have := h1 j q
        omega
    · unfold mvC at e
      cases q : d.2 with
      | none =>
        rw [q] at e
        cases e
      | some j =>
        rw [q] at e
        have e : j - b.2 = k := Option.some.inj e
        have := h2 j q
        omega
section
variable {P : Program} {w : World} {K : PySem.W.Frag} {mg : Str → Option Value} {base : Heap} {TL : List (Addr × Str)}
theorem ok_q_moved_item (T : Txt K mg) : FnOk P w K mg base CX0 1 T.q_moved_item.a T.q_moved_item.d ["item", "by"] (toSp K T.C TL false sp_mvitem) := by
  refine T.q_moved_item.F.ok c_q_moved_item (fun vs H Q E h => toSp_len h fun us n q e hs => ?_) (fun cdv A outer s H vs Q E hr h => ?_)
  · (first | (obtain ⟨rfl, _⟩ := hs; rfl) | (obtain ⟨_, hs⟩ := hs; (first | (obtain ⟨rfl, _⟩ := hs; rfl) | (obtain ⟨_, hs⟩ := hs; (first | (obtain ⟨rfl, _⟩ := hs; rfl) | (obtain ⟨_, hs⟩ := hs; (first | (obtain ⟨rfl, _⟩ := hs; rfl) | (obtain ⟨_, hs⟩ := hs; (first | (obtain ⟨rfl, _⟩ := hs; rfl) | (obtain ⟨_, hs⟩ := hs; (first | (obtain ⟨rfl, _⟩ := hs; rfl) | (obtain ⟨_, hs⟩ := hs; (first | (obtain ⟨rfl, _⟩ := hs; rfl) | (obtain ⟨_, hs⟩ := hs; (first | (obtain ⟨rfl, _⟩ := hs; rfl) | (obtain ⟨_, hs⟩ := hs; (first | (obtain ⟨rfl, _⟩ := hs; rfl) | (obtain ⟨_, hs⟩ := hs; (first | (obtain ⟨rfl, _⟩ := hs; rfl) | (obtain ⟨_, hs⟩ := hs; (first | (obtain ⟨rfl, _⟩ := hs; rfl) | (obtain ⟨_, hs⟩ := hs; (first | (obtain ⟨rfl, _⟩ := hs; rfl) | (obtain ⟨_, hs⟩ := hs; (first | (obtain ⟨rfl, _⟩ := hs; rfl) | (obtain ⟨_, hs⟩ := hs; (first | (obtain ⟨rfl, _⟩ := hs; rfl) | (obtain ⟨_, hs⟩ := hs; (first | (obtain ⟨rfl, _⟩ := hs; rfl) | (obtain ⟨_, hs⟩ := hs; (first | (obtain ⟨rfl, _⟩ := hs; rfl) | (obtain ⟨_, hs⟩ := hs; (obtain ⟨rfl, _⟩ := hs; rfl)))))))))))))))))))))))))))))))))
  · refine ⟨_,
      (pss_one (ps_ret (pe_ifExp (pt_cmpR op_isN3 (pv 0) pe_non (nomark _)) pe_non (pe_op op_sub (pv 0) (pv 1)))))
      , run3 (K := K) (C := T.C) (TL := TL) h fun us n q e hs => ?_⟩
    obtain ⟨a, b, rfl, hq⟩ := hs
    cases a <;> simp [ro0] <;> exact hq
theorem ok_q_check_stairs (T : Txt K mg) : FnOk P w K mg base (L2.CX P w) 5 T.q_check_stairs.a T.q_check_stairs.d ["stairs"] (toSp K T.C TL false (sp_chkst T.x_BadStairs.C)) := by
  refine T.q_check_stairs.F.okX c_q_check_stairs (fun vs H Q E h => toSp_len h fun us n q e hs => ?_) (fun cdv A outer s H vs Q E hr h => ?_)
  · (first | (obtain ⟨rfl, _⟩ := hs; rfl) | (obtain ⟨_, hs⟩ := hs; (first | (obtain ⟨rfl, _⟩ := hs; rfl) | (obtain ⟨_, hs⟩ := hs; (first | (obtain ⟨rfl, _⟩ := hs; rfl) | (obtain ⟨_, hs⟩ := hs; (first | (obtain ⟨rfl, _⟩ := hs; rfl) | (obtain ⟨_, hs⟩ := hs; (first | (obtain ⟨rfl, _⟩ := hs; rfl) | (obtain ⟨_, hs⟩ := hs; (first | (obtain ⟨rfl, _⟩ := hs; rfl) | (obtain ⟨_, hs⟩ := hs; (first | (obtain ⟨rfl, _⟩ := hs; rfl) | (obtain ⟨_, hs⟩ := hs; (first | (obtain ⟨rfl, _⟩ := hs; rfl) | (obtain ⟨_, hs⟩ := hs; (first | (obtain ⟨rfl, _⟩ := hs; rfl) | (obtain ⟨_, hs⟩ := hs; (first | (obtain ⟨rfl, _⟩ := hs; rfl) | (obtain ⟨_, hs⟩ := hs; (first | (obtain ⟨rfl, _⟩ := hs; rfl) | (obtain ⟨_, hs⟩ := hs; (first | (obtain ⟨rfl, _⟩ := hs; rfl) | (obtain ⟨_, hs⟩ := hs; (first | (obtain ⟨rfl, _⟩ := hs; rfl) | (obtain ⟨_, hs⟩ := hs; (first | (obtain ⟨rfl, _⟩ := hs; rfl) | (obtain ⟨_, hs⟩ := hs; (first | (obtain ⟨rfl, _⟩ := hs; rfl) | (obtain ⟨_, hs⟩ := hs; (first | (obtain ⟨rfl, _⟩ := hs; rfl) | (obtain ⟨_, hs⟩ := hs; (obtain ⟨rfl, _⟩ := hs; rfl)))))))))))))))))))))))))))))))))
  · refine ⟨_,
      (pss_one (ps_if (pt_not (pt_val (pe_call (ok_q_is_stairs T (TL := TL)) (hr.mono (by decide)) rfl T.q_is_stairs.g T.q_is_stairs.k T.q_is_stairs.b .nil pass0 (pa_cons (pv 0) pa_nil))))
      (pss_one (ps_rz (C' := T.x_BadStairs.C) (ps_raise rfl (takes_of rfl rfl rfl rfl) (pmk_own PySem.F.excBase_ValueError T.x_BadStairs.q T.x_BadStairs.g T.x_BadStairs.k (raises_own T.x_BadStairs.b T.x_BadStairs.t) (by exact rfl)))))
      pss_nil))
      , run3 (K := K) (C := T.C) (TL := TL) h fun us n q e hs => ?_⟩
    obtain ⟨x, rfl, hs⟩ := hs
    rcases hs with ⟨cs, rfl, hc, hp, hl, hq⟩ | ⟨nt, he⟩ | ⟨xs, rfl, hl, hly, hb, he⟩
    · simp [ro0]
      exact .inl ⟨cs, rfl, hc, fun a b m => hp _ m, hl, hq⟩
    · simp [ro0]
      exact .inr (.inl ⟨nt, he⟩)
    · simp [ro0]
      exact .inr ⟨hl, hly, hb, he⟩
theorem ok_q_check_by (T : Txt K mg) : FnOk P w K mg base (L2.CX P w) 3 T.q_check_by.a T.q_check_by.d ["by"] (toSp K T.C TL false (sp_chkby T.x_BadBy.C)) := by
  refine T.q_check_by.F.okX c_q_check_by (fun vs H Q E h => toSp_len h fun us n q e hs => ?_) (fun cdv A outer s H vs Q E hr h => ?_)
  · (first | (obtain ⟨rfl, _⟩ := hs; rfl) | (obtain ⟨_, hs⟩ := hs; (first | (obtain ⟨rfl, _⟩ := hs; rfl) | (obtain ⟨_, hs⟩ := hs; (first | (obtain ⟨rfl, _⟩ := hs; rfl) | (obtain ⟨_, hs⟩ := hs; (first | (obtain ⟨rfl, _⟩ := hs; rfl) | (obtain ⟨_, hs⟩ := hs; (first | (obtain ⟨rfl, _⟩ := hs; rfl) | (obtain ⟨_, hs⟩ := hs; (first | (obtain ⟨rfl, _⟩ := hs; rfl) | (obtain ⟨_, hs⟩ := hs; (first | (obtain ⟨rfl, _⟩ := hs; rfl) | (obtain ⟨_, hs⟩ := hs; (first | (obtain ⟨rfl, _⟩ := hs; rfl) | (obtain ⟨_, hs⟩ := hs; (first | (obtain ⟨rfl, _⟩ := hs; rfl) | (obtain ⟨_, hs⟩ := hs; (first | (obtain ⟨rfl, _⟩ := hs; rfl) | (obtain ⟨_, hs⟩ := hs; (first | (obtain ⟨rfl, _⟩ := hs; rfl) | (obtain ⟨_, hs⟩ := hs; (first | (obtain ⟨rfl, _⟩ := hs; rfl) | (obtain ⟨_, hs⟩ := hs; (first | (obtain ⟨rfl, _⟩ := hs; rfl) | (obtain ⟨_, hs⟩ := hs; (first | (obtain ⟨rfl, _⟩ := hs; rfl) | (obtain ⟨_, hs⟩ := hs; (first | (obtain ⟨rfl, _⟩ := hs; rfl) | (obtain ⟨_, hs⟩ := hs; (first | (obtain ⟨rfl, _⟩ := hs; rfl) | (obtain ⟨_, hs⟩ := hs; (obtain ⟨rfl, _⟩ := hs; rfl)))))))))))))))))))))))))))))))))
  · refine ⟨_,
      (pss_one (ps_if (pt_not (pt_val (pe_call (ok_q_is_number_pair T (TL := TL)) (hr.mono (by decide)) rfl T.q_is_number_pair.g T.q_is_number_pair.k T.q_is_number_pair.b .nil pass0 (pa_cons (pv 0) pa_nil))))
      (pss_one (ps_rz (C' := T.x_BadBy.C) (ps_raise rfl (takes_of rfl rfl rfl rfl) (pmk_own PySem.F.excBase_ValueError T.x_BadBy.q T.x_BadBy.g T.x_BadBy.k (raises_own T.x_BadBy.b T.x_BadBy.t) (by exact rfl)))))
      pss_nil))
      , run3 (K := K) (C := T.C) (TL := TL) h fun us n q e hs => ?_⟩
    obtain ⟨x, rfl, hl, hq, he⟩ := hs
    simp [ro0]
    refine ⟨hl, ?_⟩
    cases h : isPr x
    · simp [h] at he ⊢
      exact he
    · simp [h] at hq ⊢
      exact hq
theorem ok_q_moved (T : Txt K mg) : FnOk P w K mg base (L2.CX P w) 6 T.q_moved.a T.q_moved.d ["stairs", "least", "by"] (toSp K T.C TL false sp_moved) := by
  refine T.q_moved.F.okX c_q_moved (fun vs H Q E h => toSp_len h fun us n q e hs => ?_) (fun cdv A outer s H vs Q E hr h => ?_)
  · (first | (obtain ⟨rfl, _⟩ := hs; rfl) | (obtain ⟨_, hs⟩ := hs; (first | (obtain ⟨rfl, _⟩ := hs; rfl) | (obtain ⟨_, hs⟩ := hs; (first | (obtain ⟨rfl, _⟩ := hs; rfl) | (obtain ⟨_, hs⟩ := hs; (first | (obtain ⟨rfl, _⟩ := hs; rfl) | (obtain ⟨_, hs⟩ := hs; (first | (obtain ⟨rfl, _⟩ := hs; rfl) | (obtain ⟨_, hs⟩ := hs; (first | (obtain ⟨rfl, _⟩ := hs; rfl) | (obtain ⟨_, hs⟩ := hs; (first | (obtain ⟨rfl, _⟩ := hs; rfl) | (obtain ⟨_, hs⟩ := hs; (first | (obtain ⟨rfl, _⟩ := hs; rfl) | (obtain ⟨_, hs⟩ := hs; (first | (obtain ⟨rfl, _⟩ := hs; rfl) | (obtain ⟨_, hs⟩ := hs; (first | (obtain ⟨rfl, _⟩ := hs; rfl) | (obtain ⟨_, hs⟩ := hs; (first | (obtain ⟨rfl, _⟩ := hs; rfl) | (obtain ⟨_, hs⟩ := hs; (first | (obtain ⟨rfl, _⟩ := hs; rfl) | (obtain ⟨_, hs⟩ := hs; (first | (obtain ⟨rfl, _⟩ := hs; rfl) | (obtain ⟨_, hs⟩ := hs; (first | (obtain ⟨rfl, _⟩ := hs; rfl) | (obtain ⟨_, hs⟩ := hs; (first | (obtain ⟨rfl, _⟩ := hs; rfl) | (obtain ⟨_, hs⟩ := hs; (first | (obtain ⟨rfl, _⟩ := hs; rfl) | (obtain ⟨_, hs⟩ := hs; (obtain ⟨rfl, _⟩ := hs; rfl)))))))))))))))))))))))))))))))))
  · refine ⟨_,
      (pss_cons (ps_expr (pe_call (ok_q_check_stairs T (TL := TL)) (hr.mono (by decide)) rfl T.q_check_stairs.g T.q_check_stairs.k T.q_check_stairs.b .nil (passes_call (takes_of rfl rfl rfl rfl) (fun _ _ _ _ h => h)) (pa_cons (pv 0) pa_nil)))
      (pss_cons (ps_if (pt_not (pt_val (pe_call (ok_q_is_body T (TL := TL)) (hr.mono (by decide)) rfl T.q_is_body.g T.q_is_body.k T.q_is_body.b .nil pass0 (pa_cons (pv 1) pa_nil))))
      (pss_one (ps_rz (C' := T.x_BadLeast.C) (ps_raise rfl (takes_of rfl rfl rfl rfl) (pmk_own PySem.F.excBase_ValueError T.x_BadLeast.q T.x_BadLeast.g T.x_BadLeast.k (raises_own T.x_BadLeast.b T.x_BadLeast.t) (by exact rfl)))))
      pss_nil)
      (pss_cons (ps_expr (pe_call (ok_q_check_by T (TL := TL)) (hr.mono (by decide)) rfl T.q_check_by.g T.q_check_by.k T.q_check_by.b .nil (passes_call (takes_of rfl rfl rfl rfl) (fun _ _ _ _ h => h)) (pa_cons (pv 2) pa_nil)))
      (pss_cons (ps_setLc (i := 3) (own := [("wide", 4), ("high", 5)]) (g := gTup K 2 (gCons (gName 4) (gCons (gName 5) gNil))) (by rfl) c_q_moved.nd rfl rfl (sw_true rfl rfl rfl (by decide +kernel)) (seq3 K (pv 0)) (blkOk_by (own := [("wide", 4), ("high", 5)]) (N := N_q_moved) (sc := defScope S_q_moved) (by decide +kernel)) (fun _ _ _ _ _ => tupG3 K (n := 2) rfl (pgs_cons (pg_name (i := 4) c_q_moved.nd rfl (Or.inl rfl) (hf := Or.inr rfl)) (pgs_cons (pg_name (i := 5) c_q_moved.nd rfl (Or.inl rfl) (hf := Or.inr rfl)) pgs_nil))) (fun _ _ _ _ _ => (pts_one (pt_val (pe_call (ok_q_encloses T (TL := TL)) (hr.mono (by decide)) rfl T.q_encloses.g T.q_encloses.k T.q_encloses.b .nil pass0 (pa_cons (pe_tup (pa_cons (pv 4) (pa_cons (pv 5) pa_nil))) (pa_cons (pv 1) pa_nil)))))) (fun _ _ _ _ _ => (pe_tup (pa_cons (pe_call (ok_q_moved_item T (TL := TL)) (hr.mono (by decide)) rfl T.q_moved_item.g T.q_moved_item.k T.q_moved_item.b .nil pass0 (pa_cons (pv 4) (pa_cons (pe_ix (ix3 K) (pv 2) pe_int (fun _ _ => rfl)) pa_nil))) (pa_cons (pe_call (ok_q_moved_item T (TL := TL)) (hr.mono (by decide)) rfl T.q_moved_item.g T.q_moved_item.k T.q_moved_item.b .nil pass0 (pa_cons (pv 5) (pa_cons (pe_ix (ix3 K) (pv 2) pe_int (fun _ _ => rfl)) pa_nil))) pa_nil)))))
      (pss_one (ps_ret (pe_call (ok_q_stairs_of T (TL := TL)) (hr.mono (by decide)) rfl T.q_stairs_of.g T.q_stairs_of.k T.q_stairs_of.b .nil pass0 (pa_cons (pe_lc (own := [("corner", 6)]) (g := gName 6) (by rfl) c_q_moved.nd (seq3 K (pv 3)) (blkOk_by (own := [("corner", 6)]) (N := N_q_moved) (sc := defScope S_q_moved) (by decide +kernel)) (fun _ _ _ _ _ => pg_name (i := 6) c_q_moved.nd rfl (Or.inl rfl)) (fun _ _ _ _ _ => (pts_one (pt_val (pe_call (ok_q_encloses T (TL := TL)) (hr.mono (by decide)) rfl T.q_encloses.g T.q_encloses.k T.q_encloses.b .nil pass0 (pa_cons (pv 6) (pa_cons (pe_tup (pa_cons pe_int (pa_cons pe_int pa_nil))) pa_nil)))))) (fun _ _ _ _ _ => (pv 6))) pa_nil))))))))
      , run3 (K := K) (C := T.C) (TL := TL) h fun us n q e hs => ?_⟩
    obtain ⟨cs, l, b, rfl, hl, hcan, hpos, hl1, hl2, hq⟩ := hs
    simp [ro0]
    have eb : isBd (pr l.1 l.2) = true := by simp [isBd, isSzD, hl1, hl2]
    refine .inl ⟨cs, rfl, hcan, fun a b m => hpos _ m, hl, ?_⟩
    rw [if_pos eb]
    refine ⟨fun xs z => by cases z; simp, fun _ => ?_, fun z => by cases z⟩
    refine ⟨few (by omega), lcL_pure cD (fun c => cD (mvC b c)) (fun c => enB c (some l.1, some l.2)) cs n _ (fun c _ m Kt Ks h => ?_) ?_⟩
    · simp
      refine ⟨c.1, c.2, some l.1, some l.2, ⟨⟨rfl, rfl⟩, rfl, rfl⟩, ?_⟩
      cases q : enB c (some l.1, some l.2)
      · rw [q] at h
        simpa using h
      · rw [q] at h
        exact ⟨c.1, _, ⟨rfl, rfl⟩, c.2, _, ⟨rfl, rfl⟩, h⟩
    have em : (cs.filter fun c => enB c (some l.1, some l.2)).map (fun c => cD (mvC b c)) = ((cs.filter fun c => enB c (some l.1, some l.2)).map (mvC b)).map cD := by
      rw [List.map_map]
      rfl
    rw [em]
    have lf : ((cs.filter fun c => enB c (some l.1, some l.2)).map (mvC b)).length ≤ cs.length := by
      rw [List.length_map]
      exact List.length_filter_le _ _
    refine ⟨few (by rw [List.length_map]; omega), lcL_pure cD cD (fun c => enB c (some 1, some 1)) _ n _ (fun c _ m Kt Ks h => ?_) ?_⟩
    · simp
      refine ⟨c.1, c.2, some 1, some 1, ⟨⟨rfl, rfl⟩, rfl, rfl⟩, ?_⟩
      cases q : enB c (some 1, some 1)
      · rw [q] at h
        simpa using h
      · rw [q] at h
        exact h
    have pL : ∀ c ∈ ((cs.filter fun c => enB c (some l.1, some l.2)).map (mvC b)).filter fun c => enB c (some 1, some 1), posC c := fun c hc => by
      have := (List.mem_filter.mp hc).2
      obtain ⟨c1, c2⟩ := c
      unfold enB at this
      constructor
      · intro k e
        cases e
        simp [abO] at this
        omega
      · intro k e
        cases e
        simp [abO] at this
        omega
    have lf2 := List.length_filter_le (fun c => enB c (some 1, some 1)) ((cs.filter fun c => enB c (some l.1, some l.2)).map (mvC b))
    generalize hW : (((cs.filter fun c => enB c (some l.1, some l.2)).map (mvC b)).filter fun c => enB c (some 1, some 1)) = W at pL lf2
    refine ⟨W, rfl, by omega, fun a b m => pL _ m, fun es he => hq es he.1 (fun c hc => pL c (he.2.1 c hc)) (mv_list (by rw [hW]; exact he)) ?_⟩
    have := he.2.2.2
    omega
end
end G21
set_option Elab.async false
set_option linter.all false
set_option maxRecDepth 100000
set_option maxHeartbeats 4000000
/-! zip of two lists, of two tuples, told by values -/
namespace V3
open PySem PySem.Spec PyProof.Rows L2
section
variable {K : PySem.W.Frag} {C : Addr} {TL : List (Addr × Str)} {E : XK}
def zipD : List D → List D → List D
  | x :: xs, y :: ys => .tuple [x, y] :: zipD xs ys
  | _, _ => []
theorem zipD_get : ∀ {xs ys : List D} {i : Nat} {d : D}, (zipD xs ys)[i]? = some d → ∃ x y, xs[i]? = some x ∧ ys[i]? = some y ∧ d = .tuple [x, y]
  | x :: xs, y :: ys, 0, d, h => by
    cases h
    exact ⟨x, y, rfl, rfl, rfl⟩
  | x :: xs, y :: ys, i + 1, d, h => zipD_get (xs := xs) (ys := ys) (i := i) h
  | [], ys, i, d, h => by cases h
  | _ :: _, [], i, d, h => by cases h
theorem zipD_len : ∀ {xs ys : List D} {i : Nat}, (zipD xs ys).length ≤ i → xs.length ≤ i ∨ ys.length ≤ i
  | x :: xs, y :: ys, 0, h => by cases h
  | x :: xs, y :: ys, i + 1, h => by
    rcases zipD_len (xs := xs) (ys := ys) (i := i) (Nat.le_of_succ_le_succ h) with z | z
    · exact .inl (Nat.succ_le_succ z)
    · exact .inr (Nat.succ_le_succ z)
  | [], ys, i, h => .inl (Nat.zero_le _)
  | _ :: _, [], i, h => .inr (Nat.zero_le _)
theorem rp_two {am : Am} {O2 : Addr → Prop} {H2 H3 : Hp} {T : Addr} {x y : V} {d c : D} (hO : ∀ a, O2 a → There H2 a) (hT : H2 T = none) (e : H3 = upd H2 T (.tup [x, y])) (r : Rp am.K (cut O2 H2) x d) (r' : Rp am.K (cut O2 H2) y c) : Same H2 H3 ∧ Rp am.K (cut O2 H3) (.ref T) (.tuple [d, c]) := by
  subst e
  have s := same_new (o := .tup [x, y]) hT
  refine ⟨s, ?_⟩
  have nO : ¬ O2 T := fun z => by
    obtain ⟨o, q1, _⟩ := hO T z
    rw [hT] at q1
    cases q1
  have le : Le (cut O2 H2) (cut O2 (upd H2 T (.tup [x, y]))) := Le.cut (fun a z => .inl z) fun a o _ _ e => s a o e
  exact .tup (xs := [x, y]) (SqT.of (cut_some.mpr ⟨nO, upd_same⟩)) (.cons (Rp.le le _ _ r) (.cons (Rp.le le _ _ r') .nil))
theorem it_zip {am : Am} {O : Addr → Prop} {a b : Addr} {vs ws : List V} {ds es : List D} {H : Hp} (h : cut O H a = some (.lst vs)) (g : cut O H b = some (.lst ws)) (r : RpAll am.K (cut O H) vs ds) (r' : RpAll am.K (cut O H) ws es) : ItOk am O (Itz am.K a b) (zipD ds es) H := fun H2 O2 le th i => by
  have h2 := (cut_some.mp (le _ _ (fun ps z => by cases z) h)).2
  have g2 := (cut_some.mp (le _ _ (fun ps z => by cases z) g)).2
  have r2 := RpAll.le le _ _ r
  have r3 := RpAll.le le _ _ r'
  refine ⟨fun d e => ?_, fun e => ⟨vs, ws, SqL.of h2, SqL.of g2, by rw [RpAll.len r, RpAll.len r']; exact zipD_len e⟩⟩
  obtain ⟨x, y, e1, e2, rfl⟩ := zipD_get e
  obtain ⟨v, q1, q2⟩ := RpAll.get r2 e1
  obtain ⟨u, p1, p2⟩ := RpAll.get r3 e2
  refine ⟨⟨vs, ws, v, u, SqL.of h2, SqL.of g2, q1, p1⟩, fun z H3 w => ?_⟩
  obtain ⟨T, x', y', rfl, hT, e3, w1, w2⟩ := w
  have e4 := w1 vs (SqL.of h2)
  have e5 := w2 ws (SqL.of g2)
  rw [q1] at e4
  rw [p1] at e5
  cases e4
  cases e5
  exact rp_two th hT e3 q2 p2
theorem it_zipT {am : Am} {O : Addr → Prop} {a b : Addr} {vs ws : List V} {ds es : List D} {H : Hp} (h : SqT am.K (cut O H) a vs) (g : SqT am.K (cut O H) b ws) (r : RpAll am.K (cut O H) vs ds) (r' : RpAll am.K (cut O H) ws es) : ItOk am O (RZ.ItzT am.K a b) (zipD ds es) H := fun H2 O2 le th i => by
  have h2 := SqT.le Le.cutAll (SqT.le le h)
  have g2 := SqT.le Le.cutAll (SqT.le le g)
  have r2 := RpAll.le le _ _ r
  have r3 := RpAll.le le _ _ r'
  refine ⟨fun d e => ?_, fun e => ⟨vs, ws, h2, g2, by rw [RpAll.len r, RpAll.len r']; exact zipD_len e⟩⟩
  obtain ⟨x, y, e1, e2, rfl⟩ := zipD_get e
  obtain ⟨v, q1, q2⟩ := RpAll.get r2 e1
  obtain ⟨u, p1, p2⟩ := RpAll.get r3 e2
  refine ⟨⟨vs, ws, v, u, h2, g2, q1, p1⟩, fun z H3 w => ?_⟩
  obtain ⟨T, x', y', rfl, hT, e3, w1, w2⟩ := w
  have e4 := w1 vs h2
  have e5 := w2 ws g2
  rw [q1] at e4
  rw [p1] at e5
  cases e4
  cases e5
  exact rp_two th hT e3 q2 p2
@[simp ↓] def mZip (ma : TA3) : TI3 := fun ρ n q e => ma ρ n (fun us n1 => match us with
    | [.d (.list ds), .d (.list es)] => q (zipD ds es) n1
    | [.d (.tuple ds), .d (.tuple es)] => q (zipD ds es) n1
    | _ => False) e
instance {ta : TA} {S : List Nat} {ma : TA3} [ha : LA K C TL E ta S ma] : LI K C TL E (RZ.iZipA K ta) S (mZip ma) where
  s am ρ n σ H hE h R q hm k := by
    obtain ⟨rfl, rfl, rfl, rfl⟩ := id hE
    refine ha.s am ρ n σ H hE h _ _ hm fun us n1 vs H1 hq f1 w1 r1 => ?_
    match us, hq, r1 with
    | [.d (.list ds), .d (.list es)], hq, .cons r (.cons r' .nil) =>
      cases r with
      | lst a1 a2 =>
        cases r' with
        | lst b1 b2 => exact ⟨_, _, _, _, rfl, .inl ⟨SqL.of (cut_some.mp a1).2, SqL.of (cut_some.mp b1).2, k _ n1 _ H1 hq f1 w1 (it_zip a1 b1 a2 b2)⟩⟩
    | [.d (.tuple ds), .d (.tuple es)], hq, .cons r (.cons r' .nil) =>
      cases r with
      | tup a1 a2 =>
        cases r' with
        | tup b1 b2 => exact ⟨_, _, _, _, rfl, .inr ⟨SqT.le Le.cutAll a1, SqT.le Le.cutAll b1, k _ n1 _ H1 hq f1 w1 (it_zipT a1 b1 a2 b2)⟩⟩
end
section
variable {X : Cx}
theorem zip3 (K : PySem.W.Frag) {e e2 : Expr} {ta : TA} {p pos tpos : Pos} {elts : List Expr} {kk : Nat} (hg : Gl X "zip") (hm : X.mg "zip" = none) (ha : PA X [e, e2] ta)
    (hs : starEach [e, e2] X.env = (false, eval e X.env) :: starEach [e2] X.env := by rfl) (hpl : (backTo pos (starEach [e2] X.env)).any (·.1) = false := by rfl) (h : X.K = K := by rfl) :
    PI X (.Tuple elts kk tpos) (.Call (.Name "zip" p) [e, e2] [] pos) (RZ.iZipA K ta) := by
  subst h
  exact RZ.pi_zipA hg hm ha hs hpl
end
end V3
set_option Elab.async false
set_option linter.all false
set_option maxRecDepth 100000
set_option maxHeartbeats 4000000
set_option synthInstance.maxSize 100000
set_option synthInstance.maxHeartbeats 0
namespace G21
open PySem PySem.Spec PyProof.Rows L2 V3
def lenB (x : D) : Prop := ∀ xs, x = .tuple xs → xs.length ≤ 1000
abbrev pD (p : Int × Int) : D := pr p.1 p.2
theorem pD_tup (ps : List (Int × Int)) : ps.map pD = (ps.map fun p => [p.1, p.2]).map tupI := by
  rw [List.map_map]
  rfl
theorem held_mono {cs : List Co} {x y x' y' : Int} (h : heldI cs x y) (hx : x' ≤ x) (hy : y' ≤ y) : heldI cs x' y' := by
  obtain ⟨c, m, c1, c2⟩ := h
  refine ⟨c, m, fun k e => ?_, fun k e => ?_⟩
  · have := c1 k e
    omega
  · have := c2 k e
    omega
theorem enB_cle {c : Co} {A B : Int} : enB c (some A, some B) = true ↔ cle c A B := by
  obtain ⟨c1, c2⟩ := c
  unfold enB cle
  cases c1 <;> cases c2 <;> simp [abO] <;> omega
theorem has_held {cs : List Co} {A B : Int} : hasB cs (some A, some B) = true ↔ heldI cs A B := by
  unfold hasB heldI
  rw [List.any_eq_true]
  exact ⟨fun ⟨c, m, h⟩ => ⟨c, m, enB_cle.mp h⟩, fun ⟨c, m, h⟩ => ⟨c, m, enB_cle.mpr h⟩⟩
theorem forL_mapW {is : List Nat} {tup : Bool} {mb : TS3} {F : En3} {e : Addr → Prop} {α : Type} (D0 : α → D) (I : List α → List α → Ro → Nat → Prop) :
    ∀ (left done : List α) (ρ : Ro) (n : Nat), (∀ done ρ m, I done [] ρ m → F.nx ρ m) →
    (∀ done x left ρ m (G : Ro → Nat → Prop), (∀ ρ' m', I (done ++ [x]) left ρ' m' → G ρ' m') → I done (x :: left) ρ m → giv is tup (D0 x) ρ fun ρ' => mb { F with nx := G, ct := G, bk := F.nx } ρ' m e) →
    I done left ρ n → forL is tup mb F e (left.map D0) ρ n
  | [], done, ρ, n, h0, _, i => h0 done ρ n i
  | x :: left, done, ρ, n, h0, hs, i => hs done x left ρ n _ (fun ρ' m' i' => forL_mapW D0 I left (done ++ [x]) ρ' m' h0 hs i') i
def okE (e : D) : Prop := SeqAt.shaped e = true ∧ ∃ xs, e = .tuple xs
abbrev rwD (f : Fm) : D := .tuple [.tuple (f.cs.map cD), pD f.l, pD f.b]
end G21
set_option Elab.async false
set_option linter.all false
set_option maxRecDepth 100000
set_option maxHeartbeats 4000000
set_option synthInstance.maxSize 100000
set_option synthInstance.maxHeartbeats 0
namespace G21
open PySem PySem.Spec PyProof.Rows L2 V3
theorem last_wide : ∀ {cs : List Co} {d x : Co} {A B : Int}, Can cs → cs.getLast? = some d → x ∈ cs → cle x A B → ∀ k, d.1 = some k → A ≤ k
  | [], _, _, _, _, _, _, m, _ => by cases m
  | [c], d, x, A, B, _, e, m, h => by
    rw [List.mem_singleton.mp m] at h
    cases e
    exact h.1
  | c :: c' :: cs, d, x, A, B, h, e, m, hx => by
    obtain ⟨h1, h2⟩ := List.pairwise_cons.mp h
    have e2 : (c' :: cs).getLast? = some d := by
      rw [List.getLast?_cons_cons] at e
      exact e
    intro k ek
    rcases List.mem_cons.mp m with rfl | m
    · have l := (h1 d (List.mem_of_getLast? e2)).1
      rw [ek] at l
      cases ex : x.1 with
      | none =>
        rw [ex] at l
        cases l
      | some j =>
        rw [ex] at l
        have l : j < k := l
        have := hx.1 j ex
        omega
    · exact last_wide h2 e2 m hx k ek
theorem head_high {cs : List Co} {c x : Co} {A B : Int} (h : Can cs) (e : cs.head? = some c) (m : x ∈ cs) (hx : cle x A B) : ∀ k, c.2 = some k → B ≤ k := fun k ek => by
  cases cs with
  | nil => cases m
  | cons c0 cs =>
    cases e
    rcases List.mem_cons.mp m with rfl | m
    · exact hx.2 k ek
    · have l := ((List.pairwise_cons.mp h).1 x m).2
      rw [ek] at l
      cases ex : x.2 with
      | none =>
        rw [ex] at l
        cases l
      | some j =>
        rw [ex] at l
        have l : j < k := l
        have := hx.2 j ex
        omega
theorem plain_eq {o : Option Int} {l b s : Int} (hs : 1 ≤ s) (h : ∀ k, o = some k → s ≤ k) : max (max l (1 + b)) (s + plainB o l b) = max l (s + b) := by
  cases o with
  | none =>
    show max (max l (1 + b)) (s + b) = _
    omega
  | some k =>
    have := h k rfl
    show max (max l (1 + b)) (s + (max l (k + b) - k)) = _
    omega
/-- a form that was made, of its raw numbers -/
def nrm (f : Fm) : Fm := ⟨f.e, f.cs, nLw f.cs f.l f.b, nBy f.cs f.l f.b⟩
theorem beh_nrm {f : Fm} {p : Int × Int} (hc : Can f.cs) (h1 : 1 ≤ p.1) (h2 : 1 ≤ p.2) (h : hasI f p = true) : behI (nrm f).l (nrm f).b p = behI f.l f.b p := by
  obtain ⟨x, m, hx⟩ := has_held.mp h
  have ne : f.cs ≠ [] := fun z => by
    rw [z] at m
    cases m
  obtain ⟨c, ec⟩ : ∃ c, f.cs.head? = some c := by
    cases q : f.cs with
    | nil => exact absurd q ne
    | cons c _ => exact ⟨c, rfl⟩
  obtain ⟨d, ed⟩ : ∃ d, f.cs.getLast? = some d := ⟨_, List.getLast?_eq_some_getLast ne⟩
  have e1 : (nrm f).l = (max f.l.1 (1 + f.b.1), max f.l.2 (1 + f.b.2)) := by
    show nLw f.cs f.l f.b = _
    unfold nLw
    rw [if_neg ne]
  have e2 : (nrm f).b = (plainB d.1 f.l.1 f.b.1, plainB c.2 f.l.2 f.b.2) := by
    show nBy f.cs f.l f.b = _
    unfold nBy
    rw [ec, ed]
  unfold behI
  rw [e1, e2]
  exact Prod.ext (plain_eq h1 (last_wide hc ed m hx)) (plain_eq h2 (head_high hc ec m hx))
theorem has_nrm (f : Fm) (p : Int × Int) : hasI (nrm f) p = hasI f p := rfl
theorem prt_nrm {f g : Fm} {p : Int × Int} (hf : Can f.cs) (hg : Can g.cs) (h1 : 1 ≤ p.1) (h2 : 1 ≤ p.2) : prtB (nrm f) (nrm g) p = prtB f g p := by
  unfold prtB
  rw [has_nrm, has_nrm]
  cases a : hasI f p <;> cases b : hasI g p
  · rfl
  · rfl
  · rfl
  · rw [beh_nrm hf h1 h2 a, beh_nrm hg h1 h2 b]
    rfl
end G21
set_option Elab.async false
set_option linter.all false
set_option maxRecDepth 100000
set_option maxHeartbeats 4000000
set_option synthInstance.maxSize 100000
set_option synthInstance.maxHeartbeats 0
namespace G21
open PySem PySem.Spec PyProof.Rows L2 V3
abbrev plU (C : Addr) (m x y : Int) (cs : List Co) (l b : Int × Int) : U := fmU C (plD m x y) (nrm ⟨plD m x y, cs, l, b⟩)
@[simp ↓] def sp_stillat (C : Addr) : VSp := fun us n q _ => ∃ (m x y : Int) (cs : List Co), us = [.d (plD m x y), .d (.tuple (cs.map cD))] ∧ 0 ≤ m ∧ Can cs ∧ (∀ c ∈ cs, posC c) ∧ cs.length ≤ 300 ∧ q (plU C m x y cs (1, 1) (0, 0)) n
@[simp ↓] def sp_chkpl (BF : Addr) : VSp := fun us n q e => ∃ x : D, us = [.d x] ∧ lenT x ∧ (∀ a b, x = .tuple [a, b] → lenT b) ∧ (isPl x = true → q (.d .none) n) ∧ (isPl x = false → e BF)
@[simp ↓] def sp_still (C BP BS : Addr) : VSp := fun us n q e => ∃ x y : D, us = [.d x, .d y] ∧ plOk x ∧ ((isPl x = false ∧ e BP) ∨ (isPl x = true ∧ badS y ∧ e BS) ∨
  ∃ (m a b : Int) (cs : List Co), x = plD m a b ∧ y = .tuple (cs.map cD) ∧ 0 ≤ m ∧ Can cs ∧ (∀ c ∈ cs, posC c) ∧ cs.length ≤ 300 ∧ q (plU C m a b cs (1, 1) (0, 0)) n)
/-- held ahead and behind -/
def ldS (cs es : List Co) (b : Int × Int) : Prop := Can es ∧ (∀ c ∈ es, posC c) ∧ es.length ≤ 300 ∧ ∀ x y : Int, 1 ≤ x → 1 ≤ y → (heldI es x y ↔ heldI cs x y ∧ heldI cs (max 1 (x + b.1)) (max 1 (y + b.2)))
@[simp ↓] def sp_loadat (C : Addr) : VSp := fun us n q _ => ∃ (m x y : Int) (cs : List Co) (b : Int × Int), us = [.d (plD m x y), .d (.tuple (cs.map cD)), .d (pr b.1 b.2)] ∧ 0 ≤ m ∧ Can cs ∧ (∀ c ∈ cs, posC c) ∧ cs.length ≤ 100 ∧ ∀ es, ldS cs es b → q (plU C m x y es (1, 1) b) n
@[simp ↓] def sp_loadf (C BP BY : Addr) : VSp := fun us n q e => ∃ x y z : D, us = [.d x, .d y, .d z] ∧ plOk x ∧ lenT z ∧ ((isPl x = false ∧ e BP) ∨ ∃ (m a b : Int) (cs : List Co), x = plD m a b ∧ y = .tuple (cs.map cD) ∧ 0 ≤ m ∧ Can cs ∧ (∀ c ∈ cs, posC c) ∧ cs.length ≤ 100 ∧
  ((isPr z = false ∧ e BY) ∨ ∃ d : Int × Int, z = pr d.1 d.2 ∧ ∀ es, ldS cs es d → q (plU C m a b es (1, 1) d) n))
section
variable {P : Program} {w : World} {K : PySem.W.Frag} {mg : Str → Option Value} {base : Heap} {TL : List (Addr × Str)}
theorem ok_q_still_at (T : Txt K mg) : FnOk P w K mg base CX0 8 T.q_still_at.a T.q_still_at.d ["place", "stairs"] (toSp K T.C TL false (sp_stillat T.C)) := by
  refine T.q_still_at.F.ok c_q_still_at (fun vs H Q E h => toSp_len h fun us n q e hs => ?_) (fun cdv A outer s H vs Q E hr h => ?_)
  · (first | (obtain ⟨rfl, _⟩ := hs; rfl) | (obtain ⟨_, hs⟩ := hs; (first | (obtain ⟨rfl, _⟩ := hs; rfl) | (obtain ⟨_, hs⟩ := hs; (first | (obtain ⟨rfl, _⟩ := hs; rfl) | (obtain ⟨_, hs⟩ := hs; (first | (obtain ⟨rfl, _⟩ := hs; rfl) | (obtain ⟨_, hs⟩ := hs; (first | (obtain ⟨rfl, _⟩ := hs; rfl) | (obtain ⟨_, hs⟩ := hs; (first | (obtain ⟨rfl, _⟩ := hs; rfl) | (obtain ⟨_, hs⟩ := hs; (first | (obtain ⟨rfl, _⟩ := hs; rfl) | (obtain ⟨_, hs⟩ := hs; (first | (obtain ⟨rfl, _⟩ := hs; rfl) | (obtain ⟨_, hs⟩ := hs; (first | (obtain ⟨rfl, _⟩ := hs; rfl) | (obtain ⟨_, hs⟩ := hs; (first | (obtain ⟨rfl, _⟩ := hs; rfl) | (obtain ⟨_, hs⟩ := hs; (first | (obtain ⟨rfl, _⟩ := hs; rfl) | (obtain ⟨_, hs⟩ := hs; (first | (obtain ⟨rfl, _⟩ := hs; rfl) | (obtain ⟨_, hs⟩ := hs; (first | (obtain ⟨rfl, _⟩ := hs; rfl) | (obtain ⟨_, hs⟩ := hs; (first | (obtain ⟨rfl, _⟩ := hs; rfl) | (obtain ⟨_, hs⟩ := hs; (first | (obtain ⟨rfl, _⟩ := hs; rfl) | (obtain ⟨_, hs⟩ := hs; (first | (obtain ⟨rfl, _⟩ := hs; rfl) | (obtain ⟨_, hs⟩ := hs; (obtain ⟨rfl, _⟩ := hs; rfl)))))))))))))))))))))))))))))))))
  · refine ⟨_,
      (pss_one (ps_ret (pe_make T.M (ok_q_Form_init T (TL := TL)) (hr.mono (by decide)) rfl T.gC T.bI .nil passL (pa_cons (pv 0) (pa_cons (pv 0) (pa_cons (pv 1) (pa_cons (pe_tup (pa_cons pe_int (pa_cons pe_int pa_nil))) (pa_cons (pe_tup (pa_cons pe_int (pa_cons pe_int pa_nil))) pa_nil))))))))
      , run3 (K := K) (C := T.C) (TL := TL) h fun us n q e hs => ?_⟩
    obtain ⟨m, x, y, cs, rfl, hm, hc, hp, hl, hq⟩ := hs
    simp [ro0]
    exact ⟨m, x, y, m, x, y, cs, (1, 1), (0, 0), rfl, hm, hm, hc, hp, hl, by decide, by decide, hq⟩
theorem ok_q_check_any_place (T : Txt K mg) : FnOk P w K mg base (L2.CX P w) 4 T.q_check_any_place.a T.q_check_any_place.d ["place"] (toSp K T.C TL false (sp_chkpl T.x_BadPlace.C)) := by
  refine T.q_check_any_place.F.okX c_q_check_any_place (fun vs H Q E h => toSp_len h fun us n q e hs => ?_) (fun cdv A outer s H vs Q E hr h => ?_)
  · (first | (obtain ⟨rfl, _⟩ := hs; rfl) | (obtain ⟨_, hs⟩ := hs; (first | (obtain ⟨rfl, _⟩ := hs; rfl) | (obtain ⟨_, hs⟩ := hs; (first | (obtain ⟨rfl, _⟩ := hs; rfl) | (obtain ⟨_, hs⟩ := hs; (first | (obtain ⟨rfl, _⟩ := hs; rfl) | (obtain ⟨_, hs⟩ := hs; (first | (obtain ⟨rfl, _⟩ := hs; rfl) | (obtain ⟨_, hs⟩ := hs; (first | (obtain ⟨rfl, _⟩ := hs; rfl) | (obtain ⟨_, hs⟩ := hs; (first | (obtain ⟨rfl, _⟩ := hs; rfl) | (obtain ⟨_, hs⟩ := hs; (first | (obtain ⟨rfl, _⟩ := hs; rfl) | (obtain ⟨_, hs⟩ := hs; (first | (obtain ⟨rfl, _⟩ := hs; rfl) | (obtain ⟨_, hs⟩ := hs; (first | (obtain ⟨rfl, _⟩ := hs; rfl) | (obtain ⟨_, hs⟩ := hs; (first | (obtain ⟨rfl, _⟩ := hs; rfl) | (obtain ⟨_, hs⟩ := hs; (first | (obtain ⟨rfl, _⟩ := hs; rfl) | (obtain ⟨_, hs⟩ := hs; (first | (obtain ⟨rfl, _⟩ := hs; rfl) | (obtain ⟨_, hs⟩ := hs; (first | (obtain ⟨rfl, _⟩ := hs; rfl) | (obtain ⟨_, hs⟩ := hs; (first | (obtain ⟨rfl, _⟩ := hs; rfl) | (obtain ⟨_, hs⟩ := hs; (first | (obtain ⟨rfl, _⟩ := hs; rfl) | (obtain ⟨_, hs⟩ := hs; (obtain ⟨rfl, _⟩ := hs; rfl)))))))))))))))))))))))))))))))))
  · refine ⟨_,
      (pss_one (ps_if (pt_not (pt_val (pe_call (ok_q_is_any_place T (TL := TL)) (hr.mono (by decide)) rfl T.q_is_any_place.g T.q_is_any_place.k T.q_is_any_place.b .nil pass0 (pa_cons (pv 0) pa_nil))))
      (pss_one (ps_rz (C' := T.x_BadPlace.C) (ps_raise rfl (takes_of rfl rfl rfl rfl) (pmk_own PySem.F.excBase_ValueError T.x_BadPlace.q T.x_BadPlace.g T.x_BadPlace.k (raises_own T.x_BadPlace.b T.x_BadPlace.t) (by exact rfl)))))
      pss_nil))
      , run3 (K := K) (C := T.C) (TL := TL) h fun us n q e hs => ?_⟩
    obtain ⟨x, rfl, hl, hlb, hq, he⟩ := hs
    simp [ro0]
    refine ⟨hl, hlb, ?_⟩
    cases h : isPl x
    · simp [h] at he ⊢
      exact he
    · simp [h] at hq ⊢
      exact hq
theorem ok_q_still (T : Txt K mg) : FnOk P w K mg base (L2.CX P w) 9 T.q_still.a T.q_still.d ["place", "stairs"] (toSp K T.C TL false (sp_still T.C T.x_BadPlace.C T.x_BadStairs.C)) := by
  refine T.q_still.F.okX c_q_still (fun vs H Q E h => toSp_len h fun us n q e hs => ?_) (fun cdv A outer s H vs Q E hr h => ?_)
  · (first | (obtain ⟨rfl, _⟩ := hs; rfl) | (obtain ⟨_, hs⟩ := hs; (first | (obtain ⟨rfl, _⟩ := hs; rfl) | (obtain ⟨_, hs⟩ := hs; (first | (obtain ⟨rfl, _⟩ := hs; rfl) | (obtain ⟨_, hs⟩ := hs; (first | (obtain ⟨rfl, _⟩ := hs; rfl) | (obtain ⟨_, hs⟩ := hs; (first | (obtain ⟨rfl, _⟩ := hs; rfl) | (obtain ⟨_, hs⟩ := hs; (first | (obtain ⟨rfl, _⟩ := hs; rfl) | (obtain ⟨_, hs⟩ := hs; (first | (obtain ⟨rfl, _⟩ := hs; rfl) | (obtain ⟨_, hs⟩ := hs; (first | (obtain ⟨rfl, _⟩ := hs; rfl) | (obtain ⟨_, hs⟩ := hs; (first | (obtain ⟨rfl, _⟩ := hs; rfl) | (obtain ⟨_, hs⟩ := hs; (first | (obtain ⟨rfl, _⟩ := hs; rfl) | (obtain ⟨_, hs⟩ := hs; (first | (obtain ⟨rfl, _⟩ := hs; rfl) | (obtain ⟨_, hs⟩ := hs; (first | (obtain ⟨rfl, _⟩ := hs; rfl) | (obtain ⟨_, hs⟩ := hs; (first | (obtain ⟨rfl, _⟩ := hs; rfl) | (obtain ⟨_, hs⟩ := hs; (first | (obtain ⟨rfl, _⟩ := hs; rfl) | (obtain ⟨_, hs⟩ := hs; (first | (obtain ⟨rfl, _⟩ := hs; rfl) | (obtain ⟨_, hs⟩ := hs; (first | (obtain ⟨rfl, _⟩ := hs; rfl) | (obtain ⟨_, hs⟩ := hs; (obtain ⟨rfl, _⟩ := hs; rfl)))))))))))))))))))))))))))))))))
  · refine ⟨_,
      (pss_cons (ps_expr (pe_call (ok_q_check_any_place T (TL := TL)) (hr.mono (by decide)) rfl T.q_check_any_place.g T.q_check_any_place.k T.q_check_any_place.b .nil (passes_call (takes_of rfl rfl rfl rfl) (fun _ _ _ _ h => h)) (pa_cons (pv 0) pa_nil)))
      (pss_cons (ps_expr (pe_call (ok_q_check_stairs T (TL := TL)) (hr.mono (by decide)) rfl T.q_check_stairs.g T.q_check_stairs.k T.q_check_stairs.b .nil (passes_call (takes_of rfl rfl rfl rfl) (fun _ _ _ _ h => h)) (pa_cons (pv 1) pa_nil)))
      (pss_one (ps_ret (pe_call (ok_q_still_at T (TL := TL)) (hr.mono (by decide)) rfl T.q_still_at.g T.q_still_at.k T.q_still_at.b .nil pass0 (pa_cons (pv 0) (pa_cons (pv 1) pa_nil)))))))
      , run3 (K := K) (C := T.C) (TL := TL) h fun us n q e hs => ?_⟩
    obtain ⟨x, y, rfl, ⟨h1, h2⟩, hs⟩ := hs
    simp [ro0]
    refine ⟨h1, h2, fun hp => ?_, fun hp => ?_⟩
    · rcases hs with ⟨z, _⟩ | ⟨_, hb, he⟩ | ⟨m, a, b, cs, rfl, rfl, hm, hc, hpos, hl, hq⟩
      · rw [hp] at z
        cases z
      · rcases hb with nt | ⟨xs, rfl, b1, b2, b3⟩
        · exact .inr (.inl ⟨nt, he⟩)
        · exact .inr (.inr ⟨xs, rfl, b1, b2, b3, he⟩)
      · exact .inl ⟨cs, rfl, hc, fun a b m => hpos _ m, hl, m, a, b, cs, ⟨rfl, rfl⟩, hm, hc, fun a b m => hpos _ m, hl, hq⟩
    · rcases hs with ⟨_, he⟩ | ⟨z, _⟩ | ⟨m, a, b, cs, rfl, rfl, hm, hc, hpos, hl, hq⟩
      · exact he
      · rw [hp] at z
        cases z
      · have : isPl (plD m a b) = true := by simp [isPl, isPr, isN, hm]
        rw [hp] at this
        cases this
end
end G21
set_option Elab.async false
set_option linter.all false
set_option maxRecDepth 100000
set_option maxHeartbeats 4000000
set_option synthInstance.maxSize 100000
set_option synthInstance.maxHeartbeats 0
namespace G21
open PySem PySem.Spec PyProof.Rows L2 V3
@[simp ↓] def sp_lheld : VSp := fun us n q _ => ∃ (cs : List Co) (A B : Int), us = [.d (.tuple (cs.map cD)), .d (pr A B)] ∧ cs.length ≤ 300 ∧ q (.d (.bool (hasB cs (some A, some B)))) n
theorem held_cle {c : Co} {A B : Int} : hdO c (some A, some B) = true ↔ cle c A B := by
  rw [hdO_le]
  obtain ⟨c1, c2⟩ := c
  unfold leC cle
  refine and_congr ?_ ?_
  · cases c1 <;> simp [leO]
  · cases c2 <;> simp [leO]

@[simp ↓] def sp_grow : VSp := fun us n q _ => ∃ l b s : Int × Int, us = [.d (pD l), .d (pD b), .d (pD s)] ∧ q (.d (pD (behI l b s))) n
@[simp ↓] def sp_lsize : VSp := fun us n q _ => ∃ x, us = [.d x] ∧ q (.d (.bool (isSzD x))) n
@[simp ↓] def sp_lbody : VSp := fun us n q _ => ∃ a b : Int, us = [.d (pr a b)] ∧ 1 ≤ a ∧ 1 ≤ b ∧ q (.d (.bool true)) n
def rowL (m : Nat) (as : List Nat) : List (Int × Int) := as.flatMap fun (a : Nat) => (List.range m).map fun (b : Nat) => (1 + ((a : Nat) : Int), 1 + ((b : Nat) : Int))
def bodL (m : Nat) : List (Int × Int) := rowL m (List.range m)
theorem row_len (m : Nat) : ∀ as : List Nat, (rowL m as).length = as.length * m
  | [] => by simp [rowL]
  | a :: as => by
    have := row_len m as
    unfold rowL at this ⊢
    rw [List.flatMap_cons, List.length_append, this, List.length_cons, Nat.succ_mul]
    simp
    omega
@[simp ↓] def sp_fewb : VSp := fun us n q _ => ∃ m : Nat, us = [.d (.int (m : Nat))] ∧ m ≤ 20 ∧ q (.d (.list ((bodL m).map pD))) n
@[simp ↓] def sp_drsize : VSp := fun us n q _ => us = [.dr] ∧ n + 100 ≤ topD ∧ ∀ k : Int, 1 ≤ k → k ≤ 100000 → q (.d (.int k)) (n + 5)
theorem flat_pDs : ∀ ps : List (Int × Int), V3.flatAll (ps.map pD) = true
  | [] => rfl
  | _ :: ps => flat_pDs ps
section
variable {P : Program} {w : World} {K : PySem.W.Frag} {mg : Str → Option Value} {base : Heap} {TL : List (Addr × Str)}
theorem ok_l_held (T : Txt K mg) : FnOk P w K mg base CX0 3 T.l_held.a T.l_held.d ["stairs", "body"] (toSp K T.C TL false sp_lheld) := by
  refine T.l_held.F.ok c_l_held (fun vs H Q E h => toSp_len h fun us n q e hs => ?_) (fun cdv A outer s H vs Q E hr h => ?_)
  · (first | (obtain ⟨rfl, _⟩ := hs; rfl) | (obtain ⟨_, hs⟩ := hs; (first | (obtain ⟨rfl, _⟩ := hs; rfl) | (obtain ⟨_, hs⟩ := hs; (first | (obtain ⟨rfl, _⟩ := hs; rfl) | (obtain ⟨_, hs⟩ := hs; (first | (obtain ⟨rfl, _⟩ := hs; rfl) | (obtain ⟨_, hs⟩ := hs; (first | (obtain ⟨rfl, _⟩ := hs; rfl) | (obtain ⟨_, hs⟩ := hs; (first | (obtain ⟨rfl, _⟩ := hs; rfl) | (obtain ⟨_, hs⟩ := hs; (first | (obtain ⟨rfl, _⟩ := hs; rfl) | (obtain ⟨_, hs⟩ := hs; (first | (obtain ⟨rfl, _⟩ := hs; rfl) | (obtain ⟨_, hs⟩ := hs; (first | (obtain ⟨rfl, _⟩ := hs; rfl) | (obtain ⟨_, hs⟩ := hs; (first | (obtain ⟨rfl, _⟩ := hs; rfl) | (obtain ⟨_, hs⟩ := hs; (first | (obtain ⟨rfl, _⟩ := hs; rfl) | (obtain ⟨_, hs⟩ := hs; (first | (obtain ⟨rfl, _⟩ := hs; rfl) | (obtain ⟨_, hs⟩ := hs; (first | (obtain ⟨rfl, _⟩ := hs; rfl) | (obtain ⟨_, hs⟩ := hs; (first | (obtain ⟨rfl, _⟩ := hs; rfl) | (obtain ⟨_, hs⟩ := hs; (first | (obtain ⟨rfl, _⟩ := hs; rfl) | (obtain ⟨_, hs⟩ := hs; (first | (obtain ⟨rfl, _⟩ := hs; rfl) | (obtain ⟨_, hs⟩ := hs; (obtain ⟨rfl, _⟩ := hs; rfl)))))))))))))))))))))))))))))))))
  · refine ⟨_,
      (pss_one (ps_ret (pe_cmpR (ne3 K hr.units) (pe_lc (own := [("corner", 2)]) (g := gName 2) (by rfl) c_l_held.nd (seq3 K (pv 0)) (blkOk_by (own := [("corner", 2)]) (N := N_l_held) (sc := defScope S_l_held) (by decide +kernel)) (fun _ _ _ _ _ => pg_name (i := 2) c_l_held.nd rfl (Or.inl rfl)) (fun _ _ _ _ _ => (pts_one (pt_val (pe_call (ok_l_holds T (TL := TL)) (hr.mono (by decide)) rfl T.l_holds.g T.l_holds.k T.l_holds.b .nil pass0 (pa_cons (pv 2) (pa_cons (pv 1) pa_nil)))))) (fun _ _ _ _ _ => pe_int)) (pe_lst pa_nil) (nomark _))))
      , run3 (K := K) (C := T.C) (TL := TL) h fun us n q e hs => ?_⟩
    obtain ⟨cs, A, B, rfl, hl, hq⟩ := hs
    have hq : ∀ b : Bool, (b = true ↔ heldI cs A B) → q (.d (.bool b)) n := fun b hb => by
      have e : b = hasB cs (some A, some B) := by rw [Bool.eq_iff_iff, hb, has_held]
      rw [e]
      exact hq
    simp [ro0, -V3.forL]
    refine ⟨few (by omega), lcL_pure cD (fun _ => PyData.int 1) (fun c => hdO c (some A, some B)) cs n _ (fun c _ m Kt Ks k => ?_) ?_⟩
    · simp
      refine ⟨c.1, c.2, some A, some B, ⟨⟨rfl, rfl⟩, rfl, rfl⟩, ?_⟩
      cases h : hdO c (some A, some B)
      · rw [h] at k
        simpa using k
      · rw [h] at k
        simpa using k
    · refine ⟨ones_shA _ _, by rfl, hq _ ?_⟩
      rw [ones_eqA, Bool.not_eq_true', Bool.eq_false_iff, ne_eq, List.all_eq_true]
      constructor
      · intro z
        by_cases e : ∃ c ∈ cs, hdO c (some A, some B) = true
        · obtain ⟨c, hc, h⟩ := e
          exact ⟨c, hc, held_cle.mp h⟩
        · exact absurd (fun c hc => by
            cases h : hdO c (some A, some B) with
            | false => rfl
            | true => exact absurd ⟨c, hc, h⟩ e) z
      · rintro ⟨c, hc, h⟩ z
        have := z c hc
        rw [held_cle.mpr h] at this
        cases this
theorem ok_l_grow (T : Txt K mg) : FnOk P w K mg base CX0 1 T.l_grow.a T.l_grow.d ["least", "by", "body"] (toSp K T.C TL false sp_grow) := by
  refine T.l_grow.F.ok c_l_grow (fun vs H Q E h => toSp_len h fun us n q e hs => ?_) (fun cdv A outer s H vs Q E hr h => ?_)
  · (first | (obtain ⟨rfl, _⟩ := hs; rfl) | (obtain ⟨_, hs⟩ := hs; (first | (obtain ⟨rfl, _⟩ := hs; rfl) | (obtain ⟨_, hs⟩ := hs; (first | (obtain ⟨rfl, _⟩ := hs; rfl) | (obtain ⟨_, hs⟩ := hs; (first | (obtain ⟨rfl, _⟩ := hs; rfl) | (obtain ⟨_, hs⟩ := hs; (first | (obtain ⟨rfl, _⟩ := hs; rfl) | (obtain ⟨_, hs⟩ := hs; (first | (obtain ⟨rfl, _⟩ := hs; rfl) | (obtain ⟨_, hs⟩ := hs; (first | (obtain ⟨rfl, _⟩ := hs; rfl) | (obtain ⟨_, hs⟩ := hs; (first | (obtain ⟨rfl, _⟩ := hs; rfl) | (obtain ⟨_, hs⟩ := hs; (first | (obtain ⟨rfl, _⟩ := hs; rfl) | (obtain ⟨_, hs⟩ := hs; (first | (obtain ⟨rfl, _⟩ := hs; rfl) | (obtain ⟨_, hs⟩ := hs; (first | (obtain ⟨rfl, _⟩ := hs; rfl) | (obtain ⟨_, hs⟩ := hs; (first | (obtain ⟨rfl, _⟩ := hs; rfl) | (obtain ⟨_, hs⟩ := hs; (first | (obtain ⟨rfl, _⟩ := hs; rfl) | (obtain ⟨_, hs⟩ := hs; (first | (obtain ⟨rfl, _⟩ := hs; rfl) | (obtain ⟨_, hs⟩ := hs; (first | (obtain ⟨rfl, _⟩ := hs; rfl) | (obtain ⟨_, hs⟩ := hs; (first | (obtain ⟨rfl, _⟩ := hs; rfl) | (obtain ⟨_, hs⟩ := hs; (obtain ⟨rfl, _⟩ := hs; rfl)))))))))))))))))))))))))))))))))
  · refine ⟨_,
      (pss_one (ps_ret (pe_tup (pa_cons (pe_callB (max3 K rfl (hu_of hr)) (by rfl) T.z_max (by decide +kernel) (pa_cons (pe_ix (ix3 K) (pv 0) pe_int (fun _ _ => rfl)) (pa_cons (pe_op (add3 K) (pe_ix (ix3 K) (pv 2) pe_int (fun _ _ => rfl)) (pe_ix (ix3 K) (pv 1) pe_int (fun _ _ => rfl))) pa_nil))) (pa_cons (pe_callB (max3 K rfl (hu_of hr)) (by rfl) T.z_max (by decide +kernel) (pa_cons (pe_ix (ix3 K) (pv 0) pe_int (fun _ _ => rfl)) (pa_cons (pe_op (add3 K) (pe_ix (ix3 K) (pv 2) pe_int (fun _ _ => rfl)) (pe_ix (ix3 K) (pv 1) pe_int (fun _ _ => rfl))) pa_nil))) pa_nil)))))
      , run3 (K := K) (C := T.C) (TL := TL) h fun us n q e hs => ?_⟩
    obtain ⟨l, b, s, rfl, hq⟩ := hs
    simp [ro0]
    exact hq
theorem ok_l_few_bodies (T : Txt K mg) : FnOk P w K mg base CX0 1 T.l_few_bodies.a T.l_few_bodies.d ["many"] (toSp K T.C TL true sp_fewb) := by
  refine T.l_few_bodies.F.ok c_l_few_bodies (fun vs H Q E h => toSp_len h fun us n q e hs => ?_) (fun cdv A outer s H vs Q E hr h => ?_)
  · (first | (obtain ⟨rfl, _⟩ := hs; rfl) | (obtain ⟨_, hs⟩ := hs; (first | (obtain ⟨rfl, _⟩ := hs; rfl) | (obtain ⟨_, hs⟩ := hs; (first | (obtain ⟨rfl, _⟩ := hs; rfl) | (obtain ⟨_, hs⟩ := hs; (first | (obtain ⟨rfl, _⟩ := hs; rfl) | (obtain ⟨_, hs⟩ := hs; (first | (obtain ⟨rfl, _⟩ := hs; rfl) | (obtain ⟨_, hs⟩ := hs; (first | (obtain ⟨rfl, _⟩ := hs; rfl) | (obtain ⟨_, hs⟩ := hs; (first | (obtain ⟨rfl, _⟩ := hs; rfl) | (obtain ⟨_, hs⟩ := hs; (first | (obtain ⟨rfl, _⟩ := hs; rfl) | (obtain ⟨_, hs⟩ := hs; (first | (obtain ⟨rfl, _⟩ := hs; rfl) | (obtain ⟨_, hs⟩ := hs; (first | (obtain ⟨rfl, _⟩ := hs; rfl) | (obtain ⟨_, hs⟩ := hs; (first | (obtain ⟨rfl, _⟩ := hs; rfl) | (obtain ⟨_, hs⟩ := hs; (first | (obtain ⟨rfl, _⟩ := hs; rfl) | (obtain ⟨_, hs⟩ := hs; (first | (obtain ⟨rfl, _⟩ := hs; rfl) | (obtain ⟨_, hs⟩ := hs; (first | (obtain ⟨rfl, _⟩ := hs; rfl) | (obtain ⟨_, hs⟩ := hs; (first | (obtain ⟨rfl, _⟩ := hs; rfl) | (obtain ⟨_, hs⟩ := hs; (first | (obtain ⟨rfl, _⟩ := hs; rfl) | (obtain ⟨_, hs⟩ := hs; (obtain ⟨rfl, _⟩ := hs; rfl)))))))))))))))))))))))))))))))))
  · refine ⟨_,
      (pss_cons (ps_set (i := 1) c_l_few_bodies.nd rfl (Or.inl rfl) (pe_lst pa_nil))
      (pss_cons (ps_for PassesOwn.never rfl (pi_range2 rfl T.z_range (pa_cons pe_int (pa_cons (pe_op (add3 K) (pv 0) pe_int) pa_nil))) (pg_name (i := 2) c_l_few_bodies.nd rfl (Or.inr rfl))
      (pss_one (ps_set (i := 1) c_l_few_bodies.nd rfl (Or.inl rfl) (pe_op (add3 K) (pv 1) (pe_lc (own := [("b", 3)]) (g := gName 3) (by rfl) c_l_few_bodies.nd (pi_range2 rfl T.z_range (pa_cons pe_int (pa_cons (pe_op (add3 K) (pv 0) pe_int) pa_nil))) (blkOk_by (own := [("b", 3)]) (N := N_l_few_bodies) (sc := defScope S_l_few_bodies) (by decide +kernel)) (fun _ _ _ _ _ => pg_name (i := 3) c_l_few_bodies.nd rfl (Or.inl rfl)) (fun _ _ _ _ _ => pts_nil) (fun _ _ _ _ _ => (pe_tup (pa_cons (pv 2) (pa_cons (pv 3) pa_nil)))))))))
      (pss_one (ps_ret (pv 1)))))
      , run3 (K := K) (C := T.C) (TL := TL) h fun us n q e hs => ?_⟩
    obtain ⟨m, rfl, hm, hq⟩ := hs
    simp [ro0, -V3.forL]
    have e1 : upFrom 1 m = (List.range m).map (fun a : Nat => PyData.int (1 + (a : Nat))) := rfl
    refine ⟨by omega, ?_⟩
    rw [e1]
    refine forL_mapW (fun a : Nat => PyData.int (1 + (a : Nat))) (fun done left ρ k => k = n ∧ done ++ left = List.range m ∧ ∃ z2 z3 : Sl, ρ = [.fz (.d (.int (m : Nat))), .ow ((rowL m done).map pD), z2, z3]) (List.range m) [] _ _ ?_ ?_ ⟨rfl, rfl, _, _, rfl⟩
    · rintro done ρ k ⟨rfl, hd, z2, z3, rfl⟩
      rw [List.append_nil] at hd
      subst hd
      simp
      exact hq
    · rintro done a left ρ k G hG ⟨rfl, hd, z2, z3, rfl⟩
      have hlen := congrArg List.length hd
      simp at hlen
      have hb : (rowL m done).length ≤ 20 * 20 := by
        rw [row_len]
        exact Nat.mul_le_mul (by omega) hm
      simp
      refine ⟨by omega, few (by omega), lcL_up (fun b => pr (1 + (a : Nat)) (1 + (b : Nat))) 1 m _ _ (fun b _ n Kt Ks h => ?_) ⟨Nat.le_of_lt (few (by simp; omega)), ?_⟩⟩
      · simp
        exact h
      · have ez : (rowL m done).map pD ++ (List.range m).map (fun b : Nat => pr (1 + ((a : Nat) : Int)) (1 + ((b : Nat) : Int))) = (rowL m (done ++ [a])).map pD := by
          unfold rowL
          rw [List.flatMap_append, List.map_append, List.flatMap_cons, List.flatMap_nil, List.append_nil, List.map_map]
          rfl
        rw [ez, if_pos (flat_pDs _)]
        exact hG _ _ ⟨rfl, by rw [List.append_assoc]; exact hd, _, _, rfl⟩
theorem ok_l_size (T : Txt K mg) : FnOk P w K mg base CX0 4 T.l_size.a T.l_size.d ["draw"] (toSp K T.C TL false sp_drsize) := by
  refine T.l_size.F.ok c_l_size (fun vs H Q E h => toSp_len h fun us n q e hs => ?_) (fun cdv A outer s H vs Q E hr h => ?_)
  · (first | (obtain ⟨rfl, _⟩ := hs; rfl) | (obtain ⟨_, hs⟩ := hs; (first | (obtain ⟨rfl, _⟩ := hs; rfl) | (obtain ⟨_, hs⟩ := hs; (first | (obtain ⟨rfl, _⟩ := hs; rfl) | (obtain ⟨_, hs⟩ := hs; (first | (obtain ⟨rfl, _⟩ := hs; rfl) | (obtain ⟨_, hs⟩ := hs; (first | (obtain ⟨rfl, _⟩ := hs; rfl) | (obtain ⟨_, hs⟩ := hs; (first | (obtain ⟨rfl, _⟩ := hs; rfl) | (obtain ⟨_, hs⟩ := hs; (first | (obtain ⟨rfl, _⟩ := hs; rfl) | (obtain ⟨_, hs⟩ := hs; (first | (obtain ⟨rfl, _⟩ := hs; rfl) | (obtain ⟨_, hs⟩ := hs; (first | (obtain ⟨rfl, _⟩ := hs; rfl) | (obtain ⟨_, hs⟩ := hs; (first | (obtain ⟨rfl, _⟩ := hs; rfl) | (obtain ⟨_, hs⟩ := hs; (first | (obtain ⟨rfl, _⟩ := hs; rfl) | (obtain ⟨_, hs⟩ := hs; (first | (obtain ⟨rfl, _⟩ := hs; rfl) | (obtain ⟨_, hs⟩ := hs; (first | (obtain ⟨rfl, _⟩ := hs; rfl) | (obtain ⟨_, hs⟩ := hs; (first | (obtain ⟨rfl, _⟩ := hs; rfl) | (obtain ⟨_, hs⟩ := hs; (first | (obtain ⟨rfl, _⟩ := hs; rfl) | (obtain ⟨_, hs⟩ := hs; (first | (obtain ⟨rfl, _⟩ := hs; rfl) | (obtain ⟨_, hs⟩ := hs; (obtain ⟨rfl, _⟩ := hs; rfl)))))))))))))))))))))))))))))))))
  · refine ⟨_,
      (pss_one (ps_ret (pe_op (add3 K) pe_int (pe_call (ok_l_pick T (TL := TL)) (hr.mono (by decide)) rfl T.l_pick.g T.l_pick.k T.l_pick.b .nil pass0 (pa_cons (pv 0) (pa_cons (pe_lst (pa_cons (pe_call (ok_l_take T (TL := TL)) (hr.mono (by decide)) rfl T.l_take.g T.l_take.k T.l_take.b .nil pass0 (pa_cons (pv 0) (pa_cons pe_int pa_nil))) (pa_cons (pe_call (ok_l_take T (TL := TL)) (hr.mono (by decide)) rfl T.l_take.g T.l_take.k T.l_take.b .nil pass0 (pa_cons (pv 0) (pa_cons pe_int pa_nil))) (pa_cons (pe_call (ok_l_take T (TL := TL)) (hr.mono (by decide)) rfl T.l_take.g T.l_take.k T.l_take.b .nil pass0 (pa_cons (pv 0) (pa_cons pe_int pa_nil))) (pa_cons (pe_call (ok_l_take T (TL := TL)) (hr.mono (by decide)) rfl T.l_take.g T.l_take.k T.l_take.b .nil pass0 (pa_cons (pv 0) (pa_cons pe_int pa_nil))) pa_nil))))) pa_nil))))))
      , run3 (K := K) (C := T.C) (TL := TL) h fun us n q e hs => ?_⟩
    obtain ⟨rfl, hn, hq⟩ := hs
    have hc := capD_eq
    simp [ro0, -List.mem_cons]
    refine ⟨by omega, by omega, fun x x0 x1 => ⟨by omega, by omega, fun y y0 y1 => ⟨by omega, by omega, fun z z0 z1 => ⟨by omega, by omega, fun w w0 w1 => ⟨by omega, fun d hd => ?_⟩⟩⟩⟩⟩
    simp only [List.mem_cons, List.not_mem_nil, or_false] at hd
    rcases hd with rfl | rfl | rfl | rfl
    · exact ⟨rfl, hq (1 + x) (by omega) (by omega)⟩
    · exact ⟨rfl, hq (1 + y) (by omega) (by omega)⟩
    · exact ⟨rfl, hq (1 + z) (by omega) (by omega)⟩
    · exact ⟨rfl, hq (1 + w) (by omega) (by omega)⟩
end
end G21
set_option Elab.async false
set_option linter.all false
set_option maxRecDepth 100000
set_option maxHeartbeats 4000000
set_option synthInstance.maxSize 100000
set_option synthInstance.maxHeartbeats 0
namespace G21
open PySem PySem.Spec PyProof.Rows L2 V3
/-! ### products of forms -/
@[simp ↓] def sp_met : VSp := fun us n q _ => ∃ cs ds : List Co, us = [.d (.tuple (cs.map cD)), .d (.tuple (ds.map cD))] ∧ cs.length ≤ 300 ∧ ds.length ≤ 300 ∧ Can cs ∧ Can ds ∧ (∀ c ∈ cs, posC c) ∧ (∀ c ∈ ds, posC c) ∧
  ∀ es : List Co, Can es → (∀ c ∈ es, posC c) → btI cs ds es → es.length ≤ cs.length + ds.length → q (.d (.tuple (es.map cD))) n
/-- what a form is made of -/
structure okF (f : Fm) : Prop where
  can : Can f.cs
  pos : ∀ c ∈ f.cs, posC c
  l1 : 1 ≤ f.l.1
  l2 : 1 ≤ f.l.2
/-- the staircase of a product -/
def mulS (f g : Fm) (es : List Co) : Prop := Can es ∧ (∀ c ∈ es, posC c) ∧ es.length ≤ f.cs.length + g.cs.length ∧ ∀ x y : Int, 1 ≤ x → 1 ≤ y → (heldI es x y ↔ heldI f.cs x y ∧ heldI g.cs (behI f.l f.b (x, y)).1 (behI f.l f.b (x, y)).2)
def mulF (f g : Fm) (es : List Co) : Fm := nrm ⟨g.e, es, behI g.l g.b f.l, (f.b.1 + g.b.1, f.b.2 + g.b.2)⟩
def isPlD (x : D) : Prop := ∃ m a b : Int, x = plD m a b ∧ 0 ≤ m
@[simp ↓] def sp_followed (C NJ : Addr) : VSp := fun us n q e => ∃ (s t : D) (f g : Fm), us = [fmU C s f, fmU C t g] ∧ isPlD s ∧ isPlD t ∧ isPlD f.e ∧ isPlD g.e ∧ okF f ∧ okF g ∧ f.cs.length + g.cs.length ≤ 300 ∧
  (f.e ≠ t → e NJ) ∧ (f.e = t → ∀ es, mulS f g es → q (fmU C s (mulF f g es)) n)
theorem heldI_pos {cs : List Co} (h : ∀ c ∈ cs, posC c) {x y : Int} (hh : heldI cs x y) : heldI cs (max 1 x) (max 1 y) := by
  obtain ⟨c, hc, h1, h2⟩ := hh
  refine ⟨c, hc, fun k e => ?_, fun k e => ?_⟩
  · have := h1 k e
    have := (h c hc).1 k e
    omega
  · have := h2 k e
    have := (h c hc).2 k e
    omega
theorem shaped_plD {x : D} (h : isPlD x) : SeqAt.shaped x = true := by
  obtain ⟨m, a, b, rfl, _⟩ := h
  simp [SeqAt.shaped, PyData.canLay0, PyData.canLayAll0, PyData.depth, PyData.depthAll]
theorem eqv_plD {x y : D} (h : isPlD x) (g : isPlD y) : PyData.eqv x y = true ↔ x = y := by
  obtain ⟨m, a, b, rfl, _⟩ := h
  obtain ⟨m', a', b', rfl, _⟩ := g
  simp [PyData.eqv, PyData.eqvAll]
/-- x != y of places -/
theorem ne_plD {x y : D} (h : isPlD x) (g : isPlD y) {k : Bool → D → Prop} (h1 : x = y → k false (.bool false)) (h2 : x ≠ y → k false (.bool true)) : V3.eqU not (.d x) (.d y) k := by
  have e := eqv_plD h g
  have s1 := shaped_plD h
  have s2 := shaped_plD g
  obtain ⟨m, a, b, rfl, _⟩ := h
  obtain ⟨m', a', b', rfl, _⟩ := g
  refine ⟨s1, s2, ?_⟩
  cases q : PyData.eqv (plD m a b) (plD m' a' b') with
  | true => exact h1 (e.mp q)
  | false =>
    refine h2 fun z => ?_
    have q2 := e.mpr z
    rw [q] at q2
    cases q2
theorem eq_plD {x y : D} (h : isPlD x) (g : isPlD y) {k : Bool → D → Prop} (h1 : x = y → k false (.bool true)) (h2 : x ≠ y → k false (.bool false)) : V3.eqU id (.d x) (.d y) k := by
  have e := eqv_plD h g
  have s1 := shaped_plD h
  have s2 := shaped_plD g
  obtain ⟨m, a, b, rfl, _⟩ := h
  obtain ⟨m', a', b', rfl, _⟩ := g
  refine ⟨s1, s2, ?_⟩
  cases q : PyData.eqv (plD m a b) (plD m' a' b') with
  | true => exact h1 (e.mp q)
  | false =>
    refine h2 fun z => ?_
    have q2 := e.mpr z
    rw [q] at q2
    cases q2
theorem tup_plD {x : D} (h : isPlD x) : ∃ xs, x = .tuple xs := by
  obtain ⟨m, a, b, rfl, _⟩ := h
  exact ⟨_, rfl⟩
/-- a factor on the right, or what is none -/
@[simp ↓] def sp_fmul (C NJ BF : Addr) : VSp := fun us n q e => ∃ (s : D) (f : Fm) (u : U), us = [fmU C s f, u] ∧ ((∃ t g, u = fmU C t g ∧ isPlD s ∧ isPlD t ∧ isPlD f.e ∧ isPlD g.e ∧ okF f ∧ okF g ∧ f.cs.length + g.cs.length ≤ 300 ∧
  (f.e ≠ t → e NJ) ∧ (f.e = t → ∀ es, mulS f g es → q (fmU C s (mulF f g es)) n)) ∨ ((u = .d .none ∨ (∃ i, u = .d (.int i)) ∨ (∃ xs, u = .d (.list xs)) ∨ ∃ xs, u = .d (.tuple xs)) ∧ e BF))
section
variable {P : Program} {w : World} {K : PySem.W.Frag} {mg : Str → Option Value} {base : Heap} {TL : List (Addr × Str)}
theorem ok_q_met (T : Txt K mg) : FnOk P w K mg base (L2.CX P w) 6 T.q_met.a T.q_met.d ["one", "other"] (toSp K T.C TL false sp_met) := by
  refine T.q_met.F.okX c_q_met (fun vs H Q E h => toSp_len h fun us n q e hs => ?_) (fun cdv A outer s H vs Q E hr h => ?_)
  · (first | (obtain ⟨rfl, _⟩ := hs; rfl) | (obtain ⟨_, hs⟩ := hs; (first | (obtain ⟨rfl, _⟩ := hs; rfl) | (obtain ⟨_, hs⟩ := hs; (first | (obtain ⟨rfl, _⟩ := hs; rfl) | (obtain ⟨_, hs⟩ := hs; (first | (obtain ⟨rfl, _⟩ := hs; rfl) | (obtain ⟨_, hs⟩ := hs; (first | (obtain ⟨rfl, _⟩ := hs; rfl) | (obtain ⟨_, hs⟩ := hs; (first | (obtain ⟨rfl, _⟩ := hs; rfl) | (obtain ⟨_, hs⟩ := hs; (first | (obtain ⟨rfl, _⟩ := hs; rfl) | (obtain ⟨_, hs⟩ := hs; (first | (obtain ⟨rfl, _⟩ := hs; rfl) | (obtain ⟨_, hs⟩ := hs; (first | (obtain ⟨rfl, _⟩ := hs; rfl) | (obtain ⟨_, hs⟩ := hs; (first | (obtain ⟨rfl, _⟩ := hs; rfl) | (obtain ⟨_, hs⟩ := hs; (first | (obtain ⟨rfl, _⟩ := hs; rfl) | (obtain ⟨_, hs⟩ := hs; (first | (obtain ⟨rfl, _⟩ := hs; rfl) | (obtain ⟨_, hs⟩ := hs; (first | (obtain ⟨rfl, _⟩ := hs; rfl) | (obtain ⟨_, hs⟩ := hs; (first | (obtain ⟨rfl, _⟩ := hs; rfl) | (obtain ⟨_, hs⟩ := hs; (first | (obtain ⟨rfl, _⟩ := hs; rfl) | (obtain ⟨_, hs⟩ := hs; (first | (obtain ⟨rfl, _⟩ := hs; rfl) | (obtain ⟨_, hs⟩ := hs; (obtain ⟨rfl, _⟩ := hs; rfl)))))))))))))))))))))))))))))))))
  · refine ⟨_,
      (pss_cons (ps_expr (pe_call (ok_q_check_stairs T (TL := TL)) (hr.mono (by decide)) rfl T.q_check_stairs.g T.q_check_stairs.k T.q_check_stairs.b .nil (passes_call (takes_of rfl rfl rfl rfl) (fun _ _ _ _ h => h)) (pa_cons (pv 0) pa_nil)))
      (pss_cons (ps_expr (pe_call (ok_q_check_stairs T (TL := TL)) (hr.mono (by decide)) rfl T.q_check_stairs.g T.q_check_stairs.k T.q_check_stairs.b .nil (passes_call (takes_of rfl rfl rfl rfl) (fun _ _ _ _ h => h)) (pa_cons (pv 1) pa_nil)))
      (pss_one (ps_ret (pe_call (ok_q_both T (TL := TL)) (hr.mono (by decide)) rfl T.q_both.g T.q_both.k T.q_both.b .nil pass0 (pa_cons (pv 0) (pa_cons (pv 1) pa_nil)))))))
      , run3 (K := K) (C := T.C) (TL := TL) h fun us n q e hs => ?_⟩
    obtain ⟨cs, ds, rfl, hl, hl2, h1, h2, p1, p2, hq⟩ := hs
    simp [ro0]
    exact .inl ⟨cs, rfl, h1, fun a b m => p1 _ m, hl, .inl ⟨ds, rfl, h2, fun a b m => p2 _ m, hl2, cs, ds, ⟨rfl, rfl⟩, hl, hl2, h1, h2, fun a b m => p1 _ m, fun a b m => p2 _ m, fun es e1 e2 e3 e4 => hq es e1 (fun c hc => e2 c.1 c.2 hc) e3 e4⟩⟩
theorem ok_q_followed (T : Txt K mg) : FnOk P w K mg base (L2.CX P w) 8 T.q_followed.a T.q_followed.d ["one", "other"] (toSp K T.C TL false (sp_followed T.C T.x_NotJoined.C)) := by
  refine T.q_followed.F.okX c_q_followed (fun vs H Q E h => toSp_len h fun us n q e hs => ?_) (fun cdv A outer s H vs Q E hr h => ?_)
  · (first | (obtain ⟨rfl, _⟩ := hs; rfl) | (obtain ⟨_, hs⟩ := hs; (first | (obtain ⟨rfl, _⟩ := hs; rfl) | (obtain ⟨_, hs⟩ := hs; (first | (obtain ⟨rfl, _⟩ := hs; rfl) | (obtain ⟨_, hs⟩ := hs; (first | (obtain ⟨rfl, _⟩ := hs; rfl) | (obtain ⟨_, hs⟩ := hs; (first | (obtain ⟨rfl, _⟩ := hs; rfl) | (obtain ⟨_, hs⟩ := hs; (first | (obtain ⟨rfl, _⟩ := hs; rfl) | (obtain ⟨_, hs⟩ := hs; (first | (obtain ⟨rfl, _⟩ := hs; rfl) | (obtain ⟨_, hs⟩ := hs; (first | (obtain ⟨rfl, _⟩ := hs; rfl) | (obtain ⟨_, hs⟩ := hs; (first | (obtain ⟨rfl, _⟩ := hs; rfl) | (obtain ⟨_, hs⟩ := hs; (first | (obtain ⟨rfl, _⟩ := hs; rfl) | (obtain ⟨_, hs⟩ := hs; (first | (obtain ⟨rfl, _⟩ := hs; rfl) | (obtain ⟨_, hs⟩ := hs; (first | (obtain ⟨rfl, _⟩ := hs; rfl) | (obtain ⟨_, hs⟩ := hs; (first | (obtain ⟨rfl, _⟩ := hs; rfl) | (obtain ⟨_, hs⟩ := hs; (first | (obtain ⟨rfl, _⟩ := hs; rfl) | (obtain ⟨_, hs⟩ := hs; (first | (obtain ⟨rfl, _⟩ := hs; rfl) | (obtain ⟨_, hs⟩ := hs; (first | (obtain ⟨rfl, _⟩ := hs; rfl) | (obtain ⟨_, hs⟩ := hs; (obtain ⟨rfl, _⟩ := hs; rfl)))))))))))))))))))))))))))))))))
  · refine ⟨_,
      (pss_cons (ps_if (pt_cmpR (ne3 K hr.units) (fld3 K (pv 0) rfl) (fld3 K (pv 1) rfl) (nomark _))
      (pss_one (ps_rz (C' := T.x_NotJoined.C) (ps_raise rfl (takes_of rfl rfl rfl rfl) (pmk_own PySem.F.excBase_ValueError T.x_NotJoined.q T.x_NotJoined.g T.x_NotJoined.k (raises_own T.x_NotJoined.b T.x_NotJoined.t) (by exact rfl)))))
      pss_nil)
      (pss_one (ps_ret (pe_make T.M (ok_q_Form_init T (TL := TL)) (hr.mono (by decide)) rfl T.gC T.bI .nil passL (pa_cons (fld3 K (pv 0) rfl) (pa_cons (fld3 K (pv 1) rfl) (pa_cons (pe_call (ok_q_both T (TL := TL)) (hr.mono (by decide)) rfl T.q_both.g T.q_both.k T.q_both.b .nil pass0 (pa_cons (fld3 K (pv 0) rfl) (pa_cons (pe_call (ok_q_moved T (TL := TL)) (hr.mono (by decide)) rfl T.q_moved.g T.q_moved.k T.q_moved.b .nil (passes_call (takes_of rfl rfl rfl rfl) (fun _ _ _ _ h => h)) (pa_cons (fld3 K (pv 1) rfl) (pa_cons (fld3 K (pv 0) rfl) (pa_cons (fld3 K (pv 0) rfl) pa_nil)))) pa_nil))) (pa_cons (pe_call (ok_q_body_behind T (TL := TL)) (hr.mono (by decide)) rfl T.q_body_behind.g T.q_body_behind.k T.q_body_behind.b .nil pass0 (pa_cons (pv 1) (pa_cons (fld3 K (pv 0) rfl) pa_nil))) (pa_cons (pe_tup (pa_cons (pe_op (add3 K) (pe_ix (ix3 K) (fld3 K (pv 0) rfl) pe_int (fun _ _ => rfl)) (pe_ix (ix3 K) (fld3 K (pv 1) rfl) pe_int (fun _ _ => rfl))) (pa_cons (pe_op (add3 K) (pe_ix (ix3 K) (fld3 K (pv 0) rfl) pe_int (fun _ _ => rfl)) (pe_ix (ix3 K) (fld3 K (pv 1) rfl) pe_int (fun _ _ => rfl))) pa_nil))) pa_nil)))))))))
      , run3 (K := K) (C := T.C) (TL := TL) h fun us n q e hs => ?_⟩
    obtain ⟨s, t, f, g, rfl, hs, ht, hfe, hge, hf, hg, hl, he, hq⟩ := hs
    simp [ro0]
    refine ne_plD hfe ht (fun e0 => ?_) fun e0 => ?_
    · simp
      refine ⟨g.cs, f.l.1, f.l.2, f.b.1, f.b.2, ⟨rfl, ⟨rfl, rfl⟩, rfl, rfl⟩, by omega, hg.can, fun a b m => hg.pos _ m, hf.l1, hf.l2, fun ms m1 m2 m3 m4 => ?_⟩
      refine ⟨f.cs, ms, ⟨rfl, rfl⟩, by omega, by omega, hf.can, m1, fun a b m => hf.pos _ m, m2, fun es e1 e2 e3 e4 => ?_⟩
      obtain ⟨ms1, a1, b1, rfl, es1⟩ := hs
      obtain ⟨me, ae, be, ee, me0⟩ := hge
      refine ⟨_, g.l.1, g.l.2, g.b.1, g.b.2, f.l.1, f.l.2, ⟨rfl, rfl, rfl⟩, rfl, rfl, ?_⟩
      refine ⟨ms1, a1, b1, me, ae, be, es, (max g.l.1 (f.l.1 + g.b.1), max g.l.2 (f.l.2 + g.b.2)), (f.b.1 + g.b.1, f.b.2 + g.b.2), by rw [ee], es1, me0, e1, fun c hc => e2 c.1 c.2 hc, by omega, by have := hg.l1; simp only; omega, by have := hg.l2; simp only; omega, ?_⟩
      have hh := hq e0 es ⟨e1, fun c hc => e2 c.1 c.2 hc, by omega, fun x y hx hy => ?_⟩
      · unfold mulF nrm at hh
        rw [ee] at hh
        exact hh
      · rw [e3 x y, m3 x y hx hy]
        rfl
    · simp
      exact he e0
theorem ok_q_Form_mul (T : Txt K mg) : FnOk P w K mg base (L2.CX P w) 9 T.f_mul T.d_mul ["self", "other"] (toSp K T.C TL false (sp_fmul T.C T.x_NotJoined.C T.x_BadForm.C)) := by
  refine T.F_mul.okX c_q_Form_mul (fun vs H Q E h => toSp_len h fun us n q e hs => ?_) (fun cdv A outer s H vs Q E hr h => ?_)
  · obtain ⟨_, _, _, rfl, _⟩ := hs
    rfl
  · refine ⟨_,
      (pss_cons (ps_if (pt_not (pt_val (pe_callB (isi3 K) (by rfl) T.z_isinstance (by decide +kernel) (pa_cons (pv 1) (pa_cons (pe_glob (v := .ref T.C) (u := .ref T.C) rfl T.gC rfl) pa_nil)))))
      (pss_one (ps_rz (C' := T.x_BadForm.C) (ps_raise rfl (takes_of rfl rfl rfl rfl) (pmk_own PySem.F.excBase_ValueError T.x_BadForm.q T.x_BadForm.g T.x_BadForm.k (raises_own T.x_BadForm.b T.x_BadForm.t) (by exact rfl)))))
      pss_nil)
      (pss_one (ps_ret (pe_call (ok_q_followed T (TL := TL)) (hr.mono (by decide)) rfl T.q_followed.g T.q_followed.k T.q_followed.b .nil (passes_call (takes_of rfl rfl rfl rfl) (fun _ _ _ _ h => h)) (pa_cons (pv 0) (pa_cons (pv 1) pa_nil))))))
      , run3 (K := K) (C := T.C) (TL := TL) h fun us n q e hs => ?_⟩
    obtain ⟨s, f, u, rfl, hs⟩ := hs
    rcases hs with ⟨t, g, rfl, h1, h2, h3, h4, h5, h6, h7, h8, h9⟩ | ⟨hu, he⟩
    · simp [ro0]
      exact ⟨s, t, f, g, ⟨rfl, rfl⟩, h1, h2, h3, h4, h5, h6, h7, h8, h9⟩
    · rcases hu with rfl | ⟨i, rfl⟩ | ⟨xs, rfl⟩ | ⟨xs, rfl⟩ <;> simp [ro0] <;> exact he
end
theorem mulCT {K : PySem.W.Frag} {mg : Str → Option Value} (T : Txt K mg) : GM.MulC K T.C T.f_mul := ⟨T.o_mul, T.i_mul, T.sfC, ⟨_, T.o_rmul⟩⟩
theorem mul_ok {K : PySem.W.Frag} {mg : Str → Option Value} (T : Txt K mg) (NJ BF : Addr) : ∀ us n q e, sp_fmul T.C NJ BF us n q e → ∃ fs u, us = [.d (obJ T.C fs), u] ∧ facU T.C u := by
  rintro us n q e ⟨s, f, u, rfl, h⟩
  refine ⟨_, u, rfl, ?_⟩
  rcases h with ⟨t, g, rfl, _⟩ | ⟨rfl | ⟨i, rfl⟩ | ⟨xs, rfl⟩ | ⟨xs, rfl⟩, _⟩
  · exact ⟨_, rfl⟩
  all_goals exact trivial
/-! ### what forms do -/
/-- two forms that do the same are told alike -/
theorem nrm_ext {f g : Fm} (hf : okF f) (hg : okF g) (he : f.e = g.e) (hh : ∀ x y : Int, 1 ≤ x → 1 ≤ y → (heldI f.cs x y ↔ heldI g.cs x y)) (hb : ∀ x y : Int, 1 ≤ x → 1 ≤ y → heldI f.cs x y → behI f.l f.b (x, y) = behI g.l g.b (x, y)) : nrm f = nrm g := by
  have ec : f.cs = g.cs := can_eq hf.can hg.can hf.pos hg.pos hh
  obtain ⟨fe, fc, fl, fb⟩ := f
  obtain ⟨ge, gc, gl, gb⟩ := g
  dsimp only at he ec hh hb
  subst he ec
  unfold nrm
  dsimp only
  by_cases e0 : fc = []
  · subst e0
    rfl
  obtain ⟨c, ec⟩ : ∃ c, fc.head? = some c := by
    cases fc with
    | nil => exact absurd rfl e0
    | cons c _ => exact ⟨c, rfl⟩
  obtain ⟨d, ed⟩ : ∃ d, fc.getLast? = some d := ⟨_, List.getLast?_eq_some_getLast e0⟩
  have pc := hf.pos c (List.mem_of_head? ec)
  have pd := hf.pos d (List.mem_of_getLast? ed)
  have held1 : ∀ t : Int, 1 ≤ t → (∀ k, d.1 = some k → t ≤ k) → heldI fc t 1 := fun t _ h => ⟨d, List.mem_of_getLast? ed, h, fun k e => pd.2 k e⟩
  have held2 : ∀ t : Int, 1 ≤ t → (∀ k, c.2 = some k → t ≤ k) → heldI fc 1 t := fun t _ h => ⟨c, List.mem_of_head? ec, fun k e => pc.1 k e, h⟩
  have one : ∀ t : Int, 1 ≤ t → (∀ k, d.1 = some k → t ≤ k) → max fl.1 (t + fb.1) = max gl.1 (t + gb.1) := fun t h1 h2 => congrArg Prod.fst (hb t 1 h1 (by decide) (held1 t h1 h2))
  have two : ∀ t : Int, 1 ≤ t → (∀ k, c.2 = some k → t ≤ k) → max fl.2 (t + fb.2) = max gl.2 (t + gb.2) := fun t h1 h2 => congrArg Prod.snd (hb 1 t (by decide) h1 (held2 t h1 h2))
  have pl : ∀ (o : Option Int) (l b l' b' : Int), (∀ k, o = some k → 1 ≤ k) → (∀ t : Int, 1 ≤ t → (∀ k, o = some k → t ≤ k) → max l (t + b) = max l' (t + b')) → plainB o l b = plainB o l' b' := fun o l b l' b' po h => by
    cases o with
    | none =>
      have z := h (1 + (if l < 0 then -l else l) + (if b < 0 then -b else b) + (if l' < 0 then -l' else l') + (if b' < 0 then -b' else b')) (by repeat' split <;> omega) (fun k e => by cases e)
      show b = b'
      revert z
      repeat' split
      all_goals omega
    | some m =>
      have z := h m (po m rfl) (fun k e => by
        cases e
        omega)
      show max l (m + b) - m = max l' (m + b') - m
      omega
  have e1 : nLw fc fl fb = nLw fc gl gb := by
    unfold nLw
    rw [if_neg e0, if_neg e0, one 1 (by decide) pd.1, two 1 (by decide) pc.2]
  have e2 : nBy fc fl fb = nBy fc gl gb := by
    unfold nBy
    rw [ec, ed]
    show (plainB d.1 fl.1 fb.1, plainB c.2 fl.2 fb.2) = (plainB d.1 gl.1 gb.1, plainB c.2 gl.2 gb.2)
    rw [pl d.1 fl.1 fb.1 gl.1 gb.1 pd.1 one, pl c.2 fl.2 fb.2 gl.2 gb.2 pc.2 two]
  rw [e1, e2]
end G21
set_option Elab.async false
set_option linter.all false
set_option maxRecDepth 100000
set_option maxHeartbeats 4000000
set_option synthInstance.maxSize 100000
set_option synthInstance.maxHeartbeats 0
namespace G21
open PySem PySem.Spec PyProof.Rows L2 V3
/-- the staircase of a lot of corners -/
def stOf (L cs : List Co) : Prop := Can cs ∧ (∀ c ∈ cs, c ∈ L) ∧ (∀ c ∈ L, ∃ d ∈ cs, leC c d) ∧ cs.length ≤ L.length
@[simp ↓] def sp_joined : VSp := fun us n q _ => ∃ (x y : D) (cs ds : List Co), us = [.d x, .d y] ∧ asL x = some (cs.map cD) ∧ asL y = some (ds.map cD) ∧ cs.length + ds.length ≤ 200 ∧ ∀ es : List Co, stOf (cs ++ ds) es → q (.d (.tuple (es.map cD))) n
def smC (k : Int) (c : Co) : Prop := (∀ j, c.1 = some j → 1 ≤ j ∧ j ≤ k) ∧ ∀ j, c.2 = some j → 1 ≤ j ∧ j ≤ k
@[simp ↓] def sp_few : VSp := fun us n q _ => ∃ m : Nat, us = [.dr, .d (.int (m : Nat))] ∧ m ≤ 4 ∧ n + 100 ≤ topD ∧ ∀ (cs : List Co) (n' : Nat), Can cs → (∀ c ∈ cs, smC 8 c) → cs.length ≤ m + 1 → n' ≤ n + 20 → q (.d (.tuple (cs.map cD))) n'
section
variable {P : Program} {w : World} {K : PySem.W.Frag} {mg : Str → Option Value} {base : Heap} {TL : List (Addr × Str)}
theorem ok_l_few (T : Txt K mg) (Y : TzS T base TL) : FnOk P w K mg base CX0 7 T.l_few.a T.l_few.d ["draw", "most"] (toSp K T.C TL false sp_few) := by
  refine T.l_few.F.ok c_l_few (fun vs H Q E h => toSp_len h fun us n q e hs => ?_) (fun cdv A outer s H vs Q E hr h => ?_)
  · obtain ⟨m, rfl, _⟩ := hs
    rfl
  · refine ⟨_,
      (pss_cons (ps_set (i := 2) c_l_few.nd rfl (Or.inl rfl) (pe_lst pa_nil))
      (pss_cons (ps_for PassesOwn.never rfl (pi_range1 rfl T.z_range (pa_cons (pe_call (ok_l_take T (TL := TL)) (hr.mono (by decide)) rfl T.l_take.g T.l_take.k T.l_take.b .nil pass0 (pa_cons (pv 0) (pa_cons (pe_op (add3 K) (pv 1) pe_int) pa_nil))) pa_nil)) (pg_name (i := 3) c_l_few.nd rfl (Or.inl rfl))
      (C8.pss_cut (ps_set (i := 4) c_l_few.nd rfl (Or.inl rfl) (pe_tup (pa_cons (pe_op (add3 K) pe_int (pe_call (ok_l_take T (TL := TL)) (hr.mono (by decide)) rfl T.l_take.g T.l_take.k T.l_take.b .nil pass0 (pa_cons (pv 0) (pa_cons pe_int pa_nil)))) (pa_cons (pe_op (add3 K) pe_int (pe_call (ok_l_take T (TL := TL)) (hr.mono (by decide)) rfl T.l_take.g T.l_take.k T.l_take.b .nil pass0 (pa_cons (pv 0) (pa_cons pe_int pa_nil)))) pa_nil))))
      (C8.pss_cut (ps_set (i := 5) c_l_few.nd rfl (Or.inl rfl) (pe_call (ok_l_take T (TL := TL)) (hr.mono (by decide)) rfl T.l_take.g T.l_take.k T.l_take.b .nil pass0 (pa_cons (pv 0) (pa_cons pe_int pa_nil))))
      (pss_one (ps_expr (bm3 K PySem.F.plainAttrs_list PySem.F.slot_list_append PySem.F.type_list_append mt_append (pv 2) (pa_cons (pe_ifExp (pt_cmpR (eq3 K hr.units) (pv 5) pe_int (nomark _)) (pe_tup (pa_cons pe_non (pa_cons (pe_ix (ix3 K) (pv 4) pe_int (fun _ _ => rfl)) pa_nil))) (pe_ifExp (pt_cmpR (eq3 K hr.units) (pv 5) pe_int (nomark _)) (pe_tup (pa_cons (pe_ix (ix3 K) (pv 4) pe_int (fun _ _ => rfl)) (pa_cons pe_non pa_nil))) (pv 4))) pa_nil)))))))
      (pss_one (ps_ret (pe_ifExp (pt_cmpR (eq3 K hr.units) (pe_call (ok_l_take T (TL := TL)) (hr.mono (by decide)) rfl T.l_take.g T.l_take.k T.l_take.b .nil pass0 (pa_cons (pv 0) (pa_cons pe_int pa_nil))) pe_int (nomark _)) (pe_tup (pa_cons (pe_tup (pa_cons pe_non (pa_cons pe_non pa_nil))) pa_nil)) (pe_call (ok_l_staircase T (TL := TL) Y) (hr.mono (by decide)) rfl T.l_staircase.g T.l_staircase.k T.l_staircase.b .nil pass0 (pa_cons (pv 2) pa_nil)))))))
      , run3 (K := K) (C := T.C) (TL := TL) h fun us n q e hs => ?_⟩
    obtain ⟨m, rfl, hm, hn, hq⟩ := hs
    have hc := capD_eq
    simp [ro0, -V3.forL]
    refine ⟨by omega, by omega, fun x x0 x1 => ⟨by omega, ?_⟩⟩
    rw [show upFrom 0 x.toNat = (List.range x.toNat).map (fun k : Nat => PyData.int (0 + (k : Nat))) from rfl]
    refine forL_mapW (fun k : Nat => PyData.int (0 + (k : Nat))) (fun done left ρ k => done ++ left = List.range x.toNat ∧ k ≤ n + 1 + 3 * done.length ∧ ∃ (cs : List Co) (z3 z4 z5 : Sl), ρ = [.fz .dr, .fz (.d (.int (m : Nat))), .ow (cs.map cD), z3, z4, z5] ∧ (∀ c ∈ cs, smC 8 c) ∧ cs.length = done.length) (List.range x.toNat) [] _ _ ?_ ?_ ?_
    · rintro done ρ k ⟨hd, hk, cs, z3, z4, z5, rfl, hs, hl⟩
      rw [List.append_nil] at hd
      have hdl : done.length = x.toNat := by rw [hd, List.length_range]
      simp
      refine ⟨by omega, by omega, fun y y0 y1 => ?_⟩
      by_cases hy : y = 0
      · rw [if_pos hy]
        exact hq [(none, none)] _ (List.pairwise_singleton _ _) (fun c hc => by
          rw [List.mem_singleton.mp hc]
          exact ⟨(fun j e => by cases e), fun j e => by cases e⟩) (by simp) (by omega)
      · rw [if_neg hy]
        exact ⟨cs, rfl, by omega, fun cs' h1 h2 h3 h4 => hq cs' _ h1 (fun c hc => hs c (h2 c.1 c.2 hc)) (by omega) (by omega)⟩
    · rintro done a left ρ k G hG ⟨hd, hk, cs, z3, z4, z5, rfl, hs, hl⟩
      have hlen := congrArg List.length hd
      simp at hlen
      simp
      refine Exists.intro (fun (ρ : Ro) (j : Nat) => j = k + 2 ∧ ∃ c1 c2 : Int, ρ = [.fz .dr, .fz (.d (.int (m : Nat))), .ow (cs.map cD), .fz (.d (.int (a : Nat))), .fz (.d (pr c1 c2)), z5] ∧ 1 ≤ c1 ∧ c1 ≤ 8 ∧ 1 ≤ c2 ∧ c2 ≤ 8) (And.intro ?_ ?_)
      · exact ⟨by omega, by omega, fun x x0 x1 => ⟨by omega, by omega, fun y y0 y1 => ⟨rfl, 1 + x, 1 + y, rfl, by omega, by omega, by omega, by omega⟩⟩⟩
      rintro ρ j ⟨rfl, c1, c2, rfl, p1, p2, p3, p4⟩
      simp
      refine Exists.intro (fun (ρ : Ro) (j : Nat) => j = k + 3 ∧ ∃ w : Int, ρ = [.fz .dr, .fz (.d (.int (m : Nat))), .ow (cs.map cD), .fz (.d (.int (a : Nat))), .fz (.d (pr c1 c2)), .fz (.d (.int w))]) (And.intro ?_ ?_)
      · exact ⟨by omega, by omega, fun x x0 x1 => ⟨rfl, x, rfl⟩⟩
      rintro ρ j ⟨rfl, w, rfl⟩
      have put : ∀ c : Co, smC 8 c → cs.length < sizeLine ∧ G [.fz .dr, .fz (.d (.int (m : Nat))), .ow (cs.map cD ++ [cD c]), .fz (.d (.int (a : Nat))), .fz (.d (pr c1 c2)), .fz (.d (.int w))] (k + 3) := fun c hc => ⟨few (by omega), hG _ _ ⟨by rw [List.append_assoc]; exact hd, by simp; omega, cs ++ [c], _, _, _, by rw [List.map_append]; rfl, fun d hd => by
        rcases List.mem_append.mp hd with z | z
        · exact hs d z
        · rw [List.mem_singleton.mp z]
          exact hc, by simp; omega⟩⟩
      by_cases w0 : w = 0
      · simp [w0] at put ⊢
        exact put none (some c2) ⟨(fun j e => by cases e), fun j e => by cases e; exact ⟨p3, p4⟩⟩
      · by_cases w1 : w = 1
        · simp [w1] at put ⊢
          exact put (some c1) none ⟨(fun j e => by cases e; exact ⟨p1, p2⟩), fun j e => by cases e⟩
        · simp [w0, w1] at put ⊢
          exact put (some c1) (some c2) ⟨(fun j e => by cases e; exact ⟨p1, p2⟩), fun j e => by cases e; exact ⟨p3, p4⟩⟩
    · exact ⟨rfl, by simp, [], _, _, _, rfl, (fun c h => by cases h), rfl⟩
end
end G21
set_option Elab.async false
set_option linter.all false
set_option maxRecDepth 100000
set_option maxHeartbeats 4000000
set_option synthInstance.maxSize 100000
set_option synthInstance.maxHeartbeats 0
namespace G21
open PySem PySem.Spec PyProof.Rows L2 V3
/-- small raw numbers -/
def smR (f : Fm) : Prop := Can f.cs ∧ (∀ c ∈ f.cs, smC 8 c) ∧ f.cs.length ≤ 8 ∧ (1 ≤ f.l.1 ∧ f.l.1 ≤ 6) ∧ (1 ≤ f.l.2 ∧ f.l.2 ≤ 6) ∧ (-5 ≤ f.b.1 ∧ f.b.1 ≤ 5) ∧ -5 ≤ f.b.2 ∧ f.b.2 ≤ 5
@[simp ↓] def sp_raw : VSp := fun us n q _ => us = [.dr] ∧ n + 200 ≤ topD ∧ ∀ (cs : List Co) (l b : Int × Int) (n' : Nat), Can cs → (∀ c ∈ cs, smC 8 c) → cs.length ≤ 4 → (1 ≤ l.1 ∧ l.1 ≤ 6) → (1 ≤ l.2 ∧ l.2 ≤ 6) → (-3 ≤ b.1 ∧ b.1 ≤ 3) → (-3 ≤ b.2 ∧ b.2 ≤ 3) → n' ≤ n + 60 → q (.d (.tuple [.tuple (cs.map cD), pD l, pD b])) n'
theorem pick06 {x : Int} {y : D} (h0 : 0 ≤ x) (h1 : x < 6) (h : y ∈ [PyData.int 0, .int 0, .int x]) : ∃ z : Int, y = .int z ∧ 0 ≤ z ∧ z ≤ 5 := by
  simp only [List.mem_cons, List.not_mem_nil, or_false] at h
  rcases h with rfl | rfl | rfl
  · exact ⟨_, rfl, by decide, by decide⟩
  · exact ⟨_, rfl, by decide, by decide⟩
  · exact ⟨_, rfl, h0, by omega⟩
section
variable {P : Program} {w : World} {K : PySem.W.Frag} {mg : Str → Option Value} {base : Heap} {TL : List (Addr × Str)}
theorem ok_l_raw (T : Txt K mg) (Y : TzS T base TL) : FnOk P w K mg base CX0 8 T.l_raw.a T.l_raw.d ["draw"] (toSp K T.C TL false sp_raw) := by
  refine T.l_raw.F.ok c_l_raw (fun vs H Q E h => toSp_len h fun us n q e hs => ?_) (fun cdv A outer s H vs Q E hr h => ?_)
  · obtain ⟨rfl, _⟩ := hs
    rfl
  · refine ⟨_,
      (pss_cons (ps_set (i := 1) c_l_raw.nd rfl (Or.inl rfl) (pe_tup (pa_cons (pe_op (add3 K) pe_int (pe_call (ok_l_pick T (TL := TL)) (hr.mono (by decide)) rfl T.l_pick.g T.l_pick.k T.l_pick.b .nil pass0 (pa_cons (pv 0) (pa_cons (pe_lst (pa_cons pe_int (pa_cons pe_int (pa_cons (pe_call (ok_l_take T (TL := TL)) (hr.mono (by decide)) rfl T.l_take.g T.l_take.k T.l_take.b .nil pass0 (pa_cons (pv 0) (pa_cons pe_int pa_nil))) pa_nil)))) pa_nil)))) (pa_cons (pe_op (add3 K) pe_int (pe_call (ok_l_pick T (TL := TL)) (hr.mono (by decide)) rfl T.l_pick.g T.l_pick.k T.l_pick.b .nil pass0 (pa_cons (pv 0) (pa_cons (pe_lst (pa_cons pe_int (pa_cons pe_int (pa_cons (pe_call (ok_l_take T (TL := TL)) (hr.mono (by decide)) rfl T.l_take.g T.l_take.k T.l_take.b .nil pass0 (pa_cons (pv 0) (pa_cons pe_int pa_nil))) pa_nil)))) pa_nil)))) pa_nil))))
      (pss_one (ps_ret (pe_tup (pa_cons (pe_call (ok_l_few T (TL := TL) Y) (hr.mono (by decide)) rfl T.l_few.g T.l_few.k T.l_few.b .nil pass0 (pa_cons (pv 0) (pa_cons pe_int pa_nil))) (pa_cons (pv 1) (pa_cons (pe_tup (pa_cons (pe_op op_sub (pe_call (ok_l_take T (TL := TL)) (hr.mono (by decide)) rfl T.l_take.g T.l_take.k T.l_take.b .nil pass0 (pa_cons (pv 0) (pa_cons pe_int pa_nil))) pe_int) (pa_cons (pe_op op_sub (pe_call (ok_l_take T (TL := TL)) (hr.mono (by decide)) rfl T.l_take.g T.l_take.k T.l_take.b .nil pass0 (pa_cons (pv 0) (pa_cons pe_int pa_nil))) pe_int) pa_nil))) pa_nil)))))))
      , run3 (K := K) (C := T.C) (TL := TL) h fun us n q e hs => ?_⟩
    obtain ⟨rfl, hn, hq⟩ := hs
    have hc := capD_eq
    simp [ro0, -List.mem_cons]
    refine ⟨by omega, by omega, fun x x0 x1 => ⟨by omega, fun y hy => ?_⟩⟩
    obtain ⟨z, rfl, z0, z1⟩ := pick06 x0 x1 hy
    simp [-List.mem_cons]
    refine ⟨by omega, by omega, fun x2 x3 x4 => ⟨by omega, fun y2 hy2 => ?_⟩⟩
    obtain ⟨z2, rfl, z3, z4⟩ := pick06 x3 x4 hy2
    simp
    refine ⟨3, rfl, by omega, by omega, fun cs n' h1 h2 h3 h4 => ⟨by omega, by omega, fun a a0 a1 => ⟨by omega, by omega, fun b b0 b1 => ?_⟩⟩⟩
    exact hq cs (1 + z, 1 + z2) (a - 3, b - 3) _ h1 (fun c hc => h2 c.1 c.2 hc) (by omega) ⟨by dsimp only; omega, by dsimp only; omega⟩ ⟨by dsimp only; omega, by dsimp only; omega⟩ ⟨by dsimp only; omega, by dsimp only; omega⟩ ⟨by dsimp only; omega, by dsimp only; omega⟩ (by omega)
end
end G21
set_option Elab.async false
set_option linter.all false
set_option maxRecDepth 100000
set_option maxHeartbeats 4000000
set_option synthInstance.maxSize 100000
set_option synthInstance.maxHeartbeats 0
namespace G21
open PySem PySem.Spec PyProof.Rows L2 V3
@[simp ↓] def sp_beside : VSp := fun us n q _ => ∃ cs : List Co, us = [.dr, .d (.list (cs.map cD))] ∧ cs.length ≤ 100 ∧ n + 200 ≤ topD ∧ ∀ (a b : Int) (n' : Nat), 1 ≤ a → 1 ≤ b → n' ≤ n + 30 → q (.d (pr a b)) n'
theorem eqv_cos0 (cs : List Co) : PyData.eqv (.list (cs.map cD)) (.list []) = decide (cs = []) := by
  cases cs <;> rfl
theorem pick5 {y : D} (h : y ∈ [PyData.int 0, .int 0, .int 1, .int 1, .int (-1)]) : ∃ z : Int, y = .int z := by
  simp only [List.mem_cons, List.not_mem_nil, or_false] at h
  rcases h with rfl | rfl | rfl | rfl | rfl <;> exact ⟨_, rfl⟩
section
variable {P : Program} {w : World} {K : PySem.W.Frag} {mg : Str → Option Value} {base : Heap} {TL : List (Addr × Str)}
theorem ok_l_beside (T : Txt K mg) : FnOk P w K mg base CX0 5 T.l_beside.a T.l_beside.d ["draw", "corners"] (toSp K T.C TL false sp_beside) := by
  refine T.l_beside.F.ok c_l_beside (fun vs H Q E h => toSp_len h fun us n q e hs => ?_) (fun cdv A outer s H vs Q E hr h => ?_)
  · (first | (obtain ⟨rfl, _⟩ := hs; rfl) | (obtain ⟨_, hs⟩ := hs; (first | (obtain ⟨rfl, _⟩ := hs; rfl) | (obtain ⟨_, hs⟩ := hs; (first | (obtain ⟨rfl, _⟩ := hs; rfl) | (obtain ⟨_, hs⟩ := hs; (first | (obtain ⟨rfl, _⟩ := hs; rfl) | (obtain ⟨_, hs⟩ := hs; (first | (obtain ⟨rfl, _⟩ := hs; rfl) | (obtain ⟨_, hs⟩ := hs; (first | (obtain ⟨rfl, _⟩ := hs; rfl) | (obtain ⟨_, hs⟩ := hs; (first | (obtain ⟨rfl, _⟩ := hs; rfl) | (obtain ⟨_, hs⟩ := hs; (first | (obtain ⟨rfl, _⟩ := hs; rfl) | (obtain ⟨_, hs⟩ := hs; (first | (obtain ⟨rfl, _⟩ := hs; rfl) | (obtain ⟨_, hs⟩ := hs; (first | (obtain ⟨rfl, _⟩ := hs; rfl) | (obtain ⟨_, hs⟩ := hs; (first | (obtain ⟨rfl, _⟩ := hs; rfl) | (obtain ⟨_, hs⟩ := hs; (first | (obtain ⟨rfl, _⟩ := hs; rfl) | (obtain ⟨_, hs⟩ := hs; (first | (obtain ⟨rfl, _⟩ := hs; rfl) | (obtain ⟨_, hs⟩ := hs; (first | (obtain ⟨rfl, _⟩ := hs; rfl) | (obtain ⟨_, hs⟩ := hs; (first | (obtain ⟨rfl, _⟩ := hs; rfl) | (obtain ⟨_, hs⟩ := hs; (first | (obtain ⟨rfl, _⟩ := hs; rfl) | (obtain ⟨_, hs⟩ := hs; (obtain ⟨rfl, _⟩ := hs; rfl)))))))))))))))))))))))))))))))))
  · refine ⟨_,
      (C8.pss_cut (ps_if (PW.pt (pw_or (pt_cmpR (eq3 K hr.units) (pv 1) (pe_lst pa_nil) (nomark _)) (pw_or1 (pt_cmpR (eq3 K hr.units) (pe_call (ok_l_take T (TL := TL)) (hr.mono (by decide)) rfl T.l_take.g T.l_take.k T.l_take.b .nil pass0 (pa_cons (pv 0) (pa_cons pe_int pa_nil))) pe_int (nomark _)))))
      (pss_one (ps_ret (pe_tup (pa_cons (pe_call (ok_l_size T (TL := TL)) (hr.mono (by decide)) rfl T.l_size.g T.l_size.k T.l_size.b .nil pass0 (pa_cons (pv 0) pa_nil)) (pa_cons (pe_call (ok_l_size T (TL := TL)) (hr.mono (by decide)) rfl T.l_size.g T.l_size.k T.l_size.b .nil pass0 (pa_cons (pv 0) pa_nil)) pa_nil)))))
      pss_nil)
      (C8.pss_cut (ps_par (i := 2) (j := 3) rfl c_l_beside.nd rfl rfl (by decide) rfl rfl (pa_cons (pe_ix (ix3 K) (pe_call (ok_l_pick T (TL := TL)) (hr.mono (by decide)) rfl T.l_pick.g T.l_pick.k T.l_pick.b .nil pass0 (pa_cons (pv 0) (pa_cons (pv 1) pa_nil))) pe_int (fun _ _ => rfl)) (pa_cons (pe_ix (ix3 K) (pe_call (ok_l_pick T (TL := TL)) (hr.mono (by decide)) rfl T.l_pick.g T.l_pick.k T.l_pick.b .nil pass0 (pa_cons (pv 0) (pa_cons (pv 1) pa_nil))) pe_int (fun _ _ => rfl)) pa_nil)) (by with_unfolding_all rfl))
      (C8.pss_cut (ps_if (pt_cmpR (eq3 K hr.units) (pe_call (ok_l_take T (TL := TL)) (hr.mono (by decide)) rfl T.l_take.g T.l_take.k T.l_take.b .nil pass0 (pa_cons (pv 0) (pa_cons pe_int pa_nil))) pe_int (nomark _))
      (pss_one (ps_asg (pe_call (ok_l_pick T (TL := TL)) (hr.mono (by decide)) rfl T.l_pick.g T.l_pick.k T.l_pick.b .nil pass0 (pa_cons (pv 0) (pa_cons (pv 1) pa_nil))) (tupG3 K (n := 2) rfl (pgs_cons (pg_name (i := 2) c_l_beside.nd rfl (Or.inl rfl) (hf := Or.inr rfl)) (pgs_cons (pg_name (i := 3) c_l_beside.nd rfl (Or.inl rfl) (hf := Or.inr rfl)) pgs_nil)))))
      pss_nil)
      (C8.pss_cut (ps_set (i := 2) c_l_beside.nd rfl (Or.inl rfl) (pe_ifExp (pt_cmpR op_isN3 (pv 2) pe_non (nomark _)) (pe_call (ok_l_size T (TL := TL)) (hr.mono (by decide)) rfl T.l_size.g T.l_size.k T.l_size.b .nil pass0 (pa_cons (pv 0) pa_nil)) (pe_op (add3 K) (pv 2) (pe_call (ok_l_pick T (TL := TL)) (hr.mono (by decide)) rfl T.l_pick.g T.l_pick.k T.l_pick.b .nil pass0 (pa_cons (pv 0) (pa_cons (pe_lst (pa_cons pe_int (pa_cons pe_int (pa_cons pe_int (pa_cons pe_int (pa_cons (pe_un un_neg pe_int) pa_nil)))))) pa_nil))))))
      (C8.pss_cut (ps_set (i := 3) c_l_beside.nd rfl (Or.inl rfl) (pe_ifExp (pt_cmpR op_isN3 (pv 3) pe_non (nomark _)) (pe_call (ok_l_size T (TL := TL)) (hr.mono (by decide)) rfl T.l_size.g T.l_size.k T.l_size.b .nil pass0 (pa_cons (pv 0) pa_nil)) (pe_op (add3 K) (pv 3) (pe_call (ok_l_pick T (TL := TL)) (hr.mono (by decide)) rfl T.l_pick.g T.l_pick.k T.l_pick.b .nil pass0 (pa_cons (pv 0) (pa_cons (pe_lst (pa_cons pe_int (pa_cons pe_int (pa_cons pe_int (pa_cons pe_int (pa_cons (pe_un un_neg pe_int) pa_nil)))))) pa_nil))))))
      (pss_one (ps_ret (pe_tup (pa_cons (pe_callB (max3 K rfl (hu_of hr)) (by rfl) T.z_max (by decide +kernel) (pa_cons pe_int (pa_cons (pv 2) pa_nil))) (pa_cons (pe_callB (max3 K rfl (hu_of hr)) (by rfl) T.z_max (by decide +kernel) (pa_cons pe_int (pa_cons (pv 3) pa_nil))) pa_nil))))))))))
      , run3 (K := K) (C := T.C) (TL := TL) h fun us n q e hs => ?_⟩
    obtain ⟨cs, rfl, hl, hn, hq⟩ := hs
    have hc := capD_eq
    simp [ro0, -List.mem_cons]
    refine Exists.intro (fun (ρ : Ro) (k : Nat) => k = n + 1 ∧ cs ≠ [] ∧ ρ = [.fz .dr, .fz (.d (.list (cs.map cD))), .no, .no]) (And.intro ?_ ?_)
    · refine ⟨shaped_cos cs, rfl, ?_⟩
      rw [eqv_cos0]
      by_cases e : cs = []
      · have ed : decide (cs = []) = true := decide_eq_true e
        simp only [ed, if_true]
        exact ⟨by omega, fun k k1 k2 => ⟨by omega, fun k' k3 k4 => hq _ _ _ k1 k3 (by omega)⟩⟩
      · have ed : decide (cs = []) = false := decide_eq_false e
        simp only [ed, Bool.false_eq_true, if_false]
        refine ⟨by omega, by omega, fun x x0 x1 => ?_⟩
        by_cases ex : x = 0
        · rw [if_pos ex]
          exact ⟨by omega, fun k k1 k2 => ⟨by omega, fun k' k3 k4 => hq _ _ _ k1 k3 (by omega)⟩⟩
        · rw [if_neg ex]
          simp [e]
    rintro ρ k ⟨rfl, ne, rfl⟩
    simp
    refine Exists.intro (fun (ρ : Ro) (k : Nat) => k = n + 3 ∧ ∃ a b : Option Int, ρ = [.fz .dr, .fz (.d (.list (cs.map cD))), .fz (.d (oD a)), .fz (.d (oD b))]) (And.intro ?_ ?_)
    · refine ⟨by omega, ne, by omega, fun y a b m e => ?_⟩
      subst e
      simp
      refine ⟨by omega, ne, by omega, fun y c d m2 e2 => ?_⟩
      subst e2
      simp
      exact ⟨by cases d <;> rfl, ⟨a, rfl⟩, ⟨d, rfl⟩⟩
    rintro ρ k ⟨rfl, a, b, rfl⟩
    simp
    refine Exists.intro (fun (ρ : Ro) (k : Nat) => k ≤ n + 5 ∧ ∃ a b : Option Int, ρ = [.fz .dr, .fz (.d (.list (cs.map cD))), .fz (.d (oD a)), .fz (.d (oD b))]) (And.intro ?_ ?_)
    · refine ⟨by omega, by omega, fun x x0 x1 => ?_⟩
      by_cases ex : x = 0
      · rw [if_pos ex]
        exact ⟨by omega, ne, by omega, fun y c d m e => ⟨_, e.symm, rfl, by omega, c, d, rfl⟩⟩
      · rw [if_neg ex]
        exact ⟨by omega, a, b, rfl⟩
    rintro ρ k ⟨hk, a, b, rfl⟩
    simp [-List.mem_cons]
    refine Exists.intro (fun (ρ : Ro) (j : Nat) => j ≤ k + 5 ∧ ∃ a : Int, ρ = [.fz .dr, .fz (.d (.list (cs.map cD))), .fz (.d (.int a)), .fz (.d (oD b))]) (And.intro ?_ ?_)
    · cases a with
      | none =>
        simp
        omega
      | some v =>
        simp [-List.mem_cons]
        refine ⟨by omega, fun y hy => ?_⟩
        obtain ⟨z, rfl⟩ := pick5 hy
        simp
    rintro ρ j ⟨hj, a, rfl⟩
    simp [-List.mem_cons]
    refine Exists.intro (fun (ρ : Ro) (i : Nat) => i ≤ j + 5 ∧ ∃ b : Int, ρ = [.fz .dr, .fz (.d (.list (cs.map cD))), .fz (.d (.int a)), .fz (.d (.int b))]) (And.intro ?_ ?_)
    · cases b with
      | none =>
        simp
        omega
      | some v =>
        simp [-List.mem_cons]
        refine ⟨by omega, fun y hy => ?_⟩
        obtain ⟨z, rfl⟩ := pick5 hy
        simp
    rintro ρ i ⟨hi, b, rfl⟩
    simp
    exact hq _ _ _ (by omega) (by omega) (by omega)
end
end G21
set_option Elab.async false
set_option linter.all false
set_option maxRecDepth 100000
set_option maxHeartbeats 4000000
set_option synthInstance.maxSize 100000
set_option synthInstance.maxHeartbeats 0
namespace G21
open PySem PySem.Spec PyProof.Rows L2 V3
theorem isT3 {X : Cx} (K : PySem.W.Frag) (h : X.K = K := by rfl) : CallR X (.builtin "isinstance") (rIsT K) := h ▸ call_isT
theorem caughtK {X : Cx} (K : PySem.W.Frag) {q : Str} {g CS : Addr} {cdg : Value} (hme : X.mg "GapError" = some (.ref CS)) (h : X.K = K := by rfl) :
    LamX.GivesTo X N_l_caught "_law_caught" (defScope S_l_caught) g cdg (defBody S_l_caught) "task" q (TTc K CS) := h ▸ caught_gives hme
instance {K : PySem.W.Frag} {mg : Str → Option Value} (T : Txt K mg) : ExcF K T.x_GapError.C T.x_BadForm.C := ⟨T.x_BadForm.e, T.e_BadForm, T.u_BadForm⟩
instance {K : PySem.W.Frag} {mg : Str → Option Value} (T : Txt K mg) : ExcF K T.x_GapError.C T.x_NotJoined.C := ⟨T.x_NotJoined.e, T.e_NotJoined, T.u_NotJoined⟩
def lawQ : Str := Str.ofString "law.<locals>.<lambda>"
/-- law, its code and its table of lambdas -/
structure TzL {K : PySem.W.Frag} {mg : Str → Option Value} (T : Txt K mg) (base : Heap) (TL : List (Addr × Str)) where
  c : Addr
  P : Addr
  h : T.q_law.d.code = .ref c
  TBlaw : LamX.TabB base mg c P
  mlaw : (P, lawQ) ∈ TL
  ulaw : ∀ p ∈ TL, p.1 = P → p.2 = lawQ
section
variable {P : Program} {w : World} {base : Heap} {TL : List (Addr × Str)}
theorem eqCT {K : PySem.W.Frag} {mg : Str → Option Value} (T : Txt K mg) : GO.EqC P w K mg base 3 T.C T.f_eq (toSp K T.C TL false (sp_feq T.C)) := ⟨⟨T.d_eq, ["self", "other"], ok_q_Form_eq T, T.b_eq⟩, T.o_eq, T.neC, T.i_eq, T.iM⟩
end
def spLaw (K : PySem.W.Frag) (TL : List (Addr × Str)) : Sp := fun vs H Q _ => ∃ (l : Addr) (ns : List Int), vs = [.ref l] ∧ SqL K H l (ns.map V.int) ∧ ns.length ≤ 63 ∧ LamX.Tabs TL H ∧ ∀ H', Q (.bl true) H'
/-- what the law's laps lean on -/
def amL {K : PySem.W.Frag} {mg : Str → Option Value} (T : Txt K mg) (TL : List (Addr × Str)) (d g c : Addr) (H : Hp) (E : XK) : Am where
  K := K
  C := T.C
  R := { dr := some (d, g, c), hid := fun a => a = d ∨ a = g ∨ a = c }
  TL := TL
  Hs := H
  O0 := fun a => a = d ∨ a = g
  E := E
  e := fun _ => False
  cls := T.cls
  nB := T.nB
  insT := fun H a dx fs h => .base (.ins h T.cls T.iA T.iN T.iT T.iM)
  kD := T.kD
abbrev roL : Ro := [.no, .fz .dr, .no, .no, .no, .no, .no, .no, .no, .no, .no, .no, .no, .no, .no, .no, .no]
theorem lp_rl {K : PySem.W.Frag} {mg : Str → Option Value} {T : Txt K mg} {TL : List (Addr × Str)} {d g c : Addr} {H0 H : Hp} {E : XK} {σ : L2.St} {n : Nat} (hl : σ.length = 17) (h1 : σ[1]? = some (some (.ref d))) (gr : Gr (amL T TL d g c H0 E) H) (w : Wd (amL T TL d g c H0 E).R TL H n) :
    Rl (amL T TL d g c H0 E) roL n σ H := by
  have only : ∀ (i : Nat) (s : Sl), roL[i]? = some s → s = .no ∨ (i = 1 ∧ s = .fz .dr) := fun i s e => by
    match i, e with
    | 0, e => exact .inl (Option.some.inj e).symm
    | 1, e => exact .inr ⟨rfl, (Option.some.inj e).symm⟩
    | i + 2, e =>
      have m := List.mem_of_getElem? (l := List.replicate 15 Sl.no) (i := i) e
      exact .inl (List.mem_replicate.mp m).2
  refine ⟨by rw [hl]; rfl, fun i u e => ?_, fun i ds e => ?_, fun i j p a _ => ?_, fun d' g' c' e => ?_, gr, w, fun _ _ _ _ _ z => z.elim⟩
  · rcases only i _ e with z | ⟨rfl, z⟩
    · cases z
    · cases z
      exact ⟨_, h1, d, g, c, rfl, rfl⟩
  · rcases only i _ e with z | ⟨_, z⟩ <;> cases z
  · obtain ⟨⟨ds, e⟩, _⟩ := a
    rcases only i _ e with z | ⟨_, z⟩ <;> cases z
  · cases e
    exact ⟨.inl rfl, .inr rfl⟩
def FL : En3 := ⟨fun _ _ => False, fun _ u _ => u = .d (.bool true), fun _ _ => False, fun _ _ => False⟩
theorem use_lsG {K : PySem.W.Frag} {C : Addr} {TL : List (Addr × Str)} {E : XK} {t : TS} {m : TS3} [ht : V3.LS K C TL E t m] (am : Am) (ρ : Ro) (n : Nat) {σ : L2.St} {H : Hp} {D : Ends} {i : Nat} {v : V} (F : En3) (hE : am.K = K ∧ am.TL = TL ∧ am.E = E ∧ am.C = C) (hr : Rl am ρ n (σ.set i (some v)) H) (en : EnR am D F) (hm : m F ρ n am.e) : gName i v σ H fun σ2 H2 => t D σ2 H2 := ht.s am ρ n _ H D F hE hr en hm
/-- what a raw form does; small numbers -/
def smF (f : Fm) : Prop := Can f.cs ∧ (∀ c ∈ f.cs, smC 8 c) ∧ f.cs.length ≤ 4 ∧ (1 ≤ f.l.1 ∧ f.l.1 ≤ 6) ∧ (1 ≤ f.l.2 ∧ f.l.2 ≤ 6) ∧ (-3 ≤ f.b.1 ∧ f.b.1 ≤ 3) ∧ -3 ≤ f.b.2 ∧ f.b.2 ≤ 3
theorem smF.ok {f : Fm} (h : smF f) : okF f := ⟨h.1, fun c hc => ⟨fun k e => ((h.2.1 c hc).1 k e).1, fun k e => ((h.2.1 c hc).2 k e).1⟩, h.2.2.2.1.1, h.2.2.2.2.1.1⟩
theorem okF.nrm {f : Fm} (h : okF f) : okF (nrm f) := by
  refine ⟨h.can, h.pos, ?_, ?_⟩
  · show 1 ≤ (nLw f.cs f.l f.b).1
    unfold nLw
    have := h.l1
    by_cases e : f.cs = []
    · rw [if_pos e]
      decide
    · rw [if_neg e]
      dsimp only
      omega
  · show 1 ≤ (nLw f.cs f.l f.b).2
    unfold nLw
    have := h.l2
    by_cases e : f.cs = []
    · rw [if_pos e]
      decide
    · rw [if_neg e]
      dsimp only
      omega
theorem beh_comp (l b l' b' p : Int × Int) : behI (behI l' b' l) (b.1 + b'.1, b.2 + b'.2) p = behI l' b' (behI l b p) := by
  unfold behI
  dsimp only
  rw [Prod.mk.injEq]
  constructor <;> omega
theorem beh_pos {f : Fm} (h : okF f) (p : Int × Int) : 1 ≤ (behI f.l f.b p).1 ∧ 1 ≤ (behI f.l f.b p).2 := by
  have h1 := h.l1
  have h2 := h.l2
  unfold behI
  dsimp only
  omega
/-- the raw numbers of a product -/
def mulR (f g : Fm) (es : List Co) : Fm := ⟨g.e, es, behI g.l g.b f.l, (f.b.1 + g.b.1, f.b.2 + g.b.2)⟩
theorem mulR_ok {f g : Fm} {es : List Co} (hg : okF g) (hm : mulS f g es) : okF (mulR f g es) := ⟨hm.1, hm.2.1, (beh_pos hg f.l).1, (beh_pos hg f.l).2⟩
theorem mulF_ok {f g : Fm} {es : List Co} (hg : okF g) (hm : mulS f g es) : okF (mulF f g es) := (mulR_ok hg hm).nrm
theorem mul_beh {f g : Fm} {es : List Co} (hm : mulS f g es) {x y : Int} (hx : 1 ≤ x) (hy : 1 ≤ y) (h : heldI es x y) : behI (mulF f g es).l (mulF f g es).b (x, y) = behI g.l g.b (behI f.l f.b (x, y)) := by
  have e := beh_nrm (f := mulR f g es) (p := (x, y)) hm.1 hx hy (has_held.mpr h)
  exact e.trans (beh_comp ..)
/-- it makes no difference which two are put together first -/
theorem mul_assoc {f g h : Fm} {es es2 es3 es4 : List Co} (hf : okF f) (hg : okF g) (hh : okF h) (h1 : mulS f g es) (h2 : mulS (mulF f g es) h es2) (h3 : mulS g h es3) (h4 : mulS f (mulF g h es3) es4) : mulF (mulF f g es) h es2 = mulF f (mulF g h es3) es4 := by
  have pos := beh_pos hf
  have a1 : ∀ x y : Int, 1 ≤ x → 1 ≤ y → (heldI es2 x y ↔ heldI f.cs x y ∧ heldI g.cs (behI f.l f.b (x, y)).1 (behI f.l f.b (x, y)).2 ∧ heldI h.cs (behI g.l g.b (behI f.l f.b (x, y))).1 (behI g.l g.b (behI f.l f.b (x, y))).2) := fun x y hx hy => by
    rw [h2.2.2.2 x y hx hy]
    constructor
    · rintro ⟨z1, z2⟩
      rw [mul_beh h1 hx hy z1] at z2
      obtain ⟨z3, z4⟩ := (h1.2.2.2 x y hx hy).mp z1
      exact ⟨z3, z4, z2⟩
    · rintro ⟨z1, z2, z3⟩
      have z := (h1.2.2.2 x y hx hy).mpr ⟨z1, z2⟩
      refine ⟨z, ?_⟩
      rw [mul_beh h1 hx hy z]
      exact z3
  have a2 : ∀ x y : Int, 1 ≤ x → 1 ≤ y → (heldI es4 x y ↔ heldI f.cs x y ∧ heldI g.cs (behI f.l f.b (x, y)).1 (behI f.l f.b (x, y)).2 ∧ heldI h.cs (behI g.l g.b (behI f.l f.b (x, y))).1 (behI g.l g.b (behI f.l f.b (x, y))).2) := fun x y hx hy => by
    rw [h4.2.2.2 x y hx hy]
    have z := h3.2.2.2 (behI f.l f.b (x, y)).1 (behI f.l f.b (x, y)).2 (pos _).1 (pos _).2
    exact and_congr Iff.rfl z
  refine nrm_ext (f := mulR (mulF f g es) h es2) (g := mulR f (mulF g h es3) es4) (mulR_ok hh h2) (mulR_ok (mulF_ok hh h3) h4) rfl (fun x y hx hy => (a1 x y hx hy).trans (a2 x y hx hy).symm) fun x y hx hy hq => ?_
  obtain ⟨z1, z2, z3⟩ := (a1 x y hx hy).mp hq
  have zes := (h1.2.2.2 x y hx hy).mpr ⟨z1, z2⟩
  have b1 : behI (mulR (mulF f g es) h es2).l (mulR (mulF f g es) h es2).b (x, y) = behI h.l h.b (behI (mulF f g es).l (mulF f g es).b (x, y)) := beh_comp ..
  have b2 : behI (mulR f (mulF g h es3) es4).l (mulR f (mulF g h es3) es4).b (x, y) = behI (mulF g h es3).l (mulF g h es3).b (behI f.l f.b (x, y)) := beh_comp ..
  rw [b1, b2, mul_beh h1 hx hy zes]
  exact (mul_beh h3 (pos _).1 (pos _).2 ((h3.2.2.2 _ _ (pos _).1 (pos _).2).mpr ⟨z2, z3⟩)).symm
/-- what is told is told again -/
theorem nrm_nrm {f : Fm} (h : okF f) : nrm (nrm f) = nrm f := nrm_ext h.nrm h rfl (fun _ _ _ _ => Iff.rfl) fun x y hx hy hh => beh_nrm h.can hx hy (has_held.mpr hh)
theorem held_all (x y : Int) : heldI [(none, none)] x y := ⟨_, List.mem_singleton.mpr rfl, (fun k e => by cases e), (fun k e => by cases e)⟩
theorem beh_still {x y : Int} (hx : 1 ≤ x) (hy : 1 ≤ y) : behI (1, 1) (0, 0) (x, y) = (x, y) := by
  unfold behI
  dsimp only
  rw [Prod.mk.injEq]
  constructor <;> omega
abbrev stillF (e : D) (cs : List Co) : Fm := nrm ⟨e, cs, (1, 1), (0, 0)⟩
theorem still_ok {e : D} {cs : List Co} (hc : Can cs) (hp : ∀ c ∈ cs, posC c) : okF ⟨e, cs, (1, 1), (0, 0)⟩ := ⟨hc, hp, Int.le_refl 1, Int.le_refl 1⟩
theorem still_beh {e : D} {cs : List Co} (hc : Can cs) {x y : Int} (hx : 1 ≤ x) (hy : 1 ≤ y) (h : heldI cs x y) : behI (stillF e cs).l (stillF e cs).b (x, y) = (x, y) := (beh_nrm (f := ⟨e, cs, (1, 1), (0, 0)⟩) hc hx hy (has_held.mpr h)).trans (beh_still hx hy)
/-- a still form ahead that holds all that the next one holds -/
theorem still_mul {f : Fm} {e : D} {cs es : List Co} (hc : Can cs) (hp : ∀ c ∈ cs, posC c) (hf : okF f) (hn : nrm f = f) (hs : ∀ x y : Int, 1 ≤ x → 1 ≤ y → heldI f.cs x y → heldI cs x y) (hm : mulS (stillF e cs) f es) : mulF (stillF e cs) f es = f := by
  have a : ∀ x y : Int, 1 ≤ x → 1 ≤ y → (heldI es x y ↔ heldI f.cs x y) := fun x y hx hy => by
    rw [hm.2.2.2 x y hx hy]
    constructor
    · rintro ⟨z1, z2⟩
      rw [still_beh hc hx hy z1] at z2
      exact z2
    · intro z
      have z1 := hs x y hx hy z
      refine ⟨z1, ?_⟩
      rw [still_beh hc hx hy z1]
      exact z
  refine (nrm_ext (f := mulR (stillF e cs) f es) (mulR_ok hf hm) hf rfl a fun x y hx hy hq => ?_).trans hn
  have z1 := hs x y hx hy ((a x y hx hy).mp hq)
  exact (beh_comp ..).trans (by rw [still_beh hc hx hy z1])
/-- a still form behind that holds all -/
theorem mul_still {f : Fm} {es : List Co} (hf : okF f) (hn : nrm f = f) (hm : mulS f (stillF f.e [(none, none)]) es) : mulF f (stillF f.e [(none, none)]) es = f := by
  have hc : Can [((none : Option Int), (none : Option Int))] := List.pairwise_singleton _ _
  have hp : ∀ c ∈ [((none : Option Int), (none : Option Int))], posC c := fun c hc => by
    rw [List.mem_singleton.mp hc]
    exact ⟨(fun k e => by cases e), (fun k e => by cases e)⟩
  have ok : okF (stillF f.e [(none, none)]) := (still_ok hc hp).nrm
  have a : ∀ x y : Int, 1 ≤ x → 1 ≤ y → (heldI es x y ↔ heldI f.cs x y) := fun x y hx hy => by
    rw [hm.2.2.2 x y hx hy]
    exact ⟨fun z => z.1, fun z => ⟨z, held_all _ _⟩⟩
  refine (nrm_ext (f := mulR f (stillF f.e [(none, none)]) es) (mulR_ok ok hm) hf rfl a fun x y hx hy hq => ?_).trans hn
  refine (beh_comp ..).trans ?_
  exact still_beh hc (beh_pos hf (x, y)).1 (beh_pos hf (x, y)).2 (held_all _ _)
/-- forms of one staircase, met -/
theorem still_met {e e' : D} {cs ds es : List Co} (h1 : Can cs) (h2 : ∀ c ∈ cs, posC c) (h3 : Can ds) (h4 : ∀ c ∈ ds, posC c) (hm : mulS (stillF e cs) (stillF e' ds) es) {fs : List Co} (g1 : Can fs) (g2 : ∀ c ∈ fs, posC c) (hb : btI ds cs fs) : es = fs := by
  refine can_eq hm.1 g1 hm.2.1 g2 fun x y hx hy => ?_
  rw [hm.2.2.2 x y hx hy, hb x y]
  constructor
  · rintro ⟨z1, z2⟩
    rw [still_beh h1 hx hy z1] at z2
    exact ⟨z2, z1⟩
  · rintro ⟨z1, z2⟩
    refine ⟨z2, ?_⟩
    rw [still_beh h1 hx hy z2]
    exact z1
/-- the staircase of a product, told by met and moved -/
theorem mul_met {f g : Fm} {es ms fs : List Co} (hm : mulS f g es) (hv : mvI f.l f.b g.cs ms) (g1 : Can fs) (g2 : ∀ c ∈ fs, posC c) (hb : btI f.cs ms fs) : es = fs := by
  refine can_eq hm.1 g1 hm.2.1 g2 fun x y hx hy => ?_
  rw [hm.2.2.2 x y hx hy, hb x y, hv x y hx hy]
  exact Iff.rfl
/-- the same staircases and numbers, the same product -/
theorem mul_uniq {f g : Fm} {es es' : List Co} (h : mulS f g es) (h' : mulS f g es') : es = es' := can_eq h.1 h'.1 h.2.1 h'.2.1 fun x y hx hy => by
  rw [h.2.2.2 x y hx hy, h'.2.2.2 x y hx hy]
theorem askF_of {P Q : V3.D} (hP : isPlD P) (hQ : isPlD Q) {f : Fm} (ok : okF f) (hl : f.cs.length ≤ 300) {k : List (Str × V3.D) → Prop} (h : k (fldF P Q f.cs (nLw f.cs f.l f.b) (nBy f.cs f.l f.b))) : askF [U.d P, U.d Q, U.d (.tuple (f.cs.map cD)), U.d (pD f.l), U.d (pD f.b)] k := by
  obtain ⟨m, a, b, rfl, h1⟩ := hP
  obtain ⟨m2, a2, b2, rfl, h2⟩ := hQ
  exact ⟨m, a, b, m2, a2, b2, f.cs, f.l, f.b, rfl, h1, h2, ok.can, ok.pos, hl, ok.l1, ok.l2, h⟩
theorem flat_F {P Q : V3.D} (hP : isPlD P) (hQ : isPlD Q) (cs : List Co) (l b : Int × Int) : flatFs (fldF P Q cs l b) = true := by
  obtain ⟨m, a, b, rfl, h1⟩ := hP
  obtain ⟨m2, a2, b2, rfl, h2⟩ := hQ
  exact flat_fldF ..
theorem nrm_cs (f : Fm) : (nrm f).cs = f.cs := rfl
theorem eqv_cosne {cs ds : List Co} {k : Bool → V3.D → Prop} (e : cs = ds) (h : k false (.bool false)) : V3.eqU not (.d (.tuple (cs.map cD))) (.d (.tuple (ds.map cD))) k := by
  refine ⟨shaped_cT _, shaped_cT _, ?_⟩
  rw [eqv_cTs, e, decide_eq_true rfl]
  exact h
/-- == of forms -/
theorem feq_same {s : V3.D} {f : Fm} (hs : isPlD s) (hf : isPlD f.e) : (PyData.eqv s s && (PyData.eqv f.e f.e && (decide (f.cs = f.cs) && (decide (f.l = f.l) && decide (f.b = f.b))))) = true := by
  rw [(eqv_plD hs hs).mpr rfl, (eqv_plD hf hf).mpr rfl]
  simp
theorem lcL_drawN {is : List Nat} {tup : Bool} {mt : TT3} {me : TE3} {ρ : Ro} {e : Addr → Prop} (R : V3.D → Prop) (c N : Nat) : ∀ (ds : List V3.D) (n : Nat) (q : List V3.D → Nat → Prop), n + c * ds.length ≤ N →
    (∀ d ∈ ds, ∀ (m : Nat) (Kt : V3.D → Nat → Prop) (Ks : Nat → Prop), m + c ≤ N → (∀ x m', R x → m' ≤ m + c → Kt x m') → giv is tup d ρ fun ρ' => mt ρ' m (fun b n1 => if b = true then me ρ' n1 (fun _ u n2 => match u with
      | .d x => Kt x n2
      | _ => False) e else Ks n1) e) → (∀ (xs : List V3.D) (m : Nat), xs.length = ds.length → m ≤ N → (∀ x ∈ xs, R x) → q xs m) → lcL is tup mt me ρ e ds n q
  | [], n, q, hN, _, h => h [] n rfl (by simpa using hN) (fun x z => by cases z)
  | d :: ds, n, q, hN, hit, h => by
    have e1 : n + c + c * ds.length = n + c * (d :: ds).length := by
      rw [List.length_cons, Nat.mul_succ]
      omega
    refine hit d (List.mem_cons_self ..) n (fun x n2 => lcL is tup mt me ρ e ds n2 fun xs n3 => q (x :: xs) n3) (fun n1 => lcL is tup mt me ρ e ds n1 q) (by omega) fun x m' hx l2 => ?_
    refine lcL_drawN R c N ds m' _ (by omega) (fun y hy m Kt Ks h1 k => hit y (List.mem_cons_of_mem _ hy) m Kt Ks h1 k) fun xs m hl hm hxs => ?_
    refine h _ m (by rw [List.length_cons, List.length_cons, hl]) hm fun y hy => ?_
    rcases List.mem_cons.mp hy with z | z
    · rw [z]
      exact hx
    · exact hxs y z
theorem all_map {Q : Int × Int → Prop} : ∀ {xs : List V3.D}, (∀ x ∈ xs, ∃ p : Int × Int, x = pD p ∧ Q p) → ∃ ps : List (Int × Int), xs = ps.map pD ∧ ∀ p ∈ ps, Q p
  | [], _ => ⟨[], rfl, fun p h => by cases h⟩
  | x :: xs, h => by
    obtain ⟨p, rfl, hp⟩ := h x List.mem_cons_self
    obtain ⟨ps, rfl, hps⟩ := all_map (xs := xs) fun y hy => h y (List.mem_cons_of_mem _ hy)
    refine ⟨p :: ps, rfl, fun r hr => ?_⟩
    rcases List.mem_cons.mp hr with z | z
    · rw [z]
      exact hp
    · exact hps r z
theorem bodL_pos {p : Int × Int} (h : p ∈ bodL 5) : 1 ≤ p.1 ∧ 1 ≤ p.2 := by
  revert p
  decide
abbrev optD (o : Option (Int × Int)) : V3.D := match o with
  | none => .none
  | some p => pD p
def stepO (f : Fm) (p : Int × Int) : Option (Int × Int) := if hasI f p = true then some (behI f.l f.b p) else none
theorem stepO_pos {f : Fm} (h : okF f) {p q : Int × Int} (e : stepO f p = some q) : 1 ≤ q.1 ∧ 1 ≤ q.2 := by
  unfold stepO at e
  split at e
  · cases e
    exact beh_pos h p
  · cases e
theorem stepO_nrm {f : Fm} (h : Can f.cs) {p : Int × Int} (h1 : 1 ≤ p.1) (h2 : 1 ≤ p.2) : stepO (nrm f) p = stepO f p := by
  unfold stepO
  rw [show hasI (nrm f) p = hasI f p from rfl]
  by_cases e : hasI f p = true
  · rw [if_pos e, if_pos e, beh_nrm h h1 h2 e]
  · rw [if_neg e, if_neg e]
theorem stepO_mul {f g : Fm} {es : List Co} (hm : mulS f g es) {p : Int × Int} (h1 : 1 ≤ p.1) (h2 : 1 ≤ p.2) : stepO (mulF f g es) p = (stepO f p).bind (stepO g) := by
  have k := hm.2.2.2 p.1 p.2 h1 h2
  unfold stepO
  by_cases e : hasI f p = true
  · rw [if_pos e]
    show _ = if hasI g (behI f.l f.b p) = true then some (behI g.l g.b (behI f.l f.b p)) else none
    by_cases e2 : hasI g (behI f.l f.b p) = true
    · have z := k.mpr ⟨has_held.mp e, has_held.mp e2⟩
      rw [if_pos e2, if_pos (show hasI (mulF f g es) p = true from has_held.mpr z), mul_beh hm h1 h2 z]
    · have ne : ¬ hasI (mulF f g es) p = true := fun z => e2 (has_held.mpr (k.mp (has_held.mp z)).2)
      rw [if_neg e2, if_neg ne]
  · have ne : ¬ hasI (mulF f g es) p = true := fun z => e (has_held.mpr (k.mp (has_held.mp z)).1)
    rw [if_neg e, if_neg ne]
    rfl
theorem end_opt (f : Fm) (p : Int × Int) : (if hasI f p = true then pr (behI f.l f.b p).1 (behI f.l f.b p).2 else PyData.none) = optD (stepO f p) := by
  unfold stepO
  split <;> rfl
theorem eqn_opt {o o' : Option (Int × Int)} (e : o = o') {k : Bool → V3.D → Prop} (h : k false (.bool false)) : V3.eqU not (.d (optD o)) (.d (optD o')) k := by
  subst e
  cases o with
  | none => exact ⟨by rfl, by rfl, h⟩
  | some p =>
    refine ⟨shaped_pr2 _ _, shaped_pr2 _ _, ?_⟩
    have e5 : PyData.eqv (pr p.1 p.2) (pr p.1 p.2) = true := by
      rw [eqv_pr2]
      exact decide_eq_true rfl
    rw [e5]
    exact h
theorem plOk_plD {x : V3.D} (h : isPlD x) : plOk x := by
  obtain ⟨m, a, b, rfl, _⟩ := h
  exact ⟨lenT_t2 _ _, fun a b e => by
    cases e
    exact lenT_t2 _ _⟩
/-- f == f' of equal forms, as the own == is asked -/
theorem feq_go {C : Addr} {s : V3.D} {f f' : Fm} (hs : isPlD s) (hf : isPlD f.e) (e : f = f') {n : Nat} {q : U → Nat → Prop} {e0 : Addr → Prop} (h : q (.d (.bool true)) n) : sp_feq C [fmU C s f, fmU C s f'] n q e0 := by
  subst e
  refine ⟨s, f, _, rfl, shaped_plD hs, tup_plD hs, shaped_plD hf, tup_plD hf, .inr ⟨s, f, rfl, shaped_plD hs, tup_plD hs, shaped_plD hf, tup_plD hf, ?_⟩⟩
  rw [feq_same hs hf]
  exact h
end G21
set_option Elab.async false
set_option linter.all false
set_option maxRecDepth 100000
set_option maxHeartbeats 4000000
/-! a, b, c = e, e a list -/
namespace V3
open PySem PySem.Spec PyProof.Rows L2
theorem unl3 {X : Cx} (K : PySem.W.Frag) {es : List Expr} {t : TGs} {n : Nat} {k : _} {pos : Pos} (hc : X.calm = true) (h' : PGs X es t) (hn : (assignEach es X.env).length = n := by rfl) (hst : (assignEach es X.env).findIdx? (·.1) = none := by rfl) (h : X.K = K := by rfl) : PG X (.Tuple es k pos) (gUnl K n t) := h ▸ pg_unl hc h' hn hst
section
variable {K : PySem.W.Frag} {C : Addr} {TL : List (Addr × Str)} {E : XK}
@[simp ↓] def mSetU (S is : List Nat) (me : TE3) : TS3 := fun F ρ n e => me ρ n (fun _ u n1 => askL u fun ds => if ds.length = is.length then F.nx (setAll is ds (if flatAll ds = true then ρ else dem S ρ)) n1 else False) e
instance {te : TE} {k : Nat} {gs : TGs} {S is : List Nat} {me : TE3} [he : LE K C TL E te S me] [hg : LGs gs is] [hk : HasLen is k] : LS K C TL E (tAsg te (gUnl K k gs)) (mSetU S is me) where
  s am ρ n σ H D F hE h en hm := by
    obtain ⟨rfl, rfl, rfl, rfl⟩ := id hE
    refine he.s am ρ n σ H hE h _ _ hm fun fr u n1 v H1 hq f1 w1 r1 => ?_
    have h1 := h.step f1 w1
    obtain ⟨ds, a, vs, rfl, rfl, a1, a2, hq⟩ := askL_rep hq r1.1
    obtain ⟨hl, hq⟩ := if_pos' hq
    refine ⟨a, vs, rfl, SqL.of (cut_some.mp a1).2, by rw [RpAll.len a2, hl]; exact hk.e, hg.s vs σ H1 _ (by rw [RpAll.len a2, hl]) ?_⟩
    by_cases fl : flatAll ds = true
    · rw [if_pos fl] at hq
      refine en.nx _ n1 _ H1 hq (setAll_ok (O := Hid am ρ σ) (fun a z => z) h1 (RpAll.hide (fun p z => ?_) _ _ fl a2) hl)
      rcases z with z | ⟨j, z⟩
      · exact .inl (.inl z)
      · exact .inr (h1.ownL z).2.1
    · rw [if_neg fl] at hq
      exact en.nx _ n1 _ H1 hq (setAll_ok (fun a z => z) (h1.dem S) a2 hl)
end
end V3
set_option Elab.async false
set_option linter.all false
set_option maxRecDepth 100000
set_option maxHeartbeats 4000000
set_option synthInstance.maxSize 100000
set_option synthInstance.maxHeartbeats 0
namespace G21
open PySem PySem.Spec PyProof.Rows L2 V3
section
variable {P : Program} {w : World} {K : PySem.W.Frag} {mg : Str → Option Value} {base : Heap} {TL : List (Addr × Str)}
theorem ok_law (T : Txt K mg) (Y : TzS T base TL) (Z : TzL T base TL) : FnOk P w K mg base CX0 14 T.q_law.a T.q_law.d ["script"] (spLaw K TL) := by
  obtain ⟨ocC, odC, kVC, docC, pmC, anC, cdvC, ctC, oslC, edC, lkC, hcC⟩ := T.l_caught.F.ex
  have bC := T.l_caught.b
  rw [edC] at lkC bC
  refine okC T.q_law.F Z.h c_q_law (fun vs H Q E h => ?_) (fun A outer s H vs Q E hr h => ?_)
  · obtain ⟨l, ns, rfl, _⟩ := h
    rfl
  · obtain ⟨l, ns, rfl, hS, h63, hT, k⟩ := h
    refine ⟨_,
      (pss_cons (ps_set (i := 1) c_q_law.nd rfl (Or.inr rfl) (pe_call (ok0_l_begun T) (hr.mono (by decide)) rfl T.l_begun.g T.l_begun.k T.l_begun.b .nil pass0 (pa_cons (pv 0) pa_nil)))
      (C8.pss_cut (ps_set (i := 2) c_q_law.nd rfl (Or.inr rfl) (pe_lc (own := [("lap", 16)]) (g := gName 16) (by rfl) c_q_law.nd (pi_range1 rfl T.z_range (pa_cons pe_int pa_nil)) (blkOk_by (own := [("lap", 16)]) (N := N_q_law) (sc := defScope S_q_law) (by decide +kernel)) (fun _ _ _ _ _ => pg_name (i := 16) c_q_law.nd rfl (Or.inl rfl)) (fun _ _ _ _ _ => pts_nil) (fun _ _ _ _ _ => (pe_call (ok_l_raw T (TL := TL) Y) (hr.mono (by decide)) rfl T.l_raw.g T.l_raw.k T.l_raw.b .nil pass0 (pa_cons (pv 1) pa_nil)))))
      (C8.pss_cut (ps_set (i := 3) c_q_law.nd rfl (Or.inr rfl) (pe_lc (own := [("lap", 16)]) (g := gName 16) (by rfl) c_q_law.nd (pi_range1 rfl T.z_range (pa_cons pe_int pa_nil)) (blkOk_by (own := [("lap", 16)]) (N := N_q_law) (sc := defScope S_q_law) (by decide +kernel)) (fun _ _ _ _ _ => pg_name (i := 16) c_q_law.nd rfl (Or.inl rfl)) (fun _ _ _ _ _ => pts_nil) (fun _ _ _ _ _ => (pe_tup (pa_cons (pv 16) (pa_cons (pe_tup (pa_cons (pe_call (ok_l_take T (TL := TL)) (hr.mono (by decide)) rfl T.l_take.g T.l_take.k T.l_take.b .nil pass0 (pa_cons (pv 1) (pa_cons pe_int pa_nil))) (pa_cons (pe_call (ok_l_take T (TL := TL)) (hr.mono (by decide)) rfl T.l_take.g T.l_take.k T.l_take.b .nil pass0 (pa_cons (pv 1) (pa_cons pe_int pa_nil))) pa_nil))) pa_nil))))))
      (C8.pss_cut (ps_if (pt_cmpR (eq3 K hr.units) (pe_call (ok_l_take T (TL := TL)) (hr.mono (by decide)) rfl T.l_take.g T.l_take.k T.l_take.b .nil pass0 (pa_cons (pv 1) (pa_cons pe_int pa_nil))) pe_int (nomark _))
      (pss_one (ps_set (i := 3) c_q_law.nd rfl (Or.inr rfl) (pe_lc (own := [("lap", 16)]) (g := gName 16) (by rfl) c_q_law.nd (pi_range1 rfl T.z_range (pa_cons pe_int pa_nil)) (blkOk_by (own := [("lap", 16)]) (N := N_q_law) (sc := defScope S_q_law) (by decide +kernel)) (fun _ _ _ _ _ => pg_name (i := 16) c_q_law.nd rfl (Or.inl rfl)) (fun _ _ _ _ _ => pts_nil) (fun _ _ _ _ _ => (pe_ix (ix3 K) (pv 3) pe_int (fun _ _ => rfl))))))
      pss_nil)
      (C8.pss_cut (ps_asg (pe_lc (own := [("lap", 16)]) (g := gName 16) (by rfl) c_q_law.nd (pi_range1 rfl T.z_range (pa_cons pe_int pa_nil)) (blkOk_by (own := [("lap", 16)]) (N := N_q_law) (sc := defScope S_q_law) (by decide +kernel)) (fun _ _ _ _ _ => pg_name (i := 16) c_q_law.nd rfl (Or.inl rfl)) (fun _ _ _ _ _ => pts_nil) (fun _ _ _ _ _ => (pe_make T.M (ok_q_Form_init T (TL := TL)) (hr.mono (by decide)) rfl T.gC T.bI .nil passL (pa_cons (pe_ix (ix3 K) (pv 3) (pv 16) (fun _ _ => rfl)) (pa_cons (pe_ix (ix3 K) (pv 3) (pe_op (add3 K) (pv 16) pe_int) (fun _ _ => rfl)) (pa_cons (pe_ix (ix3 K) (pe_ix (ix3 K) (pv 2) (pv 16) (fun _ _ => rfl)) pe_int (fun _ _ => rfl)) (pa_cons (pe_ix (ix3 K) (pe_ix (ix3 K) (pv 2) (pv 16) (fun _ _ => rfl)) pe_int (fun _ _ => rfl)) (pa_cons (pe_ix (ix3 K) (pe_ix (ix3 K) (pv 2) (pv 16) (fun _ _ => rfl)) pe_int (fun _ _ => rfl)) pa_nil)))))))) (unl3 K (n := 3) rfl (pgs_cons (pg_name (i := 4) c_q_law.nd rfl (Or.inr rfl) (hf := Or.inl rfl)) (pgs_cons (pg_name (i := 5) c_q_law.nd rfl (Or.inr rfl) (hf := Or.inl rfl)) (pgs_cons (pg_name (i := 6) c_q_law.nd rfl (Or.inl rfl) (hf := Or.inr rfl)) pgs_nil)))))
      (C8.pss_cut (ps_set (i := 7) c_q_law.nd rfl (Or.inl rfl) (GM.pe_mul (mulCT T) (ok_q_Form_mul T (TL := TL)) (hr.mono (by decide)) T.b_mul passL (mul_guard (mul_ok T _ _) _) (pv 4) (pv 5)))
      (C8.pss_cut (ps_if (PW.pt (pw_or (pt_not (pt_val (pe_callB (isi3 K) (by rfl) T.z_isinstance (by decide +kernel) (pa_cons (pv 7) (pa_cons (pe_glob (v := .ref T.C) (u := .ref T.C) rfl T.gC rfl) pa_nil))))) (pw_or (pt_cmpR (ne3 K hr.units) (fld3 K (pv 7) rfl) (fld3 K (pv 4) rfl) (nomark _)) (pw_or1 (pt_cmpR (ne3 K hr.units) (fld3 K (pv 7) rfl) (fld3 K (pv 5) rfl) (nomark _))))))
      (pss_one (ps_ret pe_bl))
      pss_nil)
      (C8.pss_cut (ps_set (i := 8) c_q_law.nd rfl (Or.inl rfl) (GM.pe_mul (mulCT T) (ok_q_Form_mul T (TL := TL)) (hr.mono (by decide)) T.b_mul passL (mul_guard (mul_ok T _ _) _) (pv 7) (pv 6)))
      (C8.pss_cut (ps_if (PW.pt (pw_or (pt_cmpR (ne3 K hr.units) (fld3 K (pv 7) rfl) (pe_call (ok_q_met T (TL := TL)) (hr.mono (by decide)) rfl T.q_met.g T.q_met.k T.q_met.b .nil passL (pa_cons (fld3 K (pv 4) rfl) (pa_cons (pe_call (ok_q_moved T (TL := TL)) (hr.mono (by decide)) rfl T.q_moved.g T.q_moved.k T.q_moved.b .nil passL (pa_cons (fld3 K (pv 5) rfl) (pa_cons (fld3 K (pv 4) rfl) (pa_cons (fld3 K (pv 4) rfl) pa_nil)))) pa_nil))) (nomark _)) (pw_or1 (pt_cmpR (objNe3 K (eqCT (P := P) (w := w) (base := base) (TL := TL) T) (hr.mono (by decide)) pass0) (pv 8) (GM.pe_mul (mulCT T) (ok_q_Form_mul T (TL := TL)) (hr.mono (by decide)) T.b_mul passL (mul_guard (mul_ok T _ _) _) (pv 4) (GM.pe_mul (mulCT T) (ok_q_Form_mul T (TL := TL)) (hr.mono (by decide)) T.b_mul passL (mul_guard (mul_ok T _ _) _) (pv 5) (pv 6))) (nomark _)))))
      (pss_one (ps_ret pe_bl))
      pss_nil)
      (C8.pss_cut (ps_set (i := 9) c_q_law.nd rfl (Or.inl rfl) (pe_op (add3 K) (pe_call (ok_l_few_bodies T (TL := TL)) (hr.mono (by decide)) rfl T.l_few_bodies.g T.l_few_bodies.k T.l_few_bodies.b .nil pass0 (pa_cons pe_int pa_nil)) (pe_lc (own := [("lap", 16)]) (g := gName 16) (by rfl) c_q_law.nd (pi_range1 rfl T.z_range (pa_cons pe_int pa_nil)) (blkOk_by (own := [("lap", 16)]) (N := N_q_law) (sc := defScope S_q_law) (by decide +kernel)) (fun _ _ _ _ _ => pg_name (i := 16) c_q_law.nd rfl (Or.inl rfl)) (fun _ _ _ _ _ => pts_nil) (fun _ _ _ _ _ => (pe_call (ok_l_beside T (TL := TL)) (hr.mono (by decide)) rfl T.l_beside.g T.l_beside.k T.l_beside.b .nil pass0 (pa_cons (pv 1) (pa_cons (pe_op (add3 K) (pe_callTy (list3 K) (by rfl) T.z_list (by decide +kernel) (pa_cons (fld3 K (pv 4) rfl) pa_nil)) (pe_callTy (list3 K) (by rfl) T.z_list (by decide +kernel) (pa_cons (fld3 K (pv 5) rfl) pa_nil))) pa_nil)))))))
      (pss_cons (ps_for PassesOwn.never rfl (seq3 K (pe_op (add3 K) (pv 9) (pe_lst (pa_cons (pe_tup (pa_cons pe_int (pa_cons pe_int pa_nil))) (pa_cons (pe_tup (pa_cons pe_int (pa_cons pe_int pa_nil))) (pa_cons (pe_tup (pa_cons pe_int (pa_cons pe_int pa_nil))) pa_nil)))))) (pg_name (i := 10) c_q_law.nd rfl (Or.inl rfl))
      (C8.pss_cut (ps_set (i := 11) c_q_law.nd rfl (Or.inl rfl) (pe_ifExp (pt_val (pe_call (ok_l_held T (TL := TL)) (hr.mono (by decide)) rfl T.l_held.g T.l_held.k T.l_held.b .nil pass0 (pa_cons (pe_ix (ix3 K) (pe_ix (ix3 K) (pv 2) pe_int (fun _ _ => rfl)) pe_int (fun _ _ => rfl)) (pa_cons (pv 10) pa_nil)))) (pe_call (ok_l_grow T (TL := TL)) (hr.mono (by decide)) rfl T.l_grow.g T.l_grow.k T.l_grow.b .nil pass0 (pa_cons (pe_ix (ix3 K) (pe_ix (ix3 K) (pv 2) pe_int (fun _ _ => rfl)) pe_int (fun _ _ => rfl)) (pa_cons (pe_ix (ix3 K) (pe_ix (ix3 K) (pv 2) pe_int (fun _ _ => rfl)) pe_int (fun _ _ => rfl)) (pa_cons (pv 10) pa_nil)))) pe_non))
      (C8.pss_cut (ps_if (pt_cmpR op_notN3 (pv 11) pe_non (nomark _))
      (pss_one (ps_set (i := 11) c_q_law.nd rfl (Or.inl rfl) (pe_ifExp (pt_val (pe_call (ok_l_held T (TL := TL)) (hr.mono (by decide)) rfl T.l_held.g T.l_held.k T.l_held.b .nil pass0 (pa_cons (pe_ix (ix3 K) (pe_ix (ix3 K) (pv 2) pe_int (fun _ _ => rfl)) pe_int (fun _ _ => rfl)) (pa_cons (pv 11) pa_nil)))) (pe_call (ok_l_grow T (TL := TL)) (hr.mono (by decide)) rfl T.l_grow.g T.l_grow.k T.l_grow.b .nil pass0 (pa_cons (pe_ix (ix3 K) (pe_ix (ix3 K) (pv 2) pe_int (fun _ _ => rfl)) pe_int (fun _ _ => rfl)) (pa_cons (pe_ix (ix3 K) (pe_ix (ix3 K) (pv 2) pe_int (fun _ _ => rfl)) pe_int (fun _ _ => rfl)) (pa_cons (pv 11) pa_nil)))) pe_non)))
      pss_nil)
      (C8.pss_cut (ps_if (pt_cmpR (ne3 K hr.units) (pe_call (ok_q_end_size T (TL := TL)) (hr.mono (by decide)) rfl T.q_end_size.g T.q_end_size.k T.q_end_size.b .nil passL (pa_cons (pv 7) (pa_cons (pv 10) pa_nil))) (pv 11) (nomark _))
      (pss_one (ps_ret pe_bl))
      pss_nil)
      (C8.pss_cut (ps_if (pt_cmpR op_notN3 (pv 11) pe_non (nomark _))
      (pss_one (ps_set (i := 11) c_q_law.nd rfl (Or.inl rfl) (pe_ifExp (pt_val (pe_call (ok_l_held T (TL := TL)) (hr.mono (by decide)) rfl T.l_held.g T.l_held.k T.l_held.b .nil pass0 (pa_cons (pe_ix (ix3 K) (pe_ix (ix3 K) (pv 2) pe_int (fun _ _ => rfl)) pe_int (fun _ _ => rfl)) (pa_cons (pv 11) pa_nil)))) (pe_call (ok_l_grow T (TL := TL)) (hr.mono (by decide)) rfl T.l_grow.g T.l_grow.k T.l_grow.b .nil pass0 (pa_cons (pe_ix (ix3 K) (pe_ix (ix3 K) (pv 2) pe_int (fun _ _ => rfl)) pe_int (fun _ _ => rfl)) (pa_cons (pe_ix (ix3 K) (pe_ix (ix3 K) (pv 2) pe_int (fun _ _ => rfl)) pe_int (fun _ _ => rfl)) (pa_cons (pv 11) pa_nil)))) pe_non)))
      pss_nil)
      (pss_one (ps_if (pt_cmpR (ne3 K hr.units) (pe_call (ok_q_end_size T (TL := TL)) (hr.mono (by decide)) rfl T.q_end_size.g T.q_end_size.k T.q_end_size.b .nil passL (pa_cons (pv 8) (pa_cons (pv 10) pa_nil))) (pv 11) (nomark _))
      (pss_one (ps_ret pe_bl))
      pss_nil)))))))
      (C8.pss_cut (ps_set (i := 12) c_q_law.nd rfl (Or.inl rfl) (pe_tup (pa_cons (pe_tup (pa_cons pe_non (pa_cons pe_non pa_nil))) pa_nil)))
      (C8.pss_cut (ps_if (PW.pt (pw_or (pt_cmpR (objNe3 K (eqCT (P := P) (w := w) (base := base) (TL := TL) T) (hr.mono (by decide)) pass0) (GM.pe_mul (mulCT T) (ok_q_Form_mul T (TL := TL)) (hr.mono (by decide)) T.b_mul passL (mul_guard (mul_ok T _ _) _) (pe_call (ok_q_still T (TL := TL)) (hr.mono (by decide)) rfl T.q_still.g T.q_still.k T.q_still.b .nil passL (pa_cons (fld3 K (pv 4) rfl) (pa_cons (pv 12) pa_nil))) (pv 4)) (pv 4) (nomark _)) (pw_or1 (pt_cmpR (objNe3 K (eqCT (P := P) (w := w) (base := base) (TL := TL) T) (hr.mono (by decide)) pass0) (GM.pe_mul (mulCT T) (ok_q_Form_mul T (TL := TL)) (hr.mono (by decide)) T.b_mul passL (mul_guard (mul_ok T _ _) _) (pv 4) (pe_call (ok_q_still T (TL := TL)) (hr.mono (by decide)) rfl T.q_still.g T.q_still.k T.q_still.b .nil passL (pa_cons (fld3 K (pv 4) rfl) (pa_cons (pv 12) pa_nil)))) (pv 4) (nomark _)))))
      (pss_one (ps_ret pe_bl))
      pss_nil)
      (C8.pss_cut (ps_set (i := 13) c_q_law.nd rfl (Or.inl rfl) (GM.pe_mul (mulCT T) (ok_q_Form_mul T (TL := TL)) (hr.mono (by decide)) T.b_mul passL (mul_guard (mul_ok T _ _) _) (pe_call (ok_q_still T (TL := TL)) (hr.mono (by decide)) rfl T.q_still.g T.q_still.k T.q_still.b .nil passL (pa_cons (fld3 K (pv 4) rfl) (pa_cons (fld3 K (pv 6) rfl) pa_nil))) (pe_call (ok_q_still T (TL := TL)) (hr.mono (by decide)) rfl T.q_still.g T.q_still.k T.q_still.b .nil passL (pa_cons (fld3 K (pv 4) rfl) (pa_cons (fld3 K (pv 4) rfl) pa_nil)))))
      (C8.pss_cut (ps_if (PW.pt (pw_or (pt_cmpR (objNe3 K (eqCT (P := P) (w := w) (base := base) (TL := TL) T) (hr.mono (by decide)) pass0) (GM.pe_mul (mulCT T) (ok_q_Form_mul T (TL := TL)) (hr.mono (by decide)) T.b_mul passL (mul_guard (mul_ok T _ _) _) (pe_call (ok_q_still T (TL := TL)) (hr.mono (by decide)) rfl T.q_still.g T.q_still.k T.q_still.b .nil passL (pa_cons (fld3 K (pv 4) rfl) (pa_cons (fld3 K (pv 4) rfl) pa_nil))) (pv 4)) (pv 4) (nomark _)) (pw_or1 (pt_cmpR (ne3 K hr.units) (fld3 K (pv 13) rfl) (pe_call (ok_q_met T (TL := TL)) (hr.mono (by decide)) rfl T.q_met.g T.q_met.k T.q_met.b .nil passL (pa_cons (fld3 K (pv 4) rfl) (pa_cons (fld3 K (pv 6) rfl) pa_nil))) (nomark _)))))
      (pss_one (ps_ret pe_bl))
      pss_nil)
      (C8.pss_cut (ps_set (i := 14) c_q_law.nd rfl (Or.inl rfl) (pe_make T.M (ok_q_Form_init T (TL := TL)) (hr.mono (by decide)) rfl T.gC T.bI .nil passL (pa_cons (fld3 K (pv 4) rfl) (pa_cons (fld3 K (pv 4) rfl) (pa_cons (fld3 K (pv 4) rfl) (pa_cons (fld3 K (pv 4) rfl) (pa_cons (fld3 K (pv 4) rfl) pa_nil)))))))
      (C8.pss_cut (ps_if (pt_cmpR (objNe3 K (eqCT (P := P) (w := w) (base := base) (TL := TL) T) (hr.mono (by decide)) pass0) (GM.pe_mul (mulCT T) (ok_q_Form_mul T (TL := TL)) (hr.mono (by decide)) T.b_mul passL (mul_guard (mul_ok T _ _) _) (pv 14) (pv 5)) (pv 7) (nomark _))
      (pss_one (ps_ret pe_bl))
      pss_nil)
      (C8.pss_cut (ps_if (pt_cmpR (ne3 K hr.units) (pe_ix (ix3 K) (pv 3) pe_int (fun _ _ => rfl)) (pe_ix (ix3 K) (pv 3) pe_int (fun _ _ => rfl)) (nomark _))
      (C8.pss_cut (ps_if (pt_not (pt_val (pe_callB (isT3 K) (by rfl) T.z_isinstance (by decide +kernel) (pa_cons (LamX.pe_lamcall (T := TL) (Ng := N_l_caught) (k := 10) rfl T.l_caught.g T.l_caught.k lkC hcC bC c_l_caught rfl (Or.inl rfl) (caughtK K T.x_GapError.g) Z.TBlaw rfl Z.mlaw Z.ulaw (hr.mono (by decide)) (LamX.lamS_by (sc := defScope S_q_law) (by decide +kernel)) rfl (fun _ _ _ _ _ => rfl) (fun A outer s H E f c' hr => (GM.pe_mul (mulCT T) (ok_q_Form_mul T (TL := TL)) (hr.mono (by decide)) T.b_mul (passes_call (takes_of rfl rfl rfl rfl) (fun _ _ _ _ h => h)) (mul_guard (mul_ok T _ _) _) (pv 4) (pv 4)))) (pa_cons (pe_glob (v := .ref T.x_NotJoined.C) (u := .ref T.x_NotJoined.C) rfl T.x_NotJoined.g rfl) pa_nil)))))
      (pss_one (ps_ret pe_bl))
      pss_nil)
      (pss_one (ps_if (pt_not (pt_val (pe_callB (isT3 K) (by rfl) T.z_isinstance (by decide +kernel) (pa_cons (LamX.pe_lamcall (T := TL) (Ng := N_l_caught) (k := 10) rfl T.l_caught.g T.l_caught.k lkC hcC bC c_l_caught rfl (Or.inl rfl) (caughtK K T.x_GapError.g) Z.TBlaw rfl Z.mlaw Z.ulaw (hr.mono (by decide)) (LamX.lamS_by (sc := defScope S_q_law) (by decide +kernel)) rfl (fun _ _ _ _ _ => rfl) (fun A outer s H E f c' hr => (GM.pe_mul (mulCT T) (ok_q_Form_mul T (TL := TL)) (hr.mono (by decide)) T.b_mul (passes_call (takes_of rfl rfl rfl rfl) (fun _ _ _ _ h => h)) (mul_guard (mul_ok T _ _) _) (pv 5) (pv 4)))) (pa_cons (pe_glob (v := .ref T.x_NotJoined.C) (u := .ref T.x_NotJoined.C) rfl T.x_NotJoined.g rfl) pa_nil)))))
      (pss_one (ps_ret pe_bl))
      pss_nil)))
      pss_nil)
      (C8.pss_cut (ps_set (i := 15) c_q_law.nd rfl (Or.inr rfl) (pe_call (ok_l_pick T (TL := TL)) (hr.mono (by decide)) rfl T.l_pick.g T.l_pick.k T.l_pick.b .nil pass0 (pa_cons (pv 1) (pa_cons (pe_lst (pa_cons pe_int (pa_cons pe_non (pa_cons (pe_ix (ix3 K) (pv 2) pe_int (fun _ _ => rfl)) (pa_cons (pe_lst (pa_cons (pv 4) pa_nil)) pa_nil))))) pa_nil))))
      (pss_one (ps_ret (pe_callB (isT3 K) (by rfl) T.z_isinstance (by decide +kernel) (pa_cons (LamX.pe_lamcall (T := TL) (Ng := N_l_caught) (k := 10) rfl T.l_caught.g T.l_caught.k lkC hcC bC c_l_caught rfl (Or.inl rfl) (caughtK K T.x_GapError.g) Z.TBlaw rfl Z.mlaw Z.ulaw (hr.mono (by decide)) (LamX.lamS_by (sc := defScope S_q_law) (by decide +kernel)) rfl (fun _ _ _ _ _ => rfl) (fun A outer s H E f c' hr => (GM.pe_mul (mulCT T) (ok_q_Form_mul T (TL := TL)) (hr.mono (by decide)) T.b_mul (passes_call (takes_of rfl rfl rfl rfl) (fun _ _ _ _ h => h)) (mul_guard (mul_ok T _ _) _) (pv 4) (pv 15)))) (pa_cons (pe_glob (v := .ref T.x_BadForm.C) (u := .ref T.x_BadForm.C) rfl T.x_BadForm.g rfl) pa_nil))))))))))))))))))))))))
      , ?_⟩
    refine ⟨.ref l, rfl, l, ns, rfl, hS, h63, fun H1 d g c S1 hd0 hg0 hc0 hD => ?_⟩
    have w0 : Wd (amL T TL d g c H1 E).R TL H1 0 := {
      hid := fun a z => by
        obtain ⟨gs, cs, m, z1, z2, z3, r⟩ := hD
        rcases z with z | z | z
        · exact ⟨_, z ▸ z1, fun ps q => by cases q⟩
        · exact ⟨_, z ▸ z2, fun ps q => by cases q⟩
        · exact ⟨_, z ▸ z3, fun ps q => by cases q⟩
      tabs := hT.ext S1
      dr := fun d' g' c' e => by
        cases e
        exact ⟨.inl rfl, .inr (.inl rfl), .inr (.inr rfl), 0, by simp, hD⟩ }
    dsimp only
    refine use_lsG (K := K) (C := T.C) (TL := TL) (E := E) (amL T TL d g c H1 E) roL 0 FL ⟨rfl, rfl, rfl, rfl⟩ (lp_rl rfl rfl ⟨fun _ _ _ _ e => e, fun _ z => z⟩ w0) ⟨?_, ?_, ?_, ?_⟩ ?_
    · exact fun _ _ _ _ q => q.elim
    · exact fun _ _ _ _ q => q.elim
    · exact fun _ _ _ _ q => q.elim
    · intro fr u n v H q gr w r
      subst q
      have r1 : Rp _ _ v (.bool true) := r.1
      cases r1
      exact k _
    have ht := topD_eq
    have hc := capD_eq
    simp [ro0, -V3.forL, -List.mem_cons]
    refine Exists.intro (fun (ρ : Ro) (k : Nat) => k ≤ 200 ∧ ∃ r0 r1 r2 : Fm, ρ = [.no, .fz .dr, .ow [rwD r0, rwD r1, rwD r2], .no, .no, .no, .no, .no, .no, .no, .no, .no, .no, .no, .no, .no, .no] ∧ smF r0 ∧ smF r1 ∧ smF r2) (And.intro ?_ ?_)
    · rw [show upFrom 0 3 = [PyData.int 0, .int 1, .int 2] from rfl]
      refine ⟨few (by omega), ?_⟩
      simp [-List.mem_cons]
      refine ⟨by omega, fun c0 a0 b0 u0 v0 n0 g1 g2 g3 g4 g5 g6 g7 g8 g9 g10 g11 g12 => ⟨by omega, fun c1 a1 b1 u1 v1 n1 h1 h2 h3 h4 h5 h6 h7 h8 h9 h10 h11 h12 => ⟨by omega, fun c2 a2 b2 u2 v2 n2 i1 i2 i3 i4 i5 i6 i7 i8 i9 i10 i11 i12 => ⟨by omega, ?_⟩⟩⟩⟩
      exact ⟨⟨.none, c0, (a0, b0), (u0, v0)⟩, ⟨.none, c1, (a1, b1), (u1, v1)⟩, ⟨.none, c2, (a2, b2), (u2, v2)⟩, ⟨⟨rfl, ⟨rfl, rfl⟩, rfl, rfl⟩, ⟨rfl, ⟨rfl, rfl⟩, rfl, rfl⟩, rfl, ⟨rfl, rfl⟩, rfl, rfl⟩,
        ⟨g1, fun c hc => g2 c.1 c.2 hc, g3, ⟨g4, g5⟩, ⟨g6, g7⟩, ⟨g8, g9⟩, g10, g11⟩, ⟨h1, fun c hc => h2 c.1 c.2 hc, h3, ⟨h4, h5⟩, ⟨h6, h7⟩, ⟨h8, h9⟩, h10, h11⟩, ⟨i1, fun c hc => i2 c.1 c.2 hc, i3, ⟨i4, i5⟩, ⟨i6, i7⟩, ⟨i8, i9⟩, i10, i11⟩⟩
    rintro ρ k1 ⟨hk1, r0, r1, r2, rfl, m0, m1, m2⟩
    simp [-V3.forL, -List.mem_cons]
    refine Exists.intro (fun (ρ : Ro) (k : Nat) => k ≤ 220 ∧ ∃ P0 P1 P2 P3 : V3.D, ρ = [.no, .fz .dr, .ow [rwD r0, rwD r1, rwD r2], .ow [P0, P1, P2, P3], .no, .no, .no, .no, .no, .no, .no, .no, .no, .no, .no, .no, .no] ∧ isPlD P0 ∧ isPlD P1 ∧ isPlD P2 ∧ isPlD P3 ∧ P1 ≠ P0 ∧ P2 ≠ P0) (And.intro ?_ ?_)
    · rw [show upFrom 0 4 = [PyData.int 0, .int 1, .int 2, .int 3] from rfl]
      refine ⟨few (by omega), ?_⟩
      simp [-List.mem_cons]
      refine ⟨by omega, by omega, fun x0 _ _ => ⟨by omega, by omega, fun x1 _ _ => ⟨by omega, by omega, fun x2 _ _ => ⟨by omega, by omega, fun x3 _ _ => ⟨by omega, by omega, fun x4 _ _ => ⟨by omega, by omega, fun x5 _ _ => ⟨by omega, by omega, fun x6 _ _ => ⟨by omega, by omega, fun x7 _ _ => ⟨by omega, ?_⟩⟩⟩⟩⟩⟩⟩⟩⟩
      exact ⟨plD 0 x0 x1, plD 1 x2 x3, plD 2 x4 x5, plD 3 x6 x7, ⟨rfl, rfl, rfl, rfl⟩, ⟨_, _, _, rfl, by decide⟩, ⟨_, _, _, rfl, by decide⟩, ⟨_, _, _, rfl, by decide⟩, ⟨_, _, _, rfl, by decide⟩, by simp, by simp⟩
    rintro ρ k2 ⟨hk2, P0, P1, P2, P3, rfl, p0, p1, p2, p3, p4, p5⟩
    have fpl : ∀ P : V3.D, isPlD P → V3.flat P = true := fun P h => by
      obtain ⟨_, _, _, rfl, _⟩ := h
      rfl
    have f0 := fpl P0 p0
    have f1 := fpl P1 p1
    have f2 := fpl P2 p2
    have f3 := fpl P3 p3
    simp [-V3.forL, -List.mem_cons]
    refine Exists.intro (fun (ρ : Ro) (k : Nat) => k ≤ 240 ∧ ∃ P0 P1 P2 P3 : V3.D, ρ = [.no, .fz .dr, .ow [rwD r0, rwD r1, rwD r2], .ow [P0, P1, P2, P3], .no, .no, .no, .no, .no, .no, .no, .no, .no, .no, .no, .no, .no] ∧ isPlD P0 ∧ isPlD P1 ∧ isPlD P2 ∧ isPlD P3 ∧ (P0 = P1 ∨ (P1 ≠ P0 ∧ P2 ≠ P0))) (And.intro ?_ ?_)
    · refine ⟨by omega, by omega, fun x x0 x1 => ?_⟩
      by_cases hx : x = 0
      · rw [if_pos hx]
        refine ⟨few (by omega), ?_⟩
        rw [show upFrom 0 4 = [PyData.int 0, .int 1, .int 2, .int 3] from rfl]
        simp [-List.mem_cons, f0]
        exact ⟨by omega, P0, P0, P0, P0, ⟨rfl, rfl, rfl, rfl⟩, p0, p0, p0, p0, .inl rfl⟩
      · rw [if_neg hx]
        exact ⟨by omega, P0, P1, P2, P3, rfl, p0, p1, p2, p3, .inr ⟨p4, p5⟩⟩
    rintro ρ k3 ⟨hk3, P0, P1, P2, P3, rfl, p0, p1, p2, p3, p4⟩
    have f0 := fpl P0 p0
    have f1 := fpl P1 p1
    have f2 := fpl P2 p2
    have f3 := fpl P3 p3
    simp [-V3.forL, -List.mem_cons]
    refine Exists.intro (fun (ρ : Ro) (k : Nat) => k ≤ 240 ∧ ∃ F G H : Fm, ρ = [.no, .fz .dr, .ow [rwD r0, rwD r1, rwD r2], .ow [P0, P1, P2, P3], .fz (fmU T.C P0 F), .fz (fmU T.C P1 G), .fz (fmU T.C P2 H), .no, .no, .no, .no, .no, .no, .no, .no, .no, .no] ∧ F = nrm ⟨P1, r0.cs, r0.l, r0.b⟩ ∧ G = nrm ⟨P2, r1.cs, r1.l, r1.b⟩ ∧ H = nrm ⟨P3, r2.cs, r2.l, r2.b⟩) (And.intro ?_ ?_)
    · rw [show upFrom 0 3 = [PyData.int 0, .int 1, .int 2] from rfl]
      refine ⟨few (by omega), ?_⟩
      simp [-List.mem_cons]
      refine askF_of p0 p1 m0.ok (by have := m0.2.2.1; omega) (askF_of p1 p2 m1.ok (by have := m1.2.2.1; omega) (askF_of p2 p3 m2.ok (by have := m2.2.2.1; omega) ⟨hk3, _, _, _, ?_, rfl, rfl, rfl⟩))
      rw [flat_F p0 p1, flat_F p1 p2, flat_F p2 p3]
      rfl
    rintro ρ k4 ⟨hk4, F, G, H, rfl, dF, dG, dH⟩
    have kF : okF F := by
      rw [dF]
      exact (show okF ⟨P1, r0.cs, r0.l, r0.b⟩ from ⟨m0.ok.1, m0.ok.2, m0.ok.3, m0.ok.4⟩).nrm
    have kG : okF G := by
      rw [dG]
      exact (show okF ⟨P2, r1.cs, r1.l, r1.b⟩ from ⟨m1.ok.1, m1.ok.2, m1.ok.3, m1.ok.4⟩).nrm
    have kH : okF H := by
      rw [dH]
      exact (show okF ⟨P3, r2.cs, r2.l, r2.b⟩ from ⟨m2.ok.1, m2.ok.2, m2.ok.3, m2.ok.4⟩).nrm
    have nF : nrm F = F := by
      rw [dF]
      exact nrm_nrm ⟨m0.ok.1, m0.ok.2, m0.ok.3, m0.ok.4⟩
    have lF : F.cs.length ≤ 4 := by
      rw [dF]
      exact m0.2.2.1
    have lG : G.cs.length ≤ 4 := by
      rw [dG]
      exact m1.2.2.1
    have lH : H.cs.length ≤ 4 := by
      rw [dH]
      exact m2.2.2.1
    have eF : F.e = P1 := by rw [dF]; rfl
    have eG : G.e = P2 := by rw [dG]; rfl
    have eH : H.e = P3 := by rw [dH]; rfl
    have qF : isPlD F.e := eF ▸ p1
    have qG : isPlD G.e := eG ▸ p2
    have qH : isPlD H.e := eH ▸ p3
    simp [-V3.forL, -List.mem_cons]
    refine Exists.intro (fun (ρ : Ro) (k : Nat) => k ≤ 240 ∧ ∃ es : List Co, ρ = [.no, .fz .dr, .ow [rwD r0, rwD r1, rwD r2], .ow [P0, P1, P2, P3], .fz (fmU T.C P0 F), .fz (fmU T.C P1 G), .fz (fmU T.C P2 H), .fz (fmU T.C P0 (mulF F G es)), .no, .no, .no, .no, .no, .no, .no, .no, .no] ∧ mulS F G es) (And.intro ?_ ?_)
    · refine ⟨P0, F, _, ⟨rfl, rfl⟩, P1, G, rfl, p0, p1, qF, qG, kF, kG, by omega, eF, fun _ es he => ⟨hk4, es, ?_, he⟩⟩
      rw [flat_F p0 (show isPlD (mulF F G es).e from qG)]
      rfl
    rintro ρ k5 ⟨hk5, es, rfl, ms⟩
    have kB := mulF_ok kG ms
    have lB : (mulF F G es).cs.length ≤ 8 := by
      have := ms.2.2.1
      show es.length ≤ 8
      omega
    simp [-V3.forL, -List.mem_cons]
    refine Exists.intro (fun (ρ : Ro) (k : Nat) => k ≤ 240 ∧ ρ = [.no, .fz .dr, .ow [rwD r0, rwD r1, rwD r2], .ow [P0, P1, P2, P3], .fz (fmU T.C P0 F), .fz (fmU T.C P1 G), .fz (fmU T.C P2 H), .fz (fmU T.C P0 (mulF F G es)), .no, .no, .no, .no, .no, .no, .no, .no, .no]) (And.intro ?_ ?_)
    · refine ne_plD p0 p0 (fun _ => ⟨rfl, ?_⟩) fun z => absurd rfl z
      rw [if_neg (show ¬ boolU (U.d (.bool false)) = true from Bool.false_ne_true)]
      refine ne_plD (show isPlD (mulF F G es).e from qG) qG (fun _ => ⟨rfl, ?_⟩) fun z => absurd rfl z
      rw [if_neg (show ¬ boolU (U.d (.bool false)) = true from Bool.false_ne_true)]
      exact ⟨hk5, rfl⟩
    rintro ρ k6 ⟨hk6, rfl⟩
    simp [-V3.forL, -List.mem_cons]
    refine Exists.intro (fun (ρ : Ro) (k : Nat) => k ≤ 240 ∧ ∃ es2 : List Co, ρ = [.no, .fz .dr, .ow [rwD r0, rwD r1, rwD r2], .ow [P0, P1, P2, P3], .fz (fmU T.C P0 F), .fz (fmU T.C P1 G), .fz (fmU T.C P2 H), .fz (fmU T.C P0 (mulF F G es)), .fz (fmU T.C P0 (mulF (mulF F G es) H es2)), .no, .no, .no, .no, .no, .no, .no, .no] ∧ mulS (mulF F G es) H es2) (And.intro ?_ ?_)
    · refine ⟨P0, mulF F G es, _, ⟨rfl, rfl⟩, P2, H, rfl, p0, p2, qG, qH, kB, kH, by omega, eG, fun _ es2 he => ⟨hk6, es2, ?_, he⟩⟩
      rw [flat_F p0 (show isPlD (mulF (mulF F G es) H es2).e from qH)]
      rfl
    rintro ρ k7 ⟨hk7, es2, rfl, ms2⟩
    simp [-V3.forL, -List.mem_cons]
    refine Exists.intro (fun (ρ : Ro) (k : Nat) => k ≤ 240 ∧ ρ = [.no, .fz .dr, .ow [rwD r0, rwD r1, rwD r2], .ow [P0, P1, P2, P3], .fz (fmU T.C P0 F), .fz (fmU T.C P1 G), .fz (fmU T.C P2 H), .fz (fmU T.C P0 (mulF F G es)), .fz (fmU T.C P0 (mulF (mulF F G es) H es2)), .no, .no, .no, .no, .no, .no, .no, .no]) (And.intro ?_ ?_)
    · refine ⟨G.cs, F.l.1, F.l.2, F.b.1, F.b.2, ⟨rfl, ⟨rfl, rfl⟩, rfl, rfl⟩, by omega, kG.can, fun a b m => kG.pos _ m, kF.l1, kF.l2, fun vs v1 v2 v3 v4 => ?_⟩
      refine ⟨F.cs, vs, ⟨rfl, rfl⟩, by omega, by omega, kF.can, v1, fun a b m => kF.pos _ m, v2, fun fs w1 w2 w3 w4 => ⟨shaped_cT _, shaped_cT _, ?_⟩⟩
      have ee : (mulF F G es).cs = fs := mul_met ms v3 w1 (fun c hc => w2 c.1 c.2 hc) w3
      rw [if_pos (by rw [eqv_cTs, ee]; exact decide_eq_true rfl)]
      refine ⟨P1, G, _, ⟨rfl, rfl⟩, P2, H, rfl, p1, p2, qG, qH, kG, kH, by omega, eG, fun _ es3 m3 => ?_⟩
      have kD := mulF_ok kH m3
      have lD : (mulF G H es3).cs.length ≤ 8 := by
        have := m3.2.2.1
        show es3.length ≤ 8
        omega
      refine ⟨P0, F, _, ⟨rfl, rfl⟩, P1, mulF G H es3, rfl, p0, p1, qF, qH, kF, kD, by omega, eF, fun _ es4 m4 => ?_⟩
      have eas := mul_assoc kF kG kH ms ms2 m3 m4
      have qW : isPlD (mulF (mulF F G es) H es2).e := qH
      refine ⟨P0, mulF (mulF F G es) H es2, _, ⟨rfl, rfl⟩, shaped_plD p0, tup_plD p0, shaped_plD qW, tup_plD qW, .inr ⟨P0, _, rfl, shaped_plD p0, tup_plD p0, shaped_plD (eas ▸ qW), tup_plD (eas ▸ qW), ?_⟩⟩
      rw [if_pos ⟨(eqv_plD p0 p0).mpr rfl, (eqv_plD qW (eas ▸ qW)).mpr (by rw [eas]), by rw [eas], by rw [eas], by rw [eas]⟩]
      exact ⟨hk7, rfl⟩
    rintro ρ k8 ⟨hk8, rfl⟩
    simp [-V3.forL, -List.mem_cons]
    refine Exists.intro (fun (ρ : Ro) (k : Nat) => k ≤ 700 ∧ ∃ L : List (Int × Int), ρ = [.no, .fz .dr, .ow [rwD r0, rwD r1, rwD r2], .ow [P0, P1, P2, P3], .fz (fmU T.C P0 F), .fz (fmU T.C P1 G), .fz (fmU T.C P2 H), .fz (fmU T.C P0 (mulF F G es)), .fz (fmU T.C P0 (mulF (mulF F G es) H es2)), .ow (L.map pD), .no, .no, .no, .no, .no, .no, .no] ∧ L.length ≤ 40 ∧ ∀ p ∈ L, 1 ≤ p.1 ∧ 1 ≤ p.2) (And.intro ?_ ?_)
    · refine ⟨5, rfl, by omega, few (by omega), ?_⟩
      rw [show upFrom 0 12 = [PyData.int 0, .int 1, .int 2, .int 3, .int 4, .int 5, .int 6, .int 7, .int 8, .int 9, .int 10, .int 11] from rfl]
      refine lcL_drawN (fun y : V3.D => ∃ p : Int × Int, y = pD p ∧ 1 ≤ p.1 ∧ 1 ≤ p.2) 30 (k8 + 360) _ _ _ (by simp) (fun y _ m Kt Ks h1 hK => ?_) fun xs m hl hm hx => ?_
      · simp
        refine ⟨Nat.le_of_lt (few (by omega)), F.cs ++ G.cs, by rw [List.map_append], by rw [List.length_append]; omega, by omega, fun a b n' a1 b1 hn' => hK _ _ ⟨(a, b), rfl, a1, b1⟩ (by omega)⟩
      · obtain ⟨ps, rfl, hps⟩ := all_map hx
        have l12 : ps.length = 12 := by simpa using hl
        have l25 : (bodL 5).length = 25 := by rfl
        refine ⟨Nat.le_of_lt (few (by simp; omega)), ?_⟩
        rw [← List.map_append, if_pos (flat_pDs _)]
        refine ⟨by omega, bodL 5 ++ ps, rfl, by rw [List.length_append]; omega, fun p hp => ?_⟩
        rcases List.mem_append.mp hp with z | z
        · exact bodL_pos z
        · exact hps p z
    rintro ρ k9 ⟨hk9, L, rfl, lL, pL⟩
    simp [-V3.forL, -List.mem_cons]
    refine ⟨Nat.le_of_lt (few (by omega)), ?_⟩
    rw [show L.map pD ++ [PyData.tuple [PyData.int 9999, PyData.int 9999], PyData.tuple [PyData.int 1, PyData.int 9999], PyData.tuple [PyData.int 9999, PyData.int 1]] = (L ++ [((9999 : Int), (9999 : Int)), (1, 9999), (9999, 1)]).map pD from by simp]
    have sF : ∀ p : Int × Int, 1 ≤ p.1 → 1 ≤ p.2 → stepO F p = stepO r0 p := fun p h1 h2 => by
      rw [dF]
      exact stepO_nrm (f := ⟨P1, r0.cs, r0.l, r0.b⟩) m0.1 h1 h2
    have sG : ∀ p : Int × Int, 1 ≤ p.1 → 1 ≤ p.2 → stepO G p = stepO r1 p := fun p h1 h2 => by
      rw [dG]
      exact stepO_nrm (f := ⟨P2, r1.cs, r1.l, r1.b⟩) m1.1 h1 h2
    have sH : ∀ p : Int × Int, 1 ≤ p.1 → 1 ≤ p.2 → stepO H p = stepO r2 p := fun p h1 h2 => by
      rw [dH]
      exact stepO_nrm (f := ⟨P3, r2.cs, r2.l, r2.b⟩) m2.1 h1 h2
    have sB : ∀ p : Int × Int, 1 ≤ p.1 → 1 ≤ p.2 → stepO (mulF F G es) p = (stepO r0 p).bind (stepO r1) := fun p h1 h2 => by
      rw [stepO_mul ms h1 h2, sF p h1 h2]
      cases e : stepO r0 p with
      | none => rfl
      | some q => exact sG q (stepO_pos m0.ok e).1 (stepO_pos m0.ok e).2
    have sW : ∀ p : Int × Int, 1 ≤ p.1 → 1 ≤ p.2 → stepO (mulF (mulF F G es) H es2) p = ((stepO r0 p).bind (stepO r1)).bind (stepO r2) := fun p h1 h2 => by
      rw [stepO_mul ms2 h1 h2, sB p h1 h2]
      cases e : (stepO r0 p).bind (stepO r1) with
      | none => rfl
      | some q => exact sH q (stepO_pos kB ((sB p h1 h2).trans e)).1 (stepO_pos kB ((sB p h1 h2).trans e)).2
    have pM : ∀ p ∈ L ++ [((9999 : Int), (9999 : Int)), (1, 9999), (9999, 1)], 1 ≤ p.1 ∧ 1 ≤ p.2 := fun p hp => by
      rcases List.mem_append.mp hp with z | z
      · exact pL p z
      · simp only [List.mem_cons, List.not_mem_nil, or_false] at z
        rcases z with rfl | rfl | rfl <;> decide
    refine forL_mapW pD (fun done left ρ m => m = k9 ∧ (∀ p ∈ left, 1 ≤ p.1 ∧ 1 ≤ p.2) ∧ ∃ z10 z11 : Sl, ρ = [.no, .fz .dr, .ow [rwD r0, rwD r1, rwD r2], .ow [P0, P1, P2, P3], .fz (fmU T.C P0 F), .fz (fmU T.C P1 G), .fz (fmU T.C P2 H), .fz (fmU T.C P0 (mulF F G es)), .fz (fmU T.C P0 (mulF (mulF F G es) H es2)), .fz (.d (.list (L.map pD))), z10, z11, .no, .no, .no, .no, .no]) _ [] _ _ ?_ ?_ ⟨rfl, pM, _, _, rfl⟩
    rotate_left
    · rintro done p left ρ m GG hG ⟨rfl, hp, z10, z11, rfl⟩
      obtain ⟨a1, b1⟩ := hp p List.mem_cons_self
      simp
      refine Exists.intro (fun (ρ : Ro) (k : Nat) => k = m ∧ ρ = [.no, .fz .dr, .ow [rwD r0, rwD r1, rwD r2], .ow [P0, P1, P2, P3], .fz (fmU T.C P0 F), .fz (fmU T.C P1 G), .fz (fmU T.C P2 H), .fz (fmU T.C P0 (mulF F G es)), .fz (fmU T.C P0 (mulF (mulF F G es) H es2)), .fz (.d (.list (L.map pD))), .fz (.d (pD p)), .fz (.d (optD (stepO r0 p))), .no, .no, .no, .no, .no]) (And.intro ?_ ?_)
      · refine ⟨r0.cs, p.1, p.2, ⟨rfl, rfl, rfl⟩, by have := m0.2.2.1; omega, ?_⟩
        by_cases e1 : hasB r0.cs (some p.1, some p.2) = true
        · rw [if_pos e1]
          refine ⟨r0.l.1, r0.l.2, r0.b.1, r0.b.2, p.1, p.2, ⟨⟨rfl, rfl⟩, ⟨rfl, rfl⟩, rfl, rfl⟩, rfl, ?_⟩
          rw [show stepO r0 p = some (behI r0.l r0.b p) from if_pos e1]
        · rw [if_neg e1]
          refine ⟨rfl, ?_⟩
          rw [show stepO r0 p = none from if_neg e1]
      rintro ρ ka ⟨rfl, rfl⟩
      simp
      refine Exists.intro (fun (ρ : Ro) (k : Nat) => k = ka ∧ ρ = [.no, .fz .dr, .ow [rwD r0, rwD r1, rwD r2], .ow [P0, P1, P2, P3], .fz (fmU T.C P0 F), .fz (fmU T.C P1 G), .fz (fmU T.C P2 H), .fz (fmU T.C P0 (mulF F G es)), .fz (fmU T.C P0 (mulF (mulF F G es) H es2)), .fz (.d (.list (L.map pD))), .fz (.d (pD p)), .fz (.d (optD ((stepO r0 p).bind (stepO r1)))), .no, .no, .no, .no, .no]) (And.intro ?_ ?_)
      · cases e1 : stepO r0 p with
        | none =>
          simp
        | some p1 =>
          obtain ⟨a2, b2⟩ := stepO_pos m0.ok e1
          simp
          refine ⟨r1.cs, p1.1, p1.2, ⟨rfl, rfl, rfl⟩, by have := m1.2.2.1; omega, ?_⟩
          by_cases e2 : hasB r1.cs (some p1.1, some p1.2) = true
          · rw [if_pos e2]
            refine ⟨r1.l.1, r1.l.2, r1.b.1, r1.b.2, p1.1, p1.2, ⟨⟨rfl, rfl⟩, ⟨rfl, rfl⟩, rfl, rfl⟩, ?_⟩
            rw [show stepO r1 p1 = some (behI r1.l r1.b p1) from if_pos e2]
          · rw [if_neg e2]
            rw [show stepO r1 p1 = none from if_neg e2]
      rintro ρ kb ⟨rfl, rfl⟩
      simp
      refine Exists.intro (fun (ρ : Ro) (k : Nat) => k = kb ∧ ρ = [.no, .fz .dr, .ow [rwD r0, rwD r1, rwD r2], .ow [P0, P1, P2, P3], .fz (fmU T.C P0 F), .fz (fmU T.C P1 G), .fz (fmU T.C P2 H), .fz (fmU T.C P0 (mulF F G es)), .fz (fmU T.C P0 (mulF (mulF F G es) H es2)), .fz (.d (.list (L.map pD))), .fz (.d (pD p)), .fz (.d (optD ((stepO r0 p).bind (stepO r1)))), .no, .no, .no, .no, .no]) (And.intro ?_ ?_)
      · refine ⟨_, _, ⟨rfl, rfl⟩, P0, mulF F G es, rfl, p.1, p.2, rfl, a1, b1, by omega, ?_⟩
        rw [show (if hasI (mulF F G es) (p.1, p.2) = true then pr (behI (mulF F G es).l (mulF F G es).b (p.1, p.2)).1 (behI (mulF F G es).l (mulF F G es).b (p.1, p.2)).2 else PyData.none) = optD (stepO (mulF F G es) p) from end_opt _ _]
        refine eqn_opt (sB p a1 b1) ⟨rfl, ?_⟩
        rw [if_neg (show ¬ boolU (U.d (.bool false)) = true from Bool.false_ne_true)]
        exact ⟨rfl, rfl⟩
      rintro ρ kc ⟨rfl, rfl⟩
      simp
      refine Exists.intro (fun (ρ : Ro) (k : Nat) => k = kc ∧ ρ = [.no, .fz .dr, .ow [rwD r0, rwD r1, rwD r2], .ow [P0, P1, P2, P3], .fz (fmU T.C P0 F), .fz (fmU T.C P1 G), .fz (fmU T.C P2 H), .fz (fmU T.C P0 (mulF F G es)), .fz (fmU T.C P0 (mulF (mulF F G es) H es2)), .fz (.d (.list (L.map pD))), .fz (.d (pD p)), .fz (.d (optD (((stepO r0 p).bind (stepO r1)).bind (stepO r2)))), .no, .no, .no, .no, .no]) (And.intro ?_ ?_)
      · cases e1 : (stepO r0 p).bind (stepO r1) with
        | none =>
          simp
        | some p1 =>
          obtain ⟨a2, b2⟩ := stepO_pos kB ((sB p a1 b1).trans e1)
          simp
          refine ⟨r2.cs, p1.1, p1.2, ⟨rfl, rfl, rfl⟩, by have := m2.2.2.1; omega, ?_⟩
          by_cases e2 : hasB r2.cs (some p1.1, some p1.2) = true
          · rw [if_pos e2]
            refine ⟨r2.l.1, r2.l.2, r2.b.1, r2.b.2, p1.1, p1.2, ⟨⟨rfl, rfl⟩, ⟨rfl, rfl⟩, rfl, rfl⟩, ?_⟩
            rw [show stepO r2 p1 = some (behI r2.l r2.b p1) from if_pos e2]
          · rw [if_neg e2]
            rw [show stepO r2 p1 = none from if_neg e2]
      rintro ρ kd ⟨rfl, rfl⟩
      simp
      refine ⟨_, _, ⟨rfl, rfl⟩, P0, mulF (mulF F G es) H es2, rfl, p.1, p.2, rfl, a1, b1, by have := ms2.2.2.1; show es2.length ≤ 300; omega, ?_⟩
      rw [show (if hasI (mulF (mulF F G es) H es2) (p.1, p.2) = true then pr (behI (mulF (mulF F G es) H es2).l (mulF (mulF F G es) H es2).b (p.1, p.2)).1 (behI (mulF (mulF F G es) H es2).l (mulF (mulF F G es) H es2).b (p.1, p.2)).2 else PyData.none) = optD (stepO (mulF (mulF F G es) H es2) p) from end_opt _ _]
      refine eqn_opt (sW p a1 b1) ⟨rfl, ?_⟩
      rw [if_neg (show ¬ boolU (U.d (.bool false)) = true from Bool.false_ne_true)]
      exact hG _ _ ⟨rfl, fun q hq => hp q (List.mem_cons_of_mem _ hq), _, _, rfl⟩
    rintro done ρ k10 ⟨rfl, _, z10, z11, rfl⟩
    simp [-V3.forL, -List.mem_cons]
    refine Exists.intro (fun (ρ : Ro) (k : Nat) => k ≤ 700 ∧ ρ = [.no, .fz .dr, .ow [rwD r0, rwD r1, rwD r2], .ow [P0, P1, P2, P3], .fz (fmU T.C P0 F), .fz (fmU T.C P1 G), .fz (fmU T.C P2 H), .fz (fmU T.C P0 (mulF F G es)), .fz (fmU T.C P0 (mulF (mulF F G es) H es2)), .fz (.d (.list (L.map pD))), z10, z11, .fz (.d (.tuple [cD (none, none)])), .no, .no, .no, .no]) (And.intro ?_ ?_)
    · exact ⟨hk9, rfl⟩
    rintro ρ k10 ⟨hk11, rfl⟩
    have cA : Can [((none : Option Int), (none : Option Int))] := List.pairwise_singleton _ _
    have pA : ∀ c ∈ [((none : Option Int), (none : Option Int))], posC c := fun c hc => by
      rw [List.mem_singleton.mp hc]
      exact ⟨(fun k e => by cases e), (fun k e => by cases e)⟩
    obtain ⟨m0', x0', y0', eP0, z0'⟩ := id p0
    obtain ⟨m1', x1', y1', eP1, z1'⟩ := id p1
    have eU1 : ∀ cs : List Co, plU T.C m1' x1' y1' cs (1, 1) (0, 0) = fmU T.C F.e (stillF F.e cs) := fun cs => by rw [eF, eP1]
    simp [-V3.forL, -List.mem_cons]
    refine Exists.intro (fun (ρ : Ro) (k : Nat) => k ≤ 700 ∧ ρ = [.no, .fz .dr, .ow [rwD r0, rwD r1, rwD r2], .ow [P0, P1, P2, P3], .fz (fmU T.C P0 F), .fz (fmU T.C P1 G), .fz (fmU T.C P2 H), .fz (fmU T.C P0 (mulF F G es)), .fz (fmU T.C P0 (mulF (mulF F G es) H es2)), .fz (.d (.list (L.map pD))), z10, z11, .fz (.d (.tuple [cD (none, none)])), .no, .no, .no, .no]) (And.intro ?_ ?_)
    · refine ⟨P0, _, ⟨rfl, rfl⟩, plOk_plD p0, m0', x0', y0', eP0, [(none, none)], rfl, z0', cA, fun a b m => pA _ m, by decide, ?_⟩
      rw [← eP0]
      refine ⟨P0, stillF P0 [(none, none)], _, ⟨rfl, rfl⟩, P0, F, rfl, p0, p0, p0, qF, (still_ok cA pA).nrm, kF, by show 1 + F.cs.length ≤ 300; omega, rfl, fun _ es1 h1 => ?_⟩
      rw [still_mul cA pA kF nF (fun x y _ _ _ => held_all x y) h1]
      refine ⟨P0, F, _, ⟨rfl, rfl⟩, shaped_plD p0, tup_plD p0, shaped_plD qF, tup_plD qF, .inr ⟨P0, F, rfl, shaped_plD p0, tup_plD p0, shaped_plD qF, tup_plD qF, ?_⟩⟩
      rw [if_pos ⟨(eqv_plD p0 p0).mpr rfl, (eqv_plD qF qF).mpr rfl, rfl, rfl, rfl⟩]
      refine ⟨F.e, _, ⟨rfl, rfl⟩, plOk_plD qF, m1', x1', y1', eF.trans eP1, [(none, none)], rfl, z1', cA, fun a b m => pA _ m, by decide, ?_⟩
      rw [eU1]
      refine ⟨P0, F, _, ⟨rfl, rfl⟩, F.e, stillF F.e [(none, none)], rfl, p0, qF, qF, qF, kF, (still_ok cA pA).nrm, by show F.cs.length + 1 ≤ 300; omega, rfl, fun _ es3 h3 => ?_⟩
      rw [mul_still kF nF h3]
      refine ⟨P0, F, _, ⟨rfl, rfl⟩, shaped_plD p0, tup_plD p0, shaped_plD qF, tup_plD qF, .inr ⟨P0, F, rfl, shaped_plD p0, tup_plD p0, shaped_plD qF, tup_plD qF, ?_⟩⟩
      rw [if_pos ⟨(eqv_plD p0 p0).mpr rfl, (eqv_plD qF qF).mpr rfl, rfl, rfl, rfl⟩]
      exact ⟨hk11, rfl⟩
    rintro ρ k11 ⟨hk12, rfl⟩
    simp [-V3.forL, -List.mem_cons]
    refine Exists.intro (fun (ρ : Ro) (k : Nat) => k ≤ 700 ∧ ∃ es5 : List Co, ρ = [.no, .fz .dr, .ow [rwD r0, rwD r1, rwD r2], .ow [P0, P1, P2, P3], .fz (fmU T.C P0 F), .fz (fmU T.C P1 G), .fz (fmU T.C P2 H), .fz (fmU T.C P0 (mulF F G es)), .fz (fmU T.C P0 (mulF (mulF F G es) H es2)), .fz (.d (.list (L.map pD))), z10, z11, .fz (.d (.tuple [cD (none, none)])), .fz (fmU T.C F.e (mulF (stillF F.e H.cs) (stillF F.e F.cs) es5)), .no, .no, .no] ∧ mulS (stillF F.e H.cs) (stillF F.e F.cs) es5) (And.intro ?_ ?_)
    · refine ⟨F.e, _, ⟨rfl, rfl⟩, plOk_plD qF, m1', x1', y1', eF.trans eP1, H.cs, rfl, z1', kH.can, fun a b m => kH.pos _ m, by omega, F.e, _, ⟨rfl, rfl⟩, plOk_plD qF, m1', x1', y1', eF.trans eP1, F.cs, rfl, z1', kF.can, fun a b m => kF.pos _ m, by omega, ?_⟩
      rw [eU1, ← eP1, ← eF]
      refine ⟨F.e, stillF F.e H.cs, _, ⟨rfl, rfl⟩, F.e, stillF F.e F.cs, rfl, qF, qF, qF, qF, (still_ok kH.can kH.pos).nrm, (still_ok kF.can kF.pos).nrm, by show H.cs.length + F.cs.length ≤ 300; omega, rfl, fun _ es5 h5 => ⟨hk12, es5, ?_, h5⟩⟩
      rw [flat_F qF (show isPlD (mulF (stillF F.e H.cs) (stillF F.e F.cs) es5).e from qF)]
      rfl
    rintro ρ k12 ⟨hk13, es5, rfl, ms5⟩
    simp [-V3.forL, -List.mem_cons]
    refine Exists.intro (fun (ρ : Ro) (k : Nat) => k ≤ 700 ∧ ρ = [.no, .fz .dr, .ow [rwD r0, rwD r1, rwD r2], .ow [P0, P1, P2, P3], .fz (fmU T.C P0 F), .fz (fmU T.C P1 G), .fz (fmU T.C P2 H), .fz (fmU T.C P0 (mulF F G es)), .fz (fmU T.C P0 (mulF (mulF F G es) H es2)), .fz (.d (.list (L.map pD))), z10, z11, .fz (.d (.tuple [cD (none, none)])), .fz (fmU T.C F.e (mulF (stillF F.e H.cs) (stillF F.e F.cs) es5)), .no, .no, .no]) (And.intro ?_ ?_)
    · refine ⟨P0, _, ⟨rfl, rfl⟩, plOk_plD p0, m0', x0', y0', eP0, F.cs, rfl, z0', kF.can, fun a b m => kF.pos _ m, by omega, ?_⟩
      rw [← eP0]
      refine ⟨P0, stillF P0 F.cs, _, ⟨rfl, rfl⟩, P0, F, rfl, p0, p0, p0, qF, (still_ok kF.can kF.pos).nrm, kF, by show F.cs.length + F.cs.length ≤ 300; omega, rfl, fun _ es1 h1 => ?_⟩
      rw [still_mul kF.can kF.pos kF nF (fun x y _ _ h => h) h1]
      refine ⟨P0, F, _, ⟨rfl, rfl⟩, shaped_plD p0, tup_plD p0, shaped_plD qF, tup_plD qF, .inr ⟨P0, F, rfl, shaped_plD p0, tup_plD p0, shaped_plD qF, tup_plD qF, ?_⟩⟩
      rw [if_pos ⟨(eqv_plD p0 p0).mpr rfl, (eqv_plD qF qF).mpr rfl, rfl, rfl, rfl⟩]
      refine ⟨F.cs, H.cs, ⟨rfl, rfl⟩, by omega, by omega, kF.can, kH.can, fun a b m => kF.pos _ m, fun a b m => kH.pos _ m, fun fs w1 w2 w3 w4 => ⟨shaped_cT _, shaped_cT _, ?_⟩⟩
      have ee : es5 = fs := still_met kH.can kH.pos kF.can kF.pos ms5 w1 (fun c hc => w2 c.1 c.2 hc) w3
      rw [if_pos (show PyData.eqv (.tuple ((mulF (stillF F.e H.cs) (stillF F.e F.cs) es5).cs.map cD)) (.tuple (fs.map cD)) = true by rw [eqv_cTs]; exact decide_eq_true ee)]
      exact ⟨hk13, rfl⟩
    rintro ρ k13 ⟨hk14, rfl⟩
    simp [-V3.forL, -List.mem_cons]
    refine Exists.intro (fun (ρ : Ro) (k : Nat) => k ≤ 700 ∧ ρ = [.no, .fz .dr, .ow [rwD r0, rwD r1, rwD r2], .ow [P0, P1, P2, P3], .fz (fmU T.C P0 F), .fz (fmU T.C P1 G), .fz (fmU T.C P2 H), .fz (fmU T.C P0 (mulF F G es)), .fz (fmU T.C P0 (mulF (mulF F G es) H es2)), .fz (.d (.list (L.map pD))), z10, z11, .fz (.d (.tuple [cD (none, none)])), .fz (fmU T.C F.e (mulF (stillF F.e H.cs) (stillF F.e F.cs) es5)), .fz (fmU T.C P0 F), .no, .no]) (And.intro ?_ ?_)
    · refine askF_of p0 qF kF (by omega) ⟨hk14, ?_⟩
      rw [flat_F p0 qF]
      rw [show fldF P0 F.e F.cs (nLw F.cs F.l F.b) (nBy F.cs F.l F.b) = fldF P0 F.e F.cs F.l F.b from congrArg (fun g : Fm => fldF P0 g.e g.cs g.l g.b) nF]
      rfl
    rintro ρ k14 ⟨hk15, rfl⟩
    simp [-V3.forL, -List.mem_cons]
    refine Exists.intro (fun (ρ : Ro) (k : Nat) => k ≤ 700 ∧ ρ = [.no, .fz .dr, .ow [rwD r0, rwD r1, rwD r2], .ow [P0, P1, P2, P3], .fz (fmU T.C P0 F), .fz (fmU T.C P1 G), .fz (fmU T.C P2 H), .fz (fmU T.C P0 (mulF F G es)), .fz (fmU T.C P0 (mulF (mulF F G es) H es2)), .fz (.d (.list (L.map pD))), z10, z11, .fz (.d (.tuple [cD (none, none)])), .fz (fmU T.C F.e (mulF (stillF F.e H.cs) (stillF F.e F.cs) es5)), .fz (fmU T.C P0 F), .no, .no]) (And.intro ?_ ?_)
    · refine ⟨P0, F, _, ⟨rfl, rfl⟩, P1, G, rfl, p0, p1, qF, qG, kF, kG, by omega, eF, fun _ es6 h6 => ?_⟩
      rw [mul_uniq h6 ms]
      have qB : isPlD (mulF F G es).e := qG
      refine ⟨P0, mulF F G es, _, ⟨rfl, rfl⟩, shaped_plD p0, tup_plD p0, shaped_plD qB, tup_plD qB, .inr ⟨P0, mulF F G es, rfl, shaped_plD p0, tup_plD p0, shaped_plD qB, tup_plD qB, ?_⟩⟩
      rw [if_pos ⟨(eqv_plD p0 p0).mpr rfl, (eqv_plD qB qB).mpr rfl, rfl, rfl, rfl⟩]
      exact ⟨hk15, rfl⟩
    rintro ρ k15 ⟨hk16, rfl⟩
    simp [-V3.forL, -List.mem_cons]
    refine Exists.intro (fun (ρ : Ro) (k : Nat) => k ≤ 700 ∧ ρ = [.no, .fz .dr, .ow [rwD r0, rwD r1, rwD r2], .ow [P0, P1, P2, P3], .fz (fmU T.C P0 F), .fz (fmU T.C P1 G), .fz (fmU T.C P2 H), .fz (fmU T.C P0 (mulF F G es)), .fz (fmU T.C P0 (mulF (mulF F G es) H es2)), .fz (.d (.list (L.map pD))), z10, z11, .fz (.d (.tuple [cD (none, none)])), .fz (fmU T.C F.e (mulF (stillF F.e H.cs) (stillF F.e F.cs) es5)), .fz (fmU T.C P0 F), .no, .no]) (And.intro ?_ ?_)
    · refine ne_plD p0 p1 (fun _ => ⟨rfl, ?_⟩) fun ne => ⟨rfl, ?_⟩
      · rw [if_neg (show ¬ boolU (U.d (.bool false)) = true from Bool.false_ne_true)]
        exact ⟨hk16, rfl⟩
      · rw [if_pos (show boolU (U.d (.bool true)) = true from rfl)]
        have p5 : P1 ≠ P0 ∧ P2 ≠ P0 := by
          rcases p4 with z | z
          · exact absurd z ne
          · exact z
        refine Exists.intro (fun (ρ : Ro) (k : Nat) => k ≤ 700 ∧ ρ = [.no, .fz .dr, .ow [rwD r0, rwD r1, rwD r2], .ow [P0, P1, P2, P3], .fz (fmU T.C P0 F), .fz (fmU T.C P1 G), .fz (fmU T.C P2 H), .fz (fmU T.C P0 (mulF F G es)), .fz (fmU T.C P0 (mulF (mulF F G es) H es2)), .fz (.d (.list (L.map pD))), z10, z11, .fz (.d (.tuple [cD (none, none)])), .fz (fmU T.C F.e (mulF (stillF F.e H.cs) (stillF F.e F.cs) es5)), .fz (fmU T.C P0 F), .no, .no]) (And.intro ?_ ?_)
        · exact ⟨P0, F, _, ⟨rfl, rfl⟩, .inl ⟨P0, F, rfl, p0, p0, qF, qF, kF, kF, by omega, fun _ => ⟨hk16, rfl⟩, fun z => absurd (eF.symm.trans z) p5.1⟩⟩
        rintro ρ kx ⟨hkx, rfl⟩
        simp
        exact ⟨P1, G, _, ⟨rfl, rfl⟩, .inl ⟨P0, F, rfl, p1, p0, qG, qF, kG, kF, by omega, fun _ => hkx, fun z => absurd (eG.symm.trans z) p5.2⟩⟩
    rintro ρ k16 ⟨hk17, rfl⟩
    simp [-V3.forL, -List.mem_cons]
    refine Exists.intro (fun (ρ : Ro) (k : Nat) => k ≤ 701 ∧ ∃ (z2 z3 : Sl) (bad : V3.D), ρ = [.no, .fz .dr, z2, z3, .fz (fmU T.C P0 F), .fz (fmU T.C P1 G), .fz (fmU T.C P2 H), .fz (fmU T.C P0 (mulF F G es)), .fz (fmU T.C P0 (mulF (mulF F G es) H es2)), .fz (.d (.list (L.map pD))), z10, z11, .fz (.d (.tuple [cD (none, none)])), .fz (fmU T.C F.e (mulF (stillF F.e H.cs) (stillF F.e F.cs) es5)), .fz (fmU T.C P0 F), .fz (.d bad), .no] ∧ (bad = .int 3 ∨ bad = .none ∨ bad = rwD r1 ∨ bad = .list [fmJ T.C P0 F])) (And.intro ?_ ?_)
    · refine ⟨by omega, fun y hy => ?_⟩
      have hb : y = .int 3 ∨ y = .none ∨ y = rwD r1 ∨ y = .list [fmJ T.C P0 F] := by
        simp only [List.mem_cons, List.not_mem_nil, or_false] at hy
        exact hy
      by_cases hf : V3.flat y = true
      · rw [if_pos hf]
        exact ⟨by omega, _, _, y, rfl, hb⟩
      · rw [if_neg hf]
        exact ⟨by omega, _, _, y, rfl, hb⟩
    rintro ρ k17 ⟨hk18, z2, z3, bad, rfl, hb⟩
    simp
    refine ⟨P0, F, _, ⟨rfl, rfl⟩, .inr ⟨?_, rfl⟩⟩
    rcases hb with rfl | rfl | rfl | rfl
    · exact .inr (.inl ⟨_, rfl⟩)
    · exact .inl rfl
    · exact .inr (.inr (.inr ⟨_, rfl⟩))
    · exact .inr (.inr (.inl ⟨_, rfl⟩))
end
end G21
set_option Elab.async false
set_option linter.all false
set_option maxRecDepth 100000
set_option maxHeartbeats 4000000
namespace G21
open PySem PySem.Spec PyProof.Rows L2
theorem law_at {l : PySem.W.OpenLaw} {w : World} {K : PySem.W.Frag} {h : Heap} {mg : Str → Option Value} {fa : Addr} (X : K.In h) (G : h.Ns mainGlobals mg) (hfa : mg "law" = some (.ref fa))
    {C C_GapError C_BadBody C_BadBy C_BadEnd C_BadForm C_BadLeast C_BadPlace C_BadStairs C_BadStart C_NotJoined : Addr}
    {f_I : Addr} {od_I an_I : Option Addr} {sl_I : Array (Option Value)} {oc_I kV_I dc_I pm_I cd_I ct_I : Value}
    {f_eq : Addr} {od_eq an_eq : Option Addr} {sl_eq : Array (Option Value)} {oc_eq kV_eq dc_eq pm_eq cd_eq ct_eq : Value}
    {f_mul : Addr} {od_mul an_mul : Option Addr} {sl_mul : Array (Option Value)} {oc_mul kV_mul dc_mul pm_mul cd_mul ct_mul : Value}
    {f_rmul : Addr} {od_rmul an_rmul : Option Addr} {sl_rmul : Array (Option Value)} {oc_rmul kV_rmul dc_rmul pm_rmul cd_rmul ct_rmul : Value}
    {f_q_is_number : Addr} {od_q_is_number an_q_is_number : Option Addr} {sl_q_is_number : Array (Option Value)} {oc_q_is_number kV_q_is_number dc_q_is_number pm_q_is_number cd_q_is_number ct_q_is_number : Value}
    {f_q_is_number_pair : Addr} {od_q_is_number_pair an_q_is_number_pair : Option Addr} {sl_q_is_number_pair : Array (Option Value)} {oc_q_is_number_pair kV_q_is_number_pair dc_q_is_number_pair pm_q_is_number_pair cd_q_is_number_pair ct_q_is_number_pair : Value}
    {f_q_check_by : Addr} {od_q_check_by an_q_check_by : Option Addr} {sl_q_check_by : Array (Option Value)} {oc_q_check_by kV_q_check_by dc_q_check_by pm_q_check_by cd_q_check_by ct_q_check_by : Value}
    {f_q_is_size : Addr} {od_q_is_size an_q_is_size : Option Addr} {sl_q_is_size : Array (Option Value)} {oc_q_is_size kV_q_is_size dc_q_is_size pm_q_is_size cd_q_is_size ct_q_is_size : Value}
    {f_q_is_body : Addr} {od_q_is_body an_q_is_body : Option Addr} {sl_q_is_body : Array (Option Value)} {oc_q_is_body kV_q_is_body dc_q_is_body pm_q_is_body cd_q_is_body ct_q_is_body : Value}
    {f_q_is_corner : Addr} {od_q_is_corner an_q_is_corner : Option Addr} {sl_q_is_corner : Array (Option Value)} {oc_q_is_corner kV_q_is_corner dc_q_is_corner pm_q_is_corner cd_q_is_corner ct_q_is_corner : Value}
    {f_q_check_body : Addr} {od_q_check_body an_q_check_body : Option Addr} {sl_q_check_body : Array (Option Value)} {oc_q_check_body kV_q_check_body dc_q_check_body pm_q_check_body cd_q_check_body ct_q_check_body : Value}
    {f_q_is_above : Addr} {od_q_is_above an_q_is_above : Option Addr} {sl_q_is_above : Array (Option Value)} {oc_q_is_above kV_q_is_above dc_q_is_above pm_q_is_above cd_q_is_above ct_q_is_above : Value}
    {f_q_lesser : Addr} {od_q_lesser an_q_lesser : Option Addr} {sl_q_lesser : Array (Option Value)} {oc_q_lesser kV_q_lesser dc_q_lesser pm_q_lesser cd_q_lesser ct_q_lesser : Value}
    {f_q_encloses : Addr} {od_q_encloses an_q_encloses : Option Addr} {sl_q_encloses : Array (Option Value)} {oc_q_encloses kV_q_encloses dc_q_encloses pm_q_encloses cd_q_encloses ct_q_encloses : Value}
    {f_q_is_stairs : Addr} {od_q_is_stairs an_q_is_stairs : Option Addr} {sl_q_is_stairs : Array (Option Value)} {oc_q_is_stairs kV_q_is_stairs dc_q_is_stairs pm_q_is_stairs cd_q_is_stairs ct_q_is_stairs : Value}
    {f_q_is_step : Addr} {od_q_is_step an_q_is_step : Option Addr} {sl_q_is_step : Array (Option Value)} {oc_q_is_step kV_q_is_step dc_q_is_step pm_q_is_step cd_q_is_step ct_q_is_step : Value}
    {f_q_check_stairs : Addr} {od_q_check_stairs an_q_check_stairs : Option Addr} {sl_q_check_stairs : Array (Option Value)} {oc_q_check_stairs kV_q_check_stairs dc_q_check_stairs pm_q_check_stairs cd_q_check_stairs ct_q_check_stairs : Value}
    {f_q_corner_order : Addr} {od_q_corner_order an_q_corner_order : Option Addr} {sl_q_corner_order : Array (Option Value)} {oc_q_corner_order kV_q_corner_order dc_q_corner_order pm_q_corner_order cd_q_corner_order ct_q_corner_order : Value}
    {f_q_stairs_of : Addr} {od_q_stairs_of an_q_stairs_of : Option Addr} {sl_q_stairs_of : Array (Option Value)} {oc_q_stairs_of kV_q_stairs_of dc_q_stairs_of pm_q_stairs_of cd_q_stairs_of ct_q_stairs_of : Value}
    {f_q_has : Addr} {od_q_has an_q_has : Option Addr} {sl_q_has : Array (Option Value)} {oc_q_has kV_q_has dc_q_has pm_q_has cd_q_has ct_q_has : Value}
    {f_q_both : Addr} {od_q_both an_q_both : Option Addr} {sl_q_both : Array (Option Value)} {oc_q_both kV_q_both dc_q_both pm_q_both cd_q_both ct_q_both : Value}
    {f_q_met : Addr} {od_q_met an_q_met : Option Addr} {sl_q_met : Array (Option Value)} {oc_q_met kV_q_met dc_q_met pm_q_met cd_q_met ct_q_met : Value}
    {f_q_moved_item : Addr} {od_q_moved_item an_q_moved_item : Option Addr} {sl_q_moved_item : Array (Option Value)} {oc_q_moved_item kV_q_moved_item dc_q_moved_item pm_q_moved_item cd_q_moved_item ct_q_moved_item : Value}
    {f_q_moved : Addr} {od_q_moved an_q_moved : Option Addr} {sl_q_moved : Array (Option Value)} {oc_q_moved kV_q_moved dc_q_moved pm_q_moved cd_q_moved ct_q_moved : Value}
    {f_q_is_any_place : Addr} {od_q_is_any_place an_q_is_any_place : Option Addr} {sl_q_is_any_place : Array (Option Value)} {oc_q_is_any_place kV_q_is_any_place dc_q_is_any_place pm_q_is_any_place cd_q_is_any_place ct_q_is_any_place : Value}
    {f_q_greatest : Addr} {od_q_greatest an_q_greatest : Option Addr} {sl_q_greatest : Array (Option Value)} {oc_q_greatest kV_q_greatest dc_q_greatest pm_q_greatest cd_q_greatest ct_q_greatest : Value}
    {f_q_grown : Addr} {od_q_grown an_q_grown : Option Addr} {sl_q_grown : Array (Option Value)} {oc_q_grown kV_q_grown dc_q_grown pm_q_grown cd_q_grown ct_q_grown : Value}
    {f_q_plain_by : Addr} {od_q_plain_by an_q_plain_by : Option Addr} {sl_q_plain_by : Array (Option Value)} {oc_q_plain_by kV_q_plain_by dc_q_plain_by pm_q_plain_by cd_q_plain_by ct_q_plain_by : Value}
    {f_q_body_behind : Addr} {od_q_body_behind an_q_body_behind : Option Addr} {sl_q_body_behind : Array (Option Value)} {oc_q_body_behind kV_q_body_behind dc_q_body_behind pm_q_body_behind cd_q_body_behind ct_q_body_behind : Value}
    {f_q_followed : Addr} {od_q_followed an_q_followed : Option Addr} {sl_q_followed : Array (Option Value)} {oc_q_followed kV_q_followed dc_q_followed pm_q_followed cd_q_followed ct_q_followed : Value}
    {f_q_still_at : Addr} {od_q_still_at an_q_still_at : Option Addr} {sl_q_still_at : Array (Option Value)} {oc_q_still_at kV_q_still_at dc_q_still_at pm_q_still_at cd_q_still_at ct_q_still_at : Value}
    {f_q_check_form : Addr} {od_q_check_form an_q_check_form : Option Addr} {sl_q_check_form : Array (Option Value)} {oc_q_check_form kV_q_check_form dc_q_check_form pm_q_check_form cd_q_check_form ct_q_check_form : Value}
    {f_q_check_any_place : Addr} {od_q_check_any_place an_q_check_any_place : Option Addr} {sl_q_check_any_place : Array (Option Value)} {oc_q_check_any_place kV_q_check_any_place dc_q_check_any_place pm_q_check_any_place cd_q_check_any_place ct_q_check_any_place : Value}
    {f_q_end_size : Addr} {od_q_end_size an_q_end_size : Option Addr} {sl_q_end_size : Array (Option Value)} {oc_q_end_size kV_q_end_size dc_q_end_size pm_q_end_size cd_q_end_size ct_q_end_size : Value}
    {f_q_still : Addr} {od_q_still an_q_still : Option Addr} {sl_q_still : Array (Option Value)} {oc_q_still kV_q_still dc_q_still pm_q_still cd_q_still ct_q_still : Value}
    {f_l_begun : Addr} {od_l_begun an_l_begun : Option Addr} {sl_l_begun : Array (Option Value)} {oc_l_begun kV_l_begun dc_l_begun pm_l_begun cd_l_begun ct_l_begun : Value}
    {f_l_mixed : Addr} {od_l_mixed an_l_mixed : Option Addr} {sl_l_mixed : Array (Option Value)} {oc_l_mixed kV_l_mixed dc_l_mixed pm_l_mixed cd_l_mixed ct_l_mixed : Value}
    {f_l_take : Addr} {od_l_take an_l_take : Option Addr} {sl_l_take : Array (Option Value)} {oc_l_take kV_l_take dc_l_take pm_l_take cd_l_take ct_l_take : Value}
    {f_l_pick : Addr} {od_l_pick an_l_pick : Option Addr} {sl_l_pick : Array (Option Value)} {oc_l_pick kV_l_pick dc_l_pick pm_l_pick cd_l_pick ct_l_pick : Value}
    {f_l_caught : Addr} {od_l_caught an_l_caught : Option Addr} {sl_l_caught : Array (Option Value)} {oc_l_caught kV_l_caught dc_l_caught pm_l_caught cd_l_caught ct_l_caught : Value}
    {f_l_least : Addr} {od_l_least an_l_least : Option Addr} {sl_l_least : Array (Option Value)} {oc_l_least kV_l_least dc_l_least pm_l_least cd_l_least ct_l_least : Value}
    {f_l_holds : Addr} {od_l_holds an_l_holds : Option Addr} {sl_l_holds : Array (Option Value)} {oc_l_holds kV_l_holds dc_l_holds pm_l_holds cd_l_holds ct_l_holds : Value}
    {f_l_rank : Addr} {od_l_rank an_l_rank : Option Addr} {sl_l_rank : Array (Option Value)} {oc_l_rank kV_l_rank dc_l_rank pm_l_rank cd_l_rank ct_l_rank : Value}
    {cc1 P1 : Addr}
    {f_l_staircase : Addr} {od_l_staircase an_l_staircase : Option Addr} {sl_l_staircase : Array (Option Value)} {oc_l_staircase kV_l_staircase dc_l_staircase pm_l_staircase ct_l_staircase : Value}
    {f_l_held : Addr} {od_l_held an_l_held : Option Addr} {sl_l_held : Array (Option Value)} {oc_l_held kV_l_held dc_l_held pm_l_held cd_l_held ct_l_held : Value}
    {f_l_size : Addr} {od_l_size an_l_size : Option Addr} {sl_l_size : Array (Option Value)} {oc_l_size kV_l_size dc_l_size pm_l_size cd_l_size ct_l_size : Value}
    {f_l_beside : Addr} {od_l_beside an_l_beside : Option Addr} {sl_l_beside : Array (Option Value)} {oc_l_beside kV_l_beside dc_l_beside pm_l_beside cd_l_beside ct_l_beside : Value}
    {f_l_few : Addr} {od_l_few an_l_few : Option Addr} {sl_l_few : Array (Option Value)} {oc_l_few kV_l_few dc_l_few pm_l_few cd_l_few ct_l_few : Value}
    {f_l_grow : Addr} {od_l_grow an_l_grow : Option Addr} {sl_l_grow : Array (Option Value)} {oc_l_grow kV_l_grow dc_l_grow pm_l_grow cd_l_grow ct_l_grow : Value}
    {f_l_few_bodies : Addr} {od_l_few_bodies an_l_few_bodies : Option Addr} {sl_l_few_bodies : Array (Option Value)} {oc_l_few_bodies kV_l_few_bodies dc_l_few_bodies pm_l_few_bodies cd_l_few_bodies ct_l_few_bodies : Value}
    {f_l_raw : Addr} {od_l_raw an_l_raw : Option Addr} {sl_l_raw : Array (Option Value)} {oc_l_raw kV_l_raw dc_l_raw pm_l_raw cd_l_raw ct_l_raw : Value}
    {cc2 P2 : Addr}
    {f_q_law : Addr} {od_q_law an_q_law : Option Addr} {sl_q_law : Array (Option Value)} {oc_q_law kV_q_law dc_q_law pm_q_law ct_q_law : Value}
    (z_abs : PySem.W.nsIn K mainGlobals "abs" = some none)
    (z_all : PySem.W.nsIn K mainGlobals "all" = some none)
    (z_any : PySem.W.nsIn K mainGlobals "any" = some none)
    (z_bool : PySem.W.nsIn K mainGlobals "bool" = some none)
    (z_int : PySem.W.nsIn K mainGlobals "int" = some none)
    (z_isinstance : PySem.W.nsIn K mainGlobals "isinstance" = some none)
    (z_len : PySem.W.nsIn K mainGlobals "len" = some none)
    (z_list : PySem.W.nsIn K mainGlobals "list" = some none)
    (z_max : PySem.W.nsIn K mainGlobals "max" = some none)
    (z_min : PySem.W.nsIn K mainGlobals "min" = some none)
    (z_range : PySem.W.nsIn K mainGlobals "range" = some none)
    (z_reversed : PySem.W.nsIn K mainGlobals "reversed" = some none)
    (z_sorted : PySem.W.nsIn K mainGlobals "sorted" = some none)
    (z_tuple : PySem.W.nsIn K mainGlobals "tuple" = some none)
    (iN : PySem.W.specialIn K (.builtin "object.__class__") "__get__" = some (some (.builtin "getset_descriptor.__get__")))
    (iT : PySem.W.takesIn K (.builtin "object.__class__") = some true)
    (xa_GapError : PySem.W.nsIn K mainGlobals "GapError" = some (some (.ref C_GapError)))
    (xq_GapError : PySem.W.excIn K C_GapError [.type "ValueError", .type "Exception", .type "BaseException", .type "object"] "ValueError.__new__" = true)
    (xk_GapError : PySem.W.keepIn K (.ref C_GapError) = true)
    (xb_GapError : PySem.W.subIn K (.ref C_GapError) (.type "BaseException") = some true)
    (xt_GapError : PySem.W.typeIn K (.ref C_GapError) = some (.type "type"))
    (xg_GapError : PySem.W.findIn K (.ref C_GapError) "__getattribute__" = some (some (.builtin "BaseException.__getattribute__")))
    (xh_GapError : PySem.W.findIn K (.ref C_GapError) "__getattr__" = some none)
    (xd_GapError : PySem.W.hasDictIn K C_GapError = true)
    (xc_GapError : PySem.W.findIn K (.ref C_GapError) "__class__" = some (some (.builtin "object.__class__")))
    (xm_GapError : PySem.W.mroIn K C_GapError (.type "object") = some true)
    (xa_BadBody : PySem.W.nsIn K mainGlobals "BadBody" = some (some (.ref C_BadBody)))
    (xq_BadBody : PySem.W.excIn K C_BadBody [.type "ValueError", .type "Exception", .type "BaseException", .type "object"] "ValueError.__new__" = true)
    (xk_BadBody : PySem.W.keepIn K (.ref C_BadBody) = true)
    (xb_BadBody : PySem.W.subIn K (.ref C_BadBody) (.type "BaseException") = some true)
    (xt_BadBody : PySem.W.typeIn K (.ref C_BadBody) = some (.type "type"))
    (xg_BadBody : PySem.W.findIn K (.ref C_BadBody) "__getattribute__" = some (some (.builtin "BaseException.__getattribute__")))
    (xh_BadBody : PySem.W.findIn K (.ref C_BadBody) "__getattr__" = some none)
    (xd_BadBody : PySem.W.hasDictIn K C_BadBody = true)
    (xc_BadBody : PySem.W.findIn K (.ref C_BadBody) "__class__" = some (some (.builtin "object.__class__")))
    (xm_BadBody : PySem.W.mroIn K C_BadBody (.type "object") = some true)
    (xa_BadBy : PySem.W.nsIn K mainGlobals "BadBy" = some (some (.ref C_BadBy)))
    (xq_BadBy : PySem.W.excIn K C_BadBy [.type "ValueError", .type "Exception", .type "BaseException", .type "object"] "ValueError.__new__" = true)
    (xk_BadBy : PySem.W.keepIn K (.ref C_BadBy) = true)
    (xb_BadBy : PySem.W.subIn K (.ref C_BadBy) (.type "BaseException") = some true)
    (xt_BadBy : PySem.W.typeIn K (.ref C_BadBy) = some (.type "type"))
    (xg_BadBy : PySem.W.findIn K (.ref C_BadBy) "__getattribute__" = some (some (.builtin "BaseException.__getattribute__")))
    (xh_BadBy : PySem.W.findIn K (.ref C_BadBy) "__getattr__" = some none)
    (xd_BadBy : PySem.W.hasDictIn K C_BadBy = true)
    (xc_BadBy : PySem.W.findIn K (.ref C_BadBy) "__class__" = some (some (.builtin "object.__class__")))
    (xm_BadBy : PySem.W.mroIn K C_BadBy (.type "object") = some true)
    (xa_BadEnd : PySem.W.nsIn K mainGlobals "BadEnd" = some (some (.ref C_BadEnd)))
    (xq_BadEnd : PySem.W.excIn K C_BadEnd [.type "ValueError", .type "Exception", .type "BaseException", .type "object"] "ValueError.__new__" = true)
    (xk_BadEnd : PySem.W.keepIn K (.ref C_BadEnd) = true)
    (xb_BadEnd : PySem.W.subIn K (.ref C_BadEnd) (.type "BaseException") = some true)
    (xt_BadEnd : PySem.W.typeIn K (.ref C_BadEnd) = some (.type "type"))
    (xg_BadEnd : PySem.W.findIn K (.ref C_BadEnd) "__getattribute__" = some (some (.builtin "BaseException.__getattribute__")))
    (xh_BadEnd : PySem.W.findIn K (.ref C_BadEnd) "__getattr__" = some none)
    (xd_BadEnd : PySem.W.hasDictIn K C_BadEnd = true)
    (xc_BadEnd : PySem.W.findIn K (.ref C_BadEnd) "__class__" = some (some (.builtin "object.__class__")))
    (xm_BadEnd : PySem.W.mroIn K C_BadEnd (.type "object") = some true)
    (xa_BadForm : PySem.W.nsIn K mainGlobals "BadForm" = some (some (.ref C_BadForm)))
    (xq_BadForm : PySem.W.excIn K C_BadForm [.type "ValueError", .type "Exception", .type "BaseException", .type "object"] "ValueError.__new__" = true)
    (xk_BadForm : PySem.W.keepIn K (.ref C_BadForm) = true)
    (xb_BadForm : PySem.W.subIn K (.ref C_BadForm) (.type "BaseException") = some true)
    (xt_BadForm : PySem.W.typeIn K (.ref C_BadForm) = some (.type "type"))
    (xg_BadForm : PySem.W.findIn K (.ref C_BadForm) "__getattribute__" = some (some (.builtin "BaseException.__getattribute__")))
    (xh_BadForm : PySem.W.findIn K (.ref C_BadForm) "__getattr__" = some none)
    (xd_BadForm : PySem.W.hasDictIn K C_BadForm = true)
    (xc_BadForm : PySem.W.findIn K (.ref C_BadForm) "__class__" = some (some (.builtin "object.__class__")))
    (xm_BadForm : PySem.W.mroIn K C_BadForm (.type "object") = some true)
    (xa_BadLeast : PySem.W.nsIn K mainGlobals "BadLeast" = some (some (.ref C_BadLeast)))
    (xq_BadLeast : PySem.W.excIn K C_BadLeast [.type "ValueError", .type "Exception", .type "BaseException", .type "object"] "ValueError.__new__" = true)
    (xk_BadLeast : PySem.W.keepIn K (.ref C_BadLeast) = true)
    (xb_BadLeast : PySem.W.subIn K (.ref C_BadLeast) (.type "BaseException") = some true)
    (xt_BadLeast : PySem.W.typeIn K (.ref C_BadLeast) = some (.type "type"))
    (xg_BadLeast : PySem.W.findIn K (.ref C_BadLeast) "__getattribute__" = some (some (.builtin "BaseException.__getattribute__")))
    (xh_BadLeast : PySem.W.findIn K (.ref C_BadLeast) "__getattr__" = some none)
    (xd_BadLeast : PySem.W.hasDictIn K C_BadLeast = true)
    (xc_BadLeast : PySem.W.findIn K (.ref C_BadLeast) "__class__" = some (some (.builtin "object.__class__")))
    (xm_BadLeast : PySem.W.mroIn K C_BadLeast (.type "object") = some true)
    (xa_BadPlace : PySem.W.nsIn K mainGlobals "BadPlace" = some (some (.ref C_BadPlace)))
    (xq_BadPlace : PySem.W.excIn K C_BadPlace [.type "ValueError", .type "Exception", .type "BaseException", .type "object"] "ValueError.__new__" = true)
    (xk_BadPlace : PySem.W.keepIn K (.ref C_BadPlace) = true)
    (xb_BadPlace : PySem.W.subIn K (.ref C_BadPlace) (.type "BaseException") = some true)
    (xt_BadPlace : PySem.W.typeIn K (.ref C_BadPlace) = some (.type "type"))
    (xg_BadPlace : PySem.W.findIn K (.ref C_BadPlace) "__getattribute__" = some (some (.builtin "BaseException.__getattribute__")))
    (xh_BadPlace : PySem.W.findIn K (.ref C_BadPlace) "__getattr__" = some none)
    (xd_BadPlace : PySem.W.hasDictIn K C_BadPlace = true)
    (xc_BadPlace : PySem.W.findIn K (.ref C_BadPlace) "__class__" = some (some (.builtin "object.__class__")))
    (xm_BadPlace : PySem.W.mroIn K C_BadPlace (.type "object") = some true)
    (xa_BadStairs : PySem.W.nsIn K mainGlobals "BadStairs" = some (some (.ref C_BadStairs)))
    (xq_BadStairs : PySem.W.excIn K C_BadStairs [.type "ValueError", .type "Exception", .type "BaseException", .type "object"] "ValueError.__new__" = true)
    (xk_BadStairs : PySem.W.keepIn K (.ref C_BadStairs) = true)
    (xb_BadStairs : PySem.W.subIn K (.ref C_BadStairs) (.type "BaseException") = some true)
    (xt_BadStairs : PySem.W.typeIn K (.ref C_BadStairs) = some (.type "type"))
    (xg_BadStairs : PySem.W.findIn K (.ref C_BadStairs) "__getattribute__" = some (some (.builtin "BaseException.__getattribute__")))
    (xh_BadStairs : PySem.W.findIn K (.ref C_BadStairs) "__getattr__" = some none)
    (xd_BadStairs : PySem.W.hasDictIn K C_BadStairs = true)
    (xc_BadStairs : PySem.W.findIn K (.ref C_BadStairs) "__class__" = some (some (.builtin "object.__class__")))
    (xm_BadStairs : PySem.W.mroIn K C_BadStairs (.type "object") = some true)
    (xa_BadStart : PySem.W.nsIn K mainGlobals "BadStart" = some (some (.ref C_BadStart)))
    (xq_BadStart : PySem.W.excIn K C_BadStart [.type "ValueError", .type "Exception", .type "BaseException", .type "object"] "ValueError.__new__" = true)
    (xk_BadStart : PySem.W.keepIn K (.ref C_BadStart) = true)
    (xb_BadStart : PySem.W.subIn K (.ref C_BadStart) (.type "BaseException") = some true)
    (xt_BadStart : PySem.W.typeIn K (.ref C_BadStart) = some (.type "type"))
    (xg_BadStart : PySem.W.findIn K (.ref C_BadStart) "__getattribute__" = some (some (.builtin "BaseException.__getattribute__")))
    (xh_BadStart : PySem.W.findIn K (.ref C_BadStart) "__getattr__" = some none)
    (xd_BadStart : PySem.W.hasDictIn K C_BadStart = true)
    (xc_BadStart : PySem.W.findIn K (.ref C_BadStart) "__class__" = some (some (.builtin "object.__class__")))
    (xm_BadStart : PySem.W.mroIn K C_BadStart (.type "object") = some true)
    (xa_NotJoined : PySem.W.nsIn K mainGlobals "NotJoined" = some (some (.ref C_NotJoined)))
    (xq_NotJoined : PySem.W.excIn K C_NotJoined [.type "ValueError", .type "Exception", .type "BaseException", .type "object"] "ValueError.__new__" = true)
    (xk_NotJoined : PySem.W.keepIn K (.ref C_NotJoined) = true)
    (xb_NotJoined : PySem.W.subIn K (.ref C_NotJoined) (.type "BaseException") = some true)
    (xt_NotJoined : PySem.W.typeIn K (.ref C_NotJoined) = some (.type "type"))
    (xg_NotJoined : PySem.W.findIn K (.ref C_NotJoined) "__getattribute__" = some (some (.builtin "BaseException.__getattribute__")))
    (xh_NotJoined : PySem.W.findIn K (.ref C_NotJoined) "__getattr__" = some none)
    (xd_NotJoined : PySem.W.hasDictIn K C_NotJoined = true)
    (xc_NotJoined : PySem.W.findIn K (.ref C_NotJoined) "__class__" = some (some (.builtin "object.__class__")))
    (xm_NotJoined : PySem.W.mroIn K C_NotJoined (.type "object") = some true)
    (u_BadBody : PySem.W.exmOne K (.ref C_BadBody) (.ref C_GapError) = some true)
    (u_BadBy : PySem.W.exmOne K (.ref C_BadBy) (.ref C_GapError) = some true)
    (u_BadEnd : PySem.W.exmOne K (.ref C_BadEnd) (.ref C_GapError) = some true)
    (u_BadForm : PySem.W.exmOne K (.ref C_BadForm) (.ref C_GapError) = some true)
    (u_BadLeast : PySem.W.exmOne K (.ref C_BadLeast) (.ref C_GapError) = some true)
    (u_BadPlace : PySem.W.exmOne K (.ref C_BadPlace) (.ref C_GapError) = some true)
    (u_BadStairs : PySem.W.exmOne K (.ref C_BadStairs) (.ref C_GapError) = some true)
    (u_BadStart : PySem.W.exmOne K (.ref C_BadStart) (.ref C_GapError) = some true)
    (u_NotJoined : PySem.W.exmOne K (.ref C_NotJoined) (.ref C_GapError) = some true)
    (aC : PySem.W.nsIn K mainGlobals "Form" = some (some (.ref C)))
    (pg : PySem.W.plainGet K C Str.empty = true)
    (hd : PySem.W.hasDictIn K C = true)
    (po : PySem.W.plainOver K C = true)
    (sa : PySem.W.findIn K (.ref C) "__setattr__" = some (some (.builtin "object.__setattr__")))
    (nB : PySem.W.findIn K (.ref C) "blocks" = some none)
    (nF_start : PySem.W.findIn K (.ref C) "start" = some none)
    (nF_end : PySem.W.findIn K (.ref C) "end" = some none)
    (nF_stairs : PySem.W.findIn K (.ref C) "stairs" = some none)
    (nF_least : PySem.W.findIn K (.ref C) "least" = some none)
    (nF_by : PySem.W.findIn K (.ref C) "by" = some none)
    (in_ : PySem.W.findIn K (.ref C) "__init__" = some (some (.ref f_I)))
    (l_I : K.lookup f_I = some ⟨oc_I, od_I, .func (PySem.W.fnOf "__init__" "Form.__init__" (defArgs S_q_Form_init) (defBody S_q_Form_init) (defScope S_q_Form_init) .none kV_I dc_I pm_I an_I cd_I ct_I), sl_I⟩)
    (c_I : PySem.W.codeIn K cd_I "Form.__init__" = true)
    (k_I : PySem.W.keepIn K (.ref f_I) = true)
    (ii : PySem.W.isFn K (.ref f_I) = true)
    (mk : PySem.W.makesIn K C = true)
    (kc : PySem.W.keepIn K (.ref C) = true)
    (o_eq : PySem.W.findIn K (.ref C) "__eq__" = some (some (.ref f_eq)))
    (l_eq : K.lookup f_eq = some ⟨oc_eq, od_eq, .func (PySem.W.fnOf "__eq__" "Form.__eq__" (defArgs S_q_Form_eq) (defBody S_q_Form_eq) (defScope S_q_Form_eq) .none kV_eq dc_eq pm_eq an_eq cd_eq ct_eq), sl_eq⟩)
    (c_eq : PySem.W.codeIn K cd_eq "Form.__eq__" = true)
    (k_eq : PySem.W.keepIn K (.ref f_eq) = true)
    (i_eq : PySem.W.isFn K (.ref f_eq) = true)
    (neC : PySem.W.findIn K (.ref C) "__ne__" = some (some (.builtin "object.__ne__")))
    (o_mul : PySem.W.findIn K (.ref C) "__mul__" = some (some (.ref f_mul)))
    (l_mul : K.lookup f_mul = some ⟨oc_mul, od_mul, .func (PySem.W.fnOf "__mul__" "Form.__mul__" (defArgs S_q_Form_mul) (defBody S_q_Form_mul) (defScope S_q_Form_mul) .none kV_mul dc_mul pm_mul an_mul cd_mul ct_mul), sl_mul⟩)
    (c_mul : PySem.W.codeIn K cd_mul "Form.__mul__" = true)
    (k_mul : PySem.W.keepIn K (.ref f_mul) = true)
    (i_mul : PySem.W.isFn K (.ref f_mul) = true)
    (o_rmul : PySem.W.findIn K (.ref C) "__rmul__" = some (some (.ref f_rmul)))
    (l_rmul : K.lookup f_rmul = some ⟨oc_rmul, od_rmul, .func (PySem.W.fnOf "__rmul__" "Form.__rmul__" (defArgs S_q_Form_rmul) (defBody S_q_Form_rmul) (defScope S_q_Form_rmul) .none kV_rmul dc_rmul pm_rmul an_rmul cd_rmul ct_rmul), sl_rmul⟩)
    (c_rmul : PySem.W.codeIn K cd_rmul "Form.__rmul__" = true)
    (k_rmul : PySem.W.keepIn K (.ref f_rmul) = true)
    (i_rmul : PySem.W.isFn K (.ref f_rmul) = true)
    (iA : PySem.W.findIn K (.ref C) "__class__" = some (some (.builtin "object.__class__")))
    (iM : PySem.W.mroIn K C (.type "object") = some true)
    (kD : PySem.W.kitOne K (.ref C) (.ref C) = some true)
    (kb_tuple : PySem.W.kitOne K (.ref C) (.type "tuple") = some false)
    (kb_str : PySem.W.kitOne K (.ref C) (.type "str") = some false)
    (kb_int : PySem.W.kitOne K (.ref C) (.type "int") = some false)
    (kb_bool : PySem.W.kitOne K (.ref C) (.type "bool") = some false)
    (kb_list : PySem.W.kitOne K (.ref C) (.type "list") = some false)
    (kb_dict : PySem.W.kitOne K (.ref C) (.type "dict") = some false)
    (sfC : PySem.W.selfFirst K C = true)
    (kNoneType : PySem.W.kitOne K (.type "NoneType") (.ref C) = some false)
    (ktuple : PySem.W.kitOne K (.type "tuple") (.ref C) = some false)
    (kstr : PySem.W.kitOne K (.type "str") (.ref C) = some false)
    (kint : PySem.W.kitOne K (.type "int") (.ref C) = some false)
    (kbool : PySem.W.kitOne K (.type "bool") (.ref C) = some false)
    (klist : PySem.W.kitOne K (.type "list") (.ref C) = some false)
    (kdict : PySem.W.kitOne K (.type "dict") (.ref C) = some false)
    (n_BadBody : PySem.W.kitOne K (.type "NoneType") (.ref C_BadBody) = some false)
    (n_BadBy : PySem.W.kitOne K (.type "NoneType") (.ref C_BadBy) = some false)
    (n_BadEnd : PySem.W.kitOne K (.type "NoneType") (.ref C_BadEnd) = some false)
    (n_BadForm : PySem.W.kitOne K (.type "NoneType") (.ref C_BadForm) = some false)
    (n_BadLeast : PySem.W.kitOne K (.type "NoneType") (.ref C_BadLeast) = some false)
    (n_BadPlace : PySem.W.kitOne K (.type "NoneType") (.ref C_BadPlace) = some false)
    (n_BadStairs : PySem.W.kitOne K (.type "NoneType") (.ref C_BadStairs) = some false)
    (n_BadStart : PySem.W.kitOne K (.type "NoneType") (.ref C_BadStart) = some false)
    (n_NotJoined : PySem.W.kitOne K (.type "NoneType") (.ref C_NotJoined) = some false)
    (e_BadBody : PySem.W.kitOne K (.ref C_BadBody) (.ref C_BadBody) = some true)
    (e_BadBy : PySem.W.kitOne K (.ref C_BadBy) (.ref C_BadBy) = some true)
    (e_BadEnd : PySem.W.kitOne K (.ref C_BadEnd) (.ref C_BadEnd) = some true)
    (e_BadForm : PySem.W.kitOne K (.ref C_BadForm) (.ref C_BadForm) = some true)
    (e_BadLeast : PySem.W.kitOne K (.ref C_BadLeast) (.ref C_BadLeast) = some true)
    (e_BadPlace : PySem.W.kitOne K (.ref C_BadPlace) (.ref C_BadPlace) = some true)
    (e_BadStairs : PySem.W.kitOne K (.ref C_BadStairs) (.ref C_BadStairs) = some true)
    (e_BadStart : PySem.W.kitOne K (.ref C_BadStart) (.ref C_BadStart) = some true)
    (e_NotJoined : PySem.W.kitOne K (.ref C_NotJoined) (.ref C_NotJoined) = some true)
    (a_q_is_number : PySem.W.nsIn K mainGlobals "is_number" = some (some (.ref f_q_is_number)))
    (l_q_is_number : K.lookup f_q_is_number = some ⟨oc_q_is_number, od_q_is_number, .func (PySem.W.fnOf "is_number" "is_number" (defArgs S_q_is_number) (defBody S_q_is_number) (defScope S_q_is_number) .none kV_q_is_number dc_q_is_number pm_q_is_number an_q_is_number cd_q_is_number ct_q_is_number), sl_q_is_number⟩)
    (c_q_is_number : PySem.W.codeIn K cd_q_is_number "is_number" = true)
    (k_q_is_number : PySem.W.keepIn K (.ref f_q_is_number) = true)
    (a_q_is_number_pair : PySem.W.nsIn K mainGlobals "is_number_pair" = some (some (.ref f_q_is_number_pair)))
    (l_q_is_number_pair : K.lookup f_q_is_number_pair = some ⟨oc_q_is_number_pair, od_q_is_number_pair, .func (PySem.W.fnOf "is_number_pair" "is_number_pair" (defArgs S_q_is_number_pair) (defBody S_q_is_number_pair) (defScope S_q_is_number_pair) .none kV_q_is_number_pair dc_q_is_number_pair pm_q_is_number_pair an_q_is_number_pair cd_q_is_number_pair ct_q_is_number_pair), sl_q_is_number_pair⟩)
    (c_q_is_number_pair : PySem.W.codeIn K cd_q_is_number_pair "is_number_pair" = true)
    (k_q_is_number_pair : PySem.W.keepIn K (.ref f_q_is_number_pair) = true)
    (a_q_check_by : PySem.W.nsIn K mainGlobals "check_by" = some (some (.ref f_q_check_by)))
    (l_q_check_by : K.lookup f_q_check_by = some ⟨oc_q_check_by, od_q_check_by, .func (PySem.W.fnOf "check_by" "check_by" (defArgs S_q_check_by) (defBody S_q_check_by) (defScope S_q_check_by) .none kV_q_check_by dc_q_check_by pm_q_check_by an_q_check_by cd_q_check_by ct_q_check_by), sl_q_check_by⟩)
    (c_q_check_by : PySem.W.codeIn K cd_q_check_by "check_by" = true)
    (k_q_check_by : PySem.W.keepIn K (.ref f_q_check_by) = true)
    (a_q_is_size : PySem.W.nsIn K mainGlobals "is_size" = some (some (.ref f_q_is_size)))
    (l_q_is_size : K.lookup f_q_is_size = some ⟨oc_q_is_size, od_q_is_size, .func (PySem.W.fnOf "is_size" "is_size" (defArgs S_q_is_size) (defBody S_q_is_size) (defScope S_q_is_size) .none kV_q_is_size dc_q_is_size pm_q_is_size an_q_is_size cd_q_is_size ct_q_is_size), sl_q_is_size⟩)
    (c_q_is_size : PySem.W.codeIn K cd_q_is_size "is_size" = true)
    (k_q_is_size : PySem.W.keepIn K (.ref f_q_is_size) = true)
    (a_q_is_body : PySem.W.nsIn K mainGlobals "is_body" = some (some (.ref f_q_is_body)))
    (l_q_is_body : K.lookup f_q_is_body = some ⟨oc_q_is_body, od_q_is_body, .func (PySem.W.fnOf "is_body" "is_body" (defArgs S_q_is_body) (defBody S_q_is_body) (defScope S_q_is_body) .none kV_q_is_body dc_q_is_body pm_q_is_body an_q_is_body cd_q_is_body ct_q_is_body), sl_q_is_body⟩)
    (c_q_is_body : PySem.W.codeIn K cd_q_is_body "is_body" = true)
    (k_q_is_body : PySem.W.keepIn K (.ref f_q_is_body) = true)
    (a_q_is_corner : PySem.W.nsIn K mainGlobals "is_corner" = some (some (.ref f_q_is_corner)))
    (l_q_is_corner : K.lookup f_q_is_corner = some ⟨oc_q_is_corner, od_q_is_corner, .func (PySem.W.fnOf "is_corner" "is_corner" (defArgs S_q_is_corner) (defBody S_q_is_corner) (defScope S_q_is_corner) .none kV_q_is_corner dc_q_is_corner pm_q_is_corner an_q_is_corner cd_q_is_corner ct_q_is_corner), sl_q_is_corner⟩)
    (c_q_is_corner : PySem.W.codeIn K cd_q_is_corner "is_corner" = true)
    (k_q_is_corner : PySem.W.keepIn K (.ref f_q_is_corner) = true)
    (a_q_check_body : PySem.W.nsIn K mainGlobals "check_body" = some (some (.ref f_q_check_body)))
    (l_q_check_body : K.lookup f_q_check_body = some ⟨oc_q_check_body, od_q_check_body, .func (PySem.W.fnOf "check_body" "check_body" (defArgs S_q_check_body) (defBody S_q_check_body) (defScope S_q_check_body) .none kV_q_check_body dc_q_check_body pm_q_check_body an_q_check_body cd_q_check_body ct_q_check_body), sl_q_check_body⟩)
    (c_q_check_body : PySem.W.codeIn K cd_q_check_body "check_body" = true)
    (k_q_check_body : PySem.W.keepIn K (.ref f_q_check_body) = true)
    (a_q_is_above : PySem.W.nsIn K mainGlobals "is_above" = some (some (.ref f_q_is_above)))
    (l_q_is_above : K.lookup f_q_is_above = some ⟨oc_q_is_above, od_q_is_above, .func (PySem.W.fnOf "is_above" "is_above" (defArgs S_q_is_above) (defBody S_q_is_above) (defScope S_q_is_above) .none kV_q_is_above dc_q_is_above pm_q_is_above an_q_is_above cd_q_is_above ct_q_is_above), sl_q_is_above⟩)
    (c_q_is_above : PySem.W.codeIn K cd_q_is_above "is_above" = true)
    (k_q_is_above : PySem.W.keepIn K (.ref f_q_is_above) = true)
    (a_q_lesser : PySem.W.nsIn K mainGlobals "lesser" = some (some (.ref f_q_lesser)))
    (l_q_lesser : K.lookup f_q_lesser = some ⟨oc_q_lesser, od_q_lesser, .func (PySem.W.fnOf "lesser" "lesser" (defArgs S_q_lesser) (defBody S_q_lesser) (defScope S_q_lesser) .none kV_q_lesser dc_q_lesser pm_q_lesser an_q_lesser cd_q_lesser ct_q_lesser), sl_q_lesser⟩)
    (c_q_lesser : PySem.W.codeIn K cd_q_lesser "lesser" = true)
    (k_q_lesser : PySem.W.keepIn K (.ref f_q_lesser) = true)
    (a_q_encloses : PySem.W.nsIn K mainGlobals "encloses" = some (some (.ref f_q_encloses)))
    (l_q_encloses : K.lookup f_q_encloses = some ⟨oc_q_encloses, od_q_encloses, .func (PySem.W.fnOf "encloses" "encloses" (defArgs S_q_encloses) (defBody S_q_encloses) (defScope S_q_encloses) .none kV_q_encloses dc_q_encloses pm_q_encloses an_q_encloses cd_q_encloses ct_q_encloses), sl_q_encloses⟩)
    (c_q_encloses : PySem.W.codeIn K cd_q_encloses "encloses" = true)
    (k_q_encloses : PySem.W.keepIn K (.ref f_q_encloses) = true)
    (a_q_is_stairs : PySem.W.nsIn K mainGlobals "is_stairs" = some (some (.ref f_q_is_stairs)))
    (l_q_is_stairs : K.lookup f_q_is_stairs = some ⟨oc_q_is_stairs, od_q_is_stairs, .func (PySem.W.fnOf "is_stairs" "is_stairs" (defArgs S_q_is_stairs) (defBody S_q_is_stairs) (defScope S_q_is_stairs) .none kV_q_is_stairs dc_q_is_stairs pm_q_is_stairs an_q_is_stairs cd_q_is_stairs ct_q_is_stairs), sl_q_is_stairs⟩)
    (c_q_is_stairs : PySem.W.codeIn K cd_q_is_stairs "is_stairs" = true)
    (k_q_is_stairs : PySem.W.keepIn K (.ref f_q_is_stairs) = true)
    (a_q_is_step : PySem.W.nsIn K mainGlobals "is_step" = some (some (.ref f_q_is_step)))
    (l_q_is_step : K.lookup f_q_is_step = some ⟨oc_q_is_step, od_q_is_step, .func (PySem.W.fnOf "is_step" "is_step" (defArgs S_q_is_step) (defBody S_q_is_step) (defScope S_q_is_step) .none kV_q_is_step dc_q_is_step pm_q_is_step an_q_is_step cd_q_is_step ct_q_is_step), sl_q_is_step⟩)
    (c_q_is_step : PySem.W.codeIn K cd_q_is_step "is_step" = true)
    (k_q_is_step : PySem.W.keepIn K (.ref f_q_is_step) = true)
    (a_q_check_stairs : PySem.W.nsIn K mainGlobals "check_stairs" = some (some (.ref f_q_check_stairs)))
    (l_q_check_stairs : K.lookup f_q_check_stairs = some ⟨oc_q_check_stairs, od_q_check_stairs, .func (PySem.W.fnOf "check_stairs" "check_stairs" (defArgs S_q_check_stairs) (defBody S_q_check_stairs) (defScope S_q_check_stairs) .none kV_q_check_stairs dc_q_check_stairs pm_q_check_stairs an_q_check_stairs cd_q_check_stairs ct_q_check_stairs), sl_q_check_stairs⟩)
    (c_q_check_stairs : PySem.W.codeIn K cd_q_check_stairs "check_stairs" = true)
    (k_q_check_stairs : PySem.W.keepIn K (.ref f_q_check_stairs) = true)
    (a_q_corner_order : PySem.W.nsIn K mainGlobals "corner_order" = some (some (.ref f_q_corner_order)))
    (l_q_corner_order : K.lookup f_q_corner_order = some ⟨oc_q_corner_order, od_q_corner_order, .func (PySem.W.fnOf "corner_order" "corner_order" (defArgs S_q_corner_order) (defBody S_q_corner_order) (defScope S_q_corner_order) .none kV_q_corner_order dc_q_corner_order pm_q_corner_order an_q_corner_order cd_q_corner_order ct_q_corner_order), sl_q_corner_order⟩)
    (c_q_corner_order : PySem.W.codeIn K cd_q_corner_order "corner_order" = true)
    (k_q_corner_order : PySem.W.keepIn K (.ref f_q_corner_order) = true)
    (a_q_stairs_of : PySem.W.nsIn K mainGlobals "stairs_of" = some (some (.ref f_q_stairs_of)))
    (l_q_stairs_of : K.lookup f_q_stairs_of = some ⟨oc_q_stairs_of, od_q_stairs_of, .func (PySem.W.fnOf "stairs_of" "stairs_of" (defArgs S_q_stairs_of) (defBody S_q_stairs_of) (defScope S_q_stairs_of) .none kV_q_stairs_of dc_q_stairs_of pm_q_stairs_of an_q_stairs_of cd_q_stairs_of ct_q_stairs_of), sl_q_stairs_of⟩)
    (c_q_stairs_of : PySem.W.codeIn K cd_q_stairs_of "stairs_of" = true)
    (k_q_stairs_of : PySem.W.keepIn K (.ref f_q_stairs_of) = true)
    (a_q_has : PySem.W.nsIn K mainGlobals "has" = some (some (.ref f_q_has)))
    (l_q_has : K.lookup f_q_has = some ⟨oc_q_has, od_q_has, .func (PySem.W.fnOf "has" "has" (defArgs S_q_has) (defBody S_q_has) (defScope S_q_has) .none kV_q_has dc_q_has pm_q_has an_q_has cd_q_has ct_q_has), sl_q_has⟩)
    (c_q_has : PySem.W.codeIn K cd_q_has "has" = true)
    (k_q_has : PySem.W.keepIn K (.ref f_q_has) = true)
    (a_q_both : PySem.W.nsIn K mainGlobals "both" = some (some (.ref f_q_both)))
    (l_q_both : K.lookup f_q_both = some ⟨oc_q_both, od_q_both, .func (PySem.W.fnOf "both" "both" (defArgs S_q_both) (defBody S_q_both) (defScope S_q_both) .none kV_q_both dc_q_both pm_q_both an_q_both cd_q_both ct_q_both), sl_q_both⟩)
    (c_q_both : PySem.W.codeIn K cd_q_both "both" = true)
    (k_q_both : PySem.W.keepIn K (.ref f_q_both) = true)
    (a_q_met : PySem.W.nsIn K mainGlobals "met" = some (some (.ref f_q_met)))
    (l_q_met : K.lookup f_q_met = some ⟨oc_q_met, od_q_met, .func (PySem.W.fnOf "met" "met" (defArgs S_q_met) (defBody S_q_met) (defScope S_q_met) .none kV_q_met dc_q_met pm_q_met an_q_met cd_q_met ct_q_met), sl_q_met⟩)
    (c_q_met : PySem.W.codeIn K cd_q_met "met" = true)
    (k_q_met : PySem.W.keepIn K (.ref f_q_met) = true)
    (a_q_moved_item : PySem.W.nsIn K mainGlobals "moved_item" = some (some (.ref f_q_moved_item)))
    (l_q_moved_item : K.lookup f_q_moved_item = some ⟨oc_q_moved_item, od_q_moved_item, .func (PySem.W.fnOf "moved_item" "moved_item" (defArgs S_q_moved_item) (defBody S_q_moved_item) (defScope S_q_moved_item) .none kV_q_moved_item dc_q_moved_item pm_q_moved_item an_q_moved_item cd_q_moved_item ct_q_moved_item), sl_q_moved_item⟩)
    (c_q_moved_item : PySem.W.codeIn K cd_q_moved_item "moved_item" = true)
    (k_q_moved_item : PySem.W.keepIn K (.ref f_q_moved_item) = true)
    (a_q_moved : PySem.W.nsIn K mainGlobals "moved" = some (some (.ref f_q_moved)))
    (l_q_moved : K.lookup f_q_moved = some ⟨oc_q_moved, od_q_moved, .func (PySem.W.fnOf "moved" "moved" (defArgs S_q_moved) (defBody S_q_moved) (defScope S_q_moved) .none kV_q_moved dc_q_moved pm_q_moved an_q_moved cd_q_moved ct_q_moved), sl_q_moved⟩)
    (c_q_moved : PySem.W.codeIn K cd_q_moved "moved" = true)
    (k_q_moved : PySem.W.keepIn K (.ref f_q_moved) = true)
    (a_q_is_any_place : PySem.W.nsIn K mainGlobals "is_any_place" = some (some (.ref f_q_is_any_place)))
    (l_q_is_any_place : K.lookup f_q_is_any_place = some ⟨oc_q_is_any_place, od_q_is_any_place, .func (PySem.W.fnOf "is_any_place" "is_any_place" (defArgs S_q_is_any_place) (defBody S_q_is_any_place) (defScope S_q_is_any_place) .none kV_q_is_any_place dc_q_is_any_place pm_q_is_any_place an_q_is_any_place cd_q_is_any_place ct_q_is_any_place), sl_q_is_any_place⟩)
    (c_q_is_any_place : PySem.W.codeIn K cd_q_is_any_place "is_any_place" = true)
    (k_q_is_any_place : PySem.W.keepIn K (.ref f_q_is_any_place) = true)
    (a_q_greatest : PySem.W.nsIn K mainGlobals "greatest" = some (some (.ref f_q_greatest)))
    (l_q_greatest : K.lookup f_q_greatest = some ⟨oc_q_greatest, od_q_greatest, .func (PySem.W.fnOf "greatest" "greatest" (defArgs S_q_greatest) (defBody S_q_greatest) (defScope S_q_greatest) .none kV_q_greatest dc_q_greatest pm_q_greatest an_q_greatest cd_q_greatest ct_q_greatest), sl_q_greatest⟩)
    (c_q_greatest : PySem.W.codeIn K cd_q_greatest "greatest" = true)
    (k_q_greatest : PySem.W.keepIn K (.ref f_q_greatest) = true)
    (a_q_grown : PySem.W.nsIn K mainGlobals "grown" = some (some (.ref f_q_grown)))
    (l_q_grown : K.lookup f_q_grown = some ⟨oc_q_grown, od_q_grown, .func (PySem.W.fnOf "grown" "grown" (defArgs S_q_grown) (defBody S_q_grown) (defScope S_q_grown) .none kV_q_grown dc_q_grown pm_q_grown an_q_grown cd_q_grown ct_q_grown), sl_q_grown⟩)
    (c_q_grown : PySem.W.codeIn K cd_q_grown "grown" = true)
    (k_q_grown : PySem.W.keepIn K (.ref f_q_grown) = true)
    (a_q_plain_by : PySem.W.nsIn K mainGlobals "plain_by" = some (some (.ref f_q_plain_by)))
    (l_q_plain_by : K.lookup f_q_plain_by = some ⟨oc_q_plain_by, od_q_plain_by, .func (PySem.W.fnOf "plain_by" "plain_by" (defArgs S_q_plain_by) (defBody S_q_plain_by) (defScope S_q_plain_by) .none kV_q_plain_by dc_q_plain_by pm_q_plain_by an_q_plain_by cd_q_plain_by ct_q_plain_by), sl_q_plain_by⟩)
    (c_q_plain_by : PySem.W.codeIn K cd_q_plain_by "plain_by" = true)
    (k_q_plain_by : PySem.W.keepIn K (.ref f_q_plain_by) = true)
    (a_q_body_behind : PySem.W.nsIn K mainGlobals "body_behind" = some (some (.ref f_q_body_behind)))
    (l_q_body_behind : K.lookup f_q_body_behind = some ⟨oc_q_body_behind, od_q_body_behind, .func (PySem.W.fnOf "body_behind" "body_behind" (defArgs S_q_body_behind) (defBody S_q_body_behind) (defScope S_q_body_behind) .none kV_q_body_behind dc_q_body_behind pm_q_body_behind an_q_body_behind cd_q_body_behind ct_q_body_behind), sl_q_body_behind⟩)
    (c_q_body_behind : PySem.W.codeIn K cd_q_body_behind "body_behind" = true)
    (k_q_body_behind : PySem.W.keepIn K (.ref f_q_body_behind) = true)
    (a_q_followed : PySem.W.nsIn K mainGlobals "followed" = some (some (.ref f_q_followed)))
    (l_q_followed : K.lookup f_q_followed = some ⟨oc_q_followed, od_q_followed, .func (PySem.W.fnOf "followed" "followed" (defArgs S_q_followed) (defBody S_q_followed) (defScope S_q_followed) .none kV_q_followed dc_q_followed pm_q_followed an_q_followed cd_q_followed ct_q_followed), sl_q_followed⟩)
    (c_q_followed : PySem.W.codeIn K cd_q_followed "followed" = true)
    (k_q_followed : PySem.W.keepIn K (.ref f_q_followed) = true)
    (a_q_still_at : PySem.W.nsIn K mainGlobals "still_at" = some (some (.ref f_q_still_at)))
    (l_q_still_at : K.lookup f_q_still_at = some ⟨oc_q_still_at, od_q_still_at, .func (PySem.W.fnOf "still_at" "still_at" (defArgs S_q_still_at) (defBody S_q_still_at) (defScope S_q_still_at) .none kV_q_still_at dc_q_still_at pm_q_still_at an_q_still_at cd_q_still_at ct_q_still_at), sl_q_still_at⟩)
    (c_q_still_at : PySem.W.codeIn K cd_q_still_at "still_at" = true)
    (k_q_still_at : PySem.W.keepIn K (.ref f_q_still_at) = true)
    (a_q_check_form : PySem.W.nsIn K mainGlobals "check_form" = some (some (.ref f_q_check_form)))
    (l_q_check_form : K.lookup f_q_check_form = some ⟨oc_q_check_form, od_q_check_form, .func (PySem.W.fnOf "check_form" "check_form" (defArgs S_q_check_form) (defBody S_q_check_form) (defScope S_q_check_form) .none kV_q_check_form dc_q_check_form pm_q_check_form an_q_check_form cd_q_check_form ct_q_check_form), sl_q_check_form⟩)
    (c_q_check_form : PySem.W.codeIn K cd_q_check_form "check_form" = true)
    (k_q_check_form : PySem.W.keepIn K (.ref f_q_check_form) = true)
    (a_q_check_any_place : PySem.W.nsIn K mainGlobals "check_any_place" = some (some (.ref f_q_check_any_place)))
    (l_q_check_any_place : K.lookup f_q_check_any_place = some ⟨oc_q_check_any_place, od_q_check_any_place, .func (PySem.W.fnOf "check_any_place" "check_any_place" (defArgs S_q_check_any_place) (defBody S_q_check_any_place) (defScope S_q_check_any_place) .none kV_q_check_any_place dc_q_check_any_place pm_q_check_any_place an_q_check_any_place cd_q_check_any_place ct_q_check_any_place), sl_q_check_any_place⟩)
    (c_q_check_any_place : PySem.W.codeIn K cd_q_check_any_place "check_any_place" = true)
    (k_q_check_any_place : PySem.W.keepIn K (.ref f_q_check_any_place) = true)
    (a_q_end_size : PySem.W.nsIn K mainGlobals "end_size" = some (some (.ref f_q_end_size)))
    (l_q_end_size : K.lookup f_q_end_size = some ⟨oc_q_end_size, od_q_end_size, .func (PySem.W.fnOf "end_size" "end_size" (defArgs S_q_end_size) (defBody S_q_end_size) (defScope S_q_end_size) .none kV_q_end_size dc_q_end_size pm_q_end_size an_q_end_size cd_q_end_size ct_q_end_size), sl_q_end_size⟩)
    (c_q_end_size : PySem.W.codeIn K cd_q_end_size "end_size" = true)
    (k_q_end_size : PySem.W.keepIn K (.ref f_q_end_size) = true)
    (a_q_still : PySem.W.nsIn K mainGlobals "still" = some (some (.ref f_q_still)))
    (l_q_still : K.lookup f_q_still = some ⟨oc_q_still, od_q_still, .func (PySem.W.fnOf "still" "still" (defArgs S_q_still) (defBody S_q_still) (defScope S_q_still) .none kV_q_still dc_q_still pm_q_still an_q_still cd_q_still ct_q_still), sl_q_still⟩)
    (c_q_still : PySem.W.codeIn K cd_q_still "still" = true)
    (k_q_still : PySem.W.keepIn K (.ref f_q_still) = true)
    (a_l_begun : PySem.W.nsIn K mainGlobals "_law_begun" = some (some (.ref f_l_begun)))
    (l_l_begun : K.lookup f_l_begun = some ⟨oc_l_begun, od_l_begun, .func (PySem.W.fnOf "_law_begun" "_law_begun" (defArgs S_l_begun) (defBody S_l_begun) (defScope S_l_begun) .none kV_l_begun dc_l_begun pm_l_begun an_l_begun cd_l_begun ct_l_begun), sl_l_begun⟩)
    (c_l_begun : PySem.W.codeIn K cd_l_begun "_law_begun" = true)
    (k_l_begun : PySem.W.keepIn K (.ref f_l_begun) = true)
    (a_l_mixed : PySem.W.nsIn K mainGlobals "_law_mixed" = some (some (.ref f_l_mixed)))
    (l_l_mixed : K.lookup f_l_mixed = some ⟨oc_l_mixed, od_l_mixed, .func (PySem.W.fnOf "_law_mixed" "_law_mixed" (defArgs S_l_mixed) (defBody S_l_mixed) (defScope S_l_mixed) .none kV_l_mixed dc_l_mixed pm_l_mixed an_l_mixed cd_l_mixed ct_l_mixed), sl_l_mixed⟩)
    (c_l_mixed : PySem.W.codeIn K cd_l_mixed "_law_mixed" = true)
    (k_l_mixed : PySem.W.keepIn K (.ref f_l_mixed) = true)
    (a_l_take : PySem.W.nsIn K mainGlobals "_law_take" = some (some (.ref f_l_take)))
    (l_l_take : K.lookup f_l_take = some ⟨oc_l_take, od_l_take, .func (PySem.W.fnOf "_law_take" "_law_take" (defArgs S_l_take) (defBody S_l_take) (defScope S_l_take) .none kV_l_take dc_l_take pm_l_take an_l_take cd_l_take ct_l_take), sl_l_take⟩)
    (c_l_take : PySem.W.codeIn K cd_l_take "_law_take" = true)
    (k_l_take : PySem.W.keepIn K (.ref f_l_take) = true)
    (a_l_pick : PySem.W.nsIn K mainGlobals "_law_pick" = some (some (.ref f_l_pick)))
    (l_l_pick : K.lookup f_l_pick = some ⟨oc_l_pick, od_l_pick, .func (PySem.W.fnOf "_law_pick" "_law_pick" (defArgs S_l_pick) (defBody S_l_pick) (defScope S_l_pick) .none kV_l_pick dc_l_pick pm_l_pick an_l_pick cd_l_pick ct_l_pick), sl_l_pick⟩)
    (c_l_pick : PySem.W.codeIn K cd_l_pick "_law_pick" = true)
    (k_l_pick : PySem.W.keepIn K (.ref f_l_pick) = true)
    (a_l_caught : PySem.W.nsIn K mainGlobals "_law_caught" = some (some (.ref f_l_caught)))
    (l_l_caught : K.lookup f_l_caught = some ⟨oc_l_caught, od_l_caught, .func (PySem.W.fnOf "_law_caught" "_law_caught" (defArgs S_l_caught) (defBody S_l_caught) (defScope S_l_caught) .none kV_l_caught dc_l_caught pm_l_caught an_l_caught cd_l_caught ct_l_caught), sl_l_caught⟩)
    (c_l_caught : PySem.W.codeIn K cd_l_caught "_law_caught" = true)
    (k_l_caught : PySem.W.keepIn K (.ref f_l_caught) = true)
    (a_l_least : PySem.W.nsIn K mainGlobals "_law_least" = some (some (.ref f_l_least)))
    (l_l_least : K.lookup f_l_least = some ⟨oc_l_least, od_l_least, .func (PySem.W.fnOf "_law_least" "_law_least" (defArgs S_l_least) (defBody S_l_least) (defScope S_l_least) .none kV_l_least dc_l_least pm_l_least an_l_least cd_l_least ct_l_least), sl_l_least⟩)
    (c_l_least : PySem.W.codeIn K cd_l_least "_law_least" = true)
    (k_l_least : PySem.W.keepIn K (.ref f_l_least) = true)
    (a_l_holds : PySem.W.nsIn K mainGlobals "_law_holds" = some (some (.ref f_l_holds)))
    (l_l_holds : K.lookup f_l_holds = some ⟨oc_l_holds, od_l_holds, .func (PySem.W.fnOf "_law_holds" "_law_holds" (defArgs S_l_holds) (defBody S_l_holds) (defScope S_l_holds) .none kV_l_holds dc_l_holds pm_l_holds an_l_holds cd_l_holds ct_l_holds), sl_l_holds⟩)
    (c_l_holds : PySem.W.codeIn K cd_l_holds "_law_holds" = true)
    (k_l_holds : PySem.W.keepIn K (.ref f_l_holds) = true)
    (a_l_rank : PySem.W.nsIn K mainGlobals "_law_rank" = some (some (.ref f_l_rank)))
    (l_l_rank : K.lookup f_l_rank = some ⟨oc_l_rank, od_l_rank, .func (PySem.W.fnOf "_law_rank" "_law_rank" (defArgs S_l_rank) (defBody S_l_rank) (defScope S_l_rank) .none kV_l_rank dc_l_rank pm_l_rank an_l_rank cd_l_rank ct_l_rank), sl_l_rank⟩)
    (c_l_rank : PySem.W.codeIn K cd_l_rank "_law_rank" = true)
    (k_l_rank : PySem.W.keepIn K (.ref f_l_rank) = true)
    (a_l_staircase : PySem.W.nsIn K mainGlobals "_law_staircase" = some (some (.ref f_l_staircase)))
    (l_l_staircase : K.lookup f_l_staircase = some ⟨oc_l_staircase, od_l_staircase, .func (PySem.W.fnOf "_law_staircase" "_law_staircase" (defArgs S_l_staircase) (defBody S_l_staircase) (defScope S_l_staircase) .none kV_l_staircase dc_l_staircase pm_l_staircase an_l_staircase (.ref cc1) ct_l_staircase), sl_l_staircase⟩)
    (c_l_staircase : PySem.W.codeIn K (.ref cc1) "_law_staircase" = true)
    (k_l_staircase : PySem.W.keepIn K (.ref f_l_staircase) = true)
    (a_l_held : PySem.W.nsIn K mainGlobals "_law_held" = some (some (.ref f_l_held)))
    (l_l_held : K.lookup f_l_held = some ⟨oc_l_held, od_l_held, .func (PySem.W.fnOf "_law_held" "_law_held" (defArgs S_l_held) (defBody S_l_held) (defScope S_l_held) .none kV_l_held dc_l_held pm_l_held an_l_held cd_l_held ct_l_held), sl_l_held⟩)
    (c_l_held : PySem.W.codeIn K cd_l_held "_law_held" = true)
    (k_l_held : PySem.W.keepIn K (.ref f_l_held) = true)
    (a_l_size : PySem.W.nsIn K mainGlobals "_law_size" = some (some (.ref f_l_size)))
    (l_l_size : K.lookup f_l_size = some ⟨oc_l_size, od_l_size, .func (PySem.W.fnOf "_law_size" "_law_size" (defArgs S_l_size) (defBody S_l_size) (defScope S_l_size) .none kV_l_size dc_l_size pm_l_size an_l_size cd_l_size ct_l_size), sl_l_size⟩)
    (c_l_size : PySem.W.codeIn K cd_l_size "_law_size" = true)
    (k_l_size : PySem.W.keepIn K (.ref f_l_size) = true)
    (a_l_beside : PySem.W.nsIn K mainGlobals "_law_beside" = some (some (.ref f_l_beside)))
    (l_l_beside : K.lookup f_l_beside = some ⟨oc_l_beside, od_l_beside, .func (PySem.W.fnOf "_law_beside" "_law_beside" (defArgs S_l_beside) (defBody S_l_beside) (defScope S_l_beside) .none kV_l_beside dc_l_beside pm_l_beside an_l_beside cd_l_beside ct_l_beside), sl_l_beside⟩)
    (c_l_beside : PySem.W.codeIn K cd_l_beside "_law_beside" = true)
    (k_l_beside : PySem.W.keepIn K (.ref f_l_beside) = true)
    (a_l_few : PySem.W.nsIn K mainGlobals "_law_few" = some (some (.ref f_l_few)))
    (l_l_few : K.lookup f_l_few = some ⟨oc_l_few, od_l_few, .func (PySem.W.fnOf "_law_few" "_law_few" (defArgs S_l_few) (defBody S_l_few) (defScope S_l_few) .none kV_l_few dc_l_few pm_l_few an_l_few cd_l_few ct_l_few), sl_l_few⟩)
    (c_l_few : PySem.W.codeIn K cd_l_few "_law_few" = true)
    (k_l_few : PySem.W.keepIn K (.ref f_l_few) = true)
    (a_l_grow : PySem.W.nsIn K mainGlobals "_law_grow" = some (some (.ref f_l_grow)))
    (l_l_grow : K.lookup f_l_grow = some ⟨oc_l_grow, od_l_grow, .func (PySem.W.fnOf "_law_grow" "_law_grow" (defArgs S_l_grow) (defBody S_l_grow) (defScope S_l_grow) .none kV_l_grow dc_l_grow pm_l_grow an_l_grow cd_l_grow ct_l_grow), sl_l_grow⟩)
    (c_l_grow : PySem.W.codeIn K cd_l_grow "_law_grow" = true)
    (k_l_grow : PySem.W.keepIn K (.ref f_l_grow) = true)
    (a_l_few_bodies : PySem.W.nsIn K mainGlobals "_law_few_bodies" = some (some (.ref f_l_few_bodies)))
    (l_l_few_bodies : K.lookup f_l_few_bodies = some ⟨oc_l_few_bodies, od_l_few_bodies, .func (PySem.W.fnOf "_law_few_bodies" "_law_few_bodies" (defArgs S_l_few_bodies) (defBody S_l_few_bodies) (defScope S_l_few_bodies) .none kV_l_few_bodies dc_l_few_bodies pm_l_few_bodies an_l_few_bodies cd_l_few_bodies ct_l_few_bodies), sl_l_few_bodies⟩)
    (c_l_few_bodies : PySem.W.codeIn K cd_l_few_bodies "_law_few_bodies" = true)
    (k_l_few_bodies : PySem.W.keepIn K (.ref f_l_few_bodies) = true)
    (a_l_raw : PySem.W.nsIn K mainGlobals "_law_raw" = some (some (.ref f_l_raw)))
    (l_l_raw : K.lookup f_l_raw = some ⟨oc_l_raw, od_l_raw, .func (PySem.W.fnOf "_law_raw" "_law_raw" (defArgs S_l_raw) (defBody S_l_raw) (defScope S_l_raw) .none kV_l_raw dc_l_raw pm_l_raw an_l_raw cd_l_raw ct_l_raw), sl_l_raw⟩)
    (c_l_raw : PySem.W.codeIn K cd_l_raw "_law_raw" = true)
    (k_l_raw : PySem.W.keepIn K (.ref f_l_raw) = true)
    (a_q_law : PySem.W.nsIn K mainGlobals "law" = some (some (.ref f_q_law)))
    (l_q_law : K.lookup f_q_law = some ⟨oc_q_law, od_q_law, .func (PySem.W.fnOf "law" "law" (defArgs S_q_law) (defBody S_q_law) (defScope S_q_law) .none kV_q_law dc_q_law pm_q_law an_q_law (.ref cc2) ct_q_law), sl_q_law⟩)
    (c_q_law : PySem.W.codeIn K (.ref cc2) "law" = true)
    (k_q_law : PySem.W.keepIn K (.ref f_q_law) = true)
    (ch1 : PySem.W.codeHdIn K cc1 P1 = true)
    (nP1 : K.lookup P1 = none)
    (ch2 : PySem.W.codeHdIn K cc2 P2 = true)
    (nP2 : K.lookup P2 = none)
    (ne12 : P1 ≠ P2)
    (tab1 : h.get? P1 = some { cls := .none, data := .fields #[] }) (tab2 : h.get? P2 = some { cls := .none, data := .fields #[] }) : LamX.LawAtS l w K CX0 14 63 "script" mg fa h := by
  have e := hfa.symm.trans (PySem.W.mg_of X G a_q_law)
  cases e
  let T : Txt K mg := {
    z_abs := PySem.W.mg_none_of X G z_abs
    z_all := PySem.W.mg_none_of X G z_all
    z_any := PySem.W.mg_none_of X G z_any
    z_bool := PySem.W.mg_none_of X G z_bool
    z_int := PySem.W.mg_none_of X G z_int
    z_isinstance := PySem.W.mg_none_of X G z_isinstance
    z_len := PySem.W.mg_none_of X G z_len
    z_list := PySem.W.mg_none_of X G z_list
    z_max := PySem.W.mg_none_of X G z_max
    z_min := PySem.W.mg_none_of X G z_min
    z_range := PySem.W.mg_none_of X G z_range
    z_reversed := PySem.W.mg_none_of X G z_reversed
    z_sorted := PySem.W.mg_none_of X G z_sorted
    z_tuple := PySem.W.mg_none_of X G z_tuple
    x_GapError := ⟨C_GapError, PySem.W.mg_of X G xa_GapError, xq_GapError, xk_GapError, xb_GapError, xt_GapError, ⟨xg_GapError, xh_GapError, xb_GapError, xd_GapError, xc_GapError, iN, iT, xm_GapError⟩⟩
    x_BadBody := ⟨C_BadBody, PySem.W.mg_of X G xa_BadBody, xq_BadBody, xk_BadBody, xb_BadBody, xt_BadBody, ⟨xg_BadBody, xh_BadBody, xb_BadBody, xd_BadBody, xc_BadBody, iN, iT, xm_BadBody⟩⟩
    x_BadBy := ⟨C_BadBy, PySem.W.mg_of X G xa_BadBy, xq_BadBy, xk_BadBy, xb_BadBy, xt_BadBy, ⟨xg_BadBy, xh_BadBy, xb_BadBy, xd_BadBy, xc_BadBy, iN, iT, xm_BadBy⟩⟩
    x_BadEnd := ⟨C_BadEnd, PySem.W.mg_of X G xa_BadEnd, xq_BadEnd, xk_BadEnd, xb_BadEnd, xt_BadEnd, ⟨xg_BadEnd, xh_BadEnd, xb_BadEnd, xd_BadEnd, xc_BadEnd, iN, iT, xm_BadEnd⟩⟩
    x_BadForm := ⟨C_BadForm, PySem.W.mg_of X G xa_BadForm, xq_BadForm, xk_BadForm, xb_BadForm, xt_BadForm, ⟨xg_BadForm, xh_BadForm, xb_BadForm, xd_BadForm, xc_BadForm, iN, iT, xm_BadForm⟩⟩
    x_BadLeast := ⟨C_BadLeast, PySem.W.mg_of X G xa_BadLeast, xq_BadLeast, xk_BadLeast, xb_BadLeast, xt_BadLeast, ⟨xg_BadLeast, xh_BadLeast, xb_BadLeast, xd_BadLeast, xc_BadLeast, iN, iT, xm_BadLeast⟩⟩
    x_BadPlace := ⟨C_BadPlace, PySem.W.mg_of X G xa_BadPlace, xq_BadPlace, xk_BadPlace, xb_BadPlace, xt_BadPlace, ⟨xg_BadPlace, xh_BadPlace, xb_BadPlace, xd_BadPlace, xc_BadPlace, iN, iT, xm_BadPlace⟩⟩
    x_BadStairs := ⟨C_BadStairs, PySem.W.mg_of X G xa_BadStairs, xq_BadStairs, xk_BadStairs, xb_BadStairs, xt_BadStairs, ⟨xg_BadStairs, xh_BadStairs, xb_BadStairs, xd_BadStairs, xc_BadStairs, iN, iT, xm_BadStairs⟩⟩
    x_BadStart := ⟨C_BadStart, PySem.W.mg_of X G xa_BadStart, xq_BadStart, xk_BadStart, xb_BadStart, xt_BadStart, ⟨xg_BadStart, xh_BadStart, xb_BadStart, xd_BadStart, xc_BadStart, iN, iT, xm_BadStart⟩⟩
    x_NotJoined := ⟨C_NotJoined, PySem.W.mg_of X G xa_NotJoined, xq_NotJoined, xk_NotJoined, xb_NotJoined, xt_NotJoined, ⟨xg_NotJoined, xh_NotJoined, xb_NotJoined, xd_NotJoined, xc_NotJoined, iN, iT, xm_NotJoined⟩⟩
    u_BadBody := u_BadBody
    u_BadBy := u_BadBy
    u_BadEnd := u_BadEnd
    u_BadForm := u_BadForm
    u_BadLeast := u_BadLeast
    u_BadPlace := u_BadPlace
    u_BadStairs := u_BadStairs
    u_BadStart := u_BadStart
    u_NotJoined := u_NotJoined
    C := C
    gC := PySem.W.mg_of X G aC
    cls := ⟨pg, hd, po, sa⟩
    nB := nB
    nF_start := nF_start
    nF_end := nF_end
    nF_stairs := nF_stairs
    nF_least := nF_least
    nF_by := nF_by
    fI := f_I
    dI := _
    M := ⟨mk, in_, ii, kc⟩
    FI := fun_mk (st := S_q_Form_init) l_I c_I k_I
    bI := (fun_mk (st := S_q_Form_init) l_I c_I k_I).binds (ps := ["self", "start", "end", "stairs", "least", "by"]) fun _ _ _ _ _ _ us hl => match us, hl with | [_, _, _, _, _, _], _ => rfl
    f_eq := f_eq
    d_eq := _
    F_eq := fun_mk (st := S_q_Form_eq) l_eq c_eq k_eq
    b_eq := (fun_mk (st := S_q_Form_eq) l_eq c_eq k_eq).binds (ps := ["self", "other"]) fun _ _ _ _ _ _ us hl => match us, hl with | [_, _], _ => rfl
    o_eq := o_eq
    i_eq := i_eq
    neC := neC
    f_mul := f_mul
    d_mul := _
    F_mul := fun_mk (st := S_q_Form_mul) l_mul c_mul k_mul
    b_mul := (fun_mk (st := S_q_Form_mul) l_mul c_mul k_mul).binds (ps := ["self", "other"]) fun _ _ _ _ _ _ us hl => match us, hl with | [_, _], _ => rfl
    o_mul := o_mul
    i_mul := i_mul
    f_rmul := f_rmul
    d_rmul := _
    F_rmul := fun_mk (st := S_q_Form_rmul) l_rmul c_rmul k_rmul
    b_rmul := (fun_mk (st := S_q_Form_rmul) l_rmul c_rmul k_rmul).binds (ps := ["self", "other"]) fun _ _ _ _ _ _ us hl => match us, hl with | [_, _], _ => rfl
    o_rmul := o_rmul
    i_rmul := i_rmul
    kb_tuple := kb_tuple
    kb_str := kb_str
    kb_int := kb_int
    kb_bool := kb_bool
    kb_list := kb_list
    kb_dict := kb_dict
    sfC := sfC
    kNoneType := kNoneType
    ktuple := ktuple
    kstr := kstr
    kint := kint
    kbool := kbool
    klist := klist
    kdict := kdict
    n_BadBody := n_BadBody
    n_BadBy := n_BadBy
    n_BadEnd := n_BadEnd
    n_BadForm := n_BadForm
    n_BadLeast := n_BadLeast
    n_BadPlace := n_BadPlace
    n_BadStairs := n_BadStairs
    n_BadStart := n_BadStart
    n_NotJoined := n_NotJoined
    iA := iA
    iN := iN
    iT := iT
    iM := iM
    kD := kD
    e_BadBody := e_BadBody
    e_BadBy := e_BadBy
    e_BadEnd := e_BadEnd
    e_BadForm := e_BadForm
    e_BadLeast := e_BadLeast
    e_BadPlace := e_BadPlace
    e_BadStairs := e_BadStairs
    e_BadStart := e_BadStart
    e_NotJoined := e_NotJoined
    q_is_number := ⟨_, _, fun_mk (st := S_q_is_number) l_q_is_number c_q_is_number k_q_is_number, PySem.W.mg_of X G a_q_is_number, (fun_mk (st := S_q_is_number) l_q_is_number c_q_is_number k_q_is_number).binds (ps := ["thing"]) fun _ _ _ _ _ _ us hl => match us, hl with | [_], _ => rfl⟩
    q_is_number_pair := ⟨_, _, fun_mk (st := S_q_is_number_pair) l_q_is_number_pair c_q_is_number_pair k_q_is_number_pair, PySem.W.mg_of X G a_q_is_number_pair, (fun_mk (st := S_q_is_number_pair) l_q_is_number_pair c_q_is_number_pair k_q_is_number_pair).binds (ps := ["thing"]) fun _ _ _ _ _ _ us hl => match us, hl with | [_], _ => rfl⟩
    q_check_by := ⟨_, _, fun_mk (st := S_q_check_by) l_q_check_by c_q_check_by k_q_check_by, PySem.W.mg_of X G a_q_check_by, (fun_mk (st := S_q_check_by) l_q_check_by c_q_check_by k_q_check_by).binds (ps := ["by"]) fun _ _ _ _ _ _ us hl => match us, hl with | [_], _ => rfl⟩
    q_is_size := ⟨_, _, fun_mk (st := S_q_is_size) l_q_is_size c_q_is_size k_q_is_size, PySem.W.mg_of X G a_q_is_size, (fun_mk (st := S_q_is_size) l_q_is_size c_q_is_size k_q_is_size).binds (ps := ["thing"]) fun _ _ _ _ _ _ us hl => match us, hl with | [_], _ => rfl⟩
    q_is_body := ⟨_, _, fun_mk (st := S_q_is_body) l_q_is_body c_q_is_body k_q_is_body, PySem.W.mg_of X G a_q_is_body, (fun_mk (st := S_q_is_body) l_q_is_body c_q_is_body k_q_is_body).binds (ps := ["thing"]) fun _ _ _ _ _ _ us hl => match us, hl with | [_], _ => rfl⟩
    q_is_corner := ⟨_, _, fun_mk (st := S_q_is_corner) l_q_is_corner c_q_is_corner k_q_is_corner, PySem.W.mg_of X G a_q_is_corner, (fun_mk (st := S_q_is_corner) l_q_is_corner c_q_is_corner k_q_is_corner).binds (ps := ["thing"]) fun _ _ _ _ _ _ us hl => match us, hl with | [_], _ => rfl⟩
    q_check_body := ⟨_, _, fun_mk (st := S_q_check_body) l_q_check_body c_q_check_body k_q_check_body, PySem.W.mg_of X G a_q_check_body, (fun_mk (st := S_q_check_body) l_q_check_body c_q_check_body k_q_check_body).binds (ps := ["body"]) fun _ _ _ _ _ _ us hl => match us, hl with | [_], _ => rfl⟩
    q_is_above := ⟨_, _, fun_mk (st := S_q_is_above) l_q_is_above c_q_is_above k_q_is_above, PySem.W.mg_of X G a_q_is_above, (fun_mk (st := S_q_is_above) l_q_is_above c_q_is_above k_q_is_above).binds (ps := ["one", "other"]) fun _ _ _ _ _ _ us hl => match us, hl with | [_, _], _ => rfl⟩
    q_lesser := ⟨_, _, fun_mk (st := S_q_lesser) l_q_lesser c_q_lesser k_q_lesser, PySem.W.mg_of X G a_q_lesser, (fun_mk (st := S_q_lesser) l_q_lesser c_q_lesser k_q_lesser).binds (ps := ["one", "other"]) fun _ _ _ _ _ _ us hl => match us, hl with | [_, _], _ => rfl⟩
    q_encloses := ⟨_, _, fun_mk (st := S_q_encloses) l_q_encloses c_q_encloses k_q_encloses, PySem.W.mg_of X G a_q_encloses, (fun_mk (st := S_q_encloses) l_q_encloses c_q_encloses k_q_encloses).binds (ps := ["corner", "inner"]) fun _ _ _ _ _ _ us hl => match us, hl with | [_, _], _ => rfl⟩
    q_is_stairs := ⟨_, _, fun_mk (st := S_q_is_stairs) l_q_is_stairs c_q_is_stairs k_q_is_stairs, PySem.W.mg_of X G a_q_is_stairs, (fun_mk (st := S_q_is_stairs) l_q_is_stairs c_q_is_stairs k_q_is_stairs).binds (ps := ["thing"]) fun _ _ _ _ _ _ us hl => match us, hl with | [_], _ => rfl⟩
    q_is_step := ⟨_, _, fun_mk (st := S_q_is_step) l_q_is_step c_q_is_step k_q_is_step, PySem.W.mg_of X G a_q_is_step, (fun_mk (st := S_q_is_step) l_q_is_step c_q_is_step k_q_is_step).binds (ps := ["corner", "further"]) fun _ _ _ _ _ _ us hl => match us, hl with | [_, _], _ => rfl⟩
    q_check_stairs := ⟨_, _, fun_mk (st := S_q_check_stairs) l_q_check_stairs c_q_check_stairs k_q_check_stairs, PySem.W.mg_of X G a_q_check_stairs, (fun_mk (st := S_q_check_stairs) l_q_check_stairs c_q_check_stairs k_q_check_stairs).binds (ps := ["stairs"]) fun _ _ _ _ _ _ us hl => match us, hl with | [_], _ => rfl⟩
    q_corner_order := ⟨_, _, fun_mk (st := S_q_corner_order) l_q_corner_order c_q_corner_order k_q_corner_order, PySem.W.mg_of X G a_q_corner_order, (fun_mk (st := S_q_corner_order) l_q_corner_order c_q_corner_order k_q_corner_order).binds (ps := ["corner"]) fun _ _ _ _ _ _ us hl => match us, hl with | [_], _ => rfl⟩
    q_stairs_of := ⟨_, _, fun_mk (st := S_q_stairs_of) l_q_stairs_of c_q_stairs_of k_q_stairs_of, PySem.W.mg_of X G a_q_stairs_of, (fun_mk (st := S_q_stairs_of) l_q_stairs_of c_q_stairs_of k_q_stairs_of).binds (ps := ["corners"]) fun _ _ _ _ _ _ us hl => match us, hl with | [_], _ => rfl⟩
    q_has := ⟨_, _, fun_mk (st := S_q_has) l_q_has c_q_has k_q_has, PySem.W.mg_of X G a_q_has, (fun_mk (st := S_q_has) l_q_has c_q_has k_q_has).binds (ps := ["stairs", "corner"]) fun _ _ _ _ _ _ us hl => match us, hl with | [_, _], _ => rfl⟩
    q_both := ⟨_, _, fun_mk (st := S_q_both) l_q_both c_q_both k_q_both, PySem.W.mg_of X G a_q_both, (fun_mk (st := S_q_both) l_q_both c_q_both k_q_both).binds (ps := ["one", "other"]) fun _ _ _ _ _ _ us hl => match us, hl with | [_, _], _ => rfl⟩
    q_met := ⟨_, _, fun_mk (st := S_q_met) l_q_met c_q_met k_q_met, PySem.W.mg_of X G a_q_met, (fun_mk (st := S_q_met) l_q_met c_q_met k_q_met).binds (ps := ["one", "other"]) fun _ _ _ _ _ _ us hl => match us, hl with | [_, _], _ => rfl⟩
    q_moved_item := ⟨_, _, fun_mk (st := S_q_moved_item) l_q_moved_item c_q_moved_item k_q_moved_item, PySem.W.mg_of X G a_q_moved_item, (fun_mk (st := S_q_moved_item) l_q_moved_item c_q_moved_item k_q_moved_item).binds (ps := ["item", "by"]) fun _ _ _ _ _ _ us hl => match us, hl with | [_, _], _ => rfl⟩
    q_moved := ⟨_, _, fun_mk (st := S_q_moved) l_q_moved c_q_moved k_q_moved, PySem.W.mg_of X G a_q_moved, (fun_mk (st := S_q_moved) l_q_moved c_q_moved k_q_moved).binds (ps := ["stairs", "least", "by"]) fun _ _ _ _ _ _ us hl => match us, hl with | [_, _, _], _ => rfl⟩
    q_is_any_place := ⟨_, _, fun_mk (st := S_q_is_any_place) l_q_is_any_place c_q_is_any_place k_q_is_any_place, PySem.W.mg_of X G a_q_is_any_place, (fun_mk (st := S_q_is_any_place) l_q_is_any_place c_q_is_any_place k_q_is_any_place).binds (ps := ["thing"]) fun _ _ _ _ _ _ us hl => match us, hl with | [_], _ => rfl⟩
    q_greatest := ⟨_, _, fun_mk (st := S_q_greatest) l_q_greatest c_q_greatest k_q_greatest, PySem.W.mg_of X G a_q_greatest, (fun_mk (st := S_q_greatest) l_q_greatest c_q_greatest k_q_greatest).binds (ps := ["stairs", "index"]) fun _ _ _ _ _ _ us hl => match us, hl with | [_, _], _ => rfl⟩
    q_grown := ⟨_, _, fun_mk (st := S_q_grown) l_q_grown c_q_grown k_q_grown, PySem.W.mg_of X G a_q_grown, (fun_mk (st := S_q_grown) l_q_grown c_q_grown k_q_grown).binds (ps := ["least", "by", "size"]) fun _ _ _ _ _ _ us hl => match us, hl with | [_, _, _], _ => rfl⟩
    q_plain_by := ⟨_, _, fun_mk (st := S_q_plain_by) l_q_plain_by c_q_plain_by k_q_plain_by, PySem.W.mg_of X G a_q_plain_by, (fun_mk (st := S_q_plain_by) l_q_plain_by c_q_plain_by k_q_plain_by).binds (ps := ["stairs", "least", "by", "index"]) fun _ _ _ _ _ _ us hl => match us, hl with | [_, _, _, _], _ => rfl⟩
    q_body_behind := ⟨_, _, fun_mk (st := S_q_body_behind) l_q_body_behind c_q_body_behind k_q_body_behind, PySem.W.mg_of X G a_q_body_behind, (fun_mk (st := S_q_body_behind) l_q_body_behind c_q_body_behind k_q_body_behind).binds (ps := ["form", "body"]) fun _ _ _ _ _ _ us hl => match us, hl with | [_, _], _ => rfl⟩
    q_followed := ⟨_, _, fun_mk (st := S_q_followed) l_q_followed c_q_followed k_q_followed, PySem.W.mg_of X G a_q_followed, (fun_mk (st := S_q_followed) l_q_followed c_q_followed k_q_followed).binds (ps := ["one", "other"]) fun _ _ _ _ _ _ us hl => match us, hl with | [_, _], _ => rfl⟩
    q_still_at := ⟨_, _, fun_mk (st := S_q_still_at) l_q_still_at c_q_still_at k_q_still_at, PySem.W.mg_of X G a_q_still_at, (fun_mk (st := S_q_still_at) l_q_still_at c_q_still_at k_q_still_at).binds (ps := ["place", "stairs"]) fun _ _ _ _ _ _ us hl => match us, hl with | [_, _], _ => rfl⟩
    q_check_form := ⟨_, _, fun_mk (st := S_q_check_form) l_q_check_form c_q_check_form k_q_check_form, PySem.W.mg_of X G a_q_check_form, (fun_mk (st := S_q_check_form) l_q_check_form c_q_check_form k_q_check_form).binds (ps := ["form"]) fun _ _ _ _ _ _ us hl => match us, hl with | [_], _ => rfl⟩
    q_check_any_place := ⟨_, _, fun_mk (st := S_q_check_any_place) l_q_check_any_place c_q_check_any_place k_q_check_any_place, PySem.W.mg_of X G a_q_check_any_place, (fun_mk (st := S_q_check_any_place) l_q_check_any_place c_q_check_any_place k_q_check_any_place).binds (ps := ["place"]) fun _ _ _ _ _ _ us hl => match us, hl with | [_], _ => rfl⟩
    q_end_size := ⟨_, _, fun_mk (st := S_q_end_size) l_q_end_size c_q_end_size k_q_end_size, PySem.W.mg_of X G a_q_end_size, (fun_mk (st := S_q_end_size) l_q_end_size c_q_end_size k_q_end_size).binds (ps := ["form", "body"]) fun _ _ _ _ _ _ us hl => match us, hl with | [_, _], _ => rfl⟩
    q_still := ⟨_, _, fun_mk (st := S_q_still) l_q_still c_q_still k_q_still, PySem.W.mg_of X G a_q_still, (fun_mk (st := S_q_still) l_q_still c_q_still k_q_still).binds (ps := ["place", "stairs"]) fun _ _ _ _ _ _ us hl => match us, hl with | [_, _], _ => rfl⟩
    l_begun := ⟨_, _, fun_mk (st := S_l_begun) l_l_begun c_l_begun k_l_begun, PySem.W.mg_of X G a_l_begun, (fun_mk (st := S_l_begun) l_l_begun c_l_begun k_l_begun).binds (ps := ["script"]) fun _ _ _ _ _ _ us hl => match us, hl with | [_], _ => rfl⟩
    l_mixed := ⟨_, _, fun_mk (st := S_l_mixed) l_l_mixed c_l_mixed k_l_mixed, PySem.W.mg_of X G a_l_mixed, (fun_mk (st := S_l_mixed) l_l_mixed c_l_mixed k_l_mixed).binds (ps := ["draw"]) fun _ _ _ _ _ _ us hl => match us, hl with | [_], _ => rfl⟩
    l_take := ⟨_, _, fun_mk (st := S_l_take) l_l_take c_l_take k_l_take, PySem.W.mg_of X G a_l_take, (fun_mk (st := S_l_take) l_l_take c_l_take k_l_take).binds (ps := ["draw", "many"]) fun _ _ _ _ _ _ us hl => match us, hl with | [_, _], _ => rfl⟩
    l_pick := ⟨_, _, fun_mk (st := S_l_pick) l_l_pick c_l_pick k_l_pick, PySem.W.mg_of X G a_l_pick, (fun_mk (st := S_l_pick) l_l_pick c_l_pick k_l_pick).binds (ps := ["draw", "some"]) fun _ _ _ _ _ _ us hl => match us, hl with | [_, _], _ => rfl⟩
    l_caught := ⟨_, _, fun_mk (st := S_l_caught) l_l_caught c_l_caught k_l_caught, PySem.W.mg_of X G a_l_caught, (fun_mk (st := S_l_caught) l_l_caught c_l_caught k_l_caught).binds (ps := ["task"]) fun _ _ _ _ _ _ us hl => match us, hl with | [_], _ => rfl⟩
    l_least := ⟨_, _, fun_mk (st := S_l_least) l_l_least c_l_least k_l_least, PySem.W.mg_of X G a_l_least, (fun_mk (st := S_l_least) l_l_least c_l_least k_l_least).binds (ps := ["one", "other"]) fun _ _ _ _ _ _ us hl => match us, hl with | [_, _], _ => rfl⟩
    l_holds := ⟨_, _, fun_mk (st := S_l_holds) l_l_holds c_l_holds k_l_holds, PySem.W.mg_of X G a_l_holds, (fun_mk (st := S_l_holds) l_l_holds c_l_holds k_l_holds).binds (ps := ["corner", "body"]) fun _ _ _ _ _ _ us hl => match us, hl with | [_, _], _ => rfl⟩
    l_rank := ⟨_, _, fun_mk (st := S_l_rank) l_l_rank c_l_rank k_l_rank, PySem.W.mg_of X G a_l_rank, (fun_mk (st := S_l_rank) l_l_rank c_l_rank k_l_rank).binds (ps := ["item"]) fun _ _ _ _ _ _ us hl => match us, hl with | [_], _ => rfl⟩
    l_staircase := ⟨_, _, fun_mk (st := S_l_staircase) l_l_staircase c_l_staircase k_l_staircase, PySem.W.mg_of X G a_l_staircase, (fun_mk (st := S_l_staircase) l_l_staircase c_l_staircase k_l_staircase).binds (ps := ["corners"]) fun _ _ _ _ _ _ us hl => match us, hl with | [_], _ => rfl⟩
    l_held := ⟨_, _, fun_mk (st := S_l_held) l_l_held c_l_held k_l_held, PySem.W.mg_of X G a_l_held, (fun_mk (st := S_l_held) l_l_held c_l_held k_l_held).binds (ps := ["stairs", "body"]) fun _ _ _ _ _ _ us hl => match us, hl with | [_, _], _ => rfl⟩
    l_size := ⟨_, _, fun_mk (st := S_l_size) l_l_size c_l_size k_l_size, PySem.W.mg_of X G a_l_size, (fun_mk (st := S_l_size) l_l_size c_l_size k_l_size).binds (ps := ["draw"]) fun _ _ _ _ _ _ us hl => match us, hl with | [_], _ => rfl⟩
    l_beside := ⟨_, _, fun_mk (st := S_l_beside) l_l_beside c_l_beside k_l_beside, PySem.W.mg_of X G a_l_beside, (fun_mk (st := S_l_beside) l_l_beside c_l_beside k_l_beside).binds (ps := ["draw", "corners"]) fun _ _ _ _ _ _ us hl => match us, hl with | [_, _], _ => rfl⟩
    l_few := ⟨_, _, fun_mk (st := S_l_few) l_l_few c_l_few k_l_few, PySem.W.mg_of X G a_l_few, (fun_mk (st := S_l_few) l_l_few c_l_few k_l_few).binds (ps := ["draw", "most"]) fun _ _ _ _ _ _ us hl => match us, hl with | [_, _], _ => rfl⟩
    l_grow := ⟨_, _, fun_mk (st := S_l_grow) l_l_grow c_l_grow k_l_grow, PySem.W.mg_of X G a_l_grow, (fun_mk (st := S_l_grow) l_l_grow c_l_grow k_l_grow).binds (ps := ["least", "by", "body"]) fun _ _ _ _ _ _ us hl => match us, hl with | [_, _, _], _ => rfl⟩
    l_few_bodies := ⟨_, _, fun_mk (st := S_l_few_bodies) l_l_few_bodies c_l_few_bodies k_l_few_bodies, PySem.W.mg_of X G a_l_few_bodies, (fun_mk (st := S_l_few_bodies) l_l_few_bodies c_l_few_bodies k_l_few_bodies).binds (ps := ["many"]) fun _ _ _ _ _ _ us hl => match us, hl with | [_], _ => rfl⟩
    l_raw := ⟨_, _, fun_mk (st := S_l_raw) l_l_raw c_l_raw k_l_raw, PySem.W.mg_of X G a_l_raw, (fun_mk (st := S_l_raw) l_l_raw c_l_raw k_l_raw).binds (ps := ["draw"]) fun _ _ _ _ _ _ us hl => match us, hl with | [_], _ => rfl⟩
    q_law := ⟨_, _, fun_mk (st := S_q_law) l_q_law c_q_law k_q_law, PySem.W.mg_of X G a_q_law, (fun_mk (st := S_q_law) l_q_law c_q_law k_q_law).binds (ps := ["script"]) fun _ _ _ _ _ _ us hl => match us, hl with | [_], _ => rfl⟩ }
  have two : ∀ {A : (Addr × Addr) → Prop}, A (cc1, P1) → A (cc2, P2) → ∀ p ∈ [(cc1, P1), (cc2, P2)], A p := fun {A} h1 h2 p hp => by
    rcases List.mem_cons.mp hp with z | z
    · rw [z]
      exact h1
    · rw [List.mem_singleton.mp z]
      exact h2
  have m1 : (cc1, P1) ∈ [(cc1, P1), (cc2, P2)] := List.mem_cons_self
  have m2 : (cc2, P2) ∈ [(cc1, P1), (cc2, P2)] := List.mem_cons_of_mem _ (List.mem_singleton.mpr rfl)
  refine ⟨T.q_law.d, [(cc1, P1), (cc2, P2)], spLaw K [(P1, stairQ), (P2, lawQ)], two tab1 tab2, two nP1 nP2, two (PySem.W.codeHd_of_K X ch1) (PySem.W.codeHd_of_K X ch2), fun s u => .of_eq rfl, fun H a ns hl _ hT hS => ⟨a, ns, rfl, hS, hl, fun q hq => ?_, fun _ => rfl⟩, fun base _ _ TB => ok_law T ⟨cc1, P1, rfl, TB _ m1, List.mem_cons_self, fun p hp e => ?_⟩ ⟨cc2, P2, rfl, TB _ m2, List.mem_cons_of_mem _ (List.mem_singleton.mpr rfl), fun p hp e => ?_⟩⟩
  · rcases List.mem_cons.mp hq with z | z
    · rw [z]
      exact LamX.TabS.nil (hT _ m1)
    · rw [List.mem_singleton.mp z]
      exact LamX.TabS.nil (hT _ m2)
  · rcases List.mem_cons.mp hp with z | z
    · rw [z]
    · rw [List.mem_singleton.mp z] at e
      exact absurd e.symm ne12
  · rcases List.mem_cons.mp hp with z | z
    · rw [z] at e
      exact absurd e ne12
    · rw [List.mem_singleton.mp z]
end G21
set_option Elab.async false
set_option linter.all false
set_option maxRecDepth 100000
set_option maxHeartbeats 4000000
open PySem PySem.W PyProof.Rows in
set_option maxRecDepth 100000 in
set_option maxHeartbeats 0 in
theorem PySem.Challenge.cw_gapstairs_k87_whole_one_form_for_two_holds : PySem.Challenge.rw_gapstairs_k87_whole_one_form_for_two.Holds := by
  w_on; o_law; k_head; (case hw => w_witness2)
  k_fill
  refine LamX.walk_ofTs (l := PySem.Challenge.rw_gapstairs_k87_whole_one_form_for_two) (n := 63) (k := 14) (x := "script") (CX := fun _ => L2.CX0) rfl (by decide) rfl ⟨rfl, by decide, by decide⟩ (fun w h Y => PySem.W.km_in_of Y) ?F (fun _ _ _ _ _ z => z)
  case F =>
    intro w mg fa h Y KX G hmg
    refine' G21.law_at (P1 := 442) (P2 := 492) KX G hmg ?z_abs ?z_all ?z_any ?z_bool ?z_int ?z_isinstance ?z_len ?z_list ?z_max ?z_min ?z_range ?z_reversed ?z_sorted ?z_tuple ?iN ?iT ?xa_GapError ?xq_GapError ?xk_GapError ?xb_GapError ?xt_GapError ?xg_GapError ?xh_GapError ?xd_GapError ?xc_GapError ?xm_GapError ?xa_BadBody ?xq_BadBody ?xk_BadBody ?xb_BadBody ?xt_BadBody ?xg_BadBody ?xh_BadBody ?xd_BadBody ?xc_BadBody ?xm_BadBody ?xa_BadBy ?xq_BadBy ?xk_BadBy ?xb_BadBy ?xt_BadBy ?xg_BadBy ?xh_BadBy ?xd_BadBy ?xc_BadBy ?xm_BadBy ?xa_BadEnd ?xq_BadEnd ?xk_BadEnd ?xb_BadEnd ?xt_BadEnd ?xg_BadEnd ?xh_BadEnd ?xd_BadEnd ?xc_BadEnd ?xm_BadEnd ?xa_BadForm ?xq_BadForm ?xk_BadForm ?xb_BadForm ?xt_BadForm ?xg_BadForm ?xh_BadForm ?xd_BadForm ?xc_BadForm ?xm_BadForm ?xa_BadLeast ?xq_BadLeast ?xk_BadLeast ?xb_BadLeast ?xt_BadLeast ?xg_BadLeast ?xh_BadLeast ?xd_BadLeast ?xc_BadLeast ?xm_BadLeast ?xa_BadPlace ?xq_BadPlace ?xk_BadPlace ?xb_BadPlace ?xt_BadPlace ?xg_BadPlace ?xh_BadPlace ?xd_BadPlace ?xc_BadPlace ?xm_BadPlace ?xa_BadStairs ?xq_BadStairs ?xk_BadStairs ?xb_BadStairs ?xt_BadStairs ?xg_BadStairs ?xh_BadStairs ?xd_BadStairs ?xc_BadStairs ?xm_BadStairs ?xa_BadStart ?xq_BadStart ?xk_BadStart ?xb_BadStart ?xt_BadStart ?xg_BadStart ?xh_BadStart ?xd_BadStart ?xc_BadStart ?xm_BadStart ?xa_NotJoined ?xq_NotJoined ?xk_NotJoined ?xb_NotJoined ?xt_NotJoined ?xg_NotJoined ?xh_NotJoined ?xd_NotJoined ?xc_NotJoined ?xm_NotJoined ?u_BadBody ?u_BadBy ?u_BadEnd ?u_BadForm ?u_BadLeast ?u_BadPlace ?u_BadStairs ?u_BadStart ?u_NotJoined ?aC ?pg ?hd ?po ?sa ?nB ?nF_start ?nF_end ?nF_stairs ?nF_least ?nF_by ?in_ ?l_I ?c_I ?k_I ?ii ?mk ?kc ?o_eq ?l_eq ?c_eq ?k_eq ?i_eq ?neC ?o_mul ?l_mul ?c_mul ?k_mul ?i_mul ?o_rmul ?l_rmul ?c_rmul ?k_rmul ?i_rmul ?iA ?iM ?kD ?kb_tuple ?kb_str ?kb_int ?kb_bool ?kb_list ?kb_dict ?sfC ?kNoneType ?ktuple ?kstr ?kint ?kbool ?klist ?kdict ?n_BadBody ?n_BadBy ?n_BadEnd ?n_BadForm ?n_BadLeast ?n_BadPlace ?n_BadStairs ?n_BadStart ?n_NotJoined ?e_BadBody ?e_BadBy ?e_BadEnd ?e_BadForm ?e_BadLeast ?e_BadPlace ?e_BadStairs ?e_BadStart ?e_NotJoined ?a_q_is_number ?l_q_is_number ?c_q_is_number ?k_q_is_number ?a_q_is_number_pair ?l_q_is_number_pair ?c_q_is_number_pair ?k_q_is_number_pair ?a_q_check_by ?l_q_check_by ?c_q_check_by ?k_q_check_by ?a_q_is_size ?l_q_is_size ?c_q_is_size ?k_q_is_size ?a_q_is_body ?l_q_is_body ?c_q_is_body ?k_q_is_body ?a_q_is_corner ?l_q_is_corner ?c_q_is_corner ?k_q_is_corner ?a_q_check_body ?l_q_check_body ?c_q_check_body ?k_q_check_body ?a_q_is_above ?l_q_is_above ?c_q_is_above ?k_q_is_above ?a_q_lesser ?l_q_lesser ?c_q_lesser ?k_q_lesser ?a_q_encloses ?l_q_encloses ?c_q_encloses ?k_q_encloses ?a_q_is_stairs ?l_q_is_stairs ?c_q_is_stairs ?k_q_is_stairs ?a_q_is_step ?l_q_is_step ?c_q_is_step ?k_q_is_step ?a_q_check_stairs ?l_q_check_stairs ?c_q_check_stairs ?k_q_check_stairs ?a_q_corner_order ?l_q_corner_order ?c_q_corner_order ?k_q_corner_order ?a_q_stairs_of ?l_q_stairs_of ?c_q_stairs_of ?k_q_stairs_of ?a_q_has ?l_q_has ?c_q_has ?k_q_has ?a_q_both ?l_q_both ?c_q_both ?k_q_both ?a_q_met ?l_q_met ?c_q_met ?k_q_met ?a_q_moved_item ?l_q_moved_item ?c_q_moved_item ?k_q_moved_item ?a_q_moved ?l_q_moved ?c_q_moved ?k_q_moved ?a_q_is_any_place ?l_q_is_any_place ?c_q_is_any_place ?k_q_is_any_place ?a_q_greatest ?l_q_greatest ?c_q_greatest ?k_q_greatest ?a_q_grown ?l_q_grown ?c_q_grown ?k_q_grown ?a_q_plain_by ?l_q_plain_by ?c_q_plain_by ?k_q_plain_by ?a_q_body_behind ?l_q_body_behind ?c_q_body_behind ?k_q_body_behind ?a_q_followed ?l_q_followed ?c_q_followed ?k_q_followed ?a_q_still_at ?l_q_still_at ?c_q_still_at ?k_q_still_at ?a_q_check_form ?l_q_check_form ?c_q_check_form ?k_q_check_form ?a_q_check_any_place ?l_q_check_any_place ?c_q_check_any_place ?k_q_check_any_place ?a_q_end_size ?l_q_end_size ?c_q_end_size ?k_q_end_size ?a_q_still ?l_q_still ?c_q_still ?k_q_still ?a_l_begun ?l_l_begun ?c_l_begun ?k_l_begun ?a_l_mixed ?l_l_mixed ?c_l_mixed ?k_l_mixed ?a_l_take ?l_l_take ?c_l_take ?k_l_take ?a_l_pick ?l_l_pick ?c_l_pick ?k_l_pick ?a_l_caught ?l_l_caught ?c_l_caught ?k_l_caught ?a_l_least ?l_l_least ?c_l_least ?k_l_least ?a_l_holds ?l_l_holds ?c_l_holds ?k_l_holds ?a_l_rank ?l_l_rank ?c_l_rank ?k_l_rank ?a_l_staircase ?l_l_staircase ?c_l_staircase ?k_l_staircase ?a_l_held ?l_l_held ?c_l_held ?k_l_held ?a_l_size ?l_l_size ?c_l_size ?k_l_size ?a_l_beside ?l_l_beside ?c_l_beside ?k_l_beside ?a_l_few ?l_l_few ?c_l_few ?k_l_few ?a_l_grow ?l_l_grow ?c_l_grow ?k_l_grow ?a_l_few_bodies ?l_l_few_bodies ?c_l_few_bodies ?k_l_few_bodies ?a_l_raw ?l_l_raw ?c_l_raw ?k_l_raw ?a_q_law ?l_q_law ?c_q_law ?k_q_law ?ch1 ?nP1 ?ch2 ?nP2 ?ne12 ?tab1 ?tab2
    (case z_abs => k_is)
    (case z_all => k_is)
    (case z_any => k_is)
    (case z_bool => k_is)
    (case z_int => k_is)
    (case z_isinstance => k_is)
    (case z_len => k_is)
    (case z_list => k_is)
    (case z_max => k_is)
    (case z_min => k_is)
    (case z_range => k_is)
    (case z_reversed => k_is)
    (case z_sorted => k_is)
    (case z_tuple => k_is)
    (case iN => k_is)
    (case iT => k_is)
    (case xa_GapError => k_is)
    (case xq_GapError => kernel_rfl)
    (case xk_GapError => k_is)
    (case xb_GapError => k_is)
    (case xt_GapError => k_is)
    (case xg_GapError => k_is)
    (case xh_GapError => k_is)
    (case xd_GapError => k_is)
    (case xc_GapError => k_is)
    (case xm_GapError => k_is)
    (case xa_BadBody => k_is)
    (case xq_BadBody => kernel_rfl)
    (case xk_BadBody => k_is)
    (case xb_BadBody => k_is)
    (case xt_BadBody => k_is)
    (case xg_BadBody => k_is)
    (case xh_BadBody => k_is)
    (case xd_BadBody => k_is)
    (case xc_BadBody => k_is)
    (case xm_BadBody => k_is)
    (case xa_BadBy => k_is)
    (case xq_BadBy => kernel_rfl)
    (case xk_BadBy => k_is)
    (case xb_BadBy => k_is)
    (case xt_BadBy => k_is)
    (case xg_BadBy => k_is)
    (case xh_BadBy => k_is)
    (case xd_BadBy => k_is)
    (case xc_BadBy => k_is)
    (case xm_BadBy => k_is)
    (case xa_BadEnd => k_is)
    (case xq_BadEnd => kernel_rfl)
    (case xk_BadEnd => k_is)
    (case xb_BadEnd => k_is)
    (case xt_BadEnd => k_is)
    (case xg_BadEnd => k_is)
    (case xh_BadEnd => k_is)
    (case xd_BadEnd => k_is)
    (case xc_BadEnd => k_is)
    (case xm_BadEnd => k_is)
    (case xa_BadForm => k_is)
    (case xq_BadForm => kernel_rfl)
    (case xk_BadForm => k_is)
    (case xb_BadForm => k_is)
    (case xt_BadForm => k_is)
    (case xg_BadForm => k_is)
    (case xh_BadForm => k_is)
    (case xd_BadForm => k_is)
    (case xc_BadForm => k_is)
    (case xm_BadForm => k_is)
    (case xa_BadLeast => k_is)
    (case xq_BadLeast => kernel_rfl)
    (case xk_BadLeast => k_is)
    (case xb_BadLeast => k_is)
    (case xt_BadLeast => k_is)
    (case xg_BadLeast => k_is)
    (case xh_BadLeast => k_is)
    (case xd_BadLeast => k_is)
    (case xc_BadLeast => k_is)
    (case xm_BadLeast => k_is)
    (case xa_BadPlace => k_is)
    (case xq_BadPlace => kernel_rfl)
    (case xk_BadPlace => k_is)
    (case xb_BadPlace => k_is)
    (case xt_BadPlace => k_is)
    (case xg_BadPlace => k_is)
    (case xh_BadPlace => k_is)
    (case xd_BadPlace => k_is)
    (case xc_BadPlace => k_is)
    (case xm_BadPlace => k_is)
    (case xa_BadStairs => k_is)
    (case xq_BadStairs => kernel_rfl)
    (case xk_BadStairs => k_is)
    (case xb_BadStairs => k_is)
    (case xt_BadStairs => k_is)
    (case xg_BadStairs => k_is)
    (case xh_BadStairs => k_is)
    (case xd_BadStairs => k_is)
    (case xc_BadStairs => k_is)
    (case xm_BadStairs => k_is)
    (case xa_BadStart => k_is)
    (case xq_BadStart => kernel_rfl)
    (case xk_BadStart => k_is)
    (case xb_BadStart => k_is)
    (case xt_BadStart => k_is)
    (case xg_BadStart => k_is)
    (case xh_BadStart => k_is)
    (case xd_BadStart => k_is)
    (case xc_BadStart => k_is)
    (case xm_BadStart => k_is)
    (case xa_NotJoined => k_is)
    (case xq_NotJoined => kernel_rfl)
    (case xk_NotJoined => k_is)
    (case xb_NotJoined => k_is)
    (case xt_NotJoined => k_is)
    (case xg_NotJoined => k_is)
    (case xh_NotJoined => k_is)
    (case xd_NotJoined => k_is)
    (case xc_NotJoined => k_is)
    (case xm_NotJoined => k_is)
    (case u_BadBody => kernel_rfl)
    (case u_BadBy => kernel_rfl)
    (case u_BadEnd => kernel_rfl)
    (case u_BadForm => kernel_rfl)
    (case u_BadLeast => kernel_rfl)
    (case u_BadPlace => kernel_rfl)
    (case u_BadStairs => kernel_rfl)
    (case u_BadStart => kernel_rfl)
    (case u_NotJoined => kernel_rfl)
    (case aC => k_is)
    (case pg => k_is)
    (case hd => k_is)
    (case po => k_is)
    (case sa => k_is)
    (case nB => k_is)
    (case nF_start => k_is)
    (case nF_end => k_is)
    (case nF_stairs => k_is)
    (case nF_least => k_is)
    (case nF_by => k_is)
    (case in_ => k_is)
    (case l_I => k_is)
    (case c_I => k_is)
    (case k_I => k_is)
    (case ii => k_is)
    (case mk => k_is)
    (case kc => k_is)
    (case o_eq => k_is)
    (case l_eq => k_is)
    (case c_eq => k_is)
    (case k_eq => k_is)
    (case i_eq => k_is)
    (case neC => k_is)
    (case o_mul => k_is)
    (case l_mul => k_is)
    (case c_mul => k_is)
    (case k_mul => k_is)
    (case i_mul => k_is)
    (case o_rmul => k_is)
    (case l_rmul => k_is)
    (case c_rmul => k_is)
    (case k_rmul => k_is)
    (case i_rmul => k_is)
    (case iA => k_is)
    (case iM => k_is)
    (case kD => kernel_rfl)
    (case kb_tuple => kernel_rfl)
    (case kb_str => kernel_rfl)
    (case kb_int => kernel_rfl)
    (case kb_bool => kernel_rfl)
    (case kb_list => kernel_rfl)
    (case kb_dict => kernel_rfl)
    (case sfC => k_is)
    (case kNoneType => kernel_rfl)
    (case ktuple => kernel_rfl)
    (case kstr => kernel_rfl)
    (case kint => kernel_rfl)
    (case kbool => kernel_rfl)
    (case klist => kernel_rfl)
    (case kdict => kernel_rfl)
    (case n_BadBody => kernel_rfl)
    (case n_BadBy => kernel_rfl)
    (case n_BadEnd => kernel_rfl)
    (case n_BadForm => kernel_rfl)
    (case n_BadLeast => kernel_rfl)
    (case n_BadPlace => kernel_rfl)
    (case n_BadStairs => kernel_rfl)
    (case n_BadStart => kernel_rfl)
    (case n_NotJoined => kernel_rfl)
    (case e_BadBody => kernel_rfl)
    (case e_BadBy => kernel_rfl)
    (case e_BadEnd => kernel_rfl)
    (case e_BadForm => kernel_rfl)
    (case e_BadLeast => kernel_rfl)
    (case e_BadPlace => kernel_rfl)
    (case e_BadStairs => kernel_rfl)
    (case e_BadStart => kernel_rfl)
    (case e_NotJoined => kernel_rfl)
    (case a_q_is_number => k_is)
    (case l_q_is_number => k_is)
    (case c_q_is_number => k_is)
    (case k_q_is_number => k_is)
    (case a_q_is_number_pair => k_is)
    (case l_q_is_number_pair => k_is)
    (case c_q_is_number_pair => k_is)
    (case k_q_is_number_pair => k_is)
    (case a_q_check_by => k_is)
    (case l_q_check_by => k_is)
    (case c_q_check_by => k_is)
    (case k_q_check_by => k_is)
    (case a_q_is_size => k_is)
    (case l_q_is_size => k_is)
    (case c_q_is_size => k_is)
    (case k_q_is_size => k_is)
    (case a_q_is_body => k_is)
    (case l_q_is_body => k_is)
    (case c_q_is_body => k_is)
    (case k_q_is_body => k_is)
    (case a_q_is_corner => k_is)
    (case l_q_is_corner => k_is)
    (case c_q_is_corner => k_is)
    (case k_q_is_corner => k_is)
    (case a_q_check_body => k_is)
    (case l_q_check_body => k_is)
    (case c_q_check_body => k_is)
    (case k_q_check_body => k_is)
    (case a_q_is_above => k_is)
    (case l_q_is_above => k_is)
    (case c_q_is_above => k_is)
    (case k_q_is_above => k_is)
    (case a_q_lesser => k_is)
    (case l_q_lesser => k_is)
    (case c_q_lesser => k_is)
    (case k_q_lesser => k_is)
    (case a_q_encloses => k_is)
    (case l_q_encloses => k_is)
    (case c_q_encloses => k_is)
    (case k_q_encloses => k_is)
    (case a_q_is_stairs => k_is)
    (case l_q_is_stairs => k_is)
    (case c_q_is_stairs => k_is)
    (case k_q_is_stairs => k_is)
    (case a_q_is_step => k_is)
    (case l_q_is_step => k_is)
    (case c_q_is_step => k_is)
    (case k_q_is_step => k_is)
    (case a_q_check_stairs => k_is)
    (case l_q_check_stairs => k_is)
    (case c_q_check_stairs => k_is)
    (case k_q_check_stairs => k_is)
    (case a_q_corner_order => k_is)
    (case l_q_corner_order => k_is)
    (case c_q_corner_order => k_is)
    (case k_q_corner_order => k_is)
    (case a_q_stairs_of => k_is)
    (case l_q_stairs_of => k_is)
    (case c_q_stairs_of => k_is)
    (case k_q_stairs_of => k_is)
    (case a_q_has => k_is)
    (case l_q_has => k_is)
    (case c_q_has => k_is)
    (case k_q_has => k_is)
    (case a_q_both => k_is)
    (case l_q_both => k_is)
    (case c_q_both => k_is)
    (case k_q_both => k_is)
    (case a_q_met => k_is)
    (case l_q_met => k_is)
    (case c_q_met => k_is)
    (case k_q_met => k_is)
    (case a_q_moved_item => k_is)
    (case l_q_moved_item => k_is)
    (case c_q_moved_item => k_is)
    (case k_q_moved_item => k_is)
    (case a_q_moved => k_is)
    (case l_q_moved => k_is)
    (case c_q_moved => k_is)
    (case k_q_moved => k_is)
    (case a_q_is_any_place => k_is)
    (case l_q_is_any_place => k_is)
    (case c_q_is_any_place => k_is)
    (case k_q_is_any_place => k_is)
    (case a_q_greatest => k_is)
    (case l_q_greatest => k_is)
    (case c_q_greatest => k_is)
    (case k_q_greatest => k_is)
    (case a_q_grown => k_is)
    (case l_q_grown => k_is)
    (case c_q_grown => k_is)
    (case k_q_grown => k_is)
    (case a_q_plain_by => k_is)
    (case l_q_plain_by => k_is)
    (case c_q_plain_by => k_is)
    (case k_q_plain_by => k_is)
    (case a_q_body_behind => k_is)
    (case l_q_body_behind => k_is)
    (case c_q_body_behind => k_is)
    (case k_q_body_behind => k_is)
    (case a_q_followed => k_is)
    (case l_q_followed => k_is)
    (case c_q_followed => k_is)
    (case k_q_followed => k_is)
    (case a_q_still_at => k_is)
    (case l_q_still_at => k_is)
    (case c_q_still_at => k_is)
    (case k_q_still_at => k_is)
    (case a_q_check_form => k_is)
    (case l_q_check_form => k_is)
    (case c_q_check_form => k_is)
    (case k_q_check_form => k_is)
    (case a_q_check_any_place => k_is)
    (case l_q_check_any_place => k_is)
    (case c_q_check_any_place => k_is)
    (case k_q_check_any_place => k_is)
    (case a_q_end_size => k_is)
    (case l_q_end_size => k_is)
    (case c_q_end_size => k_is)
    (case k_q_end_size => k_is)
    (case a_q_still => k_is)
    (case l_q_still => k_is)
    (case c_q_still => k_is)
    (case k_q_still => k_is)
    (case a_l_begun => k_is)
    (case l_l_begun => k_is)
    (case c_l_begun => k_is)
    (case k_l_begun => k_is)
    (case a_l_mixed => k_is)
    (case l_l_mixed => k_is)
    (case c_l_mixed => k_is)
    (case k_l_mixed => k_is)
    (case a_l_take => k_is)
    (case l_l_take => k_is)
    (case c_l_take => k_is)
    (case k_l_take => k_is)
    (case a_l_pick => k_is)
    (case l_l_pick => k_is)
    (case c_l_pick => k_is)
    (case k_l_pick => k_is)
    (case a_l_caught => k_is)
    (case l_l_caught => k_is)
    (case c_l_caught => k_is)
    (case k_l_caught => k_is)
    (case a_l_least => k_is)
    (case l_l_least => k_is)
    (case c_l_least => k_is)
    (case k_l_least => k_is)
    (case a_l_holds => k_is)
    (case l_l_holds => k_is)
    (case c_l_holds => k_is)
    (case k_l_holds => k_is)
    (case a_l_rank => k_is)
    (case l_l_rank => k_is)
    (case c_l_rank => k_is)
    (case k_l_rank => k_is)
    (case a_l_staircase => k_is)
    (case l_l_staircase => k_is)
    (case c_l_staircase => k_is)
    (case k_l_staircase => k_is)
    (case a_l_held => k_is)
    (case l_l_held => k_is)
    (case c_l_held => k_is)
    (case k_l_held => k_is)
    (case a_l_size => k_is)
    (case l_l_size => k_is)
    (case c_l_size => k_is)
    (case k_l_size => k_is)
    (case a_l_beside => k_is)
    (case l_l_beside => k_is)
    (case c_l_beside => k_is)
    (case k_l_beside => k_is)
    (case a_l_few => k_is)
    (case l_l_few => k_is)
    (case c_l_few => k_is)
    (case k_l_few => k_is)
    (case a_l_grow => k_is)
    (case l_l_grow => k_is)
    (case c_l_grow => k_is)
    (case k_l_grow => k_is)
    (case a_l_few_bodies => k_is)
    (case l_l_few_bodies => k_is)
    (case c_l_few_bodies => k_is)
    (case k_l_few_bodies => k_is)
    (case a_l_raw => k_is)
    (case l_l_raw => k_is)
    (case c_l_raw => k_is)
    (case k_l_raw => k_is)
    (case a_q_law => k_is)
    (case l_q_law => k_is)
    (case c_q_law => k_is)
    (case k_q_law => k_is)
    (case ch1 => kernel_rfl)
    (case nP1 => kernel_rfl)
    (case ch2 => kernel_rfl)
    (case nP2 => kernel_rfl)
    (case ne12 => decide)
    (case tab1 => exact PySem.W.km_tabs_of Y _ (by decide))
    (case tab2 => exact PySem.W.km_tabs_of Y _ (by decide))
