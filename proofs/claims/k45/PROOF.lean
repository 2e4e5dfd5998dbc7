import PyProof.Rows.All
import PySem.Challenge.RW_panelwatch_k45_whole_trends_as_hearings
import HandS.Defaults
import HandS.Words
import HandS.Head0
import HandS.Head1
import HandS.Head2
import HandS.HeadEnd
import HandS.HeadHook1
import HandS.HeadHook2
import HandS.List
import Wide.All
import OpenK.AllK
import Wide.FinOn
import HandS.ForSpec
import HandS.Comp
import HandS.Dict
import HandS.Iter
import HandS.Text
import HandS.IsInst
import HandS.Wide
import HandS.ExcInit
import HandS.ExcIs
import PyProof.ExcStrAll.ValueError
import PyProof.ReprRoads
import PyProof.CallFns
import HandS.Walk
import HandS.Zip
import HandS.DictTup
import HandS.SortInts
import HandS.IterVal
import HandS.SetBool
import HandS.SetKeys
import HandS.ForMost
import HandS.MakeKwOnly
import HandS.Codes
import HandS.DictComp
import PyProof.ExcBaseAll.LookupError
import PyProof.ExcBaseAll.ValueError
import KE.KExcInit
import HandS.MakeKw
import HandS.ExcField
import HandS.ExcValue
import HandS.TryMany
import HandS.CallSlots
import HandS.WordsExc
import HandS.Star
import HandS.Rev
import HandS.Set
import PyProof.Rows.SortShellAny
import HandS.TupAny
import HandS.TupMul
import HandS.Style
import HandS.Conv
import HandS.ListItems
import KE.KDictList
import HandS.SortRule
import HandS.More
import KE.KDictPairs
import HandS.Small
import KE.DatumOrd
import HandS.SortKw
import HandS.RevRange
import HandS.DeepEq
import PyProof.SliceList
import KE.KSliceW
import HandS.WordsDict
import KE.KEqNest
import PyProof.NeKinds
set_option Elab.async false
set_option linter.all false
set_option maxRecDepth 100000
set_option maxHeartbeats 4000000
namespace V45
open PySem PySem.Spec PyProof.Rows L2
def top (i : Nat) : Stmt := PySem.Challenge.pw_panelwatch_k45_whole_trends_as_hearings.main.body.getD i (.Pass ⟨0, 0, 0, 0⟩)
abbrev sWall : Stmt := top 0
abbrev sIsNumber : Stmt := top 27
abbrev sCheckNumber : Stmt := top 28
abbrev sIsWhole : Stmt := top 29
abbrev sIsName : Stmt := top 30
abbrev sIsTime : Stmt := top 31
abbrev sIsMark : Stmt := top 32
abbrev sIsOneOf : Stmt := top 33
abbrev sIsTuple : Stmt := top 34
abbrev sIsList : Stmt := top 35
abbrev sIsListOf : Stmt := top 36
abbrev sIsRising : Stmt := top 37
abbrev sCheckTime : Stmt := top 38
abbrev sCheckWhole : Stmt := top 39
abbrev sCheckTruth : Stmt := top 40
abbrev sIsLevel : Stmt := top 47
abbrev sIsPointShape : Stmt := top 48
abbrev sIsRuleShape : Stmt := top 49
abbrev sIsCauseShape : Stmt := top 50
abbrev sIsLockShape : Stmt := top 51
abbrev sIsCommandShape : Stmt := top 52
abbrev sIsRelationShape : Stmt := top 53
abbrev sPointsOfRelation : Stmt := top 54
abbrev sIsRow : Stmt := top 56
abbrev sIsHistory : Stmt := top 57
abbrev sCheckHistory : Stmt := top 58
abbrev sHistoryOf : Stmt := top 59
abbrev sRowAt : Stmt := top 60
abbrev sGoodRows : Stmt := top 61
abbrev sByName : Stmt := top 69
abbrev sIsWorthOf : Stmt := top 70
abbrev sCheckPoints : Stmt := top 71
abbrev sCheckEachOnce : Stmt := top 72
abbrev sCheckRules : Stmt := top 73
abbrev sCheckCauses : Stmt := top 74
abbrev sLeadsToItself : Stmt := top 75
abbrev sCheckCommands : Stmt := top 76
abbrev sCheckLocks : Stmt := top 77
abbrev sCheckRelations : Stmt := top 78
abbrev sCheckWorks : Stmt := top 81
abbrev sCheckPoint : Stmt := top 82
abbrev sCheckPlace : Stmt := top 83
abbrev sIsSign : Stmt := top 87
abbrev sIsSigns : Stmt := top 88
abbrev sIsSignAt : Stmt := top 89
abbrev sRowsIn : Stmt := top 90
abbrev sCheckSigns : Stmt := top 91
abbrev sFine : Stmt := top 95
abbrev sCoarse : Stmt := top 96
abbrev sCheckSize : Stmt := top 97
abbrev sCheckWindow : Stmt := top 98
abbrev sFineRows : Stmt := top 99
abbrev sCoarseRows : Stmt := top 100
abbrev sFit : Stmt := top 104
abbrev sLawCell : Stmt := top 106
abbrev sLawBox : Stmt := top 107
abbrev sLawTake : Stmt := top 108
abbrev sLawNames : Stmt := top 109
abbrev sLawPoints : Stmt := top 110
abbrev sLawCommands : Stmt := top 111
abbrev sLawRows : Stmt := top 112
abbrev sLawLetters : Stmt := top 113
abbrev sLawPointRight : Stmt := top 114
abbrev sLaw : Stmt := top 115
abbrev mPanelError_Init : Stmt := inClass (top 2) 0
abbrev mAbsent_Init : Stmt := inClass (top 3) 0
abbrev mTooMany_Init : Stmt := inClass (top 4) 0
abbrev mNoTime_Init : Stmt := inClass (top 5) 0
abbrev mNoWorth_Init : Stmt := inClass (top 6) 0
abbrev mNoNumber_Init : Stmt := inClass (top 7) 0
abbrev mNoTruth_Init : Stmt := inClass (top 8) 0
abbrev mNoPoints_Init : Stmt := inClass (top 9) 0
abbrev mNoRules_Init : Stmt := inClass (top 10) 0
abbrev mNoCauses_Init : Stmt := inClass (top 11) 0
abbrev mNoCommands_Init : Stmt := inClass (top 12) 0
abbrev mNoRelations_Init : Stmt := inClass (top 13) 0
abbrev mNoWorks_Init : Stmt := inClass (top 14) 0
abbrev mNoLetter_Init : Stmt := inClass (top 15) 0
abbrev mNoHistory_Init : Stmt := inClass (top 16) 0
abbrev mUnlike_Init : Stmt := inClass (top 17) 0
abbrev mTwice_Init : Stmt := inClass (top 18) 0
abbrev mRing_Init : Stmt := inClass (top 19) 0
abbrev mNoPoint_Init : Stmt := inClass (top 20) 0
abbrev mNoPlace_Init : Stmt := inClass (top 21) 0
abbrev mNoRule_Init : Stmt := inClass (top 22) 0
abbrev mWorks_Init : Stmt := inClass (top 80) 0
abbrev mWorks_Eq : Stmt := inClass (top 80) 1
abbrev mWorks_Points : Stmt := inClass (top 80) 2
abbrev mWorks_Rules : Stmt := inClass (top 80) 3
abbrev mWorks_Causes : Stmt := inClass (top 80) 4
abbrev mWorks_Commands : Stmt := inClass (top 80) 5
abbrev mWorks_Relations : Stmt := inClass (top 80) 6
abbrev mWorks_Places : Stmt := inClass (top 80) 7
abbrev mWorks_Point : Stmt := inClass (top 80) 8
abbrev mWorks_Rule : Stmt := inClass (top 80) 9
abbrev mWorks_Command : Stmt := inClass (top 80) 10
abbrev mWorks_PointsAt : Stmt := inClass (top 80) 11
abbrev mWorks_IsWorth : Stmt := inClass (top 80) 12
abbrev mWorks_HasPoint : Stmt := inClass (top 80) 13
abbrev mWorks_HasPlace : Stmt := inClass (top 80) 14
abbrev mWorks_HasRule : Stmt := inClass (top 80) 15
abbrev mWorks_HasCommand : Stmt := inClass (top 80) 16
abbrev mWorks_CausesOf : Stmt := inClass (top 80) 17
abbrev mTrend_Init : Stmt := inClass (top 101) 0
abbrev mTrend_Eq : Stmt := inClass (top 101) 1
abbrev mTrend_Hear : Stmt := inClass (top 101) 2
abbrev mTrend_Rows : Stmt := inClass (top 101) 3
abbrev mTrend_Fine : Stmt := inClass (top 101) 4
abbrev mTrend_Heard : Stmt := inClass (top 101) 5
abbrev mTrend_Copied : Stmt := inClass (top 101) 6
abbrev mHearing_Init : Stmt := inClass (top 103) 0
abbrev mHearing_Eq : Stmt := inClass (top 103) 1
abbrev mHearing_Len : Stmt := inClass (top 103) 2
abbrev mHearing_Works : Stmt := inClass (top 103) 3
abbrev mHearing_Hear : Stmt := inClass (top 103) 4
abbrev mHearing_Known : Stmt := inClass (top 103) 5
abbrev mHearing_Lacking : Stmt := inClass (top 103) 6
abbrev mHearing_History : Stmt := inClass (top 103) 7
abbrev mHearing_Hand : Stmt := inClass (top 103) 8
abbrev mHearing_Unhand : Stmt := inClass (top 103) 9
abbrev mHearing_Hands : Stmt := inClass (top 103) 10
abbrev mHearing_Show : Stmt := inClass (top 103) 11
abbrev mHearing_Picture : Stmt := inClass (top 103) 12
abbrev mHearing_Letters : Stmt := inClass (top 103) 13
abbrev mHearing_Marks : Stmt := inClass (top 103) 14
abbrev mHearing_Copied : Stmt := inClass (top 103) 15
abbrev mHearing_LettersOf : Stmt := inClass (top 103) 16
abbrev mHearing_IndexOfHand : Stmt := inClass (top 103) 17
abbrev mHearing_State : Stmt := inClass (top 103) 18
end V45

namespace Pw
open PySem PySem.Spec PyProof.Rows L2
abbrev Fb := PySem.W.Frag → Bool
def obsB (fb : List Fb) (fn : List He.DefD) (K : PySem.W.Frag) : He.AlD := ((fb.all fun f => f K) && fn.all fun d => d.ok K, fn.map fun d => He.fnW K d.at_)
def SaysB (fb : List Fb) (fn : List He.DefD) (K : PySem.W.Frag) : Prop := obsB fb fn K = He.valD fn
/-- what an object names: a def's code and defaults; a class's names, its methods, their code -/
def kids (g : Addr → Option Obj) (a : Addr) : List Addr := match g a with
  | some ⟨_, _, .dict es _, _⟩ => es.toList.flatMap fun e => He.refV e.val
  | _ => []
def kid1 (g : Addr → Option Obj) (a : Addr) : List Addr := match g a with
  | some ⟨_, _, .func fd, _⟩ => He.refV fd.code ++ (He.refV fd.defaults ++ (He.refV fd.kwdefaults ++ (He.refV fd.kwdefaults).flatMap (kids g)))
  | _ => []
def kid2 (g : Addr → Option Obj) (a : Addr) : List Addr := match g a with
  | some ⟨_, _, .cls cd, _⟩ => cd.ns :: (kids g cd.ns).flatMap fun f => f :: kid1 g f
  | _ => kid1 g a
/-- what the module's names reach -/
def reachB (g : Addr → Option Obj) : List Addr := PySem.cStatics :: mainGlobals :: (kids g mainGlobals).flatMap fun a => a :: kid2 g a
def obsBG (n : Nat) (fb : List Fb) (fn : List He.DefD) (g : Addr → Option Obj) : He.AlD := obsB fb fn (He.frG g (reachB g))
def hookB (n : Nat) (fb : List Fb) (fn : List He.DefD) : PySem.W.Hook where
  α := He.AlD
  obs := fun s => obsBG n fb fn s.heap.get?
  val := fun _ => He.valD fn
  says := fun _ h => ∃ K : PySem.W.Frag, K.In h ∧ SaysB fb fn K
  of := fun _ _ e => ⟨_, He.frG_in, e⟩
  keeps := fun _ _ _ ⟨K, hK, c⟩ k => ⟨K, PySem.W.Frag.In.keeps hK k, c⟩
theorem obsBG_eq {n : Nat} {fb : List Fb} {fn : List He.DefD} {g : Addr → Option Obj} {s : Shared} (h : ∀ a, g a = s.heap.get? a) : obsBG n fb fn g = (hookB n fb fn).obs s := by
  have e : g = s.heap.get? := funext h
  rw [e] <;> rfl
def hnB : Fb := fun K => He.eqO (PySem.W.specialIn K (.builtin "object.__class__") "__get__") (some (some (.builtin "getset_descriptor.__get__")))
def htB : Fb := fun K => decide (PySem.W.takesIn K (.builtin "object.__class__") = some true)
abbrev dfN (x : Str) (st : Stmt) : He.DefD := ⟨(x, none), x, x, defArgs st, defBody st, defScope st, [], []⟩
end Pw

namespace V45
open PySem PySem.Spec PyProof.Rows L2 Pw
abbrev dfK (x : Str) (st : Stmt) (kw : List (Str × He.Dv)) : He.DefD := ⟨(x, none), x, x, defArgs st, defBody st, defScope st, [], kw⟩
abbrev dfM (c m q : Str) (st : Stmt) : He.DefD := ⟨(c, some m), m, q, defArgs st, defBody st, defScope st, [], []⟩
abbrev dfMK (c m q : Str) (st : Stmt) (kw : List (Str × He.Dv)) : He.DefD := ⟨(c, some m), m, q, defArgs st, defBody st, defScope st, [], kw⟩
/-- where a keyword's default of Works.__init__ stands -/
def dAd (x : Str) (K : PySem.W.Frag) : Addr := match K.lookup (He.ma K (He.ga K "Works") "__init__") with
  | some ⟨_, _, .func fd, _⟩ => (match fd.kwdefaults with
    | .ref D => (match PySem.W.nsIn K D x with
      | some (some (.ref a)) => a
      | _ => 0)
    | _ => 0)
  | _ => 0
def dNo (x : Str) (K : PySem.W.Frag) : Bool := match K.lookup (dAd x K) with
  | some ⟨.type "tuple", _, .seq its _, _⟩ => its.toList.isEmpty
  | _ => false
theorem dNo_ok {x : Str} {K : PySem.W.Frag} (h : dNo x K = true) : ∀ H, SqT K H (dAd x K) [] := fun H => by
  unfold dNo at h
  split at h
  · rename_i dd its n sl ho
    have e : its.toList = [] := List.isEmpty_iff.mp h
    refine .inr ⟨_, its, n, ho, rfl, rfl, ?_, ?_⟩
    · have : its.size = 0 := by rw [← Array.length_toList, e]; rfl
      rw [this]
      exact Nat.zero_le _
    · rw [e]
      exact .nil
  · cases h

def fb : List Fb := ([(He.Fa.free "KeyError").ok, (He.Fa.free "ValueError").ok, (He.Fa.free "all").ok, (He.Fa.free "bool").ok, (He.Fa.free "dict").ok, (He.Fa.free "enumerate").ok, (He.Fa.free "int").ok, (He.Fa.free "isinstance").ok, (He.Fa.free "len").ok, (He.Fa.free "list").ok, (He.Fa.free "max").ok, (He.Fa.free "min").ok, (He.Fa.free "range").ok, (He.Fa.free "reversed").ok, (He.Fa.free "sorted").ok, (He.Fa.free "str").ok, (He.Fa.free "sum").ok, (He.Fa.free "tuple").ok, (He.Fa.free "zip").ok, (He.Fa.int "MOST_TIME" 9999).ok, (He.Fa.int "MOST_LEVEL" 63).ok, (He.Fa.int "_MOST_NAME" 8).ok, (He.Fa.int "_MOST_LOCKS" 4).ok, (He.Fa.int "_MOST_PARTS" 3).ok, (He.Fa.int "_MOST_HOLD" 99).ok, (He.Fa.int "_MOST_RANK" 3).ok, (He.Fa.int "_MOST_WITHIN" 999).ok, (He.Fa.int "_MOST_PLACES" 3).ok, (He.Fa.int "_MOST_POINTS" 8).ok, (He.Fa.int "_MOST_RULES" 6).ok] : List Fb) ++ ([(He.Fa.int "_MOST_CAUSES" 8).ok, (He.Fa.int "_MOST_COMMANDS" 4).ok, (He.Fa.int "_MOST_RELATIONS" 5).ok, (He.Fa.int "_MOST_LETTERS" 40).ok, (He.Fa.int "_MOST_SIGNS" 12).ok, (He.Fa.int "_MOST_TICKS" 1000).ok, (He.Fa.int "_MOST_SIZE" 400).ok, (He.Fa.glo "_is_number").ok, (He.Fa.glo "_check_number").ok, (He.Fa.glo "is_whole").ok, (He.Fa.glo "is_name").ok, (He.Fa.glo "is_time").ok, (He.Fa.glo "is_mark").ok, (He.Fa.glo "is_one_of").ok, (He.Fa.glo "is_tuple").ok, (He.Fa.glo "is_list").ok, (He.Fa.glo "is_list_of").ok, (He.Fa.glo "is_point_shape").ok, (He.Fa.glo "_check_each_once").ok, (He.Fa.glo "by_name").ok, (He.Fa.glo "check_points").ok, (He.Fa.glo "check_rules").ok, (He.Fa.glo "is_rule_shape").ok, (He.Fa.glo "check_causes").ok, (He.Fa.glo "is_cause_shape").ok, (He.Fa.glo "_leads_to_itself").ok, (He.Fa.glo "check_commands").ok, (He.Fa.glo "is_command_shape").ok, (He.Fa.glo "is_worth_of").ok, (He.Fa.glo "_check_locks").ok] : List Fb) ++ ([(He.Fa.glo "check_relations").ok, (He.Fa.glo "is_relation_shape").ok, (He.Fa.glo "points_of_relation").ok, (He.Fa.glo "check_works").ok, (He.Fa.glo "check_point").ok, (He.Fa.glo "check_place").ok, (He.Fa.glo "is_sign").ok, (He.Fa.glo "is_signs").ok, (He.Fa.glo "_is_sign_at").ok, (He.Fa.glo "rows_in").ok, (He.Fa.glo "check_signs").ok, (He.Fa.glo "_fit").ok, (He.Fa.glo "is_rising").ok, (He.Fa.glo "check_time").ok, (He.Fa.glo "check_whole").ok, (He.Fa.glo "check_truth").ok, (He.Fa.glo "is_level").ok, (He.Fa.glo "is_row").ok, (He.Fa.glo "is_history").ok, (He.Fa.glo "check_history").ok, (He.Fa.glo "good_rows").ok, (He.Fa.glo "_check_size").ok, (He.Fa.glo "_check_window").ok, (He.Fa.glo "_fine_rows").ok, (He.Fa.glo "_coarse_rows").ok, (He.Fa.glo "history_of").ok, (He.Fa.glo "row_at").ok, (He.Fa.glo "_law_cell").ok, (He.Fa.glo "_law_box").ok, (He.Fa.glo "_law_take").ok] : List Fb) ++ ([(He.Fa.glo "_law_names").ok, (He.Fa.glo "_law_points").ok, (He.Fa.glo "_law_rows").ok, (He.Fa.glo "_law_letters").ok, (He.Fa.glo "_law_point_right").ok, (He.Fa.glo "law").ok, (He.Fa.glo "fine").ok, (He.Fa.glo "coarse").ok, hnB, htB, (He.Fa.glo "Works").ok, (He.Fa.cls "Works").ok, (He.Fa.mkr "Works").ok, (He.Fa.glo "Hearing").ok, (He.Fa.cls "Hearing").ok, (He.Fa.mkr "Hearing").ok, (He.Fa.noat "Works" "_points").ok, (He.Fa.noat "Works" "_point_by_name").ok, (He.Fa.noat "Works" "_rules").ok, (He.Fa.noat "Works" "_rule_by_name").ok, (He.Fa.noat "Works" "_causes").ok, (He.Fa.noat "Works" "_commands").ok, (He.Fa.noat "Works" "_command_by_name").ok, (He.Fa.noat "Works" "_relations").ok, (He.Fa.noat "Hearing" "_works").ok, (He.Fa.noat "Hearing" "_heard").ok, (He.Fa.noat "Hearing" "_hands").ok, (He.Fa.meth "Works" "places").ok, (He.Fa.meth "Works" "point").ok, (He.Fa.meth "Works" "points_at").ok] : List Fb) ++ ([(He.Fa.meth "Works" "is_worth").ok, (He.Fa.meth "Works" "has_point").ok, (He.Fa.meth "Works" "has_place").ok, (He.Fa.meth "Hearing" "hear").ok, (He.Fa.meth "Hearing" "known").ok, (He.Fa.meth "Hearing" "history").ok, (He.Fa.meth "Hearing" "show").ok, (He.Fa.meth "Hearing" "_letters_of").ok, (He.Fa.meth "Hearing" "_index_of_hand").ok, (He.Fa.meth "Hearing" "_state").ok, (He.Fa.meth "Trend" "hear").ok, (He.Fa.meth "Trend" "rows").ok, (He.Fa.meth "Trend" "fine").ok, (He.Fa.meth "Trend" "heard").ok, (He.Fa.noat "Trend" "_works").ok, (He.Fa.noat "Trend" "_point").ok, (He.Fa.noat "Trend" "_size").ok, (He.Fa.noat "Trend" "_since").ok, (He.Fa.noat "Trend" "_till").ok, (He.Fa.noat "Trend" "_odd").ok, (He.Fa.noat "Trend" "_heard").ok, (He.Fa.glo "Trend").ok, (He.Fa.cls "Trend").ok, (He.Fa.mkr "Trend").ok, (dNo "rules"), (dNo "causes"), (dNo "commands"), (dNo "relations"), (fun K => He.eqO (PySem.W.findIn K (.ref (He.ga K "Works")) "__class__") (some (some (.builtin "object.__class__")))), (fun K => decide (PySem.W.mroIn K (He.ga K "Works") (.type "object") = some true))] : List Fb) ++ ([(fun K => decide (PySem.W.kitOne K (.ref (He.ga K "Works")) (.ref (He.ga K "Works")) = some true))] : List Fb)
def fn : List He.DefD := ([dfN "_is_number" sIsNumber, dfN "_check_number" sCheckNumber, dfN "is_whole" sIsWhole, dfN "is_name" sIsName, dfN "is_time" sIsTime, dfN "is_mark" sIsMark, dfN "is_one_of" sIsOneOf, dfN "is_tuple" sIsTuple, dfN "is_list" sIsList, dfN "is_list_of" sIsListOf, dfN "is_point_shape" sIsPointShape, dfN "_check_each_once" sCheckEachOnce, dfN "by_name" sByName, dfN "check_points" sCheckPoints, dfN "check_rules" sCheckRules, dfN "is_rule_shape" sIsRuleShape, dfN "check_causes" sCheckCauses, dfN "is_cause_shape" sIsCauseShape, dfN "_leads_to_itself" sLeadsToItself, dfN "check_commands" sCheckCommands, dfN "is_command_shape" sIsCommandShape, dfN "is_worth_of" sIsWorthOf, dfN "_check_locks" sCheckLocks, dfN "check_relations" sCheckRelations, dfN "is_relation_shape" sIsRelationShape, dfN "points_of_relation" sPointsOfRelation, dfN "check_works" sCheckWorks, dfN "check_point" sCheckPoint, dfN "check_place" sCheckPlace, dfN "is_sign" sIsSign] : List He.DefD) ++ ([dfN "is_signs" sIsSigns, dfN "_is_sign_at" sIsSignAt, dfN "rows_in" sRowsIn, dfN "check_signs" sCheckSigns, dfN "_fit" sFit, dfN "is_rising" sIsRising, dfN "check_time" sCheckTime, dfN "check_whole" sCheckWhole, dfN "check_truth" sCheckTruth, dfN "is_level" sIsLevel, dfN "is_row" sIsRow, dfN "is_history" sIsHistory, dfN "check_history" sCheckHistory, dfN "good_rows" sGoodRows, dfN "_check_size" sCheckSize, dfN "_check_window" sCheckWindow, dfN "_fine_rows" sFineRows, dfN "_coarse_rows" sCoarseRows, dfN "history_of" sHistoryOf, dfN "row_at" sRowAt, dfN "_law_cell" sLawCell, dfN "_law_box" sLawBox, dfN "_law_take" sLawTake, dfN "_law_names" sLawNames, dfN "_law_points" sLawPoints, dfN "_law_rows" sLawRows, dfN "_law_letters" sLawLetters, dfN "_law_point_right" sLawPointRight, dfN "law" sLaw, dfK "fine" sFine [("odd", .bl true)]] : List He.DefD) ++ ([dfK "coarse" sCoarse [("odd", .bl true)], dfM "Works" "places" "Works.places" mWorks_Places, dfM "Works" "point" "Works.point" mWorks_Point, dfM "Works" "points_at" "Works.points_at" mWorks_PointsAt, dfM "Works" "is_worth" "Works.is_worth" mWorks_IsWorth, dfM "Works" "has_point" "Works.has_point" mWorks_HasPoint, dfM "Works" "has_place" "Works.has_place" mWorks_HasPlace, dfM "Hearing" "__init__" "Hearing.__init__" mHearing_Init, dfM "Hearing" "hear" "Hearing.hear" mHearing_Hear, dfM "Hearing" "known" "Hearing.known" mHearing_Known, dfM "Hearing" "history" "Hearing.history" mHearing_History, dfM "Hearing" "show" "Hearing.show" mHearing_Show, dfM "Hearing" "_letters_of" "Hearing._letters_of" mHearing_LettersOf, dfM "Hearing" "_index_of_hand" "Hearing._index_of_hand" mHearing_IndexOfHand, dfM "Hearing" "_state" "Hearing._state" mHearing_State, dfM "Trend" "hear" "Trend.hear" mTrend_Hear, dfM "Trend" "rows" "Trend.rows" mTrend_Rows, dfM "Trend" "fine" "Trend.fine" mTrend_Fine, dfM "Trend" "heard" "Trend.heard" mTrend_Heard, dfMK "Works" "__init__" "Works.__init__" mWorks_Init [("rules", .adr (dAd "rules")), ("causes", .adr (dAd "causes")), ("commands", .adr (dAd "commands")), ("relations", .adr (dAd "relations"))], dfMK "Trend" "__init__" "Trend.__init__" mTrend_Init [("odd", .bl true)]] : List He.DefD)
def loose : List Str := (["_wall", "PanelError", "Absent", "TooMany", "NoTime", "NoWorth", "NoNumber", "NoTruth", "NoPoints", "NoRules", "NoCauses", "NoCommands", "NoRelations", "NoWorks", "NoLetter", "NoHistory", "Unlike", "Twice", "Ring", "NoPoint", "NoPlace", "NoRule", "MOST_TIME", "MOST_LEVEL", "_MOST_NAME", "_is_number", "_check_number", "is_whole", "is_name", "is_time"] : List Str) ++ (["is_mark", "is_one_of", "is_tuple", "is_list", "is_list_of", "is_rising", "check_time", "check_whole", "check_truth", "_MOST_LOCKS", "_MOST_PARTS", "_MOST_HOLD", "_MOST_RANK", "_MOST_WITHIN", "is_level", "is_point_shape", "is_rule_shape", "is_cause_shape", "is_lock_shape", "is_command_shape", "is_relation_shape", "points_of_relation", "is_row", "is_history", "check_history", "history_of", "row_at", "good_rows", "_MOST_PLACES", "_MOST_POINTS"] : List Str) ++ (["_MOST_RULES", "_MOST_CAUSES", "_MOST_COMMANDS", "_MOST_RELATIONS", "by_name", "is_worth_of", "check_points", "_check_each_once", "check_rules", "check_causes", "_leads_to_itself", "check_commands", "_check_locks", "check_relations", "Works", "check_works", "check_point", "check_place", "_MOST_LETTERS", "_MOST_SIGNS", "is_sign", "is_signs", "_is_sign_at", "rows_in", "check_signs", "_MOST_TICKS", "_MOST_SIZE", "fine", "coarse", "_check_size"] : List Str) ++ (["_check_window", "_fine_rows", "_coarse_rows", "Trend", "Hearing", "_fit", "_law_cell", "_law_box", "_law_take", "_law_names", "_law_points", "_law_commands", "_law_rows", "_law_letters", "_law_point_right"] : List Str)
abbrev R : PySem.W.OpenRow := PySem.W.OpenLaw.row PySem.Challenge.rw_panelwatch_k45_whole_trends_as_hearings
def hk : PySem.W.Hook := hookB 0 fb fn
def ob (s : PySem.W.SharedT) : He.AlD := obsBG 0 fb fn (HandSHeadRun.getT s)
theorem ob_eq (s : PySem.W.SharedT) : ob s = hk.obs s.abs := obsBG_eq (HandSHeadRun.getT_eq s)
end V45

set_option maxHeartbeats 0
namespace V45
open PySem PySem.Spec PyProof.Rows L2 Pw
theorem run (w : World) : HandSHeadRun.RunEq R (PySem.W.view R.prog [115]) hk ob 30000 loose w := by
  intro os
  kernel_rfl
end V45

/-! The layer of defs that are called where no display is under way (nothing is being shown around them). -/
namespace Pw
open PySem PySem.Spec PyProof.Rows L2

/-- a def's promise where nothing is being shown around its call -/
structure FnG (P : Program) (w : World) (K : PySem.W.Frag) (mg : Str → Option Value)
    (base : Heap) (CX : CXT) (k : Nat) (f : Addr) (fd : FuncData) (ps : List Str) (sp : Sp) : Prop where
  len : ∀ vs H Q E, sp vs H Q E →
    vs.length = ps.length
  run : ∀ (A : Around) (out : List Env) (s : Shared) (H : Hp) (ar : Args) (us : List Value)
    (vs : List V) (Q : VK) (E : XK), A.guards = some [] → Room k A →
    Env0 P w K mg base A out s H → BindsTo s fd ar (ps.zip us) → Vals vs us → sp vs H Q E →
    codeAny (model P w) A (.call (.ref f) ar) (CR CX out P w H s Q E) s

section
variable {P : Program} {w : World} {K : PySem.W.Frag} {mg : Str → Option Value} {base : Heap}

theorem FnG.of {CX : CXT} {k : Nat} {f : Addr} {fd : FuncData} {ps : List Str} {sp : Sp}
    (F : FnOk P w K mg base CX k f fd ps sp) : FnG P w K mg base CX k f fd ps sp :=
  ⟨F.len, fun A out s H ar us vs Q E _ hr e0 hb r hs => F.run A out s H ar us vs Q E hr e0 hb r hs⟩

theorem fnG_of {CX : CXT} {k : Nat} {f : Addr} {name qual : Str} {params : Arguments}
    {body : List Stmt} {scope : Scope} {dV kV doc pm cdv ct oc : Value} {an od : Option Addr}
    {osl : Array (Option Value)} {N ps : List Str} {sp : Sp}
    (lk : K.lookup f = some ⟨oc, od, .func (PySem.W.fnOf name qual params body scope dV kV doc pm an cdv ct), osl⟩)
    (hcd : PySem.W.codeIn K cdv qual = true) (S : FnScope N ps scope)
    (len : ∀ vs H Q E, sp vs H Q E → vs.length = ps.length)
    (hb0 : ∀ (A : Around) (out : List Env) (s : Shared) (H : Hp) (vs : List V) (Q : VK) (E : XK),
      A.guards = some [] → Room k (A.deeper (envOfC qual scope s.heap.objs.size f cdv)) → sp vs H Q E →
      ∃ t, PSs (cxOf CX P w K mg base N qual scope f cdv A out s H E) body t ∧
        t { nx := fun _ H' => Q .non H', rt := Q } (start N vs) H) :
    FnG P w K mg base CX (k + 1) f (PySem.W.fnOf name qual params body scope dV kV doc pm an cdv ct) ps sp := by
  refine ⟨len, fun A out s H ar us vs Q E gd hr e0 hbn r hs0 => ?_⟩
  have hlen := len _ _ _ _ hs0
  have old : ∀ b o, base.get? b = some o → s.heap.get? b = some o := fun b o e => (e0.bs b o e).1
  have KX : K.In s.heap := e0.mod.kin.keeps old
  have lim : s.heap.NoLimit := e0.mod.nolimit.keeps old
  have kinds : ∀ y ∈ ps.zip us, scope.names.lookup y.1 = some .local ∨
      (scope.names.lookup y.1 = some .cell ∧
        ((cellsFrom (s.heap.objs.size + 1) scope.names []).lookup y.1).isSome = true) := by
    intro ⟨n, v⟩ hy
    rcases S.par n (List.of_mem_zip hy).1 with z | z
    · exact .inl z
    · exact .inr ⟨z, PySem.W.cellsFrom_some _ _ _ (.inl z)⟩
  refine codeAny_call_function hr.depth (KX _ _ lk) rfl S.co S.gen rfl
    (PySem.W.codeRec_of KX hcd) (hbn _ _ _ _ ?_)
  refine wpAny_newFunctionEnv_cells S.kind kinds fun env he s1 x => ?_
  subst he
  refine ⟨lim.keeps x.toInCall.keep, codeAny_func ?_⟩
  obtain ⟨t, T, q0⟩ := hb0 A out s H vs Q E gd (hr.deeper _) hs0
  have J0 : Inv (cxOf CX P w K mg base N qual scope f cdv A out s H E) [] (start N vs) H s1 :=
    inv_start S hr.hd e0 hlen r x
  refine wpAny_mono (T.run [] s1 (start N vs) H _ J0 q0) (fun fl s' hs => ?_) fun e s' hs => hs
  have fin : ∀ {σ' : L2.St} {H' : Hp} {v : V} {u : Value},
      Inv (cxOf CX P w K mg base N qual scope f cdv A out s H E) [] σ' H' s' →
      RelV v u → Q v H' → CE out P w H s Q u s' :=
    fun {σ' H' v u} J rv q => ⟨v, H', J.os, J.bare, J.base, J.hok, rv, q⟩
  match fl, hs with
  | .ret u, ⟨v, σ', H', J, rv, q⟩ => exact fin J rv q
  | .next, ⟨σ', H', J, q⟩ => exact fin (v := V.non) (u := Value.none) J rfl q
  | .brk, ⟨_, _, _, q⟩ => exact False.elim q
  | .cont, ⟨_, _, _, q⟩ => exact False.elim q

/-- the rule for a def, where nothing is being shown around it -/
theorem okG {x qual : Str} {st : Stmt} {f : Addr} {fd : FuncData} {N ps : List Str} {k : Nat} {sp : Sp}
    (F : Fun K x qual st f fd) (S : FnScope N ps (defScope st))
    (len : ∀ vs H Q E, sp vs H Q E → vs.length = ps.length)
    (hb0 : ∀ (cdv : Value) (A : Around) (out : List Env) (s : Shared) (H : Hp) (vs : List V) (Q : VK) (E : XK),
      A.guards = some [] →
      Room k (A.deeper (envOfC qual (defScope st) s.heap.objs.size f cdv)) → sp vs H Q E →
      ∃ t, PSs (cxOf CX0 P w K mg base N qual (defScope st) f cdv A out s H E).nox (defBody st) t ∧
        t { nx := fun _ H' => Q .non H', rt := Q } (start N vs) H) :
    FnG P w K mg base CX0 (k + 1) f fd ps sp := by
  obtain ⟨oc, od, kV, doc, pm, an, cdv, ct, osl, rfl, lk, hcd⟩ := F.ex
  refine fnG_of lk hcd S len fun A out s H vs Q E gd hr hs0 => ?_
  obtain ⟨t, h, q⟩ := hb0 cdv A out s H vs Q E gd hr hs0
  exact ⟨t, h.nox, q⟩
end

section
variable {X : Cx} {CX : CXT} {k : Nat} {f : Addr} {fd : FuncData} {ps : List Str} {sp : Sp}
  {dvs : List V} {ds : List Value} {E : XK} {x : Str} {p pos : Pos} {e : Expr} {es : List Expr} {t : TA}

theorem run_fnG {pins : List (Addr × Obj)} {σ : L2.St} {H : Hp} {s : Shared} {Q : VK} {us : List Value} {vs : List V}
    (F : FnG X.prog X.w X.K X.mg X.base CX k f fd ps sp) (gd : X.A.guards = some []) (hr : Room k X.A)
    (hb : Binds X.K fd ps ds) (hd : Vals dvs ds) (hx : Passes CX X E)
    (I : Inv X pins σ H s) (r : Vals vs us) (h : sp (vs ++ dvs) H Q E) :
    wpAny (model X.prog X.w) X.A (call (.ref f) us) (EP X pins σ Q) X.xe s := by
  have r2 : Vals (vs ++ dvs) (us ++ ds) := r.append hd
  have hlen : (us ++ ds).length = ps.length := r2.length ▸ F.len _ _ _ _ h
  refine wpAny_call (codeAny_mono (F.run X.A X.stack s H ⟨us, []⟩ (us ++ ds) (vs ++ dvs) Q E gd hr
    I.env0 (hb s us I.kIn hlen) r2 h) fun r s' hq => ?_)
  match r, hq with
  | .error e, hq => exact hx pins σ H s e s' I hq
  | .ok (.ret u), hq => exact I.after hq
  | .ok .next, hq => exact False.elim hq
  | .ok .brk, hq => exact False.elim hq
  | .ok .cont, hq => exact False.elim hq

/-- f(..), f a def whose promise stands where nothing is being shown -/
theorem pe_callG (F : FnG X.prog X.w X.K X.mg X.base CX k f fd ps sp) (gd : X.A.guards = some []) (hr : Room k X.A)
    (hg : Gl X x) (hm : X.mg x = some (.ref f)) (hk : PySem.W.keepIn X.K (.ref f) = true)
    (hb : Binds X.K fd ps ds) (hd : Vals dvs ds) (hx : Passes CX X E) (ha : PA X (e :: es) t)
    (hdb : (x == ("__debug__" : Str)) = false := by decide)
    (he : starEach (e :: es) X.env = (false, eval e X.env) :: starEach es X.env := by rfl)
    (hpl : (backTo pos (starEach es X.env)).any (·.1) = false := by rfl) :
    PE X (.Call (.Name x p) (e :: es) [] pos) (tCall sp dvs E t) :=
  ⟨fun pins s σ H Q I h => wpAny_Call_Name_kw (ld_glob I hg hm (PySem.W.callWith_K (h₀ := X.base)
    I.ok.mod.kin hk (thn (ha.run pos pins s σ H _ I h) fun us s1 ⟨vs, H1, I1, r, q⟩ =>
      ⟨I1.kIn, run_fnG F gd hr hb hd hx I1 r q⟩) he hpl) hdb)⟩
end

/-- the end: the law's promise, at the heap behind the top, nothing being shown -/
theorem law_callG {P : Program} {w : World} {K : PySem.W.Frag} {mg mb : Str → Option Value} {CX : CXT} {k : Nat}
    {fa a : Addr} {fd : FuncData} {x : Str} {sp : Sp} {s₁ : Shared} {vs : List Value} {ns : List Int}
    (KX : K.In s₁.heap) (hns : s₁.heap.Ns mainGlobals mg) (hb : s₁.heap.Ns builtinsNs mb)
    (hbb : ∀ x : Str, x ≠ "__name__" → mb x = bootBuiltins x) (hlim : s₁.heap.NoLimit) (hg : s₁.gens = #[])
    (ha : s₁.heap.get? a = some { cls := .type "list", data := .seq vs.toArray }) (hi : IntsAre vs ns)
    (hl : ns.length ≤ sizeLine) (hr : Room k callerA)
    (F : ∀ base : Heap, K.In base → base.Ns mainGlobals mg → FnG P w K mg base CX k fa fd [x] sp)
    (hbind : ∀ (s : Shared) (u : Value), BindsTo s fd ⟨[u], []⟩ [(x, u)])
    (hsp : ∀ H : Hp, Only H → SqL K H a (ns.map V.int) → sp [.ref a] H (fun v _ => v = .bl true) fun _ _ _ => False)
    (hCX : ∀ H e s', CX [] H s₁ (fun _ _ _ => False) e s' → False) :
    codeAny (model P w) callerA (.call (.ref fa) ⟨[.ref a], []⟩)
      (fun r s' => r = .ok (.ret (.bool true)) ∧ OldK s₁.heap s'.heap ∧ s'.os = s₁.os ∧ AllBare s'.gens) s₁ := by
  have rv := vals_ints hi
  have lenV := hi.length
  have core : ∀ H : Hp, Only H → SqL K H a (ns.map V.int) → HOk P w H s₁.heap → (∀ b, H b ≠ none → b = a) →
      (H a ≠ none → K.lookup a = none) → codeAny (model P w) callerA (.call (.ref fa) ⟨[.ref a], []⟩)
      (fun r s' => r = .ok (.ret (.bool true)) ∧ OldK s₁.heap s'.heap ∧ s'.os = s₁.os ∧ AllBare s'.gens) s₁ := by
    intro H hO hS hok hA hK
    have loose : ∀ {b : Addr} {o : Obj} {es : Array DictEntry} {ep : Nat}, s₁.heap.get? b = some o →
        o.data = .dict es ep → H b = none := by
      intro b o es ep e d
      cases q : H b with
      | none => rfl
      | some u =>
        obtain rfl : b = a := hA b (fun z => nomatch q.symm.trans z)
        cases ha.symm.trans e
        exact nomatch (show Data.seq vs.toArray _ = Data.dict es ep from d)
    have nsK : ∀ {b : Addr} {m : Str → Option Value}, s₁.heap.Ns b m → (hidT s₁.heap H).Ns b m :=
      fun {b m} ⟨o, es, ep, e, d, r⟩ => ⟨o, es, ep, hidT_get e (loose e d), d, r⟩
    have hKb : K.In (hidT s₁.heap H) := by
      intro b o e
      refine hidT_get (KX b o e) ?_
      cases q : H b with
      | none => rfl
      | some u =>
        obtain rfl : b = a := hA b (fun z => nomatch q.symm.trans z)
        exact nomatch (hK (fun z => nomatch q.symm.trans z)).symm.trans e
    have hM : Mod K mg (hidT s₁.heap H) :=
      ⟨hKb, nsK hns, ⟨mb, nsK hb, hbb⟩, hlim.elim fun mc h => ⟨mc, nsK h.1, h.2⟩⟩
    have e0 : Env0 P w K mg (hidT s₁.heap H) callerA [] s₁ H :=
      ⟨rfl, hM, fun b o e => of_hidT e, Nat.le_of_eq (hidT_size _ _), trivial,
        fun b hb => (nomatch (show b ∈ ([] : List Addr) from hb)), hok, .of_eq hg⟩
    refine codeAny_mono ((F _ hKb (nsK hns)).run callerA [] s₁ H ⟨[.ref a], []⟩ [.ref a] [.ref a] _ _ rfl hr e0
      (hbind s₁ (.ref a)) (.cons rfl .nil) (hsp H hO hS)) fun r s' h => ?_
    match r, h with
    | .error e, h => exact (hCX H e s' h).elim
    | .ok .next, h => exact False.elim h
    | .ok .brk, h => exact False.elim h
    | .ok .cont, h => exact False.elim h
    | .ok (.ret u), ⟨v, H', os, bare, un, hok', r', q⟩ =>
      obtain rfl : v = .bl true := q
      obtain rfl : u = Value.bool true := r'
      refine ⟨rfl, OldK.of_keep fun b o e => ?_, os, bare⟩
      cases q : H b with
      | none => exact un.keep b o e q (fun z => (nomatch (show b ∈ ([] : List Addr) from z))) (by simp)
      | some u =>
        rcases hO b with z | ⟨ob, xs, z⟩
        · exact nomatch q.symm.trans z
        · have e1 := (hok b _ z).1
          have e2 := (hok' b _ (un.frzs b ob _ z)).1
          cases e.symm.trans e1
          exact e2
  cases hk : K.lookup a with
  | some o =>
    cases ha.symm.trans (KX a o hk)
    exact core (fun _ => none) (fun _ => .inl rfl)
      (.inr ⟨_, vs.toArray, _, hk, rfl, rfl, rfl, by rw [List.size_toArray, lenV]; exact hl, by simpa using rv⟩)
      (fun b u z => nomatch (show (none : Option HO) = some u from z)) (fun b z => absurd rfl z) fun z => absurd rfl z
  | none =>
    refine core (fun b => if b = a then
        some (.frz { cls := .type "list", data := .seq vs.toArray } (.lst (ns.map V.int))) else none) (fun b => ?_)
      (.inl (.inr ⟨{ cls := .type "list", data := .seq vs.toArray }, if_pos rfl⟩)) (fun b u z => ?_) (fun b z => ?_)
      fun _ => hk
    · by_cases hba : b = a
      · exact .inr ⟨_, _, if_pos hba⟩
      · exact .inl (if_neg hba)
    · by_cases hba : b = a
      · have z' := (if_pos hba).symm.trans z
        cases z'
        subst hba
        exact ⟨ha, by rw [List.length_map]; exact hl, vs, _, rv, ha⟩
      · exact nomatch (if_neg hba).symm.trans z
    · by_cases hba : b = a
      · exact hba
      · exact absurd (if_neg hba) z

theorem walkG {l : PySem.W.OpenLaw} {n k : Nat} {q : Program} {loose : List Str}
    {XP : (Str → Option Value) → Heap → Prop} {YP : World → Heap → Prop} {d : DefRec} {K : Params → PySem.W.Frag}
    {CX : World → CXT} {sp : World → Sp} {x : Str} (hn : l.most = some n) (hn2 : n ≤ sizeLine)
    (hdf : d.params.defaults = []) (hr : Room k callerA) (hY : ∀ (w : World) (h : Heap), YP w h → (K w.params).In h)
    (F : ∀ (w : World) (mg : Str → Option Value) (fa : Addr) (h : Heap), (K w.params).In h → h.Ns mainGlobals mg →
      mg d.name = some (.ref fa) → ∃ fd : FuncData, (∀ (s : Shared) (u : Value), BindsTo s fd ⟨[u], []⟩ [(x, u)]) ∧
        ∀ base : Heap, (K w.params).In base → base.Ns mainGlobals mg →
          FnG l.prog w (K w.params) mg base (CX w) k fa fd [x] (sp w))
    (hsp : ∀ (w : World) (H : Hp) (a : Addr) (ns : List Int), ns.length ≤ n → Only H →
      SqL (K w.params) H a (ns.map V.int) → sp w [.ref a] H (fun v _ => v = .bl true) fun _ _ _ => False)
    (hCX : ∀ (w : World) (H : Hp) (s : Shared) (e : Value) (s' : Shared), CX w [] H s (fun _ _ _ => False) e s' → False) :
    PySem.W.WalkO q loose XP YP l.row.toRowW d [] (fun f vs => PySem.call f vs) := by
  refine Att.attach_call hn hdf fun w s₀ s₁ mg mb fa o pm cd doc a vs ns G Y ho hd hcd hmg hobj hints hlen hg => ?_
  have KX := hY w _ Y
  obtain ⟨fd, hbn, hF⟩ := F w mg fa _ KX G.T.g hmg
  exact law_callG KX G.T.g G.T.b G.T.builtins G.T.nolimit hg hobj hints (Nat.le_trans hlen hn2) hr hF hbn
    (fun H hO hS => hsp w H a ns hlen hO hS) fun H e s' => hCX w H s₁ e s'
end Pw

/-! Exceptions of one's own as values: made by their own __init__, which calls that of the class above it by name; their args are tracked. -/
namespace Pw
open PySem PySem.Spec PyProof.Rows L2

/-- the object of an exception: its class, its dict, where its args lie -/
abbrev exOb (C : Addr) (d : Option Addr) (t : Addr) : Obj :=
  { cls := .ref C, dict := d, data := .fields #[.ref t, .none, .none, .none, .bool false, .none] }
/-- at e: an exception of the class at C; its args are the tuple at t -/
def exq (e C : Addr) (d : Option Addr) (t : Addr) : HO := .ext fun h => h.get? e = some (exOb C d t)
theorem exq_own {e C x t : Addr} {d : Option Addr} : exq e C d t ≠ .own x := fun z => by
  have z' : HO.ext _ = HO.own x := z
  cases z'
theorem exq_tup {e C t : Addr} {d : Option Addr} {xs : List V} : exq e C d t ≠ .tup xs := fun z => by
  have z' : HO.ext _ = HO.tup xs := z
  cases z'
theorem exq_lst {e C t : Addr} {d : Option Addr} {xs : List V} : exq e C d t ≠ .lst xs := fun z => by
  have z' : HO.ext _ = HO.lst xs := z
  cases z'
theorem exq_frz {e C t : Addr} {d : Option Addr} {o : Obj} {u : HO} : exq e C d t ≠ .frz o u := fun z => by
  have z' : HO.ext _ = HO.frz o u := z
  cases z'
theorem exq_tbl {e C t : Addr} {d : Option Addr} {ps : Array Value} : exq e C d t ≠ .tbl ps := fun z => by
  have z' : HO.ext _ = HO.tbl ps := z
  cases z'
theorem exq_ok {P : Program} {w : World} {H : Hp} {h : Heap} {e C t : Addr} {d : Option Addr}
    (he : h.get? e = some (exOb C d t)) : ObjOk P w H h e (exq e C d t) :=
  ⟨he, ⟨_, he⟩, fun _ _ z k => k _ z⟩
theorem exq_at {P : Program} {w : World} {H : Hp} {h : Heap} {e C t : Addr} {d : Option Addr} (hok : HOk P w H h)
    (he : H e = some (exq e C d t)) : h.get? e = some (exOb C d t) := by
  have x : ObjOk P w H h e (.ext fun h => h.get? e = some (exOb C d t)) := hok e _ he
  exact x.1

section
variable {X : Cx} {pins : List (Addr × Obj)} {σ : L2.St} {H : Hp} {s : Shared} {a C t1 : Addr} {f : Str} {y : V}
  {u : Value} {E : Value → Shared → Prop} {A : Around}

/-- self.f = y, the first attribute -/
theorem eq_new {Q : Unit → Shared → Prop} (T : OexC X.K C) (I : Inv X pins σ H s) (e : H a = some (exq a C none t1))
    (hno : PySem.W.findIn X.K (.ref C) f = some none) (ry : RelV y u)
    (h : ∀ dx s', H dx = none → dx ≠ a →
      Inv X pins σ (upd (upd H dx (exd dx [(f, y)])) a (exq a C (some dx) t1)) s' → Q () s') :
    wpAny (model X.prog X.w) A (setAttr (.ref a) f u) Q E s := by
  obtain ⟨nm, q, N, bs, bm, sn, sub, ab, col, dd, k0, k1, k2, k3, k5, hC, hbm⟩ := T.cls
  have hcl : PySem.W.clsIn X.K C = some { name := nm, bases := bs, mro := .ref C :: bm, ns := N, qualname := q, hasDict := true, slotNames := sn, subclasses := sub, abstract := ab, collection := col, hasDel := false } := by
    unfold PySem.W.clsIn
    rw [hC] <;> rfl
  have ho := exq_at I.hok e
  obtain ⟨hp, g, d, t, os⟩ := s
  refine PySem.W.set_plain I.kIn (ox := exOb C none t1) (od := none) ⟨ho, rfl, rfl, trivial⟩ T.sa ?_
  refine PySem.HandSPX.exc_osa I.kIn ho hcl
    (show PySem.HandSPX.refsVE (.ref C :: bm) = true from hbm) rfl hno (fun h' tk' dx k dn dne hx hn => ?_)
  have hnd : H dx = none := I.hok.fresh dn
  have nd : ∀ {b : Addr} {o : Obj}, hp.get? b = some o → b ≠ dx :=
    fun {b o} q => Nat.ne_of_lt (Nat.lt_of_lt_of_le (Heap.lt_size q) dn)
  have na : ∀ {b : Addr}, H b = none → b ≠ a := fun {b} n z => by rw [z, e] at n; cases n
  have Un1 : Un X.fs [] H (upd (upd H dx (exd dx [(f, y)])) a (exq a C (some dx) t1)) hp h' := {
    keep := fun b o q n _ _ => k b o (na n) q
    slot := fun b o q n _ _ => ⟨o.slots, k b o (na n) q⟩
    free := fun b o q n _ => ((upd_ne (na n)).trans (upd_ne (nd q))).trans n
    there := fun b o q _ => by
      by_cases hb : b = a
      · exact ⟨_, hb ▸ hx⟩
      · exact ⟨o, k b o hb q⟩
    tups := fun b xs q => ((upd_ne (at_ne e q exq_tup)).trans (upd_ne (ne_of_none q hnd))).trans q
    frzs := fun b o v q => ((upd_ne (at_ne e q exq_frz)).trans (upd_ne (ne_of_none q hnd))).trans q
    tbls := fun b ps q => ⟨#[], by rw [upd_ne (at_ne e q exq_tbl), upd_ne (ne_of_none q hnd), q]; simp⟩ }
  refine h dx _ hnd dne (I.un (t' := tk') Un1 fun b o q => ?_)
  by_cases hb : b = a
  · subst hb
    cases upd_same.symm.trans q
    exact exq_ok hx
  · rw [upd_ne hb] at q
    by_cases hd : b = dx
    · subst hd
      cases upd_same.symm.trans q
      exact exd_ok hn (relO_put (fs := []) ry fun g => True.intro)
    · rw [upd_ne hd] at q
      refine (I.hok b o q).stay (fun c v hc z => k c v ?_ z)
        (fun c hc => ((upd_ne (at_ne e hc exq_own)).trans (upd_ne (ne_of_none hc hnd))).trans hc)
        (fun c xs hc => ((upd_ne (at_ne e hc exq_tup)).trans (upd_ne (ne_of_none hc hnd))).trans hc)
      rcases hc with hc | hc
      · exact hc ▸ hb
      · exact at_ne e hc exq_own

/-- ValueError.__init__(e, ..): its args are laid anew, at a place of their own -/
theorem init_args {prog : Program} {w : World} {A : Around} {R : Result → Shared → Prop} {h : Heap}
    {g : Array GenState} {d : Drawn} {t : Nat} {os : OsState} {nm q : Str} {C N : Addr} {bs bm bmB : List Value}
    {hdct : Bool} {sn : List Str} {sub : List Value} {ab : Bool} {col : Option Bool} {dd : Option Addr}
    {k0 k1 k2 k3 k5 : Option Value} {B newId initId : String} (F : ExcBaseFacts B newId initId bmB)
    (hT : ∀ X : String, bm.contains (.type X) = bmB.contains (.type X)) {e t0 : Addr} {rest : List Value}
    (hC : h.get? C = some (excClassObj nm q C N bs bm hdct sn sub ab col dd k0 k1 k2 k3 k5 newId))
    (he : h.get? e = some (exOb C none t0)) (hrest : rest.length ≤ sizeLine)
    (hq : ∀ h' t1, h.objs.size ≤ t1 → (∀ b o, b ≠ e → h.get? b = some o → h'.get? b = some o) →
      h'.get? e = some (exOb C none t1) → h'.get? t1 = some (PySem.W.kdv_tup rest) →
      R (.ok (.ret .none)) ⟨h', g, d, t, os⟩) :
    codeAny (model prog w) A (.call (.builtin initId) ⟨.ref e :: rest, []⟩) R ⟨h, g, d, t, os⟩ := by
  refine codeAny_call_builtin F.init.plain F.initEntry (PySem.HandSPX.check_init_own F hT hC he rfl ?_)
  have hes : e ≠ h.objs.size := Nat.ne_of_lt (Heap.lt_size he)
  wp_walk
  refine hq _ h.objs.size (Nat.le_refl _) (fun b o hb ho => ?_) ?_ ?_
  · exact (Heap.get?_update_other _ _ (Ne.symm hb)).trans (Heap.get?_push_of_some _ ho)
  · exact (Heap.get?_update_self _ (Heap.get?_push_of_some _ he) rfl).trans rfl
  · exact (Heap.get?_update_other _ _ hes).trans (Heap.get?_push_size _ rfl)

theorem eq_init {us : List Value} {ws : List V} {Q : Value → Shared → Prop} (T : OexC X.K C) (I : Inv X pins σ H s)
    (e : H a = some (exq a C none t1)) (hl : us.length ≤ sizeLine) (rw' : Vals ws us)
    (h : ∀ t2 s', H t2 = none → t2 ≠ a → Inv X pins σ (upd (upd H t2 (.tup ws)) a (exq a C none t2)) s' → Q .none s') :
    wpAny (model X.prog X.w) A (call (.builtin "ValueError.__init__") (.ref a :: us)) Q E s := by
  obtain ⟨nm, q, N, bs, bm, sn, sub, ab, col, dd, k0, k1, k2, k3, k5, hC, hbm⟩ := T.cls
  have ho := exq_at I.hok e
  obtain ⟨hp, g, d, t, os⟩ := s
  refine wpAny_call (init_args F.excBase_ValueError (fun Y => PySem.HandSPX.refsVE_contains Y bm hbm)
    (I.kIn _ _ hC) ho hl fun h' t2 hsz k hx ht => ?_)
  have nt : H t2 = none := I.hok.fresh hsz
  have nea : t2 ≠ a := (ne_of_none e nt).symm
  have na : ∀ {b : Addr}, H b = none → b ≠ a := fun {b} n z => by rw [z, e] at n; cases n
  have nd : ∀ {b : Addr} {o : Obj}, hp.get? b = some o → b ≠ t2 :=
    fun {b o} q => Nat.ne_of_lt (Nat.lt_of_lt_of_le (Heap.lt_size q) hsz)
  have Un1 : Un X.fs [] H (upd (upd H t2 (.tup ws)) a (exq a C none t2)) hp h' := {
    keep := fun b o q n _ _ => k b o (na n) q
    slot := fun b o q n _ _ => ⟨o.slots, k b o (na n) q⟩
    free := fun b o q n _ => ((upd_ne (na n)).trans (upd_ne (nd q))).trans n
    there := fun b o q _ => by
      by_cases hb : b = a
      · exact ⟨_, hb ▸ hx⟩
      · exact ⟨o, k b o hb q⟩
    tups := fun b xs q => ((upd_ne (at_ne e q exq_tup)).trans (upd_ne (ne_of_none q nt))).trans q
    frzs := fun b o v q => ((upd_ne (at_ne e q exq_frz)).trans (upd_ne (ne_of_none q nt))).trans q
    tbls := fun b ps q => ⟨#[], by rw [upd_ne (at_ne e q exq_tbl), upd_ne (ne_of_none q nt), q]; simp⟩ }
  refine h t2 _ nt nea (I.un (t' := t) Un1 fun b o q => ?_)
  by_cases hb : b = a
  · subst hb
    cases upd_same.symm.trans q
    exact exq_ok hx
  · rw [upd_ne hb] at q
    by_cases hd : b = t2
    · subst hd
      cases upd_same.symm.trans q
      exact ⟨by rw [Paired.length rw']; exact hl, us, rw', _, ht, rfl, _, rfl⟩
    · rw [upd_ne hd] at q
      refine (I.hok b o q).stay (fun c v hc z => k c v ?_ z)
        (fun c hc => ((upd_ne (at_ne e hc exq_own)).trans (upd_ne (ne_of_none hc nt))).trans hc)
        (fun c xs hc => ((upd_ne (at_ne e hc exq_tup)).trans (upd_ne (ne_of_none hc nt))).trans hc)
      rcases hc with hc | hc
      · exact hc ▸ hb
      · exact at_ne e hc exq_own
end

/-! ### the rules -/
/-- ValueError.__init__(self, ..) -/
def tVeq (K : PySem.W.Frag) (ta : TA) : TE := fun σ H Q => ta σ H fun vs H1 =>
  ∃ (a C t0 : Addr) (ws : List V), vs = .ref a :: ws ∧ ws.length ≤ 1000 ∧ OexC K C ∧ H1 a = some (exq a C none t0) ∧
    ∀ t2, H1 t2 = none → t2 ≠ a → Q .non (upd (upd H1 t2 (.tup ws)) a (exq a C none t2))
/-- self.f = e, the first attribute -/
def tEst (K : PySem.W.Frag) (f : Str) (to te : TE) : TS := fun D σ H => te σ H fun y H1 => to σ H1 fun x H2 =>
  ∃ a C t1 : Addr, x = .ref a ∧ OexC K C ∧ PySem.W.findIn K (.ref C) f = some none ∧ H2 a = some (exq a C none t1) ∧
    ∀ dx, H2 dx = none → dx ≠ a → D.nx σ (upd (upd H2 dx (exd dx [(f, y)])) a (exq a C (some dx) t1))
/-- C(e, ..) as a value -/
def tMkq (C : Addr) (sp : Sp) (dvs : List V) (ta : TA) : TE := fun σ H Q => ta σ H fun vs H1 => vs.length ≤ 1000 ∧
  ∀ t0 a, H1 t0 = none → H1 a = none → t0 ≠ a →
    sp (.ref a :: (vs ++ dvs)) (upd (upd H1 t0 (.tup vs)) a (exq a C none t0))
      (fun v H2 => v = .non ∧ Q (.ref a) H2) (fun _ _ _ => False)

section
variable {X : Cx} {o e : Expr} {es : List Expr} {to te : TE} {ta : TA} {f : Str} {p p' p1 p2 pos : Pos}
theorem pe_veq {pl : Sem Bool} (hg : Gl X "ValueError") (hm : X.mg "ValueError" = none)
    (vV : PySem.W.findCls X.K (.type "ValueError") (.type "type") "__init__" = some (.val (.builtin "ValueError.__init__")))
    (ha : PA X (e :: es) ta)
    (hc : eval (.Call (.Attribute (.Name "ValueError" p1) "__init__" p2) (e :: es) [] pos) X.env = (do
      let ov ← eval (.Name "ValueError" p1) X.env
      standAt p2.atName
      let (f, first) ← holding [ov] (getMethod ov "__init__" pl)
      callWith pos f first (backTo pos (starEach (e :: es) X.env)) (backToKw pos (keywordEach [] X.env))) := by rfl)
    (he : starEach (e :: es) X.env = (false, eval e X.env) :: starEach es X.env := by rfl)
    (hpl : (backTo pos (starEach es X.env)).any (·.1) = false := by rfl) :
    PE X (.Call (.Attribute (.Name "ValueError" p1) "__init__" p2) (e :: es) [] pos) (tVeq X.K ta) := by
  refine ⟨fun pins s σ H Q I h => ?_⟩
  refine PySem.W.methodCall_KW (ld_blt I hg hm PyProof.Rows.Boot.«ValueError» ?_ (by decide) (by decide)) hc
  obtain ⟨m, fr⟩ := I.fr
  refine PySem.W.method_type fr I.ok.mod.kin PySem.OEX.typ_VE (by decide +kernel) vV (by decide +kernel) ?_
  refine PyProof.Rows.callWith_method1 (first := []) (thn (ha.run pos pins _ σ H _ (I.tok _) h)
    fun us s1 ⟨vs, H1, I1, r1, a, C, t0, ws, ev, hl, T, ea, q⟩ => ?_) he hpl
  subst ev
  cases r1 with
  | @cons _ u0 _ ur ra rw' =>
    obtain rfl : u0 = Value.ref a := ra
    have hlen : ur.length ≤ sizeLine := by
      rw [← Paired.length rw', sizeLine_eq]
      omega
    exact eq_init T I1 ea hlen rw' fun t2 s' n1 n2 J => ⟨.non, _, J, rfl, q t2 n1 n2⟩

theorem ps_est (ho : PE X o to) (he : PE X e te)
    (hs : swapsWith e (some (.Attribute o f p')) pos.line X.env = pure false := by rfl) :
    PS X (.Assign [.Attribute o f p'] e pos) (tEst X.K f to te) := by
  refine ⟨fun pins s σ H D I h => ?_⟩
  refine plainObj_wpAny_Assign_Attribute (thn (he.run pins s σ H _ I h) fun v s1 ⟨y, H1, I1, r1, q1⟩ =>
    thn (ho.run pins s1 σ H1 _ I1 q1) fun u s2 ⟨x, H2, I2, r2, a, C, t1, ex, T, hno, ea, q⟩ => ?_) hs
  subst ex
  obtain rfl : u = Value.ref a := r2
  exact eq_new T I2 ea hno r1 fun dx s' n ne J => ⟨σ, _, J, q dx n ne⟩

/-- C.m(e, ..), C an own class, m a def of it: read off the class -/
theorem pe_off {x m : Str} {CX : CXT} {k : Nat} {C g : Addr} {fd : FuncData} {ps : List Str} {sp : Sp} {E : XK}
    {dvs : List V} {ds : List Value} {pl : Sem Bool} (hg : Gl X x) (hm : X.mg x = some (.ref C))
    (sg : PySem.W.specialIn X.K (.ref C) "__getattribute__" = some (some (.builtin "type.__getattribute__")))
    (rd : PySem.W.readsIn X.K C (.type "type") = true)
    (at_ : PySem.W.findCls X.K (.ref C) (.type "type") m = some (.val (.ref g)))
    (kg : PySem.W.keepIn X.K (.ref g) = true)
    (F : FnOk X.prog X.w X.K X.mg X.base CX k g fd ps sp) (hr : Room k X.A) (hb : Binds X.K fd ps ds)
    (hd : Vals dvs ds) (hx : Passes CX X E) (ha : PA X (e :: es) ta)
    (hdb : (x == ("__debug__" : Str)) = false := by decide)
    (hc : eval (.Call (.Attribute (.Name x p1) m p2) (e :: es) [] pos) X.env = (do
      let ov ← eval (.Name x p1) X.env
      standAt p2.atName
      let (f, first) ← holding [ov] (getMethod ov m pl)
      callWith pos f first (backTo pos (starEach (e :: es) X.env)) (backToKw pos (keywordEach [] X.env))) := by rfl)
    (he : starEach (e :: es) X.env = (false, eval e X.env) :: starEach es X.env := by rfl)
    (hpl : (backTo pos (starEach es X.env)).any (·.1) = false := by rfl) :
    PE X (.Call (.Attribute (.Name x p1) m p2) (e :: es) [] pos) (tCall sp dvs E ta) := by
  refine ⟨fun pins s σ H Q I h => ?_⟩
  refine PySem.W.methodCall_KW (ld_glob I hg hm ?_ hdb) hc
  refine PySem.W.method_cls I.kIn sg (PySem.W.cls_value I.kIn rd at_ rfl ?_)
  refine PySem.W.callWith_K (first := []) (h₀ := X.base) I.ok.mod.kin kg
    (thn (ha.run pos pins _ σ H _ (I.tok _) h) fun us s1 ⟨vs, H1, I1, r, q⟩ => ⟨I1.kIn, ?_⟩) he hpl
  exact run_fn F hr hb hd hx I1 r q

theorem pe_mkq {x : Str} {C fI : Addr} {k : Nat} {CX : CXT} {fd : FuncData} {ps : List Str} {sp : Sp}
    {ds : List Value} {dvs : List V} (T : OexC X.K C)
    (iC : PySem.W.findIn X.K (.ref C) "__init__" = some (some (.ref fI)))
    (tI : PySem.W.typeIn X.K (.ref fI) = some (.type "function"))
    (F1 : FnOk X.prog X.w X.K X.mg X.base CX k fI fd ps sp) (hr : Room (k + 1) X.A) (hb : Binds X.K fd ps ds)
    (hd : Vals dvs ds) (hx : Passes CX X (fun _ _ _ => False)) (hg : Gl X x) (hm : X.mg x = some (.ref C))
    (ha : PA X (e :: es) ta) (hdb : (x == ("__debug__" : Str)) = false := by decide)
    (he : starEach (e :: es) X.env = (false, eval e X.env) :: starEach es X.env := by rfl)
    (hpl : (backTo pos (starEach es X.env)).any (·.1) = false := by rfl) :
    PE X (.Call (.Name x p) (e :: es) [] pos) (tMkq C sp dvs ta) := by
  refine ⟨fun pins s σ H Q I h => ?_⟩
  obtain ⟨nm, q, N, bs, bm, sn, sub, ab, col, dd, k0, k1, k2, k3, k5, hC, hbm⟩ := T.cls
  refine wpAny_Call_Name_kw (ld_glob I hg hm ?_ hdb)
  refine PySem.W.callWith_K (h₀ := X.base) I.ok.mod.kin T.kC
    (thn (ha.run pos pins s σ H _ I h) fun us s1 ⟨vs, H1, I1, r1, hz, q1⟩ => ⟨I1.kIn, ?_⟩) he hpl
  show wpAny _ _ (call (.ref C) us) _ _ _
  obtain ⟨hp, g, dr, tk, os⟩ := s1
  have n0 : H1 hp.objs.size = none := I1.hok.fresh (Nat.le_refl _)
  have n1 : H1 (hp.objs.size + 1) = none := I1.hok.fresh (Nat.le_succ _)
  have hne : hp.objs.size ≠ hp.objs.size + 1 := Nat.ne_of_lt (Nat.lt_succ_self _)
  have hq := q1 hp.objs.size (hp.objs.size + 1) n0 n1 hne
  have hus : us.length ≤ sizeLine := by
    rw [← Paired.length r1, sizeLine_eq]
    omega
  have I2 : Inv X pins σ (upd H1 hp.objs.size (.tup vs)) ⟨hp.push (PySem.W.kdv_tup us), g, dr, tk, os⟩ :=
    I1.laid (t' := tk) (a := hp.objs.size) (o := .tup vs) (h' := hp.push (PySem.W.kdv_tup us))
      (fun b o z => Heap.get?_push_of_some _ z) (Nat.le_refl _)
      ⟨by rw [Paired.length r1]; exact hus, us, r1, _, Heap.get?_push_size _ rfl, rfl, _, rfl⟩
  have hget : ((hp.push (PySem.W.kdv_tup us)).push (exOb C none hp.objs.size)).get? (hp.objs.size + 1) =
      some (exOb C none hp.objs.size) := by heap_get
  have hsz2 : (hp.push (PySem.W.kdv_tup us)).objs.size ≤ hp.objs.size + 1 := by
    simp [Heap.push]
  have I3 : Inv X pins σ (upd (upd H1 hp.objs.size (.tup vs)) (hp.objs.size + 1) (exq (hp.objs.size + 1) C none hp.objs.size))
      ⟨(hp.push (PySem.W.kdv_tup us)).push (exOb C none hp.objs.size), g, dr, tk, os⟩ :=
    I2.laid (t' := tk) (a := hp.objs.size + 1) (o := exq (hp.objs.size + 1) C none hp.objs.size)
      (h' := (hp.push (PySem.W.kdv_tup us)).push (exOb C none hp.objs.size))
      (fun b o z => Heap.get?_push_of_some _ z) hsz2 (exq_ok hget)
  have r2 : Vals (V.ref (hp.objs.size + 1) :: (vs ++ dvs)) (Value.ref (hp.objs.size + 1) :: (us ++ ds)) :=
    .cons rfl (r1.append hd)
  have hl : (Value.ref (hp.objs.size + 1) :: us ++ ds).length = ps.length :=
    r2.length.symm.trans (F1.len _ _ _ _ hq)
  refine wpAny_call (PySem.HandSPX.call_own F.excBase_ValueError (fun Y => PySem.HandSPX.refsVE_contains Y bm hbm)
    (I1.kIn _ _ hC) (PySem.W.looks_findIn I1.kIn iC) (fun self => PySem.W.bind_fn I1.kIn self tI) hus
    (codeAny_mono (F1.run _ X.stack _ _ ⟨Value.ref (hp.objs.size + 1) :: us, []⟩
      (Value.ref (hp.objs.size + 1) :: (us ++ ds)) _ _ (fun _ _ _ => False) (hr.make C us []) (I3.env0.make C us [])
      (hb _ (Value.ref (hp.objs.size + 1) :: us) I3.kIn hl) r2 hq) fun r s' hq' => ?_))
  match r, hq' with
  | .error er, hq' => exact hx pins σ _ _ er s' I3 hq'
  | .ok (.ret u), hq' =>
    obtain ⟨v, H', I4, rv, ev, q3⟩ := I3.after hq'
    subst ev
    exact ⟨rv, ⟨V.ref (hp.objs.size + 1), H', I4, rfl, q3⟩⟩
  | .ok .next, hq' => exact False.elim hq'
  | .ok .brk, hq' => exact False.elim hq'
  | .ok .cont, hq' => exact False.elim hq'
end
end Pw

/-! What repr tells of a value: of data that are tracked, with exceptions of one's own among them. -/
namespace Pw
open PySem PySem.Spec PyProof.Rows L2
open Sem (wp)
open Builtin Builtin.Str Builtin.BaseException Builtin.Exceptions

/-- how a class's name stands in what is shown -/
def clsHead (n : Str) : Str := Str.ofString ((n.toString.cutAt '.').getLastD "")
/-- what the class of an exception must say, so that it is shown by its name and its args -/
structure ExR (K : PySem.W.Frag) (C : Addr) (nm : Str) : Prop where
  rep : PySem.W.findIn K (.ref C) "__repr__" = some (some (.builtin "BaseException.__repr__"))
  sub : PySem.W.subIn K (.ref C) (.type "BaseException") = some true
  nam : ∃ cd, PySem.W.clsIn K C = some cd ∧ cd.name = nm

mutual
/-- repr of the value is the text; the first number: how deep it is; the second: no less than the text's length -/
inductive Shw (K : PySem.W.Frag) (H : Hp) : V → Nat → Nat → Str → Prop
  | non : Shw K H .non 0 5 "None"
  | bl (b : Bool) : Shw K H (.bl b) 0 5 (if b then "True" else "False")
  | int (i : Int) (h : i.natAbs.log2 < 1920) : Shw K H (.int i) 0 1921 (toString i)
  | str (x : Str) (m : Nat) (h : (reprText x).length ≤ m) : Shw K H (.str x) 0 m (reprText x)
  | lst {a : Addr} {xs : List V} {d n : Nat} {ts : List Str} (e : H a = some (.lst xs)) (h : ShwL K H xs d n ts) :
      Shw K H (.ref a) (d + 1) (n + 2) (listText ts)
  | tup {a : Addr} {xs : List V} {d n : Nat} {ts : List Str} (e : H a = some (.tup xs)) (h : ShwL K H xs d n ts) :
      Shw K H (.ref a) (d + 1) (n + 3) (tupleText ts)
  | dct {a : Addr} {kvs : List (Key × V)} {d1 d2 n1 n2 : Nat} {ks vs : List Str} (e : H a = some (.dK kvs))
      (h1 : ShwL K H (kvs.map fun p => kV p.1) d1 n1 ks) (h2 : ShwL K H (kvs.map fun p => p.2) d2 n2 vs) :
      Shw K H (.ref a) (max d1 d2 + 1) (n1 + n2 + 2) (dictText (List.zipWith (fun k v : Str => k ++ ": " ++ v) ks vs))
  | exc {a C t : Addr} {d : Option Addr} {x nm : Str} {n1 n2 : Nat} (e : H a = some (exq a C d t))
      (et : H t = some (.tup [.str x])) (c : ExR K C nm) (l1 : (clsHead nm).length ≤ n1) (l2 : (reprText x).length ≤ n2) :
      Shw K H (.ref a) 0 (n1 + n2 + 2) (clsHead nm ++ "(" ++ reprText x ++ ")")
inductive ShwL (K : PySem.W.Frag) (H : Hp) : List V → Nat → Nat → List Str → Prop
  | nil : ShwL K H [] 0 0 []
  | cons {v : V} {vs : List V} {d e n m : Nat} {t : Str} {ts : List Str} (h : Shw K H v d n t) (hs : ShwL K H vs e m ts) :
      ShwL K H (v :: vs) (max d e) (n + 2 + m) (t :: ts)
end

theorem dK_lst {kvs : List (Key × V)} {xs : List V} : HO.dK kvs ≠ HO.lst xs := fun z => nomatch z
theorem dK_exq {kvs : List (Key × V)} {e C t : Addr} {d : Option Addr} : HO.dK kvs ≠ exq e C d t := fun z => by
  have z' : HO.dK kvs = HO.ext _ := z
  cases z'
section
variable {K : PySem.W.Frag} {H : Hp}
mutual
/-- a value is as deep as it is -/
theorem Shw.one : ∀ {v : V} {d n d' n' : Nat} {t t' : Str}, Shw K H v d n t → Shw K H v d' n' t' → d = d'
  | _, _, _, _, _, _, _, .non, .non => rfl
  | _, _, _, _, _, _, _, .bl _, .bl _ => rfl
  | _, _, _, _, _, _, _, .int _ _, .int _ _ => rfl
  | _, _, _, _, _, _, _, .str _ _ _, .str _ _ _ => rfl
  | _, _, _, _, _, _, _, .lst e h, .lst e' h' => by
    cases e.symm.trans e'
    rw [ShwL.one h h']
  | _, _, _, _, _, _, _, .lst e h, .tup e' h' => nomatch e.symm.trans e'
  | _, _, _, _, _, _, _, .lst e h, .dct e' _ _ => nomatch e.symm.trans e'
  | _, _, _, _, _, _, _, .lst e h, .exc e' _ _ _ _ => absurd (Option.some.inj (e.symm.trans e')).symm exq_lst
  | _, _, _, _, _, _, _, .tup e h, .lst e' h' => nomatch e.symm.trans e'
  | _, _, _, _, _, _, _, .tup e h, .tup e' h' => by
    cases e.symm.trans e'
    rw [ShwL.one h h']
  | _, _, _, _, _, _, _, .tup e h, .dct e' _ _ => nomatch e.symm.trans e'
  | _, _, _, _, _, _, _, .tup e h, .exc e' _ _ _ _ => absurd (Option.some.inj (e.symm.trans e')).symm exq_tup
  | _, _, _, _, _, _, _, .dct e _ _, .lst e' h' => nomatch e.symm.trans e'
  | _, _, _, _, _, _, _, .dct e _ _, .tup e' h' => nomatch e.symm.trans e'
  | _, _, _, _, _, _, _, .dct e h1 h2, .dct e' h1' h2' => by
    cases e.symm.trans e'
    rw [ShwL.one h1 h1', ShwL.one h2 h2']
  | _, _, _, _, _, _, _, .dct e _ _, .exc e' _ _ _ _ => absurd (Option.some.inj (e.symm.trans e')) dK_exq
  | _, _, _, _, _, _, _, .exc e _ _ _ _, .lst e' h' => absurd (Option.some.inj (e.symm.trans e')) exq_lst
  | _, _, _, _, _, _, _, .exc e _ _ _ _, .tup e' h' => absurd (Option.some.inj (e.symm.trans e')) exq_tup
  | _, _, _, _, _, _, _, .exc e _ _ _ _, .dct e' _ _ => absurd (Option.some.inj (e.symm.trans e')).symm dK_exq
  | _, _, _, _, _, _, _, .exc e _ _ _ _, .exc e' _ _ _ _ => rfl
theorem ShwL.one : ∀ {vs : List V} {d n d' n' : Nat} {ts ts' : List Str}, ShwL K H vs d n ts → ShwL K H vs d' n' ts' → d = d'
  | _, _, _, _, _, _, _, .nil, .nil => rfl
  | _, _, _, _, _, _, _, .cons h hs, .cons h' hs' => by rw [Shw.one h h', ShwL.one hs hs']
end

/-- the length of a join of texts, each with two signs more -/
theorem join_le (sep : Str) (hsep : sep.length = 2) : ∀ ts : List Str, (Str.join sep ts).length ≤ (ts.map fun t => t.length + 2).sum
  | [] => by
    show (Str.join sep []).length ≤ 0
    exact Nat.le_of_eq rfl
  | [x] => by
    show x.length ≤ _
    simp only [List.map_cons, List.map_nil, List.sum_cons, List.sum_nil]
    omega
  | x :: y :: r => by
    have ih := join_le sep hsep (y :: r)
    show (x ++ sep ++ Str.join sep (y :: r)).length ≤ _
    rw [strLen_append, strLen_append, hsep]
    simp only [List.map_cons, List.sum_cons] at ih ⊢
    omega
theorem textFrom_le : ∀ (ts : List Str) (i : Nat) (b : Str), (textFrom i b ts).length ≤ b.length + (ts.map fun t => t.length + 2).sum := by
  intro ts
  induction ts with
  | nil =>
    intro i b
    exact Nat.le_add_right _ _
  | cons t r ih =>
    intro i b
    have h := ih (i + 1) (b ++ Str.ofString (if 0 < i then ", " else "") ++ t)
    have e : textFrom i b (t :: r) = textFrom (i + 1) (b ++ Str.ofString (if 0 < i then ", " else "") ++ t) r := rfl
    rw [e]
    refine Nat.le_trans h ?_
    rw [strLen_append, strLen_append]
    have h2 : (Str.ofString (if 0 < i then ", " else "")).length ≤ 2 := by
      split <;> decide +kernel
    simp only [List.map_cons, List.sum_cons]
    omega
mutual
theorem Shw.len : ∀ {v : V} {d n : Nat} {t : Str}, Shw K H v d n t → t.length ≤ n
  | _, _, _, _, .non => by decide +kernel
  | _, _, _, _, .bl b => by cases b <;> decide +kernel
  | _, _, _, _, .int i h => int_text_len_1921 h
  | _, _, _, _, .str x m h => h
  | _, _, _, _, .lst (ts := ts) e h => by
    have h1 := ShwL.len h
    have h2 := textFrom_le ts 0 "["
    have e1 : ("[" : Str).length = 1 := rfl
    have e2 : (listText ts).length = (textFrom 0 "[" ts).length + 1 := by
      show (textFrom 0 "[" ts ++ "]").length = _
      rw [strLen_append]; rfl
    omega
  | _, _, _, _, .tup (ts := ts) e h => by
    have h1 := ShwL.len h
    have h2 := join_le ", " rfl ts
    unfold tupleText
    rw [strLen_append, strLen_append]
    have e1 : ("(" : Str).length = 1 := rfl
    have e2 : (Str.ofString (if (ts.length == 1) = true then ",)" else ")")).length ≤ 2 := by split <;> decide +kernel
    omega
  | _, _, _, _, .dct (ks := ks) (vs := vs) e h1 h2 => by
    have q1 := ShwL.len h1
    have q2 := ShwL.len h2
    have q3 := join_le ", " rfl (List.zipWith (fun k v : Str => k ++ ": " ++ v) ks vs)
    have q4 : ∀ (ks vs : List Str), ((List.zipWith (fun k v : Str => k ++ ": " ++ v) ks vs).map fun t => t.length + 2).sum ≤ (ks.map fun t => t.length + 2).sum + (vs.map fun t => t.length + 2).sum := by
      intro ks
      induction ks with
      | nil => intro vs; simp
      | cons k r ih =>
        intro vs
        cases vs with
        | nil => simp
        | cons v r' =>
          have i1 := ih r'
          have i2 : (k ++ (": " : Str) ++ v).length = k.length + 2 + v.length := by
            rw [strLen_append, strLen_append]; rfl
          simp only [List.zipWith_cons_cons, List.map_cons, List.sum_cons] at i1 ⊢
          omega
    have q5 := q4 ks vs
    unfold dictText
    rw [strLen_append, strLen_append]
    have e1 : ("{" : Str).length = 1 := rfl
    have e2 : ("}" : Str).length = 1 := rfl
    omega
  | _, _, _, _, .exc e et c l1 l2 => by
    rw [strLen_append, strLen_append, strLen_append]
    have e1 : ("(" : Str).length = 1 := rfl
    have e2 : (")" : Str).length = 1 := rfl
    omega
theorem ShwL.len : ∀ {vs : List V} {d n : Nat} {ts : List Str}, ShwL K H vs d n ts → (ts.map fun t => t.length + 2).sum ≤ n
  | _, _, _, _, .nil => Nat.le_refl _
  | _, _, _, _, .cons h hs => by
    have h1 := Shw.len h
    have h2 := ShwL.len hs
    simp only [List.map_cons, List.sum_cons]
    omega
end
end

/-! ### an exception of one's own is shown -/
section
variable {prog : Program} {w : World} {h₀ : Heap} {K : PySem.W.Frag} {C : Addr} {nm : Str}
theorem typ_at {M : Model} {h : Heap} {e t : Addr} {d : Option Addr} (he : h.get? e = some (exOb C d t)) :
    PySem.W.Looks M h (typeOf (.ref e)) (.ref C) := by
  intro A' Q' E' s' k q
  unfold typeOf
  exact wpAny_bind (wpAny_loadPart (k _ _ he) (wpAny_pure q))
/-- the displayed class, by name -/
theorem name_of {M : Model} {A : Around} {E : Value → Shared → Prop} {s : Shared} {e t : Addr} {d : Option Addr}
    {cd : ClassData} {Q : String → Shared → Prop} (X : K.In s.heap) (he : s.heap.get? e = some (exOb C d t))
    (hc : PySem.W.clsIn K C = some cd) (hq : Q cd.name.toString s) : wpAny M A (typeNameOfWhole (.ref e)) Q E s := by
  unfold typeNameOfWhole shownTypeOf
  have L0 : PySem.W.Looks M s.heap (typeOf (.ref e)) (.ref C) := typ_at he
  refine wpAny_bind (wpAny_bind (L0.here ?_))
  have e0 : (Value.ref C == Value.type "builtin_function_or_method") = false := rfl
  simp only [e0, Bool.false_eq_true, if_false]
  refine wpAny_pure ?_
  unfold typeNameWhole
  exact wpAny_bind ((PySem.W.looks_clsIn X hc).here (wpAny_pure hq))

theorem exc_body {A : Around} {E : Value → Shared → Prop} {s : Shared} {e t : Addr} {d : Option Addr} {cd : ClassData}
    {x : Str} {tk : Tok} {Q : Fin → Shared → Prop} (b : Nat) (X : K.In s.heap) (he : s.heap.get? e = some (exOb C d t))
    (ht : s.heap.TupAt t [.str x tk]) (hc : PySem.W.clsIn K C = some cd)
    (hq : Q (.done (.ret (.str (clsHead cd.name ++ "(" ++ reprText x ++ ")") (s.toks + 1)))) { s with toks := s.toks + 1 + 1 })
    (hsz : b + (clsHead cd.name ++ "(" ++ reprText x ++ ")").length ≤ sizeLine) :
    wpAny (model prog w) A (Builtin.bexcReprAt b ⟨[.ref e], []⟩) Q E s := by
  have e1 : b + (clsHead cd.name ++ Str.ofString "(" ++ reprText x ++ Str.ofString ")").length ≤ sizeLine := hsz
  have hsz2 : (clsHead cd.name ++ Str.ofString "(" ++ reprText x ++ Str.ofString ")").length ≤ sizeLine := by omega
  have eP : (Str.ofString "(").length = 1 := rfl
  rw [strLen_append, strLen_append, strLen_append, eP] at e1
  have hsz1 : (reprText x).length ≤ sizeLine := by omega
  have hpile : b + ((clsHead cd.name).length + 1) ≤ sizeLine := by omega
  obtain ⟨ot, k, hto, _, htd⟩ := id ht
  have args : ∀ {A' : Around} {E' : Value → Shared → Prop} {Q' : Value × List Value → Shared → Prop},
      Q' (.ref t, [.str x tk]) s → wpAny (model prog w) A' (bexcArgs (.ref e)) Q' E' s := fun {A' E' Q'} q => by
    unfold bexcArgs
    exact wpAny_bind (wpAny_field he rfl rfl (wpAny_bind (wpAny_seqItems hto htd (wpAny_pure q))))
  unfold Builtin.bexcReprAt
  unfold clsHead at hpile hsz2
  repeat (first | with_reducible refine name_of X he hc ?_ | with_reducible refine args ?_ | rw [pyReprUnder_leaf (v := .str x tk) hpile (by intro a; nofun)] | with_reducible refine wpAny_pyRepr_str ?_ | wp_step)
  exact hq

theorem ReprK.exq {e t : Addr} {d : Option Addr} {x : Str} {tk : Tok} (X : K.In h₀) (he : h₀.get? e = some (exOb C d t))
    (ht : h₀.TupAt t [.str x tk]) (R : ExR K C nm) :
    ReprK prog w [] h₀ 0 (.ref e) (clsHead nm ++ "(" ++ reprText x ++ ")") := by
  intro base hb A g E s Q hg hcl hu hk0 hQ
  obtain ⟨cd, hc, rfl⟩ := R.nam
  have X' : K.In s.heap := fun a o z => hk0 a o (X a o z)
  have he' := hk0 _ _ he
  have ht' : s.heap.TupAt t [.str x tk] := let ⟨o, k, h1, h2⟩ := ht; ⟨o, k, hk0 _ _ h1, h2⟩
  have L0 : PySem.W.Looks (model prog w) s.heap (typeOf (.ref e)) (.ref C) := typ_at he'
  have L1 := PySem.W.looks_findIn (M := model prog w) X' R.rep
  have sub : PySem.W.Looks (model prog w) s.heap (isInstance (.ref e) (.type "BaseException")) true :=
    L0.andThen (PySem.W.looks_subIn X' R.sub)
  refine wpAny_pyReprUnder_ref (by omega) ?_
  unfold pyReprObjUnder pyReprObjBy
  refine wpAny_bind (wpAny_cRoomFor (by omega) ?_)
  refine wpAny_bind (wpAny_bind (L0.here (L1.here ?_)))
  have last : wpAny (model prog w) A (call (.builtin "BaseException.__repr__.under") [.ref e, rawInt base])
      (fun v s' => ∃ y u, v = .str y u ∧ Q y s') E s := by
    refine wpAny_call (codeAny_call_builtin F.plain_bexc_repr_under F.entry_bexc_repr_under ?_)
    rw [F.check_bexc_repr_under]
    refine wpAny_pure ?_
    show wpAny _ _ (reprTwin "BaseException.__repr__" Builtin.bexcReprAt ⟨[.ref e, rawInt base], []⟩) _ _ _
    rw [reprTwin_eq]
    refine wpAny_bind (PySem.W.check_slot (i := "BaseException.__repr__") (owner := "BaseException") (n := "__repr__")
      (by decide +kernel) (by decide +kernel) sub (F.args_bexc_repr _) ?_)
    refine exc_body base X' he' ht' hc ?_ hb
    exact ⟨_, _, rfl, hQ s.heap _ fun _ _ z => z⟩
  simp only [Option.isNone_some, Bool.false_eq_true, if_false, callSpecialIfBoundBy?, bindSpecialIfBound?]
  refine wpAny_bind (wpAny_holding (wpAny_bind (wpAny_bind (wpAny_bind (L0.here (L1.here ?_))))))
  have fin : wpAny (model prog w) A (call (.builtin "BaseException.__repr__.under") [.ref e, rawInt base] >>= fun v => pure (some v))
      (fun r s' => wpAny (model prog w) A (match r with
        | some r => do
          if (← isInstance r (.type "str")) = true then pure r else
            raiseError "TypeError" s!"__repr__ returned non-string (type {← typeNameOf r})"
        | none => unsupported "repr:special-get-raises") (fun v s' => ∃ y u, v = .str y u ∧ Q y s') E s') E s :=
    wpAny_bind (wpAny_mono last (fun v s' z => by
      obtain ⟨y, u, rfl, q⟩ := z
      exact wpAny_pure (wpAny_bind (wpAny_isInstance (T := "str") (b := true) rfl isSubtype_str_str (wpAny_pure ⟨y, u, rfl, q⟩))))
      fun _ _ z => z)
  have bd : bindSpecial (.builtin "BaseException.__repr__") (.ref e) = pure (.builtin "BaseException.__repr__", [.ref e]) :=
    F.excStr_ValueError.repr.bind _
  dsimp only
  simp only [bd]
  refine wpAny_bind (wpAny_askSetting (wpAny_ite ?_))
  split
  · exact wpAny_bind (wpAny_pure (wpAny_pure fin))
  · exact wpAny_tryCatch (wpAny_bind (wpAny_pure (wpAny_pure fin)))
end
end Pw

namespace Pw
open PySem PySem.Spec PyProof.Rows L2

/-- places that are shown no deeper than that -/
def AtM (K : PySem.W.Frag) (H : Hp) (n : Nat) (bs : List Addr) : Prop :=
  ∀ b ∈ bs, ∃ d m t, Shw K H (.ref b) d m t ∧ d ≤ n
theorem AtM.mono {K : PySem.W.Frag} {H : Hp} {n m : Nat} {bs : List Addr} (h : AtM K H n bs) (l : n ≤ m) : AtM K H m bs :=
  fun b hb => let ⟨d, k, t, s, z⟩ := h b hb; ⟨d, k, t, s, Nat.le_trans z l⟩
theorem AtM.app {K : PySem.W.Frag} {H : Hp} {n : Nat} {as bs : List Addr} (h : AtM K H n as) (g : AtM K H n bs) :
    AtM K H n (as ++ bs) := fun b hb => (List.mem_append.mp hb).elim (h b) (g b)
theorem AtM.out {K : PySem.W.Frag} {H : Hp} {n d m : Nat} {a : Addr} {t : Str} {bs : List Addr} (h : AtM K H n bs)
    (s : Shw K H (.ref a) d m t) (l : n < d) : a ∉ bs := fun hm => by
  obtain ⟨d', m', t', s', z⟩ := h a hm
  have e := Shw.one s s'
  omega
theorem AtM.con {K : PySem.W.Frag} {H : Hp} {n d m : Nat} {a : Addr} {t : Str} {bs : List Addr} (h : AtM K H n bs)
    (s : Shw K H (.ref a) d m t) (l : n ≤ d) : AtM K H d (a :: bs) := fun b hb => by
  rcases List.mem_cons.mp hb with e | hb
  · subst e
    exact ⟨d, m, t, s, Nat.le_refl _⟩
  · exact (h.mono l) b hb

theorem pairs_keys {P : Program} {w : World} : ∀ {kvs : List (Key × V)} {vs : List (Key × Value)} {es : List DictEntry},
    KV kvs vs → PySem.Pairs (mixKind P w) es vs →
    Vals (kvs.map fun p => kV p.1) (es.map (·.key)) ∧ Vals (kvs.map fun p => p.2) (es.map (·.val))
  | _, _, _, .nil, .nil => ⟨.nil, .nil⟩
  | _, _, _, .cons (a := p) (b := q) h hs, .cons (e := e) hk hv ps => by
    obtain ⟨h1, h2⟩ := pairs_keys hs ps
    refine ⟨.cons ?_ h1, .cons ?_ h2⟩
    · have hk' : keyIs q.1 e.key = true := hk
      show RelV (kV p.1) e.key
      rw [h.1]
      rcases keyIs_shape hk' with ⟨i, t, e1, e2⟩ | ⟨x, t, e1, e2⟩
      · rw [e1, e2]; exact ⟨t, rfl⟩
      · rw [e1, e2]; exact ⟨t, rfl⟩
    · show RelV p.2 e.val
      rw [hv]; exact h.2

section
variable {P : Program} {w : World} {K : PySem.W.Frag} {H : Hp} {h : Heap}
mutual
theorem Shw.run (hok : HOk P w H h) (X : K.In h) : ∀ {v : V} {d n : Nat} {t : Str}, Shw K H v d n t → n ≤ sizeLine →
    ∀ u, RelV v u → ∃ bs, AtM K H d bs ∧ ReprK P w bs h d u t
  | _, _, _, _, .non, _, u, r => by
    obtain rfl : u = Value.none := r
    exact ⟨[], (fun _ z => nomatch z), .of_is ReprIs.none _ _ _⟩
  | _, _, _, _, .bl b, _, u, r => by
    obtain rfl : u = Value.bool b := r
    exact ⟨[], (fun _ z => nomatch z), .of_is (ReprIs.bool b) _ _ _⟩
  | _, _, _, _, .int i hi, _, u, r => by
    obtain ⟨t, rfl⟩ := (show ∃ t, u = Value.int i t from r)
    exact ⟨[], (fun _ z => nomatch z), .of_is (ReprIs.int t hi) _ _ _⟩
  | _, _, _, _, .str x m hm, hl, u, r => by
    obtain ⟨t, rfl⟩ := (show ∃ t, u = Value.str x t from r)
    exact ⟨[], (fun _ z => nomatch z), .of_is (ReprIs.str x t (Nat.le_trans hm hl)) _ _ _⟩
  | _, _, _, _, .lst (a := a) (xs := xs) (d := d) (ts := ts) e hs, hl, u, r => by
    obtain rfl : u = Value.ref a := r
    obtain ⟨_, its, k, rv, h1⟩ := (show ObjOk P w H h a (.lst xs) from hok a _ e)
    obtain ⟨bs, hb, hk⟩ := ShwL.run hok X hs (by omega) its rv
    have sh := Shw.lst e hs
    have hna := hb.out sh (Nat.lt_succ_self _)
    refine ⟨a :: bs, hb.con sh (Nat.le_succ _), ?_⟩
    cases its with
    | nil =>
      cases hk
      rw [listText_nil]
      exact ReprK.listEmpty h1 rfl rfl
    | cons y l => exact ReprK.list h1 rfl rfl hna (by simpa using hk.length_eq) (fun i z q => hk.item i z (by simpa using q))
  | _, _, _, _, .tup (a := a) (xs := xs) (d := d) (ts := ts) e hs, hl, u, r => by
    obtain rfl : u = Value.ref a := r
    obtain ⟨_, its, rv, o, h1, h2, k, h3⟩ := (show ObjOk P w H h a (.tup xs) from hok a _ e)
    obtain ⟨bs, hb, hk⟩ := ShwL.run hok X hs (by omega) its rv
    have sh := Shw.tup e hs
    exact ⟨a :: bs, hb.con sh (Nat.le_succ _), ReprK.tuple h1 h2 h3 (hb.out sh (Nat.lt_succ_self _)) (by simpa using hk)⟩
  | _, _, _, _, .dct (a := a) (kvs := kvs) (ks := ks) (vs := vs) e hs1 hs2, hl, u, r => by
    obtain rfl : u = Value.ref a := r
    obtain ⟨_, hsys, us, hkv, o, es, ep, h1, h2, h3, _, h4, _⟩ := (show ObjOk P w H h a (.dK kvs) from hok a _ e)
    obtain ⟨r1, r2⟩ := pairs_keys hkv h4
    obtain ⟨b1, hb1, k1⟩ := ShwL.run hok X hs1 (by omega) _ r1
    obtain ⟨b2, hb2, k2⟩ := ShwL.run hok X hs2 (by omega) _ r2
    have sh := Shw.dct e hs1 hs2
    have hb := (hb1.mono (Nat.le_max_left _ _)).app (hb2.mono (Nat.le_max_right _ _))
    exact ⟨a :: (b1 ++ b2), hb.con sh (Nat.le_succ _), ReprK.dict h1 h2.1 h3 hsys (hb.out sh (Nat.lt_succ_self _))
      (ReprEntriesK.of_two es.toList _ _ (k1.more_le (fun b z => List.mem_append_left _ z) (Nat.le_max_left _ _))
        (k2.more_le (fun b z => List.mem_append_right _ z) (Nat.le_max_right _ _)))⟩
  | _, _, _, _, .exc (a := a) (C := C) (t := t) e et c l1 l2, hl, u, r => by
    obtain rfl : u = Value.ref a := r
    obtain ⟨_, its, rv, o, h1, h2, k, h3⟩ := (show ObjOk P w H h t (.tup _) from hok t _ et)
    cases rv with
    | cons rx rr =>
      cases rr
      obtain ⟨tk, rfl⟩ := (show ∃ tk, _ = Value.str _ tk from rx)
      exact ⟨[], (fun _ z => nomatch z), ReprK.exq X (exq_at hok e) ⟨o, k, h1, h2, h3⟩ c⟩
theorem ShwL.run (hok : HOk P w H h) (X : K.In h) : ∀ {vs : List V} {d n : Nat} {ts : List Str}, ShwL K H vs d n ts → n ≤ sizeLine →
    ∀ us, Vals vs us → ∃ bs, AtM K H d bs ∧ ReprAllK P w bs h d us ts
  | _, _, _, _, .nil, _, us, r => by
    cases r
    exact ⟨[], (fun _ z => nomatch z), .nil⟩
  | _, _, _, _, .cons s ss, hl, us, r => by
    cases r with
    | cons rx rr =>
      obtain ⟨b1, hb1, k1⟩ := Shw.run hok X s (by omega) _ rx
      obtain ⟨b2, hb2, k2⟩ := ShwL.run hok X ss (by omega) _ rr
      refine ⟨b1 ++ b2, (hb1.mono (Nat.le_max_left _ _)).app (hb2.mono (Nat.le_max_right _ _)), .cons ?_ ?_⟩
      · exact (k1.more fun b z => List.mem_append_left _ z).level_le (Nat.le_max_left _ _)
      · exact k2.more_le (fun b z => List.mem_append_right _ z) (Nat.le_max_right _ _)
end
end

/-- repr(x): its text -/
def rRepr (K : PySem.W.Frag) : List V → Hp → VK → Prop := fun xs H Q => ∃ (x : V) (d n : Nat) (t : Str),
  xs = [x] ∧ Shw K H x d n t ∧ (∀ a, x = .ref a → 0 < d) ∧ n ≤ sizeLine ∧ d ≤ 60 ∧ Q (.str t) H
theorem call_repr {X : Cx} (gd : X.A.guards = some []) (hu : X.A.units + 64 < cLine) : CallR X (.builtin "repr") (rRepr X.K) := by
  intro pins s σ H xs us Q I r h
  obtain ⟨x, d, n, t, rfl, sh, hpos, hl, hd, q⟩ := h
  have hlen := Shw.len sh
  cases r with
  | cons rx rr =>
    cases rr
    rename_i u
    have hback : ∀ h' uu tk, (∀ b o, s.heap.get? b = some o → h'.get? b = some o) →
        EP X pins σ Q (.str t uu) { s with heap := h', toks := tk } := fun h' uu tk k =>
      ⟨.str t, H, I.kept k, ⟨uu, rfl⟩, q⟩
    cases sh with
    | non =>
      obtain rfl : u = Value.none := rx
      exact PySem.P.repr_of_none (hback s.heap _ _ fun _ _ z => z)
    | bl b =>
      obtain rfl : u = Value.bool b := rx
      exact PySem.P.repr_of_bool (hback s.heap _ _ fun _ _ z => z)
    | int i hi =>
      obtain ⟨tk, rfl⟩ := (show ∃ tk, u = Value.int i tk from rx)
      exact PySem.P.repr_of_int hi (hback s.heap _ _ fun _ _ z => z)
    | str z m hm =>
      obtain ⟨tk, rfl⟩ := (show ∃ tk, u = Value.str z tk from rx)
      exact PySem.P.repr_of_str (hback s.heap _ _ fun _ _ z => z) (Nat.le_trans hm hl)
    | @lst a ys d0 n0 ts e hs =>
      obtain rfl : u = Value.ref a := rx
      obtain ⟨_, its, k, rv, h1⟩ := (show ObjOk X.prog X.w H s.heap a (.lst ys) from I.hok a _ e)
      obtain ⟨bs, hb, hk⟩ := ShwL.run I.hok I.kIn hs (by omega) its rv
      have hna := hb.out (Shw.lst e hs) (Nat.lt_succ_self _)
      refine call_repr_slot (by omega) ⟨_, h1, rfl⟩ F.slot_list_repr.toG ?_
      cases its with
      | nil =>
        cases hk
        rw [listText_nil] at hback
        exact call_list_repr_empty ⟨_, h1, rfl⟩ h1 rfl ⟨_, _, rfl, hback s.heap _ _ fun _ _ z => z⟩
      | cons y l =>
        exact call_list_reprK h1 rfl rfl hna (by simpa using hk.length_eq) (fun i z q => hk.item i z (by simpa using q))
          (g := []) gd (fun b _ => Clear.nil b) (by show X.A.units + 1 + _ < _; omega) (fun _ _ z => z)
          (fun h' uu tk k => ⟨_, _, rfl, hback h' uu tk k⟩) (Nat.le_trans hlen hl)
    | @tup a ys d0 n0 ts e hs =>
      obtain rfl : u = Value.ref a := rx
      obtain ⟨_, its, rv, o, h1, h2, k, h3⟩ := (show ObjOk X.prog X.w H s.heap a (.tup ys) from I.hok a _ e)
      obtain ⟨bs, hb, hk⟩ := ShwL.run I.hok I.kIn hs (by omega) its rv
      have hna := hb.out (Shw.tup e hs) (Nat.lt_succ_self _)
      refine call_repr_slot (by omega) ⟨_, h1, h2⟩ F.slot_tuple_repr ?_
      exact call_tuple_reprK h1 h2 h3 hna (by simpa using hk)
        (g := []) gd (fun b _ => Clear.nil b) (by show X.A.units + 1 + _ < _; omega) (fun _ _ z => z)
        (fun h' uu tk k => ⟨_, _, rfl, hback h' uu tk k⟩) (Nat.le_trans hlen hl)
    | @dct a kvs d1 d2 n1 n2 ks vs e hs1 hs2 =>
      obtain rfl : u = Value.ref a := rx
      obtain ⟨_, hsys, us, hkv, o, es, ep, h1, h2, h3, _, h4, _⟩ := (show ObjOk X.prog X.w H s.heap a (.dK kvs) from I.hok a _ e)
      obtain ⟨r1, r2⟩ := pairs_keys hkv h4
      obtain ⟨b1, hb1, k1⟩ := ShwL.run I.hok I.kIn hs1 (by omega) _ r1
      obtain ⟨b2, hb2, k2⟩ := ShwL.run I.hok I.kIn hs2 (by omega) _ r2
      have hb := (hb1.mono (Nat.le_max_left d1 d2)).app (hb2.mono (Nat.le_max_right d1 d2))
      have hna := hb.out (Shw.dct e hs1 hs2) (Nat.lt_succ_self _)
      refine call_repr_slot (by omega) ⟨_, h1, h2.1⟩ F.slot_dict_repr ?_
      exact call_dict_reprK h1 h2.1 h3 hsys hna
        (ReprEntriesK.of_two es.toList _ _ (k1.more_le (fun b z => List.mem_append_left _ z) (Nat.le_max_left _ _))
          (k2.more_le (fun b z => List.mem_append_right _ z) (Nat.le_max_right _ _)))
        (g := []) gd (fun b _ => Clear.nil b) (by show X.A.units + 1 + _ < _; omega) (fun _ _ z => z)
        (fun h' uu tk k => ⟨_, _, rfl, hback h' uu tk k⟩) (Nat.le_trans hlen hl)
    | exc e et c l1 l2 => exact absurd (hpos _ rfl) (Nat.lt_irrefl 0)

/-! ### what is shown stays while what is tracked stays -/
section
variable {K : PySem.W.Frag} {H H' : Hp}
mutual
theorem Shw.same (S : Same H H') : ∀ {v : V} {d n : Nat} {t : Str}, Shw K H v d n t → Shw K H' v d n t
  | _, _, _, _, .non => .non
  | _, _, _, _, .bl b => .bl b
  | _, _, _, _, .int i h => .int i h
  | _, _, _, _, .str x m h => .str x m h
  | _, _, _, _, .lst e h => .lst (S _ _ e) (ShwL.same S h)
  | _, _, _, _, .tup e h => .tup (S _ _ e) (ShwL.same S h)
  | _, _, _, _, .dct e h1 h2 => .dct (S _ _ e) (ShwL.same S h1) (ShwL.same S h2)
  | _, _, _, _, .exc e et c l1 l2 => .exc (S _ _ e) (S _ _ et) c l1 l2
theorem ShwL.same (S : Same H H') : ∀ {vs : List V} {d n : Nat} {ts : List Str}, ShwL K H vs d n ts → ShwL K H' vs d n ts
  | _, _, _, _, .nil => .nil
  | _, _, _, _, .cons h hs => .cons (Shw.same S h) (ShwL.same S hs)
end
end
end Pw

namespace PySem.W
open PySem PySem.Calls PyProof.Rows Builtin Builtin.ObjectAttr Builtin.Getset_descriptor
section
variable {prog : Program} {w : World} {A : Around} {E : Value → Shared → Prop} {s : Shared} {K : Frag} {D x : Addr}
  {ox oD : Obj}
/-- e.__class__, e an exception of one's own that has its dict -/
theorem pw_class {Q : Option Value → Shared → Prop}
    (hga : findIn K (.ref D) "__getattribute__" = some (some (.builtin "BaseException.__getattribute__")))
    (hgt : findIn K (.ref D) "__getattr__" = some none)
    (hsub : subIn K (.ref D) (.type "BaseException") = some true)
    (hf : findObj K D (some oD) "__class__" =
      some (.bind (.builtin "getset_descriptor.__get__") (.builtin "object.__class__")))
    (hm : mroIn K D (.type "object") = some true) (X : K.In s.heap) (I : InstAt s.heap x ox D (some oD))
    (h : Q (some (.ref D)) { s with toks := s.toks + 1 }) :
    wpAny (model prog w) A (getAttr? (.ref x) "__class__") Q E s := by
  obtain ⟨hp, g, d, t, os⟩ := s
  have T0 := I.type (M := model prog w)
  have T1 := looks_findIn (M := model prog w) X hga
  have T2 := looks_findIn (M := model prog w) X hgt
  have T3 := looks_find (M := model prog w) X I hf
  have isE : Looks (model prog w) hp (isInstance (.ref x) (.type "BaseException")) true :=
    T0.andThen (looks_subIn X hsub)
  have z0 : (false && onTheHeap (Value.builtin "BaseException.__getattribute__")) = false := rfl
  have z2 : (Value.builtin "BaseException.__getattribute__" ==
    Value.builtin "object.__getattribute__") = false := by decide +kernel
  have z1 : (onTheHeap (Value.ref D) && Value.builtin "BaseException.__getattribute__" ==
    Value.builtin "object.__getattribute__") = false := by rw [z2]; rfl
  unfold getAttr? getAttrBy? getAttrBy
  refine wpAny_bind (wpAny_mkText (wpAny_bind (wpAny_attempt (wpAny_holding (wpAny_bind
    (T0.at (wpAny_bind (T1.at ?_))))))))
  show wpAny _ _ (if (onTheHeap (Value.ref D) && Value.builtin "BaseException.__getattribute__" ==
    Value.builtin "object.__getattribute__") = true then _ else _) _ _ _
  rw [z1, if_neg Bool.false_ne_true]
  unfold getAttrByItsOwn hookBefore
  refine wpAny_bind ?_
  rw [if_pos (show onTheHeap (Value.ref D) = true from rfl)]
  refine T2.at (wpAny_bind (wpAny_attempt (wpAny_holding ?_)))
  unfold callGetattribute
  rw [z0, if_neg Bool.false_ne_true]
  unfold boundAndCalled
  rw [PySem.F.excAttr_ValueError.ga.bind (.ref x)]
  refine wpAny_bind (wpAny_pure ?_)
  show wpAny _ _ (call (.builtin "BaseException.__getattribute__")
    [.ref x, .str "__class__" t]) _ _ _
  refine wpAny_call (codeAny_call_builtin PySem.F.excAttr_ValueError.ga.plain
    PySem.F.entry_bexc_ga ?_)
  refine @check_slot (model prog w) _ _ ⟨hp, g, d, t + 1, os⟩ "BaseException.__getattribute__"
    "BaseException" "__getattribute__" (.ref x) [.str "__class__" t] [] _ (by decide +kernel)
    (by decide +kernel) isE (PySem.F.args_bexc_ga (.ref x) (.str "__class__" t)) ?_
  unfold Builtin.«object.__getattribute__»
  refine wpAny_bind (wpAny_of_eq (a := ((Value.ref x : Value), [Value.str "__class__" t]))
    (by first | rfl | (simp only [slotArgs]; rfl)) ?_)
  refine wpAny_bind (wpAny_pure (wpAny_bind (T0.at (wpAny_bind (T3.at ?_)))))
  show wpAny _ _ (holding [Value.builtin "object.__class__"] (call (.builtin "getset_descriptor.__get__")
    [.builtin "object.__class__", .ref x, .ref D]) >>= ret) _ _ _
  refine wpAny_bind (wpAny_holding (wpAny_call (class_get (s := ⟨hp, g, d, t + 1, os⟩)
    (ox := ox) (od := some oD) X I hm ?_)))
  refine wpAny_pure ?_
  show wpAny _ _ (handedOut (.ref D)) _ _ _
  rw [handedOut_of (v := .ref D) rfl]
  first
    | exact wpAny_pure (wpAny_pure h)
    | exact wpAny_pure h
    | exact wpAny_pure (wpAny_bind (wpAny_pure (wpAny_pure h)))
end
end PySem.W

namespace Pw
open PySem PySem.Spec PyProof.Rows L2

theorem cls_of_dict {K : PySem.W.Frag} {D : Addr} (hd : PySem.W.hasDictIn K D = true) :
    (PySem.W.clsIn K D).isSome = true := by
  cases e : PySem.W.clsIn K D with
  | some _ => rfl
  | none =>
    unfold PySem.W.hasDictIn at hd
    rw [e] at hd
    cases hd

theorem kit_exq {K : PySem.W.Frag} {x D t dx : Addr} {oD : Obj} (C : ExcC K D) :
    PySem.W.KitX K (.ref x) (.ref D) (fun h => PySem.W.InstAt h x (exOb D (some dx) t) D (some oD)) where
  ty := fun _ _ _ I => I.type
  it := fun M h X _ => by
    obtain ⟨cd, hc⟩ := Option.isSome_iff_exists.mp (cls_of_dict C.hd)
    unfold PySem.W.clsIn at hc
    split at hc
    · rename_i ho
      intro A' Q' E' s' k q
      unfold isType loadHead
      exact wpAny_bind (wpAny_loadPart (k _ _ (X _ _ ho)) (wpAny_pure q))
    · cases hc
  ne := fun h tp dd its n sl X htp => by
    obtain ⟨cd, hc⟩ := Option.isSome_iff_exists.mp (cls_of_dict C.hd)
    refine Bool.eq_false_iff.mpr fun q => ?_
    obtain rfl : D = tp := Value.ref.inj (beq_iff_eq.mp q)
    unfold PySem.W.clsIn at hc
    split at hc
    · rename_i ho
      cases (X _ _ ho).symm.trans htp
    · cases hc
  ca := fun X I k => PySem.W.pw_class C.hg C.hk C.hs
    (PySem.W.findObj_data (cls_of_dict C.hd) C.ha C.hn C.ht) C.hm X I k

/-- a value's type, exceptions of one's own too -/
inductive TyQ (K : PySem.W.Frag) (H : Hp) : V → Value → Prop where
  | base {x : V} {t : Value} (h : TyX K H x t) : TyQ K H x t
  | exc {a D t dx : Addr} {fs : List (Str × V)} (e : H a = some (exq a D (some dx) t)) (ed : H dx = some (exd dx fs))
      (c : ExcC K D) : TyQ K H (.ref a) (.ref D)

/-- isinstance(x, c): one class -/
def rIsA (K : PySem.W.Frag) : List V → Hp → VK → Prop := fun xs H Q => ∃ (x c : V) (t u : Value) (b : Bool),
  xs = [x, c] ∧ ClsV c u ∧ TyQ K H x t ∧ PySem.W.kitOne K t u = some b ∧ Q (.bl b) H
theorem call_isa {X : Cx} : CallR X (.builtin "isinstance") (rIsA X.K) := by
  intro pins s σ H xs us Q I r h
  obtain ⟨x, c, t, u, b, rfl, k, ty, e, q⟩ := h
  cases ty with
  | base ty => exact call_isi pins s σ H _ us Q I r ⟨x, c, t, u, b, rfl, k, ty, e, q⟩
  | exc ex ed C =>
    obtain ⟨u1, u2, rfl, r1, r2⟩ := vals2 r
    obtain rfl := k.eq r2
    obtain rfl : u1 = Value.ref _ := r1
    have ha := exq_at I.hok ex
    obtain ⟨mA, ⟨oD, es, ep, hd, hr⟩, _⟩ := exd_at I.hok ed
    refine PySem.W.kia_one (kit_exq (oD := oD) C) I.kIn ⟨ha, rfl, rfl, hd⟩ e (fun z => nomatch z)
      fun tk => ⟨.bl b, H, I.tok tk, rfl, q⟩
end Pw

/-! Kinds of things, and short words for defs. -/
namespace Pw
open PySem PySem.Spec PyProof.Rows L2

/-! ### the kinds of things -/
/-- what an exception's class must say, so that it is told from the built-in kinds -/
structure ExT (K : PySem.W.Frag) (D : Addr) : Prop where
  c : ExcC K D
  int : PySem.W.kitOne K (.ref D) (.type "int") = some false
  bool : PySem.W.kitOne K (.ref D) (.type "bool") = some false
  str : PySem.W.kitOne K (.ref D) (.type "str") = some false
  tuple : PySem.W.kitOne K (.ref D) (.type "tuple") = some false
/-- a thing and its type -/
inductive Ty (K : PySem.W.Frag) (H : Hp) : V → Value → Prop where
  | non : Ty K H .non (.type "NoneType")
  | bl (b : Bool) : Ty K H (.bl b) (.type "bool")
  | int (i : Int) : Ty K H (.int i) (.type "int")
  | str (s : Str) : Ty K H (.str s) (.type "str")
  | lst {a : Addr} {xs : List V} (e : H a = some (.lst xs)) : Ty K H (.ref a) (.type "list")
  | tup {a : Addr} {xs : List V} (e : H a = some (.tup xs)) : Ty K H (.ref a) (.type "tuple")
  | dct {a : Addr} {kvs : List (Key × V)} (e : H a = some (.dK kvs)) : Ty K H (.ref a) (.type "dict")
  | exc {a D t dx : Addr} {fs : List (Str × V)} (e : H a = some (exq a D (some dx) t)) (ed : H dx = some (exd dx fs))
      (c : ExT K D) : Ty K H (.ref a) (.ref D)
theorem Ty.q {K : PySem.W.Frag} {H : Hp} {x : V} {t : Value} (h : Ty K H x t) : TyQ K H x t := by
  cases h with
  | non => exact .base (.base .non)
  | bl b => exact .base (.base (.bl b))
  | int i => exact .base (.base (.int i))
  | str s => exact .base (.base (.str s))
  | lst e => exact .base (.base (.lst e))
  | tup e => exact .base (.base (.tup e))
  | dct e => exact .base (.base (.dK e))
  | exc e ed c => exact .exc e ed c.c
theorem Ty.same {K : PySem.W.Frag} {H H' : Hp} {x : V} {t : Value} (S : Same H H') (h : Ty K H x t) : Ty K H' x t := by
  cases h with
  | non => exact .non
  | bl b => exact .bl b
  | int i => exact .int i
  | str s => exact .str s
  | lst e => exact .lst (S _ _ e)
  | tup e => exact .tup (S _ _ e)
  | dct e => exact .dct (S _ _ e)
  | exc e ed c => exact .exc (S _ _ e) (S _ _ ed) c
def numB : V → Bool
  | .int _ => true
  | _ => false
def blB : V → Bool
  | .bl _ => true
  | _ => false
def strB : V → Bool
  | .str _ => true
  | _ => false
def tupB (H : Hp) : V → Bool
  | .ref a => match H a with
    | some (.tup _) => true
    | _ => false
  | _ => false
theorem Ty.isInt {K : PySem.W.Frag} {H : Hp} {x : V} {t : Value} (h : Ty K H x t) :
    PySem.W.kitOne K t (.type "int") = some (numB x || blB x) := by
  cases h with
  | non  => exact (kit_ty (a := "NoneType") (b := "int") (r := false) (by decide +kernel) : _ = some false)
  | bl b => exact (kit_ty (a := "bool") (b := "int") (r := true) (by decide +kernel) : _ = some true)
  | int i => exact (kit_ty (a := "int") (b := "int") (r := true) (by decide +kernel) : _ = some true)
  | str s => exact (kit_ty (a := "str") (b := "int") (r := false) (by decide +kernel) : _ = some false)
  | lst e => exact (kit_ty (a := "list") (b := "int") (r := false) (by decide +kernel) : _ = some false)
  | tup e => exact (kit_ty (a := "tuple") (b := "int") (r := false) (by decide +kernel) : _ = some false)
  | dct e => exact (kit_ty (a := "dict") (b := "int") (r := false) (by decide +kernel) : _ = some false)
  | exc e ed c => exact c.int
theorem Ty.isBool {K : PySem.W.Frag} {H : Hp} {x : V} {t : Value} (h : Ty K H x t) :
    PySem.W.kitOne K t (.type "bool") = some (blB x) := by
  cases h with
  | non  => exact (kit_ty (a := "NoneType") (b := "bool") (r := false) (by decide +kernel) : _ = some false)
  | bl b => exact (kit_ty (a := "bool") (b := "bool") (r := true) (by decide +kernel) : _ = some true)
  | int i => exact (kit_ty (a := "int") (b := "bool") (r := false) (by decide +kernel) : _ = some false)
  | str s => exact (kit_ty (a := "str") (b := "bool") (r := false) (by decide +kernel) : _ = some false)
  | lst e => exact (kit_ty (a := "list") (b := "bool") (r := false) (by decide +kernel) : _ = some false)
  | tup e => exact (kit_ty (a := "tuple") (b := "bool") (r := false) (by decide +kernel) : _ = some false)
  | dct e => exact (kit_ty (a := "dict") (b := "bool") (r := false) (by decide +kernel) : _ = some false)
  | exc e ed c => exact c.bool
theorem Ty.isStr {K : PySem.W.Frag} {H : Hp} {x : V} {t : Value} (h : Ty K H x t) :
    PySem.W.kitOne K t (.type "str") = some (strB x) := by
  cases h with
  | non  => exact (kit_ty (a := "NoneType") (b := "str") (r := false) (by decide +kernel) : _ = some false)
  | bl b => exact (kit_ty (a := "bool") (b := "str") (r := false) (by decide +kernel) : _ = some false)
  | int i => exact (kit_ty (a := "int") (b := "str") (r := false) (by decide +kernel) : _ = some false)
  | str s => exact (kit_ty (a := "str") (b := "str") (r := true) (by decide +kernel) : _ = some true)
  | lst e => exact (kit_ty (a := "list") (b := "str") (r := false) (by decide +kernel) : _ = some false)
  | tup e => exact (kit_ty (a := "tuple") (b := "str") (r := false) (by decide +kernel) : _ = some false)
  | dct e => exact (kit_ty (a := "dict") (b := "str") (r := false) (by decide +kernel) : _ = some false)
  | exc e ed c => exact c.str
theorem Ty.isTuple {K : PySem.W.Frag} {H : Hp} {x : V} {t : Value} (h : Ty K H x t) :
    PySem.W.kitOne K t (.type "tuple") = some (tupB H x) := by
  cases h with
  | non  => exact (kit_ty (a := "NoneType") (b := "tuple") (r := false) (by decide +kernel) : _ = some false)
  | bl b => exact (kit_ty (a := "bool") (b := "tuple") (r := false) (by decide +kernel) : _ = some false)
  | int i => exact (kit_ty (a := "int") (b := "tuple") (r := false) (by decide +kernel) : _ = some false)
  | str s => exact (kit_ty (a := "str") (b := "tuple") (r := false) (by decide +kernel) : _ = some false)
  | @lst ad xs e =>
    have z : tupB H (.ref ad) = false := by simp only [tupB, e]
    rw [z]
    exact kit_ty (a := "list") (b := "tuple") (r := false) (by decide +kernel)
  | @tup ad xs e =>
    have z : tupB H (.ref ad) = true := by simp only [tupB, e]
    rw [z]
    exact kit_ty (a := "tuple") (b := "tuple") (r := true) (by decide +kernel)
  | @dct ad xs e =>
    have z : tupB H (.ref ad) = false := by simp only [tupB, e]
    rw [z]
    exact kit_ty (a := "dict") (b := "tuple") (r := false) (by decide +kernel)
  | @exc ad D t dx fs e ed c =>
    have z : tupB H (.ref ad) = false := by simp only [tupB, e]; rfl
    rw [z]
    exact c.tuple

/-! ### defs by name -/
section
variable (P : Program) (w : World) (K : PySem.W.Frag) (mg : Str → Option Value) (base : Heap)
/-- the def st of the text stands under its name x -/
structure At (x : Str) (st : Stmt) : Prop where
  ex : ∃ f fd, Fun K x x st f fd ∧ mg x = some (.ref f)
/-- under its name x a def stands that keeps the promise sp -/
structure Def (x : Str) (k : Nat) (ps : List Str) (sp : Sp) : Prop where
  ex : ∃ f fd, mg x = some (.ref f) ∧ PySem.W.keepIn K (.ref f) = true ∧ Binds K fd ps [] ∧
    FnOk P w K mg base CX0 k f fd ps sp
structure DefG (x : Str) (k : Nat) (ps : List Str) (sp : Sp) : Prop where
  ex : ∃ f fd, mg x = some (.ref f) ∧ PySem.W.keepIn K (.ref f) = true ∧ Binds K fd ps [] ∧
    FnG P w K mg base CX0 k f fd ps sp
end
section
variable {P : Program} {w : World} {K : PySem.W.Frag} {mg : Str → Option Value} {base : Heap}
theorem Def.mono {x : Str} {k j : Nat} {ps : List Str} {sp : Sp} (d : Def P w K mg base x k ps sp) (h : k ≤ j) :
    Def P w K mg base x j ps sp :=
  let ⟨f, fd, a, b, c, F⟩ := d.ex
  ⟨f, fd, a, b, c, F.mono h⟩
theorem mkDef {x : Str} {st : Stmt} {N ps : List Str} {k : Nat} {sp : Sp} (A : At K mg x st)
    (S : FnScope N ps (defScope st))
    (hb : ∀ (kV doc pm : Value) (an : Option Addr) (cdv ct : Value) (us : List Value), us.length = ps.length →
      bindArgs (PySem.W.fnOf x x (defArgs st) (defBody st) (defScope st) .none kV doc pm an cdv ct) ⟨us, []⟩ = pure (ps.zip us))
    (len : ∀ vs H Q E, sp vs H Q E → vs.length = ps.length)
    (body : ∀ (f : Addr) (cdv : Value) (A : Around) (out : List Env) (s : Shared) (H : Hp) (vs : List V) (Q : VK) (E : XK),
      Room k (A.deeper (envOfC x (defScope st) s.heap.objs.size f cdv)) → sp vs H Q E →
      ∃ t, PSs (cxOf CX0 P w K mg base N x (defScope st) f cdv A out s H E).nox (defBody st) t ∧
        t { nx := fun _ H' => Q .non H', rt := Q } (start N vs) H) : Def P w K mg base x (k + 1) ps sp := by
  obtain ⟨f, fd, F, m⟩ := A.ex
  exact ⟨f, fd, m, F.kp, F.binds hb, F.ok S len (body f)⟩
theorem mkDefG {x : Str} {st : Stmt} {N ps : List Str} {k : Nat} {sp : Sp} (A : At K mg x st)
    (S : FnScope N ps (defScope st))
    (hb : ∀ (kV doc pm : Value) (an : Option Addr) (cdv ct : Value) (us : List Value), us.length = ps.length →
      bindArgs (PySem.W.fnOf x x (defArgs st) (defBody st) (defScope st) .none kV doc pm an cdv ct) ⟨us, []⟩ = pure (ps.zip us))
    (len : ∀ vs H Q E, sp vs H Q E → vs.length = ps.length)
    (body : ∀ (f : Addr) (cdv : Value) (A : Around) (out : List Env) (s : Shared) (H : Hp) (vs : List V) (Q : VK) (E : XK),
      A.guards = some [] → Room k (A.deeper (envOfC x (defScope st) s.heap.objs.size f cdv)) → sp vs H Q E →
      ∃ t, PSs (cxOf CX0 P w K mg base N x (defScope st) f cdv A out s H E).nox (defBody st) t ∧
        t { nx := fun _ H' => Q .non H', rt := Q } (start N vs) H) : DefG P w K mg base x (k + 1) ps sp := by
  obtain ⟨f, fd, F, m⟩ := A.ex
  exact ⟨f, fd, m, F.kp, F.binds hb, okG F S len (body f)⟩
end
section
variable {X : Cx} {x : Str} {k j : Nat} {ps : List Str} {sp : Sp} {p pos : Pos} {e : Expr} {es : List Expr} {t : TA}
/-- x(e, ..), by the promise of the def under that name -/
theorem pe_d (D : Def X.prog X.w X.K X.mg X.base x k ps sp) (hr : Room j X.A) (hk : k ≤ j) (hg : Gl X x) (ha : PA X (e :: es) t)
    (hdb : (x == ("__debug__" : Str)) = false := by decide)
    (he : starEach (e :: es) X.env = (false, eval e X.env) :: starEach es X.env := by rfl)
    (hpl : (backTo pos (starEach es X.env)).any (·.1) = false := by rfl) :
    PE X (.Call (.Name x p) (e :: es) [] pos) (tCall sp [] E0 t) := by
  obtain ⟨f, fd, m, kp, b, F⟩ := D.ex
  exact pe_call F (hr.mono hk) hg m kp b .nil pass0 ha hdb he hpl
theorem pe_dG (D : DefG X.prog X.w X.K X.mg X.base x k ps sp) (gd : X.A.guards = some []) (hr : Room j X.A) (hk : k ≤ j) (hg : Gl X x)
    (ha : PA X (e :: es) t) (hdb : (x == ("__debug__" : Str)) = false := by decide)
    (he : starEach (e :: es) X.env = (false, eval e X.env) :: starEach es X.env := by rfl)
    (hpl : (backTo pos (starEach es X.env)).any (·.1) = false := by rfl) :
    PE X (.Call (.Name x p) (e :: es) [] pos) (tCall sp [] E0 t) := by
  obtain ⟨f, fd, m, kp, b, F⟩ := D.ex
  exact pe_callG F gd (hr.mono hk) hg m kp b .nil pass0 ha hdb he hpl
end

/-! ### heaps: all but one place stays -/
/-- the heap without one place -/
def wo (H : Hp) (p : Addr) : Hp := fun b => if b = p then none else H b
theorem wo_ne {H : Hp} {p b : Addr} (h : b ≠ p) : wo H p b = H b := if_neg h
theorem wo_same {H : Hp} {p : Addr} : Same (wo H p) H := fun b o e => by
  unfold wo at e
  split at e
  · cases e
  · exact e
theorem wo_at {H : Hp} {p b : Addr} {o : HO} (e : wo H p b = some o) : b ≠ p ∧ H b = some o := by
  unfold wo at e
  split at e
  · cases e
  · rename_i n
    exact ⟨n, e⟩
theorem wo_of {H : Hp} {p b : Addr} {o : HO} (n : b ≠ p) (e : H b = some o) : wo H p b = some o := (wo_ne n).trans e
/-- all that is tracked, but at p, stays -/
def But (p : Addr) (H H' : Hp) : Prop := Same (wo H p) (wo H' p)
theorem But.refl {p : Addr} {H : Hp} : But p H H := fun _ _ e => e
theorem But.trans {p : Addr} {H H1 H2 : Hp} (a : But p H H1) (b : But p H1 H2) : But p H H2 := fun c o h => b c o (a c o h)
theorem But.of {p : Addr} {H H' : Hp} (h : ∀ b o, b ≠ p → H b = some o → H' b = some o) : But p H H' := fun b o e =>
  let ⟨n, z⟩ := wo_at e
  wo_of n (h b o n z)
theorem But.at {p : Addr} {H H' : Hp} (h : But p H H') {b : Addr} {o : HO} (n : b ≠ p) (e : H b = some o) : H' b = some o :=
  (wo_at (h b o (wo_of n e))).2
theorem Same.but {p : Addr} {H H' : Hp} (h : Same H H') : But p H H' := But.of fun b o _ e => h b o e
theorem Same.laid {H : Hp} {q : Addr} {o : HO} (n : H q = none) : Same H (upd H q o) := fun b u e =>
  (upd_ne (ne_of_none e n)).trans e
theorem But.laid {p : Addr} {H : Hp} {q : Addr} {o : HO} (n : H q = none) : But p H (upd H q o) := Same.but (Same.laid n)
theorem But.set {p : Addr} {H : Hp} {o : HO} : But p H (upd H p o) := But.of fun b u n e => (upd_ne n).trans e
end Pw

/-! Lists of tuples; comprehensions and loops that lay a new list, all else staying. -/
namespace Pw
open PySem PySem.Spec PyProof.Rows L2

/-! ### lists of tuples -/
/-- at each place of vs the tuple that f makes of the row -/
inductive Al {α : Type} (f : α → List V) (H : Hp) : List V → List α → Prop where
  | nil : Al f H [] []
  | cons {p : Addr} {vs : List V} {r : α} {rs : List α} (e : H p = some (.tup (f r))) (t : Al f H vs rs) : Al f H (.ref p :: vs) (r :: rs)
section
variable {α : Type} {f : α → List V} {H H' : Hp}
theorem Al.same {vs : List V} {rs : List α} (h : Al f H vs rs) (S : Same H H') : Al f H' vs rs := by
  induction h with
  | nil => exact .nil
  | cons e _ ih => exact .cons (S _ _ e) ih
theorem Al.imp {vs : List V} {rs : List α} (h : Al f H vs rs) (S : ∀ p xs, H p = some (.tup xs) → H' p = some (.tup xs)) : Al f H' vs rs := by
  induction h with
  | nil => exact .nil
  | cons e _ ih => exact .cons (S _ _ e) ih
theorem Al.length {vs : List V} {rs : List α} (h : Al f H vs rs) : vs.length = rs.length := by
  induction h with
  | nil => rfl
  | cons _ _ ih => simp only [List.length_cons, ih]
theorem Al.append {vs ws : List V} {rs ss : List α} (h : Al f H vs rs) (k : Al f H ws ss) : Al f H (vs ++ ws) (rs ++ ss) := by
  induction h with
  | nil => exact k
  | cons e _ ih => exact .cons e ih
theorem Al.one {p : Addr} {r : α} (e : H p = some (.tup (f r))) : Al f H [.ref p] [r] := .cons e .nil
theorem Al.snoc {vs : List V} {rs : List α} {p : Addr} {r : α} (h : Al f H vs rs) (e : H p = some (.tup (f r))) :
    Al f H (vs ++ [.ref p]) (rs ++ [r]) := h.append (.one e)
theorem Al.get {vs : List V} {rs : List α} (h : Al f H vs rs) : ∀ {i : Nat} {v : V}, vs[i]? = some v →
    ∃ p r, v = .ref p ∧ rs[i]? = some r ∧ H p = some (.tup (f r)) := by
  induction h with
  | nil => intro i v e; simp at e
  | @cons p _ r _ e _ ih =>
    intro i v z
    cases i with
    | zero =>
      simp only [List.getElem?_cons_zero, Option.some.injEq] at z
      exact ⟨p, r, z.symm, rfl, e⟩
    | succ i =>
      simp only [List.getElem?_cons_succ] at z
      obtain ⟨q, r', h1, h2, h3⟩ := ih z
      exact ⟨q, r', h1, by simpa using h2, h3⟩
theorem Al.at {vs : List V} {rs : List α} (h : Al f H vs rs) {i : Nat} {r : α} (e : rs[i]? = some r) :
    ∃ p, vs[i]? = some (.ref p) ∧ H p = some (.tup (f r)) := by
  have hi : i < vs.length := by
    rw [h.length]
    exact (List.getElem?_eq_some_iff.mp e).1
  have hv : vs[i]? = some vs[i] := List.getElem?_eq_getElem hi
  obtain ⟨p, r', h1, h2, h3⟩ := h.get hv
  rw [e] at h2
  cases h2
  exact ⟨p, by rw [hv, h1], h3⟩
theorem Al.mem {vs : List V} {rs : List α} (h : Al f H vs rs) {v : V} (m : v ∈ vs) : ∃ p r, v = .ref p ∧ r ∈ rs ∧ H p = some (.tup (f r)) := by
  obtain ⟨i, e⟩ := List.mem_iff_getElem?.mp m
  obtain ⟨p, r, h1, h2, h3⟩ := h.get e
  exact ⟨p, r, h1, List.mem_of_getElem? h2, h3⟩
theorem Al.take {vs : List V} {rs : List α} (h : Al f H vs rs) (n : Nat) : Al f H (vs.take n) (rs.take n) := by
  induction h generalizing n with
  | nil => simp; exact .nil
  | cons e _ ih =>
    cases n with
    | zero => exact .nil
    | succ n => exact .cons e (ih n)
end
/-- at a: a list of such tuples -/
structure LT {α : Type} (f : α → List V) (H : Hp) (a : Addr) (rs : List α) : Prop where
  ex : ∃ vs, H a = some (.lst vs) ∧ Al f H vs rs
section
variable {α : Type} {f : α → List V} {H H' : Hp}
theorem LT.same {a : Addr} {rs : List α} (h : LT f H a rs) (S : Same H H') : LT f H' a rs :=
  let ⟨vs, e, k⟩ := h.ex
  ⟨vs, S _ _ e, k.same S⟩
theorem LT.mk' {a : Addr} {vs : List V} {rs : List α} (e : H a = some (.lst vs)) (k : Al f H vs rs) : LT f H a rs := ⟨vs, e, k⟩
end

/-! ### data: rows of numbers and texts -/
mutual
theorem eqv_refl_ : ∀ d : PyData, d.canLay0 = true → PyData.eqv d d = true
  | .none, _ => rfl
  | .bool b, _ => by simp [PyData.eqv]
  | .int i, _ => by simp [PyData.eqv]
  | .str x, _ => by simp [PyData.eqv]
  | .list xs, h => by rw [PyData.eqv]; exact eqvAll_refl_ xs (by simpa [PyData.canLay0] using h)
  | .tuple xs, h => by rw [PyData.eqv]; exact eqvAll_refl_ xs (by simpa [PyData.canLay0] using h)
  | .dict _, h => by simp [PyData.canLay0] at h
theorem eqvAll_refl_ : ∀ xs : List PyData, PyData.canLayAll0 xs = true → PyData.eqvAll xs xs = true
  | [], _ => rfl
  | x :: xs, h => by
    have h' : x.canLay0 = true ∧ PyData.canLayAll0 xs = true := by simpa [PyData.canLayAll0] using h
    rw [PyData.eqvAll, eqv_refl_ x h'.1, eqvAll_refl_ xs h'.2]; rfl
end
/-- what a row's things are, as data, of rows that are ok -/
structure Dat {α : Type} (f : α → List V) (g : α → List PyData) (ok : α → Prop) : Prop where
  dp : ∀ (K : PySem.W.Frag) (H : Hp) (r : α), DpAll K H (f r) (g r)
  lay : ∀ r, ok r → PyData.canLayAll0 (g r) = true
  dep : ∀ r, PyData.depthAll (g r) = 0
section
variable {α : Type} {f : α → List V} {g : α → List PyData} {ok : α → Prop} {K : PySem.W.Frag} {H : Hp}
theorem Al.dp (D : Dat f g ok) {vs : List V} {rs : List α} (h : Al f H vs rs) : DpAll K H vs (rs.map fun r => .tuple (g r)) := by
  induction h with
  | nil => exact .nil
  | cons e _ ih => exact .cons (.tup (SqT.of e) (D.dp K H _)) ih
theorem lay_rows (D : Dat f g ok) : ∀ rs : List α, (∀ r ∈ rs, ok r) → PyData.canLayAll0 (rs.map fun r => .tuple (g r)) = true
  | [], _ => by simp only [List.map_nil, PyData.canLayAll0]
  | r :: t, h => by
    simp only [List.map_cons, PyData.canLayAll0, PyData.canLay0, lay_rows D t fun r' m => h r' (List.mem_cons_of_mem _ m), D.lay r (h r List.mem_cons_self), Bool.and_self]
theorem dep_rows (D : Dat f g ok) : ∀ rs : List α, PyData.depthAll (rs.map fun r => .tuple (g r)) ≤ 1
  | [] => by simp only [List.map_nil, PyData.depthAll]; exact Nat.zero_le _
  | r :: t => by
    have := dep_rows D t
    simp only [List.map_cons, PyData.depthAll, PyData.depth, D.dep r]
    omega
theorem shaped_rows (D : Dat f g ok) (rs : List α) (ho : ∀ r ∈ rs, ok r) : SeqAt.shaped (.list (rs.map fun r => .tuple (g r))) = true := by
  unfold SeqAt.shaped
  have h := dep_rows D rs
  have e1 : PyData.canLay0 (.list (rs.map fun r => .tuple (g r))) = true := by
    simp only [PyData.canLay0]
    exact lay_rows D rs ho
  have e2 : PyData.depth (.list (rs.map fun r => .tuple (g r))) ≤ 64 := by
    simp only [PyData.depth]
    omega
  rw [e1, decide_eq_true e2]
  rfl
theorem LT.dp (D : Dat f g ok) {a : Addr} {rs : List α} (h : LT f H a rs) : Dp K H (.ref a) (.list (rs.map fun r => .tuple (g r))) :=
  let ⟨_, e, k⟩ := h.ex
  .lst (SqL.of e) (k.dp D)
theorem eqv_rows (D : Dat f g ok) (rs : List α) (ho : ∀ r ∈ rs, ok r) : PyData.eqv (.list (rs.map fun r => .tuple (g r))) (.list (rs.map fun r => .tuple (g r))) = true :=
  eqv_refl_ _ (by simp only [PyData.canLay0]; exact lay_rows D rs ho)
/-- two lists of the same rows are equal -/
theorem eq_rows {Q : VK} (D : Dat f g ok) {a b : Addr} {rs : List α} (ho : ∀ r ∈ rs, ok r) (h : LT f H a rs) (k : LT f H b rs) (q : Q (.bl true) H) :
    rEqD K (.ref a) (.ref b) H Q :=
  ⟨_, _, h.dp D, k.dp D, shaped_rows D rs ho, shaped_rows D rs ho, by rw [eqv_rows D rs ho]; exact q⟩
theorem ne_rows {Q : VK} (D : Dat f g ok) {a b : Addr} {rs : List α} (ho : ∀ r ∈ rs, ok r) (h : LT f H a rs) (k : LT f H b rs) (q : Q (.bl false) H) :
    rNeD K (.ref a) (.ref b) H Q :=
  ⟨_, _, h.dp D, k.dp D, shaped_rows D rs ho, shaped_rows D rs ho, by rw [eqv_rows D rs ho]; exact q⟩
/-- such a list held against the empty one -/
theorem eqv_nil (g : α → List PyData) (rs : List α) : PyData.eqv (.list (rs.map fun r => PyData.tuple (g r))) (.list []) = rs.isEmpty := by
  cases rs <;> simp [PyData.eqv, PyData.eqvAll]
theorem ne_empty {Q : VK} (D : Dat f g ok) {a b : Addr} {rs : List α} (ho : ∀ r ∈ rs, ok r) (h : LT f H a rs) (k : H b = some (.lst [])) (q : Q (.bl !rs.isEmpty) H) :
    rNeD K (.ref a) (.ref b) H Q :=
  ⟨_, .list [], h.dp D, .lst (xs := []) (SqL.of k) .nil, shaped_rows D rs ho, rfl, by rw [eqv_nil]; exact q⟩
theorem eq_empty {Q : VK} (D : Dat f g ok) {a b : Addr} {rs : List α} (ho : ∀ r ∈ rs, ok r) (h : LT f H a rs) (k : H b = some (.lst [])) (q : Q (.bl rs.isEmpty) H) :
    rEqD K (.ref a) (.ref b) H Q :=
  ⟨_, .list [], h.dp D, .lst (xs := []) (SqL.of k) .nil, shaped_rows D rs ho, rfl, by rw [eqv_nil]; exact q⟩
/-- lists of numbers -/
theorem dp_ints {K : PySem.W.Frag} {H : Hp} : ∀ ns : List Int, DpAll K H (ns.map V.int) (ns.map .int)
  | [] => .nil
  | i :: r => .cons (.int i) (dp_ints r)
theorem lay_ints : ∀ ns : List Int, PyData.canLayAll0 (ns.map .int) = true
  | [] => by simp only [List.map_nil, PyData.canLayAll0]
  | r :: t => by simp only [List.map_cons, PyData.canLayAll0, PyData.canLay0, lay_ints t, Bool.and_self]
theorem dep_ints : ∀ ns : List Int, PyData.depthAll (ns.map .int) = 0
  | [] => by simp only [List.map_nil, PyData.depthAll]
  | r :: t => by simp only [List.map_cons, PyData.depthAll, PyData.depth, dep_ints t, Nat.max_self]
theorem shaped_ints (ns : List Int) : SeqAt.shaped (.list (ns.map .int)) = true := by
  unfold SeqAt.shaped
  simp only [PyData.canLay0, PyData.depth, lay_ints ns, dep_ints ns]
  rfl
theorem ne_ints {Q : VK} {a b : Addr} {ns : List Int} (h : H a = some (.lst (ns.map V.int))) (k : H b = some (.lst (ns.map V.int))) (q : Q (.bl false) H) :
    rNeD K (.ref a) (.ref b) H Q :=
  ⟨_, _, .lst (SqL.of h) (dp_ints ns), .lst (SqL.of k) (dp_ints ns), shaped_ints ns, shaped_ints ns, by
    rw [eqv_refl_ _ (by simp only [PyData.canLay0]; exact lay_ints ns)]; exact q⟩
end

/-- a number that the text's top keeps under a name -/
theorem pe_gi {X : Cx} {x : Str} {p : Pos} {n : Int} (h : ∃ t, X.mg x = some (.int n t)) (hg : Gl X x := by rfl)
    (hd : (x == ("__debug__" : Str)) = false := by decide) : PE X (.Name x p) (tC (.int n)) := by
  obtain ⟨t, h⟩ := h
  exact pe_glob (v := .int n) hg h ⟨_, rfl⟩ hd
/-- len(..) of a list or a tuple -/
def rLn (K : PySem.W.Frag) : List V → Hp → VK → Prop := fun xs H Q => ∃ p ys, xs = [V.ref p] ∧ (SqL K H p ys ∨ SqT K H p ys) ∧ Q (.int (ys.length : Int)) H
theorem kit_lt_list {K : PySem.W.Frag} : PySem.W.kitAny K (.type "list") [.type "list", .type "tuple"] = some true := by
  have e : PySem.W.kitOne K (.type "list") (.type "list") = some true := kit_ty (a := "list") (b := "list") (r := true) (by decide +kernel)
  simp only [PySem.W.kitAny, e]
theorem kit_lt_tuple {K : PySem.W.Frag} : PySem.W.kitAny K (.type "tuple") [.type "list", .type "tuple"] = some true := by
  have e : PySem.W.kitOne K (.type "tuple") (.type "list") = some false := kit_ty (a := "tuple") (b := "list") (r := false) (by decide +kernel)
  have e2 : PySem.W.kitOne K (.type "tuple") (.type "tuple") = some true := kit_ty (a := "tuple") (b := "tuple") (r := true) (by decide +kernel)
  simp only [PySem.W.kitAny, e, e2]

/-! ### a comprehension that lays a new list, all else staying -/
theorem Same.wo_upd {H H' : Hp} {D : Addr} {o : HO} (S : Same H H') (n : H D = none) : Same H (upd H' D o) := fun b u e =>
  (upd_ne (ne_of_none e n)).trans (S b u e)
theorem wo_upd {H : Hp} {D : Addr} {o : HO} : wo (upd H D o) D = wo H D := by
  funext b
  unfold wo
  split
  · rfl
  · rename_i h
    exact upd_ne h
theorem Same.wo {H H' : Hp} {p : Addr} (S : Same H H') : Same (wo H p) (wo H' p) := Same.but S
theorem wo_none {H : Hp} {D : Addr} (n : H D = none) : wo H D = H := by
  funext b
  unfold wo
  split
  · rename_i e
    rw [e, n]
  · rfl
theorem lc_acc {J : It} {n : Nat} {G : Hp → Prop} {Y : Nat → Hp → V → Hp → Prop} (w : Walk J n G Y) {g : TG} {tt : TT} {te : TE} {vs : List Nat} {σ : L2.St}
    {H1 : Hp} {D : Addr} {Qd : Hp → Prop} (hD : H1 D = none) (hn : n ≤ 1000000) (R : Nat → List V → Hp → Prop) (r0 : R 0 [] H1)
    (hG : ∀ H, Same H1 H → G H)
    (hs : ∀ i x H H' acc, i < n → Same H1 H → H D = some (.lst acc) → acc.length ≤ i → R i acc (wo H D) → Y i H x H' →
      ∀ (Fy : V → Hp → Prop) (Fn : Hp → Prop), (∀ y H4, Same H H4 → R (i + 1) (acc ++ [y]) (wo H4 D) → Fy y H4) →
        (∀ H3, Same H H3 → R (i + 1) acc (wo H3 D) → Fn H3) →
      g x (wipe σ vs) H' fun σ2 H2 => wipe σ2 vs = wipe σ vs ∧ tt σ2 H2 fun b H3 => if b = true then te σ2 H3 Fy else Fn H3)
    (hd : ∀ H acc, Same H1 H → H D = some (.lst acc) → R n acc (wo H D) → Qd H) :
    ∃ W : Nat → Nat → Hp → Prop, (∃ m, W 0 m (upd H1 D (.lst []))) ∧ ∀ i m H, W i m H →
      (J.stop i H ∧ Qd H) ∨ (J.go i H ∧ ∃ Nx : Hp → Prop, (∀ H', Nx H' → ∃ m', m' < m ∧ W (i + 1) m' H') ∧ ∀ x H', J.yld i H x H' → g x (wipe σ vs) H' fun σ2 H2 => wipe σ2 vs = wipe σ vs ∧ tt σ2 H2 fun b H3 =>
        if b = true then te σ2 H3 fun y H4 => ∃ acc, H4 D = some (.lst acc) ∧ acc.length < sizeLine ∧ Nx (upd H4 D (.lst (acc ++ [y]))) else Nx H3) := by
  have line : 1000000 < sizeLine := by decide
  refine lc_it w (fun i H => Same H1 H ∧ ∃ acc, H D = some (.lst acc) ∧ acc.length ≤ i ∧ R i acc (wo H D))
    ⟨Same.laid hD, [], upd_same, Nat.le_refl _, by rw [wo_upd, wo_none hD]; exact r0⟩ (fun i H _ h => hG H h.1) ?_ ?_
  · rintro i x H H' hi ⟨S, acc, e, hl, r⟩ y
    refine hs i x H H' acc hi S e hl r y _ _ (fun y H4 S4 r4 => ?_) fun H3 S3 r3 => ?_
    · refine ⟨acc, S4 _ _ e, Nat.lt_of_le_of_lt hl (Nat.lt_of_lt_of_le hi (Nat.le_trans hn (Nat.le_of_lt line))), Same.wo_upd (S.trans S4) hD, acc ++ [y], upd_same, ?_, ?_⟩
      · rw [List.length_append, List.length_singleton]
        omega
      · rw [wo_upd]
        exact r4
    · exact ⟨S.trans S3, acc, S3 _ _ e, by omega, r3⟩
  · rintro H ⟨S, acc, e, _, r⟩
    exact hd H acc S e r
/-- a while by a measure, its end told to the test -/
theorem while_m {c : TT} {tb : TS} {D : Ends} {σ : L2.St} {H : Hp} (Pv : Nat → L2.St → Hp → Prop) (m0 : Nat) (h0 : Pv m0 σ H)
    (hs : ∀ m σ H, Pv m σ H → ∀ F : Bool → Hp → Prop,
      (∀ H1, (∀ N : L2.St → Hp → Prop, (∀ m' σ' H', m' < m → Pv m' σ' H' → N σ' H') → tb { D with nx := N, ct := N, bk := D.nx } σ H1) → F true H1) →
      (∀ H1, D.nx σ H1 → F false H1) → c σ H F) : tWhile c tb D σ H := by
  refine ⟨Pv, ⟨m0, h0⟩, fun m σ H p => hs m σ H p _ (fun H1 h => ?_) fun H1 h => ?_⟩
  · rw [if_pos rfl]
    exact ⟨fun σ' H' => ∃ m', m' < m ∧ Pv m' σ' H', fun _ _ h => h, h _ fun m' σ' H' l p => ⟨m', l, p⟩⟩
  · rw [if_neg Bool.false_ne_true]
    exact h

/-- what is laid since then -/
def fre (H G : Hp) : Hp := fun b => match H b with
  | none => G b
  | some _ => none
theorem fre_at {H G : Hp} {b : Addr} {o : HO} (e : fre H G b = some o) : H b = none ∧ G b = some o := by
  unfold fre at e
  cases q : H b with
  | none => rw [q] at e; exact ⟨rfl, e⟩
  | some u => rw [q] at e; cases e
theorem fre_of {H G : Hp} {b : Addr} {o : HO} (n : H b = none) (e : G b = some o) : fre H G b = some o := by
  unfold fre
  rw [n]
  exact e
theorem Same.no {H G : Hp} {b : Addr} (S : Same H G) (n : G b = none) : H b = none := by
  cases q : H b with
  | none => rfl
  | some o => rw [S _ _ q] at n; cases n

/-! ### dicts with number keys -/
theorem valV_none_of {kvs : List (Key × V)} {k : Key} (h : ∀ kv ∈ kvs, kv.1 ≠ k) : valV kvs k = none := by
  induction kvs with
  | nil => rfl
  | cons p r ih =>
    rw [valV_neg (h p (by simp))]
    exact ih fun kv m => h kv (by simp [m])
theorem valV_last {kvs : List (Key × V)} {k : Key} {v : V} (h : ∀ kv ∈ kvs, kv.1 ≠ k) : valV (kvs ++ [(k, v)]) k = some v := by
  rw [valV_snoc k k v kvs (valV_none_of h), if_pos rfl]

/-! ### defs with keyword-only defaults -/
section
variable (P : Program) (w : World) (K : PySem.W.Frag) (mg : Str → Option Value) (base : Heap)
structure AtD (x : Str) (st : Stmt) (kws : List (Str × V)) : Prop where
  ex : ∃ f fd, FunD K x x (defArgs st) (defBody st) (defScope st) [] kws f fd ∧ mg x = some (.ref f)
/-- under its name x a def stands that keeps the promise sp; ds fill up what is left out -/
structure DefD (x : Str) (k : Nat) (ps : List Str) (ds : List V) (sp : Sp) : Prop where
  ex : ∃ f fd us, mg x = some (.ref f) ∧ PySem.W.keepIn K (.ref f) = true ∧ Vals ds us ∧ Binds K fd ps us ∧
    FnOk P w K mg base CX0 k f fd ps sp
/-- the same, the keywords ks told behind n things -/
structure DefK (x : Str) (k : Nat) (ps : List Str) (n : Nat) (ks : List Str) (gV : List V → List V → List V) (sp : Sp) : Prop where
  ex : ∃ f fd g, mg x = some (.ref f) ∧ PySem.W.keepIn K (.ref f) = true ∧ KBn K fd ps n ks g gV ∧
    FnOk P w K mg base CX0 k f fd ps sp
end
section
variable {P : Program} {w : World} {K : PySem.W.Frag} {mg : Str → Option Value} {base : Heap}
theorem mkFnD {x : Str} {st : Stmt} {kws : List (Str × V)} {f : Addr} {fd : FuncData} {N ps : List Str} {k : Nat} {sp : Sp}
    (F : FunD K x x (defArgs st) (defBody st) (defScope st) [] kws f fd) (S : FnScope N ps (defScope st))
    (len : ∀ vs H Q E, sp vs H Q E → vs.length = ps.length)
    (body : ∀ (f : Addr) (cdv : Value) (A : Around) (out : List Env) (s : Shared) (H : Hp) (vs : List V) (Q : VK) (E : XK),
      Room k (A.deeper (envOfC x (defScope st) s.heap.objs.size f cdv)) → sp vs H Q E →
      ∃ t, PSs (cxOf CX0 P w K mg base N x (defScope st) f cdv A out s H E).nox (defBody st) t ∧
        t { nx := fun _ H' => Q .non H', rt := Q } (start N vs) H) : FnOk P w K mg base CX0 (k + 1) f fd ps sp :=
  F.ok S len fun cdv A out s H vs Q E hr hs =>
    let ⟨t, h, q⟩ := body f cdv A out s H vs Q E hr hs
    ⟨t, h.nox, q⟩
theorem mkDefD {x : Str} {st : Stmt} {kws : List (Str × V)} {N ps : List Str} {k n : Nat} {sp : Sp} (A : AtD K mg x st kws)
    (S : FnScope N ps (defScope st)) (hk : kws ≠ []) (hn : n + kws.length = ps.length)
    (hb : ∀ (D : Addr) (doc pm : Value) (an : Option Addr) (cdv ct : Value) (us ks : List Value), us.length = n → ks.length = kws.length →
      KwChain D ((kws.map (·.1)).zip ks) (bindArgs (PySem.W.fnOf x x (defArgs st) (defBody st) (defScope st) .none (.ref D) doc pm an cdv ct) ⟨us, []⟩) (ps.zip (us ++ ks)))
    (len : ∀ vs H Q E, sp vs H Q E → vs.length = ps.length)
    (body : ∀ (f : Addr) (cdv : Value) (A : Around) (out : List Env) (s : Shared) (H : Hp) (vs : List V) (Q : VK) (E : XK),
      Room k (A.deeper (envOfC x (defScope st) s.heap.objs.size f cdv)) → sp vs H Q E →
      ∃ t, PSs (cxOf CX0 P w K mg base N x (defScope st) f cdv A out s H E).nox (defBody st) t ∧
        t { nx := fun _ H' => Q .non H', rt := Q } (start N vs) H) : DefD P w K mg base x (k + 1) ps (kws.map (·.2)) sp := by
  obtain ⟨f, fd, F, m⟩ := A.ex
  obtain ⟨us, hv, b⟩ := F.binds0 n hk hn hb
  exact ⟨f, fd, us, m, F.kp, hv, b, mkFnD F S len body⟩
/-- all keyword-only ones are told -/
theorem mkDefK {x : Str} {st : Stmt} {kws : List (Str × V)} {N ps ks : List Str} {k n : Nat} {sp : Sp} {g : {α : Type} → List α → List α → List α} (A : AtD K mg x st kws)
    (S : FnScope N ps (defScope st))
    (hb : ∀ (kV doc pm : Value) (an : Option Addr) (cdv ct : Value) (us ws : List Value), us.length = n → ws.length = ks.length →
      bindArgs (PySem.W.fnOf x x (defArgs st) (defBody st) (defScope st) .none kV doc pm an cdv ct) ⟨us, ks.zip ws⟩ = pure (ps.zip (g us ws)))
    (hg : ∀ {vs : List V} {us : List Value} {zs : List V} {ws : List Value}, Vals vs us → Vals zs ws → Vals (g vs zs) (g us ws))
    (len : ∀ vs H Q E, sp vs H Q E → vs.length = ps.length)
    (body : ∀ (f : Addr) (cdv : Value) (A : Around) (out : List Env) (s : Shared) (H : Hp) (vs : List V) (Q : VK) (E : XK),
      Room k (A.deeper (envOfC x (defScope st) s.heap.objs.size f cdv)) → sp vs H Q E →
      ∃ t, PSs (cxOf CX0 P w K mg base N x (defScope st) f cdv A out s H E).nox (defBody st) t ∧
        t { nx := fun _ H' => Q .non H', rt := Q } (start N vs) H) : DefK P w K mg base x (k + 1) ps n ks g sp := by
  obtain ⟨f, fd, F, m⟩ := A.ex
  have F' := F
  obtain ⟨oc, od, dV, kV, doc, pm, an, cdv, ct, osl, rfl, lk, hcd, hD, hK⟩ := F.ex
  rcases hD with ⟨_, rfl⟩ | ⟨e, _⟩
  · exact ⟨f, _, fun us ws => g us ws, m, F'.kp, ⟨fun s us ws X l1 l2 => .of_eq (hb kV doc pm an cdv ct us ws l1 l2), hg⟩, mkFnD F' S len body⟩
  · exact absurd rfl e
end
section
variable {X : Cx} {x : Str} {k j n : Nat} {ps ks : List Str} {ds : List V} {sp : Sp} {p pos : Pos} {e : Expr} {es : List Expr} {t tk : TA} {gV : List V → List V → List V}
  {kws : List Keyword}
theorem pe_dD (D : DefD X.prog X.w X.K X.mg X.base x k ps ds sp) (hr : Room j X.A) (hk : k ≤ j) (hg : Gl X x) (ha : PA X (e :: es) t)
    (hdb : (x == ("__debug__" : Str)) = false := by decide)
    (he : starEach (e :: es) X.env = (false, eval e X.env) :: starEach es X.env := by rfl)
    (hpl : (backTo pos (starEach es X.env)).any (·.1) = false := by rfl) :
    PE X (.Call (.Name x p) (e :: es) [] pos) (tCall sp ds E0 t) := by
  obtain ⟨f, fd, us, m, kp, hv, b, F⟩ := D.ex
  exact pe_call F (hr.mono hk) hg m kp b hv pass0 ha hdb he hpl
theorem pe_dK (D : DefK X.prog X.w X.K X.mg X.base x k ps n ks gV sp) (hr : Room j X.A) (hk : k ≤ j) (hg : Gl X x) (ha : PA X (e :: es) t) (hkw : PK X kws tk)
    (hall : (backToKw pos (keywordEach kws X.env)).all (·.1.isSome) = true := by rfl) (hks : (backToKw pos (keywordEach kws X.env)).filterMap (·.1) = ks := by rfl)
    (hdb : (x == ("__debug__" : Str)) = false := by decide)
    (he : starEach (e :: es) X.env = (false, eval e X.env) :: starEach es X.env := by rfl)
    (hpl : ((backTo pos (starEach (e :: es) X.env)).any (·.1) || (backToKw pos (keywordEach kws X.env)).any (·.1.isNone)) = false := by rfl) :
    PE X (.Call (.Name x p) (e :: es) kws pos) (tCallN n ks.length sp gV E0 t tk) := by
  obtain ⟨f, fd, g, m, kp, b, F⟩ := D.ex
  exact pe_callN F (hr.mono hk) hg m kp b pass0 ha hkw hall hks hdb he hpl
end
end Pw

/-! Classes: methods by name, objects made, their fields. -/
namespace Pw
open PySem PySem.Spec PyProof.Rows L2
section
variable (P : Program) (w : World) (K : PySem.W.Frag) (mg : Str → Option Value) (base : Heap)
/-- the method m of the class at C is the def st of the text -/
structure AtMt (C : Addr) (m q : Str) (st : Stmt) : Prop where
  ex : ∃ f fd, Fun K m q st f fd ∧ Meth K C m f
/-- the method m of the class at C keeps the promise sp -/
structure DefM (C : Addr) (m : Str) (k : Nat) (ps : List Str) (sp : Sp) : Prop where
  ex : ∃ f fd, Meth K C m f ∧ Binds K fd ps [] ∧ FnOk P w K mg base CX0 k f fd ps sp
/-- C(..) is made, its __init__ keeping the promise sp -/
structure DefI (x : Str) (C : Addr) (k : Nat) (ps : List Str) (sp : Sp) : Prop where
  ex : ∃ f fd, mg x = some (.ref C) ∧ Mk K C f ∧ Binds K fd ps [] ∧ FnOk P w K mg base CX0 k f fd ps sp
end
section
variable {P : Program} {w : World} {K : PySem.W.Frag} {mg : Str → Option Value} {base : Heap}
theorem DefM.mono {C : Addr} {m : Str} {k j : Nat} {ps : List Str} {sp : Sp} (d : DefM P w K mg base C m k ps sp) (h : k ≤ j) : DefM P w K mg base C m j ps sp :=
  let ⟨f, fd, a, b, F⟩ := d.ex
  ⟨f, fd, a, b, F.mono h⟩
theorem mkDefM {C : Addr} {m q : Str} {st : Stmt} {N ps : List Str} {k : Nat} {sp : Sp} (A : AtMt K C m q st)
    (S : FnScope N ps (defScope st))
    (hb : ∀ (kV doc pm : Value) (an : Option Addr) (cdv ct : Value) (us : List Value), us.length = ps.length →
      bindArgs (PySem.W.fnOf m q (defArgs st) (defBody st) (defScope st) .none kV doc pm an cdv ct) ⟨us, []⟩ = pure (ps.zip us))
    (len : ∀ vs H Q E, sp vs H Q E → vs.length = ps.length)
    (body : ∀ (f : Addr) (cdv : Value) (A : Around) (out : List Env) (s : Shared) (H : Hp) (vs : List V) (Q : VK) (E : XK),
      Room k (A.deeper (envOfC q (defScope st) s.heap.objs.size f cdv)) → sp vs H Q E →
      ∃ t, PSs (cxOf CX0 P w K mg base N q (defScope st) f cdv A out s H E).nox (defBody st) t ∧
        t { nx := fun _ H' => Q .non H', rt := Q } (start N vs) H) : DefM P w K mg base C m (k + 1) ps sp := by
  obtain ⟨f, fd, F, M⟩ := A.ex
  exact ⟨f, fd, M, F.binds hb, F.ok S len (body f)⟩
theorem mkDefI {x : Str} {C f : Addr} {fd : FuncData} {m q : Str} {st : Stmt} {N ps : List Str} {k : Nat} {sp : Sp} (hm : mg x = some (.ref C)) (M : Mk K C f) (F : Fun K m q st f fd)
    (S : FnScope N ps (defScope st))
    (hb : ∀ (kV doc pm : Value) (an : Option Addr) (cdv ct : Value) (us : List Value), us.length = ps.length →
      bindArgs (PySem.W.fnOf m q (defArgs st) (defBody st) (defScope st) .none kV doc pm an cdv ct) ⟨us, []⟩ = pure (ps.zip us))
    (len : ∀ vs H Q E, sp vs H Q E → vs.length = ps.length)
    (body : ∀ (f : Addr) (cdv : Value) (A : Around) (out : List Env) (s : Shared) (H : Hp) (vs : List V) (Q : VK) (E : XK),
      Room k (A.deeper (envOfC q (defScope st) s.heap.objs.size f cdv)) → sp vs H Q E →
      ∃ t, PSs (cxOf CX0 P w K mg base N q (defScope st) f cdv A out s H E).nox (defBody st) t ∧
        t { nx := fun _ H' => Q .non H', rt := Q } (start N vs) H) : DefI P w K mg base x C (k + 1) ps sp :=
  ⟨f, fd, hm, M, F.binds hb, F.ok S len (body f)⟩
/-- under its name x a def stands (nothing is promised of it) -/
theorem At.any {x : Str} {st : Stmt} {ps : List Str} (A : At K mg x st)
    (hb : ∀ (kV doc pm : Value) (an : Option Addr) (cdv ct : Value) (us : List Value), us.length = ps.length →
      bindArgs (PySem.W.fnOf x x (defArgs st) (defBody st) (defScope st) .none kV doc pm an cdv ct) ⟨us, []⟩ = pure (ps.zip us))
    (k : Nat) (sp : Sp) (no : ∀ vs H Q E, ¬ sp vs H Q E) : Def P w K mg base x k ps sp := by
  obtain ⟨f, fd, F, m⟩ := A.ex
  exact ⟨f, fd, m, F.kp, F.binds hb, ⟨fun vs H Q E h => absurd h (no vs H Q E), fun A out s H ar us vs Q E _ _ _ _ h => absurd h (no vs H Q E)⟩⟩
end
section
variable {X : Cx} {x m : Str} {C : Addr} {k j : Nat} {ps : List Str} {sp : Sp} {o : Expr} {p pos apos : Pos} {e : Expr} {es : List Expr} {ta : TE} {t : TA}
theorem pe_mm {pl : Sem Bool} (he : PE X o ta) (c : Cls X.K C) (D : DefM X.prog X.w X.K X.mg X.base C m k ps sp) (hr : Room j X.A) (hk : k ≤ j) (ha : PA X (e :: es) t)
    (hst : starEach (e :: es) X.env = (false, eval e X.env) :: starEach es X.env := by rfl) (hpl : (backTo pos (starEach es X.env)).any (·.1) = false := by rfl)
    (ht : eval (.Call (.Attribute o m apos) (e :: es) [] pos) X.env = (do
      let ov ← eval o X.env
      standAt apos.atName
      let (f, first) ← holding [ov] (getMethod ov m pl)
      callWith pos f first (backTo pos (starEach (e :: es) X.env)) (backToKw pos (keywordEach [] X.env))) := by rfl) :
    PE X (.Call (.Attribute o m apos) (e :: es) [] pos) (tMeth C m sp [] E0 ta t) := by
  obtain ⟨f, fd, M, b, F⟩ := D.ex
  exact pe_meth (pl := pl) he c M F (hr.mono hk) b .nil pass0 ha hst hpl ht
theorem pe_mm0 {pl : Sem Bool} (he : PE X o ta) (c : Cls X.K C) (D : DefM X.prog X.w X.K X.mg X.base C m k ps sp) (hr : Room j X.A) (hk : k ≤ j)
    (ht : eval (.Call (.Attribute o m apos) [] [] pos) X.env = (do
      let ov ← eval o X.env
      standAt apos.atName
      let (f, first) ← holding [ov] (getMethod ov m pl)
      callWith pos f first (backTo pos (starEach [] X.env)) (backToKw pos (keywordEach [] X.env))) := by rfl) :
    PE X (.Call (.Attribute o m apos) [] [] pos) (tMeth C m sp [] E0 ta tNil) := by
  obtain ⟨f, fd, M, b, F⟩ := D.ex
  exact pe_meth0 (pl := pl) he c M F (hr.mono hk) b .nil pass0 ht
theorem pe_mi (D : DefI X.prog X.w X.K X.mg X.base x C k ps sp) (hr : Room j X.A) (hk : k + 1 ≤ j) (hg : Gl X x) (ha : PA X (e :: es) t)
    (hdb : (x == ("__debug__" : Str)) = false := by decide) (he : starEach (e :: es) X.env = (false, eval e X.env) :: starEach es X.env := by rfl) (hpl : (backTo pos (starEach es X.env)).any (·.1) = false := by rfl) :
    PE X (.Call (.Name x p) (e :: es) [] pos) (tMake C sp [] E0 t) := by
  obtain ⟨f, fd, hm, M, b, F⟩ := D.ex
  exact pe_make M F (hr.mono hk) hg hm b .nil pass0 ha hdb he hpl
end
/-! ### fields by name -/
theorem lk_eq {f : Str} {v : V} {r : List (Str × V)} : List.lookup f ((f, v) :: r) = some v := by
  simp only [List.lookup, beq_self_eq_true]
theorem lk_ne {f g : Str} {v : V} {r : List (Str × V)} (h : (f == g) = false) : List.lookup f ((g, v) :: r) = List.lookup f r := by
  simp only [List.lookup, h]
theorem put_eq {f : Str} {v x : V} {r : List (Str × V)} : putF f v ((f, x) :: r) = (f, v) :: r := by
  show (if f = f then _ else _) = _
  rw [if_pos rfl]
theorem put_ne {f g : Str} {v x : V} {r : List (Str × V)} (h : (g == f) = false) : putF f v ((g, x) :: r) = (g, x) :: putF f v r := by
  show (if g = f then _ else _) = _
  rw [if_neg (by simpa using h)]
end Pw

/-! Calls by names alone. -/
namespace Pw
open PySem PySem.Spec PyProof.Rows L2
section
variable (P : Program) (w : World) (K : PySem.W.Frag) (mg : Str → Option Value) (base : Heap)
/-- called by the names ks alone, in this order -/
structure DefK0 (x : Str) (k : Nat) (ps ks : List Str) (g : {α : Type} → List α → List α) (sp : Sp) : Prop where
  ex : ∃ f fd, mg x = some (.ref f) ∧ PySem.W.keepIn K (.ref f) = true ∧
    (∀ (s : Shared) (ws : List Value), K.In s.heap → ws.length = ks.length → BindsTo s fd ⟨[], ks.zip ws⟩ (ps.zip (g ws))) ∧ FnOk P w K mg base CX0 k f fd ps sp
end
section
variable {P : Program} {w : World} {K : PySem.W.Frag} {mg : Str → Option Value} {base : Heap}
theorem mkDefK0 {x : Str} {st : Stmt} {N ps ks : List Str} {k : Nat} {sp : Sp} {g : {α : Type} → List α → List α} (A : At K mg x st)
    (S : FnScope N ps (defScope st))
    (hb : ∀ (kV doc pm : Value) (an : Option Addr) (cdv ct : Value) (ws : List Value), ws.length = ks.length →
      bindArgs (PySem.W.fnOf x x (defArgs st) (defBody st) (defScope st) .none kV doc pm an cdv ct) ⟨[], ks.zip ws⟩ = pure (ps.zip (g ws)))
    (len : ∀ vs H Q E, sp vs H Q E → vs.length = ps.length)
    (body : ∀ (f : Addr) (cdv : Value) (A : Around) (out : List Env) (s : Shared) (H : Hp) (vs : List V) (Q : VK) (E : XK),
      Room k (A.deeper (envOfC x (defScope st) s.heap.objs.size f cdv)) → sp vs H Q E →
      ∃ t, PSs (cxOf CX0 P w K mg base N x (defScope st) f cdv A out s H E).nox (defBody st) t ∧
        t { nx := fun _ H' => Q .non H', rt := Q } (start N vs) H) : DefK0 P w K mg base x (k + 1) ps ks g sp := by
  obtain ⟨f, fd, F, m⟩ := A.ex
  have F' := F
  obtain ⟨oc, od, kV, doc, pm, an, cdv, ct, osl, rfl, lk, hcd⟩ := F.ex
  exact ⟨f, _, m, F'.kp, fun s ws _ hl => .of_eq (hb kV doc pm an cdv ct ws hl), F'.ok S len (body f)⟩
end
section
variable {X : Cx} {x : Str} {k j : Nat} {ps ks : List Str} {sp : Sp} {p pos : Pos} {tk : TA} {kws : List Keyword}
def tCallK0 (n : Nat) (g : {α : Type} → List α → List α) (sp : Sp) (tk : TA) : TE := fun σ H Q => tk σ H fun zs H2 => zs.length = n ∧ sp (g zs) H2 Q E0
theorem pe_dK0 {g : {α : Type} → List α → List α} (D : DefK0 X.prog X.w X.K X.mg X.base x k ps ks g sp) (hgv : ∀ {vs : List V} {us : List Value}, Vals vs us → Vals (g vs) (g us)) (hr : Room j X.A) (hk : k ≤ j) (hg : Gl X x) (hkw : PK X kws tk)
    (hall : (backToKw pos (keywordEach kws X.env)).all (·.1.isSome) = true := by rfl) (hks : (backToKw pos (keywordEach kws X.env)).filterMap (·.1) = ks := by rfl)
    (hdb : (x == ("__debug__" : Str)) = false := by decide)
    (hpl : ((backTo pos (starEach [] X.env)).any (·.1) || (backToKw pos (keywordEach kws X.env)).any (·.1.isNone)) = false := by rfl) :
    PE X (.Call (.Name x p) [] kws pos) (tCallK0 ks.length g sp tk) := by
  obtain ⟨f, fd, m, kp, hb, F⟩ := D.ex
  refine ⟨fun pins s σ H Q I h => ?_⟩
  refine wpAny_Call_Name_kw (ld_glob I hg m ?_ hdb)
  refine PySem.W.callWith_KW0 (h₀ := X.base) I.ok.mod.kin kp hall ?_ hpl
  refine thn (hkw.run pos pins s σ H _ I h) fun ws s2 ⟨zs, H2, I2, rz, l, q2⟩ => ⟨I2.kIn, ?_⟩
  rw [hks]
  have r2 := hgv rz
  refine wpAny_call (codeAny_mono (F.run X.A X.stack s2 H2 ⟨[], ks.zip ws⟩ (g ws) (g zs) Q E0 (hr.mono hk) I2.env0 (hb s2 ws I2.kIn (rz.length.symm.trans l)) r2 q2) fun r s' hq => ?_)
  cases r with
  | error e => exact pass0 pins σ H2 s2 e s' I2 hq
  | ok fl =>
    cases fl with
    | ret u => exact I2.after hq
    | next => exact False.elim hq
    | brk => exact False.elim hq
    | cont => exact False.elim hq
end
/-- the third ahead -/
def g201 {α : Type} : List α → List α
  | [a, b, c] => [c, a, b]
  | _ => []
/-- the first behind -/
def g120 {α : Type} : List α → List α
  | [a, b, c] => [b, c, a]
  | _ => []
theorem g201_vals {vs : List V} {us : List Value} (r : Vals vs us) : Vals (g201 vs) (g201 us) := by
  cases r with
  | nil => exact .nil
  | cons r1 r =>
    cases r with
    | nil => exact .nil
    | cons r2 r =>
      cases r with
      | nil => exact .nil
      | cons r3 r =>
        cases r with
        | nil => exact .cons r3 (.cons r1 (.cons r2 .nil))
        | cons r4 r => exact .nil
theorem g120_vals {vs : List V} {us : List Value} (r : Vals vs us) : Vals (g120 vs) (g120 us) := by
  cases r with
  | nil => exact .nil
  | cons r1 r =>
    cases r with
    | nil => exact .nil
    | cons r2 r =>
      cases r with
      | nil => exact .nil
      | cons r3 r =>
        cases r with
        | nil => exact .cons r2 (.cons r3 (.cons r1 .nil))
        | cons r4 r => exact .nil
end Pw

/-! sorted(d.items()) of a dict whose keys are numbers that rise. -/
namespace Pw
open PySem PySem.Spec PyProof.Rows L2 L2.DX

/-- the number that stands first in the tuple at v -/
def fstI (h : Heap) : Value → Int
  | .ref a => match h.get? a with
    | some o => match o.data with
      | .seq xs _ => match (xs[0]? : Option Value) with
        | some (Value.int x _) => x
        | _ => 0
      | _ => 0
    | none => 0
  | _ => 0
/-- a pair of a number and any thing -/
def PairR (h : Heap) (v : Value) (x : Int) (u : Value) : Prop := ∃ a o t n, v = .ref a ∧ h.get? a = some o ∧ o.cls = .type "tuple" ∧ o.data = .seq #[.int x t, u] n
theorem PairR.fst {h : Heap} {v u : Value} {x : Int} (p : PairR h v x u) : fstI h v = x := by
  obtain ⟨a, o, t, n, rfl, ho, hc, hd⟩ := p
  simp only [fstI, ho, hd]
  rfl
theorem PairR.keeps {h h' : Heap} {v u : Value} {x : Int} (p : PairR h v x u) (k : ∀ b o, h.get? b = some o → o.cls = .type "tuple" → h'.get? b = some o) : PairR h' v x u := by
  obtain ⟨a, o, t, n, e, ho, hc, hd⟩ := p
  exact ⟨a, o, t, n, e, k _ _ ho hc, hc, hd⟩
theorem firsts_ofR {h : Heap} : ∀ {vs : List Value}, (∀ v ∈ vs, ∃ x u, PairR h v x u) → ∃ fs : List Value, PySem.W.KatTups h vs fs ∧ fs.length = vs.length ∧ ∀ f ∈ fs, ∃ x t, f = Value.int x t
  | [], _ => ⟨[], PySem.W.KatTups.nil, rfl, fun _ hm => by simp at hm⟩
  | v :: vs, hp => by
    obtain ⟨fs, h1, h2, h3⟩ := firsts_ofR (vs := vs) fun v' hm => hp v' (List.mem_cons_of_mem _ hm)
    obtain ⟨x, u, a, o, t, n, e, ho, hc, hd⟩ := hp v (List.mem_cons_self ..)
    subst e
    refine ⟨.int x t :: fs, PySem.W.KatTups.cons ho hc hd rfl h1, by rw [List.length_cons, List.length_cons, h2], fun f hm => ?_⟩
    rcases List.mem_cons.mp hm with rfl | hm
    · exact ⟨x, t, rfl⟩
    · exact h3 f hm
theorem swo_by (k : Value → Int) : SrtO.Swo fun v u => decide (k v < k u) := by
  refine ⟨fun x y h => ?_, fun x y z h1 h2 => ?_⟩
  · have := of_decide_eq_true h
    exact decide_eq_false (by omega)
  · have a := of_decide_eq_false h1
    have b := of_decide_eq_false h2
    exact decide_eq_false (by omega)
section
variable {prog : Program} {w : World} {A : Around} {s : Shared}
theorem pairR_cmp {vs : List Value} {k : Value → Int} (hp : ∀ v ∈ vs, ∃ u, PairR s.heap v (k v) u) (hi : ∀ v ∈ vs, ∀ u ∈ vs, k v = k u → v = u) :
    SrtO.Cmp prog w A s (tuples' true) (fun p => p.1 ∈ vs) (SrtO.lt2 fun v u => decide (k v < k u)) := by
  intro p q hm hm'
  obtain ⟨y, a, o, t, n, e, ho, hc, hd⟩ := hp _ hm
  obtain ⟨y', a', o', t', n', e', ho', hc', hd'⟩ := hp _ hm'
  have hinj := hi _ hm _ hm'
  show wpAny (model prog w) A (keyLt' (tuples' true) p.1 q.1) (fun r s' => s' = s ∧ r = decide (k p.1 < k q.1)) (fun _ _ => False) s
  generalize k p.1 = x at hd hinj ⊢
  generalize k q.1 = x' at hd' hinj ⊢
  rw [e, e'] at hinj ⊢
  refine PySem.W.kat_lt ho hd ho' hd' ?_
  show PySem.W.KatLex prog w A true (decide (2 < 2)) _ [(.int x t, .int x' t'), (y, y')] 0 s
  refine PySem.W.kat_cons (SeqAt.EqAt.int_int x t x' t' prog w _ _ ?_)
  refine PySem.W.kat_go (fun e1 => ?_) (fun e1 => ?_)
  · have ex : x = x' := by simpa using e1
    have ea := hinj ex
    cases ea
    rw [ho] at ho'
    cases ho'
    rw [hd] at hd'
    injection hd' with h1 h2
    have hy : y = y' := by
      have := congrArg (fun z : Array Value => z[1]?) h1
      simpa using this
    subst hy
    refine PySem.W.kat_yes (PySem.W.kat_cons (SeqAt.EqAt.same y prog w _ _ ?_))
    refine PySem.W.kat_yes (PySem.W.kat_nil ⟨rfl, ?_⟩)
    rw [ex]
    exact (decide_eq_false (Int.lt_irrefl _)).symm
  · exact PySem.W.kat_no (oneLt_int ⟨rfl, rfl⟩)
theorem pairsR_sortable {a : Addr} {vs : List Value} {k : Value → Int} (h0 : 0 < vs.length) (hp : ∀ v ∈ vs, ∃ u, PairR s.heap v (k v) u) (hi : ∀ v ∈ vs, ∀ u ∈ vs, k v = k u → v = u)
    (ha : ∀ o, s.heap.get? a = some o → o.cls ≠ .type "tuple") : SrtO.SortableO prog w A s a vs fun v u => decide (k v < k u) := by
  intro h' keep
  have hp' : ∀ v ∈ vs, ∃ u, PairR h' v (k v) u := fun v hm => let ⟨u, z⟩ := hp v hm; ⟨u, z.keeps fun b o e c => keep b o (fun z => by subst z; exact ha o e c) e⟩
  obtain ⟨fs, h1, h2, h3⟩ := firsts_ofR fun v hm => let ⟨u, z⟩ := hp' v hm; ⟨_, u, z⟩
  refine ⟨tuples' true, fun Q E hq => ?_, pairR_cmp hp' hi⟩
  refine PySem.W.kat_kind (T := .type "int") h1 (by omega) (fun f hm => ?_) (by rfl) ?_
  · obtain ⟨x, t, rfl⟩ := h3 f hm
    exact PySem.W.Looks.now
  · have e : (Value.type "int" != Value.type "tuple") = true := by first | decide +kernel | rfl | decide
    rw [e]
    exact hq
end
theorem perm_rise {α : Type} (f : α → Int) : ∀ (l m : List α), l.Perm m → l.Pairwise (fun a b => f a ≤ f b) → m.Pairwise (fun a b => f a < f b) → l = m
  | [], m, p, _, _ => p.nil_eq
  | y :: l, [], p, _, _ => by cases p.length_eq
  | y :: l, x :: m, p, h1, h2 => by
    have hy : y ∈ x :: m := p.mem_iff.mp (List.mem_cons_self ..)
    have hx : x ∈ y :: l := p.mem_iff.mpr (List.mem_cons_self ..)
    have e : y = x := by
      rcases List.mem_cons.mp hy with e | hy
      · exact e
      · rcases List.mem_cons.mp hx with e | hx
        · exact e.symm
        · have a := (List.pairwise_cons.mp h1).1 x hx
          have b := (List.pairwise_cons.mp h2).1 y hy
          omega
    subst e
    rw [perm_rise f l m p.cons_inv (List.pairwise_cons.mp h1).2 (List.pairwise_cons.mp h2).2]

section
variable {X : Cx}
/-- d.items(), d a dict with number or text keys -/
def rItemsK : V → List V → Hp → VK → Prop := fun x xs H Q => ∃ (a : Addr) (kvs : List (Key × V)), x = .ref a ∧ xs = [] ∧ H a = some (.dK kvs) ∧ ∀ p, H p = none → Q (.ref p) (upd H p (itemsO p a))
theorem mt_itemsK : MtR X "dict.items" rItemsK := by
  intro pins s σ H x xs v us Q I rx rxs h
  obtain ⟨a, kvs, rfl, rfl, ha, q⟩ := h
  cases rx
  cases rxs
  obtain ⟨_, hsys, us, hkv, o, es, ep, h1, h2, h3, _⟩ := (show ObjOk X.prog X.w H s.heap a (.dK kvs) from I.hok a _ ha)
  refine DT.callItems (es := es) (ep := ep) hsys ⟨o, h1, h2, h3⟩ ?_
  have hf : H s.heap.objs.size = none := I.hok.fresh (Nat.le_refl _)
  exact ⟨.ref s.heap.objs.size, upd H s.heap.objs.size (itemsO s.heap.objs.size a), I.laid (t' := s.toks) (fun b u e => Heap.get?_push_of_some _ e) (Nat.le_refl _) (itemsO_ok (Heap.get?_push_size _ rfl)), rfl, q _ hf⟩

/-- sorted(d.items()): the keys are numbers that rise -/
def rSortK : List V → Hp → VK → Prop := fun xs H Q => ∃ (p a : Addr) (kvs : List (Key × V)) (ks : List Int), xs = [.ref p] ∧ H p = some (itemsO p a) ∧ H a = some (.dK kvs) ∧
  kvs.map Prod.fst = ks.map Sum.inl ∧ ks.Pairwise (· < ·) ∧ kvs.length ≤ 1000000 ∧
  ∀ (H' : Hp) (l : Addr) (as : List Addr), Same H H' → H l = none → H' l = some (.lst (as.map V.ref)) → as.length = kvs.length →
    (∀ (j : Nat) (b : Addr) (k : Int) (v : V), as[j]? = some b → kvs[j]? = some (.inl k, v) → H b = none ∧ H' b = some (.tup [.int k, v])) → Q (.ref l) H'
theorem cr_sortK (hc : X.calm = true) : CallR X (.builtin "sorted") rSortK := by
  intro pins s σ H xs us Q I r h
  obtain ⟨p, a, kvs, ks, rfl, hp, ha, hk, hri, hl, q⟩ := h
  obtain rfl := Vals.ref1 r
  have view : s.heap.IsItemsView p a := (show ObjOk X.prog X.w H s.heap p (itemsO p a) from I.hok p _ hp).1
  obtain ⟨_, hsys, ws, hkv, o, es, ep, h1, h2, h3, _, h4, _⟩ := (show ObjOk X.prog X.w H s.heap a (.dK kvs) from I.hok a _ ha)
  obtain ⟨r1, r2⟩ := pairs_keys hkv h4
  have hh : X.A.handled = none := I.ok.hd hc
  have les : es.size = kvs.length := by
    have := r2.length
    simpa using this.symm
  have lks : ks.length = kvs.length := by
    have := congrArg List.length hk
    simpa using this.symm
  have big : (1000000 : Nat) < sizeLine := by decide
  refine DT.sortedI (es := es) (ep := ep) hh view ⟨o, h1, h2, h3⟩ (by omega) fun h' tk as hk' hlt hl' hG => ?_
  have lak : as.length = kvs.length := by omega
  have nd : as.Nodup := List.Pairwise.imp (fun h => Nat.ne_of_lt h) hG.rise
  have pr : ∀ (j : Nat) (b : Addr), as[j]? = some b → ∃ (k : Int) (v : V) (t : Tok) (u : Value), kvs[j]? = some (.inl k, v) ∧ ks[j]? = some k ∧ RelV v u ∧ h'.get? b = some { cls := .type "tuple", data := .seq #[.int k t, u] } := by
    intro j b hj
    obtain ⟨en, he, hg⟩ := hG.pairs j b hj
    have hj2 : j < kvs.length := by rw [← lak]; exact (List.getElem?_eq_some_iff.mp hj).1
    have he' : es.toList[j]? = some en := by rw [Array.getElem?_toList]; exact he
    obtain ⟨u1, hu1, rv1⟩ := r1.get (i := j) (x := kV (kvs[j]).1) (by rw [List.getElem?_map, List.getElem?_eq_getElem hj2]; rfl)
    obtain ⟨u2, hu2, rv2⟩ := r2.get (i := j) (x := (kvs[j]).2) (by rw [List.getElem?_map, List.getElem?_eq_getElem hj2]; rfl)
    rw [List.getElem?_map, he'] at hu1 hu2
    have hkj : ks[j]? = some ks[j] := List.getElem?_eq_getElem (by omega)
    have ek : (kvs[j]).1 = Sum.inl ks[j] := by
      have := congrArg (fun z => z[j]?) hk
      simp only [List.getElem?_map, List.getElem?_eq_getElem hj2, hkj, Option.map_some, Option.some.injEq] at this
      exact this
    cases hu1
    cases hu2
    rw [ek] at rv1
    obtain ⟨t, et⟩ := (show ∃ t, en.key = Value.int ks[j] t from rv1)
    rw [et] at hg
    refine ⟨ks[j], (kvs[j]).2, t, en.val, ?_, hkj, rv2, hg⟩
    rw [List.getElem?_eq_getElem hj2, ← ek]
  have hob : (h'.push { cls := .type "list", data := .seq (as.map Value.ref).toArray }).get? h'.objs.size = some (seqObj "list" (as.map Value.ref).toArray 0) := Heap.get?_push_size _ rfl
  have ne0 : ∀ b o, h'.get? b = some o → b ≠ h'.objs.size := fun b o e => Nat.ne_of_lt (Heap.lt_size e)
  generalize hh2 : h'.push { cls := .type "list", data := .seq (as.map Value.ref).toArray } = h2' at hob ⊢
  have ka : ∀ b o, h'.get? b = some o → h2'.get? b = some o := fun b o e => by rw [← hh2]; exact Heap.get?_push_of_some _ e
  have kb : ∀ b o, s.heap.get? b = some o → h2'.get? b = some o := fun b o e => ka _ _ (hk' _ _ e)
  have pin : ∀ (j : Nat) (b : Addr) (k : Int), as[j]? = some b → ks[j]? = some k → ∃ u, PairR h2' (.ref b) k u := by
    intro j b k hj hkj
    obtain ⟨k', v, t, u, _, e2, _, e4⟩ := pr j b hj
    rw [hkj] at e2
    cases e2
    exact ⟨u, b, _, t, 0, rfl, ka _ _ e4, rfl, rfl⟩
  have fk : ∀ (j : Nat) (b : Addr) (k : Int), as[j]? = some b → ks[j]? = some k → fstI h2' (.ref b) = k := fun j b k hj hkj =>
    let ⟨u, z⟩ := pin j b k hj hkj
    z.fst
  have at_ : ∀ v ∈ as.map Value.ref, ∃ (j : Nat) (b : Addr) (k : Int), v = .ref b ∧ as[j]? = some b ∧ ks[j]? = some k := by
    intro v hv'
    obtain ⟨b, hb, rfl⟩ := List.mem_map.mp hv'
    obtain ⟨j, hj⟩ := List.mem_iff_getElem?.mp hb
    obtain ⟨k, _, _, _, _, e2, _⟩ := pr j b hj
    exact ⟨j, b, k, rfl, hj, e2⟩
  have fits : (as.map Value.ref).length ≤ sizeLine := by rw [List.length_map]; omega
  have ndk : ks.Nodup := List.Pairwise.imp (fun h => Int.ne_of_lt h) hri
  have rise : (as.map Value.ref).Pairwise fun v u => fstI h2' v < fstI h2' u := by
    refine List.pairwise_iff_getElem.mpr fun i j hi hj hij => ?_
    rw [List.length_map] at hi hj
    have hi' : i < ks.length := by omega
    have hj' : j < ks.length := by omega
    rw [List.getElem_map, List.getElem_map, fk i _ ks[i] (List.getElem?_eq_getElem hi) (List.getElem?_eq_getElem hi'), fk j _ ks[j] (List.getElem?_eq_getElem hj) (List.getElem?_eq_getElem hj')]
    exact List.pairwise_iff_getElem.mp hri i j hi' hj' hij
  refine wpAny_call_entry PyProof.Rows.slot_list_sort ⟨_, hob, rfl⟩ PyProof.Rows.entry_list_sort
    (SrtO.list_sort_ord (s := { s with heap := h2', toks := tk }) (swo_by (fstI h2')) hob fits (fun h2 => ?_) fun out g1 g2 => ⟨.none, rfl, ?_⟩) (PyProof.Rows.args_list_sort _)
  · refine pairsR_sortable (s := { s with heap := h2', toks := tk }) (by omega) (fun v hv' => ?_) (fun v hv' u hu' e => ?_) (fun o e => ?_)
    · obtain ⟨j, b, k, rfl, hj, hkj⟩ := at_ v hv'
      rw [fk j b k hj hkj]
      exact pin j b k hj hkj
    · obtain ⟨j, b, k, rfl, hj, hkj⟩ := at_ v hv'
      obtain ⟨j2, b2, k2, rfl, hj2, hkj2⟩ := at_ u hu'
      rw [fk j b k hj hkj, fk j2 b2 k2 hj2 hkj2] at e
      subst e
      have := (List.getElem?_inj (List.getElem?_eq_some_iff.mp hkj).1 ndk).mp (hkj.trans hkj2.symm)
      subst this
      rw [hj] at hj2
      cases hj2
      rfl
    · have e' : some o = some (seqObj "list" (as.map Value.ref).toArray 0) := e.symm.trans hob
      cases e'
      intro c
      exact absurd (Value.type.inj c) (by decide)
  · show EP X pins σ Q (.ref h'.objs.size) { s with heap := sortedHeap h2' h'.objs.size (as.map Value.ref) out.toArray, toks := tk }
    have eo : out = as.map Value.ref := by
      refine perm_rise (fstI h2') _ _ g2.perm (g1.imp fun {x y} z => ?_) rise
      have := of_decide_eq_false z
      omega
    subst eo
    have kF : ∀ b o, b ≠ h'.objs.size → h2'.get? b = some o → (sortedHeap h2' h'.objs.size (as.map Value.ref) (as.map Value.ref).toArray).get? b = some o := fun b o hb e => (PyProof.Rows.sortedHeap_old hb (Heap.lt_size e)).trans e
    have kS : ∀ b o, s.heap.get? b = some o → (sortedHeap h2' h'.objs.size (as.map Value.ref) (as.map Value.ref).toArray).get? b = some o := fun b o e => kF b o (ne0 _ _ (hk' b o e)) (kb b o e)
    obtain ⟨eF, heF⟩ := PyProof.Rows.sortedHeap_at (vs := as.map Value.ref) (out := (as.map Value.ref).toArray) hob
    generalize sortedHeap h2' h'.objs.size (as.map Value.ref) (as.map Value.ref).toArray = h5 at kF kS heF ⊢
    have I1 : Inv X pins σ H { s with heap := h5, toks := tk } := I.kept (t' := tk) kS
    have hn0 : H h'.objs.size = none := I.hok.fresh (Nat.le_of_lt hlt)
    have hlen : (as.map V.ref).length ≤ sizeLine := by rw [List.length_map]; omega
    have rv : Vals (as.map V.ref) (as.map Value.ref) := vals_maps V.ref Value.ref as fun _ _ => rfl
    have I2 : Inv X pins σ (upd H h'.objs.size (.lst (as.map V.ref))) { s with heap := h5, toks := tk } :=
      I1.take (h' := h5) (t' := tk) (fun b ob _ e => e) (I.fpOk (Nat.le_of_lt hlt) hn0) ⟨hlen, as.map Value.ref, eF, rv, by simpa using heF⟩
    obtain ⟨H2, I3, g, qt⟩ := takeT (P := fun b vs => ∃ (j : Nat) (k : Int) (v : V), as[j]? = some b ∧ kvs[j]? = some (.inl k, v) ∧ vs = [.int k, v]) I as _ I2 nd fun b hb => by
      obtain ⟨j, hj⟩ := List.mem_iff_getElem?.mp hb
      obtain ⟨k, v, t, u, e1, _, e3, e4⟩ := pr j b hj
      have hbl : s.heap.objs.size ≤ b := Nat.le_of_lt (hG.above b hb)
      refine ⟨hbl, ?_, [.int k, v], ⟨j, k, v, hj, e1, rfl⟩, fun H3 => ⟨(by show 2 ≤ sizeLine; decide), [Value.int k t, u], .cons ⟨t, rfl⟩ (.cons e3 .nil), ⟨_, kF _ _ (ne0 _ _ e4) (ka _ _ e4), rfl, 0, rfl⟩⟩⟩
      rw [upd_ne (ne0 _ _ e4)]
      exact I.hok.fresh hbl
    have gr : ∀ b o, H b = some o → H2 b = some o := fun b o e => g b o (by rw [upd_ne (ne_of_none e hn0)]; exact e)
    refine ⟨.ref h'.objs.size, H2, I3, rfl, q H2 h'.objs.size as gr hn0 (g _ _ upd_same) lak fun j b k v hj hkv' => ?_⟩
    obtain ⟨vs, ⟨i, k', v', i1, i2, ev⟩, hH⟩ := qt b (List.mem_of_getElem? hj)
    have eij : i = j := (List.getElem?_inj (List.getElem?_eq_some_iff.mp i1).1 nd).mp (i1.trans hj.symm)
    subst eij
    rw [hkv'] at i2
    cases i2
    rw [ev] at hH
    exact ⟨I.hok.fresh (Nat.le_of_lt (hG.above b (List.mem_of_getElem? hj))), hH⟩
end
end Pw

/-! Rows in a list or in a tuple; how lists of rows are shown. -/
namespace Pw
open PySem PySem.Spec PyProof.Rows L2
/-- at a a tuple of tuples -/
def TT {α : Type} (f : α → List V) (H : Hp) (a : Addr) (rs : List α) : Prop := ∃ vs, H a = some (.tup vs) ∧ Al f H vs rs
/-- at a a list or a tuple of tuples -/
def LS {α : Type} (f : α → List V) (H : Hp) (a : Addr) (rs : List α) : Prop := LT f H a rs ∨ TT f H a rs
section
variable {α : Type} {f : α → List V} {H H' : Hp} {K : PySem.W.Frag}
theorem TT.same {a : Addr} {rs : List α} (h : TT f H a rs) (S : Same H H') : TT f H' a rs := let ⟨vs, e, al⟩ := h; ⟨vs, S _ _ e, al.same S⟩
theorem LS.same {a : Addr} {rs : List α} (h : LS f H a rs) (S : Same H H') : LS f H' a rs := h.imp (fun l => l.same S) fun t => t.same S
theorem LT.ls {a : Addr} {rs : List α} (h : LT f H a rs) : LS f H a rs := .inl h
theorem TT.ls {a : Addr} {rs : List α} (h : TT f H a rs) : LS f H a rs := .inr h
/-- rows are shown by their texts, none longer than N -/
def ShR (f : α → List V) (tx : α → Str) (ok : α → Prop) (N : Nat) : Prop :=
  ∀ (K : PySem.W.Frag) (H : Hp) (p : Addr) (r : α), ok r → H p = some (.tup (f r)) → Shw K H (.ref p) 1 N (tx r)
theorem shl_rows {tx : α → Str} {ok : α → Prop} {N : Nat} (S : ShR f tx ok N) {vs : List V} {rs : List α} (h : Al f H vs rs) (ho : ∀ r ∈ rs, ok r) :
    ∃ d, d ≤ 1 ∧ ShwL K H vs d (rs.length * (N + 2)) (rs.map tx) := by
  induction h with
  | nil => exact ⟨0, by decide, by simpa using ShwL.nil⟩
  | @cons p vs r rs e t ih =>
    obtain ⟨d, hd, s⟩ := ih fun r hr => ho r (by simp [hr])
    refine ⟨max 1 d, by omega, ?_⟩
    have := ShwL.cons (S K H p r (ho r (by simp)) e) s
    have e2 : N + 2 + rs.length * (N + 2) = (r :: rs).length * (N + 2) := by
      rw [List.length_cons, Nat.succ_mul]
      omega
    rw [e2] at this
    exact this
/-- a list of rows is shown -/
theorem shw_rows {tx : α → Str} {ok : α → Prop} {N : Nat} (K : PySem.W.Frag) (S : ShR f tx ok N) {a : Addr} {rs : List α} (h : LT f H a rs) (ho : ∀ r ∈ rs, ok r)
    (hl : rs.length * (N + 2) + 2 ≤ sizeLine) : ∃ d n, Shw K H (.ref a) (d + 1) n (listText (rs.map tx)) ∧ n ≤ sizeLine ∧ d + 1 ≤ 60 := by
  obtain ⟨vs, e, al⟩ := h.ex
  obtain ⟨d, hd, s⟩ := shl_rows (K := K) S al ho
  exact ⟨d, _, .lst e s, hl, by omega⟩
theorem sm60 {i : Int} (h : -1000000000000 ≤ i) (k : i ≤ 1000000000000) : i.natAbs.log2 < 1920 := by
  by_cases hz : i.natAbs = 0
  · rw [hz]
    decide
  · rw [Nat.log2_lt hz]
    exact Nat.lt_of_lt_of_le (show i.natAbs < 2 ^ 60 by omega) (Nat.pow_le_pow_right (by decide) (by decide))
/-- what follows two ways that meet -/
theorem seq_join {A B : TS} {D : Ends} {σ : L2.St} {H : Hp} (P : L2.St → Hp → Prop) (h2 : ∀ N' : L2.St → Hp → Prop, (∀ σ' H', P σ' H' → N' σ' H') → A { D with nx := N' } σ H)
    (h1 : ∀ σ' H', P σ' H' → B D σ' H') : tSeq A B D σ H := h2 _ h1
end
end Pw

/-! A list or a tuple, whichever it is: walked along, looked at, asked for its kind. -/
namespace Pw
open PySem PySem.Spec PyProof.Rows L2
theorem Rd_same {H H' : Hp} {a : Addr} {u : HO} (S : Same H H') (r : Rd H a u) : Rd H' a u := r.imp (S _ _) fun ⟨o, e⟩ => ⟨o, S _ _ e⟩
def Sq (K : PySem.W.Frag) (H : Hp) (a : Addr) (xs : List V) : Prop := SqL K H a xs ∨ SqT K H a xs
theorem Sq.same {K : PySem.W.Frag} {H H' : Hp} {a : Addr} {xs : List V} (h : Sq K H a xs) (S : Same H H') : Sq K H' a xs := h.imp (fun z => Same.seq S z) fun z => z.imp (fun r => Rd_same S r) id
/-- what a walk over a list or a tuple asks -/
def iSq (K : PySem.W.Frag) (tl : TE) : TI := fun σ H R => tl σ H fun x H1 => ∃ a xs, x = .ref a ∧ Sq K H1 a xs ∧
  ∀ (J : It) (G : Hp → Prop), (∀ H', Same H1 H' → G H') → Walk J xs.length G (YAt xs) → R J H1
theorem pi_sq {X : Cx} {tg l : Expr} {tl : TE} (hl : PE X l tl) : PI X tg l (iSq X.K tl) := by
  refine ⟨fun pins s σ H R I h => ?_⟩
  refine thn (hl.run pins s σ H _ I h) fun v s1 hv => ?_
  obtain ⟨x, H1, I1, r1, a, xs, rfl, hs, q⟩ := hv
  obtain rfl : v = Value.ref a := r1
  rcases hs with hq | hq
  · obtain ⟨its, rv, p, hz⟩ := I1.list hq
    refine wpAny_pyIter_list (PlainL.isList p) ⟨s1.heap.objs.size, [s1.heap.objs.size], fun i h => h.IsListIter s1.heap.objs.size a i, Itl X.K a, H1, rfl, I1.kept fun b o e => Heap.get?_push_of_some _ e, turn_list a _,
      ⟨_, Heap.get?_push_size _ rfl, rfl, rfl⟩, fun b hb => ?_, q _ (fun H => SqL X.K H a xs) (fun H' S => Same.seq S hq) walk_list⟩
    rw [List.mem_singleton.mp hb]
    exact I1.fpOk (Nat.le_refl _) (HOk.fresh I1.hok (Nat.le_refl _))
  · obtain ⟨its, rv, p, hz⟩ := I1.tuple hq
    refine wpAny_pyIter_tuple p ⟨s1.heap.objs.size, [s1.heap.objs.size], fun i h => h.IsTupleIter s1.heap.objs.size a i, Itt X.K a, H1, rfl, I1.kept fun b o e => Heap.get?_push_of_some _ e, turn_tuple a _,
      ⟨_, Heap.get?_push_size _ rfl, rfl, rfl⟩, fun b hb => ?_, q _ (fun H => SqT X.K H a xs) (fun H' S => hq.imp (fun r => Rd_same S r) id) walk_tup⟩
    rw [List.mem_singleton.mp hb]
    exact I1.fpOk (Nat.le_refl _) (HOk.fresh I1.hok (Nat.le_refl _))
/-- its kind -/
theorem Sq.ty {K : PySem.W.Frag} {H : Hp} {a : Addr} {xs : List V} (h : Sq K H a xs) : ∃ t, TyX K H (.ref a) t ∧ PySem.W.kitAny K t [.type "list", .type "tuple"] = some true := by
  rcases h with h | h
  · rcases h with h | ⟨o, its, n, e, c, _⟩
    · rcases h with e | ⟨o, e⟩
      · exact ⟨_, .base (.lst e), kit_lt_list⟩
      · exact ⟨_, .base (.frz e), kit_lt_list⟩
    · exact ⟨_, .kList e c, kit_lt_list⟩
  · rcases h with h | ⟨o, its, n, e, c, _⟩
    · rcases h with e | ⟨o, e⟩
      · exact ⟨_, .base (.tup e), kit_lt_tuple⟩
      · exact ⟨_, .fTuple e, kit_lt_tuple⟩
    · exact ⟨_, .kTuple e c, kit_lt_tuple⟩
end Pw

/-! Set comprehensions of texts and numbers; len of such a set. -/
namespace Pw
open PySem PySem.Spec PyProof.Rows L2
def tScK (P : Program) (w : World) (wi : TI) (g : TG) (tt : L2.TT) (te : TE) (vs : List Nat) : TE := fun σ H Q => wi σ H fun J H1 => ∀ D, H1 D = none →
  ∃ W : Nat → Nat → Hp → Prop, (∃ m, W 0 m (upd H1 D (SetK P w D (fun _ => false) 0))) ∧ ∀ i m H, W i m H → (J.stop i H ∧ Q (.ref D) H) ∨
    (J.go i H ∧ ∃ Nx : Hp → Prop, (∀ H', Nx H' → ∃ m', m' < m ∧ W (i + 1) m' H') ∧ ∀ x H', J.yld i H x H' → g x (wipe σ vs) H' fun σ2 H2 => wipe σ2 vs = wipe σ vs ∧ tt σ2 H2 fun b H3 =>
      if b = true then te σ2 H3 fun y H4 => ∃ (k : Key) (S : Key → Bool) (n : Nat), y = kV k ∧ H4 D = some (SetK P w D S n) ∧ n + 1 < scanBound ∧
        Nx (upd H4 D (SetK P w D (fun j => S j || decide (j = k)) (if S k = true then n else n + 1))) else Nx H3)
theorem setOf_fresh {P : Program} {w : World} {h : Heap} :
    Heap.SetOf (mixKind P w) (h.push { cls := Value.type "set", data := Data.set #[] 0 (SetTable.fresh 0 0 !w.params.followText "set-order") }) h.objs.size (fun _ => false) 0 := by
  refine ⟨_, #[], 0, _, Heap.get?_push_size _ rfl, ⟨rfl, rfl, rfl⟩, rfl, ?_, ?_, ?_, ?_, rfl⟩
  · intro e h
    cases h
  · intro k
    simp
  · decide
  · cases (!w.params.followText "set-order") <;> rfl
section
variable {X : Cx} {pins : List (Addr × Obj)} {s : Shared} {σ : L2.St} {H : Hp} {Q : VK} {elt tg iter : Expr}
  {ifs : List Expr} {scope : Scope} {own : List (Str × Nat)} {pos pos' : Pos} {wi : TI} {g : TG}
  {tt : L2.TT} {te : TE} {use : Option (Value → Sem Unit)} {Qf : Value → Shared → Prop}
theorem scK_core (hc : X.calm = true) (hN : X.N.Nodup) (I : Inv X pins σ H s) (hi : PI X tg iter wi) (ok : BlkOk X.N X.env.scope scope own)
    (hg : ∀ (s : Shared) (H : Hp) (C : Addr) (cl : List (Str × Addr)) (fp : List Addr), PG (X.blk s H scope (compEnvC scope cl C X.env) fp) tg g)
    (ht : ∀ (s : Shared) (H : Hp) (C : Addr) (cl : List (Str × Addr)) (fp : List Addr), PTs (X.blk s H scope (compEnvC scope cl C X.env) fp) ifs tt)
    (he : ∀ (s : Shared) (H : Hp) (C : Addr) (cl : List (Str × Addr)) (fp : List Addr), PE (X.blk s H scope (compEnvC scope cl C X.env) fp) elt te)
    (hs : ∀ x : Value, foldedSetIterable iter X.env x = pure x) (h : tScK X.prog X.w wi g tt te (own.map (·.2)) σ H Q)
    (hRR : ∀ (D C : Addr) (s' : Shared) (m : Str → Option Value) (H' : Hp), Inv X pins σ H' s' → Q (.ref D) H' → s'.heap.Ns C m → FpOk X pins H' C →
      compPost (model X.prog X.w) X.A X.xe use Qf (.ref D) C (.ok .next) s') :
    wpAny (model X.prog X.w) X.A (comprehension (elt.SetComp [{ target := tg, iter := iter, ifs := ifs, is_async := 0 }] scope pos) scope X.env pos' (newSet (.type "set")) false (eval iter X.env) use) Qf X.xe s := by
  have hfree : ∀ y ∈ scope.names, y.2 = NameKind.free → ∃ c, List.lookup y.1 X.env.cells = some c := fun y hy e => by
    rcases ok.free y hy e with k | k
    · exact I.ok.has y.1 (Or.inl k)
    · exact I.ok.has y.1 (Or.inr k)
  refine wpAny_comprehension_free rfl hs (closure_ok hfree) ok.kind (fun y hy e => by rw [ok.uniq y hy, e]) ?_
  refine thn (hi.run pins s σ H _ I h) fun xv s1 hx => thn hx fun itv s2 h2 => ?_
  obtain ⟨it, fp, tn, J, H2, rfl, I2, T, st2, f2, q⟩ := h2
  refine PpSet.newSet_ok (newEnv_comp ?_)
  have hDn := HOk.fresh I2.hok (Nat.le_of_eq (Eq.refl s2.heap.objs.size))
  obtain ⟨W, ⟨m0, w0⟩, turn⟩ := q s2.heap.objs.size hDn
  generalize es3 : ({ heap := s2.heap.push { cls := Value.type "set", data := Data.set #[] 0 (SetTable.fresh 0 0 !X.w.params.followText "set-order") }, gens := s2.gens, drawn := s2.drawn, toks := s2.toks, os := s2.os } : Shared) = s3
  have eh3 : s3.heap = s2.heap.push { cls := Value.type "set", data := Data.set #[] 0 (SetTable.fresh 0 0 !X.w.params.followText "set-order") } := by rw [← es3]
  have I3 : Inv X pins σ (upd H2 s2.heap.objs.size (SetK X.prog X.w s2.heap.objs.size (fun _ => false) 0)) s3 := by
    rw [← es3]
    exact I2.laid (fun b o e => Heap.get?_push_of_some _ e) (Nat.le_of_eq rfl) (setK_new setOf_fresh)
  generalize hH3 : upd H2 s2.heap.objs.size (SetK X.prog X.w s2.heap.objs.size (fun _ => false) 0) = H3 at *
  have sz : ∀ b ∈ fp, b < s2.heap.objs.size := fun b hb => by
    obtain ⟨o, e, _⟩ := T.obj 0 s2.heap st2 b hb
    exact Heap.lt_size e
  have f3 : ∀ b ∈ fp, FpOk X pins H3 b ∧ b < s3.heap.objs.size := fun b hb => by
    have hlt := sz b hb
    refine ⟨⟨?_, (f2 b hb).2⟩, ?_⟩
    · rw [← hH3, upd_ne (Nat.ne_of_lt hlt)]
      exact (f2 b hb).1
    · rw [eh3, Heap.size_push]
      exact Nat.lt_succ_of_lt hlt
  have st3 : tn 0 s3.heap := T.keep 0 s2.heap s3.heap st2 fun b _ o e => by
    rw [eh3]
    exact Heap.get?_push_of_some _ e
  have I4 := block_start I3 ok hN f3
  have pg := hg s3 H3 s3.heap.objs.size (cellsFrom (s3.heap.objs.size + 1) scope.names (cloFrom X.env.cells scope.names [])) fp
  have pt := ht s3 H3 s3.heap.objs.size (cellsFrom (s3.heap.objs.size + 1) scope.names (cloFrom X.env.cells scope.names [])) fp
  have pe := he s3 H3 s3.heap.objs.size (cellsFrom (s3.heap.objs.size + 1) scope.names (cloFrom X.env.cells scope.names [])) fp
  have nfp : ∀ b ∈ fp, H3 b = none := fun b hb => (f3 b hb).1.1
  generalize eCe : cellsFrom (s3.heap.objs.size + 1) scope.names (cloFrom X.env.cells scope.names []) = ce at *
  generalize eDN : s3.heap.objs.size = DN at *
  have stat : ∀ {σ' : L2.St} {H' : Hp} {s' : Shared}, Inv (X.blk s3 H3 scope (compEnvC scope ce DN X.env) fp) [] σ' H' s' → (∀ b ∈ fp, H' b = none) → ∀ b ∈ fp, FpOk (X.blk s3 H3 scope (compEnvC scope ce DN X.env) fp) [] H' b := fun {σ' H' s'} I' hn b hb =>
    ⟨hn b hb, (I'.ok.exf b hb).1, I'.ok.exfs b hb, .inl hb, fun x c e => (I'.ok.exf b hb).2 x c e, fun p hp => absurd hp (by simp)⟩
  have st4 : tn 0 (pushCells (s3.heap.push { cls := Value.type "dict", data := Data.dict #[] }) scope.names) := T.keep 0 s3.heap _ st3 fun b _ o e => pushCells_keeps _ _ _ _ (Heap.get?_push_of_some _ e)
  have loop : codeAny (model X.prog X.w) X.A (Code.compLoop (elt.SetComp [{ target := tg, iter := iter, ifs := ifs, is_async := 0 }] scope pos) 0 (.ref it) (.ref s2.heap.objs.size) (compEnvC scope ce DN X.env))
      (compPost (model X.prog X.w) X.A X.xe use Qf (.ref s2.heap.objs.size) DN)
      { heap := pushCells (s3.heap.push { cls := Value.type "dict", data := Data.dict #[] }) scope.names, gens := s3.gens, drawn := s3.drawn, toks := s3.toks, os := s3.os } := by
    refine PpSet.compLoopS_any (fun n s' => ∃ i H', Inv (X.blk s3 H3 scope (compEnvC scope ce DN X.env) fp) [] (wipe σ (own.map (·.2))) H' s' ∧ tn i s'.heap ∧ (∀ b ∈ fp, H' b = none) ∧ W i n H') ?_ m0 ⟨0, H3, I4, st4, nfp, w0⟩
    rintro n s5 ⟨i, H5, I5, st5, n5, w5⟩
    rcases turn i n H5 w5 with ⟨stop, qq⟩ | ⟨go, Nx, hNx, step⟩
    · have td := T.done (X.blk s3 H3 scope (compEnvC scope ce DN X.env) fp) rfl rfl rfl hc i [] s5 _ H5 (fun _ _ => False) I5 (stat I5 n5) st5 stop
      refine thnF td fun r s6 h6 => ?_
      obtain ⟨rfl, I6⟩ := h6
      have I7 := Inv.call' I3 I6.os I6.base I6.hok I6.bare fun b hb => ⟨(f3 b hb).1.2.2.2.1, (f3 b hb).1.2.1, (f3 b hb).1.2.2.2.2.1, (f3 b hb).1.2.2.2.2.2⟩
      have nC : H5 DN = none := I6.free
      obtain ⟨m, hn, _⟩ := I6.loc
      exact hRR s2.heap.objs.size DN s6 m H5 I7 qq hn (I3.fpOk (Nat.le_of_eq eDN) nC)
    · have ti := T.item (X.blk s3 H3 scope (compEnvC scope ce DN X.env) fp) rfl rfl rfl hc i [] s5 _ H5 (fun _ _ => False) I5 (stat I5 n5) st5 go
      refine thnF ti fun r s6 h6 => ?_
      obtain ⟨u, rfl, h6⟩ := h6
      refine thnF h6 fun _ s7 h7 => ?_
      obtain ⟨x, H7, I7, r7, y7, st7, n7⟩ := h7
      have I7' := Inv.pinned I7 (stat I7 n7) (T.obj (i + 1) s7.heap st7)
      refine thnF (pg.run ([] ++ pinsAt fp s7.heap) s7 _ H7 x u _ I7' r7 (step x H7 y7)) fun _ s8 h8 => ?_
      obtain ⟨σ8, H8, I8, hw8, q8⟩ := h8
      have fin : ∀ {H' : Hp} {s' : Shared}, Inv (X.blk s3 H3 scope (compEnvC scope ce DN X.env) fp) ([] ++ pinsAt fp s7.heap) σ8 H' s' → Nx H' → ∃ m, m < n ∧ ∃ i H', Inv (X.blk s3 H3 scope (compEnvC scope ce DN X.env) fp) [] (wipe σ (own.map (·.2))) H' s' ∧ tn i s'.heap ∧ (∀ b ∈ fp, H' b = none) ∧ W i m H' := fun {H' s'} I' nx => by
        obtain ⟨m', hm, w'⟩ := hNx H' nx
        have z : ∀ b ∈ fp, ∀ o, s7.heap.get? b = some o → s'.heap.get? b = some o ∧ H' b = none := fun b hb o e => by
          have z := I'.pin (b, o) (List.mem_append_right _ (mem_pinsAt hb e))
          exact ⟨z.1, z.2.1⟩
        have hl : (wipe σ (own.map (·.2))).length = σ8.length := by rw [← hw8, wipe_length]
        refine ⟨m', hm, i + 1, H', Inv.weak (Inv.unpinned I') hl (fun j v e => (wipe_some (by rw [hw8]; exact e)).1), T.keep (i + 1) s7.heap s'.heap st7 (fun b hb o e => (z b hb o e).1), fun b hb => ?_, w'⟩
        obtain ⟨o, e, _⟩ := T.obj (i + 1) s7.heap st7 b hb
        exact (z b hb o e).2
      refine thnF (pt.run ([] ++ pinsAt fp s7.heap) s8 σ8 H8 _ I8 q8) fun b s9 h9 => ?_
      obtain ⟨H9, I9, q9⟩ := h9
      cases b with
      | false => exact fin I9 q9
      | true =>
        refine thnF (pe.run ([] ++ pinsAt fp s7.heap) s9 σ8 H9 _ I9 q9) fun yv s10 h10 => ?_
        obtain ⟨y, H10, I10, r10, k, S, nn, rfl, hD10, hz10, nx⟩ := h10
        have ad := mt_saddK (X := (X.blk s3 H3 scope (compEnvC scope ce DN X.env) fp)) ([] ++ pinsAt fp s7.heap) s10 σ8 H10 (.ref s2.heap.objs.size) [kV k] (.ref s2.heap.objs.size) [yv] (fun _ H' => Nx H') I10 rfl (.cons r10 .nil) ⟨_, k, S, nn, rfl, rfl, hD10, hz10, nx⟩
        refine thnF ad fun _ s11 h11 => ?_
        obtain ⟨_, H11, I11, _, nx'⟩ := h11
        exact fin I11 nx'
  subst eCe
  subst eDN
  exact PpSet.codeAny_compStart_set loop (T.self X.A 0 _ _ _ st4 loop)
theorem pe_scK (hc : X.calm = true) (hN : X.N.Nodup) (hi : PI X tg iter wi) (ok : BlkOk X.N X.env.scope scope own)
    (hg : ∀ (s : Shared) (H : Hp) (C : Addr) (cl : List (Str × Addr)) (fp : List Addr), PG (X.blk s H scope (compEnvC scope cl C X.env) fp) tg g)
    (ht : ∀ (s : Shared) (H : Hp) (C : Addr) (cl : List (Str × Addr)) (fp : List Addr), PTs (X.blk s H scope (compEnvC scope cl C X.env) fp) ifs tt)
    (he : ∀ (s : Shared) (H : Hp) (C : Addr) (cl : List (Str × Addr)) (fp : List Addr), PE (X.blk s H scope (compEnvC scope cl C X.env) fp) elt te)
    (hs : ∀ x : Value, foldedSetIterable iter X.env x = pure x := by intro x; rfl) :
    PE X (.SetComp elt [⟨tg, iter, ifs, 0⟩] scope pos) (tScK X.prog X.w wi g tt te (own.map (·.2))) := by
  refine ⟨fun pins s σ H Q I h => ?_⟩
  rw [PpSet.eval_SetComp]
  refine scK_core hc hN I hi ok hg ht he hs h fun D C s' m H' I' q hn hf => ?_
  refine ⟨m, hn, fun h' hb => ⟨.ref D, H', ?_, rfl, q⟩⟩
  exact I'.turned (it := C) (fun b o n e => (hb.2 b n).trans e) hf.1 hf.2.1 hf.2.2.2.1 hf.2.2.2.2.1 hf.2.2.2.2.2
/-- len of a set of texts or numbers -/
def rLenSK (P : Program) (w : World) : List V → Hp → VK → Prop := fun xs H Q => ∃ (a : Addr) (S : Key → Bool) (n : Nat), xs = [V.ref a] ∧ H a = some (SetK P w a S n) ∧ Q (.int (n : Int)) H
theorem call_lenSK {X : Cx} : CallR X (.builtin "len") (rLenSK X.prog X.w) := by
  intro pins s σ H xs us Q I r h
  obtain ⟨a, S, n, rfl, e, q⟩ := h
  obtain ⟨u, rfl, ru⟩ := vals1 r
  obtain rfl : u = Value.ref a := ru
  obtain ⟨o, es, ep, t, ho, hx, hd, he, hS, hsz, hf, rfl⟩ := setK_get I e
  refine call_len_set ho hx hd hf ?_ ?_
  · exact Int.lt_of_lt_of_le (Int.ofNat_lt.mpr hsz) (by decide)
  · exact ⟨.int (es.size : Int), H, I.tok _, ⟨_, rfl⟩, q⟩
end
end Pw

namespace V45
open PySem PySem.Spec PyProof.Rows L2 Pw
theorem scWall : FnScope ["k"] ["k"] (defScope sWall) := ⟨rfl, rfl, rfl, by decide +kernel, rfl, by decide +kernel, by decide +kernel⟩
theorem scIsNumber : FnScope ["thing"] ["thing"] (defScope sIsNumber) := ⟨rfl, rfl, rfl, by decide +kernel, rfl, by decide +kernel, by decide +kernel⟩
theorem scCheckNumber : FnScope ["thing"] ["thing"] (defScope sCheckNumber) := ⟨rfl, rfl, rfl, by decide +kernel, rfl, by decide +kernel, by decide +kernel⟩
theorem scIsWhole : FnScope ["thing", "low", "high"] ["thing", "low", "high"] (defScope sIsWhole) := ⟨rfl, rfl, rfl, by decide +kernel, rfl, by decide +kernel, by decide +kernel⟩
theorem scIsName : FnScope ["thing", "sign"] ["thing"] (defScope sIsName) := ⟨rfl, rfl, rfl, by decide +kernel, rfl, by decide +kernel, by decide +kernel⟩
theorem scIsTime : FnScope ["thing"] ["thing"] (defScope sIsTime) := ⟨rfl, rfl, rfl, by decide +kernel, rfl, by decide +kernel, by decide +kernel⟩
theorem scIsMark : FnScope ["thing"] ["thing"] (defScope sIsMark) := ⟨rfl, rfl, rfl, by decide +kernel, rfl, by decide +kernel, by decide +kernel⟩
theorem scIsOneOf : FnScope ["thing", "words"] ["thing", "words"] (defScope sIsOneOf) := ⟨rfl, rfl, rfl, by decide +kernel, rfl, by decide +kernel, by decide +kernel⟩
theorem scIsTuple : FnScope ["thing", "many"] ["thing", "many"] (defScope sIsTuple) := ⟨rfl, rfl, rfl, by decide +kernel, rfl, by decide +kernel, by decide +kernel⟩
theorem scIsList : FnScope ["thing", "least", "most"] ["thing", "least", "most"] (defScope sIsList) := ⟨rfl, rfl, rfl, by decide +kernel, rfl, by decide +kernel, by decide +kernel⟩
theorem scIsListOf : FnScope ["fits", "thing", "least", "most", "part"] ["fits", "thing", "least", "most"] (defScope sIsListOf) := ⟨rfl, rfl, rfl, by decide +kernel, rfl, by decide +kernel, by decide +kernel⟩
theorem scIsRising : FnScope ["numbers", "one", "other"] ["numbers"] (defScope sIsRising) := ⟨rfl, rfl, rfl, by decide +kernel, rfl, by decide +kernel, by decide +kernel⟩
theorem scCheckTime : FnScope ["thing"] ["thing"] (defScope sCheckTime) := ⟨rfl, rfl, rfl, by decide +kernel, rfl, by decide +kernel, by decide +kernel⟩
theorem scCheckWhole : FnScope ["thing", "low", "high"] ["thing", "low", "high"] (defScope sCheckWhole) := ⟨rfl, rfl, rfl, by decide +kernel, rfl, by decide +kernel, by decide +kernel⟩
theorem scCheckTruth : FnScope ["thing"] ["thing"] (defScope sCheckTruth) := ⟨rfl, rfl, rfl, by decide +kernel, rfl, by decide +kernel, by decide +kernel⟩
theorem scIsLevel : FnScope ["thing"] ["thing"] (defScope sIsLevel) := ⟨rfl, rfl, rfl, by decide +kernel, rfl, by decide +kernel, by decide +kernel⟩
theorem scIsPointShape : FnScope ["thing", "name", "place", "kind"] ["thing"] (defScope sIsPointShape) := ⟨rfl, rfl, rfl, by decide +kernel, rfl, by decide +kernel, by decide +kernel⟩
theorem scIsRuleShape : FnScope ["thing", "name", "point", "word", "limit", "back", "hold", "rank"] ["thing"] (defScope sIsRuleShape) := ⟨rfl, rfl, rfl, by decide +kernel, rfl, by decide +kernel, by decide +kernel⟩
theorem scIsCauseShape : FnScope ["thing", "cause", "effect", "within"] ["thing"] (defScope sIsCauseShape) := ⟨rfl, rfl, rfl, by decide +kernel, rfl, by decide +kernel, by decide +kernel⟩
theorem scIsLockShape : FnScope ["thing", "point", "word", "limit"] ["thing"] (defScope sIsLockShape) := ⟨rfl, rfl, rfl, by decide +kernel, rfl, by decide +kernel, by decide +kernel⟩
theorem scIsCommandShape : FnScope ["thing", "name", "point", "worth", "locks"] ["thing"] (defScope sIsCommandShape) := ⟨rfl, rfl, rfl, by decide +kernel, rfl, by decide +kernel, by decide +kernel⟩
theorem scIsRelationShape : FnScope ["thing", "word", "first", "rest"] ["thing"] (defScope sIsRelationShape) := ⟨rfl, rfl, rfl, by decide +kernel, rfl, by decide +kernel, by decide +kernel⟩
theorem scPointsOfRelation : FnScope ["relation", "word", "first", "rest"] ["relation"] (defScope sPointsOfRelation) := ⟨rfl, rfl, rfl, by decide +kernel, rfl, by decide +kernel, by decide +kernel⟩
theorem scIsRow : FnScope ["thing", "time", "worth", "mark"] ["thing"] (defScope sIsRow) := ⟨rfl, rfl, rfl, by decide +kernel, rfl, by decide +kernel, by decide +kernel⟩
theorem scIsHistory : FnScope ["thing", "row"] ["thing"] (defScope sIsHistory) := ⟨rfl, rfl, rfl, by decide +kernel, rfl, by decide +kernel, by decide +kernel⟩
theorem scCheckHistory : FnScope ["thing"] ["thing"] (defScope sCheckHistory) := ⟨rfl, rfl, rfl, by decide +kernel, rfl, by decide +kernel, by decide +kernel⟩
theorem scHistoryOf : FnScope ["rows", "latest", "row", "time"] ["rows"] (defScope sHistoryOf) := ⟨rfl, rfl, rfl, by decide +kernel, rfl, by decide +kernel, by decide +kernel⟩
theorem scRowAt : FnScope ["history", "at", "row"] ["history", "at"] (defScope sRowAt) := ⟨rfl, rfl, rfl, by decide +kernel, rfl, by decide +kernel, by decide +kernel⟩
theorem scGoodRows : FnScope ["history", "row"] ["history"] (defScope sGoodRows) := ⟨rfl, rfl, rfl, by decide +kernel, rfl, by decide +kernel, by decide +kernel⟩
theorem scByName : FnScope ["rows", "row"] ["rows"] (defScope sByName) := ⟨rfl, rfl, rfl, by decide +kernel, rfl, by decide +kernel, by decide +kernel⟩
theorem scIsWorthOf : FnScope ["point", "thing"] ["point", "thing"] (defScope sIsWorthOf) := ⟨rfl, rfl, rfl, by decide +kernel, rfl, by decide +kernel, by decide +kernel⟩
theorem scCheckPoints : FnScope ["points", "many", "name", "_", "place"] ["points"] (defScope sCheckPoints) := ⟨rfl, rfl, rfl, by decide +kernel, rfl, by decide +kernel, by decide +kernel⟩
theorem scCheckEachOnce : FnScope ["names", "at", "name"] ["names"] (defScope sCheckEachOnce) := ⟨rfl, rfl, rfl, by decide +kernel, rfl, by decide +kernel, by decide +kernel⟩
theorem scCheckRules : FnScope ["rules", "points", "ahead", "rule", "name", "point"] ["rules", "points"] (defScope sCheckRules) := ⟨rfl, rfl, rfl, by decide +kernel, rfl, by decide +kernel, by decide +kernel⟩
theorem scCheckCauses : FnScope ["causes", "rules", "ahead", "cause", "effect", "_", "name"] ["causes", "rules"] (defScope sCheckCauses) := ⟨rfl, rfl, rfl, by decide +kernel, rfl, by decide +kernel, by decide +kernel⟩
theorem scLeadsToItself : FnScope ["name", "causes", "reached", "steps", "step", "cause", "effect", "_"] ["name", "causes"] (defScope sLeadsToItself) := ⟨rfl, rfl, rfl, by decide +kernel, rfl, by decide +kernel, by decide +kernel⟩
theorem scCheckCommands : FnScope ["commands", "points", "ahead", "name", "point", "worth", "locks"] ["commands", "points"] (defScope sCheckCommands) := ⟨rfl, rfl, rfl, by decide +kernel, rfl, by decide +kernel, by decide +kernel⟩
theorem scCheckLocks : FnScope ["locks", "place", "points", "point", "_"] ["locks", "place", "points"] (defScope sCheckLocks) := ⟨rfl, rfl, rfl, by decide +kernel, rfl, by decide +kernel, by decide +kernel⟩
theorem scCheckRelations : FnScope ["relations", "points", "relation", "names", "name"] ["relations", "points"] (defScope sCheckRelations) := ⟨rfl, rfl, rfl, by decide +kernel, rfl, by decide +kernel, by decide +kernel⟩
theorem scCheckWorks : FnScope ["thing"] ["thing"] (defScope sCheckWorks) := ⟨rfl, rfl, rfl, by decide +kernel, rfl, by decide +kernel, by decide +kernel⟩
theorem scCheckPoint : FnScope ["works", "thing"] ["works", "thing"] (defScope sCheckPoint) := ⟨rfl, rfl, rfl, by decide +kernel, rfl, by decide +kernel, by decide +kernel⟩
theorem scCheckPlace : FnScope ["works", "thing"] ["works", "thing"] (defScope sCheckPlace) := ⟨rfl, rfl, rfl, by decide +kernel, rfl, by decide +kernel, by decide +kernel⟩
theorem scIsSign : FnScope ["works", "thing", "time", "point", "worth", "mark"] ["works", "thing"] (defScope sIsSign) := ⟨rfl, rfl, rfl, by decide +kernel, rfl, by decide +kernel, by decide +kernel⟩
theorem scIsSigns : FnScope ["works", "thing", "_", "place", "number", "time", "rows", "times", "row"] ["works", "thing"] (defScope sIsSigns) := ⟨rfl, rfl, rfl, by decide +kernel, rfl, by decide +kernel, by decide +kernel⟩
theorem scIsSignAt : FnScope ["works", "place", "thing"] ["works", "place", "thing"] (defScope sIsSignAt) := ⟨rfl, rfl, rfl, by decide +kernel, rfl, by decide +kernel, by decide +kernel⟩
theorem scRowsIn : FnScope ["letter", "point", "time", "name", "worth", "mark"] ["letter", "point"] (defScope sRowsIn) := ⟨rfl, rfl, rfl, by decide +kernel, rfl, by decide +kernel, by decide +kernel⟩
theorem scCheckSigns : FnScope ["works", "letter"] ["works", "letter"] (defScope sCheckSigns) := ⟨rfl, rfl, rfl, by decide +kernel, rfl, by decide +kernel, by decide +kernel⟩
theorem scFine : FnScope ["history", "since", "till", "odd"] ["history", "since", "till", "odd"] (defScope sFine) := ⟨rfl, rfl, rfl, by decide +kernel, rfl, by decide +kernel, by decide +kernel⟩
theorem scCoarse : FnScope ["history", "size", "since", "till", "odd"] ["history", "size", "since", "till", "odd"] (defScope sCoarse) := ⟨rfl, rfl, rfl, by decide +kernel, rfl, by decide +kernel, by decide +kernel⟩
theorem scCheckSize : FnScope ["size"] ["size"] (defScope sCheckSize) := ⟨rfl, rfl, rfl, by decide +kernel, rfl, by decide +kernel, by decide +kernel⟩
theorem scCheckWindow : FnScope ["since", "till", "odd", "many"] ["since", "till", "odd"] (defScope sCheckWindow) := ⟨rfl, rfl, rfl, by decide +kernel, rfl, by decide +kernel, by decide +kernel⟩
theorem scFineRows : FnScope ["history", "since", "till", "odd", "signs", "rows", "worth", "heard", "tick"] ["history", "since", "till", "odd"] (defScope sFineRows) := ⟨rfl, rfl, rfl, by decide +kernel, rfl, by decide +kernel, by decide +kernel⟩
theorem scCoarseRows : FnScope ["rows", "size", "stretches", "tick", "worth", "start", "worths"] ["rows", "size"] (defScope sCoarseRows) := ⟨rfl, rfl, rfl, by decide +kernel, rfl, by decide +kernel, by decide +kernel⟩
theorem scFit : FnScope ["one", "other", "ahead", "behind", "row"] ["one", "other"] (defScope sFit) := ⟨rfl, rfl, rfl, by decide +kernel, rfl, by decide +kernel, by decide +kernel⟩
theorem scLawCell : FnScope ["_law_script", "_law_k"] ["_law_script", "_law_k"] (defScope sLawCell) := ⟨rfl, rfl, rfl, by decide +kernel, rfl, by decide +kernel, by decide +kernel⟩
theorem scLawBox : FnScope ["_law_cell_here"] ["_law_cell_here"] (defScope sLawBox) := ⟨rfl, rfl, rfl, by decide +kernel, rfl, by decide +kernel, by decide +kernel⟩
theorem scLawTake : FnScope ["_law_box_here", "_law_many", "_law_digit", "_law_turn"] ["_law_box_here", "_law_many"] (defScope sLawTake) := ⟨rfl, rfl, rfl, by decide +kernel, rfl, by decide +kernel, by decide +kernel⟩
theorem scLawNames : FnScope ["_law_box_here", "_law_many", "_law_letters_here", "_law_names_here", "_law_k", "_law_stem", "_law_word", "_law_turn", "_law_letter"] ["_law_box_here", "_law_many"] (defScope sLawNames) := ⟨rfl, rfl, rfl, by decide +kernel, rfl, by decide +kernel, by decide +kernel⟩
theorem scLawPoints : FnScope ["_law_box_here", "_law_names_here", "_law_some", "_law_kinds", "_law_points_here", "_law_name"] ["_law_box_here", "_law_names_here"] (defScope sLawPoints) := ⟨rfl, rfl, rfl, by decide +kernel, rfl, by decide +kernel, by decide +kernel⟩
theorem scLawCommands : FnScope ["_law_box_here", "_law_points_here", "_law_names_here", "_law_found", "_law_name"] ["_law_box_here", "_law_points_here", "_law_names_here"] (defScope sLawCommands) := ⟨rfl, rfl, rfl, by decide +kernel, rfl, by decide +kernel, by decide +kernel⟩
theorem scLawRows : FnScope ["_law_box_here", "_law_points_here", "_law_place", "_law_many", "_law_time", "_law_mine", "_law_rows_here", "_law_k", "_law_name", "_law_at", "_law_kind", "_law_worth", "_law_point"] ["_law_box_here", "_law_points_here", "_law_place", "_law_many", "_law_time"] (defScope sLawRows) := ⟨rfl, rfl, rfl, by decide +kernel, rfl, by decide +kernel, by decide +kernel⟩
theorem scLawLetters : FnScope ["_law_box_here", "_law_points_here", "_law_found", "_law_last", "_law_k", "_law_place", "_law_number", "_law_time", "_law_rows_here"] ["_law_box_here", "_law_points_here"] (defScope sLawLetters) := ⟨rfl, rfl, rfl, by decide +kernel, rfl, by decide +kernel, by decide +kernel⟩
theorem scLawPointRight : FnScope ["_law_hearing", "_law_trend", "_law_point", "_law_made", "_law_size", "_law_since", "_law_till", "_law_past", "_law_known", "_law_tick"] ["_law_hearing", "_law_trend", "_law_point", "_law_made"] (defScope sLawPointRight) := ⟨rfl, rfl, rfl, by decide +kernel, rfl, by decide +kernel, by decide +kernel⟩
theorem scLaw : FnScope ["_law_script", "_law_k", "_law_box_here", "_law_points_here", "_law_works", "_law_letters_here", "_law_since", "_law_least", "_law_many", "_law_ticks", "_law_made", "_law_hearing", "_law_trends", "_law_turn", "_law_order", "_law_letter", "_law_name", "_law_trend", "_law_place", "_law_kind"] ["_law_script"] (defScope sLaw) := ⟨rfl, rfl, rfl, by decide +kernel, rfl, by decide +kernel, by decide +kernel⟩
theorem scmPanelError_Init : FnScope ["self", "text"] ["self", "text"] (defScope mPanelError_Init) := ⟨rfl, rfl, rfl, by decide +kernel, rfl, by decide +kernel, by decide +kernel⟩
theorem scmAbsent_Init : FnScope ["self", "text"] ["self", "text"] (defScope mAbsent_Init) := ⟨rfl, rfl, rfl, by decide +kernel, rfl, by decide +kernel, by decide +kernel⟩
theorem scmTooMany_Init : FnScope ["self", "many"] ["self", "many"] (defScope mTooMany_Init) := ⟨rfl, rfl, rfl, by decide +kernel, rfl, by decide +kernel, by decide +kernel⟩
theorem scmNoTime_Init : FnScope ["self", "found"] ["self", "found"] (defScope mNoTime_Init) := ⟨rfl, rfl, rfl, by decide +kernel, rfl, by decide +kernel, by decide +kernel⟩
theorem scmNoWorth_Init : FnScope ["self", "found"] ["self", "found"] (defScope mNoWorth_Init) := ⟨rfl, rfl, rfl, by decide +kernel, rfl, by decide +kernel, by decide +kernel⟩
theorem scmNoNumber_Init : FnScope ["self", "found"] ["self", "found"] (defScope mNoNumber_Init) := ⟨rfl, rfl, rfl, by decide +kernel, rfl, by decide +kernel, by decide +kernel⟩
theorem scmNoTruth_Init : FnScope ["self", "found"] ["self", "found"] (defScope mNoTruth_Init) := ⟨rfl, rfl, rfl, by decide +kernel, rfl, by decide +kernel, by decide +kernel⟩
theorem scmNoPoints_Init : FnScope ["self", "found"] ["self", "found"] (defScope mNoPoints_Init) := ⟨rfl, rfl, rfl, by decide +kernel, rfl, by decide +kernel, by decide +kernel⟩
theorem scmNoRules_Init : FnScope ["self", "found"] ["self", "found"] (defScope mNoRules_Init) := ⟨rfl, rfl, rfl, by decide +kernel, rfl, by decide +kernel, by decide +kernel⟩
theorem scmNoCauses_Init : FnScope ["self", "found"] ["self", "found"] (defScope mNoCauses_Init) := ⟨rfl, rfl, rfl, by decide +kernel, rfl, by decide +kernel, by decide +kernel⟩
theorem scmNoCommands_Init : FnScope ["self", "found"] ["self", "found"] (defScope mNoCommands_Init) := ⟨rfl, rfl, rfl, by decide +kernel, rfl, by decide +kernel, by decide +kernel⟩
theorem scmNoRelations_Init : FnScope ["self", "found"] ["self", "found"] (defScope mNoRelations_Init) := ⟨rfl, rfl, rfl, by decide +kernel, rfl, by decide +kernel, by decide +kernel⟩
theorem scmNoWorks_Init : FnScope ["self", "found"] ["self", "found"] (defScope mNoWorks_Init) := ⟨rfl, rfl, rfl, by decide +kernel, rfl, by decide +kernel, by decide +kernel⟩
theorem scmNoLetter_Init : FnScope ["self", "found"] ["self", "found"] (defScope mNoLetter_Init) := ⟨rfl, rfl, rfl, by decide +kernel, rfl, by decide +kernel, by decide +kernel⟩
theorem scmNoHistory_Init : FnScope ["self", "found"] ["self", "found"] (defScope mNoHistory_Init) := ⟨rfl, rfl, rfl, by decide +kernel, rfl, by decide +kernel, by decide +kernel⟩
theorem scmUnlike_Init : FnScope ["self", "found"] ["self", "found"] (defScope mUnlike_Init) := ⟨rfl, rfl, rfl, by decide +kernel, rfl, by decide +kernel, by decide +kernel⟩
theorem scmTwice_Init : FnScope ["self", "found"] ["self", "found"] (defScope mTwice_Init) := ⟨rfl, rfl, rfl, by decide +kernel, rfl, by decide +kernel, by decide +kernel⟩
theorem scmRing_Init : FnScope ["self", "found"] ["self", "found"] (defScope mRing_Init) := ⟨rfl, rfl, rfl, by decide +kernel, rfl, by decide +kernel, by decide +kernel⟩
theorem scmNoPoint_Init : FnScope ["self", "found"] ["self", "found"] (defScope mNoPoint_Init) := ⟨rfl, rfl, rfl, by decide +kernel, rfl, by decide +kernel, by decide +kernel⟩
theorem scmNoPlace_Init : FnScope ["self", "found"] ["self", "found"] (defScope mNoPlace_Init) := ⟨rfl, rfl, rfl, by decide +kernel, rfl, by decide +kernel, by decide +kernel⟩
theorem scmNoRule_Init : FnScope ["self", "found"] ["self", "found"] (defScope mNoRule_Init) := ⟨rfl, rfl, rfl, by decide +kernel, rfl, by decide +kernel, by decide +kernel⟩
theorem scmWorks_Init : FnScope ["self", "points", "rules", "causes", "commands", "relations"] ["self", "points", "rules", "causes", "commands", "relations"] (defScope mWorks_Init) := ⟨rfl, rfl, rfl, by decide +kernel, rfl, by decide +kernel, by decide +kernel⟩
theorem scmWorks_Eq : FnScope ["self", "other"] ["self", "other"] (defScope mWorks_Eq) := ⟨rfl, rfl, rfl, by decide +kernel, rfl, by decide +kernel, by decide +kernel⟩
theorem scmWorks_Points : FnScope ["self"] ["self"] (defScope mWorks_Points) := ⟨rfl, rfl, rfl, by decide +kernel, rfl, by decide +kernel, by decide +kernel⟩
theorem scmWorks_Rules : FnScope ["self"] ["self"] (defScope mWorks_Rules) := ⟨rfl, rfl, rfl, by decide +kernel, rfl, by decide +kernel, by decide +kernel⟩
theorem scmWorks_Causes : FnScope ["self"] ["self"] (defScope mWorks_Causes) := ⟨rfl, rfl, rfl, by decide +kernel, rfl, by decide +kernel, by decide +kernel⟩
theorem scmWorks_Commands : FnScope ["self"] ["self"] (defScope mWorks_Commands) := ⟨rfl, rfl, rfl, by decide +kernel, rfl, by decide +kernel, by decide +kernel⟩
theorem scmWorks_Relations : FnScope ["self"] ["self"] (defScope mWorks_Relations) := ⟨rfl, rfl, rfl, by decide +kernel, rfl, by decide +kernel, by decide +kernel⟩
theorem scmWorks_Places : FnScope ["self", "_", "place"] ["self"] (defScope mWorks_Places) := ⟨rfl, rfl, rfl, by decide +kernel, rfl, by decide +kernel, by decide +kernel⟩
theorem scmWorks_Point : FnScope ["self", "name"] ["self", "name"] (defScope mWorks_Point) := ⟨rfl, rfl, rfl, by decide +kernel, rfl, by decide +kernel, by decide +kernel⟩
theorem scmWorks_Rule : FnScope ["self", "name"] ["self", "name"] (defScope mWorks_Rule) := ⟨rfl, rfl, rfl, by decide +kernel, rfl, by decide +kernel, by decide +kernel⟩
theorem scmWorks_Command : FnScope ["self", "name"] ["self", "name"] (defScope mWorks_Command) := ⟨rfl, rfl, rfl, by decide +kernel, rfl, by decide +kernel, by decide +kernel⟩
theorem scmWorks_PointsAt : FnScope ["self", "place", "name", "where", "_"] ["self", "place"] (defScope mWorks_PointsAt) := ⟨rfl, rfl, rfl, by decide +kernel, rfl, by decide +kernel, by decide +kernel⟩
theorem scmWorks_IsWorth : FnScope ["self", "point", "thing"] ["self", "point", "thing"] (defScope mWorks_IsWorth) := ⟨rfl, rfl, rfl, by decide +kernel, rfl, by decide +kernel, by decide +kernel⟩
theorem scmWorks_HasPoint : FnScope ["self", "thing"] ["self", "thing"] (defScope mWorks_HasPoint) := ⟨rfl, rfl, rfl, by decide +kernel, rfl, by decide +kernel, by decide +kernel⟩
theorem scmWorks_HasPlace : FnScope ["self", "thing"] ["self", "thing"] (defScope mWorks_HasPlace) := ⟨rfl, rfl, rfl, by decide +kernel, rfl, by decide +kernel, by decide +kernel⟩
theorem scmWorks_HasRule : FnScope ["self", "thing"] ["self", "thing"] (defScope mWorks_HasRule) := ⟨rfl, rfl, rfl, by decide +kernel, rfl, by decide +kernel, by decide +kernel⟩
theorem scmWorks_HasCommand : FnScope ["self", "thing"] ["self", "thing"] (defScope mWorks_HasCommand) := ⟨rfl, rfl, rfl, by decide +kernel, rfl, by decide +kernel, by decide +kernel⟩
theorem scmWorks_CausesOf : FnScope ["self", "rule"] ["self", "rule"] (defScope mWorks_CausesOf) := ⟨rfl, rfl, rfl, by decide +kernel, rfl, by decide +kernel, by decide +kernel⟩
theorem scmTrend_Init : FnScope ["self", "works", "point", "size", "since", "till", "odd"] ["self", "works", "point", "size", "since", "till", "odd"] (defScope mTrend_Init) := ⟨rfl, rfl, rfl, by decide +kernel, rfl, by decide +kernel, by decide +kernel⟩
theorem scmTrend_Eq : FnScope ["self", "other"] ["self", "other"] (defScope mTrend_Eq) := ⟨rfl, rfl, rfl, by decide +kernel, rfl, by decide +kernel, by decide +kernel⟩
theorem scmTrend_Hear : FnScope ["self", "letter", "_", "place", "number", "ahead"] ["self", "letter"] (defScope mTrend_Hear) := ⟨rfl, rfl, rfl, by decide +kernel, rfl, by decide +kernel, by decide +kernel⟩
theorem scmTrend_Rows : FnScope ["self"] ["self"] (defScope mTrend_Rows) := ⟨rfl, rfl, rfl, by decide +kernel, rfl, by decide +kernel, by decide +kernel⟩
theorem scmTrend_Fine : FnScope ["self", "signs", "number"] ["self"] (defScope mTrend_Fine) := ⟨rfl, rfl, rfl, by decide +kernel, rfl, by decide +kernel, by decide +kernel⟩
theorem scmTrend_Heard : FnScope ["self"] ["self"] (defScope mTrend_Heard) := ⟨rfl, rfl, rfl, by decide +kernel, rfl, by decide +kernel, by decide +kernel⟩
theorem scmTrend_Copied : FnScope ["self"] ["self"] (defScope mTrend_Copied) := ⟨rfl, rfl, rfl, by decide +kernel, rfl, by decide +kernel, by decide +kernel⟩
theorem scmHearing_Init : FnScope ["self", "works"] ["self", "works"] (defScope mHearing_Init) := ⟨rfl, rfl, rfl, by decide +kernel, rfl, by decide +kernel, by decide +kernel⟩
theorem scmHearing_Eq : FnScope ["self", "other"] ["self", "other"] (defScope mHearing_Eq) := ⟨rfl, rfl, rfl, by decide +kernel, rfl, by decide +kernel, by decide +kernel⟩
theorem scmHearing_Len : FnScope ["self"] ["self"] (defScope mHearing_Len) := ⟨rfl, rfl, rfl, by decide +kernel, rfl, by decide +kernel, by decide +kernel⟩
theorem scmHearing_Works : FnScope ["self"] ["self"] (defScope mHearing_Works) := ⟨rfl, rfl, rfl, by decide +kernel, rfl, by decide +kernel, by decide +kernel⟩
theorem scmHearing_Hear : FnScope ["self", "letter", "key", "other"] ["self", "letter"] (defScope mHearing_Hear) := ⟨rfl, rfl, rfl, by decide +kernel, rfl, by decide +kernel, by decide +kernel⟩
theorem scmHearing_Known : FnScope ["self", "place", "time", "number"] ["self", "place"] (defScope mHearing_Known) := ⟨rfl, rfl, rfl, by decide +kernel, rfl, by decide +kernel, by decide +kernel⟩
theorem scmHearing_Lacking : FnScope ["self", "place"] ["self", "place"] (defScope mHearing_Lacking) := ⟨rfl, rfl, rfl, by decide +kernel, rfl, by decide +kernel, by decide +kernel⟩
theorem scmHearing_History : FnScope ["self", "point", "rows", "letter"] ["self", "point"] (defScope mHearing_History) := ⟨rfl, rfl, rfl, by decide +kernel, rfl, by decide +kernel, by decide +kernel⟩
theorem scmHearing_Hand : FnScope ["self", "point", "worth", "since", "end"] ["self", "point", "worth", "since", "end"] (defScope mHearing_Hand) := ⟨rfl, rfl, rfl, by decide +kernel, rfl, by decide +kernel, by decide +kernel⟩
theorem scmHearing_Unhand : FnScope ["self", "point", "at"] ["self", "point", "at"] (defScope mHearing_Unhand) := ⟨rfl, rfl, rfl, by decide +kernel, rfl, by decide +kernel, by decide +kernel⟩
theorem scmHearing_Hands : FnScope ["self"] ["self"] (defScope mHearing_Hands) := ⟨rfl, rfl, rfl, by decide +kernel, rfl, by decide +kernel, by decide +kernel⟩
theorem scmHearing_Show : FnScope ["self", "point", "at", "index", "_", "worth", "since", "state", "row", "time", "mark"] ["self", "point", "at"] (defScope mHearing_Show) := ⟨rfl, rfl, rfl, by decide +kernel, rfl, by decide +kernel, by decide +kernel⟩
theorem scmHearing_Picture : FnScope ["self", "at"] ["self", "at"] (defScope mHearing_Picture) := ⟨rfl, rfl, rfl, by decide +kernel, rfl, by decide +kernel, by decide +kernel⟩
theorem scmHearing_Letters : FnScope ["self", "key"] ["self"] (defScope mHearing_Letters) := ⟨rfl, rfl, rfl, by decide +kernel, rfl, by decide +kernel, by decide +kernel⟩
theorem scmHearing_Marks : FnScope ["self"] ["self"] (defScope mHearing_Marks) := ⟨rfl, rfl, rfl, by decide +kernel, rfl, by decide +kernel, by decide +kernel⟩
theorem scmHearing_Copied : FnScope ["self"] ["self"] (defScope mHearing_Copied) := ⟨rfl, rfl, rfl, by decide +kernel, rfl, by decide +kernel, by decide +kernel⟩
theorem scmHearing_LettersOf : FnScope ["self", "place", "key"] ["self", "place"] (defScope mHearing_LettersOf) := ⟨rfl, rfl, rfl, by decide +kernel, rfl, by decide +kernel, by decide +kernel⟩
theorem scmHearing_IndexOfHand : FnScope ["self", "point", "at", "index", "name", "_", "since", "end"] ["self", "point", "at"] (defScope mHearing_IndexOfHand) := ⟨rfl, rfl, rfl, by decide +kernel, rfl, by decide +kernel, by decide +kernel⟩
theorem scmHearing_State : FnScope ["self", "place", "at", "known"] ["self", "place", "at"] (defScope mHearing_State) := ⟨rfl, rfl, rfl, by decide +kernel, rfl, by decide +kernel, by decide +kernel⟩
/-- the built-in names that the text calls, and its constants -/
structure Txt (mg : Str → Option Value) : Prop where
  KeyError : mg "KeyError" = none
  ValueError : mg "ValueError" = none
  all : mg "all" = none
  bool : mg "bool" = none
  dict : mg "dict" = none
  enumerate : mg "enumerate" = none
  int : mg "int" = none
  isinstance : mg "isinstance" = none
  len : mg "len" = none
  list : mg "list" = none
  max : mg "max" = none
  min : mg "min" = none
  range : mg "range" = none
  reversed : mg "reversed" = none
  sorted : mg "sorted" = none
  str : mg "str" = none
  sum : mg "sum" = none
  tuple : mg "tuple" = none
  zip : mg "zip" = none
  cMOST_TIME : ∃ t, mg "MOST_TIME" = some (.int 9999 t)
  cMOST_LEVEL : ∃ t, mg "MOST_LEVEL" = some (.int 63 t)
  c_MOST_NAME : ∃ t, mg "_MOST_NAME" = some (.int 8 t)
  c_MOST_LOCKS : ∃ t, mg "_MOST_LOCKS" = some (.int 4 t)
  c_MOST_PARTS : ∃ t, mg "_MOST_PARTS" = some (.int 3 t)
  c_MOST_HOLD : ∃ t, mg "_MOST_HOLD" = some (.int 99 t)
  c_MOST_RANK : ∃ t, mg "_MOST_RANK" = some (.int 3 t)
  c_MOST_WITHIN : ∃ t, mg "_MOST_WITHIN" = some (.int 999 t)
  c_MOST_PLACES : ∃ t, mg "_MOST_PLACES" = some (.int 3 t)
  c_MOST_POINTS : ∃ t, mg "_MOST_POINTS" = some (.int 8 t)
  c_MOST_RULES : ∃ t, mg "_MOST_RULES" = some (.int 6 t)
  c_MOST_CAUSES : ∃ t, mg "_MOST_CAUSES" = some (.int 8 t)
  c_MOST_COMMANDS : ∃ t, mg "_MOST_COMMANDS" = some (.int 4 t)
  c_MOST_RELATIONS : ∃ t, mg "_MOST_RELATIONS" = some (.int 5 t)
  c_MOST_LETTERS : ∃ t, mg "_MOST_LETTERS" = some (.int 40 t)
  c_MOST_SIGNS : ∃ t, mg "_MOST_SIGNS" = some (.int 12 t)
  c_MOST_TICKS : ∃ t, mg "_MOST_TICKS" = some (.int 1000 t)
  c_MOST_SIZE : ∃ t, mg "_MOST_SIZE" = some (.int 400 t)
end V45

namespace V45
open PySem PySem.Spec PyProof.Rows L2 Pw
/-! ### what is told of a thing -/
def wholeB (x : V) (lo hi : Int) : Bool := match x with
  | .int i => decide (lo ≤ i) && decide (i ≤ hi)
  | _ => false
def oneB (x : V) (ws : List Str) : Bool := match x with
  | .str s => ws.any fun y => y == s
  | _ => false
/-- is it a tuple of so many things -/
def tupNB (H : Hp) (x : V) (n : Int) : Bool := match x with
  | .ref a => match H a with
    | some (.tup xs) => decide ((xs.length : Int) = n)
    | _ => false
  | _ => false
def nameB (x : V) : Bool := match x with
  | .str s => decide (1 ≤ s.length ∧ s.length ≤ 8) && s.cps.toList.all fun c => decide (97 ≤ c ∧ c ≤ 122)
  | _ => false
/-- texts are short, and of plain signs -/
def Short (x : V) : Prop := ∀ s, x = .str s → s.length ≤ 1000 ∧ ∀ c ∈ s.cps.toList, c < 128

theorem let_lt (c k : Nat) : (!decide ([c] < [k])) = decide (k ≤ c) := by
  by_cases h : k ≤ c
  · have n : ¬ [c] < [k] := by
      intro q
      cases q with
      | rel q => omega
      | cons q => cases q
    rw [decide_eq_true h, decide_eq_false n]
    rfl
  · have y : [c] < [k] := List.Lex.rel (by omega)
    rw [decide_eq_false h, decide_eq_true y]
    rfl

section
variable {P : Program} {w : World} {K : PySem.W.Frag} {mg : Str → Option Value} {base : Heap}
/-- isinstance(slot i, T) -/
theorem pe_is {X : Cx} {i : Nat} {x T : Str} {Tn : String} {p p1 p2 p3 : Pos} (hm : X.mg "isinstance" = none) (hg : Gl X "isinstance")
    (hx : PE X (.Name x p2) (tVar i)) (hT : X.mg T = none) (hgT : Gl X T) (hv : bootBuiltins T = some (.type Tn))
    (hn : T ≠ "__name__" := by decide) (hd : (T == ("__debug__" : Str)) = false := by decide)
    (he : starEach [.Name x p2, .Name T p3] X.env = (false, eval (.Name x p2) X.env) :: starEach [.Name T p3] X.env := by rfl)
    (he2 : starEach [.Name T p3] X.env = (false, eval (.Name T p3) X.env) :: starEach [] X.env := by rfl)
    (hpl : (backTo p (starEach [.Name T p3] X.env)).any (·.1) = false := by rfl) :
    PE X (.Call (.Name "isinstance" p1) [.Name x p2, .Name T p3] [] p)
      (tCB (rIsA X.K) (tCons (tVar i) (tCons (tC (.ty Tn)) tNil))) :=
  pe_callB call_isa hg hm PyProof.Rows.boot_isinstance
    (pa_cons hx (pa_cons (pe_bltn hgT hT hv rfl hn hd) pa_nil he2) he) (by decide) (by decide) he hpl

def spNumber (K : PySem.W.Frag) : Sp := fun vs H Q _ => ∃ x t, vs = [x] ∧ Ty K H x t ∧ Q (.bl (numB x)) H
theorem d_number (T : Txt mg) (A : At K mg "_is_number" sIsNumber) :
    Def P w K mg base "_is_number" 1 ["thing"] (spNumber K) := by
  refine mkDef A scIsNumber (fun _ _ _ _ _ _ us hl => match us, hl with | [_], _ => rfl) (fun vs H Q E h => ?_)
    (fun f cdv A out s H vs Q E hr h => ?_)
  · obtain ⟨x, t, rfl, _⟩ := h
    rfl
  · obtain ⟨x, t, rfl, ty, k⟩ := h
    refine ⟨_, pss_one (ps_ret (pe_and (pe_is T.isinstance (by rfl) (pv 0) T.int (by rfl) (Tn := "int") (by decide +kernel))
      (pe_one (pe_not (pe_is T.isinstance (by rfl) (pv 0) T.bool (by rfl) (Tn := "bool") (by decide +kernel)))))), ?_⟩
    refine ⟨_, rfl, x, .ty "int", t, .type "int", _, rfl, .ty "int", ty.q, ty.isInt, _, rfl, ?_⟩
    have e : numB x = ((numB x || blB x) && !blB x) := by cases x <;> rfl
    cases hb : numB x || blB x with
    | false =>
      refine iteF ?_
      rw [hb] at e
      rw [e] at k
      exact k
    | true =>
      refine iteT ?_
      refine ⟨_, rfl, x, .ty "bool", t, .type "bool", _, rfl, .ty "bool", ty.q, ty.isBool, _, rfl, ?_⟩
      rw [hb, Bool.true_and] at e
      rw [e] at k
      exact k

def spCheck (K : PySem.W.Frag) : Sp := fun vs H Q _ => ∃ i, vs = [.int i] ∧ Q .non H
theorem d_check (A : At K mg "_check_number" sCheckNumber) (dn : Def P w K mg base "_is_number" 1 ["thing"] (spNumber K)) :
    Def P w K mg base "_check_number" 2 ["thing"] (spCheck K) := by
  refine mkDef A scCheckNumber (fun _ _ _ _ _ _ us hl => match us, hl with | [_], _ => rfl) (fun vs H Q E h => ?_)
    (fun f cdv A out s H vs Q E hr h => ?_)
  · obtain ⟨x, rfl, _⟩ := h
    rfl
  · obtain ⟨i, rfl, k⟩ := h
    refine ⟨_, pss_one (ps_if (pt_not (pt_val (pe_d dn hr (by decide) (by rfl) (pa_cons (pv 0) pa_nil))))
      (pss_one ps_never) pss_nil), ?_⟩
    refine ⟨_, rfl, _, _, rfl, .int i, true, rfl, ?_⟩
    exact iteF k

def spWhole (K : PySem.W.Frag) : Sp := fun vs H Q _ => ∃ x t lo hi, vs = [x, .int lo, .int hi] ∧ Ty K H x t ∧
  Q (.bl (wholeB x lo hi)) H
theorem d_whole (A : At K mg "is_whole" sIsWhole) (dn : Def P w K mg base "_is_number" 1 ["thing"] (spNumber K))
    (dc : Def P w K mg base "_check_number" 2 ["thing"] (spCheck K)) :
    Def P w K mg base "is_whole" 3 ["thing", "low", "high"] (spWhole K) := by
  refine mkDef A scIsWhole (fun _ _ _ _ _ _ us hl => match us, hl with | [_, _, _], _ => rfl) (fun vs H Q E h => ?_)
    (fun f cdv A out s H vs Q E hr h => ?_)
  · obtain ⟨x, t, lo, hi, rfl, _⟩ := h
    rfl
  · obtain ⟨x, t, lo, hi, rfl, ty, k⟩ := h
    refine ⟨_, pss_cons (ps_expr (pe_d dc hr (by decide) (by rfl) (pa_cons (pv 1) pa_nil)))
      (pss_cons (ps_expr (pe_d dc hr (by decide) (by rfl) (pa_cons (pv 2) pa_nil)))
      (pss_one (ps_ret (pe_and (pe_d dn hr (by decide) (by rfl) (pa_cons (pv 0) pa_nil))
        (pe_one (pe_chain op_le op_le (pv 1) (pv 0) (pv 2))))))), ?_⟩
    refine ⟨_, rfl, lo, rfl, _, rfl, hi, rfl, _, rfl, x, t, rfl, ty, _, rfl, ?_⟩
    cases x with
    | int i =>
      refine iteT ⟨_, rfl, _, rfl, lo, i, rfl, rfl, _, rfl, ?_⟩
      by_cases hlo : lo ≤ i
      · rw [decide_eq_true hlo]
        refine iteT ⟨_, rfl, i, hi, rfl, rfl, ?_⟩
        have e : wholeB (.int i) lo hi = decide (i ≤ hi) := by
          show (decide (lo ≤ i) && decide (i ≤ hi)) = _
          rw [decide_eq_true hlo, Bool.true_and]
        rw [e] at k
        exact k
      · rw [decide_eq_false hlo]
        refine iteF ?_
        have e : wholeB (.int i) lo hi = false := by
          show (decide (lo ≤ i) && decide (i ≤ hi)) = _
          rw [decide_eq_false hlo, Bool.false_and]
        rw [e] at k
        exact k
    | _ => exact iteF k
def spRange (K : PySem.W.Frag) (lo hi : Int) : Sp := fun vs H Q _ => ∃ x t, vs = [x] ∧ Ty K H x t ∧ Q (.bl (wholeB x lo hi)) H
theorem d_time (T : Txt mg) (A : At K mg "is_time" sIsTime) (dw : Def P w K mg base "is_whole" 3 ["thing", "low", "high"] (spWhole K)) :
    Def P w K mg base "is_time" 4 ["thing"] (spRange K 0 9999) := by
  refine mkDef A scIsTime (fun _ _ _ _ _ _ us hl => match us, hl with | [_], _ => rfl) (fun vs H Q E ⟨x, t, e, _⟩ => by rw [e]; rfl)
    (fun f cdv A out s H vs Q E hr h => ?_)
  obtain ⟨x, t, rfl, ty, k⟩ := h
  exact ⟨_, pss_one (ps_ret (pe_d dw hr (by decide) (by rfl) (pa_cons (pv 0) (pa_cons pe_int
    (pa_cons (pe_gi T.cMOST_TIME) pa_nil))))), _, rfl, x, t, 0, 9999, rfl, ty, k⟩
def spOne (K : PySem.W.Frag) : Sp := fun vs H Q _ => ∃ x t p ws, vs = [x, .ref p] ∧ Ty K H x t ∧
  H p = some (.tup (ws.map V.str)) ∧ Q (.bl (oneB x ws)) H
theorem d_oneof (T : Txt mg) (A : At K mg "is_one_of" sIsOneOf) : Def P w K mg base "is_one_of" 1 ["thing", "words"] (spOne K) := by
  refine mkDef A scIsOneOf (fun _ _ _ _ _ _ us hl => match us, hl with | [_, _], _ => rfl) (fun vs H Q E ⟨x, t, p, ws, e, _⟩ => by rw [e]; rfl)
    (fun f cdv A out s H vs Q E hr h => ?_)
  obtain ⟨x, t, p, ws, rfl, ty, hp, k⟩ := h
  refine ⟨_, pss_one (ps_ret (pe_and (pe_is T.isinstance (by rfl) (pv 0) T.str (by rfl) (Tn := "str") (by decide +kernel))
    (pe_one (pe_cmpR op_in_seq (pv 0) (pv 1) (by rfl))))), ?_⟩
  refine ⟨_, rfl, x, .ty "str", t, .type "str", _, rfl, .ty "str", ty.q, ty.isStr, _, rfl, ?_⟩
  cases x with
  | str z =>
    refine iteT ?_
    refine ⟨_, rfl, _, rfl, p, ws.map V.str, rfl, .inr (SqT.of hp), rfl, ?_, ?_⟩
    · rw [List.all_eq_true]
      intro y hy
      obtain ⟨z', _, rfl⟩ := List.mem_map.mp hy
      rfl
    · have e : inV (.str z) (ws.map V.str) = oneB (.str z) ws := by
        show (ws.map V.str).any (fun y => eqV y (.str z)) = ws.any fun y => y == z
        rw [List.any_map]
        rfl
      show Q (.bl (inV (.str z) (ws.map V.str))) H
      rw [e]
      exact k
  | _ => exact iteF k

def spMark (K : PySem.W.Frag) : Sp := fun vs H Q _ => ∃ x t, vs = [x] ∧ Ty K H x t ∧ ∀ H', Same H H' → Q (.bl (oneB x ["good", "odd"])) H'
theorem d_mark (A : At K mg "is_mark" sIsMark) (d1 : Def P w K mg base "is_one_of" 1 ["thing", "words"] (spOne K)) :
    Def P w K mg base "is_mark" 2 ["thing"] (spMark K) := by
  refine mkDef A scIsMark (fun _ _ _ _ _ _ us hl => match us, hl with | [_], _ => rfl) (fun vs H Q E ⟨x, t, e, _⟩ => by rw [e]; rfl)
    (fun f cdv A out s H vs Q E hr h => ?_)
  obtain ⟨x, t, rfl, ty, k⟩ := h
  refine ⟨_, pss_one (ps_ret (pe_d d1 hr (by decide) (by rfl) (pa_cons (pv 0) (pa_cons (pe_tup (pa_cons pe_str (pa_cons pe_str pa_nil))) pa_nil)))), ?_⟩
  refine ⟨_, rfl, by show 2 ≤ sizeLine; decide, fun q hq => ?_⟩
  exact ⟨x, t, q, ["good", "odd"], rfl, ty.same (Same.laid hq), upd_same, k _ (Same.laid hq)⟩

def spTupN (K : PySem.W.Frag) : Sp := fun vs H Q _ => ∃ x t n, vs = [x, .int n] ∧ Ty K H x t ∧ Q (.bl (tupNB H x n)) H
theorem d_tuple (T : Txt mg) (A : At K mg "is_tuple" sIsTuple) : Def P w K mg base "is_tuple" 1 ["thing", "many"] (spTupN K) := by
  refine mkDef A scIsTuple (fun _ _ _ _ _ _ us hl => match us, hl with | [_, _], _ => rfl) (fun vs H Q E ⟨x, t, n, e, _⟩ => by rw [e]; rfl)
    (fun f cdv A out s H vs Q E hr h => ?_)
  obtain ⟨x, t, n, rfl, ty, k⟩ := h
  refine ⟨_, pss_one (ps_ret (pe_and (pe_is T.isinstance (by rfl) (pv 0) T.tuple (by rfl) (Tn := "tuple") (by decide +kernel))
    (pe_one (pe_cmpR op_eq (pe_callB call_len_seq (by rfl) T.len PySem.boot_len (pa_cons (pv 0) pa_nil)) (pv 1) (nomark _))))), ?_⟩
  refine ⟨_, rfl, x, .ty "tuple", t, .type "tuple", _, rfl, .ty "tuple", ty.q, ty.isTuple, _, rfl, ?_⟩
  cases ty with
  | @tup a xs e =>
    have e1 : tupB H (.ref a) = true := by simp only [tupB, e]
    have e2 : tupNB H (.ref a) n = decide ((xs.length : Int) = n) := by simp only [tupNB, e]
    rw [e1]
    rw [e2] at k
    refine iteT ?_
    refine ⟨_, rfl, a, xs, rfl, .inr (SqT.of e), _, rfl, ?_⟩
    have e3 : decide (V.int (xs.length : Int) = V.int n) = decide ((xs.length : Int) = n) :=
      decide_eq_decide.mpr ⟨V.int.inj, congrArg V.int⟩
    refine ⟨rfl, ?_⟩
    show Q (V.bl (decide (V.int (xs.length : Int) = V.int n))) H
    rw [e3]
    exact k
  | @lst a xs e =>
    have e1 : tupB H (.ref a) = false := by simp only [tupB, e]
    have e2 : tupNB H (.ref a) n = false := by simp only [tupNB, e]
    rw [e1]
    rw [e2] at k
    exact iteF k
  | @dct a xs e =>
    have e1 : tupB H (.ref a) = false := by simp only [tupB, e]
    have e2 : tupNB H (.ref a) n = false := by simp only [tupNB, e]
    rw [e1]
    rw [e2] at k
    exact iteF k
  | @exc a D t dx fs e ed c =>
    have e1 : tupB H (.ref a) = false := by simp only [tupB, e]; rfl
    have e2 : tupNB H (.ref a) n = false := by simp only [tupNB, e]; rfl
    rw [e1]
    rw [e2] at k
    exact iteF k
  | _ => exact iteF k

def spName (K : PySem.W.Frag) : Sp := fun vs H Q _ => ∃ x t, vs = [x] ∧ Ty K H x t ∧ Short x ∧
  ∀ H', Same H H' → Q (.bl (nameB x)) H'
def letB (c : Nat) : Bool := decide (97 ≤ c) && decide (c ≤ 122)
theorem d_name (T : Txt mg) (A : At K mg "is_name" sIsName) : Def P w K mg base "is_name" 1 ["thing"] (spName K) := by
  refine mkDef A scIsName (fun _ _ _ _ _ _ us hl => match us, hl with | [_], _ => rfl) (fun vs H Q E h => ?_)
    (fun f cdv A out s H vs Q E hr h => ?_)
  · obtain ⟨x, t, rfl, _⟩ := h
    rfl
  · obtain ⟨x, t, rfl, ty, sh, k⟩ := h
    obtain ⟨tk, hmn⟩ := T.c_MOST_NAME
    refine ⟨_, pss_cons (ps_if (PW.pt (pw_or (pt_not (pt_val (pe_is T.isinstance (by rfl) (pv 0) T.str (by rfl) (Tn := "str") (by decide +kernel))))
        (pw_or1 (pt_not (pt_chain op_le op_le pe_int (pe_callB call_len_str (by rfl) T.len PySem.boot_len (pa_cons (pv 0) pa_nil))
          (pe_glob (v := .int 8) (by rfl) hmn ⟨_, rfl⟩))))))
        (pss_one (ps_ret pe_bl)) pss_nil)
      (pss_one (ps_ret (pe_callB (cr_all rfl) (by rfl) T.all PyProof.Rows.boot_all (pa_cons
        (pe_lc (own := [("sign", 1)]) (g := gName 1) (tt := tYes) rfl scIsName.nd (pi_str (pv 0))
          (blkOk_by (own := [("sign", 1)]) (N := ["thing", "sign"]) (sc := defScope sIsName) (by decide +kernel))
          (fun _ _ _ _ _ => pg_name (i := 1) scIsName.nd rfl (Or.inl rfl)) (fun _ _ _ _ _ => pts_nil)
          (fun _ _ _ _ _ => pe_chain op_le_str op_le_str pe_str (pv 1) pe_str)) pa_nil)))), ?_⟩
    refine ⟨_, rfl, x, .ty "str", t, .type "str", _, rfl, .ty "str", ty.q, ty.isStr, _, rfl, ?_⟩
    cases x with
    | str z =>
      have hz := (sh z rfl).1
      have hzl : z.length ≤ sizeLine := Nat.le_trans hz (by decide)
      refine iteF ⟨_, rfl, z, rfl, hzl, 1, (z.length : Int), rfl, rfl, _, rfl, ?_⟩
      by_cases h1 : (1 : Int) ≤ (z.length : Int)
      · rw [decide_eq_true h1]
        refine iteT ⟨(z.length : Int), 8, rfl, rfl, _, rfl, ?_⟩
        by_cases h2 : (z.length : Int) ≤ 8
        · rw [decide_eq_true h2]
          refine iteF ⟨_, rfl, z, rfl, fun D hD => ?_⟩
          have nm : nameB (.str z) = ((z.cps.toList.map letB).all id) := by
            have e1 : decide (1 ≤ z.length ∧ z.length ≤ 8) = true := decide_eq_true ⟨by omega, by omega⟩
            show (decide (1 ≤ z.length ∧ z.length ≤ 8) && z.cps.toList.all fun c => decide (97 ≤ c ∧ c ≤ 122)) = _
            rw [e1, Bool.true_and, List.all_map]
            congr 1
            funext c
            show decide (97 ≤ c ∧ c ≤ 122) = (decide (97 ≤ c) && decide (c ≤ 122))
            exact Bool.decide_and _ _
          refine lc_it walk_str (fun i H' => Same H H' ∧ H' D = some (.lst (((z.cps.toList.take i).map letB).map V.bl)))
            ⟨Same.laid hD, upd_same⟩ (fun _ _ _ _ => trivial) ?_ ?_
          · rintro i v H1 H2 hi ⟨S1, e1⟩ ⟨rfl, c, hc, rfl⟩
            have hc' : z.cps.toList[i]? = some c := by rw [Array.getElem?_toList]; exact hc
            refine ⟨rfl, ?_⟩
            unfold tYes
            refine iteT ?_
            refine ⟨_, rfl, "a", ⟨#[c]⟩, rfl, rfl, !decide ([c] < [97]), rfl, ?_⟩
            have fin : ∀ b : Bool, b = letB c → ∃ acc, H2 D = some (.lst acc) ∧ acc.length < sizeLine ∧
                Same H (upd H2 D (.lst (acc ++ [V.bl b]))) ∧ upd H2 D (.lst (acc ++ [V.bl b])) D =
                  some (.lst (((z.cps.toList.take (i + 1)).map letB).map V.bl)) := by
              rintro b rfl
              refine ⟨_, e1, ?_, ?_, ?_⟩
              · have h4 : z.cps.size ≤ 1000 := hz
                simp only [List.length_map, List.length_take]
                exact Nat.lt_of_le_of_lt (Nat.min_le_left _ _) (Nat.lt_of_lt_of_le hi (Nat.le_trans h4 (by decide)))
              · exact fun b o e => (upd_ne (ne_of_none e hD)).trans (S1 b o e)
              · rw [upd_same, List.take_add_one, hc']
                simp
            rw [let_lt]
            by_cases ha : 97 ≤ c
            · rw [decide_eq_true ha]
              refine iteT ?_
              refine ⟨⟨#[c]⟩, "z", rfl, rfl, ?_⟩
              refine fin _ ?_
              show (!decide ([122] < [c])) = (decide (97 ≤ c) && decide (c ≤ 122))
              rw [decide_eq_true ha, Bool.true_and]
              have q := let_lt 122 c
              exact q
            · rw [decide_eq_false ha]
              refine iteF ?_
              refine fin false ?_
              show false = (decide (97 ≤ c) && decide (c ≤ 122))
              rw [decide_eq_false ha, Bool.false_and]
          · rintro H2 ⟨S1, e1⟩
            refine ⟨D, z.cps.toList.map letB, rfl, SqL.of ?_, ?_⟩
            · rw [e1, List.take_of_length_le (by simp)]
            · rw [← nm]
              exact k H2 S1
        · rw [decide_eq_false h2]
          refine iteT ?_
          have e1 : nameB (.str z) = false := by
            have e1 : decide (1 ≤ z.length ∧ z.length ≤ 8) = false := decide_eq_false (fun q => h2 (by omega))
            show (decide (1 ≤ z.length ∧ z.length ≤ 8) && _) = _
            rw [e1, Bool.false_and]
          rw [e1] at k
          exact k H (Same.refl H)
      · rw [decide_eq_false h1]
        refine iteF ⟨_, rfl, ?_⟩
        refine iteT ?_
        have e1 : nameB (.str z) = false := by
          have e1 : decide (1 ≤ z.length ∧ z.length ≤ 8) = false := decide_eq_false (fun q => h1 (by omega))
          show (decide (1 ≤ z.length ∧ z.length ≤ 8) && _) = _
          rw [e1, Bool.false_and]
        rw [e1] at k
        exact k H (Same.refl H)
    | _ => exact iteT (k H (Same.refl H))
end
end V45

namespace V45
open PySem PySem.Spec PyProof.Rows L2 Pw
abbrev R3 := Int × Int × Str
def f3 (r : R3) : List V := [.int r.1, .int r.2.1, .str r.2.2]
def f2 (r : Int × Int) : List V := [.int r.1, .int r.2]
structure GoodR (r : R3) : Prop where
  t0 : 0 ≤ r.1
  t1 : r.1 ≤ 9999
  w0 : 0 ≤ r.2.1
  w1 : r.2.1 ≤ 63
  m : r.2.2 = "good" ∨ r.2.2 = "odd"
structure GoodH (rs : List R3) : Prop where
  all : ∀ r ∈ rs, GoodR r
  rise : rs.Pairwise fun a b => a.1 < b.1
  len : rs.length ≤ 1000
theorem whole_in {i lo hi : Int} (h : lo ≤ i) (k : i ≤ hi) : wholeB (.int i) lo hi = true := by
  show (decide (lo ≤ i) && decide (i ≤ hi)) = true
  rw [decide_eq_true h, decide_eq_true k]
  rfl
theorem cut1 (xs : List V) : cutV xs (some 1) none = xs.drop 1 := by
  unfold cutV
  rw [HT.sIx_none, show (1 : Int) = ((1 : Nat) : Int) from rfl, HT.sIx_nat]
  cases xs with
  | nil => rfl
  | cons x r =>
    have e : min 1 (x :: r).length = 1 := by
      rw [List.length_cons]
      omega
    rw [e, List.take_of_length_le]
    rw [List.length_drop]
    exact Nat.le_refl _
theorem reps_all (n : Nat) : (List.replicate n true).all id = true := by
  rw [List.all_eq_true]
  intro x hx
  rw [List.eq_of_mem_replicate hx]
  rfl
theorem reps_succ (n : Nat) : (List.replicate n true).map V.bl ++ [V.bl true] = (List.replicate (n + 1) true).map V.bl := by
  rw [List.replicate_succ', List.map_append]
  rfl
section
variable {P : Program} {w : World} {K : PySem.W.Frag} {mg : Str → Option Value} {base : Heap}
theorem d_level (T : Txt mg) (A : At K mg "is_level" sIsLevel) (dw : Def P w K mg base "is_whole" 3 ["thing", "low", "high"] (spWhole K)) :
    Def P w K mg base "is_level" 4 ["thing"] (spRange K 0 63) := by
  refine mkDef A scIsLevel (fun _ _ _ _ _ _ us hl => match us, hl with | [_], _ => rfl) (fun vs H Q E ⟨x, t, e, _⟩ => by rw [e]; rfl)
    (fun f cdv A out s H vs Q E hr h => ?_)
  obtain ⟨x, t, rfl, ty, k⟩ := h
  exact ⟨_, pss_one (ps_ret (pe_d dw hr (by decide) (by rfl) (pa_cons (pv 0) (pa_cons pe_int (pa_cons (pe_gi T.cMOST_LEVEL) pa_nil))))),
    _, rfl, x, t, 0, 63, rfl, ty, k⟩

def spRow : Sp := fun vs H Q _ => ∃ p r, vs = [.ref p] ∧ H p = some (.tup (f3 r)) ∧ GoodR r ∧ ∀ H', Same H H' → Q (.bl true) H'
def spRis (K : PySem.W.Frag) : Sp := fun vs H Q _ => ∃ (a : Addr) (ns : List Int), vs = [.ref a] ∧ SqL K H a (ns.map V.int) ∧ ns.length ≤ 2000 ∧ ns.Pairwise (· < ·) ∧
  ∀ H', Same H H' → Q (.bl true) H'
/-- a history, as a list or a tuple -/
def Hs (H : Hp) (a : Addr) (rs : List R3) : Prop := LT f3 H a rs ∨ ∃ vs, H a = some (.tup vs) ∧ Al f3 H vs rs
theorem Hs.same {H H' : Hp} {a : Addr} {rs : List R3} (h : Hs H a rs) (S : Same H H') : Hs H' a rs := h.imp (fun l => l.same S) fun ⟨vs, e, al⟩ => ⟨vs, S _ _ e, al.same S⟩
def spHist : Sp := fun vs H Q _ => ∃ (a : Addr) (rs : List R3), vs = [.ref a] ∧ Hs H a rs ∧ GoodH rs ∧ ∀ H', Same H H' → Q (.bl true) H'
def spHistC : Sp := fun vs H Q _ => ∃ (a : Addr) (rs : List R3), vs = [.ref a] ∧ Hs H a rs ∧ GoodH rs ∧ ∀ H', Same H H' → Q .non H'
def spIn (lo hi : Int) : Sp := fun vs H Q _ => ∃ i, vs = [.int i] ∧ lo ≤ i ∧ i ≤ hi ∧ Q .non H
end
end V45

namespace V45
open PySem PySem.Spec PyProof.Rows L2 Pw
/-! ### points -/
structure Pt where
  nm : Str
  pl : Str
  sw : Bool
def kd (b : Bool) : Str := if b = true then "switch" else "level"
def fP (p : Pt) : List V := [.str p.nm, .str p.pl, .str (kd p.sw)]
structure OkName (s : Str) : Prop where
  b : nameB (.str s) = true
  sh : Short (.str s)
structure GoodP (p : Pt) : Prop where
  nm : OkName p.nm
  pl : OkName p.pl
structure GoodPs (ps : List Pt) : Prop where
  all : ∀ p ∈ ps, GoodP p
  nd : (ps.map (·.nm)).Nodup
  few : ∃ ws : List Str, ws.length ≤ 3 ∧ ∀ p ∈ ps, p.pl ∈ ws
  pos : 1 ≤ ps.length
  len : ps.length ≤ 8
theorem kd_one (b : Bool) : oneB (.str (kd b)) ["level", "switch"] = true := by cases b <;> decide +kernel
theorem kd_level (b : Bool) : decide (V.str (kd b) = V.str "level") = !b := by cases b <;> decide +kernel
theorem LS.sq {α : Type} {f : α → List V} {K : PySem.W.Frag} {H : Hp} {a : Addr} {rs : List α} (h : LS f H a rs) : ∃ vs, Sq K H a vs ∧ Al f H vs rs := by
  rcases h with h | ⟨vs, e, al⟩
  · obtain ⟨vs, e, al⟩ := h.ex
    exact ⟨vs, .inl (SqL.of e), al⟩
  · exact ⟨vs, .inr (SqT.of e), al⟩
section
variable {P : Program} {w : World} {K : PySem.W.Frag} {mg : Str → Option Value} {base : Heap}
/-- a list or a tuple of so many -/
def spList (K : PySem.W.Frag) : Sp := fun vs H Q _ => ∃ (a : Addr) (xs : List V) (lo hi : Int), vs = [.ref a, .int lo, .int hi] ∧ Sq K H a xs ∧ lo ≤ (xs.length : Int) ∧ (xs.length : Int) ≤ hi ∧
  ∀ H', Same H H' → Q (.bl true) H'
theorem d_list (T : Txt mg) (A : At K mg "is_list" sIsList) : Def P w K mg base "is_list" 1 ["thing", "least", "most"] (spList K) := by
  refine mkDef A scIsList (fun _ _ _ _ _ _ us hl => match us, hl with | [_, _, _], _ => rfl) (fun vs H Q E ⟨_, _, _, _, e, _⟩ => by rw [e]; rfl)
    (fun f cdv A out s H vs Q E hr h => ?_)
  obtain ⟨a, xs, lo, hi, rfl, hs, h1, h2, k⟩ := h
  refine ⟨_, (pss_one (ps_ret (pe_and (pe_callB call_isiT (by rfl) T.isinstance PyProof.Rows.boot_isinstance (pa_cons (pv 0) (pa_cons (pe_tup (pa_cons (pe_bltn (v := .ty "list") (u := .type "list") (by rfl) T.list (by decide +kernel) rfl) (pa_cons (pe_bltn (v := .ty "tuple") (u := .type "tuple") (by rfl) T.tuple (by decide +kernel) rfl) pa_nil))) pa_nil)))
    (pe_one (pe_chain op_le op_le (pv 1) (pe_callB call_len_seq (by rfl) T.len PySem.boot_len (pa_cons (pv 0) pa_nil)) (pv 2)))))), ?_⟩
  refine ⟨_, rfl, by show 2 ≤ sizeLine; decide, fun q hq => ?_⟩
  have S1 := Same.laid (o := HO.tup [.ty "list", .ty "tuple"]) hq
  have e1 : upd H q (.tup [.ty "list", .ty "tuple"]) q = some (.tup [.ty "list", .ty "tuple"]) := upd_same
  generalize upd H q (.tup [.ty "list", .ty "tuple"]) = H1 at *
  obtain ⟨t, ty, kit⟩ := (hs.same S1).ty
  refine ⟨.ref a, q, [.ty "list", .ty "tuple"], t, [.type "list", .type "tuple"], true, rfl, e1, .cons (.ty _) (.cons (.ty _) .nil), ty, kit, _, rfl, iteT ?_⟩
  refine ⟨_, rfl, _, rfl, a, xs, rfl, hs.same S1, lo, (xs.length : Int), rfl, rfl, _, rfl, ?_⟩
  rw [decide_eq_true h1]
  refine iteT ⟨_, rfl, (xs.length : Int), hi, rfl, rfl, ?_⟩
  show Q (.bl (decide ((xs.length : Int) ≤ hi))) H1
  rw [decide_eq_true h2]
  exact k _ S1
/-- a list or a tuple of so many things that all fit -/
def spListOf (K : PySem.W.Frag) (f0 : Addr) (spf : Sp) : Sp := fun vs H Q _ => ∃ (a : Addr) (xs : List V) (lo hi : Int), vs = [.ref f0, .ref a, .int lo, .int hi] ∧ Sq K H a xs ∧ lo ≤ (xs.length : Int) ∧ (xs.length : Int) ≤ hi ∧ xs.length ≤ 1000 ∧
  (∀ v ∈ xs, ∀ (H1 : Hp) (Q1 : VK), Same H H1 → (∀ H2, Same H1 H2 → Q1 (.bl true) H2) → spf [v] H1 Q1 E0) ∧ ∀ H', Same H H' → Q (.bl true) H'
theorem d_listOf {f0 : Addr} {spf : Sp} {kf : Nat} (T : Txt mg) (A : At K mg "is_list_of" sIsListOf) (dl : Def P w K mg base "is_list" 1 ["thing", "least", "most"] (spList K))
    (F : FnR P w K mg base CX0 kf f0 spf) (hk : PySem.W.keepIn K (.ref f0) = true) : Def P w K mg base "is_list_of" (kf + 2) ["fits", "thing", "least", "most"] (spListOf K f0 spf) := by
  refine mkDef A scIsListOf (fun _ _ _ _ _ _ us hl => match us, hl with | [_, _, _, _], _ => rfl) (fun vs H Q E ⟨_, _, _, _, e, _⟩ => by rw [e]; rfl)
    (fun f cdv A out s H vs Q E hr h => ?_)
  obtain ⟨a, xs, lo, hi, rfl, hs, h1, h2, hn, hf, k⟩ := h
  refine ⟨_, (pss_one (ps_ret (pe_and (pe_d dl hr (by omega) (by rfl) (pa_cons (pv 1) (pa_cons (pv 2) (pa_cons (pv 3) pa_nil)))) (pe_one (pe_callB (cr_all rfl) (by rfl) T.all PyProof.Rows.boot_all (pa_cons (pe_lc (own := [("part", 4)]) (g := gName 4) (tt := tYes) rfl scIsListOf.nd (pi_sq (pv 1))
        (blkOk_by (own := [("part", 4)]) (N := ["fits", "thing", "least", "most", "part"]) (sc := defScope sIsListOf) (by decide +kernel))
        (fun _ _ _ _ _ => (pg_name (i := 4) scIsListOf.nd rfl (.inl rfl))) (fun _ _ _ _ _ => pts_nil)
        (fun _ _ _ _ _ => (ItX.pe_callV (i := 0) F (hr.mono (by omega)) hk pass0 (by rfl) (by first | exact Or.inr (Or.inl rfl) | exact Or.inr (Or.inr rfl)) (pa_cons (pv 4) pa_nil)))) pa_nil)))))), ?_⟩
  refine ⟨_, rfl, _, rfl, _, rfl, a, xs, lo, hi, rfl, hs, h1, h2, fun H1 S1 => ?_⟩
  refine ⟨_, rfl, iteT ?_⟩
  refine ⟨_, rfl, a, xs, rfl, hs.same S1, fun J G hG wk D hD => ?_⟩
  refine lc_acc wk hD (by omega) (fun i acc H => acc = (List.replicate i true).map V.bl) rfl hG ?_ ?_
  · rintro i v H2 H3 acc hi S2 eD hl2 rfl ⟨rfl, hx⟩ Fy Fn hy1 _
    refine ⟨rfl, ?_⟩
    unfold tYes
    refine iteT ?_
    refine ⟨rfl, _, rfl, hf v (List.mem_of_getElem? hx) _ _ (S1.trans S2) fun H4 S4 => hy1 _ _ S4 (reps_succ i)⟩
  rintro H2 acc S2 eD rfl
  refine ⟨D, _, rfl, SqL.of eD, ?_⟩
  rw [reps_all]
  exact k _ (S1.trans S2)
end
end V45

/-! Dict and set comprehensions over any walk, all else staying. -/
namespace Pw
open PySem PySem.Spec PyProof.Rows L2
section
variable {J : It} {n : Nat} {G : Hp → Prop} {Y : Nat → Hp → V → Hp → Prop} {g : TG} {tt : L2.TT} {tk tv te : TE} {vs : List Nat} {σ : L2.St} {H1 : Hp} {D : Addr} {Qd : Hp → Prop}
theorem dc_it (w : Walk J n G Y) (Pv : Nat → Hp → Prop) (h0 : Pv 0 (upd H1 D (.dK []))) (hG : ∀ i H, i ≤ n → Pv i H → G H)
    (hs : ∀ i x H H', i < n → Pv i H → Y i H x H' → g x (wipe σ vs) H' fun σ2 H2 => wipe σ2 vs = wipe σ vs ∧ tt σ2 H2 fun b H3 => if b = true then tk σ2 H3 fun y H4 => tv σ2 H4 fun z H5 =>
      ∃ kvs k, y = kV k ∧ H5 D = some (.dK kvs) ∧ kvs.length < sizeLine ∧ Pv (i + 1) (upd H5 D (.dK (putK kvs k z))) else Pv (i + 1) H3)
    (hd : ∀ H, Pv n H → Qd H) : ∃ W : Nat → Nat → Hp → Prop, (∃ m, W 0 m (upd H1 D (.dK []))) ∧ ∀ i m H, W i m H → (J.stop i H ∧ Qd H) ∨ (J.go i H ∧ ∃ Nx : Hp → Prop, (∀ H', Nx H' → ∃ m', m' < m ∧ W (i + 1) m' H') ∧
      ∀ x H', J.yld i H x H' → g x (wipe σ vs) H' fun σ2 H2 => wipe σ2 vs = wipe σ vs ∧ tt σ2 H2 fun b H3 => if b = true then tk σ2 H3 fun y H4 => tv σ2 H4 fun z H5 =>
        ∃ kvs k, y = kV k ∧ H5 D = some (.dK kvs) ∧ kvs.length < sizeLine ∧ Nx (upd H5 D (.dK (putK kvs k z))) else Nx H3) := by
  refine ⟨fun i m H => i ≤ n ∧ m = n - i ∧ Pv i H, ⟨n, Nat.zero_le _, rfl, h0⟩, ?_⟩
  rintro i m H ⟨hi, rfl, p⟩
  by_cases h : i = n
  · subst h
    exact .inl ⟨w.stops H (hG _ _ (Nat.le_refl _) p), hd H p⟩
  · exact .inr ⟨w.goes i H (by omega) (hG i H hi p), Pv (i + 1), fun H' p' => ⟨n - (i + 1), by omega, by omega, rfl, p'⟩, fun x H' y => hs i x H H' (by omega) p (w.yields i H x H' (by omega) (hG i H hi p) y)⟩
theorem putK_len (l : List (Key × V)) (k : Key) (z : V) : (putK l k z).length ≤ l.length + 1 := by
  unfold putK
  split <;> simp
theorem dc_acc (w : Walk J n G Y) (hD : H1 D = none) (hn : n ≤ 1000000) (R : Nat → List (Key × V) → Hp → Prop) (r0 : R 0 [] H1) (hG : ∀ H, Same H1 H → G H)
    (hs : ∀ i x H H' acc, i < n → Same H1 H → H D = some (.dK acc) → acc.length ≤ i → R i acc (wo H D) → Y i H x H' → ∀ (Fy : V → V → Hp → Prop) (Fn : Hp → Prop),
      (∀ k z H5, Same H H5 → R (i + 1) (putK acc k z) (wo H5 D) → Fy (kV k) z H5) → (∀ H3, Same H H3 → R (i + 1) acc (wo H3 D) → Fn H3) →
      g x (wipe σ vs) H' fun σ2 H2 => wipe σ2 vs = wipe σ vs ∧ tt σ2 H2 fun b H3 => if b = true then tk σ2 H3 fun y H4 => tv σ2 H4 fun z H5 => Fy y z H5 else Fn H3)
    (hd : ∀ H acc, Same H1 H → H D = some (.dK acc) → R n acc (wo H D) → Qd H) :
    ∃ W : Nat → Nat → Hp → Prop, (∃ m, W 0 m (upd H1 D (.dK []))) ∧ ∀ i m H, W i m H → (J.stop i H ∧ Qd H) ∨ (J.go i H ∧ ∃ Nx : Hp → Prop, (∀ H', Nx H' → ∃ m', m' < m ∧ W (i + 1) m' H') ∧
      ∀ x H', J.yld i H x H' → g x (wipe σ vs) H' fun σ2 H2 => wipe σ2 vs = wipe σ vs ∧ tt σ2 H2 fun b H3 => if b = true then tk σ2 H3 fun y H4 => tv σ2 H4 fun z H5 =>
        ∃ kvs k, y = kV k ∧ H5 D = some (.dK kvs) ∧ kvs.length < sizeLine ∧ Nx (upd H5 D (.dK (putK kvs k z))) else Nx H3) := by
  have line : 1000000 < sizeLine := by decide
  refine dc_it w (fun i H => Same H1 H ∧ ∃ acc, H D = some (.dK acc) ∧ acc.length ≤ i ∧ R i acc (wo H D))
    ⟨Same.laid hD, [], upd_same, Nat.le_refl _, by rw [wo_upd, wo_none hD]; exact r0⟩ (fun i H _ h => hG H h.1) ?_ ?_
  · rintro i x H H' hi ⟨S, acc, e, hl, r⟩ y
    refine hs i x H H' acc hi S e hl r y (fun y z H5 => ∃ kvs k, y = kV k ∧ H5 D = some (.dK kvs) ∧ kvs.length < sizeLine ∧ (Same H1 (upd H5 D (.dK (putK kvs k z))) ∧ ∃ acc, upd H5 D (.dK (putK kvs k z)) D = some (.dK acc) ∧ acc.length ≤ i + 1 ∧ R (i + 1) acc (wo (upd H5 D (.dK (putK kvs k z))) D))) _ (fun k z H5 S5 r5 => ?_) fun H3 S3 r3 => ?_
    · refine ⟨acc, k, rfl, S5 _ _ e, Nat.lt_of_le_of_lt hl (Nat.lt_of_lt_of_le hi (Nat.le_trans hn (Nat.le_of_lt line))), Same.wo_upd (S.trans S5) hD, _, upd_same, ?_, ?_⟩
      · have := putK_len acc k z
        omega
      · rw [wo_upd]
        exact r5
    · exact ⟨S.trans S3, acc, S3 _ _ e, by omega, r3⟩
  · rintro H ⟨S, acc, e, _, r⟩
    exact hd H acc S e r
theorem sc_it {P : Program} {wd : World} (w : Walk J n G Y) (Pv : Nat → Hp → Prop) (h0 : Pv 0 (upd H1 D (SetK P wd D (fun _ => false) 0))) (hG : ∀ i H, i ≤ n → Pv i H → G H)
    (hs : ∀ i x H H', i < n → Pv i H → Y i H x H' → g x (wipe σ vs) H' fun σ2 H2 => wipe σ2 vs = wipe σ vs ∧ tt σ2 H2 fun b H3 => if b = true then te σ2 H3 fun y H4 =>
      ∃ (k : Key) (S : Key → Bool) (n : Nat), y = kV k ∧ H4 D = some (SetK P wd D S n) ∧ n + 1 < scanBound ∧ Pv (i + 1) (upd H4 D (SetK P wd D (fun j => S j || decide (j = k)) (if S k = true then n else n + 1))) else Pv (i + 1) H3)
    (hd : ∀ H, Pv n H → Qd H) : ∃ W : Nat → Nat → Hp → Prop, (∃ m, W 0 m (upd H1 D (SetK P wd D (fun _ => false) 0))) ∧ ∀ i m H, W i m H → (J.stop i H ∧ Qd H) ∨ (J.go i H ∧ ∃ Nx : Hp → Prop, (∀ H', Nx H' → ∃ m', m' < m ∧ W (i + 1) m' H') ∧
      ∀ x H', J.yld i H x H' → g x (wipe σ vs) H' fun σ2 H2 => wipe σ2 vs = wipe σ vs ∧ tt σ2 H2 fun b H3 => if b = true then te σ2 H3 fun y H4 =>
        ∃ (k : Key) (S : Key → Bool) (n : Nat), y = kV k ∧ H4 D = some (SetK P wd D S n) ∧ n + 1 < scanBound ∧ Nx (upd H4 D (SetK P wd D (fun j => S j || decide (j = k)) (if S k = true then n else n + 1))) else Nx H3) := by
  refine ⟨fun i m H => i ≤ n ∧ m = n - i ∧ Pv i H, ⟨n, Nat.zero_le _, rfl, h0⟩, ?_⟩
  rintro i m H ⟨hi, rfl, p⟩
  by_cases h : i = n
  · subst h
    exact .inl ⟨w.stops H (hG _ _ (Nat.le_refl _) p), hd H p⟩
  · exact .inr ⟨w.goes i H (by omega) (hG i H hi p), Pv (i + 1), fun H' p' => ⟨n - (i + 1), by omega, by omega, rfl, p'⟩, fun x H' y => hs i x H H' (by omega) p (w.yields i H x H' (by omega) (hG i H hi p) y)⟩
end
end Pw

namespace V45
open PySem PySem.Spec PyProof.Rows L2 Pw
theorem inV_str (x : Str) : ∀ ns : List Str, inV (.str x) (ns.map V.str) = decide (x ∈ ns)
  | [] => rfl
  | n :: ns => by
    have ih := inV_str x ns
    unfold inV at ih ⊢
    rw [List.map_cons, List.any_cons, ih]
    by_cases h : n = x
    · subst h
      simp [eqV]
    · simp [eqV, h, Ne.symm h]
theorem flat_strs (ns : List Str) : (ns.map V.str).all flatV = true := List.all_eq_true.mpr fun y hy => by
  simp only [List.mem_map] at hy
  obtain ⟨z, _, rfl⟩ := hy
  rfl
theorem cut_to (xs : List V) (i : Nat) : cutV xs none (some (i : Int)) = xs.take i := by
  unfold cutV
  have e1 : HT.sIx xs.length 0 none = 0 := rfl
  rw [e1, HT.sIx_nat, List.drop_zero, Nat.sub_zero]
  by_cases h : i ≤ xs.length
  · rw [Nat.min_eq_left h]
  · rw [Nat.min_eq_right (by omega), List.take_length, List.take_of_length_le (by omega)]
theorem nodup_take {ns : List Str} (nd : ns.Nodup) {i : Nat} {x : Str} (e : ns[i]? = some x) : x ∉ ns.take i := by
  intro h
  obtain ⟨j, hj, e'⟩ := List.getElem_of_mem h
  rw [List.getElem_take] at e'
  obtain ⟨hi, ei⟩ := List.getElem?_eq_some_iff.mp e
  rw [List.length_take] at hj
  exact (List.pairwise_iff_getElem.mp nd) j i (by omega) hi (by omega) (by rw [e', ei])
/-- the entries of a dict by name -/
def kvs {α : Type} (nm : α → Str) : List α → List V → List (Key × V)
  | r :: rs, v :: vs => (.inr (nm r), v) :: kvs nm rs vs
  | _, _ => []
theorem kvs_append {α : Type} (nm : α → Str) : ∀ {rs : List α} {vs : List V} {rs' : List α} {vs' : List V}, rs.length = vs.length → kvs nm (rs ++ rs') (vs ++ vs') = kvs nm rs vs ++ kvs nm rs' vs'
  | [], [], _, _, _ => rfl
  | [], _ :: _, _, _, h => by cases h
  | _ :: _, [], _, _, h => by cases h
  | r :: rs, v :: vs, rs', vs', h => by
    show _ :: kvs nm (rs ++ rs') (vs ++ vs') = _ :: (kvs nm rs vs ++ kvs nm rs' vs')
    rw [kvs_append nm (by simpa using h)]
theorem kvs_keys {α : Type} (nm : α → Str) : ∀ {rs : List α} {vs : List V}, rs.length = vs.length → (kvs nm rs vs).map Prod.fst = rs.map fun r => Sum.inr (nm r)
  | [], [], _ => rfl
  | [], _ :: _, h => by cases h
  | _ :: _, [], h => by cases h
  | r :: rs, v :: vs, h => by
    show _ :: (kvs nm rs vs).map Prod.fst = _ :: _
    rw [kvs_keys nm (by simpa using h)]
theorem putK_new {kvs : List (Key × V)} {k : Key} {v : V} (h : k ∉ kvs.map Prod.fst) : putK kvs k v = kvs ++ [(k, v)] := by
  unfold putK
  rw [if_neg]
  intro z
  obtain ⟨p, hp, e⟩ := List.any_eq_true.mp z
  exact h (List.mem_map.mpr ⟨p, hp, of_decide_eq_true e⟩)
section
variable {P : Program} {w : World} {K : PySem.W.Frag} {mg : Str → Option Value} {base : Heap}
def spPointS : Sp := fun vs H Q _ => ∃ p pt, vs = [.ref p] ∧ H p = some (.tup (fP pt)) ∧ GoodP pt ∧ ∀ H', Same H H' → Q (.bl true) H'
theorem d_pointS (A : At K mg "is_point_shape" sIsPointShape) (dt : Def P w K mg base "is_tuple" 1 ["thing", "many"] (spTupN K)) (dn : Def P w K mg base "is_name" 1 ["thing"] (spName K))
    (d1 : Def P w K mg base "is_one_of" 1 ["thing", "words"] (spOne K)) : Def P w K mg base "is_point_shape" 2 ["thing"] spPointS := by
  refine mkDef A scIsPointShape (fun _ _ _ _ _ _ us hl => match us, hl with | [_], _ => rfl) (fun vs H Q E ⟨_, _, e, _⟩ => by rw [e]; rfl)
    (fun f cdv A out s H vs Q E hr h => ?_)
  obtain ⟨q, pt, rfl, e, g, k⟩ := h
  refine ⟨_, (pss_cons (ps_if (pt_not (pt_val (pe_d dt hr (by decide) (by rfl) (pa_cons (pv 0) (pa_cons pe_int pa_nil)))))
      (pss_one (ps_ret pe_bl))
      pss_nil)
    (pss_cons (ps_asg (pv 0) (pg_tup (by rfl) (pgs_cons (pg_name (i := 1) scIsPointShape.nd rfl (.inl rfl)) (pgs_cons (pg_name (i := 2) scIsPointShape.nd rfl (.inl rfl)) (pgs_cons (pg_name (i := 3) scIsPointShape.nd rfl (.inl rfl)) pgs_nil)))))
    (pss_one (ps_ret (pe_and (pe_d dn hr (by decide) (by rfl) (pa_cons (pv 1) pa_nil)) (pe_and (pe_d dn hr (by decide) (by rfl) (pa_cons (pv 2) pa_nil)) (pe_one (pe_d d1 hr (by decide) (by rfl) (pa_cons (pv 3) (pa_cons (pe_tup (pa_cons pe_str (pa_cons pe_str pa_nil))) pa_nil)))))))))), ?_⟩
  have eT : tupNB H (.ref q) 3 = true := by simp only [tupNB, e]; rfl
  refine ⟨_, rfl, .ref q, _, 3, rfl, .tup e, true, congrArg V.bl eT, iteF ?_⟩
  refine ⟨_, rfl, q, _, rfl, SqT.of e, rfl, _, _, rfl, _, _, rfl, _, _, rfl, rfl, ?_⟩
  refine ⟨_, rfl, .str pt.nm, _, rfl, .str _, g.nm.sh, fun H1 S1 => ⟨true, congrArg V.bl g.nm.b, iteT ?_⟩⟩
  refine ⟨_, rfl, .str pt.pl, _, rfl, .str _, g.pl.sh, fun H2 S2 => ⟨true, congrArg V.bl g.pl.b, iteT ?_⟩⟩
  refine ⟨_, rfl, by show 2 ≤ sizeLine; decide, fun p np => ?_⟩
  refine ⟨.str (kd pt.sw), _, p, ["level", "switch"], rfl, .str _, upd_same, ?_⟩
  rw [kd_one]
  exact k _ (S1.trans (S2.trans (Same.laid np)))
/-- names, each once -/
def spOnce (K : PySem.W.Frag) : Sp := fun vs H Q _ => ∃ (a : Addr) (ns : List Str), vs = [.ref a] ∧ SqL K H a (ns.map V.str) ∧ ns.Nodup ∧ ns.length ≤ 1000 ∧ ∀ H', Same H H' → Q .non H'
theorem d_once (T : Txt mg) (A : At K mg "_check_each_once" sCheckEachOnce) : Def P w K mg base "_check_each_once" 1 ["names"] (spOnce K) := by
  refine mkDef A scCheckEachOnce (fun _ _ _ _ _ _ us hl => match us, hl with | [_], _ => rfl) (fun vs H Q E ⟨_, _, e, _⟩ => by rw [e]; rfl)
    (fun f cdv A out s H vs Q E hr h => ?_)
  obtain ⟨a, ns, rfl, hs, nd, hl, k⟩ := h
  refine ⟨_, (pss_one (ps_for PassesOwn.never rfl (pi_enum (by rfl) T.enumerate (pa_cons (pv 0) pa_nil)) (pg_tup (by rfl) (pgs_cons (pg_name (i := 1) scCheckEachOnce.nd rfl (.inl rfl)) (pgs_cons (pg_name (i := 2) scCheckEachOnce.nd rfl (.inl rfl)) pgs_nil)))
      (pss_one (ps_if (pt_cmpR op_in_seq (pv 2) (pe_slice sl_list (pv 0) po_none (po_some (pv 1))) (by rfl))
        (pss_one ps_never)
        pss_nil)))), ?_⟩
  refine ⟨_, rfl, a, _, rfl, hs, ?_⟩
  refine for_it (walk_enum (K := K) (a := a) (xs := ns.map V.str)) (fun i σ G => ∃ v1 v2 : Option V, σ = [some (.ref a), v1, v2] ∧ Same H G) ⟨none, none, rfl, Same.refl _⟩
    (fun i σ G _ ⟨_, _, _, S⟩ => Same.seq S hs) ?_ (fun σ G ⟨_, _, _, S⟩ => k G S)
  rintro i v σ G0 G hi ⟨v1, v2, rfl, S⟩ hy
  rw [List.length_map] at hi
  obtain ⟨q, x, y, rfl, nq, rfl, ex, ey⟩ := hy
  cases ex
  replace ey : (ns.map V.str)[i]? = some y := ey
  rw [List.getElem?_map] at ey
  obtain ⟨nm, en, rfl⟩ := Option.map_eq_some_iff.mp ey
  have S1 := S.trans (Same.laid (o := HO.tup [V.int (i : Int), .str nm]) nq)
  refine ⟨q, _, rfl, SqT.of upd_same, rfl, _, _, rfl, _, _, rfl, rfl, ?_⟩
  generalize upd G0 q (.tup [V.int (i : Int), .str nm]) = G at *
  refine ⟨_, rfl, _, rfl, _, rfl, (i : Int), rfl, a, _, rfl, Same.seq S1 hs, fun p np => ?_⟩
  rw [cut_to, ← List.map_take]
  refine ⟨p, _, rfl, .inl (SqL.of upd_same), rfl, flat_strs _, _, rfl, ?_⟩
  rw [inV_str, decide_eq_false (nodup_take nd en)]
  exact iteF ⟨_, _, rfl, S1.trans (Same.laid np)⟩
/-- things by their names -/
def spByName {α : Type} (K : PySem.W.Frag) (f : α → List V) (nm : α → Str) : Sp := fun vs H Q _ => ∃ (a : Addr) (xs : List V) (rs : List α), vs = [.ref a] ∧ Sq K H a xs ∧ Al f H xs rs ∧ (∀ r, ∃ tl, f r = .str (nm r) :: tl) ∧ (rs.map nm).Nodup ∧ rs.length ≤ 1000 ∧
  ∀ D H', Same H H' → H D = none → H' D = some (.dK (kvs nm rs xs)) → Q (.ref D) H'
theorem d_byName {α : Type} {f : α → List V} {nm : α → Str} (A : At K mg "by_name" sByName) : Def P w K mg base "by_name" 1 ["rows"] (spByName K f nm) := by
  refine mkDef A scByName (fun _ _ _ _ _ _ us hl => match us, hl with | [_], _ => rfl) (fun vs H Q E ⟨_, _, _, e, _⟩ => by rw [e]; rfl)
    (fun f' cdv A out s H vs Q E hr h => ?_)
  obtain ⟨a, xs, rs, rfl, hs, al, hf, nd, hl, k⟩ := h
  refine ⟨_, (pss_one (ps_ret (pe_dc (own := [("row", 1)]) (g := gName 1) (tt := tYes) rfl scByName.nd (pi_sq (pv 0))
        (blkOk_by (own := [("row", 1)]) (N := ["rows", "row"]) (sc := defScope sByName) (by decide +kernel))
        (fun _ _ _ _ _ => (pg_name (i := 1) scByName.nd rfl (.inl rfl))) (fun _ _ _ _ _ => pts_nil)
        (fun _ _ _ _ _ => (pe_ix (r := rIxT K) ix_tup (pv 1) pe_int (fun _ _ => rfl))) (fun _ _ _ _ _ => (pv 1))))), ?_⟩
  refine ⟨_, rfl, a, xs, rfl, hs, fun J G hG wk D hD => ?_⟩
  have hlen := al.length
  refine dc_acc wk hD (by omega) (fun i acc H => acc = kvs nm (rs.take i) (xs.take i)) rfl hG ?_ ?_
  · rintro i v H2 H3 acc hi S2 eD hl2 rfl ⟨rfl, hx⟩ Fy Fn hy1 _
    obtain ⟨p, r, rfl, hr', ep⟩ := (al.same S2).get hx
    refine ⟨rfl, ?_⟩
    unfold tYes
    refine iteT ?_
    obtain ⟨tl, ef⟩ := hf r
    rw [ef] at ep
    refine ⟨_, rfl, p, _, 0, .str (nm r), rfl, rfl, SqT.of ep, (by show atI _ ((0 : Nat) : Int) = _; exact atI_nat (by rfl)), ?_⟩
    refine ⟨_, rfl, hy1 (.inr (nm r)) _ _ (Same.refl _) ?_⟩
    have e1 : rs.take (i + 1) = rs.take i ++ [r] := by rw [List.take_add_one, hr']; rfl
    have e2 : xs.take (i + 1) = xs.take i ++ [.ref p] := by rw [List.take_add_one, hx]; rfl
    have e3 : (rs.take i).length = (xs.take i).length := by rw [List.length_take, List.length_take, hlen]
    rw [e1, e2, kvs_append nm e3, putK_new]
    · rfl
    · rw [kvs_keys nm e3]
      intro z
      obtain ⟨r', hr2, er⟩ := List.mem_map.mp z
      have en : (rs.map nm)[i]? = some (nm r) := by rw [List.getElem?_map, hr']; rfl
      refine nodup_take nd en ?_
      rw [← List.map_take]
      exact List.mem_map.mpr ⟨r', hr2, Sum.inr.inj er⟩
  · rintro H2 acc S2 eD rfl
    rw [List.take_of_length_le (by omega), List.take_length] at eD
    exact k D H2 S2 hD eD
end
end V45

namespace V45
open PySem PySem.Spec PyProof.Rows L2 Pw
section
variable {P : Program} {w : World} {K : PySem.W.Frag} {mg : Str → Option Value} {base : Heap}
def spPoints (K : PySem.W.Frag) : Sp := fun vs H Q _ => ∃ (a : Addr) (xs : List V) (ps : List Pt), vs = [.ref a] ∧ Sq K H a xs ∧ Al fP H xs ps ∧ GoodPs ps ∧ ∀ H', Same H H' → Q .non H'
theorem d_points (T : Txt mg) (A : At K mg "check_points" sCheckPoints) (aLO : At K mg "is_list_of" sIsListOf) (dl : Def P w K mg base "is_list" 1 ["thing", "least", "most"] (spList K))
    (dP : Def P w K mg base "is_point_shape" 2 ["thing"] spPointS) (dO : Def P w K mg base "_check_each_once" 1 ["names"] (spOnce K)) :
    Def P w K mg base "check_points" 5 ["points"] (spPoints K) := by
  obtain ⟨f0, fd0, hm0, hk0, hb0, F0⟩ := dP.ex
  have dLO := d_listOf T aLO dl (F0.raw hb0 .nil) hk0
  refine mkDef A scCheckPoints (fun _ _ _ _ _ _ us hl => match us, hl with | [_], _ => rfl) (fun vs H Q E ⟨_, _, _, e, _⟩ => by rw [e]; rfl)
    (fun f cdv A out s H vs Q E hr h => ?_)
  obtain ⟨a, xs, ps, rfl, hs, al, g, k⟩ := h
  refine ⟨_, (pss_cons (ps_if (pt_not (pt_val (pe_d dLO hr (by decide) (by rfl) (pa_cons (pe_glob (v := V.ref f0) (by rfl) hm0 rfl) (pa_cons (pv 0) (pa_cons pe_int (pa_cons (pe_gi T.c_MOST_POINTS) pa_nil)))))))
      (pss_one ps_never)
      pss_nil)
    (pss_cons (ps_expr (pe_d dO hr (by decide) (by rfl) (pa_cons (pe_lc (own := [("name", 2), ("_", 3)]) (g := (gTup K 3 (gCons (gName 2) (gCons (gName 3) (gCons (gName 3) gNil))))) (tt := tYes) rfl scCheckPoints.nd (pi_sq (pv 0))
        (blkOk_by (own := [("name", 2), ("_", 3)]) (N := ["points", "many", "name", "_", "place"]) (sc := defScope sCheckPoints) (by decide +kernel))
        (fun _ _ _ _ _ => (pg_tup (by rfl) (pgs_cons (pg_name (i := 2) scCheckPoints.nd rfl (.inl rfl)) (pgs_cons (pg_name (i := 3) scCheckPoints.nd rfl (.inl rfl)) (pgs_cons (pg_name (i := 3) scCheckPoints.nd rfl (.inl rfl)) pgs_nil))))) (fun _ _ _ _ _ => pts_nil)
        (fun _ _ _ _ _ => (pv 2))) pa_nil)))
    (pss_cons (ps_set (i := 1) scCheckPoints.nd rfl (.inl rfl) (pe_callB call_lenSK (by rfl) T.len PySem.boot_len (pa_cons (pe_scK (own := [("_", 3), ("place", 4)]) (g := (gTup K 3 (gCons (gName 3) (gCons (gName 4) (gCons (gName 3) gNil))))) (tt := tYes) rfl scCheckPoints.nd (pi_sq (pv 0))
        (blkOk_by (own := [("_", 3), ("place", 4)]) (N := ["points", "many", "name", "_", "place"]) (sc := defScope sCheckPoints) (by decide +kernel))
        (fun _ _ _ _ _ => (pg_tup (by rfl) (pgs_cons (pg_name (i := 3) scCheckPoints.nd rfl (.inl rfl)) (pgs_cons (pg_name (i := 4) scCheckPoints.nd rfl (.inl rfl)) (pgs_cons (pg_name (i := 3) scCheckPoints.nd rfl (.inl rfl)) pgs_nil))))) (fun _ _ _ _ _ => pts_nil)
        (fun _ _ _ _ _ => (pv 4))) pa_nil)))
    (pss_one (ps_if (pt_cmpR op_gt (pv 1) (pe_gi T.c_MOST_PLACES) (nomark _))
      (pss_one ps_never)
      pss_nil))))), ?_⟩
  have hlen := al.length
  have h1 := g.pos
  have h8 := g.len
  refine ⟨_, rfl, a, xs, 1, 8, rfl, hs, by omega, by omega, by omega, fun v hv H1 Q1 S1 q1 => ?_, fun H1 S1 => ?_⟩
  · obtain ⟨i, hi, ei⟩ := List.getElem_of_mem hv
    obtain ⟨p, pt, rfl, hpt, ep⟩ := (al.same S1).get (List.getElem?_eq_some_iff.mpr ⟨hi, ei⟩)
    exact ⟨p, pt, rfl, ep, g.all pt (List.mem_of_getElem? hpt), q1⟩
  refine ⟨_, rfl, iteF ?_⟩
  -- the names
  refine ⟨_, rfl, a, xs, rfl, hs.same S1, fun J G hG wk D hD => ?_⟩
  refine lc_acc wk hD (by omega) (fun i acc H => acc = ((ps.take i).map (·.nm)).map V.str) rfl hG ?_ ?_
  · rintro i v H2 H3 acc hi S2 eD hl2 rfl ⟨rfl, hx⟩ Fy Fn hy1 _
    obtain ⟨p, pt, rfl, hpt, ep⟩ := (al.same (S1.trans S2)).get hx
    refine ⟨p, _, rfl, SqT.of ep, rfl, _, _, rfl, _, _, rfl, _, _, rfl, rfl, ?_⟩
    refine ⟨rfl, ?_⟩
    unfold tYes
    refine iteT ⟨_, rfl, hy1 _ _ (Same.refl _) ?_⟩
    rw [List.take_add_one, hpt, List.map_append, List.map_append]
    rfl
  rintro H2 acc S2 eD rfl
  rw [List.take_of_length_le (by omega)] at eD
  refine ⟨D, _, rfl, SqL.of eD, g.nd, by rw [List.length_map]; omega, fun H3 S3 => ?_⟩
  have S13 := S1.trans (S2.trans S3)
  -- the places
  obtain ⟨ws, hws, hin⟩ := g.few
  refine ⟨_, rfl, a, xs, rfl, hs.same S13, fun J G hG wk D2 hD2 => ?_⟩
  refine sc_it wk (fun i H => Same H3 H ∧ ∃ (S : Key → Bool) (us : List Str), H D2 = some (SetK P w D2 S us.length) ∧ us.Nodup ∧ (∀ u, S (.inr u) = true ↔ u ∈ us) ∧ ∀ u ∈ us, u ∈ ws) ?_ (fun i H _ h => hG H h.1) ?_ ?_
  · exact ⟨Same.laid hD2, _, [], upd_same, List.nodup_nil, fun u => by simp, fun u h => by cases h⟩
  · rintro i v H4 H5 hi ⟨S4, S, us, eD2, nd, hS, hu⟩ ⟨rfl, hx⟩
    obtain ⟨p, pt, rfl, hpt, ep⟩ := (al.same (S13.trans S4)).get hx
    refine ⟨p, _, rfl, SqT.of ep, rfl, _, _, rfl, _, _, rfl, _, _, rfl, rfl, ?_⟩
    refine ⟨rfl, ?_⟩
    unfold tYes
    have hus : us.length ≤ 3 := Nat.le_trans (List.Nodup.length_le_of_subset nd hu) hws
    have hsb : us.length + 1 < scanBound := by show us.length + 1 < 4096; omega
    refine iteT ⟨_, rfl, .inr pt.pl, S, us.length, rfl, eD2, hsb, Same.wo_upd S4 hD2, (fun j => S j || decide (j = .inr pt.pl)), if S (.inr pt.pl) = true then us else us ++ [pt.pl], ?_, ?_, ?_, ?_⟩
    · have en : (if S (.inr pt.pl) = true then us.length else us.length + 1) = (if S (.inr pt.pl) = true then us else us ++ [pt.pl]).length := by split <;> simp
      rw [upd_same]
      exact congrArg (fun n => some (SetK P w D2 (fun j => S j || decide (j = .inr pt.pl)) n)) en
    · split
      · exact nd
      · rename_i hn
        have : pt.pl ∉ us := fun z => hn ((hS _).mpr z)
        exact List.nodup_append.mpr ⟨nd, by simp, fun a ha b hb => by
          rw [List.mem_singleton.mp hb]
          intro z
          rw [z] at ha
          exact this ha⟩
    · intro u
      show (S (.inr u) || decide ((Sum.inr u : Key) = .inr pt.pl)) = true ↔ _
      rw [Bool.or_eq_true, decide_eq_true_eq, hS]
      split
      · rename_i hy
        refine ⟨fun z => z.elim id fun z => ?_, .inl⟩
        rw [Sum.inr.inj z]
        exact (hS _).mp hy
      · rw [List.mem_append, List.mem_singleton]
        exact or_congr Iff.rfl ⟨fun z => Sum.inr.inj z, fun z => by rw [z]⟩
    · intro u h
      have hp := hin pt (List.mem_of_getElem? hpt)
      split at h
      · exact hu u h
      · rcases List.mem_append.mp h with z | z
        · exact hu u z
        · rw [List.mem_singleton.mp z]; exact hp
  rintro H4 ⟨S4, S, us, eD2, nd, hS, hu⟩
  refine ⟨D2, S, us.length, rfl, eD2, ?_⟩
  have hus : us.length ≤ 3 := Nat.le_trans (List.Nodup.length_le_of_subset nd hu) hws
  refine ⟨_, rfl, (us.length : Int), 3, rfl, rfl, _, rfl, ?_⟩
  rw [decide_eq_false (show ¬ (us.length : Int) > 3 by omega)]
  exact iteF (k _ (S13.trans S4))
end
end V45

/-! Exceptions over ValueError, LookupError and KeyError: as values, and raised. -/
namespace Pw
open PySem
/-- what __init__ of a built-in error must be -/
structure IniF (B initId : String) : Prop where
  split : splitId initId = some (B, "__init__")
  kind : builtinKind initId = some .slot
  row : Manifest.signature? initId =
    some ⟨.positional, "*", B, .self, [⟨"args", .varPos, false⟩]⟩
  plain : plainId initId = true
  star : (B != "*") = true
  entry : entryFor table initId = some Builtin.«BaseException.__init__»
theorem iniV : IniF "ValueError" "ValueError.__init__" :=
  ⟨F.excBase_ValueError.initSplit, F.excBase_ValueError.initKind, F.excBase_ValueError.initRow, F.excBase_ValueError.init.plain, by decide, F.excBase_ValueError.initEntry⟩
theorem iniL : IniF "LookupError" "LookupError.__init__" :=
  ⟨F.excBase_LookupError.initSplit, F.excBase_LookupError.initKind, F.excBase_LookupError.initRow, F.excBase_LookupError.init.plain, by decide, F.excBase_LookupError.initEntry⟩
theorem iniK : IniF "KeyError" "KeyError.__init__" where
  split := by kernel_rfl
  kind := by kernel_rfl
  row := by kernel_rfl
  plain := by decide +kernel
  star := by decide
  entry := entryFor_alias (id' := "BaseException.__init__") (by rw [fastTable_eq_tree]; kernel_rfl)
    (by first | rfl | decide +kernel) (by decide +kernel)
    (by rw [fastTable_eq_tree]; kernel_rfl)
abbrev veT : List Value := [.type "ValueError", .type "Exception", .type "BaseException", .type "object"]
abbrev leT : List Value := [.type "LookupError", .type "Exception", .type "BaseException", .type "object"]
abbrev keT : List Value := [.type "KeyError", .type "LookupError", .type "Exception", .type "BaseException", .type "object"]
/-- the classes behind an own one, and the maker of its instances -/
structure Fit (newId : String) (bm : List Value) : Prop where
  maker : ∃ B i bmB, ExcBaseFacts B newId i bmB ∧ bm.contains (.type B) = true
  noA : bm.contains (.type "AttributeError") = false
  noN : bm.contains (.type "NameError") = false
  obj : bm.contains (.type "object") = true
  pass : ∀ self, refuseLoop self "__setattr__" bm = pure ()
theorem fitV : Fit "ValueError.__new__" veT :=
  ⟨⟨_, _, _, F.excBase_ValueError, by decide +kernel⟩, by decide +kernel, by decide +kernel, by decide +kernel, F.store_ValueError.passes⟩
theorem fitL : Fit "LookupError.__new__" leT :=
  ⟨⟨_, _, _, F.excBase_LookupError, by decide +kernel⟩, by decide +kernel, by decide +kernel, by decide +kernel, F.store_LookupError.passes⟩
theorem fitK : Fit "LookupError.__new__" keT :=
  ⟨⟨_, _, _, F.excBase_LookupError, by decide +kernel⟩, by decide +kernel, by decide +kernel, by decide +kernel, fun self => by kernel_rfl⟩
theorem Fit.up {newId : String} {bm : List Value} (c : Addr) (h : Fit newId bm) : Fit newId (.ref c :: bm) := by
  obtain ⟨B, i, bmB, F, hB⟩ := h.maker
  have e : ∀ X : String, (Value.ref c :: bm).contains (.type X) = bm.contains (.type X) := fun X => by
    rw [List.contains_cons]; rfl
  exact ⟨⟨B, i, bmB, F, (e B).trans hB⟩, (e _).trans h.noA, (e _).trans h.noN, (e _).trans h.obj, fun self => by
    rw [refuseLoop_ref]
    exact h.pass self⟩
end Pw

namespace Pw
open PySem PySem.Spec PyProof.Rows L2

/-! ### such a class is called -/
section
variable {prog : Program} {w : World} {A : Around} {R : Result → Shared → Prop} {h : Heap} {g : Array GenState}
  {d : Drawn} {t : Nat} {os : OsState} {nm q : Str} {C N : Addr} {bs bm bmB : List Value} {hdct : Bool} {sn : List Str}
  {sub : List Value} {ab : Bool} {col : Option Bool} {dd : Option Addr} {k0 k1 k2 k3 k5 : Option Value} {B newId initId : String} {kw : List (Str × Value)}

theorem new_checkF {M : Model} {E : Value → Shared → Prop} (F : ExcBaseFacts B newId initId bmB)
    (hB : (Value.ref C :: bm).contains (.type B) = true) {rest : List Value} {Q : Unit → Shared → Prop}
    (hC : h.get? C = some (excClassObj nm q C N bs bm hdct sn sub ab col dd k0 k1 k2 k3 k5 newId)) (hq : Q () ⟨h, g, d, t, os⟩) :
    wpAny M A (checkBuiltinCall newId ⟨.ref C :: rest, kw⟩) Q E ⟨h, g, d, t, os⟩ := by
  have star := F.noStar
  simp only [checkBuiltinCall, F.newKind, F.newSplit, F.newRow]
  repeat (first
    | refine wpAny_loadPart_at hC ?_
    | (refine wpAny_isSubtype_exc hC ?_; rw [hB])
    | refine wpAny_staticBase_exc hC ?_
    | refine wpAny_madeBy_exc hC ?_
    | simp only [bne_self_eq_false, Bool.false_eq_true, if_false]
    | wp_step)
  exact hq

theorem newF (F : ExcBaseFacts B newId initId bmB) (hB : (Value.ref C :: bm).contains (.type B) = true)
    (hA : (Value.ref C :: bm).contains (.type "AttributeError") = false)
    (hN : (Value.ref C :: bm).contains (.type "NameError") = false) {rest : List Value}
    (hC : h.get? C = some (excClassObj nm q C N bs bm hdct sn sub ab col dd k0 k1 k2 k3 k5 newId))
    (hq : R (.ok (.ret (.ref (h.objs.size + 1)))) ⟨(h.push (PySem.W.kdv_tup rest)).push (exOb C none h.objs.size), g, d, t, os⟩)
    (hrest : rest.length ≤ sizeLine) :
    codeAny (model prog w) A (.builtin newId ⟨.ref C :: rest, kw⟩) R ⟨h, g, d, t, os⟩ := by
  have ends := F.ends
  refine codeAny_builtinAt F.entry ?_
  unfold Builtin.«BaseException.__new__»
  refine PySem.wpAt_bind ?_
  show PySem.wpAt _ _ _ (stack >>= _) _ _ _
  refine PySem.wpAt_bind (PySem.wpAt_stack fun p below => PySem.wpAt_of_wpAny ?_)
  wp_walk
  refine PySem.wpAt_of_wpAny ?_
  rw [F.owner]
  repeat (first
    | with_reducible refine wpAny_madeHere_exc F.canon hC ?_
    | with_reducible refine wpAny_loadPart_at hC ?_
    | (with_reducible refine wpAny_isSubtype_exc hC ?_; first | rw [hB] | rw [hA] | rw [hN])
    | wp_step)
  show R _ _
  rw [Heap.size_push]
  exact hq

theorem type_callF {E : Value → Shared → Prop} (F : ExcBaseFacts B newId initId bmB) (hB : (Value.ref C :: bm).contains (.type B) = true)
    (hA : (Value.ref C :: bm).contains (.type "AttributeError") = false)
    (hN : (Value.ref C :: bm).contains (.type "NameError") = false) {rest : List Value} {fI : Addr} {Q : Fin → Shared → Prop}
    (hC : h.get? C = some (excClassObj nm q C N bs bm hdct sn sub ab col dd k0 k1 k2 k3 k5 newId))
    (hi : PySem.W.Looks (model prog w) h (typeLookup (.ref C) "__init__") (some (.ref fI)))
    (hb : ∀ self, PySem.W.Looks (model prog w) h (bindSpecial (.ref fI) self) (.ref fI, [self])) (hrest : rest.length ≤ sizeLine)
    (hq : codeAny (model prog w) A (.call (.ref fI) ⟨.ref (h.objs.size + 1) :: rest, kw⟩)
      (fun r s' => match r with
        | .ok (.ret v) => v = .none ∧ Q (.done (.ret (.ref (h.objs.size + 1)))) s'
        | .ok _ => False
        | .error e => E e s')
      ⟨(h.push (PySem.W.kdv_tup rest)).push (exOb C none h.objs.size), g, d, t, os⟩) :
    wpAny (model prog w) A (Builtin.«type.__call__» ⟨.ref C :: rest, kw⟩) Q E ⟨h, g, d, t, os⟩ := by
  repeat (first
    | with_reducible refine wpAny_loadPart_at hC ?_
    | with_reducible refine wpAny_madeBy_exc hC ?_
    | wp_step)
  refine codeAny_call_builtin_code (Code.quiet_builtin _ F.quiet) (new_checkF F hB hC ?_)
  refine newF F hB hA hN hC ?_ hrest
  show wpAny _ _ _ _ _ _
  have k : ∀ b o, h.get? b = some o → ((h.push (PySem.W.kdv_tup rest)).push (exOb C none h.objs.size)).get? b = some o :=
    fun b o e => Heap.get?_push_of_some _ (Heap.get?_push_of_some _ e)
  have hC1 := k _ _ hC
  have hget : ((h.push (PySem.W.kdv_tup rest)).push (exOb C none h.objs.size)).get? (h.objs.size + 1) =
    some (exOb C none h.objs.size) := by heap_get
  have hcC : (Value.ref C :: bm).contains (.ref C) = true := by simp
  have i1 := hi.keeps k
  have b1 := (hb (.ref (h.objs.size + 1))).keeps k
  unfold isInstance
  repeat (first
    | with_reducible refine wpAny_loadPart_at hget ?_
    | (with_reducible refine wpAny_isSubtype_exc hC1 ?_; rw [hcC])
    | wp_step)
  show wpAny _ _ (typeLookup (.ref C) _) _ _ _
  refine i1.at (wpAny_holding (wpAny_bind (b1.at ?_)))
  refine wpAny_bind (wpAny_call (codeAny_mono hq fun r s' z => ?_))
  match r, z with
  | .error e, z => exact z
  | .ok (.ret v), ⟨hv, z⟩ =>
    subst hv
    first
      | exact wpAny_pure (wpAny_pure z)
      | (wp_walk; exact z)
  | .ok .next, z => exact z.elim
  | .ok .brk, z => exact z.elim
  | .ok .cont, z => exact z.elim

theorem call_ownF (F : ExcBaseFacts B newId initId bmB) (hB : (Value.ref C :: bm).contains (.type B) = true)
    (hA : (Value.ref C :: bm).contains (.type "AttributeError") = false)
    (hN : (Value.ref C :: bm).contains (.type "NameError") = false) {rest : List Value} {fI : Addr}
    (hC : h.get? C = some (excClassObj nm q C N bs bm hdct sn sub ab col dd k0 k1 k2 k3 k5 newId))
    (hi : PySem.W.Looks (model prog w) h (typeLookup (.ref C) "__init__") (some (.ref fI)))
    (hb : ∀ self, PySem.W.Looks (model prog w) h (bindSpecial (.ref fI) self) (.ref fI, [self])) (hrest : rest.length ≤ sizeLine)
    (hq : codeAny (model prog w) (A.under (.builtin "type.__call__" ⟨.ref C :: rest, kw⟩))
      (.call (.ref fI) ⟨.ref (h.objs.size + 1) :: rest, kw⟩) (PySem.W.InitBack (h.objs.size + 1) R)
      ⟨(h.push (PySem.W.kdv_tup rest)).push (exOb C none h.objs.size), g, d, t, os⟩) :
    codeAny (model prog w) A (.call (.ref C) ⟨rest, kw⟩) R ⟨h, g, d, t, os⟩ := by
  have f1 := tc_lookup
  have f2 := tc_bind (.ref C)
  have hTy : (⟨h, g, d, t, os⟩ : Shared).TypeIs (.ref C) "type" := ⟨_, hC, rfl⟩
  refine codeAny_of_tree ?_
  show wpAny _ _ (callAny (.ref C) _) _ _ _
  repeat (any_goals (first
    | assumption
    | with_reducible refine wpAny_loadPart_at hC ?_
    | wp_step))
  refine ⟨rfl, ?_⟩
  refine codeAny_call_builtin_at (Code.quiet_builtin _ (by decide +kernel)) entry_typeCall
    (wpAny_check_type_call_sub hC (type_callF F hB hA hN hC hi hb hrest ?_))
  refine codeAny_mono hq fun r s' z => ?_
  match r, z with
  | .error e, z => exact z
  | .ok (.ret v), z => exact z
  | .ok .next, z => exact z
  | .ok .brk, z => exact z
  | .ok .cont, z => exact z

/-- B.__init__(e, ..): the args are laid anew -/
theorem init_argsF (I : IniF B initId) (hB : (Value.ref C :: bm).contains (.type B) = true) {e t0 : Addr} {rest : List Value}
    (hC : h.get? C = some (excClassObj nm q C N bs bm hdct sn sub ab col dd k0 k1 k2 k3 k5 newId))
    (he : h.get? e = some (exOb C none t0)) (hrest : rest.length ≤ sizeLine)
    (hq : ∀ h' t1, h.objs.size ≤ t1 → (∀ b o, b ≠ e → h.get? b = some o → h'.get? b = some o) →
      h'.get? e = some (exOb C none t1) → h'.get? t1 = some (PySem.W.kdv_tup rest) →
      R (.ok (.ret .none)) ⟨h', g, d, t, os⟩) :
    codeAny (model prog w) A (.call (.builtin initId) ⟨.ref e :: rest, []⟩) R ⟨h, g, d, t, os⟩ := by
  refine codeAny_call_builtin I.plain I.entry ?_
  simp only [checkBuiltinCall, I.kind, I.split, I.row]
  have star := I.star
  repeat (first
    | with_reducible refine wpAny_loadPart_at he ?_
    | with_reducible refine wpAny_loadPart_at hC ?_
    | (with_reducible refine wpAny_isSubtype_exc hC ?_; rw [hB])
    | wp_step)
  refine wpAny_onRaise ?_
  have chk : ∀ (a b : String) (n : Nat), Bind.check ⟨.positional, "*", B, .self, [⟨"args", .varPos, false⟩]⟩ a b n
      (List.map (fun x => x.fst) ({ pos := Value.ref e :: rest } : Args).kw) = pure () :=
    fun a b n => check_star_args _ _ _ _ _ _
  rw [chk]
  refine wpAny_pure ?_
  have hes : e ≠ h.objs.size := Nat.ne_of_lt (Heap.lt_size he)
  wp_walk
  refine hq _ h.objs.size (Nat.le_refl _) (fun b o hb ho => ?_) ?_ ?_
  · exact (Heap.get?_update_other _ _ (Ne.symm hb)).trans (Heap.get?_push_of_some _ ho)
  · exact (Heap.get?_update_self _ (Heap.get?_push_of_some _ he) rfl).trans rfl
  · exact (Heap.get?_update_other _ _ hes).trans (Heap.get?_push_size _ rfl)
end
end Pw

/-! Exceptions of one's own over any of the three bases: stored in, made, read. -/
namespace Pw
open PySem PySem.Spec PyProof.Rows L2

/-- what the written part says of the class at C -/
structure OexF (K : PySem.W.Frag) (C : Addr) : Prop where
  cls : ∃ newId nm q N bs bm sn sub ab col dd k0 k1 k2 k3 k5,
    K.lookup C = some (excClassObj nm q C N bs bm true sn sub ab col dd k0 k1 k2 k3 k5 newId) ∧ Fit newId (.ref C :: bm)
  sa : PySem.W.findIn K (.ref C) "__setattr__" = some (some (.builtin "object.__setattr__"))
  exC : PySem.W.subIn K (.ref C) (.type "BaseException") = some true
  tyC : PySem.W.typeIn K (.ref C) = some (.type "type")
  kC : PySem.W.keepIn K (.ref C) = true

section
variable {prog : Program} {w : World} {A : Around} {R : Result → Shared → Prop} {hp : Heap} {g : Array GenState}
  {d : Drawn} {t : Nat} {os : OsState}
open PySem.Builtin PySem.Builtin.ObjectAttr in
/-- object.__setattr__ on an exception that has no dict yet -/
theorem osaF {K : PySem.W.Frag} {name : Str} {tk : Tok} {v : Value} {x C : Addr} {fv : Array Value} {cd : ClassData}
    (X : K.In hp) (hx : hp.get? x = some { cls := .ref C, data := .fields fv })
    (hcd : PySem.W.clsIn K C = some cd) (hne : cd.mro.isEmpty = false) (hob : cd.mro.contains (.type "object") = true)
    (hps : ∀ self, refuseLoop self "__setattr__" cd.mro = pure ()) (hh : cd.hasDict = true)
    (ha : PySem.W.findIn K (.ref C) name = some none)
    (hq : ∀ h' tk' dx, (∀ b o, b ≠ x → hp.get? b = some o → h'.get? b = some o) → hp.objs.size ≤ dx → dx ≠ x →
      h'.get? x = some { cls := .ref C, dict := some dx, data := .fields fv } →
      h'.Ns1 dx (fun y => if y = name then some v else none) → R (.ok (.ret .none)) ⟨h', g, d, tk', os⟩) :
    codeAny (model prog w) A (.call (.builtin "object.__setattr__") ⟨[.ref x, .str name tk, v], []⟩) R ⟨hp, g, d, t, os⟩ := by
  have I : PySem.W.InstAt hp x { cls := .ref C, data := .fields fv } C none := ⟨hx, rfl, rfl, trivial⟩
  have SF := F.store_object
  have hxs : x ≠ hp.objs.size := Nat.ne_of_lt (Heap.lt_size hx)
  have mo : PySem.W.mroIn K C (.type "object") = some true := by
    unfold PySem.W.mroIn
    rw [hcd, Option.bind_some, if_neg (by rw [hne]; decide), hob]
  have sub : PySem.W.Looks (model prog w) hp (isInstance (.ref x) (.type "object")) true :=
    I.type.andThen (PySem.W.looks_mroIn X mo)
  refine codeAny_call_builtin SF.slot.plain SF.entry ?_
  refine @PySem.W.check_slot (model prog w) _ _ ⟨hp, g, d, t, os⟩ "object.__setattr__" "object" "__setattr__" (.ref x)
    [.str name tk, v] [] _ SF.kind SF.split sub (SF.args (.ref x) (.str name tk) v) ?_
  have hmr : PySem.W.Looks (model prog w) hp (mroOf (.ref C)) cd.mro := (PySem.W.looks_clsIn X hcd).andThen .now
  have nt : PySem.W.Looks (model prog w) hp (storeTaker? none) none := .now
  have lc : PySem.W.Looks (model prog w) hp (classData C) cd := PySem.W.looks_clsIn X hcd
  rw [PySem.W.osa_eq, refuse_eq]
  refine wpAny_bind (wpAny_bind (I.type.at (wpAny_bind (hmr.at ?_))))
  rw [hps]
  refine wpAny_pure (wpAny_bind (I.type.at (wpAny_bind ((PySem.W.looks_findIn X ha).at (wpAny_bind (nt.at ?_))))))
  show wpAny _ _ (storeInOwnDict (.ref x) (.ref C) (.str name tk) name v false) _ _ _
  obtain ⟨nm, bs, mro, ns, qn, hd, sn, sb, ab, col, del⟩ := cd
  dsimp only at hh
  subst hh
  unfold storeInOwnDict ownDictForStores
  repeat (first
    | with_reducible refine PySem.HandSPX.store_in_new ?_ ?_
    | with_reducible refine wpAny_loadPart_at hx ?_
    | with_reducible refine lc.at ?_
    | wp_step)
  · exact ⟨_, #[], _, (Heap.get?_update_ne _ _ _ _ hxs.symm).trans (Heap.get?_push_at rfl rfl), rfl,
      fun e he => absurd he (by simp), fun _ => rfl⟩
  · intro h' tk' hn' hs
    have hx₁ : (hp.push { cls := .type "dict", data := .dict #[] }).get? x = some { cls := .ref C, data := .fields fv } :=
      Heap.get?_push_of_some _ hx
    refine hq h' tk' hp.objs.size (fun b o hb ho => ?_) (Nat.le_refl _) hxs.symm ?_ hn'
    · exact (hs.2 b (Nat.ne_of_lt (Heap.lt_size ho))).trans
        ((Heap.get?_update_ne _ _ _ _ hb).trans (Heap.get?_push_of_some _ ho))
    · exact (hs.2 x hxs).trans (Heap.get?_update_self _ hx₁ rfl)
end

section
variable {X : Cx} {pins : List (Addr × Obj)} {σ : L2.St} {H : Hp} {s : Shared} {a C t1 : Addr} {f : Str} {y : V}
  {u : Value} {E : Value → Shared → Prop} {A : Around}

/-- self.f = y, the first attribute -/
theorem eq_newF {Q : Unit → Shared → Prop} (T : OexF X.K C) (I : Inv X pins σ H s) (e : H a = some (exq a C none t1))
    (hno : PySem.W.findIn X.K (.ref C) f = some none) (ry : RelV y u)
    (h : ∀ dx s', H dx = none → dx ≠ a →
      Inv X pins σ (upd (upd H dx (exd dx [(f, y)])) a (exq a C (some dx) t1)) s' → Q () s') :
    wpAny (model X.prog X.w) A (setAttr (.ref a) f u) Q E s := by
  obtain ⟨newId, nm, q, N, bs, bm, sn, sub, ab, col, dd, k0, k1, k2, k3, k5, hC, ft⟩ := T.cls
  have hcl : PySem.W.clsIn X.K C = some { name := nm, bases := bs, mro := .ref C :: bm, ns := N, qualname := q, hasDict := true, slotNames := sn, subclasses := sub, abstract := ab, collection := col, hasDel := false } := by
    unfold PySem.W.clsIn
    rw [hC] <;> rfl
  have ho := exq_at I.hok e
  obtain ⟨hp, g, d, t, os⟩ := s
  refine PySem.W.set_plain I.kIn (ox := exOb C none t1) (od := none) ⟨ho, rfl, rfl, trivial⟩ T.sa ?_
  refine osaF I.kIn ho hcl rfl ft.obj ft.pass rfl hno (fun h' tk' dx k dn dne hx hn => ?_)
  have hnd : H dx = none := I.hok.fresh dn
  have nd : ∀ {b : Addr} {o : Obj}, hp.get? b = some o → b ≠ dx :=
    fun {b o} q => Nat.ne_of_lt (Nat.lt_of_lt_of_le (Heap.lt_size q) dn)
  have na : ∀ {b : Addr}, H b = none → b ≠ a := fun {b} n z => by rw [z, e] at n; cases n
  have Un1 : Un X.fs [] H (upd (upd H dx (exd dx [(f, y)])) a (exq a C (some dx) t1)) hp h' := {
    keep := fun b o q n _ _ => k b o (na n) q
    slot := fun b o q n _ _ => ⟨o.slots, k b o (na n) q⟩
    free := fun b o q n _ => ((upd_ne (na n)).trans (upd_ne (nd q))).trans n
    there := fun b o q _ => by
      by_cases hb : b = a
      · exact ⟨_, hb ▸ hx⟩
      · exact ⟨o, k b o hb q⟩
    tups := fun b xs q => ((upd_ne (at_ne e q exq_tup)).trans (upd_ne (ne_of_none q hnd))).trans q
    frzs := fun b o v q => ((upd_ne (at_ne e q exq_frz)).trans (upd_ne (ne_of_none q hnd))).trans q
    tbls := fun b ps q => ⟨#[], by rw [upd_ne (at_ne e q exq_tbl), upd_ne (ne_of_none q hnd), q]; simp⟩ }
  refine h dx _ hnd dne (I.un (t' := tk') Un1 fun b o q => ?_)
  by_cases hb : b = a
  · subst hb
    cases upd_same.symm.trans q
    exact exq_ok hx
  · rw [upd_ne hb] at q
    by_cases hd : b = dx
    · subst hd
      cases upd_same.symm.trans q
      exact exd_ok hn (relO_put (fs := []) ry fun g => True.intro)
    · rw [upd_ne hd] at q
      refine (I.hok b o q).stay (fun c v hc z => k c v ?_ z)
        (fun c hc => ((upd_ne (at_ne e hc exq_own)).trans (upd_ne (ne_of_none hc hnd))).trans hc)
        (fun c xs hc => ((upd_ne (at_ne e hc exq_tup)).trans (upd_ne (ne_of_none hc hnd))).trans hc)
      rcases hc with hc | hc
      · exact hc ▸ hb
      · exact at_ne e hc exq_own

/-- what the class stands above, from its own list -/
theorem has_of {K : PySem.W.Frag} {newId : String} {nm q : Str} {N : Addr} {bs bm : List Value} {sn : List Str}
    {sub : List Value} {ab : Bool} {col : Option Bool} {dd : Option Addr} {k0 k1 k2 k3 k5 : Option Value} {T : Value}
    (hC : K.lookup C = some (excClassObj nm q C N bs bm true sn sub ab col dd k0 k1 k2 k3 k5 newId))
    (m : PySem.W.mroIn K C T = some true) : (Value.ref C :: bm).contains T = true := by
  have hcl : PySem.W.clsIn K C = some { name := nm, bases := bs, mro := .ref C :: bm, ns := N, qualname := q, hasDict := true, slotNames := sn, subclasses := sub, abstract := ab, collection := col, hasDel := false } := by
    unfold PySem.W.clsIn
    rw [hC] <;> rfl
  unfold PySem.W.mroIn at m
  rw [hcl, Option.bind_some, if_neg (by show ¬ (false = true); decide)] at m
  exact Option.some.inj m

theorem eq_initF {B initId : String} {us : List Value} {ws : List V} {Q : Value → Shared → Prop} (J : IniF B initId)
    (T : OexF X.K C) (hB : PySem.W.mroIn X.K C (.type B) = some true) (I : Inv X pins σ H s)
    (e : H a = some (exq a C none t1)) (hl : us.length ≤ sizeLine) (rw' : Vals ws us)
    (h : ∀ t2 s', H t2 = none → t2 ≠ a → Inv X pins σ (upd (upd H t2 (.tup ws)) a (exq a C none t2)) s' → Q .none s') :
    wpAny (model X.prog X.w) A (call (.builtin initId) (.ref a :: us)) Q E s := by
  obtain ⟨newId, nm, q, N, bs, bm, sn, sub, ab, col, dd, k0, k1, k2, k3, k5, hC, ft⟩ := T.cls
  have ho := exq_at I.hok e
  obtain ⟨hp, g, d, t, os⟩ := s
  refine wpAny_call (init_argsF J (has_of hC hB) (I.kIn _ _ hC) ho hl fun h' t2 hsz k hx ht => ?_)
  have nt : H t2 = none := I.hok.fresh hsz
  have nea : t2 ≠ a := (ne_of_none e nt).symm
  have na : ∀ {b : Addr}, H b = none → b ≠ a := fun {b} n z => by rw [z, e] at n; cases n
  have nd : ∀ {b : Addr} {o : Obj}, hp.get? b = some o → b ≠ t2 :=
    fun {b o} q => Nat.ne_of_lt (Nat.lt_of_lt_of_le (Heap.lt_size q) hsz)
  have Un1 : Un X.fs [] H (upd (upd H t2 (.tup ws)) a (exq a C none t2)) hp h' := {
    keep := fun b o q n _ _ => k b o (na n) q
    slot := fun b o q n _ _ => ⟨o.slots, k b o (na n) q⟩
    free := fun b o q n _ => ((upd_ne (na n)).trans (upd_ne (nd q))).trans n
    there := fun b o q _ => by
      by_cases hb : b = a
      · exact ⟨_, hb ▸ hx⟩
      · exact ⟨o, k b o hb q⟩
    tups := fun b xs q => ((upd_ne (at_ne e q exq_tup)).trans (upd_ne (ne_of_none q nt))).trans q
    frzs := fun b o v q => ((upd_ne (at_ne e q exq_frz)).trans (upd_ne (ne_of_none q nt))).trans q
    tbls := fun b ps q => ⟨#[], by rw [upd_ne (at_ne e q exq_tbl), upd_ne (ne_of_none q nt), q]; simp⟩ }
  refine h t2 _ nt nea (I.un (t' := t) Un1 fun b o q => ?_)
  by_cases hb : b = a
  · subst hb
    cases upd_same.symm.trans q
    exact exq_ok hx
  · rw [upd_ne hb] at q
    by_cases hd : b = t2
    · subst hd
      cases upd_same.symm.trans q
      exact ⟨by rw [Paired.length rw']; exact hl, us, rw', _, ht, rfl, _, rfl⟩
    · rw [upd_ne hd] at q
      refine (I.hok b o q).stay (fun c v hc z => k c v ?_ z)
        (fun c hc => ((upd_ne (at_ne e hc exq_own)).trans (upd_ne (ne_of_none hc nt))).trans hc)
        (fun c xs hc => ((upd_ne (at_ne e hc exq_tup)).trans (upd_ne (ne_of_none hc nt))).trans hc)
      rcases hc with hc | hc
      · exact hc ▸ hb
      · exact at_ne e hc exq_own
end

/-! ### the rules -/
/-- B.__init__(self, ..) -/
def tBeq (K : PySem.W.Frag) (B : String) (ta : TA) : TE := fun σ H Q => ta σ H fun vs H1 =>
  ∃ (a C t0 : Addr) (ws : List V), vs = .ref a :: ws ∧ ws.length ≤ 1000 ∧ OexF K C ∧
    PySem.W.mroIn K C (.type B) = some true ∧ H1 a = some (exq a C none t0) ∧
    ∀ t2, H1 t2 = none → t2 ≠ a → Q .non (upd (upd H1 t2 (.tup ws)) a (exq a C none t2))
/-- self.f = e, the first attribute -/
def tEstF (K : PySem.W.Frag) (f : Str) (to te : TE) : TS := fun D σ H => te σ H fun y H1 => to σ H1 fun x H2 =>
  ∃ a C t1 : Addr, x = .ref a ∧ OexF K C ∧ PySem.W.findIn K (.ref C) f = some none ∧ H2 a = some (exq a C none t1) ∧
    ∀ dx, H2 dx = none → dx ≠ a → D.nx σ (upd (upd H2 dx (exd dx [(f, y)])) a (exq a C (some dx) t1))
/-- the names of the three bases as the text reads them -/
structure BaseNm (B : String) (x : Str) (initId : String) : Prop where
  ini : IniF B initId
  boot : bootBuiltins x = some (.type B)
  typ : typeOf (.type B) = pure (.type "type")
  stub : Manifest.isStub B = false
  hand : PySem.W.handedIn (.builtin initId) = true
  dbg : (x == ("__debug__" : Str)) = false
  nme : x ≠ "__name__"
theorem nmV : BaseNm "ValueError" "ValueError" "ValueError.__init__" :=
  ⟨iniV, PyProof.Rows.Boot.«ValueError», by kernel_rfl, by decide +kernel, by decide +kernel, by decide, by decide⟩
theorem nmL : BaseNm "LookupError" "LookupError" "LookupError.__init__" :=
  ⟨iniL, by kernel_rfl, by kernel_rfl, by decide +kernel, by decide +kernel, by decide, by decide⟩
theorem nmK : BaseNm "KeyError" "KeyError" "KeyError.__init__" :=
  ⟨iniK, by kernel_rfl, by kernel_rfl, by decide +kernel, by decide +kernel, by decide, by decide⟩

section
variable {X : Cx} {o e : Expr} {es : List Expr} {to te : TE} {ta : TA} {f : Str} {p p' p1 p2 pos : Pos}
theorem pe_beq {B initId : String} {x : Str} {pl : Sem Bool} (N : BaseNm B x initId) (hg : Gl X x) (hm : X.mg x = none)
    (vV : PySem.W.findCls X.K (.type B) (.type "type") "__init__" = some (.val (.builtin initId)))
    (ha : PA X (e :: es) ta)
    (hc : eval (.Call (.Attribute (.Name x p1) "__init__" p2) (e :: es) [] pos) X.env = (do
      let ov ← eval (.Name x p1) X.env
      standAt p2.atName
      let (f, first) ← holding [ov] (getMethod ov "__init__" pl)
      callWith pos f first (backTo pos (starEach (e :: es) X.env)) (backToKw pos (keywordEach [] X.env))) := by rfl)
    (he : starEach (e :: es) X.env = (false, eval e X.env) :: starEach es X.env := by rfl)
    (hpl : (backTo pos (starEach es X.env)).any (·.1) = false := by rfl) :
    PE X (.Call (.Attribute (.Name x p1) "__init__" p2) (e :: es) [] pos) (tBeq X.K B ta) := by
  refine ⟨fun pins s σ H Q I h => ?_⟩
  refine PySem.W.methodCall_KW (ld_blt I hg hm N.boot ?_ N.nme N.dbg) hc
  obtain ⟨m, fr⟩ := I.fr
  refine PySem.W.method_type fr I.ok.mod.kin N.typ N.stub vV N.hand ?_
  refine PyProof.Rows.callWith_method1 (first := []) (thn (ha.run pos pins _ σ H _ (I.tok _) h)
    fun us s1 ⟨vs, H1, I1, r1, a, C, t0, ws, ev, hl, T, hB, ea, q⟩ => ?_) he hpl
  subst ev
  cases r1 with
  | @cons _ u0 _ ur ra rw' =>
    obtain rfl : u0 = Value.ref a := ra
    have hlen : ur.length ≤ sizeLine := by
      rw [← Paired.length rw', sizeLine_eq]
      omega
    exact eq_initF N.ini T hB I1 ea hlen rw' fun t2 s' n1 n2 J => ⟨.non, _, J, rfl, q t2 n1 n2⟩

theorem ps_estF (ho : PE X o to) (he : PE X e te)
    (hs : swapsWith e (some (.Attribute o f p')) pos.line X.env = pure false := by rfl) :
    PS X (.Assign [.Attribute o f p'] e pos) (tEstF X.K f to te) := by
  refine ⟨fun pins s σ H D I h => ?_⟩
  refine plainObj_wpAny_Assign_Attribute (thn (he.run pins s σ H _ I h) fun v s1 ⟨y, H1, I1, r1, q1⟩ =>
    thn (ho.run pins s1 σ H1 _ I1 q1) fun u s2 ⟨x, H2, I2, r2, a, C, t1, ex, T, hno, ea, q⟩ => ?_) hs
  subst ex
  obtain rfl : u = Value.ref a := r2
  exact eq_newF T I2 ea hno r1 fun dx s' n ne J => ⟨σ, _, J, q dx n ne⟩

/-- the class called, its own __init__ keeping sp: us by place, kw by name; as: what its __init__ binds behind self -/
theorem own_call {pins : List (Addr × Obj)} {σ : L2.St} {H1 : Hp} {s1 : Shared} {C fI : Addr} {k : Nat} {CX : CXT} {fd : FuncData}
    {ps : List Str} {sp : Sp} {us as : List Value} {kw : List (Str × Value)} {vs avs : List V} {Q : VK} (T : OexF X.K C)
    (iC : PySem.W.findIn X.K (.ref C) "__init__" = some (some (.ref fI)))
    (tI : PySem.W.typeIn X.K (.ref fI) = some (.type "function"))
    (F1 : FnOk X.prog X.w X.K X.mg X.base CX k fI fd ps sp) (hr : Room (k + 1) X.A)
    (hb : ∀ (s : Shared) (self : Value), X.K.In s.heap → (self :: as).length = ps.length →
      BindsTo s fd ⟨self :: us, kw⟩ (ps.zip (self :: as)))
    (hx : Passes CX X (fun _ _ _ => False)) (I1 : Inv X pins σ H1 s1) (r1 : Vals vs us) (r2 : Vals avs as)
    (hz : vs.length ≤ 1000)
    (q1 : ∀ t0 a, H1 t0 = none → H1 a = none → t0 ≠ a →
      sp (.ref a :: avs) (upd (upd H1 t0 (.tup vs)) a (exq a C none t0))
        (fun v H2 => v = .non ∧ Q (.ref a) H2) (fun _ _ _ => False)) :
    wpAny (model X.prog X.w) X.A (call (.ref C) us kw) (EP X pins σ Q) X.xe s1 := by
  obtain ⟨newId, nm, q, N, bs, bm, sn, sub, ab, col, dd, k0, k1, k2, k3, k5, hC, ft⟩ := T.cls
  obtain ⟨B, i, bmB, EF, hB⟩ := ft.maker
  obtain ⟨hp, g, dr, tk, os⟩ := s1
  have n0 : H1 hp.objs.size = none := I1.hok.fresh (Nat.le_refl _)
  have n1 : H1 (hp.objs.size + 1) = none := I1.hok.fresh (Nat.le_succ _)
  have hne : hp.objs.size ≠ hp.objs.size + 1 := Nat.ne_of_lt (Nat.lt_succ_self _)
  have hq := q1 hp.objs.size (hp.objs.size + 1) n0 n1 hne
  have hus : us.length ≤ sizeLine := by
    rw [← Paired.length r1, sizeLine_eq]
    omega
  have I2 : Inv X pins σ (upd H1 hp.objs.size (.tup vs)) ⟨hp.push (PySem.W.kdv_tup us), g, dr, tk, os⟩ :=
    I1.laid (t' := tk) (a := hp.objs.size) (o := .tup vs) (h' := hp.push (PySem.W.kdv_tup us))
      (fun b o z => Heap.get?_push_of_some _ z) (Nat.le_refl _)
      ⟨by rw [Paired.length r1]; exact hus, us, r1, _, Heap.get?_push_size _ rfl, rfl, _, rfl⟩
  have hget : ((hp.push (PySem.W.kdv_tup us)).push (exOb C none hp.objs.size)).get? (hp.objs.size + 1) =
      some (exOb C none hp.objs.size) := by heap_get
  have hsz2 : (hp.push (PySem.W.kdv_tup us)).objs.size ≤ hp.objs.size + 1 := by
    simp [Heap.push]
  have I3 : Inv X pins σ (upd (upd H1 hp.objs.size (.tup vs)) (hp.objs.size + 1) (exq (hp.objs.size + 1) C none hp.objs.size))
      ⟨(hp.push (PySem.W.kdv_tup us)).push (exOb C none hp.objs.size), g, dr, tk, os⟩ :=
    I2.laid (t' := tk) (a := hp.objs.size + 1) (o := exq (hp.objs.size + 1) C none hp.objs.size)
      (h' := (hp.push (PySem.W.kdv_tup us)).push (exOb C none hp.objs.size))
      (fun b o z => Heap.get?_push_of_some _ z) hsz2 (exq_ok hget)
  have r3 : Vals (V.ref (hp.objs.size + 1) :: avs) (Value.ref (hp.objs.size + 1) :: as) := .cons rfl r2
  have hl : (Value.ref (hp.objs.size + 1) :: as).length = ps.length :=
    r3.length.symm.trans (F1.len _ _ _ _ hq)
  refine wpAny_call (call_ownF EF hB ft.noA ft.noN (I1.kIn _ _ hC) (PySem.W.looks_findIn I1.kIn iC)
    (fun self => PySem.W.bind_fn I1.kIn self tI) hus
    (codeAny_mono (F1.run _ X.stack _ _ ⟨Value.ref (hp.objs.size + 1) :: us, kw⟩
      (Value.ref (hp.objs.size + 1) :: as) _ _ (fun _ _ _ => False) (hr.make C us kw) (I3.env0.make C us kw)
      (hb _ (Value.ref (hp.objs.size + 1)) I3.kIn hl) r3 hq) fun r s' hq' => ?_))
  match r, hq' with
  | .error er, hq' => exact hx pins σ _ _ er s' I3 hq'
  | .ok (.ret u), hq' =>
    obtain ⟨v, H', I4, rv, ev, q3⟩ := I3.after hq'
    subst ev
    exact ⟨rv, ⟨V.ref (hp.objs.size + 1), H', I4, rfl, q3⟩⟩
  | .ok .next, hq' => exact False.elim hq'
  | .ok .brk, hq' => exact False.elim hq'
  | .ok .cont, hq' => exact False.elim hq'

/-- C(e, ..) -/
theorem pe_mkqF {x : Str} {C fI : Addr} {k : Nat} {CX : CXT} {fd : FuncData} {ps : List Str} {sp : Sp}
    {ds : List Value} {dvs : List V} (T : OexF X.K C)
    (iC : PySem.W.findIn X.K (.ref C) "__init__" = some (some (.ref fI)))
    (tI : PySem.W.typeIn X.K (.ref fI) = some (.type "function"))
    (F1 : FnOk X.prog X.w X.K X.mg X.base CX k fI fd ps sp) (hr : Room (k + 1) X.A) (hb : Binds X.K fd ps ds)
    (hd : Vals dvs ds) (hx : Passes CX X (fun _ _ _ => False)) (hg : Gl X x) (hm : X.mg x = some (.ref C))
    (ha : PA X (e :: es) ta) (hdb : (x == ("__debug__" : Str)) = false := by decide)
    (he : starEach (e :: es) X.env = (false, eval e X.env) :: starEach es X.env := by rfl)
    (hpl : (backTo pos (starEach es X.env)).any (·.1) = false := by rfl) :
    PE X (.Call (.Name x p) (e :: es) [] pos) (tMkq C sp dvs ta) := by
  refine ⟨fun pins s σ H Q I h => ?_⟩
  refine wpAny_Call_Name_kw (ld_glob I hg hm ?_ hdb)
  exact PySem.W.callWith_K (h₀ := X.base) I.ok.mod.kin T.kC
    (thn (ha.run pos pins s σ H _ I h) fun us s1 ⟨vs, H1, I1, r1, hz, q1⟩ =>
      ⟨I1.kIn, own_call T iC tI F1 hr (fun s self X hl => hb s (self :: us) X hl) hx I1 r1 (r1.append hd) hz q1⟩) he hpl

/-- C(f = e): by the name of its field -/
def tMkqK (C : Addr) (sp : Sp) (te : TE) : TE := fun σ H Q => tCons te tNil σ H fun zs H1 => ∃ v, zs = [v] ∧
  ∀ t0 a, H1 t0 = none → H1 a = none → t0 ≠ a →
    sp [.ref a, v] (upd (upd H1 t0 (.tup [])) a (exq a C none t0)) (fun v H2 => v = .non ∧ Q (.ref a) H2) (fun _ _ _ => False)
theorem pe_mkqK {x n self : Str} {C fI : Addr} {k : Nat} {CX : CXT} {fd : FuncData} {sp : Sp} {kp : Pos} (T : OexF X.K C)
    (iC : PySem.W.findIn X.K (.ref C) "__init__" = some (some (.ref fI)))
    (tI : PySem.W.typeIn X.K (.ref fI) = some (.type "function"))
    (F1 : FnOk X.prog X.w X.K X.mg X.base CX k fI fd [self, n] sp) (hr : Room (k + 1) X.A)
    (hb : ∀ (s : Shared) (a b : Value), X.K.In s.heap → BindsTo s fd ⟨[a], [(n, b)]⟩ [(self, a), (n, b)])
    (hx : Passes CX X (fun _ _ _ => False)) (hg : Gl X x) (hm : X.mg x = some (.ref C))
    (he : PE X e te) (hdb : (x == ("__debug__" : Str)) = false := by decide)
    (hall : (backToKw pos (keywordEach [⟨some n, e, kp⟩] X.env)).all (·.1.isSome) = true := by rfl)
    (hks : (backToKw pos (keywordEach [⟨some n, e, kp⟩] X.env)).filterMap (·.1) = [n] := by rfl)
    (hpl : ((backTo pos (starEach [] X.env)).any (·.1) || (backToKw pos (keywordEach [⟨some n, e, kp⟩] X.env)).any (·.1.isNone)) = false := by rfl) :
    PE X (.Call (.Name x p) [] [⟨some n, e, kp⟩] pos) (tMkqK C sp te) := by
  refine ⟨fun pins s σ H Q I h => ?_⟩
  refine wpAny_Call_Name_kw (ld_glob I hg hm ?_ hdb)
  refine PySem.W.callWith_KW0 (h₀ := X.base) I.ok.mod.kin T.kC hall ?_ hpl
  have P : PK X [⟨some n, e, kp⟩] (tCons te tNil) := pk_cons he pk_nil
  refine thn (P.run pos pins s σ H _ I h) fun ws s2 ⟨zs, H2, I2, rz, v, ev, q2⟩ => ⟨I2.kIn, ?_⟩
  subst ev
  obtain ⟨u, rfl, ru⟩ : ∃ u, ws = [u] ∧ RelV v u := by
    cases rz with
    | cons r1 r2 => cases r2; exact ⟨_, rfl, r1⟩
  rw [hks]
  exact own_call (us := []) (as := [u]) T iC tI F1 hr (fun s a X _ => hb s a u X) hx I2 .nil (.cons ru .nil) (Nat.zero_le _) q2

/-- e.f, the error at e with its dict -/
def tQget (K : PySem.W.Frag) (f : Str) (te : TE) : TE := fun σ H Q => te σ H fun x H1 =>
  ∃ (a C d t : Addr) (fs : List (Str × V)) (v : V), x = .ref a ∧ XfC K C ∧ PySem.W.findIn K (.ref C) f = some none ∧
    H1 a = some (exq a C (some d) t) ∧ H1 d = some (exd d fs) ∧ fs.lookup f = some v ∧ Q v H1
theorem pe_qget {te : TE} (he : PE X e te)
    (hb : attributeBase e f X.env (eval e X.env) = eval e X.env := by rfl) :
    PE X (.Attribute e f pos) (tQget X.K f te) := by
  refine ⟨fun pins s σ H Q I h => ?_⟩
  refine attr_of hb (thn (he.run pins s σ H _ I h) fun u s1 hh => ?_)
  obtain ⟨x, H1, I1, rx, a, C, dd, t, fs, v, rfl, T, hno, ea, ed, l, q⟩ := hh
  obtain rfl : u = Value.ref a := rx
  obtain ⟨mA, hns, hr⟩ := exd_at I1.hok ed
  obtain ⟨od, ho, hl⟩ := lookIn_ns hns
  obtain ⟨u, hu, ru⟩ := RelO.some_of (v := v) (o := mA f) (by rw [← l]; exact hr f)
  have J : PySem.W.InstAt s1.heap a (exOb C (some dd) t) C (some od) := ⟨exq_at I1.hok ea, rfl, rfl, ho⟩
  exact PySem.HandSPX.exc_get I1.kIn J T.ga T.gg T.exC (PySem.W.findObj_own T.hdC hno rfl (by rw [hl, hu])) (handed_of ru)
    ⟨v, H1, I1.tok _, ru, q⟩
end

/-! ### isinstance, the error may be without a dict -/
inductive TyE (K : PySem.W.Frag) (H : Hp) : V → Value → Prop where
  | base {x : V} {t : Value} (h : TyQ K H x t) : TyE K H x t
  | bare {a D t : Addr} (e : H a = some (exq a D none t)) (c : ExcC K D) : TyE K H (.ref a) (.ref D)
def rIsE2 (K : PySem.W.Frag) : List V → Hp → VK → Prop := fun xs H Q => ∃ (x c : V) (t u : Value) (b : Bool),
  xs = [x, c] ∧ ClsV c u ∧ TyE K H x t ∧ PySem.W.kitOne K t u = some b ∧ Q (.bl b) H
theorem call_ise {X : Cx} : CallR X (.builtin "isinstance") (rIsE2 X.K) := by
  intro pins s σ H xs us Q I r h
  obtain ⟨x, c, t, u, b, rfl, k, ty, e, q⟩ := h
  cases ty with
  | base ty => exact call_isa pins s σ H _ us Q I r ⟨x, c, t, u, b, rfl, k, ty, e, q⟩
  | bare ex C =>
    obtain ⟨u1, u2, rfl, r1, r2⟩ := vals2 r
    obtain rfl := k.eq r2
    obtain rfl : u1 = Value.ref _ := r1
    have ha := exq_at I.hok ex
    refine PySem.W.kia_one (PySem.W.handS_kitx_exc C.hg C.hk C.hs C.hd C.ha C.hn C.ht C.hm) I.kIn ⟨ha, rfl, rfl, trivial⟩ e (fun z => nomatch z)
      fun tk => ⟨.bl b, H, I.tok tk, rfl, q⟩
end Pw

/-! Such an error is raised: what was known of it as a value is let go, its dict stands as an error's dict. -/
namespace Pw
open PySem PySem.Spec PyProof.Rows L2
theorem exd_frz' {e : Addr} {fs : List (Str × V)} {o : Obj} {u : HO} : exd e fs ≠ .frz o u := fun z => by
  have z' : HO.ext _ = HO.frz o u := z
  cases z'
theorem exd_tbl' {e : Addr} {fs : List (Str × V)} {ps : Array Value} : exd e fs ≠ .tbl ps := fun z => by
  have z' : HO.ext _ = HO.tbl ps := z
  cases z'
section
variable {X : Cx} {pins : List (Addr × Obj)} {σ : L2.St} {H : Hp} {s : Shared}
theorem toXd {d : Addr} {fs : List (Str × V)} (I : Inv X pins σ H s) (ed : H d = some (exd d fs)) :
    Inv X pins σ (upd H d (.xd fs)) s := by
  have nd : ∀ {b : Addr}, H b = none → b ≠ d := fun {b} n z => by rw [z, ed] at n; cases n
  have U : Un X.fs [] H (upd H d (.xd fs)) s.heap s.heap := {
    keep := fun b o q n _ _ => q
    slot := fun b o q n _ _ => ⟨o.slots, q⟩
    free := fun b o q n _ => (upd_ne (nd n)).trans n
    there := fun b o q _ => ⟨o, q⟩
    tups := fun b xs q => (upd_ne (at_ne ed q exd_tup)).trans q
    frzs := fun b o v q => (upd_ne (at_ne ed q exd_frz')).trans q
    tbls := fun b ps q => ⟨#[], by rw [upd_ne (at_ne ed q exd_tbl'), q]; simp⟩ }
  have hk : HOk X.prog X.w (upd H d (.xd fs)) s.heap := fun b o q => by
    by_cases hb : b = d
    · subst hb
      cases upd_same.symm.trans q
      exact exd_at I.hok ed
    · rw [upd_ne hb] at q
      exact (I.hok b o q).stay (fun c v _ z => z) (fun c hc => (upd_ne (at_ne ed hc exd_own)).trans hc)
        (fun c xs hc => (upd_ne (at_ne ed hc exd_tup)).trans hc)
  exact I.un (t' := s.toks) U hk
/-- what is asked where such an error is raised -/
def tRq (H0 : Hp) (K0 : PySem.W.Frag) (te : TE) : L2.St → Hp → XK → Prop := fun σ H Q => te σ H fun x H1 => ∃ a C t : Addr, x = .ref a ∧ Fr0 H0 a ∧
  PySem.W.subIn K0 (.ref C) (.type "BaseException") = some true ∧ PySem.W.typeIn K0 (.ref C) = some (.type "type") ∧ ((H1 a = some (exq a C none t) ∧ Q (.ref C) none (delH H1 a)) ∨
    ∃ (d : Addr) (fs : List (Str × V)), d ≠ a ∧ H1 a = some (exq a C (some d) t) ∧ H1 d = some (exd d fs) ∧
      Q (.ref C) (some d) (upd (delH H1 a) d (.xd fs)))
theorem pmk_q {e : Expr} {te : TE} {H0 : Hp} {K0 : PySem.W.Frag} (hH : X.H_0 = H0) (hK : X.K = K0) (hx : X.ex = []) (he : PE X e te) : PMk X e (tRq H0 K0 te) := by
  subst hH
  subst hK
  intro pins s σ H Q I h
  refine wpAny_mono (he.run pins s σ H _ I h) (fun u s1 hu => ?_) fun _ _ x => x
  obtain ⟨v, H1, I1, r1, a, C, t, rfl, h0, r2, r3, q | ⟨d, fs, hda, ea, ed, q⟩⟩ := hu
  · have hr : Raises X (.ref C) := raises_own r2 r3
    obtain ⟨ea, q⟩ := q
    cases r1
    have ho := exq_at I1.hok ea
    obtain ⟨G, gs, ga, J⟩ := I1.untrack ea h0 hx
    exact ⟨a, _, _, { s1 with heap := G }, delH H1 a, .ref C, none, rfl, J, gs, ga, ho, ⟨rfl, rfl⟩, rfl, rfl, delH_same, rfl, I1.bare, hr, q⟩
  · have hr : Raises X (.ref C) := raises_own r2 r3
    cases r1
    have ho := exq_at I1.hok ea
    obtain ⟨G, gs, ga, J⟩ := I1.untrack ea h0 hx
    have J2 := toXd (d := d) (fs := fs) J ((delH_ne hda).trans ed)
    exact ⟨a, _, _, { s1 with heap := G }, upd (delH H1 a) d (.xd fs), .ref C, some d, rfl, J2, gs, ga, ho, ⟨rfl, rfl⟩, rfl, rfl,
      (upd_ne hda.symm).trans delH_same, rfl, I1.bare, hr, q⟩
end
end Pw

/-! A head of which nothing is written out: facts of one's own, each told by a truth over the part of the heap that the names reach. -/
namespace Pw
open PySem PySem.Spec PyProof.Rows L2

section
variable {fb : List Fb} {fn : List He.DefD} {K : PySem.W.Frag}
theorem SaysB.fact (c : SaysB fb fn K) {f : Fb} (i : Nat) (h : fb[i]? = some f) : f K = true := by
  have c1 := (He.ba (show ((fb.all fun f => f K) && fn.all fun d => d.ok K) = true from congrArg (fun z : He.AlD => z.1) c)).1
  exact List.all_eq_true.mp c1 f (List.mem_of_getElem? h)
theorem SaysB.def_ (c : SaysB fb fn K) {d : He.DefD} (i : Nat) (h : fn[i]? = some d) : ∃ fd, FunD K d.name d.qual d.params d.body d.scope (d.dvs K) (d.kws K) (He.fAd K d.at_) fd := by
  have c2 := (He.ba (show ((fb.all fun f => f K) && fn.all fun d => d.ok K) = true from congrArg (fun z : He.AlD => z.1) c)).2
  have e : fn.map (fun d => He.fnW K d.at_) = fn.map He.DefD.val := congrArg (fun z : He.AlD => z.2) c
  have e2 : (fn.map fun d => He.fnW K d.at_)[i]? = (fn.map He.DefD.val)[i]? := by rw [e]
  rw [List.getElem?_map, List.getElem?_map, h] at e2
  exact He.DefD.funD (Option.some.inj e2) (List.all_eq_true.mp c2 d (List.mem_of_getElem? h))
end
/-- a def without defaults, as the layer has it -/
theorem funOf {K : PySem.W.Frag} {x q : Str} {st : Stmt} {f : Addr} {fd : FuncData} (F : FunD K x q (defArgs st) (defBody st) (defScope st) [] [] f fd) : Fun K x q st f fd := by
  obtain ⟨oc, od, dV, kV, doc, pm, an, cdv, ct, osl, e, lk, hcd, hD, _⟩ := F.ex
  rcases hD with ⟨_, rfl⟩ | ⟨h, _⟩
  · subst e
    exact ⟨⟨oc, od, kV, doc, pm, an, cdv, ct, osl, rfl, lk, hcd⟩, F.kp⟩
  · exact absurd rfl h
theorem atOf {K : PySem.W.Frag} {h : Heap} {mg : Str → Option Value} {x : Str} {st : Stmt} (X : K.In h) (G : h.Ns mainGlobals mg) (g : (He.Fa.glo x).ok K = true)
    (F : ∃ fd, FunD K x x (defArgs st) (defBody st) (defScope st) [] [] (He.ga K x) fd) : At K mg x st :=
  let ⟨fd, F⟩ := F
  ⟨_, fd, funOf F, He.glo_ok X G g⟩
/-- a class that is an exception, as it stands -/
def xcB (K : PySem.W.Frag) (C : Addr) (bm : List Value) (newId : String) (x : Str) : Bool := match K.lookup C with
  | some ⟨.type "type", _, .cls cd, sl⟩ => (match sl.toList with
    | [_, _, _, _, some (.builtin n), _] => decide (cd.mro = .ref C :: bm) && (decide (n = newId) && (!cd.hasDel && (cd.hasDict && decide (cd.name = x))))
    | _ => false)
  | _ => false
theorem xcB_ok {K : PySem.W.Frag} {C : Addr} {bm : List Value} {newId : String} {x : Str} (q : xcB K C bm newId x = true) :
    ∃ qn N bs sn sub ab col dd m0 m1 m2 m3 m5, K.lookup C = some (excClassObj x qn C N bs bm true sn sub ab col dd m0 m1 m2 m3 m5 newId) := by
  unfold xcB at q
  split at q
  · rename_i dd cd sl ho
    split at q
    · rename_i k0 k1 k2 k3 n k5 hs
      obtain ⟨nm, bs, mro, ns, qn, hd, sn, sub, ab, col, del⟩ := cd
      simp only [Bool.and_eq_true, decide_eq_true_eq, Bool.not_eq_true'] at q
      obtain ⟨rfl, rfl, rfl, rfl, rfl⟩ := q
      have hsl : sl = #[k0, k1, k2, k3, some (.builtin n), k5] := by
        obtain ⟨l⟩ := sl
        simp only at hs
        rw [hs]
      subst hsl
      exact ⟨qn, ns, bs, sn, sub, ab, col, dd, k0, k1, k2, k3, k5, ho⟩
    · cases q
  · cases q
/-- a law: F gives the written part, the function object, the promise over every base, where nothing is being shown -/
theorem walkE {l : PySem.W.OpenLaw} {n k : Nat} {q : Program} {loose : List Str} {XP : (Str → Option Value) → Heap → Prop} {YP : World → Heap → Prop} {d : DefRec} {CX : CXT} {x : Str}
    (hn : l.most = some n) (hn2 : n ≤ sizeLine) (hdf : d.params.defaults = []) (hr : Room k callerA)
    (F : ∀ (w : World) (mg : Str → Option Value) (fa : Addr) (h : Heap), YP w h → h.Ns mainGlobals mg → mg d.name = some (.ref fa) →
      ∃ (K : PySem.W.Frag) (fd : FuncData) (sp : Sp), K.In h ∧ (∀ (s : Shared) (u : Value), BindsTo s fd ⟨[u], []⟩ [(x, u)]) ∧
        (∀ (H : Hp) (a : Addr) (ns : List Int), ns.length ≤ n → Only H → SqL K H a (ns.map V.int) → sp [.ref a] H (fun v _ => v = .bl true) fun _ _ _ => False) ∧
        ∀ base : Heap, K.In base → base.Ns mainGlobals mg → FnG l.prog w K mg base CX k fa fd [x] sp)
    (hCX : ∀ (H : Hp) (s : Shared) (e : Value) (s' : Shared), CX [] H s (fun _ _ _ => False) e s' → False) :
    PySem.W.WalkO q loose XP YP l.row.toRowW d [] (fun f vs => PySem.call f vs) := by
  refine Att.attach_call hn hdf fun w s₀ s₁ mg mb fa o pm cd doc a vs ns G Y ho hd hcd hmg hobj hints hlen hg => ?_
  obtain ⟨K, fd, sp, KX, hb, hsp, hF⟩ := F w mg fa _ Y G.T.g hmg
  exact law_callG KX G.T.g G.T.b G.T.builtins G.T.nolimit hg hobj hints (Nat.le_trans hlen hn2) hr hF hb (fun H hO hS => hsp H a ns hlen hO hS) fun H e s' => hCX H s₁ e s'
end Pw

/-! Own errors raised, let through, and held by a suite. -/
namespace Pw
open PySem PySem.Spec PyProof.Rows L2
theorem kit_xd {K : PySem.W.Frag} {x D : Addr} {ox oD : Obj} (C : ExcC K D) :
    PySem.W.KitX K (.ref x) (.ref D) (fun h => PySem.W.InstAt h x ox D (some oD)) where
  ty := fun _ _ _ I => I.type
  it := fun M h X _ => by
    obtain ⟨cd, hc⟩ := Option.isSome_iff_exists.mp (cls_of_dict C.hd)
    unfold PySem.W.clsIn at hc
    split at hc
    · rename_i ho
      intro A' Q' E' s' k q
      unfold isType loadHead
      exact wpAny_bind (wpAny_loadPart (k _ _ (X _ _ ho)) (wpAny_pure q))
    · cases hc
  ne := fun h tp dd its n sl X htp => by
    obtain ⟨cd, hc⟩ := Option.isSome_iff_exists.mp (cls_of_dict C.hd)
    refine Bool.eq_false_iff.mpr fun q => ?_
    obtain rfl : D = tp := Value.ref.inj (beq_iff_eq.mp q)
    unfold PySem.W.clsIn at hc
    split at hc
    · rename_i ho
      cases (X _ _ ho).symm.trans htp
    · cases hc
  ca := fun X I k => PySem.W.pw_class C.hg C.hk C.hs
    (PySem.W.findObj_data (cls_of_dict C.hd) C.ha C.hn C.ht) C.hm X I k
/-- isinstance(e, c), e the error that the suite holds, with its dict -/
def rIsD (K : PySem.W.Frag) (a : Addr) (cls : Value) (d : Option Addr) : List V → Hp → VK → Prop := fun xs H Q => ∃ (D dd : Addr) (fs : List (Str × V)) (c : V) (cv : Value) (b : Bool),
  cls = .ref D ∧ d = some dd ∧ ExcC K D ∧ xs = [.ref a, c] ∧ (∀ u, RelV c u → u = cv) ∧ PySem.W.kitOne K (.ref D) cv = some b ∧ H dd = some (.xd fs) ∧ Q (.bl b) H
theorem call_isD {X : Cx} {a : Addr} {oe : Obj} {cls : Value} {d : Option Addr} {pn : List (Addr × Obj)} (hz : Zc cls d oe) (hf : ∃ vs, oe.data = .fields vs) :
    CallR (X.suite a ((a, oe) :: pn)) (.builtin "isinstance") (rIsD X.K a cls d) := by
  intro pins s σ H xs us Q I r h
  obtain ⟨D, dd, fs, c, cv, b, rfl, rfl, C, rfl, hcv, e, ed, q⟩ := h
  cases r with
  | cons rx rr =>
    cases rr with
    | cons rt rr =>
      cases rr
      cases rx
      have ec := hcv _ rt
      subst ec
      obtain ⟨hget, _⟩ := I.pin (a, oe) (List.mem_append.mpr (.inl List.mem_cons_self))
      obtain ⟨vs, hv⟩ := hf
      have hx : ObjOk X.prog X.w H s.heap dd (.xd fs) := I.hok dd _ ed
      obtain ⟨mA, hns, hr⟩ := hx
      obtain ⟨od, ho, hl⟩ := lookIn_ns hns
      have J : PySem.W.InstAt s.heap a oe D (some od) := ⟨hget, hz.1, by unfold PySem.W.notCls; rw [hv] <;> rfl, by rw [hz.2]; exact ho⟩
      exact PySem.W.kia_one (kit_xd C) I.kIn J e (fun z => nomatch z) fun tk => ⟨.bl b, H, I.kept (t' := tk) fun _ _ z => z, rfl, q⟩
/-- a family of refusals, by its name: read as a class, and made -/
structure Fam (K : PySem.W.Frag) (mg : Str → Option Value) (x : Str) (q : Str) (B : String) (st : Stmt) (C f : Addr) : Prop where
  mgC : mg x = some (.ref C)
  oex : OexF K C
  hB : PySem.W.mroIn K C (.type B) = some true
  sg : PySem.W.specialIn K (.ref C) "__getattribute__" = some (some (.builtin "type.__getattribute__"))
  rd : PySem.W.readsIn K C (.type "type") = true
  at_ : PySem.W.findCls K (.ref C) (.type "type") "__init__" = some (.val (.ref f))
  iC : PySem.W.findIn K (.ref C) "__init__" = some (some (.ref f))
  tI : PySem.W.typeIn K (.ref f) = some (.type "function")
  fn : ∃ fd, Fun K "__init__" q st f fd
/-- how a built-in base's __init__ is read -/
structure Bas (K : PySem.W.Frag) (mg : Str → Option Value) (B : String) (x : Str) (initId : String) : Prop where
  nm : BaseNm B x initId
  free : mg x = none
  vV : PySem.W.findCls K (.type B) (.type "type") "__init__" = some (.val (.builtin initId))
/-- a refusal's class as it stands -/
structure Cl (K : PySem.W.Frag) (mg : Str → Option Value) (x q field : Str) (B : String) (st : Stmt) (C : Addr) : Prop where
  mgC : mg x = some (.ref C)
  oex : OexF K C
  hB : PySem.W.mroIn K C (.type B) = some true
  nF : PySem.W.findIn K (.ref C) field = some none
  fn : ∃ f fd, PySem.W.findIn K (.ref C) "__init__" = some (some (.ref f)) ∧
    PySem.W.typeIn K (.ref f) = some (.type "function") ∧ Fun K "__init__" q st f fd

section
variable {P : Program} {w : World} {K : PySem.W.Frag} {mg : Str → Option Value} {base : Heap}
/-- a family's __init__(self, text) -/
def spFam (K : PySem.W.Frag) (B : String) : Sp := fun vs H Q _ => ∃ a C t0 x, vs = [.ref a, .str x] ∧ OexF K C ∧
  PySem.W.mroIn K C (.type B) = some true ∧ H a = some (exq a C none t0) ∧
  ∀ t2, H t2 = none → t2 ≠ a → Q .non (upd (upd H t2 (.tup [.str x])) a (exq a C none t2))
/-- a refusal's __init__(self, field): the text x0 becomes its args -/
def spX (K : PySem.W.Frag) (B : String) (field x0 : Str) : Sp := fun vs H Q _ => ∃ a C t0 y, vs = [.ref a, y] ∧ OexF K C ∧
  PySem.W.mroIn K C (.type B) = some true ∧ H a = some (exq a C none t0) ∧
  PySem.W.findIn K (.ref C) field = some none ∧
  ∀ t2 dx, H t2 = none → t2 ≠ a → H dx = none → dx ≠ a → dx ≠ t2 →
    Q .non (upd (upd (upd (upd H t2 (.tup [.str x0])) a (exq a C none t2)) dx (exd dx [(field, y)])) a (exq a C (some dx) t2))
theorem fin_x {field x0 : Str} {H : Hp} {a C : Addr} {y : V} {Q : V → Hp → Prop} {σ : L2.St}
    {D : Ends} (hD : ∀ H', Q .non H' → D.nx σ H')
    (k : ∀ t2 dx, H t2 = none → t2 ≠ a → H dx = none → dx ≠ a → dx ≠ t2 →
      Q .non (upd (upd (upd (upd H t2 (.tup [.str x0])) a (exq a C none t2)) dx (exd dx [(field, y)])) a (exq a C (some dx) t2)))
    {t2 : Addr} (n2 : H t2 = none) (ne : t2 ≠ a) {dx : Addr}
    (nx : upd (upd H t2 (.tup [.str x0])) a (exq a C none t2) dx = none) (nxa : dx ≠ a) :
    D.nx σ (upd (upd (upd (upd H t2 (.tup [.str x0])) a (exq a C none t2)) dx (exd dx [(field, y)])) a (exq a C (some dx) t2)) := by
  have e1 : dx ≠ t2 := fun z => by
    rw [z, upd_ne ne, upd_same] at nx
    cases nx
  have e2 : H dx = none := by
    rw [upd_ne nxa, upd_ne e1] at nx
    exact nx
  exact hD _ (k t2 dx n2 ne e2 nxa e1)
end
/-- the same, K told -/
theorem call_isDK {X : Cx} {K : PySem.W.Frag} {a : Addr} {oe : Obj} {cls : Value} {d : Option Addr} {pn : List (Addr × Obj)} (hK : X.K = K) (hz : Zc cls d oe) (hf : ∃ vs, oe.data = .fields vs) :
    CallR (X.suite a ((a, oe) :: pn)) (.builtin "isinstance") (rIsD K a cls d) := by
  subst hK
  exact call_isD hz hf
theorem call_reprK {X : Cx} {K : PySem.W.Frag} (hK : X.K = K) (gd : X.A.guards = some []) (hu : X.A.units + 64 < cLine) : CallR X (.builtin "repr") (rRepr K) := by
  subst hK
  exact call_repr gd hu
/-! ### defs that let errors out -/
section
variable (P : Program) (w : World) (K : PySem.W.Frag) (mg : Str → Option Value) (base : Heap)
/-- under its name x a def stands that keeps the promise sp, errors too; ds fill up what is left out -/
structure DefE (x : Str) (k : Nat) (ps : List Str) (ds : List V) (sp : Sp) : Prop where
  ex : ∃ f fd us, mg x = some (.ref f) ∧ PySem.W.keepIn K (.ref f) = true ∧ Vals ds us ∧ Binds K fd ps us ∧
    FnOk P w K mg base (L2.CX P w) k f fd ps sp
end
section
variable {P : Program} {w : World} {K : PySem.W.Frag} {mg : Str → Option Value} {base : Heap}
theorem mkDefE {x : Str} {st : Stmt} {N ps : List Str} {k : Nat} {sp : Sp} (A : At K mg x st)
    (S : FnScope N ps (defScope st))
    (hb : ∀ (kV doc pm : Value) (an : Option Addr) (cdv ct : Value) (us : List Value), us.length = ps.length →
      bindArgs (PySem.W.fnOf x x (defArgs st) (defBody st) (defScope st) .none kV doc pm an cdv ct) ⟨us, []⟩ = pure (ps.zip us))
    (len : ∀ vs H Q E, sp vs H Q E → vs.length = ps.length)
    (body : ∀ (f : Addr) (cdv : Value) (A : Around) (out : List Env) (s : Shared) (H : Hp) (vs : List V) (Q : VK) (E : XK),
      Room k (A.deeper (envOfC x (defScope st) s.heap.objs.size f cdv)) → sp vs H Q E →
      ∃ t, PSs (cxOf (L2.CX P w) P w K mg base N x (defScope st) f cdv A out s H E) (defBody st) t ∧
        t { nx := fun _ H' => Q .non H', rt := Q } (start N vs) H) : DefE P w K mg base x (k + 1) ps [] sp := by
  obtain ⟨f, fd, F, m⟩ := A.ex
  exact ⟨f, fd, [], m, F.kp, .nil, F.binds hb, F.okX S len (body f)⟩
theorem mkDefED {x : Str} {st : Stmt} {kws : List (Str × V)} {N ps : List Str} {k n : Nat} {sp : Sp} (A : AtD K mg x st kws)
    (S : FnScope N ps (defScope st)) (hk : kws ≠ []) (hn : n + kws.length = ps.length)
    (hb : ∀ (D : Addr) (doc pm : Value) (an : Option Addr) (cdv ct : Value) (us ks : List Value), us.length = n → ks.length = kws.length →
      KwChain D ((kws.map (·.1)).zip ks) (bindArgs (PySem.W.fnOf x x (defArgs st) (defBody st) (defScope st) .none (.ref D) doc pm an cdv ct) ⟨us, []⟩) (ps.zip (us ++ ks)))
    (len : ∀ vs H Q E, sp vs H Q E → vs.length = ps.length)
    (body : ∀ (f : Addr) (cdv : Value) (A : Around) (out : List Env) (s : Shared) (H : Hp) (vs : List V) (Q : VK) (E : XK),
      Room k (A.deeper (envOfC x (defScope st) s.heap.objs.size f cdv)) → sp vs H Q E →
      ∃ t, PSs (cxOf (L2.CX P w) P w K mg base N x (defScope st) f cdv A out s H E) (defBody st) t ∧
        t { nx := fun _ H' => Q .non H', rt := Q } (start N vs) H) : DefE P w K mg base x (k + 1) ps (kws.map (·.2)) sp := by
  obtain ⟨f, fd, F, m⟩ := A.ex
  obtain ⟨us, hv, b⟩ := F.binds0 n hk hn hb
  exact ⟨f, fd, us, m, F.kp, hv, b, F.ok S len fun cdv A out s H vs Q E hr hs => body f cdv A out s H vs Q E hr hs⟩
end
theorem pe_dE {X : Cx} {x : Str} {k j : Nat} {ps : List Str} {ds : List V} {sp : Sp} {W : WX} {p pos : Pos} {e : Expr} {es : List Expr} {t : TA}
    (D : DefE X.prog X.w X.K X.mg X.base x k ps ds sp) (tk : Takes X W) (hr : Room j X.A) (hk : k ≤ j) (hg : Gl X x) (ha : PA X (e :: es) t)
    (hdb : (x == ("__debug__" : Str)) = false := by decide)
    (he : starEach (e :: es) X.env = (false, eval e X.env) :: starEach es X.env := by rfl)
    (hpl : (backTo pos (starEach es X.env)).any (·.1) = false := by rfl) :
    PE X (.Call (.Name x p) (e :: es) [] pos) (tCallSD sp ds (WE W) t) := by
  obtain ⟨f, fd, us, m, kp, hv, b, F⟩ := D.ex
  exact pe_callSD F (hr.mono hk) hg m kp b hv (passAt tk) ha hdb he hpl
end Pw

/-! What a head by facts tells of own errors. -/
namespace Pw
open PySem PySem.Spec PyProof.Rows L2
/-- a class as it stands: what it stands above -/
structure Look (K : PySem.W.Frag) (C : Addr) (m : List Value) : Prop where
  cls : ∃ cd, PySem.W.clsIn K C = some cd ∧ cd.mro = .ref C :: m
  tyC : PySem.W.typeIn K (.ref C) = some (.type "type")
section
variable {K : PySem.W.Frag} {C D : Addr} {m m' : List Value}
theorem Look.mro (h : Look K C m) (v : Value) : PySem.W.mroIn K C v = some ((Value.ref C :: m).contains v) := by
  obtain ⟨cd, h1, h2⟩ := h.cls
  unfold PySem.W.mroIn
  rw [h1, Option.bind_some, h2]
  rfl
theorem Look.kit (h : Look K C m) (g : Look K D m') :
    PySem.W.kitOne K (.ref C) (.ref D) = some ((Value.ref C :: m).contains (.ref D)) := by
  obtain ⟨cd, h1, h2⟩ := g.cls
  unfold PySem.W.kitOne PySem.W.kitCls
  by_cases e : (Value.ref C == Value.ref D) = true
  · rw [if_pos e]
    obtain rfl := Value.ref.inj (beq_iff_eq.mp e)
    simp
  · rw [if_neg e]
    have e2 : ((PySem.W.clsIn K D).isSome && PySem.W.typeIn K (.ref D) == some (.type "type")) = true := by
      rw [h1, g.tyC]
      rfl
    simp only [e2, if_true]
    exact h.mro _
theorem Look.exm (h : Look K C m) (g : Look K D m') (hb : m'.contains (.type "BaseException") = true) (hne : C ≠ D) :
    PySem.W.exmOne K (.ref C) (.ref D) = some ((Value.ref C :: m).contains (.ref D)) := by
  obtain ⟨cd, h1, h2⟩ := g.cls
  have e2 : ((PySem.W.clsIn K D).isSome && PySem.W.typeIn K (.ref D) == some (.type "type")) = true := by
    rw [h1, g.tyC]
    rfl
  have e1 : PySem.W.subIn K (.ref D) (.type "BaseException") = some true := by
    show PySem.W.mroIn K D _ = _
    rw [g.mro, List.contains_cons, hb, Bool.or_true]
  unfold PySem.W.exmOne PySem.W.kitCls
  rw [e1, if_pos (by decide)]
  simp only [e2, if_true]
  exact h.mro _
theorem Look.exs (g : Look K D m') (hb : m'.contains (.type "BaseException") = true) :
    PySem.W.exmOne K (.ref D) (.ref D) = some true := by
  obtain ⟨cd, h1, h2⟩ := g.cls
  have e2 : ((PySem.W.clsIn K D).isSome && PySem.W.typeIn K (.ref D) == some (.type "type")) = true := by
    rw [h1, g.tyC]
    rfl
  have e1 : PySem.W.subIn K (.ref D) (.type "BaseException") = some true := by
    show PySem.W.mroIn K D _ = _
    rw [g.mro, List.contains_cons, hb, Bool.or_true]
  unfold PySem.W.exmOne PySem.W.kitCls
  rw [e1, if_pos (by decide)]
  simp only [e2, if_true]
  show PySem.W.mroIn K D _ = _
  rw [g.mro]
  simp
theorem Look.kitT (h : Look K C m) {T : String} (hk : PySem.W.kitMeta T = true) :
    PySem.W.kitOne K (.ref C) (.type T) = some (m.contains (.type T)) := by
  have e : (Value.ref C == Value.type T) = false := rfl
  unfold PySem.W.kitOne PySem.W.kitCls
  rw [e, if_neg Bool.false_ne_true]
  simp only [hk, if_true]
  show PySem.W.mroIn K C _ = _
  have e' : (Value.type T == Value.ref C) = false := rfl
  rw [h.mro, List.contains_cons, e', Bool.false_or]
end

section
variable {K : PySem.W.Frag} {mg : Str → Option Value} {h : Heap}
/-- what is the same of all errors -/
structure MethO (K : PySem.W.Frag) : Prop where
  hn : PySem.W.specialIn K (.builtin "object.__class__") "__get__" = some (some (.builtin "getset_descriptor.__get__"))
  ht : PySem.W.takesIn K (.builtin "object.__class__") = some true
theorem look_mk {x qn : Str} {C N : Addr} {bs bm : List Value} {sn : List Str} {sub : List Value} {ab : Bool} {col : Option Bool} {dd : Option Addr} {m0 m1 m2 m3 m5 : Option Value} {newId : String}
    (xL : K.lookup C = some (excClassObj x qn C N bs bm true sn sub ab col dd m0 m1 m2 m3 m5 newId))
    (tC : PySem.W.typeIn K (.ref C) = some (.type "type")) : Look K C bm :=
  ⟨⟨{ name := x, bases := bs, mro := .ref C :: bm, ns := N, qualname := qn, hasDict := true, slotNames := sn, subclasses := sub, abstract := ab, collection := col, hasDel := false },
    by unfold PySem.W.clsIn; rw [xL] <;> rfl, rfl⟩, tC⟩
theorem cl_mk {x q field qn : Str} {B newId : String} {st : Stmt} {C CB f N : Addr} {bs tl : List Value} {sn : List Str} {sub : List Value} {ab : Bool} {col : Option Bool} {dd : Option Addr} {m0 m1 m2 m3 m5 : Option Value}
    {oc : Value} {od an : Option Addr} {osl : Array (Option Value)} {kV doc pm cdv ct : Value} (X : K.In h) (G : h.Ns mainGlobals mg) (F : Fit newId tl) (hBt : tl.contains (.type B) = true) (hOb : tl.contains (.type "object") = true) (M : MethO K)
    (aC : PySem.W.nsIn K mainGlobals x = some (some (.ref C)))
    (xL : K.lookup C = some (excClassObj x qn C N bs (.ref CB :: tl) true sn sub ab col dd m0 m1 m2 m3 m5 newId))
    (sa : PySem.W.findIn K (.ref C) "__setattr__" = some (some (.builtin "object.__setattr__")))
    (eC : PySem.W.subIn K (.ref C) (.type "BaseException") = some true) (tC : PySem.W.typeIn K (.ref C) = some (.type "type"))
    (kC : PySem.W.keepIn K (.ref C) = true) (i1 : PySem.W.findIn K (.ref C) "__init__" = some (some (.ref f)))
    (t1 : PySem.W.typeIn K (.ref f) = some (.type "function"))
    (l1 : K.lookup f = some ⟨oc, od, .func (PySem.W.fnOf "__init__" q (defArgs st) (defBody st) (defScope st) .none kV doc pm an cdv ct), osl⟩)
    (c1 : PySem.W.codeIn K cdv q = true) (k1 : PySem.W.keepIn K (.ref f) = true)
    (hg : PySem.W.findIn K (.ref C) "__getattribute__" = some (some (.builtin "BaseException.__getattribute__")))
    (hk : PySem.W.findIn K (.ref C) "__getattr__" = some none) (hd : PySem.W.hasDictIn K C = true)
    (ha : PySem.W.findIn K (.ref C) "__class__" = some (some (.builtin "object.__class__")))
    (nF : PySem.W.findIn K (.ref C) field = some none) : Cl K mg x q field B st C ∧ Look K C (.ref CB :: tl) ∧ ExcC K C := by
  have L := look_mk xL tC
  refine ⟨⟨PySem.W.mg_of X G aC, ⟨⟨newId, x, qn, N, bs, _, sn, sub, ab, col, dd, m0, m1, m2, m3, m5, xL, (F.up CB).up C⟩, sa, eC, tC, kC⟩, ?_, nF, f, _, i1, t1, fun_mk (st := st) l1 c1 k1⟩,
    L, ⟨hg, hk, eC, hd, ha, M.hn, M.ht, ?_⟩⟩
  · rw [L.mro, List.contains_cons, List.contains_cons, hBt, Bool.or_true, Bool.or_true]
  · rw [L.mro, List.contains_cons, List.contains_cons, hOb, Bool.or_true, Bool.or_true]
theorem fam_mk {x q qn : Str} {B newId : String} {st : Stmt} {C f N : Addr} {bs tl : List Value} {sn : List Str} {sub : List Value} {ab : Bool} {col : Option Bool} {dd : Option Addr} {m0 m1 m2 m3 m5 : Option Value}
    {oc : Value} {od an : Option Addr} {osl : Array (Option Value)} {kV doc pm cdv ct : Value} (X : K.In h) (G : h.Ns mainGlobals mg) (F : Fit newId tl) (hBt : tl.contains (.type B) = true) (hOb : tl.contains (.type "object") = true) (M : MethO K)
    (aC : PySem.W.nsIn K mainGlobals x = some (some (.ref C)))
    (xL : K.lookup C = some (excClassObj x qn C N bs tl true sn sub ab col dd m0 m1 m2 m3 m5 newId))
    (sa : PySem.W.findIn K (.ref C) "__setattr__" = some (some (.builtin "object.__setattr__")))
    (eC : PySem.W.subIn K (.ref C) (.type "BaseException") = some true) (tC : PySem.W.typeIn K (.ref C) = some (.type "type"))
    (kC : PySem.W.keepIn K (.ref C) = true) (i1 : PySem.W.findIn K (.ref C) "__init__" = some (some (.ref f)))
    (t1 : PySem.W.typeIn K (.ref f) = some (.type "function"))
    (l1 : K.lookup f = some ⟨oc, od, .func (PySem.W.fnOf "__init__" q (defArgs st) (defBody st) (defScope st) .none kV doc pm an cdv ct), osl⟩)
    (c1 : PySem.W.codeIn K cdv q = true) (k1 : PySem.W.keepIn K (.ref f) = true)
    (hg : PySem.W.findIn K (.ref C) "__getattribute__" = some (some (.builtin "BaseException.__getattribute__")))
    (hk : PySem.W.findIn K (.ref C) "__getattr__" = some none) (hd : PySem.W.hasDictIn K C = true)
    (ha : PySem.W.findIn K (.ref C) "__class__" = some (some (.builtin "object.__class__")))
    (sg : PySem.W.specialIn K (.ref C) "__getattribute__" = some (some (.builtin "type.__getattribute__")))
    (rd : PySem.W.readsIn K C (.type "type") = true)
    (at_ : PySem.W.findCls K (.ref C) (.type "type") "__init__" = some (.val (.ref f))) : Fam K mg x q B st C f ∧ Look K C tl ∧ ExcC K C := by
  have L := look_mk xL tC
  refine ⟨⟨PySem.W.mg_of X G aC, ⟨⟨newId, x, qn, N, bs, _, sn, sub, ab, col, dd, m0, m1, m2, m3, m5, xL, F.up C⟩, sa, eC, tC, kC⟩, ?_, sg, rd, at_, i1, t1, _, fun_mk (st := st) l1 c1 k1⟩,
    L, ⟨hg, hk, eC, hd, ha, M.hn, M.ht, ?_⟩⟩
  · rw [L.mro, List.contains_cons, hBt, Bool.or_true]
  · rw [L.mro, List.contains_cons, hOb, Bool.or_true]
end
def iniB (B initId : String) : Fb := fun K => match PySem.W.findCls K (.type B) (.type "type") "__init__" with
  | some (.val v) => decide (v = .builtin initId)
  | _ => false
def clC (x : Str) : Fb := fun K => He.eqO (PySem.W.findIn K (.ref (He.ga K x)) "__setattr__") (some (some (.builtin "object.__setattr__"))) &&
  (decide (PySem.W.subIn K (.ref (He.ga K x)) (.type "BaseException") = some true) && (decide (PySem.W.typeIn K (.ref (He.ga K x)) = some (.type "type")) && (PySem.W.keepIn K (.ref (He.ga K x)) &&
  (He.eqO (PySem.W.findIn K (.ref (He.ga K x)) "__init__") (some (some (.ref (He.ma K (He.ga K x) "__init__")))) && (decide (PySem.W.typeIn K (.ref (He.ma K (He.ga K x) "__init__")) = some (.type "function")) &&
  (He.eqO (PySem.W.findIn K (.ref (He.ga K x)) "__getattribute__") (some (some (.builtin "BaseException.__getattribute__"))) && (He.eqO (PySem.W.findIn K (.ref (He.ga K x)) "__getattr__") (some none) &&
  (PySem.W.hasDictIn K (He.ga K x) && He.eqO (PySem.W.findIn K (.ref (He.ga K x)) "__class__") (some (some (.builtin "object.__class__")))))))))))
def clB (x fam field : Str) (tl : List Value) (newId : String) : Fb := fun K => (He.Fa.glo x).ok K && (xcB K (He.ga K x) (.ref (He.ga K fam) :: tl) newId x && (clC x K &&
  He.eqO (PySem.W.findIn K (.ref (He.ga K x)) field) (some none)))
def fmB (x : Str) (tl : List Value) (newId : String) : Fb := fun K => (He.Fa.glo x).ok K && (xcB K (He.ga K x) tl newId x && (clC x K &&
  (He.eqO (PySem.W.specialIn K (.ref (He.ga K x)) "__getattribute__") (some (some (.builtin "type.__getattribute__"))) && (PySem.W.readsIn K (He.ga K x) (.type "type") &&
  (match PySem.W.findCls K (.ref (He.ga K x)) (.type "type") "__init__" with
  | some (.val v) => decide (v = .ref (He.ma K (He.ga K x) "__init__"))
  | _ => false)))))
abbrev dfI (x q : Str) (st : Stmt) : He.DefD := ⟨(x, some "__init__"), "__init__", q, defArgs st, defBody st, defScope st, [], []⟩
section
variable {K : PySem.W.Frag} {h : Heap} {mg : Str → Option Value}
theorem iniB_ok {B initId : String} (c : iniB B initId K = true) : PySem.W.findCls K (.type B) (.type "type") "__init__" = some (.val (.builtin initId)) := by
  unfold iniB at c
  split at c
  · rename_i v e
    rw [e, of_decide_eq_true c]
  · cases c
theorem clB_ok {x q field fam : Str} {B newId : String} {st : Stmt} {tl : List Value} (X : K.In h) (G : h.Ns mainGlobals mg) (F : Fit newId tl) (hBt : tl.contains (.type B) = true) (hOb : tl.contains (.type "object") = true) (M : MethO K)
    (c : clB x fam field tl newId K = true) (D : ∃ fd, FunD K "__init__" q (defArgs st) (defBody st) (defScope st) [] [] (He.ma K (He.ga K x) "__init__") fd) :
    Cl K mg x q field B st (He.ga K x) ∧ Look K (He.ga K x) (.ref (He.ga K fam) :: tl) ∧ ExcC K (He.ga K x) := by
  obtain ⟨c1, c⟩ := He.ba c
  obtain ⟨c2, c⟩ := He.ba c
  obtain ⟨c3, c4⟩ := He.ba c
  obtain ⟨e1, c3⟩ := He.ba c3
  obtain ⟨e2, c3⟩ := He.ba c3
  obtain ⟨e3, c3⟩ := He.ba c3
  obtain ⟨e4, c3⟩ := He.ba c3
  obtain ⟨e5, c3⟩ := He.ba c3
  obtain ⟨e6, c3⟩ := He.ba c3
  obtain ⟨e7, c3⟩ := He.ba c3
  obtain ⟨e8, c3⟩ := He.ba c3
  obtain ⟨e9, e10⟩ := He.ba c3
  obtain ⟨qn, N, bs, sn, sub, ab, col, dd, m0, m1, m2, m3, m5, xL⟩ := xcB_ok c2
  obtain ⟨fd, DF⟩ := D
  obtain ⟨oc, od, dV, kV, doc, pm, an, cdv, ct, osl, rfl, lk, hcd, hD, _⟩ := DF.ex
  rcases hD with ⟨_, rfl⟩ | ⟨z, _⟩
  · exact cl_mk X G F hBt hOb M (He.eqO_ok c1) xL (He.eqO_ok e1) (of_decide_eq_true e2) (of_decide_eq_true e3) e4 (He.eqO_ok e5) (of_decide_eq_true e6) lk hcd DF.kp (He.eqO_ok e7) (He.eqO_ok e8) e9 (He.eqO_ok e10) (He.eqO_ok c4)
  · exact absurd rfl z
theorem fmB_ok {x q : Str} {B newId : String} {st : Stmt} {tl : List Value} (X : K.In h) (G : h.Ns mainGlobals mg) (F : Fit newId tl) (hBt : tl.contains (.type B) = true) (hOb : tl.contains (.type "object") = true) (M : MethO K)
    (c : fmB x tl newId K = true) (D : ∃ fd, FunD K "__init__" q (defArgs st) (defBody st) (defScope st) [] [] (He.ma K (He.ga K x) "__init__") fd) :
    Fam K mg x q B st (He.ga K x) (He.ma K (He.ga K x) "__init__") ∧ Look K (He.ga K x) tl ∧ ExcC K (He.ga K x) := by
  obtain ⟨c1, c⟩ := He.ba c
  obtain ⟨c2, c⟩ := He.ba c
  obtain ⟨c3, c⟩ := He.ba c
  obtain ⟨s1, c⟩ := He.ba c
  obtain ⟨s2, s3⟩ := He.ba c
  obtain ⟨e1, c3⟩ := He.ba c3
  obtain ⟨e2, c3⟩ := He.ba c3
  obtain ⟨e3, c3⟩ := He.ba c3
  obtain ⟨e4, c3⟩ := He.ba c3
  obtain ⟨e5, c3⟩ := He.ba c3
  obtain ⟨e6, c3⟩ := He.ba c3
  obtain ⟨e7, c3⟩ := He.ba c3
  obtain ⟨e8, c3⟩ := He.ba c3
  obtain ⟨e9, e10⟩ := He.ba c3
  obtain ⟨qn, N, bs, sn, sub, ab, col, dd, m0, m1, m2, m3, m5, xL⟩ := xcB_ok c2
  obtain ⟨fd, DF⟩ := D
  obtain ⟨oc, od, dV, kV, doc, pm, an, cdv, ct, osl, rfl, lk, hcd, hD, _⟩ := DF.ex
  have at_ : PySem.W.findCls K (.ref (He.ga K x)) (.type "type") "__init__" = some (.val (.ref (He.ma K (He.ga K x) "__init__"))) := by
    split at s3
    · rename_i v e
      rw [e, of_decide_eq_true s3]
    · cases s3
  rcases hD with ⟨_, rfl⟩ | ⟨z, _⟩
  · exact fam_mk X G F hBt hOb M (He.eqO_ok c1) xL (He.eqO_ok e1) (of_decide_eq_true e2) (of_decide_eq_true e3) e4 (He.eqO_ok e5) (of_decide_eq_true e6) lk hcd DF.kp (He.eqO_ok e7) (He.eqO_ok e8) e9 (He.eqO_ok e10) (He.eqO_ok s1) s2 at_
  · exact absurd rfl z
end
theorem typ_of_cl {x fam field : Str} {tl : List Value} {newId : String} {K : PySem.W.Frag} (c : clB x fam field tl newId K = true) : PySem.W.typeIn K (.ref (He.ga K x)) = some (.type "type") := by
  obtain ⟨_, c⟩ := He.ba c
  obtain ⟨_, c⟩ := He.ba c
  obtain ⟨c3, _⟩ := He.ba c
  obtain ⟨_, c3⟩ := He.ba c3
  obtain ⟨_, c3⟩ := He.ba c3
  obtain ⟨e3, _⟩ := He.ba c3
  exact of_decide_eq_true e3
/-- what the head finds of a def with keyword-only defaults -/
theorem atDOf {K : PySem.W.Frag} {h : Heap} {mg : Str → Option Value} {x : Str} {st : Stmt} {kws : List (Str × V)} (X : K.In h) (G : h.Ns mainGlobals mg) (g : (He.Fa.glo x).ok K = true)
    (F : ∃ fd, FunD K x x (defArgs st) (defBody st) (defScope st) [] kws (He.ga K x) fd) : AtD K mg x st kws :=
  let ⟨fd, F⟩ := F
  ⟨_, fd, F, He.glo_ok X G g⟩
end Pw

/-! Methods that let own errors out. -/
namespace Pw
open PySem PySem.Spec PyProof.Rows L2
section
variable (P : Program) (w : World) (K : PySem.W.Frag) (mg : Str → Option Value) (base : Heap)
/-- the method m of the class at C keeps the promise sp, errors too -/
structure DefME (C : Addr) (m : Str) (k : Nat) (ps : List Str) (sp : Sp) : Prop where
  ex : ∃ f fd, Meth K C m f ∧ Binds K fd ps [] ∧ FnOk P w K mg base (L2.CX P w) k f fd ps sp
end
section
variable {P : Program} {w : World} {K : PySem.W.Frag} {mg : Str → Option Value} {base : Heap}
theorem mkDefME {C : Addr} {m q : Str} {st : Stmt} {N ps : List Str} {k : Nat} {sp : Sp} (A : AtMt K C m q st) (S : FnScope N ps (defScope st))
    (hb : ∀ (kV doc pm : Value) (an : Option Addr) (cdv ct : Value) (us : List Value), us.length = ps.length →
      bindArgs (PySem.W.fnOf m q (defArgs st) (defBody st) (defScope st) .none kV doc pm an cdv ct) ⟨us, []⟩ = pure (ps.zip us))
    (len : ∀ vs H Q E, sp vs H Q E → vs.length = ps.length)
    (body : ∀ (f : Addr) (cdv : Value) (A : Around) (out : List Env) (s : Shared) (H : Hp) (vs : List V) (Q : VK) (E : XK),
      Room k (A.deeper (envOfC q (defScope st) s.heap.objs.size f cdv)) → sp vs H Q E →
      ∃ t, PSs (cxOf (L2.CX P w) P w K mg base N q (defScope st) f cdv A out s H E) (defBody st) t ∧
        t { nx := fun _ H' => Q .non H', rt := Q } (start N vs) H) : DefME P w K mg base C m (k + 1) ps sp := by
  obtain ⟨f, fd, F, M⟩ := A.ex
  exact ⟨f, fd, M, F.binds hb, F.okX S len (body f)⟩
end
section
variable {X : Cx} {m : Str} {C : Addr} {k j : Nat} {ps : List Str} {sp : Sp} {W : WX} {o : Expr} {pos apos : Pos} {e : Expr} {es : List Expr} {ta : TE} {t : TA}
/-- x.m(..), errors let out -/
def tMethE (C : Addr) (m : Str) (sp : Sp) (W : WX) (ta : TE) (t : TA) : TE := fun σ H Q => ta σ H fun x H1 => ∃ a dx fs, x = .ref a ∧ H1 a = some (.ins C dx fs) ∧ fs.lookup m = none ∧
  t σ H1 fun vs H2 => sp (x :: vs) H2 Q (WE W σ)
theorem pe_mmE {pl : Sem Bool} (he : PE X o ta) (c : Cls X.K C) (D : DefME X.prog X.w X.K X.mg X.base C m k ps sp) (tk : Takes X W) (hr : Room j X.A) (hk : k ≤ j) (ha : PA X (e :: es) t)
    (hst : starEach (e :: es) X.env = (false, eval e X.env) :: starEach es X.env := by rfl) (hpl : (backTo pos (starEach es X.env)).any (·.1) = false := by rfl)
    (ht : eval (.Call (.Attribute o m apos) (e :: es) [] pos) X.env = (do
      let ov ← eval o X.env
      standAt apos.atName
      let (f, first) ← holding [ov] (getMethod ov m pl)
      callWith pos f first (backTo pos (starEach (e :: es) X.env)) (backToKw pos (keywordEach [] X.env))) := by rfl) :
    PE X (.Call (.Attribute o m apos) (e :: es) [] pos) (tMethE C m sp W ta t) := by
  obtain ⟨f, fd, M, b, F⟩ := D.ex
  refine ⟨fun pins s σ H Q I h => PySem.W.methodCall_KW (pl := pl) (thn (he.run pins s σ H _ I h) fun u s1 ⟨x, H1, I1, rx, a, dx, fs, ex, ea, l, q⟩ => ?_) ht⟩
  subst ex
  obtain rfl : u = Value.ref a := rx
  exact getmeth_ok I1 ea c M l (PySem.W.callWith_K (first := [.ref a]) (h₀ := X.base) I.ok.mod.kin M.kp
    (thn (ha.run pos pins s1 σ H1 _ I1 q) fun us s2 ⟨vs, H2, I2, r, q2⟩ => ⟨I2.kIn, run_fnSD (us := .ref a :: us) (vs := .ref a :: vs) F (hr.mono hk) b .nil (passAt tk σ) I2 (.cons rfl r) (by
      rw [List.append_nil]
      exact q2)⟩) hst hpl)
end
end Pw

/-! What the head finds of a class's methods. -/
namespace Pw
open PySem PySem.Spec PyProof.Rows L2
section
variable {K : PySem.W.Frag}
theorem atMtOf {x m q : Str} {st : Stmt} (g : (He.Fa.meth x m).ok K = true) (F : ∃ fd, FunD K m q (defArgs st) (defBody st) (defScope st) [] [] (He.ma K (He.ga K x) m) fd) : AtMt K (He.ga K x) m q st :=
  let ⟨fd, F⟩ := F
  ⟨_, fd, funOf F, He.meth_ok g⟩
theorem iniOf {x q : Str} {st : Stmt} (F : ∃ fd, FunD K "__init__" q (defArgs st) (defBody st) (defScope st) [] [] (He.ma K (He.ga K x) "__init__") fd) : ∃ fd, Fun K "__init__" q st (He.ma K (He.ga K x) "__init__") fd :=
  let ⟨fd, F⟩ := F
  ⟨fd, funOf F⟩
end
end Pw

/-! Making an instance by an own __init__ with keyword-only defaults: some told, the rest left out. -/
namespace Pw
open PySem PySem.Spec PyProof.Rows L2
theorem kw_vals {K : PySem.W.Frag} {D : Addr} : ∀ {ms : List (Str × V)}, (∀ q ∈ ms, ∃ u, PySem.W.nsIn K D q.1 = some (some u) ∧ RelV q.2 u) →
    ∃ mv, Vals (ms.map (·.2)) mv ∧ mv.length = ms.length ∧ ∀ q ∈ (ms.map (·.1)).zip mv, PySem.W.nsIn K D q.1 = some (some q.2)
  | [], _ => ⟨[], .nil, rfl, fun q h => by cases h⟩
  | m :: ms, h => by
    obtain ⟨u, e, r⟩ := h m (by simp)
    obtain ⟨mv, v, l, k⟩ := kw_vals (ms := ms) fun q hq => h q (by simp [hq])
    refine ⟨u :: mv, .cons r v, by simp [l], fun q hq => ?_⟩
    simp only [List.map_cons, List.zip_cons_cons, List.mem_cons] at hq
    rcases hq with rfl | hq
    · exact e
    · exact k q hq
theorem kbn_of {K : PySem.W.Frag} {x qual : Str} {params : Arguments} {body : List Stmt} {scope : Scope} {kws ms : List (Str × V)} {f : Addr} {fd : FuncData} {ps ks : List Str} {n : Nat}
    (F : FunD K x qual params body scope [] kws f fd) (g : {α : Type} → List α → List α → List α → List α) (hk : kws ≠ []) (hms : ∀ q ∈ ms, q ∈ kws)
    (hg : ∀ {vs mz zs : List V} {us mv ws : List Value}, Vals vs us → Vals mz mv → Vals zs ws → Vals (g vs mz zs) (g us mv ws))
    (hb : ∀ (D : Addr) (doc pm : Value) (an : Option Addr) (cdv ct : Value) (us mv ws : List Value), us.length = n → mv.length = ms.length → ws.length = ks.length →
      KwChain D ((ms.map (·.1)).zip mv) (bindArgs (PySem.W.fnOf x qual params body scope .none (.ref D) doc pm an cdv ct) ⟨us, ks.zip ws⟩) (ps.zip (g us mv ws))) :
    ∃ mv, KBn K fd ps n ks (fun us ws => g us mv ws) (fun vs zs => g vs (ms.map (·.2)) zs) := by
  obtain ⟨oc, od, dV, kV, doc, pm, an, cdv, ct, osl, rfl, lk, hcd, hD, hK⟩ := F.ex
  rcases hD with ⟨_, rfl⟩ | ⟨e, _⟩
  · rcases hK with e | ⟨D, rfl, hK⟩
    · exact absurd e hk
    · obtain ⟨mv, v, l, h⟩ := kw_vals (K := K) (D := D) (ms := ms) fun q hq => hK q (hms q hq)
      refine ⟨mv, ⟨fun s us ws X l1 l2 => ?_, fun hv hz => hg hv v hz⟩⟩
      intro M A E Q q
      exact KwChain.looks X (fun q hq => h q hq) (hb D doc pm an cdv ct us mv ws l1 l l2) A Q E s (fun _ _ e => e) q
  · exact absurd rfl e
section
variable (P : Program) (w : World) (K : PySem.W.Frag) (mg : Str → Option Value) (base : Heap)
/-- under its name x the class at C stands; made of n things and the keywords ks by an __init__ that keeps sp -/
structure MadeK (x : Str) (C : Addr) (k : Nat) (ps : List Str) (n : Nat) (ks : List Str) (gV : List V → List V → List V) (sp : Sp) : Prop where
  ex : ∃ f fd g, mg x = some (.ref C) ∧ Mk K C f ∧ KBn K fd ps (n + 1) ks g gV ∧ FnOk P w K mg base CX0 k f fd ps sp
end
section
variable {P : Program} {w : World} {K : PySem.W.Frag} {mg : Str → Option Value} {base : Heap}
theorem mkFnI {m q : Str} {st : Stmt} {kws : List (Str × V)} {f : Addr} {fd : FuncData} {N ps : List Str} {k : Nat} {sp : Sp}
    (F : FunD K m q (defArgs st) (defBody st) (defScope st) [] kws f fd) (S : FnScope N ps (defScope st))
    (len : ∀ vs H Q E, sp vs H Q E → vs.length = ps.length)
    (body : ∀ (f : Addr) (cdv : Value) (A : Around) (out : List Env) (s : Shared) (H : Hp) (vs : List V) (Q : VK) (E : XK),
      Room k (A.deeper (envOfC q (defScope st) s.heap.objs.size f cdv)) → sp vs H Q E →
      ∃ t, PSs (cxOf CX0 P w K mg base N q (defScope st) f cdv A out s H E).nox (defBody st) t ∧
        t { nx := fun _ H' => Q .non H', rt := Q } (start N vs) H) : FnOk P w K mg base CX0 (k + 1) f fd ps sp :=
  F.ok S len fun cdv A out s H vs Q E hr hs =>
    let ⟨t, h, q⟩ := body f cdv A out s H vs Q E hr hs
    ⟨t, h.nox, q⟩
end
section
variable {X : Cx} {x : Str} {C : Addr} {k j n : Nat} {ps ks : List Str} {sp : Sp} {p pos : Pos} {e : Expr} {es : List Expr} {t tk : TA} {gV : List V → List V → List V} {kws : List Keyword}
theorem pe_mk (D : MadeK X.prog X.w X.K X.mg X.base x C k ps n ks gV sp) (hr : Room j X.A) (hk : k + 1 ≤ j) (hg : Gl X x) (ha : PA X (e :: es) t) (hkw : PK X kws tk)
    (hall : (backToKw pos (keywordEach kws X.env)).all (·.1.isSome) = true := by rfl) (hks : (backToKw pos (keywordEach kws X.env)).filterMap (·.1) = ks := by rfl)
    (hdb : (x == ("__debug__" : Str)) = false := by decide)
    (he : starEach (e :: es) X.env = (false, eval e X.env) :: starEach es X.env := by rfl)
    (hpl : ((backTo pos (starEach (e :: es) X.env)).any (·.1) || (backToKw pos (keywordEach kws X.env)).any (·.1.isNone)) = false := by rfl) :
    PE X (.Call (.Name x p) (e :: es) kws pos) (tMakeK C n ks.length sp gV E0 t tk) := by
  obtain ⟨f, fd, g, m, M, b, F⟩ := D.ex
  exact pe_makeK M F (hr.mono hk) hg m b pass0 ha hkw hall hks hdb he hpl
end
end Pw

namespace V45
open PySem PySem.Spec PyProof.Rows L2 Pw
/-- a walk over nothing -/
theorem for_none {J : It} {n : Nat} {G : Hp → Prop} {Y : Nat → Hp → V → Hp → Prop} (w : Walk J n G Y) (hn : n = 0) {g : TG} {tb : TS} {D : Ends} {σ : L2.St} {H : Hp} (hG : G H) (k : D.nx σ H) :
    ∃ W : Nat → Nat → L2.St → Hp → Prop, (∃ m, W 0 m σ H) ∧ ∀ i m σ H, W i m σ H → J.stop i H ∧ D.nx σ H ∨ J.go i H ∧ ∃ N : L2.St → Hp → Prop, (∀ σ' H', N σ' H' → ∃ m', m' < m ∧ W (i + 1) m' σ' H') ∧
      ∀ x H', J.yld i H x H' → g x σ H' fun σ2 H2 => tb { nx := N, rt := D.rt, bk := D.nx, ct := N } σ2 H2 := by
  subst hn
  refine for_it w (fun i σ' H' => σ' = σ ∧ H' = H) ⟨rfl, rfl⟩ (fun i σ' H' _ h => h.2 ▸ hG) (fun i x σ' H' H'' hi => absurd hi (by omega)) fun σ' H' h => ?_
  rw [h.1, h.2]
  exact k
section
variable {P : Program} {w : World} {K : PySem.W.Frag} {mg : Str → Option Value} {base : Heap}
def no : Sp := fun _ _ _ _ => False
theorem At.fnr {x : Str} {st : Stmt} (A : At K mg x st) : ∃ f, mg x = some (.ref f) ∧ PySem.W.keepIn K (.ref f) = true ∧ FnR P w K mg base CX0 1 f no := by
  obtain ⟨f, fd, F, m⟩ := A.ex
  exact ⟨f, m, F.kp, fun A out s H us vs Q E _ _ _ h => h.elim⟩
/-- nothing at all, and something else -/
def spNone (K : PySem.W.Frag) : Sp := fun vs H Q _ => ∃ (a : Addr) (x : V), vs = [.ref a, x] ∧ Sq K H a [] ∧ ∀ H', Same H H' → Q .non H'
def spNone2 (K : PySem.W.Frag) : Sp := fun vs H Q _ => ∃ (a d : Addr), vs = [.ref a, .ref d] ∧ Sq K H a [] ∧ H d = some (.dK []) ∧ ∀ H', Same H H' → Q .non H'
theorem d_rules0 (T : Txt mg) (A : At K mg "check_rules" sCheckRules) (aS : At K mg "is_rule_shape" sIsRuleShape) (aLO : At K mg "is_list_of" sIsListOf) (dl : Def P w K mg base "is_list" 1 ["thing", "least", "most"] (spList K)) :
    Def P w K mg base "check_rules" 5 ["rules", "points"] (spNone K) := by
  obtain ⟨f0, hm0, hk0, F0⟩ := At.fnr (P := P) (w := w) (base := base) aS
  have dLO := d_listOf T aLO dl F0 hk0
  refine mkDef A scCheckRules (fun _ _ _ _ _ _ us hl => match us, hl with | [_, _], _ => rfl) (fun vs H Q E ⟨_, _, e, _⟩ => by rw [e]; rfl)
    (fun f cdv A out s H vs Q E hr h => ?_)
  obtain ⟨a, x, rfl, hs, k⟩ := h
  have hu : (A.deeper (envOfC "check_rules" (defScope sCheckRules) s.heap.objs.size f cdv)).units + 1 < cLine := hu_of hr
  refine ⟨_, (pss_cons (ps_if (pt_not (pt_val (pe_d dLO hr (by decide) (by rfl) (pa_cons (pe_glob (v := V.ref f0) (by rfl) hm0 rfl) (pa_cons (pv 0) (pa_cons pe_int (pa_cons (pe_gi T.c_MOST_RULES) pa_nil)))))))
      (pss_one ps_never)
      pss_nil)
    (pss_cons (ps_set (i := 2) scCheckRules.nd rfl (.inl rfl) (pe_lst pa_nil))
    (pss_one (ps_for PassesOwn.never rfl (pi_sq (pv 0)) (pg_name (i := 3) scCheckRules.nd rfl (.inl rfl))
      (pss_cons (ps_par (i := 4) (j := 5) rfl scCheckRules.nd rfl rfl (by decide) rfl rfl (pa_cons (pe_ix (r := rIxT K) ix_tup (pv 3) pe_int (fun _ _ => rfl)) (pa_cons (pe_ix (r := rIxT K) ix_tup (pv 3) pe_int (fun _ _ => rfl)) pa_nil)) rfl)
      (pss_cons (ps_if (pt_cmpR op_in_seq (pv 4) (pv 2) (by rfl))
        (pss_one ps_never)
        pss_nil)
      (pss_cons (ps_if (pt_cmp (pc_dnotin hu (pv 5) (pv 1)))
        (pss_one ps_never)
        pss_nil)
      (pss_one (ps_expr (pe_bm PySem.F.plainAttrs_list PySem.F.slot_list_append PySem.F.type_list_append mt_append (pv 2) (pa_cons (pv 4) pa_nil))))))))))), ?_⟩
  refine ⟨_, rfl, a, [], 0, 6, rfl, hs, by decide, by decide, by decide, (fun v hv => by cases hv), fun H1 S1 => ?_⟩
  refine ⟨_, rfl, iteF ?_⟩
  refine ⟨by show 0 ≤ sizeLine; decide, fun L nL => ?_⟩
  have S2 := S1.trans (Same.laid (o := HO.lst []) nL)
  generalize upd H1 L (.lst []) = H2 at *
  refine ⟨_, rfl, a, [], rfl, hs.same S2, fun J G hG wk => ?_⟩
  exact for_none wk rfl (hG _ (Same.refl _)) (k _ S2)
theorem d_causes0 (T : Txt mg) (A : At K mg "check_causes" sCheckCauses) (aS : At K mg "is_cause_shape" sIsCauseShape) (aL : At K mg "_leads_to_itself" sLeadsToItself) (aLO : At K mg "is_list_of" sIsListOf) (dl : Def P w K mg base "is_list" 1 ["thing", "least", "most"] (spList K)) :
    Def P w K mg base "check_causes" 5 ["causes", "rules"] (spNone2 K) := by
  obtain ⟨f0, hm0, hk0, F0⟩ := At.fnr (P := P) (w := w) (base := base) aS
  have dLO := d_listOf T aLO dl F0 hk0
  have dLd : Def P w K mg base "_leads_to_itself" 1 ["name", "causes"] no := At.any aL (fun _ _ _ _ _ _ us hl => match us, hl with | [_, _], _ => rfl) 1 no fun _ _ _ _ h => h
  refine mkDef A scCheckCauses (fun _ _ _ _ _ _ us hl => match us, hl with | [_, _], _ => rfl) (fun vs H Q E ⟨_, _, e, _⟩ => by rw [e]; rfl)
    (fun f cdv A out s H vs Q E hr h => ?_)
  obtain ⟨a, d, rfl, hs, ed, k⟩ := h
  have hu : (A.deeper (envOfC "check_causes" (defScope sCheckCauses) s.heap.objs.size f cdv)).units + 1 < cLine := hu_of hr
  refine ⟨_, (pss_cons (ps_if (pt_not (pt_val (pe_d dLO hr (by decide) (by rfl) (pa_cons (pe_glob (v := V.ref f0) (by rfl) hm0 rfl) (pa_cons (pv 0) (pa_cons pe_int (pa_cons (pe_gi T.c_MOST_CAUSES) pa_nil)))))))
      (pss_one ps_never)
      pss_nil)
    (pss_cons (ps_set (i := 2) scCheckCauses.nd rfl (.inl rfl) (pe_lst pa_nil))
    (pss_cons (ps_for PassesOwn.never rfl (pi_sq (pv 0)) (pg_tup (by rfl) (pgs_cons (pg_name (i := 3) scCheckCauses.nd rfl (.inl rfl)) (pgs_cons (pg_name (i := 4) scCheckCauses.nd rfl (.inl rfl)) (pgs_cons (pg_name (i := 5) scCheckCauses.nd rfl (.inl rfl)) pgs_nil))))
      (pss_cons (ps_for PassesOwn.never rfl (pi_tup (pe_tup (pa_cons (pv 3) (pa_cons (pv 4) pa_nil)))) (pg_name (i := 6) scCheckCauses.nd rfl (.inl rfl))
        (pss_one (ps_if (pt_cmp (pc_dnotin hu (pv 6) (pv 1)))
          (pss_one ps_never)
          pss_nil)))
      (pss_cons (ps_if (pt_cmpR op_in_seq (pe_tup (pa_cons (pv 3) (pa_cons (pv 4) pa_nil))) (pv 2) (by rfl))
        (pss_one ps_never)
        pss_nil)
      (pss_one (ps_expr (pe_bm PySem.F.plainAttrs_list PySem.F.slot_list_append PySem.F.type_list_append mt_append (pv 2) (pa_cons (pe_tup (pa_cons (pv 3) (pa_cons (pv 4) pa_nil))) pa_nil)))))))
    (pss_one (ps_lock (ps_for PassesOwn.never rfl (pi_keys (pv 1)) (pg_name (i := 6) scCheckCauses.nd rfl (.inl rfl))
      (pss_one (ps_if (pt_val (pe_d dLd hr (by decide) (by rfl) (pa_cons (pv 6) (pa_cons (pv 0) pa_nil))))
        (pss_one ps_never)
        pss_nil)))))))), ?_⟩
  refine ⟨_, rfl, a, [], 0, 8, rfl, hs, by decide, by decide, by decide, (fun v hv => by cases hv), fun H1 S1 => ?_⟩
  refine ⟨_, rfl, iteF ?_⟩
  refine ⟨by show 0 ≤ sizeLine; decide, fun L nL => ?_⟩
  have S2 := S1.trans (Same.laid (o := HO.lst []) nL)
  generalize upd H1 L (.lst []) = H2 at *
  refine ⟨_, rfl, a, [], rfl, hs.same S2, fun J G hG wk => ?_⟩
  refine for_none wk rfl (hG _ (Same.refl _)) ?_
  dsimp only [gName]
  have ed2 := S2 _ _ ed
  refine ⟨d, _, ed2, trivial, fun od => ?_⟩
  have ed3 : upd H2 d (.frz od (.dK [])) d = some (.frz od (.dK [])) := upd_same
  have Sr : ∀ G, G = upd H2 d (.frz od (.dK [])) → Same H (upd G d (.dK [])) := by
    rintro G rfl
    rw [upd_upd]
    intro c o e
    by_cases hc : c = d
    · subst hc
      rw [upd_same]
      have := S2 _ _ e
      rw [ed2] at this
      exact this
    · rw [upd_ne hc]
      exact S2 _ _ e
  generalize eH3 : upd H2 d (.frz od (.dK [])) = H3 at *
  refine ⟨_, rfl, d, od, rfl, .inl ⟨[], ed3, ?_⟩⟩
  exact for_none walk_keys rfl ed3 ⟨ed3, k _ (Sr _ rfl)⟩
theorem d_commands0 (T : Txt mg) (A : At K mg "check_commands" sCheckCommands) (aS : At K mg "is_command_shape" sIsCommandShape) (aW : At K mg "is_worth_of" sIsWorthOf) (aC : At K mg "_check_locks" sCheckLocks) (aLO : At K mg "is_list_of" sIsListOf) (dl : Def P w K mg base "is_list" 1 ["thing", "least", "most"] (spList K)) :
    Def P w K mg base "check_commands" 5 ["commands", "points"] (spNone K) := by
  obtain ⟨f0, hm0, hk0, F0⟩ := At.fnr (P := P) (w := w) (base := base) aS
  have dLO := d_listOf T aLO dl F0 hk0
  have dWo : Def P w K mg base "is_worth_of" 1 ["point", "thing"] no := At.any aW (fun _ _ _ _ _ _ us hl => match us, hl with | [_, _], _ => rfl) 1 no fun _ _ _ _ h => h
  have dCl : Def P w K mg base "_check_locks" 1 ["locks", "place", "points"] no := At.any aC (fun _ _ _ _ _ _ us hl => match us, hl with | [_, _, _], _ => rfl) 1 no fun _ _ _ _ h => h
  refine mkDef A scCheckCommands (fun _ _ _ _ _ _ us hl => match us, hl with | [_, _], _ => rfl) (fun vs H Q E ⟨_, _, e, _⟩ => by rw [e]; rfl)
    (fun f cdv A out s H vs Q E hr h => ?_)
  obtain ⟨a, x, rfl, hs, k⟩ := h
  have hu : (A.deeper (envOfC "check_commands" (defScope sCheckCommands) s.heap.objs.size f cdv)).units + 1 < cLine := hu_of hr
  refine ⟨_, (pss_cons (ps_if (pt_not (pt_val (pe_d dLO hr (by decide) (by rfl) (pa_cons (pe_glob (v := V.ref f0) (by rfl) hm0 rfl) (pa_cons (pv 0) (pa_cons pe_int (pa_cons (pe_gi T.c_MOST_COMMANDS) pa_nil)))))))
      (pss_one ps_never)
      pss_nil)
    (pss_cons (ps_set (i := 2) scCheckCommands.nd rfl (.inl rfl) (pe_lst pa_nil))
    (pss_one (ps_for PassesOwn.never rfl (pi_sq (pv 0)) (pg_tup (by rfl) (pgs_cons (pg_name (i := 3) scCheckCommands.nd rfl (.inl rfl)) (pgs_cons (pg_name (i := 4) scCheckCommands.nd rfl (.inl rfl)) (pgs_cons (pg_name (i := 5) scCheckCommands.nd rfl (.inl rfl)) (pgs_cons (pg_name (i := 6) scCheckCommands.nd rfl (.inl rfl)) pgs_nil)))))
      (pss_cons (ps_if (pt_cmpR op_in_seq (pv 3) (pv 2) (by rfl))
        (pss_one ps_never)
        pss_nil)
      (pss_cons (ps_if (pt_cmp (pc_dnotin hu (pv 4) (pv 1)))
        (pss_one ps_never)
        pss_nil)
      (pss_cons (ps_if (pt_not (pt_val (pe_d dWo hr (by decide) (by rfl) (pa_cons (pe_dget hu (pv 1) (pv 4) (fun _ _ => rfl)) (pa_cons (pv 5) pa_nil)))))
        (pss_one ps_never)
        pss_nil)
      (pss_cons (ps_expr (pe_d dCl hr (by decide) (by rfl) (pa_cons (pv 6) (pa_cons (pe_ix (r := rIxT K) ix_tup (pe_dget hu (pv 1) (pv 4) (fun _ _ => rfl)) pe_int (fun _ _ => rfl)) (pa_cons (pv 1) pa_nil)))))
      (pss_one (ps_expr (pe_bm PySem.F.plainAttrs_list PySem.F.slot_list_append PySem.F.type_list_append mt_append (pv 2) (pa_cons (pv 3) pa_nil)))))))))))), ?_⟩
  refine ⟨_, rfl, a, [], 0, 4, rfl, hs, by decide, by decide, by decide, (fun v hv => by cases hv), fun H1 S1 => ?_⟩
  refine ⟨_, rfl, iteF ?_⟩
  refine ⟨by show 0 ≤ sizeLine; decide, fun L nL => ?_⟩
  have S2 := S1.trans (Same.laid (o := HO.lst []) nL)
  generalize upd H1 L (.lst []) = H2 at *
  refine ⟨_, rfl, a, [], rfl, hs.same S2, fun J G hG wk => ?_⟩
  exact for_none wk rfl (hG _ (Same.refl _)) (k _ S2)
theorem d_relations0 (T : Txt mg) (A : At K mg "check_relations" sCheckRelations) (aS : At K mg "is_relation_shape" sIsRelationShape) (aR : At K mg "points_of_relation" sPointsOfRelation) (aO : At K mg "_check_each_once" sCheckEachOnce) (aLO : At K mg "is_list_of" sIsListOf) (dl : Def P w K mg base "is_list" 1 ["thing", "least", "most"] (spList K)) :
    Def P w K mg base "check_relations" 5 ["relations", "points"] (spNone K) := by
  obtain ⟨f0, hm0, hk0, F0⟩ := At.fnr (P := P) (w := w) (base := base) aS
  have dLO := d_listOf T aLO dl F0 hk0
  have dPr : Def P w K mg base "points_of_relation" 1 ["relation"] no := At.any aR (fun _ _ _ _ _ _ us hl => match us, hl with | [_], _ => rfl) 1 no fun _ _ _ _ h => h
  have dO : Def P w K mg base "_check_each_once" 1 ["names"] no := At.any aO (fun _ _ _ _ _ _ us hl => match us, hl with | [_], _ => rfl) 1 no fun _ _ _ _ h => h
  refine mkDef A scCheckRelations (fun _ _ _ _ _ _ us hl => match us, hl with | [_, _], _ => rfl) (fun vs H Q E ⟨_, _, e, _⟩ => by rw [e]; rfl)
    (fun f cdv A out s H vs Q E hr h => ?_)
  obtain ⟨a, x, rfl, hs, k⟩ := h
  have hu : (A.deeper (envOfC "check_relations" (defScope sCheckRelations) s.heap.objs.size f cdv)).units + 1 < cLine := hu_of hr
  refine ⟨_, (pss_cons (ps_if (pt_not (pt_val (pe_d dLO hr (by decide) (by rfl) (pa_cons (pe_glob (v := V.ref f0) (by rfl) hm0 rfl) (pa_cons (pv 0) (pa_cons pe_int (pa_cons (pe_gi T.c_MOST_RELATIONS) pa_nil)))))))
      (pss_one ps_never)
      pss_nil)
    (pss_one (ps_for PassesOwn.never rfl (pi_sq (pv 0)) (pg_name (i := 2) scCheckRelations.nd rfl (.inl rfl))
      (pss_cons (ps_set (i := 3) scCheckRelations.nd rfl (.inl rfl) (pe_d dPr hr (by decide) (by rfl) (pa_cons (pv 2) pa_nil)))
      (pss_cons (ps_for PassesOwn.never rfl (pi_list (pv 3)) (pg_name (i := 4) scCheckRelations.nd rfl (.inl rfl))
        (pss_one (ps_if (pt_cmp (pc_dnotin hu (pv 4) (pv 1)))
          (pss_one ps_never)
          pss_nil)))
      (pss_cons (ps_expr (pe_d dO hr (by decide) (by rfl) (pa_cons (pv 3) pa_nil)))
      (pss_one (ps_if (PW.pt (pw_and (pt_cmpR op_eq (pe_ix (r := rIxT K) ix_tup (pv 2) pe_int (fun _ _ => rfl)) pe_str (nomark _)) (pw_and1 (pt_cmpR op_ne (pe_ix (r := rIxT K) ix_tup (pe_dget hu (pv 1) (pe_ix ix_list (pv 3) pe_int (fun _ _ => rfl)) (fun _ _ => rfl)) pe_int (fun _ _ => rfl)) pe_str (nomark _)))))
        (pss_one ps_never)
        pss_nil)))))))), ?_⟩
  refine ⟨_, rfl, a, [], 0, 5, rfl, hs, by decide, by decide, by decide, (fun v hv => by cases hv), fun H1 S1 => ?_⟩
  refine ⟨_, rfl, iteF ?_⟩
  refine ⟨_, rfl, a, [], rfl, hs.same S1, fun J G hG wk => ?_⟩
  exact for_none wk rfl (hG _ (Same.refl _)) (k _ S1)
end
end V45

namespace V45
open PySem PySem.Spec PyProof.Rows L2 Pw
/-- all stays but at p -/
def FrX (p : Addr) (H H' : Hp) : Prop := ∀ b o, b ≠ p → H b = some o → H' b = some o
section
variable {p : Addr} {H H' H2 : Hp} {C dx : Addr} {fs : List (Str × V)} {K : PySem.W.Frag} {a : Addr} {xs : List V}
theorem FrX.refl : FrX p H H := fun _ _ _ e => e
theorem FrX.of (S : Same H H') : FrX p H H' := fun b o _ e => S b o e
theorem FrX.trans (a : FrX p H H') (b : FrX p H' H2) : FrX p H H2 := fun c o n e => b c o n (a c o n e)
theorem FrX.put {o : HO} : FrX p H (upd H p o) := fun b u n e => (upd_ne n).trans e
theorem FrX.rd (F : FrX p H H') (ep : H p = some (.ins C dx fs)) {u : HO} (hu : ∀ o, u ≠ .ins C dx fs ∧ (HO.frz o u) ≠ .ins C dx fs) (h : Rd H a u) : Rd H' a u := by
  rcases h with e | ⟨o, e⟩
  · exact .inl (F a _ (fun z => by rw [z, ep] at e; exact (hu ⟨.none, .none, .dict #[] , #[]⟩).1 (Option.some.inj e).symm) e)
  · exact .inr ⟨o, F a _ (fun z => by rw [z, ep] at e; exact (hu o).2 (Option.some.inj e).symm) e⟩
theorem FrX.sqT (F : FrX p H H') (ep : H p = some (.ins C dx fs)) (h : SqT K H a xs) : SqT K H' a xs :=
  h.imp (fun r => F.rd ep (fun o => ⟨(fun z => by cases z), (fun z => by cases z)⟩) r) id
theorem FrX.sqL (F : FrX p H H') (ep : H p = some (.ins C dx fs)) (h : SqL K H a xs) : SqL K H' a xs :=
  h.imp (fun r => F.rd ep (fun o => ⟨(fun z => by cases z), (fun z => by cases z)⟩) r) id
theorem FrX.sq (F : FrX p H H') (ep : H p = some (.ins C dx fs)) (h : Sq K H a xs) : Sq K H' a xs := h.imp (F.sqL ep) (F.sqT ep)
theorem FrX.al {α : Type} {f : α → List V} {rs : List α} (F : FrX p H H') (ep : H p = some (.ins C dx fs)) (h : Al f H xs rs) : Al f H' xs rs :=
  h.imp fun q ys e => F q _ (fun z => by rw [z, ep] at e; cases e) e
theorem FrX.dk (F : FrX p H H') (ep : H p = some (.ins C dx fs)) {d : Addr} {kvs : List (Key × V)} (h : H d = some (.dK kvs)) : H' d = some (.dK kvs) :=
  F d _ (fun z => by rw [z, ep] at h; cases h) h
end
/-- tuple() of a list or a tuple -/
theorem tup_of {K : PySem.W.Frag} {H : Hp} {a : Addr} {xs : List V} {Q : VK} (h : Sq K H a xs) (k : ∀ t H', Same H H' → SqT K H' t xs → Q (.ref t) H') :
    ∃ p ys, [V.ref a] = [V.ref p] ∧ ((SqL K H p ys ∧ ∀ l, H l = none → Q (.ref l) (upd H l (.tup ys))) ∨ (SqT K H p ys ∧ Q (.ref p) H)) := by
  rcases h with h | h
  · exact ⟨a, xs, rfl, .inl ⟨h, fun l nl => k l _ (Same.laid nl) (SqT.of upd_same)⟩⟩
  · exact ⟨a, xs, rfl, .inr ⟨h, k a _ (Same.refl _) h⟩⟩
def rTupOf (K : PySem.W.Frag) : List V → Hp → VK → Prop := fun xs H Q => ∃ a ys, xs = [V.ref a] ∧ Sq K H a ys ∧ ∀ t H', Same H H' → SqT K H' t ys → Q (.ref t) H'
theorem call_tupOf {X : Cx} : CallR X (.type "tuple") (rTupOf X.K) := by
  intro pins s σ H xs us Q I r h
  obtain ⟨a, ys, rfl, h, k⟩ := h
  exact call_tuple_of pins s σ H _ us Q I r (tup_of (Q := Q) h k)
def wof (tp dp tr dr tc tm dm tl : Addr) : List (Str × V) := [("_points", .ref tp), ("_point_by_name", .ref dp), ("_rules", .ref tr), ("_rule_by_name", .ref dr), ("_causes", .ref tc), ("_commands", .ref tm), ("_command_by_name", .ref dm), ("_relations", .ref tl)]
/-- works: what they are made of -/
structure Wks where
  xs : List V
  ks : List (Key × V)
  xr : List V
  kr : List (Key × V)
  xc : List V
  xm : List V
  km : List (Key × V)
  xl : List V
structure WoAt (K : PySem.W.Frag) (C : Addr) (H : Hp) (p : Addr) (W : Wks) : Prop where
  ex : ∃ dx tp dp tr dr tc tm dm tl, H p = some (.ins C dx (wof tp dp tr dr tc tm dm tl)) ∧ SqT K H tp W.xs ∧ H dp = some (.dK W.ks) ∧ SqT K H tr W.xr ∧ H dr = some (.dK W.kr) ∧
    SqT K H tc W.xc ∧ SqT K H tm W.xm ∧ H dm = some (.dK W.km) ∧ SqT K H tl W.xl
theorem WoAt.same {K : PySem.W.Frag} {C : Addr} {H H' : Hp} {p : Addr} {W : Wks} (h : WoAt K C H p W) (S : Same H H') : WoAt K C H' p W :=
  let ⟨dx, tp, dp, tr, dr, tc, tm, dm, tl, e0, e1, e2, e3, e4, e5, e6, e7, e8⟩ := h.ex
  have sq : ∀ {a xs}, SqT K H a xs → SqT K H' a xs := fun h => h.imp (fun r => Rd_same S r) id
  ⟨dx, tp, dp, tr, dr, tc, tm, dm, tl, S _ _ e0, sq e1, S _ _ e2, sq e3, S _ _ e4, sq e5, sq e6, S _ _ e7, sq e8⟩
/-- of the class -/
structure WoC (K : PySem.W.Frag) (C : Addr) : Prop where
  cl : Cls K C
  nPo : NoAttr K C "_points"
  nPd : NoAttr K C "_point_by_name"
  nRu : NoAttr K C "_rules"
  nRd : NoAttr K C "_rule_by_name"
  nCa : NoAttr K C "_causes"
  nCo : NoAttr K C "_commands"
  nCd : NoAttr K C "_command_by_name"
  nRe : NoAttr K C "_relations"
section
variable {P : Program} {w : World} {K : PySem.W.Frag} {mg : Str → Option Value} {base : Heap} {C : Addr}
/-- a check asked of a and d at any heap behind H -/
def Chk (p : Addr) (H : Hp) (sp : Sp) (a : Addr) (ks : List (Key × V)) : Prop := ∀ (d : Addr) (H1 : Hp) (Q1 : VK), FrX p H H1 → H1 d = some (.dK ks) → (∀ H2, Same H1 H2 → Q1 .non H2) → sp [.ref a, .ref d] H1 Q1 E0
def spInitW {αR αM : Type} (K : PySem.W.Frag) (C : Addr) (fR : αR → List V) (nR : αR → Str) (fM : αM → List V) (nM : αM → Str) (spR spC spM spL : Sp) : Sp := fun vs H Q _ =>
  ∃ (p a r c m l dx : Addr) (xs xr xc xm xl : List V) (ps : List Pt) (rr : List αR) (rm : List αM), vs = [.ref p, .ref a, .ref r, .ref c, .ref m, .ref l] ∧ H p = some (.ins C dx []) ∧
  Sq K H a xs ∧ Al fP H xs ps ∧ GoodPs ps ∧ Sq K H r xr ∧ Al fR H xr rr ∧ (rr.map nR).Nodup ∧ rr.length ≤ 1000 ∧ Sq K H c xc ∧ Sq K H m xm ∧ Al fM H xm rm ∧ (rm.map nM).Nodup ∧ rm.length ≤ 1000 ∧ Sq K H l xl ∧
  Chk p H spR r (kvs Pt.nm ps xs) ∧ Chk p H spC c (kvs nR rr xr) ∧ Chk p H spM m (kvs Pt.nm ps xs) ∧ Chk p H spL l (kvs Pt.nm ps xs) ∧
  ∀ H', WoAt K C H' p ⟨xs, kvs Pt.nm ps xs, xr, kvs nR rr xr, xc, xm, kvs nM rm xm, xl⟩ → FrX p H H' → Q .non H'
end
end V45

set_option maxHeartbeats 8000000
namespace V45
open PySem PySem.Spec PyProof.Rows L2 Pw
section
variable {P : Program} {w : World} {K : PySem.W.Frag} {mg : Str → Option Value} {base : Heap} {C : Addr}
theorem ok_initW {αR αM : Type} {fR : αR → List V} {nR : αR → Str} {fM : αM → List V} {nM : αM → Str} {spR spC spM spL : Sp} {f0 : Addr} {fd : FuncData} {kws : List (Str × V)} (T : Txt mg) (W : WoC K C)
    (F : FunD K "__init__" "Works.__init__" (defArgs mWorks_Init) (defBody mWorks_Init) (defScope mWorks_Init) [] kws f0 fd)
    (dP : Def P w K mg base "check_points" 5 ["points"] (spPoints K)) (dN : ∀ {α : Type} (f : α → List V) (nm : α → Str), Def P w K mg base "by_name" 1 ["rows"] (spByName K f nm))
    (dR : Def P w K mg base "check_rules" 5 ["rules", "points"] spR) (dC : Def P w K mg base "check_causes" 5 ["causes", "rules"] spC)
    {km : Nat} (hkm : km ≤ 13) (dM : Def P w K mg base "check_commands" km ["commands", "points"] spM) {kl : Nat} (hkl : kl ≤ 13) (dL : Def P w K mg base "check_relations" kl ["relations", "points"] spL)
    (hR : ∀ r, ∃ tl, fR r = .str (nR r) :: tl) (hM : ∀ r, ∃ tl, fM r = .str (nM r) :: tl) :
    FnOk P w K mg base CX0 14 f0 fd ["self", "points", "rules", "causes", "commands", "relations"] (spInitW K C fR nR fM nM spR spC spM spL) := by
  refine mkFnI F scmWorks_Init (fun vs H Q E ⟨_, _, _, _, _, _, _, _, _, _, _, _, _, _, _, e, _⟩ => by rw [e]; rfl)
    (fun f cdv A out s H vs Q E hr h => ?_)
  obtain ⟨p, a, r, c, m, l, dx, xs, xr, xc, xm, xl, ps, rr, rm, rfl, ep, hs, al, g, hr1, alr, ndr, lnr, hc, hm, alm, ndm, lnm, hl, cR, cC, cM, cL, k⟩ := h
  refine ⟨_, (pss_cons (ps_expr (pe_d dP hr (by decide) (by rfl) (pa_cons (pv 1) pa_nil)))
    (pss_cons (ps_fld (pv 0) (pe_callTy call_tupOf (by rfl) T.tuple (by decide +kernel) (pa_cons (pv 1) pa_nil)) rfl)
    (pss_cons (ps_fld (pv 0) (pe_d (dN fP Pt.nm) hr (by decide) (by rfl) (pa_cons (pv 1) pa_nil)) rfl)
    (pss_cons (ps_expr (pe_d dR hr (by decide) (by rfl) (pa_cons (pv 2) (pa_cons (pe_fld (pv 0) rfl) pa_nil))))
    (pss_cons (ps_fld (pv 0) (pe_callTy call_tupOf (by rfl) T.tuple (by decide +kernel) (pa_cons (pv 2) pa_nil)) rfl)
    (pss_cons (ps_fld (pv 0) (pe_d (dN fR nR) hr (by decide) (by rfl) (pa_cons (pv 2) pa_nil)) rfl)
    (pss_cons (ps_expr (pe_d dC hr (by decide) (by rfl) (pa_cons (pv 3) (pa_cons (pe_fld (pv 0) rfl) pa_nil))))
    (pss_cons (ps_fld (pv 0) (pe_callTy call_tupOf (by rfl) T.tuple (by decide +kernel) (pa_cons (pv 3) pa_nil)) rfl)
    (pss_cons (ps_expr (pe_d dM hr hkm (by rfl) (pa_cons (pv 4) (pa_cons (pe_fld (pv 0) rfl) pa_nil))))
    (pss_cons (ps_fld (pv 0) (pe_callTy call_tupOf (by rfl) T.tuple (by decide +kernel) (pa_cons (pv 4) pa_nil)) rfl)
    (pss_cons (ps_fld (pv 0) (pe_d (dN fM nM) hr (by decide) (by rfl) (pa_cons (pv 4) pa_nil)) rfl)
    (pss_cons (ps_expr (pe_d dL hr hkl (by rfl) (pa_cons (pv 5) (pa_cons (pe_fld (pv 0) rfl) pa_nil))))
    (pss_one (ps_fld (pv 0) (pe_callTy call_tupOf (by rfl) T.tuple (by decide +kernel) (pa_cons (pv 5) pa_nil)) rfl)))))))))))))), ?_⟩
  -- a store
  have put : ∀ {G : Hp} {fs fs' : List (Str × V)} {y : Str} {v : V}, G p = some (.ins C dx fs) → putF y v fs = fs' → ∀ G', G' = upd G p (.ins C dx (putF y v fs)) → G' p = some (.ins C dx fs') ∧ FrX p G G' := by
    rintro G fs fs' y v e e2 G' rfl
    exact ⟨by rw [upd_same, e2], FrX.put⟩
  refine ⟨_, rfl, a, xs, ps, rfl, hs, al, g, fun G1 S1 => ?_⟩
  have E1 := S1 _ _ ep
  have F1 : FrX p H G1 := .of S1
  -- _points
  refine ⟨_, rfl, a, xs, rfl, F1.sq ep hs, fun tp G2 S2 h1 => ?_⟩
  have E2 := S2 _ _ E1
  refine ⟨_, rfl, p, C, dx, _, rfl, E2, W.cl, W.nPo, by show 0 < 1000; decide, ?_⟩
  obtain ⟨E3, X3⟩ := put E2 (y := "_points") (v := .ref tp) (fs' := [("_points", .ref tp)]) rfl _ rfl
  generalize upd G2 p (.ins C dx (putF "_points" (.ref tp) [])) = G3 at *
  have F3 : FrX p H G3 := F1.trans ((FrX.of S2).trans X3)
  have h1 := X3.sqT E2 h1
  -- _point_by_name
  refine ⟨_, rfl, a, xs, ps, rfl, F3.sq ep hs, F3.al ep al, (fun r => ⟨_, rfl⟩), g.nd, (by have := g.len; omega), fun dp G4 S4 _ h2 => ?_⟩
  have E4 := S4 _ _ E3
  refine ⟨_, rfl, p, C, dx, _, rfl, E4, W.cl, W.nPd, by show 1 < 1000; decide, ?_⟩
  obtain ⟨E5, X5⟩ := put E4 (y := "_point_by_name") (v := .ref dp) (fs' := [("_points", .ref tp), ("_point_by_name", .ref dp)]) (by rw [put_ne (by decide +kernel)]; rfl) _ rfl
  generalize upd G4 p (.ins C dx (putF "_point_by_name" (.ref dp) [("_points", .ref tp)])) = G5 at *
  have Y5 : FrX p G3 G5 := (FrX.of S4).trans X5
  have F5 := F3.trans Y5
  have h1 := Y5.sqT E3 h1
  have h2 := X5.dk E4 h2
  -- rules
  refine ⟨_, rfl, _, rfl, p, C, dx, _, _, rfl, E5, W.cl, W.nPd, (lk_ne (by decide +kernel)).trans lk_eq, ?_⟩
  refine cR dp G5 _ F5 h2 fun G6 S6 => ?_
  have E6 := S6 _ _ E5
  have F6 := F5.trans (FrX.of S6)
  refine ⟨_, rfl, r, xr, rfl, F6.sq ep hr1, fun tr G7 S7 h3 => ?_⟩
  have E7 := S7 _ _ E6
  refine ⟨_, rfl, p, C, dx, _, rfl, E7, W.cl, W.nRu, by show 2 < 1000; decide, ?_⟩
  obtain ⟨E8, X8⟩ := put E7 (y := "_rules") (v := .ref tr) (fs' := [("_points", .ref tp), ("_point_by_name", .ref dp), ("_rules", .ref tr)]) (by rw [put_ne (by decide +kernel), put_ne (by decide +kernel)]; rfl) _ rfl
  generalize upd G7 p (.ins C dx (putF "_rules" (.ref tr) [("_points", .ref tp), ("_point_by_name", .ref dp)])) = G8 at *
  have Y8 : FrX p G5 G8 := (FrX.of (S6.trans S7)).trans X8
  have F8 := F5.trans Y8
  have h1 := Y8.sqT E5 h1
  have h2 := Y8.dk E5 h2
  have h3 := X8.sqT E7 h3
  refine ⟨_, rfl, r, xr, rr, rfl, F8.sq ep hr1, F8.al ep alr, hR, ndr, lnr, fun dr G9 S9 _ h4 => ?_⟩
  have E9 := S9 _ _ E8
  refine ⟨_, rfl, p, C, dx, _, rfl, E9, W.cl, W.nRd, by show 3 < 1000; decide, ?_⟩
  obtain ⟨E10, X10⟩ := put E9 (y := "_rule_by_name") (v := .ref dr) (fs' := [("_points", .ref tp), ("_point_by_name", .ref dp), ("_rules", .ref tr), ("_rule_by_name", .ref dr)]) (by rw [put_ne (by decide +kernel), put_ne (by decide +kernel), put_ne (by decide +kernel)]; rfl) _ rfl
  generalize upd G9 p (.ins C dx (putF "_rule_by_name" (.ref dr) [("_points", .ref tp), ("_point_by_name", .ref dp), ("_rules", .ref tr)])) = G10 at *
  have Y10 : FrX p G8 G10 := (FrX.of S9).trans X10
  have F10 := F8.trans Y10
  have h1 := Y10.sqT E8 h1
  have h2 := Y10.dk E8 h2
  have h3 := Y10.sqT E8 h3
  have h4 := X10.dk E9 h4
  -- causes
  refine ⟨_, rfl, _, rfl, p, C, dx, _, _, rfl, E10, W.cl, W.nRd, (lk_ne (by decide +kernel)).trans ((lk_ne (by decide +kernel)).trans ((lk_ne (by decide +kernel)).trans lk_eq)), ?_⟩
  refine cC dr G10 _ F10 h4 fun G11 S11 => ?_
  have E11 := S11 _ _ E10
  have F11 := F10.trans (FrX.of S11)
  refine ⟨_, rfl, c, xc, rfl, F11.sq ep hc, fun tc G12 S12 h5 => ?_⟩
  have E12 := S12 _ _ E11
  refine ⟨_, rfl, p, C, dx, _, rfl, E12, W.cl, W.nCa, by show 4 < 1000; decide, ?_⟩
  obtain ⟨E13, X13⟩ := put E12 (y := "_causes") (v := .ref tc) (fs' := [("_points", .ref tp), ("_point_by_name", .ref dp), ("_rules", .ref tr), ("_rule_by_name", .ref dr), ("_causes", .ref tc)]) (by rw [put_ne (by decide +kernel), put_ne (by decide +kernel), put_ne (by decide +kernel), put_ne (by decide +kernel)]; rfl) _ rfl
  generalize upd G12 p (.ins C dx (putF "_causes" (.ref tc) [("_points", .ref tp), ("_point_by_name", .ref dp), ("_rules", .ref tr), ("_rule_by_name", .ref dr)])) = G13 at *
  have Y13 : FrX p G10 G13 := (FrX.of (S11.trans S12)).trans X13
  have F13 := F10.trans Y13
  have h1 := Y13.sqT E10 h1
  have h2 := Y13.dk E10 h2
  have h3 := Y13.sqT E10 h3
  have h4 := Y13.dk E10 h4
  have h5 := X13.sqT E12 h5
  -- commands
  refine ⟨_, rfl, _, rfl, p, C, dx, _, _, rfl, E13, W.cl, W.nPd, (lk_ne (by decide +kernel)).trans lk_eq, ?_⟩
  refine cM dp G13 _ F13 h2 fun G14 S14 => ?_
  have E14 := S14 _ _ E13
  have F14 := F13.trans (FrX.of S14)
  refine ⟨_, rfl, m, xm, rfl, F14.sq ep hm, fun tm G15 S15 h6 => ?_⟩
  have E15 := S15 _ _ E14
  refine ⟨_, rfl, p, C, dx, _, rfl, E15, W.cl, W.nCo, by show 5 < 1000; decide, ?_⟩
  obtain ⟨E16, X16⟩ := put E15 (y := "_commands") (v := .ref tm) (fs' := [("_points", .ref tp), ("_point_by_name", .ref dp), ("_rules", .ref tr), ("_rule_by_name", .ref dr), ("_causes", .ref tc), ("_commands", .ref tm)]) (by rw [put_ne (by decide +kernel), put_ne (by decide +kernel), put_ne (by decide +kernel), put_ne (by decide +kernel), put_ne (by decide +kernel)]; rfl) _ rfl
  generalize upd G15 p (.ins C dx (putF "_commands" (.ref tm) [("_points", .ref tp), ("_point_by_name", .ref dp), ("_rules", .ref tr), ("_rule_by_name", .ref dr), ("_causes", .ref tc)])) = G16 at *
  have Y16 : FrX p G13 G16 := (FrX.of (S14.trans S15)).trans X16
  have F16 := F13.trans Y16
  have h1 := Y16.sqT E13 h1
  have h2 := Y16.dk E13 h2
  have h3 := Y16.sqT E13 h3
  have h4 := Y16.dk E13 h4
  have h5 := Y16.sqT E13 h5
  have h6 := X16.sqT E15 h6
  refine ⟨_, rfl, m, xm, rm, rfl, F16.sq ep hm, F16.al ep alm, hM, ndm, lnm, fun dm G17 S17 _ h7 => ?_⟩
  have E17 := S17 _ _ E16
  refine ⟨_, rfl, p, C, dx, _, rfl, E17, W.cl, W.nCd, by show 6 < 1000; decide, ?_⟩
  obtain ⟨E18, X18⟩ := put E17 (y := "_command_by_name") (v := .ref dm) (fs' := [("_points", .ref tp), ("_point_by_name", .ref dp), ("_rules", .ref tr), ("_rule_by_name", .ref dr), ("_causes", .ref tc), ("_commands", .ref tm), ("_command_by_name", .ref dm)]) (by rw [put_ne (by decide +kernel), put_ne (by decide +kernel), put_ne (by decide +kernel), put_ne (by decide +kernel), put_ne (by decide +kernel), put_ne (by decide +kernel)]; rfl) _ rfl
  generalize upd G17 p (.ins C dx (putF "_command_by_name" (.ref dm) [("_points", .ref tp), ("_point_by_name", .ref dp), ("_rules", .ref tr), ("_rule_by_name", .ref dr), ("_causes", .ref tc), ("_commands", .ref tm)])) = G18 at *
  have Y18 : FrX p G16 G18 := (FrX.of S17).trans X18
  have F18 := F16.trans Y18
  have h1 := Y18.sqT E16 h1
  have h2 := Y18.dk E16 h2
  have h3 := Y18.sqT E16 h3
  have h4 := Y18.dk E16 h4
  have h5 := Y18.sqT E16 h5
  have h6 := Y18.sqT E16 h6
  have h7 := X18.dk E17 h7
  -- relations
  refine ⟨_, rfl, _, rfl, p, C, dx, _, _, rfl, E18, W.cl, W.nPd, (lk_ne (by decide +kernel)).trans lk_eq, ?_⟩
  refine cL dp G18 _ F18 h2 fun G19 S19 => ?_
  have E19 := S19 _ _ E18
  have F19 := F18.trans (FrX.of S19)
  refine ⟨_, rfl, l, xl, rfl, F19.sq ep hl, fun tl G20 S20 h8 => ?_⟩
  have E20 := S20 _ _ E19
  refine ⟨_, rfl, p, C, dx, _, rfl, E20, W.cl, W.nRe, by show 7 < 1000; decide, ?_⟩
  obtain ⟨E21, X21⟩ := put E20 (y := "_relations") (v := .ref tl) (fs' := wof tp dp tr dr tc tm dm tl) (by rw [put_ne (by decide +kernel), put_ne (by decide +kernel), put_ne (by decide +kernel), put_ne (by decide +kernel), put_ne (by decide +kernel), put_ne (by decide +kernel), put_ne (by decide +kernel)]; rfl) _ rfl
  generalize upd G20 p _ = G21 at *
  have Y21 : FrX p G18 G21 := (FrX.of (S19.trans S20)).trans X21
  have F21 := F18.trans Y21
  exact k _ ⟨dx, tp, dp, tr, dr, tc, tm, dm, tl, E21, Y21.sqT E18 h1, Y21.dk E18 h2, Y21.sqT E18 h3, Y21.dk E18 h4, Y21.sqT E18 h5, Y21.sqT E18 h6, Y21.dk E18 h7, X21.sqT E20 h8⟩ F21
end
end V45

namespace V45
open PySem PySem.Spec PyProof.Rows L2 Pw
theorem kvs_get {α : Type} (nm : α → Str) : ∀ {rs : List α} {vs : List V} {i : Nat} {r : α} {v : V}, (rs.map nm).Nodup → rs[i]? = some r → vs[i]? = some v → valV (kvs nm rs vs) (.inr (nm r)) = some v
  | [], _, _, _, _, _, h, _ => by simp at h
  | _ :: _, [], _, _, _, _, _, h => by simp at h
  | a :: rs, x :: vs, 0, r, v, nd, h1, h2 => by
    simp only [List.getElem?_cons_zero, Option.some.injEq] at h1 h2
    subst h1 h2
    show valV ((Sum.inr (nm a), x) :: kvs nm rs vs) _ = _
    unfold valV
    rw [List.find?_cons, decide_eq_true rfl]
    rfl
  | a :: rs, x :: vs, i + 1, r, v, nd, h1, h2 => by
    simp only [List.getElem?_cons_succ] at h1 h2
    have nd' := List.nodup_cons.mp nd
    have ne : (Sum.inr (nm a) : Key) ≠ .inr (nm r) := fun z => nd'.1 (by rw [Sum.inr.inj z]; exact List.mem_map.mpr ⟨r, List.mem_of_getElem? h1, rfl⟩)
    have ih := kvs_get nm nd'.2 h1 h2
    show valV ((Sum.inr (nm a), x) :: kvs nm rs vs) _ = _
    unfold valV at ih ⊢
    rw [List.find?_cons, decide_eq_false ne]
    exact ih
theorem kvs_no {α : Type} (nm : α → Str) {rs : List α} {vs : List V} {x : Str} (hl : rs.length = vs.length) (h : x ∉ rs.map nm) : valV (kvs nm rs vs) (.inr x) = none := by
  unfold valV
  rw [Option.map_eq_none_iff, List.find?_eq_none]
  intro p hp e
  have e' : p.1 = .inr x := of_decide_eq_true e
  have : p.1 ∈ (kvs nm rs vs).map Prod.fst := List.mem_map.mpr ⟨p, hp, rfl⟩
  rw [kvs_keys nm hl, e'] at this
  obtain ⟨r, hr, er⟩ := List.mem_map.mp this
  exact h (List.mem_map.mpr ⟨r, hr, Sum.inr.inj er⟩)
theorem wof_no {m : Str} {tp dp tr dr tc tm dm tl : Addr} (h1 : (m == ("_points" : Str)) = false) (h2 : (m == ("_point_by_name" : Str)) = false) (h3 : (m == ("_rules" : Str)) = false) (h4 : (m == ("_rule_by_name" : Str)) = false)
    (h5 : (m == ("_causes" : Str)) = false) (h6 : (m == ("_commands" : Str)) = false) (h7 : (m == ("_command_by_name" : Str)) = false) (h8 : (m == ("_relations" : Str)) = false) : (wof tp dp tr dr tc tm dm tl).lookup m = none := by
  unfold wof
  rw [lk_ne h1, lk_ne h2, lk_ne h3, lk_ne h4, lk_ne h5, lk_ne h6, lk_ne h7, lk_ne h8]
  rfl
/-- works of such points -/
structure WoP (K : PySem.W.Frag) (C : Addr) (H : Hp) (p : Addr) (W : Wks) (ps : List Pt) : Prop where
  wo : WoAt K C H p W
  ks : W.ks = kvs Pt.nm ps W.xs
  al : Al fP H W.xs ps
  g : GoodPs ps
theorem WoP.same {K : PySem.W.Frag} {C : Addr} {H H' : Hp} {p : Addr} {W : Wks} {ps : List Pt} (h : WoP K C H p W ps) (S : Same H H') : WoP K C H' p W ps := ⟨h.wo.same S, h.ks, h.al.same S, h.g⟩
/-- of the class: what isinstance asks -/
structure WoQ (K : PySem.W.Frag) (C : Addr) : Prop where
  c1 : PySem.W.findIn K (.ref C) "__class__" = some (some (.builtin "object.__class__"))
  c2 : PySem.W.specialIn K (.builtin "object.__class__") "__get__" = some (some (.builtin "getset_descriptor.__get__"))
  c3 : PySem.W.takesIn K (.builtin "object.__class__") = some true
  mo : PySem.W.mroIn K C (.type "object") = some true
  kit : PySem.W.kitOne K (.ref C) (.ref C) = some true
def hiP (pt : Pt) : Int := if pt.sw = true then 1 else 63
section
variable {P : Program} {w : World} {K : PySem.W.Frag} {mg : Str → Option Value} {base : Heap} {C : Addr}
def spWorthOf (K : PySem.W.Frag) : Sp := fun vs H Q _ => ∃ (q : Addr) (pt : Pt) (x : V) (t : Value), vs = [.ref q, x] ∧ H q = some (.tup (fP pt)) ∧ Ty K H x t ∧ Q (.bl (wholeB x 0 (hiP pt))) H
theorem d_worthOf (T : Txt mg) (A : At K mg "is_worth_of" sIsWorthOf) (dw : Def P w K mg base "is_whole" 3 ["thing", "low", "high"] (spWhole K)) : Def P w K mg base "is_worth_of" 4 ["point", "thing"] (spWorthOf K) := by
  refine mkDef A scIsWorthOf (fun _ _ _ _ _ _ us hl => match us, hl with | [_, _], _ => rfl) (fun vs H Q E ⟨_, _, _, _, e, _⟩ => by rw [e]; rfl)
    (fun f cdv A out s H vs Q E hr h => ?_)
  obtain ⟨q, pt, x, t, rfl, e, ty, k⟩ := h
  refine ⟨_, (pss_one (ps_ret (pe_d dw hr (by decide) (by rfl) (pa_cons (pv 1) (pa_cons pe_int (pa_cons (pe_ifExp (pt_cmpR op_eq (pe_ix (r := rIxT K) ix_tup (pv 0) pe_int (fun _ _ => rfl)) pe_str (nomark _)) (pe_gi T.cMOST_LEVEL) pe_int) pa_nil)))))), ?_⟩
  refine ⟨_, rfl, _, rfl, q, _, 2, .str (kd pt.sw), rfl, rfl, SqT.of e, rfl, rfl, _, rfl, ?_⟩
  rw [kd_level]
  unfold hiP at k
  cases hsw : pt.sw with
  | true =>
    rw [hsw] at k
    exact iteF ⟨x, t, 0, 1, rfl, ty, k⟩
  | false =>
    rw [hsw] at k
    exact iteT ⟨x, t, 0, 63, rfl, ty, k⟩
def spPts (C : Addr) (K : PySem.W.Frag) : Sp := fun vs H Q _ => ∃ p W ps, vs = [.ref p] ∧ WoP K C H p W ps ∧ ∀ l H', Same H H' → H l = none → H' l = some (.lst W.xs) → Q (.ref l) H'
theorem d_pts (T : Txt mg) (Wc : WoC K C) (A : AtMt K C "points" "Works.points" mWorks_Points) : DefM P w K mg base C "points" 1 ["self"] (spPts C K) := by
  refine mkDefM A scmWorks_Points (fun _ _ _ _ _ _ us hl => match us, hl with | [_], _ => rfl) (fun vs H Q E ⟨_, _, _, e, _⟩ => by rw [e]; rfl)
    (fun f cdv A out s H vs Q E hr h => ?_)
  obtain ⟨p, W, ps, rfl, hw, k⟩ := h
  obtain ⟨dx, tp, dp, tr, dr, tc, tm, dm, tl, e0, e1, e2, _⟩ := hw.wo.ex
  refine ⟨_, (pss_one (ps_ret (pe_callTy call_list_of (by rfl) T.list (by decide +kernel) (pa_cons (pe_fld (pv 0) rfl) pa_nil)))), ?_⟩
  refine ⟨_, rfl, p, C, dx, _, _, rfl, e0, Wc.cl, Wc.nPo, lk_eq, tp, W.xs, rfl, .inr e1, fun l nl => ?_⟩
  exact k l _ (Same.laid nl) nl upd_same
def spHasP (C : Addr) (K : PySem.W.Frag) : Sp := fun vs H Q _ => ∃ p W ps nm, vs = [.ref p, .str nm] ∧ WoP K C H p W ps ∧ OkName nm ∧ ∀ H', Same H H' → Q (.bl (decide (nm ∈ ps.map Pt.nm))) H'
theorem d_hasP (Wc : WoC K C) (A : AtMt K C "has_point" "Works.has_point" mWorks_HasPoint) (dn : Def P w K mg base "is_name" 1 ["thing"] (spName K)) :
    DefM P w K mg base C "has_point" 2 ["self", "thing"] (spHasP C K) := by
  refine mkDefM A scmWorks_HasPoint (fun _ _ _ _ _ _ us hl => match us, hl with | [_, _], _ => rfl) (fun vs H Q E ⟨_, _, _, _, e, _⟩ => by rw [e]; rfl)
    (fun f cdv A out s H vs Q E hr h => ?_)
  obtain ⟨p, W, ps, nm, rfl, hw, on, k⟩ := h
  have hu : (A.deeper (envOfC "Works.has_point" (defScope mWorks_HasPoint) s.heap.objs.size f cdv)).units + 1 < cLine := hu_of hr
  refine ⟨_, (pss_one (ps_ret (pe_and (pe_d dn hr (by decide) (by rfl) (pa_cons (pv 1) pa_nil)) (pe_one (pe_cmp (pc_din hu (pv 1) (pe_fld (pv 0) rfl)) rfl))))), ?_⟩
  refine ⟨_, rfl, .str nm, _, rfl, .str _, on.sh, fun H1 S1 => ⟨true, congrArg V.bl on.b, iteT ?_⟩⟩
  have hw1 := hw.same S1
  obtain ⟨dx, tp, dp, tr, dr, tc, tm, dm, tl, e0, e1, e2, _⟩ := hw1.wo.ex
  have hl := hw.al.length.symm
  rw [hw.ks] at e2
  refine ⟨_, rfl, _, rfl, p, C, dx, _, _, rfl, e0, Wc.cl, Wc.nPd, (lk_ne (by decide +kernel)).trans lk_eq, dp, _, rfl, .inl ⟨_, .inr nm, .inl e2, rfl, rfl⟩, ?_⟩
  by_cases hm : nm ∈ ps.map Pt.nm
  · obtain ⟨pt, hpt, rfl⟩ := List.mem_map.mp hm
    obtain ⟨i, hi, ei⟩ := List.getElem_of_mem hpt
    obtain ⟨q, hq, _⟩ := hw1.al.at (List.getElem?_eq_some_iff.mpr ⟨hi, ei⟩)
    rw [kvs_get Pt.nm hw.g.nd (List.getElem?_eq_some_iff.mpr ⟨hi, ei⟩) hq]
    rw [decide_eq_true hm] at k
    exact k _ S1
  · rw [kvs_no Pt.nm hl hm]
    rw [decide_eq_false hm] at k
    exact k _ S1
def spPoint (C : Addr) (K : PySem.W.Frag) : Sp := fun vs H Q _ => ∃ p W ps pt, vs = [.ref p, .str (Pt.nm pt)] ∧ WoP K C H p W ps ∧ pt ∈ ps ∧ ∀ q H', Same H H' → H' q = some (.tup (fP pt)) → Q (.ref q) H'
theorem d_point (Wc : WoC K C) (A : AtMt K C "point" "Works.point" mWorks_Point) (dh : DefM P w K mg base C "has_point" 2 ["self", "thing"] (spHasP C K)) :
    DefM P w K mg base C "point" 3 ["self", "name"] (spPoint C K) := by
  refine mkDefM A scmWorks_Point (fun _ _ _ _ _ _ us hl => match us, hl with | [_, _], _ => rfl) (fun vs H Q E ⟨_, _, _, _, e, _⟩ => by rw [e]; rfl)
    (fun f cdv A out s H vs Q E hr h => ?_)
  obtain ⟨p, W, ps, pt, rfl, hw, hpt, k⟩ := h
  have hu : (A.deeper (envOfC "Works.point" (defScope mWorks_Point) s.heap.objs.size f cdv)).units + 1 < cLine := hu_of hr
  refine ⟨_, (pss_cons (ps_if (pt_not (pt_val (pe_mm (pv 0) Wc.cl dh hr (by decide) (pa_cons (pv 1) pa_nil))))
      (pss_one ps_never)
      pss_nil)
    (pss_one (ps_ret (pe_dget hu (pe_fld (pv 0) rfl) (pv 1) (fun _ _ => rfl))))), ?_⟩
  obtain ⟨dx, tp, dp, tr, dr, tc, tm, dm, tl, e0, _⟩ := hw.wo.ex
  refine ⟨_, rfl, p, dx, _, rfl, e0, wof_no (by decide +kernel) (by decide +kernel) (by decide +kernel) (by decide +kernel) (by decide +kernel) (by decide +kernel) (by decide +kernel) (by decide +kernel), _, rfl, p, W, ps, pt.nm, rfl, hw, (hw.g.all pt hpt).nm, fun H1 S1 => ?_⟩
  rw [decide_eq_true (List.mem_map.mpr ⟨pt, hpt, rfl⟩)]
  refine ⟨_, rfl, iteF ?_⟩
  have hw1 := hw.same S1
  obtain ⟨dx, tp, dp, tr, dr, tc, tm, dm, tl, e0, e1, e2, _⟩ := hw1.wo.ex
  rw [hw.ks] at e2
  obtain ⟨i, hi, ei⟩ := List.getElem_of_mem hpt
  have ei' := List.getElem?_eq_some_iff.mpr ⟨hi, ei⟩
  obtain ⟨q, hq, eq⟩ := hw1.al.at ei'
  refine ⟨_, rfl, p, C, dx, _, _, rfl, e0, Wc.cl, Wc.nPd, (lk_ne (by decide +kernel)).trans lk_eq, _, rfl, dp, .ref q, rfl, .inl ⟨_, .inr pt.nm, .inl e2, rfl, (kvs_get Pt.nm hw.g.nd ei' hq).symm⟩, ?_⟩
  exact k q _ S1 eq
def spIsWorth (C : Addr) (K : PySem.W.Frag) : Sp := fun vs H Q _ => ∃ p W ps pt x t, vs = [.ref p, .str (Pt.nm pt), x] ∧ WoP K C H p W ps ∧ pt ∈ ps ∧ (∀ H', Ty K H' x t) ∧ ∀ H', Same H H' → Q (.bl (wholeB x 0 (hiP pt))) H'
theorem d_isWorth (Wc : WoC K C) (A : AtMt K C "is_worth" "Works.is_worth" mWorks_IsWorth) (dp : DefM P w K mg base C "point" 3 ["self", "name"] (spPoint C K)) (dw : Def P w K mg base "is_worth_of" 4 ["point", "thing"] (spWorthOf K)) :
    DefM P w K mg base C "is_worth" 5 ["self", "point", "thing"] (spIsWorth C K) := by
  refine mkDefM A scmWorks_IsWorth (fun _ _ _ _ _ _ us hl => match us, hl with | [_, _, _], _ => rfl) (fun vs H Q E ⟨_, _, _, _, _, _, e, _⟩ => by rw [e]; rfl)
    (fun f cdv A out s H vs Q E hr h => ?_)
  obtain ⟨p, W, ps, pt, x, t, rfl, hw, hpt, ty, k⟩ := h
  refine ⟨_, (pss_one (ps_ret (pe_d dw hr (by decide) (by rfl) (pa_cons (pe_mm (pv 0) Wc.cl dp hr (by decide) (pa_cons (pv 1) pa_nil)) (pa_cons (pv 2) pa_nil))))), ?_⟩
  obtain ⟨dx, tp, dp', tr, dr, tc, tm, dm, tl, e0, _⟩ := hw.wo.ex
  refine ⟨_, rfl, p, dx, _, rfl, e0, wof_no (by decide +kernel) (by decide +kernel) (by decide +kernel) (by decide +kernel) (by decide +kernel) (by decide +kernel) (by decide +kernel) (by decide +kernel), _, rfl, p, W, ps, pt, rfl, hw, hpt, fun q H1 S1 eq => ?_⟩
  exact ⟨_, rfl, q, pt, x, t, rfl, eq, ty H1, k H1 S1⟩
def spWorksC (C : Addr) (K : PySem.W.Frag) : Sp := fun vs H Q _ => ∃ p W, vs = [.ref p] ∧ WoAt K C H p W ∧ Q .non H
theorem d_worksC (T : Txt mg) (Wc : WoC K C) (Wq : WoQ K C) (hC : mg "Works" = some (.ref C)) (A : At K mg "check_works" sCheckWorks) : Def P w K mg base "check_works" 1 ["thing"] (spWorksC C K) := by
  refine mkDef A scCheckWorks (fun _ _ _ _ _ _ us hl => match us, hl with | [_], _ => rfl) (fun vs H Q E ⟨_, _, e, _⟩ => by rw [e]; rfl)
    (fun f cdv A out s H vs Q E hr h => ?_)
  obtain ⟨p, W, rfl, hw, k⟩ := h
  obtain ⟨dx, tp, dp, tr, dr, tc, tm, dm, tl, e0, _⟩ := hw.ex
  refine ⟨_, (pss_one (ps_if (pt_not (pt_val (pe_callB call_isa (by rfl) T.isinstance PyProof.Rows.boot_isinstance (pa_cons (pv 0) (pa_cons (pe_glob (v := V.ref C) (by rfl) hC rfl) pa_nil)))))
      (pss_one ps_never)
      pss_nil)), ?_⟩
  exact ⟨_, rfl, .ref p, .ref C, .ref C, .ref C, true, rfl, .own C, .base (.base (.ins e0 Wc.cl Wq.c1 Wq.c2 Wq.c3 Wq.mo)), Wq.kit, _, rfl, iteF k⟩
end
end V45

namespace V45
open PySem PySem.Spec PyProof.Rows L2 Pw
/-- a box of draws -/
def BoxAt (H : Hp) (p : Addr) (n : Nat) : Prop := ∃ b0 b1 b2 : Int, H p = some (.lst [.int b0, .int b1, .int b2]) ∧
  0 ≤ b1 ∧ b1 < 2147483563 ∧ 0 ≤ b2 ∧ b2 ≤ n
theorem BoxAt.up {H : Hp} {p : Addr} {n m : Nat} (h : BoxAt H p n) (l : n ≤ m) : BoxAt H p m := by
  obtain ⟨b0, b1, b2, e, h1, h2, h3, h4⟩ := h
  exact ⟨b0, b1, b2, e, h1, h2, h3, by omega⟩
theorem BoxAt.keep {H H' : Hp} {p : Addr} {n : Nat} (h : BoxAt H p n) (S : Same H H') : BoxAt H' p n := by
  obtain ⟨b0, b1, b2, e, r⟩ := h
  exact ⟨b0, b1, b2, S _ _ e, r⟩
theorem BoxAt.laid {H : Hp} {p q : Addr} {n : Nat} {o : HO} (h : BoxAt H p n) (nq : H q = none) : BoxAt (upd H q o) p n := h.keep (Same.laid nq)
theorem BoxAt.ne {H : Hp} {p q : Addr} {n : Nat} (h : BoxAt H p n) (nq : H q = none) : q ≠ p := by
  obtain ⟨b0, b1, b2, e, r⟩ := h
  exact (ne_of_none e nq).symm
theorem menu {xs : List V} {i : Int} (h0 : 0 ≤ i) (h1 : i < (xs.length : Int)) : ∃ v, v ∈ xs ∧ atI xs i = some v := by
  obtain ⟨j, rfl⟩ := Int.eq_ofNat_of_zero_le h0
  have hj : j < xs.length := by omega
  exact ⟨xs[j], List.getElem_mem hj, atI_nat (by simp [hj])⟩

section
variable {P : Program} {w : World} {K : PySem.W.Frag} {mg : Str → Option Value} {base : Heap}
def spCell (K : PySem.W.Frag) : Sp := fun vs H Q _ => ∃ (a : Addr) (ns : List Int) (k : Int), vs = [.ref a, .int k] ∧ SqL K H a (ns.map V.int) ∧ ns.length ≤ 63 ∧
  0 ≤ k ∧ k ≤ 100 ∧ ∀ c, Q (.int c) H
theorem d_cell (T : Txt mg) (A : At K mg "_law_cell" sLawCell) : Def P w K mg base "_law_cell" 1 ["_law_script", "_law_k"] (spCell K) := by
  refine mkDef A scLawCell (fun _ _ _ _ _ _ us hl => match us, hl with | [_, _], _ => rfl) (fun vs H Q E ⟨a, ns, k, e, _⟩ => by rw [e]; rfl)
    (fun f cdv A out s H vs Q E hr h => ?_)
  obtain ⟨a, ns, i, rfl, hS, hl, h0, h1, k⟩ := h
  refine ⟨_, (pss_cons (ps_if (pt_cmpR op_lt (pv 1) (pe_callB call_len_seq (by rfl) T.len PySem.boot_len (pa_cons (pv 0) pa_nil)) (nomark _))
      (pss_one (ps_ret (pe_ix ix_list (pv 0) (pv 1) (fun _ _ => rfl))))
      pss_nil)
    (pss_one (ps_ret (pe_op op_add (pe_op op_mul pe_int (pv 1)) pe_int)))), ?_⟩
  refine ⟨_, rfl, _, rfl, a, ns.map V.int, rfl, .inl hS, i, _, rfl, rfl, _, rfl, ?_⟩
  refine ite2 (fun hlt => ?_) (fun _ => ?_)
  · have hlt' : i < ((ns.map V.int).length : Int) := of_decide_eq_true hlt
    rw [List.length_map] at hlt'
    obtain ⟨j, rfl⟩ := Int.eq_ofNat_of_zero_le h0
    have hj : j < ns.length := by omega
    refine ⟨_, rfl, _, rfl, a, ns.map V.int, (j : Int), .int ns[j], rfl, rfl, hS, ?_, k _⟩
    exact atI_nat (by simp [hj])
  · exact ⟨_, rfl, _, _, rfl, rfl, .inl ⟨by decide, by decide⟩, _, _, rfl, rfl, k _⟩

def spBox (K : PySem.W.Frag) : Sp := fun vs H Q _ => ∃ c, vs = [.int c] ∧
  ∀ p H', H p = none → Same H H' → BoxAt H' p 0 → Q (.ref p) H'
theorem d_box (T : Txt mg) (A : At K mg "_law_box" sLawBox) : Def P w K mg base "_law_box" 1 ["_law_cell_here"] (spBox K) := by
  refine mkDef A scLawBox (fun _ _ _ _ _ _ us hl => match us, hl with | [_], _ => rfl) (fun vs H Q E ⟨c, e, _⟩ => by rw [e]; rfl)
    (fun f cdv A out s H vs Q E hr h => ?_)
  obtain ⟨c, rfl, k⟩ := h
  refine ⟨_, (pss_one (ps_ret (pe_lst (pa_cons (pe_callB (call_max2 rfl) (by rfl) T.max PyProof.Rows.boot_max (pa_cons pe_int (pa_cons (pe_op op_sub (pv 0) (pe_op op_pow pe_int pe_int)) pa_nil))) (pa_cons (pe_op op_mod (pv 0) pe_int) (pa_cons pe_int pa_nil)))))), ?_⟩
  refine ⟨_, rfl, 10, 18, rfl, rfl, ⟨by decide, by decide, by decide⟩, _, _, rfl, rfl, 0, _, rfl, _, rfl, _, _, rfl, rfl, (by decide : (0 : Int) < 2147483563), (by show 3 ≤ sizeLine; decide), fun p hp => ?_⟩
  refine k p _ hp (Same.laid hp) ⟨_, _, _, upd_same, ?_, ?_, by decide, by decide⟩
  · exact Int.emod_nonneg _ (by decide)
  · have := Int.emod_lt_of_pos c (by decide : (0 : Int) < 2147483563)
    omega

def spTake (K : PySem.W.Frag) : Sp := fun vs H Q _ => ∃ p m n, vs = [.ref p, .int m] ∧ BoxAt H p n ∧ n ≤ 1000000 ∧ 0 < m ∧ m < 2 ^ 200 ∧
  ∀ i H', 0 ≤ i → i < m → BoxAt H' p (n + 1) → But p H H' → Q (.int i) H'
theorem d_take (A : At K mg "_law_take" sLawTake) : Def P w K mg base "_law_take" 1 ["_law_box_here", "_law_many"] (spTake K) := by
  refine mkDef A scLawTake (fun _ _ _ _ _ _ us hl => match us, hl with | [_, _], _ => rfl) (fun vs H Q E ⟨p, m, n, e, _⟩ => by rw [e]; rfl)
    (fun f cdv A out s H vs Q E hr h => ?_)
  obtain ⟨p, m, n, rfl, ⟨b0, b1, b2, hp, h1, h2, h3, h4⟩, hn, m0, mb, k⟩ := h
  have mb' : m.natAbs < 2 ^ 200 := by omega
  have at0 : atI [V.int b0, .int b1, .int b2] 0 = some (.int b0) := rfl
  have at1 : atI [V.int b0, .int b1, .int b2] 1 = some (.int b1) := rfl
  have at2 : atI [V.int b0, .int b1, .int b2] 2 = some (.int b2) := rfl
  refine ⟨_, (pss_cons (ps_if (pt_cmpR op_gt (pe_ix ix_list (pv 0) pe_int (fun _ _ => rfl)) pe_int (nomark _))
      (pss_cons (ps_set (i := 2) scLawTake.nd rfl (.inl rfl) (pe_op op_mod (pe_ix ix_list (pv 0) pe_int (fun _ _ => rfl)) (pv 1)))
      (pss_cons (ps_asg (pe_op op_fdivW (pe_ix ix_list (pv 0) pe_int (fun _ _ => rfl)) (pv 1)) (pg_sub (pv 0) pe_int set_list))
      (pss_one (ps_ret (pv 2)))))
      pss_nil)
    (pss_cons (ps_asg (pe_op op_add (pe_ix ix_list (pv 0) pe_int (fun _ _ => rfl)) pe_int) (pg_sub (pv 0) pe_int set_list))
    (pss_cons (ps_set (i := 3) scLawTake.nd rfl (.inl rfl) (pe_op op_mod (pe_op op_pow (pe_op op_add (pe_op op_add (pe_ix ix_list (pv 0) pe_int (fun _ _ => rfl)) (pe_op op_mul pe_int (pe_ix ix_list (pv 0) pe_int (fun _ _ => rfl)))) pe_int) pe_int) pe_int))
    (pss_cons (ps_set (i := 3) scLawTake.nd rfl (.inl rfl) (pe_op op_mod (pe_op op_pow (pe_op op_add (pv 3) (pe_op op_mul pe_int (pe_ix ix_list (pv 0) pe_int (fun _ _ => rfl)))) pe_int) pe_int))
    (pss_one (ps_ret (pe_op op_mod (pe_op op_fdiv (pv 3) pe_int) (pv 1)))))))), ?_⟩
  refine ⟨_, rfl, p, _, 0, _, rfl, rfl, SqL.of hp, at0, b0, 0, rfl, rfl, _, rfl, ?_⟩
  refine ite2 (fun hgt => ?_) (fun _ => ?_)
  · refine ⟨_, rfl, p, _, 0, _, rfl, rfl, SqL.of hp, at0, _, rfl, b0, m, rfl, rfl, m0, ?_⟩
    refine ⟨_, rfl, p, _, 0, _, rfl, rfl, SqL.of hp, at0, _, rfl, b0, m, rfl, rfl, wide_div m0 mb' (by decide) (by decide), ?_⟩
    refine ⟨_, rfl, p, _, 0, 0, rfl, rfl, hp, rfl, ?_⟩
    refine ⟨_, rfl, ?_⟩
    exact k _ _ (Int.emod_nonneg _ (by omega)) (Int.emod_lt_of_pos _ m0) ⟨_, b1, b2, upd_same, h1, h2, h3, by omega⟩ But.set
  · refine ⟨_, rfl, p, _, 2, _, rfl, rfl, SqL.of hp, at2, _, _, rfl, rfl, ?_⟩
    refine ⟨_, rfl, p, _, 2, 2, rfl, rfl, hp, rfl, ?_⟩
    have hp2 : upd H p (.lst [V.int b0, .int b1, .int (b2 + 1)]) p = some (.lst [V.int b0, .int b1, .int (b2 + 1)]) := upd_same
    have bt1 : atI [V.int b0, .int b1, .int (b2 + 1)] 1 = some (.int b1) := rfl
    have bt2 : atI [V.int b0, .int b1, .int (b2 + 1)] 2 = some (.int (b2 + 1)) := rfl
    refine ⟨_, rfl, p, _, 1, _, rfl, rfl, SqL.of hp2, bt1, _, rfl, p, _, 2, _, rfl, rfl, SqL.of hp2, bt2, _, _, rfl, rfl, .inl ⟨by decide, by decide⟩, _, _, rfl, rfl, _, _, rfl, rfl, 
      _, _, rfl, rfl, ⟨by decide, by decide, by omega⟩, _, _, rfl, rfl, (by decide : (0 : Int) < 2147483647), ?_⟩
    have e1 := Int.emod_nonneg ((b1 + 60013 * (b2 + 1) + 5) ^ (5 : Int).toNat) (by decide : (2147483647 : Int) ≠ 0)
    have e2 := Int.emod_lt_of_pos ((b1 + 60013 * (b2 + 1) + 5) ^ (5 : Int).toNat) (by decide : (0 : Int) < 2147483647)
    refine ⟨_, rfl, _, rfl, p, _, 2, _, rfl, rfl, SqL.of hp2, bt2, _, _, rfl, rfl, .inl ⟨by decide, by decide⟩, _, _, rfl, rfl, 
      _, _, rfl, rfl, ⟨by decide, by decide, ?_⟩, _, _, rfl, rfl, (by decide : (0 : Int) < 2147483629), ?_⟩
    · generalize (b1 + 60013 * (b2 + 1) + 5) ^ (5 : Int).toNat % 2147483647 = z at e1 e2
      omega
    · refine ⟨_, rfl, _, _, rfl, rfl, ⟨by decide, by decide⟩, _, rfl, _, _, rfl, rfl, m0, ?_⟩
      exact k _ _ (Int.emod_nonneg _ (by omega)) (Int.emod_lt_of_pos _ m0) ⟨b0, b1, b2 + 1, upd_same, h1, h2, by omega, by omega⟩ But.set
end
end V45

/-! Sets of texts and numbers that can be gone through: made by a comprehension, sorted. -/
namespace Pw
open PySem PySem.Spec PyProof.Rows L2
def keyM : Value → Key
  | .int i _ => .inl i
  | .str x _ => .inr x
  | _ => .inl 0
def keysM (l : List (Int × Value)) : List Key := l.map fun e => keyM e.2
/-- what a table tells: each key once, its places rise, it is led -/
structure TabOk (w : World) (l : List (Int × Value)) (t : SetTable) : Prop where
  nd : (keysM l).Nodup
  ri : Ris t.place.toList
  le : w.params.followText "set-order" = true ∨ t.led = true
def SetQ (P : Program) (w : World) (h : Heap) (a : Addr) (S : Key → Bool) (n : Nat) : Prop :=
  ∃ o es ep t, h.get? a = some o ∧ o.ExactSet ∧ o.data = .set es ep t ∧ ElemsOf (mixKind P w) es.toList ∧ (∀ k, S k = true ↔ k ∈ keysM es.toList) ∧ es.size < scanBound ∧ t.fits es.size = true ∧ es.size = n ∧ TabOk w es.toList t
section
variable {P : Program} {w : World} {h h' : Heap} {a : Addr} {S : Key → Bool} {n : Nat}
theorem keyM_is {k : Key} {v : Value} (h : (mixKind P w).is k v = true) : keyM v = k := by
  rcases keyIs_shape h with ⟨i, t, rfl, rfl⟩ | ⟨x, t, rfl, rfl⟩ <;> rfl
theorem is_keyM {l : List (Int × Value)} (g : ElemsOf (mixKind P w) l) {e : Int × Value} (he : e ∈ l) {k : Key} : (mixKind P w).is k e.2 = true ↔ keyM e.2 = k := by
  refine ⟨keyM_is, fun q => ?_⟩
  obtain ⟨⟨k', h1, _⟩, _⟩ := g e he
  have := keyM_is h1
  rw [← q, this]
  exact h1
theorem mem_keysM {l : List (Int × Value)} (g : ElemsOf (mixKind P w) l) (k : Key) : k ∈ keysM l ↔ ∃ e ∈ l, (mixKind P w).is k e.2 = true := by
  unfold keysM
  rw [List.mem_map]
  exact ⟨fun ⟨e, he, q⟩ => ⟨e, he, (is_keyM g he).mpr q⟩, fun ⟨e, he, q⟩ => ⟨e, he, (is_keyM g he).mp q⟩⟩
theorem SetQ.of (R : SetQ P w h a S n) : h.SetOf (mixKind P w) a S n := by
  obtain ⟨o, es, ep, t, c1, c2, c3, c4, c5, c6, c7, c8, _⟩ := R
  exact ⟨o, es, ep, t, c1, c2, c3, c4, fun k => (c5 k).trans (mem_keysM c4 k), c6, c7, c8⟩
theorem SetQ.keep (R : SetQ P w h a S n) (k : ∀ o, h.get? a = some o → h'.get? a = some o) : SetQ P w h' a S n := by
  obtain ⟨o, es, ep, t, c1, r⟩ := R
  exact ⟨o, es, ep, t, k o c1, r⟩
theorem TabOk.move {l l' : List (Int × Value)} {t t' : SetTable} (T : TabOk w l t) (p : List.Perm l' l) (r : Ris t'.place.toList) (e : t'.led = t.led) : TabOk w l' t' :=
  ⟨(p.map fun e : Int × Value => keyM e.2).nodup_iff.mpr T.nd, r, T.le.imp id fun z => e.trans z⟩
theorem setQ_fresh {P : Program} {h : Heap} : SetQ P w (h.push { cls := Value.type "set", data := Data.set #[] 0 (SetTable.fresh 0 0 !w.params.followText "set-order") }) h.objs.size (fun _ => false) 0 := by
  refine ⟨_, #[], 0, _, Heap.get?_push_size _ rfl, ⟨rfl, rfl, rfl⟩, rfl, (fun e he => by cases he), (fun k => by simp [keysM]), by decide, ?_, rfl, ⟨List.nodup_nil, List.Pairwise.nil, ?_⟩⟩
  · cases (!w.params.followText "set-order") <;> rfl
  · show _ ∨ (!w.params.followText "set-order") = true
    cases w.params.followText "set-order" <;> simp
end
section
variable {P : Program} {w : World} {A : Around} {E : Value → Shared → Prop} {s : Shared} {a : Addr} {S : Key → Bool} {n : Nat}
/-- a table stored, laid anew where it is too full -/
theorem tail_setQ {gv : Bool → Sem Unit} (hg : ∀ (b : Bool) (z : Shared) (Qu : Unit → Shared → Prop), Qu () z → wpAny (model P w) A (gv b) Qu E z) {o : Obj} {es es1 : Array (Int × Value)} {ep : Nat} {t t2 : SetTable} {S' : Key → Bool} {wd : Bool} {R : Option Bool → Shared → Prop}
    (at0 : s.heap.get? a = some o) (xs : o.ExactSet) (dt : o.data = .set es ep t) (el : ElemsOf (mixKind P w) es1.toList) (mm : ∀ k, S' k = true ↔ k ∈ keysM es1.toList) (sz : es1.size < scanBound) (ft : t2.fits es1.size = true) (T : TabOk w es1.toList t2)
    (kk : ∀ h', Heap.SameBut a s.heap h' → SetQ P w h' a S' es1.size → R (some true) { s with heap := h' }) :
    wpAny (model P w) A (storeSet a es1 t2 >>= fun _ => if (!wd && t2.tooFull) = true then (gv (relayAll t2 es1 (SetTable.grown es1.size)).2.2 >>= fun _ => storeSet a (relayAll t2 es1 (SetTable.grown es1.size)).1 (relayAll t2 es1 (SetTable.grown es1.size)).2.1 >>= fun _ => pure (some true)) else pure (some true)) R E s := by
  have at1 := store_at (es' := es1) (t' := t2) at0 dt
  have b1 := Heap.SameBut.update s.heap a (Obj.putSet es1 t2)
  refine wpAny_bind (wpAny_storeSet_of at0 dt ?_ (fits_of_scanBound sz))
  by_cases tf : (!wd && t2.tooFull) = true
  · rw [if_pos tf]
    have q1 := relayAll_perm t2 es1 (SetTable.grown es1.size)
    have q2 := relayAll_fits t2 es1 (SetTable.grown es1.size)
    have q3 := T.move q1 (relayAll_ris t2 es1 (SetTable.grown es1.size)) (relayAll_led t2 es1 (SetTable.grown es1.size))
    generalize relayAll t2 es1 (SetTable.grown es1.size) = Y at q1 q2 q3 ⊢
    obtain ⟨es2, t3, gave⟩ := Y
    dsimp only at q1 q2 q3 ⊢
    have z2 : es2.size = es1.size := by rw [← Array.length_toList, q1.length_eq, Array.length_toList]
    refine wpAny_bind (hg _ _ _ (wpAny_bind (wpAny_storeSet_of at1 rfl ?_ (fits_of_scanBound (z2 ▸ sz)))))
    refine wpAny_pure (kk _ (b1.trans (Heap.SameBut.update _ a _)) ⟨_, es2, _, t3, store_at (es' := es2) (t' := t3) at1 rfl, xs, rfl, el.perm q1, fun k => (mm k).trans (q1.map fun e : Int × Value => keyM e.2).mem_iff.symm, z2 ▸ sz, q2, z2, q3⟩)
  · rw [if_neg tf]
    exact wpAny_pure (kk _ b1 ⟨_, es1, _, t2, at1, xs, rfl, el, mm, sz, ft, rfl, T⟩)
theorem hashed_setQ {k : Key} {x : Value} {Q : Bool → Shared → Prop} (hk : (mixKind P w).is k x = true) (hx : x.scannable = true) (R : SetQ P w s.heap a S n) (room : n + 1 < scanBound)
    (kk : ∀ h', Heap.SameBut a s.heap h' → SetQ P w h' a (fun j => S j || decide (j = k)) (if S k = true then n else n + 1) → Q (!S k) { s with heap := h' }) :
    wpAny (model P w) A (setAddHashed a x ((mixKind P w).hash k)) Q E s := by
  obtain ⟨o, es, ep, t, at0, xs, dt, el, mm, sz, ft, rfl, T⟩ := R
  unfold setAddHashed setAddHashedIn
  refine wpAny_holding (wpAny_bind (wpAny_setState_of at0 dt ft ?_))
  dsimp only
  rw [byScan_of hx sz el, if_pos rfl]
  unfold setAddByScan
  refine wpAny_bind (wpAny_bind (wpAny_rule (wpAny_bind (wpAny_setScan_of hk at0 dt ft el ?_))))
  cases fi : List.findIdx? (fun e => (mixKind P w).is k e.2) es.toList with
  | some j =>
    obtain ⟨jl, jp, _⟩ := List.findIdx?_eq_some_iff_getElem.mp fi
    have sk : S k = true := (mm k).mpr ((mem_keysM el k).mpr ⟨_, List.getElem_mem jl, jp⟩)
    have fin := kk s.heap (.refl a s.heap) ⟨o, es, ep, t, at0, xs, dt, el, fun i => by
      rw [Bool.or_eq_true, decide_eq_true_eq, ← mm i]
      exact ⟨fun z => z.elim id fun e => e ▸ sk, .inl⟩, sz, ft, by rw [if_pos sk], T⟩
    rw [sk] at fin
    exact wpAny_pure (wpAny_pure fin)
  | none =>
    dsimp only
    have nk : k ∉ keysM es.toList := fun z => by
      obtain ⟨e, he, q⟩ := (mem_keysM el k).mp z
      exact absurd q (by rw [List.findIdx?_eq_none_iff.mp fi e he]; decide)
    have sk : S k = false := by
      cases q : S k with
      | false => rfl
      | true => exact absurd ((mm k).mp q) nk
    have p1 := layNew_perm t es ((mixKind P w).hash k) x
    have p2 := layNew_fits t es ((mixKind P w).hash k) x
    have p3 := layNew_ris t es ((mixKind P w).hash k) x T.ri
    have p4 := layNew_led t es ((mixKind P w).hash k) x
    generalize layNew t es ((mixKind P w).hash k) x = Y at p1 p2 p3 p4 ⊢
    obtain ⟨es1, t1, wd, gave⟩ := Y
    dsimp only at p1 p2 p3 p4 ⊢
    rw [Array.toList_push] at p1
    have pc : (keysM es1.toList).Perm (k :: keysM es.toList) := by
      have q := (p1.trans (List.perm_append_singleton _ _)).map fun e : Int × Value => keyM e.2
      rw [List.map_cons, keyM_is hk] at q
      exact q
    have el1 : ElemsOf (mixKind P w) es1.toList := (el.push hk hx).perm p1
    have T1 : ∀ t', t'.place = t1.place → t'.led = t1.led → TabOk w es1.toList t' := fun t' e1 e2 => ⟨pc.nodup_iff.mpr (List.nodup_cons.mpr ⟨nk, T.nd⟩), by rw [e1]; exact p3, T.le.imp id fun z => by rw [e2, p4]; exact z⟩
    have m1 : ∀ i, (S i || decide (i = k)) = true ↔ i ∈ keysM es1.toList := fun i => by
      rw [Bool.or_eq_true, decide_eq_true_eq, mm i, pc.mem_iff, List.mem_cons]
      exact Or.comm
    have z1 : es1.size = es.size + 1 := by rw [← Array.length_toList, p1.length_eq, List.length_append, Array.length_toList]; rfl
    have fin : ∀ h', Heap.SameBut a s.heap h' → SetQ P w h' a (fun j => S j || decide (j = k)) es1.size → Q true { s with heap := h' } := fun h' sb r => by
      have q := kk h' sb
      rw [sk, if_neg (by decide), ← z1] at q
      exact q r
    have gw : ∀ (b : Bool) (Qu : Unit → Shared → Prop), Qu () s → wpAny (model P w) A (match b with | true => rule "set.scan.the-table-gave-way" | false => pure ()) Qu E s := fun b Qu q => by
      cases b
      · exact wpAny_pure q
      · exact wpAny_rule q
    refine wpAny_bind (gw gave _ ?_)
    · split
      · refine wpAny_bind ?_
        rw [hashByValue_scannable 8 hx]
        refine wpAny_pure (tail_setQ (fun b z Qu q => by cases b <;> first | exact wpAny_pure q | exact wpAny_rule q) at0 xs dt el1 m1 (z1 ▸ room) ?_ ?_ fun h' sb r => wpAny_pure (fin h' sb r))
        · split
          · exact p2
          · exact SetTable.fits_plain_off p2
        · split
          · exact T1 _ rfl rfl
          · exact T1 _ rfl rfl
      · refine wpAny_bind (wpAny_pure ?_)
        rw [if_pos rfl]
        exact tail_setQ (fun b z Qu q => by cases b <;> first | exact wpAny_pure q | exact wpAny_rule q) at0 xs dt el1 m1 (z1 ▸ room) p2 (T1 _ rfl rfl) fun h' sb r => wpAny_pure (fin h' sb r)
end
/-! ### the set as it stands in the tracked part -/
def SetQO (P : Program) (w : World) (a : Addr) (S : Key → Bool) (n : Nat) : HO := .ext fun h => SetQ P w h a S n
theorem setQ_new {w : World} {P : Program} {H : Hp} {h : Heap} {a : Addr} {S : Key → Bool} {n : Nat} (R : SetQ P w h a S n) : ObjOk P w H h a (SetQO P w a S n) := by
  have ⟨o, _, _, _, ho, _⟩ := R
  exact ⟨R, ⟨o, ho⟩, fun h1 h2 p k => SetQ.keep p k⟩
theorem setQ_get {X : Cx} {pins : List (Addr × Obj)} {σ : L2.St} {H : Hp} {s : Shared} {a : Addr} {S : Key → Bool} {n : Nat} (I : Inv X pins σ H s) (ha : H a = some (SetQO X.prog X.w a S n)) : SetQ X.prog X.w s.heap a S n := (I.hok a _ ha).1
def rSAddQ (P : Program) (w : World) : V → List V → Hp → VK → Prop := fun x xs H Q => ∃ (a : Addr) (k : Key) (S : Key → Bool) (n : Nat), x = V.ref a ∧ xs = [kV k] ∧ H a = some (SetQO P w a S n) ∧ n + 1 < scanBound ∧
  Q .non (upd H a (SetQO P w a (fun j => S j || decide (j = k)) (if S k = true then n else n + 1)))
theorem mt_saddQ {X : Cx} : MtR X "set.add" (rSAddQ X.prog X.w) := by
  intro pins s σ H x xs v us Q I rx rxs h
  obtain ⟨a, k, S, n, rfl, rfl, ha, room, q⟩ := h
  cases rx
  cases rxs with
  | cons ry rt =>
    rename_i y _
    cases rt
    have R := setQ_get I ha
    refine wpAny_call_entry F.slot_set_add R.of.typeIs F.entry_set_add ?_ (F.args_set_add_2 _ _)
    unfold Builtin.«set.add» Builtin.Frozenset.oneOther
    simp only [List.isEmpty_nil, bind_assoc]
    unfold Builtin.Frozenset.addrOf setAdd
    refine wpAny_bind (wpAny_pure ?_)
    try dsimp only
    refine wpAny_bind (wpAny_pure ?_)
    try dsimp only
    refine wpAny_bind (wpAny_holding (wpAny_bind ((mixKind X.prog X.w).pyHash (kV_is ry) ?_)))
    refine hashed_setQ (s := { s with toks := s.toks + 1 }) (kV_is ry) (key_scan ry) R room fun h' sb new => ?_
    have he : ∃ u, h'.get? a = some u := by
      have ⟨o, _, _, _, ho, _⟩ := new
      exact ⟨o, ho⟩
    show wpAny _ _ (ret Value.none) _ _ _
    exact wpAny_pure ⟨_, rfl, .non, upd H a (SetQO X.prog X.w a (fun j => S j || decide (j = k)) (if S k = true then n else n + 1)), I.write (e := a) (t' := s.toks + 1) (by rw [ha]; trivial) (.inl rfl) (fun b u hb hu => (sb.2 b hb).trans hu) he (setQ_new new), rfl, q⟩
def tScQ (P : Program) (w : World) (wi : TI) (g : TG) (tt : L2.TT) (te : TE) (vs : List Nat) : TE := fun σ H Q => wi σ H fun J H1 => ∀ D, H1 D = none →
  ∃ W : Nat → Nat → Hp → Prop, (∃ m, W 0 m (upd H1 D (SetQO P w D (fun _ => false) 0))) ∧ ∀ i m H, W i m H → (J.stop i H ∧ Q (.ref D) H) ∨
    (J.go i H ∧ ∃ Nx : Hp → Prop, (∀ H', Nx H' → ∃ m', m' < m ∧ W (i + 1) m' H') ∧ ∀ x H', J.yld i H x H' → g x (wipe σ vs) H' fun σ2 H2 => wipe σ2 vs = wipe σ vs ∧ tt σ2 H2 fun b H3 =>
      if b = true then te σ2 H3 fun y H4 => ∃ (k : Key) (S : Key → Bool) (n : Nat), y = kV k ∧ H4 D = some (SetQO P w D S n) ∧ n + 1 < scanBound ∧
        Nx (upd H4 D (SetQO P w D (fun j => S j || decide (j = k)) (if S k = true then n else n + 1))) else Nx H3)
section
variable {X : Cx} {pins : List (Addr × Obj)} {s : Shared} {σ : L2.St} {H : Hp} {Q : VK} {elt tg iter : Expr}
  {ifs : List Expr} {scope : Scope} {own : List (Str × Nat)} {pos pos' : Pos} {wi : TI} {g : TG}
  {tt : L2.TT} {te : TE} {use : Option (Value → Sem Unit)} {Qf : Value → Shared → Prop}
theorem scQ_core (hc : X.calm = true) (hN : X.N.Nodup) (I : Inv X pins σ H s) (hi : PI X tg iter wi) (ok : BlkOk X.N X.env.scope scope own)
    (hg : ∀ (s : Shared) (H : Hp) (C : Addr) (cl : List (Str × Addr)) (fp : List Addr), PG (X.blk s H scope (compEnvC scope cl C X.env) fp) tg g)
    (ht : ∀ (s : Shared) (H : Hp) (C : Addr) (cl : List (Str × Addr)) (fp : List Addr), PTs (X.blk s H scope (compEnvC scope cl C X.env) fp) ifs tt)
    (he : ∀ (s : Shared) (H : Hp) (C : Addr) (cl : List (Str × Addr)) (fp : List Addr), PE (X.blk s H scope (compEnvC scope cl C X.env) fp) elt te)
    (hs : ∀ x : Value, foldedSetIterable iter X.env x = pure x) (h : tScQ X.prog X.w wi g tt te (own.map (·.2)) σ H Q)
    (hRR : ∀ (D C : Addr) (s' : Shared) (m : Str → Option Value) (H' : Hp), Inv X pins σ H' s' → Q (.ref D) H' → s'.heap.Ns C m → FpOk X pins H' C →
      compPost (model X.prog X.w) X.A X.xe use Qf (.ref D) C (.ok .next) s') :
    wpAny (model X.prog X.w) X.A (comprehension (elt.SetComp [{ target := tg, iter := iter, ifs := ifs, is_async := 0 }] scope pos) scope X.env pos' (newSet (.type "set")) false (eval iter X.env) use) Qf X.xe s := by
  have hfree : ∀ y ∈ scope.names, y.2 = NameKind.free → ∃ c, List.lookup y.1 X.env.cells = some c := fun y hy e => by
    rcases ok.free y hy e with k | k
    · exact I.ok.has y.1 (Or.inl k)
    · exact I.ok.has y.1 (Or.inr k)
  refine wpAny_comprehension_free rfl hs (closure_ok hfree) ok.kind (fun y hy e => by rw [ok.uniq y hy, e]) ?_
  refine thn (hi.run pins s σ H _ I h) fun xv s1 hx => thn hx fun itv s2 h2 => ?_
  obtain ⟨it, fp, tn, J, H2, rfl, I2, T, st2, f2, q⟩ := h2
  refine PpSet.newSet_ok (newEnv_comp ?_)
  have hDn := HOk.fresh I2.hok (Nat.le_of_eq (Eq.refl s2.heap.objs.size))
  obtain ⟨W, ⟨m0, w0⟩, turn⟩ := q s2.heap.objs.size hDn
  generalize es3 : ({ heap := s2.heap.push { cls := Value.type "set", data := Data.set #[] 0 (SetTable.fresh 0 0 !X.w.params.followText "set-order") }, gens := s2.gens, drawn := s2.drawn, toks := s2.toks, os := s2.os } : Shared) = s3
  have eh3 : s3.heap = s2.heap.push { cls := Value.type "set", data := Data.set #[] 0 (SetTable.fresh 0 0 !X.w.params.followText "set-order") } := by rw [← es3]
  have I3 : Inv X pins σ (upd H2 s2.heap.objs.size (SetQO X.prog X.w s2.heap.objs.size (fun _ => false) 0)) s3 := by
    rw [← es3]
    exact I2.laid (fun b o e => Heap.get?_push_of_some _ e) (Nat.le_of_eq rfl) (setQ_new setQ_fresh)
  generalize hH3 : upd H2 s2.heap.objs.size (SetQO X.prog X.w s2.heap.objs.size (fun _ => false) 0) = H3 at *
  have sz : ∀ b ∈ fp, b < s2.heap.objs.size := fun b hb => by
    obtain ⟨o, e, _⟩ := T.obj 0 s2.heap st2 b hb
    exact Heap.lt_size e
  have f3 : ∀ b ∈ fp, FpOk X pins H3 b ∧ b < s3.heap.objs.size := fun b hb => by
    have hlt := sz b hb
    refine ⟨⟨?_, (f2 b hb).2⟩, ?_⟩
    · rw [← hH3, upd_ne (Nat.ne_of_lt hlt)]
      exact (f2 b hb).1
    · rw [eh3, Heap.size_push]
      exact Nat.lt_succ_of_lt hlt
  have st3 : tn 0 s3.heap := T.keep 0 s2.heap s3.heap st2 fun b _ o e => by
    rw [eh3]
    exact Heap.get?_push_of_some _ e
  have I4 := block_start I3 ok hN f3
  have pg := hg s3 H3 s3.heap.objs.size (cellsFrom (s3.heap.objs.size + 1) scope.names (cloFrom X.env.cells scope.names [])) fp
  have pt := ht s3 H3 s3.heap.objs.size (cellsFrom (s3.heap.objs.size + 1) scope.names (cloFrom X.env.cells scope.names [])) fp
  have pe := he s3 H3 s3.heap.objs.size (cellsFrom (s3.heap.objs.size + 1) scope.names (cloFrom X.env.cells scope.names [])) fp
  have nfp : ∀ b ∈ fp, H3 b = none := fun b hb => (f3 b hb).1.1
  generalize eCe : cellsFrom (s3.heap.objs.size + 1) scope.names (cloFrom X.env.cells scope.names []) = ce at *
  generalize eDN : s3.heap.objs.size = DN at *
  have stat : ∀ {σ' : L2.St} {H' : Hp} {s' : Shared}, Inv (X.blk s3 H3 scope (compEnvC scope ce DN X.env) fp) [] σ' H' s' → (∀ b ∈ fp, H' b = none) → ∀ b ∈ fp, FpOk (X.blk s3 H3 scope (compEnvC scope ce DN X.env) fp) [] H' b := fun {σ' H' s'} I' hn b hb =>
    ⟨hn b hb, (I'.ok.exf b hb).1, I'.ok.exfs b hb, .inl hb, fun x c e => (I'.ok.exf b hb).2 x c e, fun p hp => absurd hp (by simp)⟩
  have st4 : tn 0 (pushCells (s3.heap.push { cls := Value.type "dict", data := Data.dict #[] }) scope.names) := T.keep 0 s3.heap _ st3 fun b _ o e => pushCells_keeps _ _ _ _ (Heap.get?_push_of_some _ e)
  have loop : codeAny (model X.prog X.w) X.A (Code.compLoop (elt.SetComp [{ target := tg, iter := iter, ifs := ifs, is_async := 0 }] scope pos) 0 (.ref it) (.ref s2.heap.objs.size) (compEnvC scope ce DN X.env))
      (compPost (model X.prog X.w) X.A X.xe use Qf (.ref s2.heap.objs.size) DN)
      { heap := pushCells (s3.heap.push { cls := Value.type "dict", data := Data.dict #[] }) scope.names, gens := s3.gens, drawn := s3.drawn, toks := s3.toks, os := s3.os } := by
    refine PpSet.compLoopS_any (fun n s' => ∃ i H', Inv (X.blk s3 H3 scope (compEnvC scope ce DN X.env) fp) [] (wipe σ (own.map (·.2))) H' s' ∧ tn i s'.heap ∧ (∀ b ∈ fp, H' b = none) ∧ W i n H') ?_ m0 ⟨0, H3, I4, st4, nfp, w0⟩
    rintro n s5 ⟨i, H5, I5, st5, n5, w5⟩
    rcases turn i n H5 w5 with ⟨stop, qq⟩ | ⟨go, Nx, hNx, step⟩
    · have td := T.done (X.blk s3 H3 scope (compEnvC scope ce DN X.env) fp) rfl rfl rfl hc i [] s5 _ H5 (fun _ _ => False) I5 (stat I5 n5) st5 stop
      refine thnF td fun r s6 h6 => ?_
      obtain ⟨rfl, I6⟩ := h6
      have I7 := Inv.call' I3 I6.os I6.base I6.hok I6.bare fun b hb => ⟨(f3 b hb).1.2.2.2.1, (f3 b hb).1.2.1, (f3 b hb).1.2.2.2.2.1, (f3 b hb).1.2.2.2.2.2⟩
      have nC : H5 DN = none := I6.free
      obtain ⟨m, hn, _⟩ := I6.loc
      exact hRR s2.heap.objs.size DN s6 m H5 I7 qq hn (I3.fpOk (Nat.le_of_eq eDN) nC)
    · have ti := T.item (X.blk s3 H3 scope (compEnvC scope ce DN X.env) fp) rfl rfl rfl hc i [] s5 _ H5 (fun _ _ => False) I5 (stat I5 n5) st5 go
      refine thnF ti fun r s6 h6 => ?_
      obtain ⟨u, rfl, h6⟩ := h6
      refine thnF h6 fun _ s7 h7 => ?_
      obtain ⟨x, H7, I7, r7, y7, st7, n7⟩ := h7
      have I7' := Inv.pinned I7 (stat I7 n7) (T.obj (i + 1) s7.heap st7)
      refine thnF (pg.run ([] ++ pinsAt fp s7.heap) s7 _ H7 x u _ I7' r7 (step x H7 y7)) fun _ s8 h8 => ?_
      obtain ⟨σ8, H8, I8, hw8, q8⟩ := h8
      have fin : ∀ {H' : Hp} {s' : Shared}, Inv (X.blk s3 H3 scope (compEnvC scope ce DN X.env) fp) ([] ++ pinsAt fp s7.heap) σ8 H' s' → Nx H' → ∃ m, m < n ∧ ∃ i H', Inv (X.blk s3 H3 scope (compEnvC scope ce DN X.env) fp) [] (wipe σ (own.map (·.2))) H' s' ∧ tn i s'.heap ∧ (∀ b ∈ fp, H' b = none) ∧ W i m H' := fun {H' s'} I' nx => by
        obtain ⟨m', hm, w'⟩ := hNx H' nx
        have z : ∀ b ∈ fp, ∀ o, s7.heap.get? b = some o → s'.heap.get? b = some o ∧ H' b = none := fun b hb o e => by
          have z := I'.pin (b, o) (List.mem_append_right _ (mem_pinsAt hb e))
          exact ⟨z.1, z.2.1⟩
        have hl : (wipe σ (own.map (·.2))).length = σ8.length := by rw [← hw8, wipe_length]
        refine ⟨m', hm, i + 1, H', Inv.weak (Inv.unpinned I') hl (fun j v e => (wipe_some (by rw [hw8]; exact e)).1), T.keep (i + 1) s7.heap s'.heap st7 (fun b hb o e => (z b hb o e).1), fun b hb => ?_, w'⟩
        obtain ⟨o, e, _⟩ := T.obj (i + 1) s7.heap st7 b hb
        exact (z b hb o e).2
      refine thnF (pt.run ([] ++ pinsAt fp s7.heap) s8 σ8 H8 _ I8 q8) fun b s9 h9 => ?_
      obtain ⟨H9, I9, q9⟩ := h9
      cases b with
      | false => exact fin I9 q9
      | true =>
        refine thnF (pe.run ([] ++ pinsAt fp s7.heap) s9 σ8 H9 _ I9 q9) fun yv s10 h10 => ?_
        obtain ⟨y, H10, I10, r10, k, S, nn, rfl, hD10, hz10, nx⟩ := h10
        have ad := mt_saddQ (X := (X.blk s3 H3 scope (compEnvC scope ce DN X.env) fp)) ([] ++ pinsAt fp s7.heap) s10 σ8 H10 (.ref s2.heap.objs.size) [kV k] (.ref s2.heap.objs.size) [yv] (fun _ H' => Nx H') I10 rfl (.cons r10 .nil) ⟨_, k, S, nn, rfl, rfl, hD10, hz10, nx⟩
        refine thnF ad fun _ s11 h11 => ?_
        obtain ⟨_, H11, I11, _, nx'⟩ := h11
        exact fin I11 nx'
  subst eCe
  subst eDN
  exact PpSet.codeAny_compStart_set loop (T.self X.A 0 _ _ _ st4 loop)
theorem pe_scQ (hc : X.calm = true) (hN : X.N.Nodup) (hi : PI X tg iter wi) (ok : BlkOk X.N X.env.scope scope own)
    (hg : ∀ (s : Shared) (H : Hp) (C : Addr) (cl : List (Str × Addr)) (fp : List Addr), PG (X.blk s H scope (compEnvC scope cl C X.env) fp) tg g)
    (ht : ∀ (s : Shared) (H : Hp) (C : Addr) (cl : List (Str × Addr)) (fp : List Addr), PTs (X.blk s H scope (compEnvC scope cl C X.env) fp) ifs tt)
    (he : ∀ (s : Shared) (H : Hp) (C : Addr) (cl : List (Str × Addr)) (fp : List Addr), PE (X.blk s H scope (compEnvC scope cl C X.env) fp) elt te)
    (hs : ∀ x : Value, foldedSetIterable iter X.env x = pure x := by intro x; rfl) :
    PE X (.SetComp elt [⟨tg, iter, ifs, 0⟩] scope pos) (tScQ X.prog X.w wi g tt te (own.map (·.2))) := by
  refine ⟨fun pins s σ H Q I h => ?_⟩
  rw [PpSet.eval_SetComp]
  refine scQ_core hc hN I hi ok hg ht he hs h fun D C s' m H' I' q hn hf => ?_
  refine ⟨m, hn, fun h' hb => ⟨.ref D, H', ?_, rfl, q⟩⟩
  exact I'.turned (it := C) (fun b o n e => (hb.2 b n).trans e) hf.1 hf.2.1 hf.2.2.2.1 hf.2.2.2.2.1 hf.2.2.2.2.2
end
/-! ### sorted -/
def strM : Value → Str
  | .str x _ => x
  | _ => ""
def intM : Value → Int
  | .int i _ => i
  | _ => 0
theorem strs_all : ∀ l : List Value, (∀ v ∈ l, ∃ x t, v = Value.str x t) → StrsAre l (l.map strM)
  | [], _ => .nil
  | v :: l, h => by
    obtain ⟨x, t, rfl⟩ := h v List.mem_cons_self
    exact .cons x t (strs_all l fun u hu => h u (List.mem_cons_of_mem _ hu))
theorem ints_all : ∀ l : List Value, (∀ v ∈ l, ∃ x t, v = Value.int x t) → IntsAre l (l.map intM)
  | [], _ => .nil
  | v :: l, h => by
    obtain ⟨x, t, rfl⟩ := h v List.mem_cons_self
    exact .cons x t (ints_all l fun u hu => h u (List.mem_cons_of_mem _ hu))
section
variable {P : Program} {w : World} {A : Around} {E : Value → Shared → Prop} {s : Shared} {a : Addr} {S : Key → Bool} {n : Nat}
/-- the members gathered into a list that is sorted: what the sort may leave is told by Ok -/
theorem sort_setQ {Q : Value → Shared → Prop} (Ok : List Value → List Value → Prop) (R : SetQ P w s.heap a S n) (calm : A.handled = none)
    (srt : ∀ (z : Shared) (l : Addr) (vs : List Value) (Qz : PySem.Fin → Shared → Prop), z.heap.get? l = some (seqObj "list" vs.toArray 0) → (∀ v ∈ vs, ∃ k, (mixKind P w).is k v = true ∧ S k = true) → vs.length ≤ sizeLine →
      (∀ out : Array Value, Ok vs out.toList → Qz (.done (.ret .none)) { z with heap := sortedHeap z.heap l vs out }) → wpAny (model P w) A.in1.in1 (Builtin.«list.sort» ⟨[.ref l], []⟩) Qz E z)
    (kk : ∀ s' p (vs : List Value) (out : Array Value) (c : Nat), (∀ b o, s.heap.get? b = some o → s'.heap.get? b = some o) → s'.gens = s.gens → s'.os = s.os → s.heap.objs.size ≤ p → s'.heap.get? p = some (seqObj "list" out c) →
      (∀ v ∈ vs, ∃ k, (mixKind P w).is k v = true ∧ S k = true) → (vs.map keyM).Nodup → (∀ k, S k = true ↔ k ∈ vs.map keyM) → vs.length = n → Ok vs out.toList → Q (.ref p) s') :
    wpAny (model P w) A (call (.builtin "sorted") [.ref a]) Q E s := by
  obtain ⟨o, es, ep, t, at0, xs, dt, el, mm, sz, ft, rfl, T⟩ := R
  refine Calls.call_function_entry kind_sorted plain_sorted entry_sorted (args_sorted1 _) ?_
  unfold Builtin.«sorted»
  refine wpAny_bind (m := checkCount "sorted" 1 1 _) (wpAny_pure ?_)
  refine wpAny_bind (collect_set (A := A.in1) calm ⟨o, at0, xs.1, dt⟩ ft sz T.ri T.le fun s1 vs k1 hz g1 o1 pm => ?_)
  have vl : vs.length = es.size := by rw [pm.length_eq, List.length_map, Array.length_toList]
  have pk : (vs.map keyM).Perm (keysM es.toList) := by
    have q := pm.map keyM
    rw [List.map_map] at q
    exact q
  have mk : ∀ k, S k = true ↔ k ∈ vs.map keyM := fun k => (mm k).trans pk.mem_iff.symm
  have each : ∀ v ∈ vs, ∃ k, (mixKind P w).is k v = true ∧ S k = true := fun v hv => by
    obtain ⟨e, he, q⟩ := List.mem_map.mp (pm.mem_iff.mp hv)
    obtain ⟨⟨k, h1, _⟩, _⟩ := el e he
    exact ⟨k, q ▸ h1, (mm k).mpr ((mem_keysM el k).mpr ⟨e, he, h1⟩)⟩
  have big : vs.length ≤ sizeLine := by rw [vl]; exact fits_of_scanBound sz
  refine wpAny_bind (wpAny_newList ?_ (by exact big))
  have atL : (s1.heap.push (seqObj "list" vs.toArray 0)).get? s1.heap.objs.size = some (seqObj "list" vs.toArray 0) := Heap.get?_push_size _ rfl
  refine wpAny_bind (wpAny_holding (wpAny_call_entry slot_list_sort ⟨_, atL, rfl⟩ entry_list_sort (srt _ _ _ _ atL each big fun out ok => ⟨_, rfl, ?_⟩) (args_list_sort _)))
  obtain ⟨c, hc⟩ := sortedHeap_at (vs := vs) (out := out) atL
  refine wpAny_pure ⟨_, rfl, kk _ s1.heap.objs.size vs out c (fun b u e => ?_) g1 o1 hz hc each (pk.nodup_iff.mpr T.nd) mk vl ok⟩
  have q := k1 b u e
  have lt := Heap.lt_size q
  exact (sortedHeap_old (Nat.ne_of_lt lt) (by rw [size_push']; exact Nat.lt_succ_of_lt lt)).trans (Heap.get?_push_of_some _ q)
end
/-- sorted(a set of texts) -/
def rSortedQS (P : Program) (w : World) : List V → Hp → VK → Prop := fun xs H Q => ∃ (a : Addr) (S : Key → Bool) (n : Nat), xs = [V.ref a] ∧ H a = some (SetQO P w a S n) ∧ (∀ i, S (.inl i) = false) ∧
  ∀ (ys : List Str) (p : Addr), ys.Nodup → (∀ x, x ∈ ys ↔ S (.inr x) = true) → ys.length = n → sortedS ys = true → H p = none → Q (.ref p) (upd H p (.lst (ys.map V.str)))
/-- sorted(a set of numbers) -/
def rSortedQI (P : Program) (w : World) : List V → Hp → VK → Prop := fun xs H Q => ∃ (a : Addr) (S : Key → Bool) (n : Nat), xs = [V.ref a] ∧ H a = some (SetQO P w a S n) ∧ (∀ x, S (.inr x) = false) ∧
  ∀ (ns : List Int) (p : Addr), ns.Pairwise (· < ·) → (∀ i, i ∈ ns ↔ S (.inl i) = true) → ns.length = n → H p = none → Q (.ref p) (upd H p (.lst (ns.map V.int)))
theorem cr_sortedQS {X : Cx} (hc : X.calm = true) : CallR X (.builtin "sorted") (rSortedQS X.prog X.w) := by
  intro pins s σ H vs us Q I r h
  obtain ⟨a, S, n, rfl, ha, hS, q⟩ := h
  rw [Vals.ref1 r]
  have allS : ∀ ws : List Value, (∀ v ∈ ws, ∃ k, (mixKind X.prog X.w).is k v = true ∧ S k = true) → StrsAre ws (ws.map strM) := fun ws h => strs_all ws fun v hv => by
    obtain ⟨k, h1, h2⟩ := h v hv
    rcases keyIs_shape h1 with ⟨i, t, rfl, rfl⟩ | ⟨x, t, rfl, rfl⟩
    · rw [hS] at h2; cases h2
    · exact ⟨x, t, rfl⟩
  refine sort_setQ (fun ws out => ∃ ss', StrsAre out ss' ∧ ss'.Perm (ws.map strM) ∧ sortedS ss' = true) (setQ_get I ha) (I.ok.hd hc) (fun z l ws Qz hl each big fin => ?_) fun s' p ws out c k g o hp hg each nd mk wl ok => ?_
  · have A1 := allS ws each
    refine list_sort_treeKAny strKind_oneLt hl A1.keysOf (fun v₁ v₂ rest e => keyKind_strs (by rw [← e]; exact A1)) big fun st' h1 h2 => ?_
    exact fin _ (sorted_out_str A1 h1 h2)
  obtain ⟨ss', b1, b2, b3⟩ := ok
  have A1 := allS ws each
  have km : ws.map keyM = (ws.map strM).map Sum.inr := by
    rw [List.map_map]
    refine List.map_congr_left fun v hv => ?_
    obtain ⟨k', h1, h2⟩ := each v hv
    rcases keyIs_shape h1 with ⟨i, t, rfl, rfl⟩ | ⟨x, t, rfl, rfl⟩
    · rw [hS] at h2; cases h2
    · rfl
  have n1 : (ws.map strM).Nodup := by
    rw [km] at nd
    exact (List.pairwise_map.mp nd).imp fun z e => z (congrArg Sum.inr e)
  have len : (ss'.map V.str).length ≤ sizeLine := by
    rw [List.length_map, b2.length_eq, List.length_map, wl]
    obtain ⟨_, _, _, _, _, _, _, _, _, sz, _, rfl, _⟩ := setQ_get I ha
    exact fits_of_scanBound sz
  have hn : H p = none := I.hok.fresh hp
  have J : Inv X pins σ (upd H p (.lst (ss'.map V.str))) { s with heap := s'.heap, gens := s'.gens, drawn := s'.drawn, toks := s'.toks } :=
    I.call (ch := []) (Un.laid k hp hn) (I.hok.laid k hp ⟨len, out.toList, c, vals_of_strs b1, hg⟩) (by rw [g]; exact I.bare) (fun _ z => nomatch z)
  have e : s' = { s with heap := s'.heap, gens := s'.gens, drawn := s'.drawn, toks := s'.toks } := by
    cases s'; cases s; cases o; rfl
  rw [e]
  refine ⟨.ref p, _, J, rfl, q ss' p (b2.nodup_iff.mpr n1) (fun x => ?_) (by rw [b2.length_eq, List.length_map, wl]) b3 hn⟩
  rw [b2.mem_iff, mk (.inr x), km]
  exact ⟨fun z => List.mem_map.mpr ⟨x, z, rfl⟩, fun z => by
    obtain ⟨y, hy, e⟩ := List.mem_map.mp z
    exact Sum.inr.inj e ▸ hy⟩
theorem cr_sortedQI {X : Cx} (hc : X.calm = true) : CallR X (.builtin "sorted") (rSortedQI X.prog X.w) := by
  intro pins s σ H vs us Q I r h
  obtain ⟨a, S, n, rfl, ha, hS, q⟩ := h
  rw [Vals.ref1 r]
  have allI : ∀ ws : List Value, (∀ v ∈ ws, ∃ k, (mixKind X.prog X.w).is k v = true ∧ S k = true) → IntsAre ws (ws.map intM) := fun ws h => ints_all ws fun v hv => by
    obtain ⟨k, h1, h2⟩ := h v hv
    rcases keyIs_shape h1 with ⟨i, t, rfl, rfl⟩ | ⟨x, t, rfl, rfl⟩
    · exact ⟨i, t, rfl⟩
    · rw [hS] at h2; cases h2
  refine sort_setQ (fun ws out => ∃ ns', IntsAre out ns' ∧ ns'.Perm (ws.map intM) ∧ ns'.Pairwise (· ≤ ·)) (setQ_get I ha) (I.ok.hd hc) (fun z l ws Qz hl each big fin => ?_) fun s' p ws out c k g o hp hg each nd mk wl ok => ?_
  · exact list_sort_treeAny hl (allI ws each) big fun out ns' h1 h2 h3 => fin _ ⟨ns', h1, h2, h3⟩
  obtain ⟨ns', b1, b2, b3⟩ := ok
  have km : ws.map keyM = (ws.map intM).map Sum.inl := by
    rw [List.map_map]
    refine List.map_congr_left fun v hv => ?_
    obtain ⟨k', h1, h2⟩ := each v hv
    rcases keyIs_shape h1 with ⟨i, t, rfl, rfl⟩ | ⟨x, t, rfl, rfl⟩
    · rfl
    · rw [hS] at h2; cases h2
  have n1 : (ws.map intM).Nodup := by
    rw [km] at nd
    exact (List.pairwise_map.mp nd).imp fun z e => z (congrArg Sum.inl e)
  have len : (ns'.map V.int).length ≤ sizeLine := by
    rw [List.length_map, b2.length_eq, List.length_map, wl]
    obtain ⟨_, _, _, _, _, _, _, _, _, sz, _, rfl, _⟩ := setQ_get I ha
    exact fits_of_scanBound sz
  have hn : H p = none := I.hok.fresh hp
  have J : Inv X pins σ (upd H p (.lst (ns'.map V.int))) { s with heap := s'.heap, gens := s'.gens, drawn := s'.drawn, toks := s'.toks } :=
    I.call (ch := []) (Un.laid k hp hn) (I.hok.laid k hp ⟨len, out.toList, c, vals_of_ints b1, hg⟩) (by rw [g]; exact I.bare) (fun _ z => nomatch z)
  have e : s' = { s with heap := s'.heap, gens := s'.gens, drawn := s'.drawn, toks := s'.toks } := by
    cases s'; cases s; cases o; rfl
  rw [e]
  have nd2 := b2.nodup_iff.mpr n1
  refine ⟨.ref p, _, J, rfl, q ns' p (lt_of_le_nodup ns' b3 nd2) (fun x => ?_) (by rw [b2.length_eq, List.length_map, wl]) hn⟩
  rw [b2.mem_iff, mk (.inl x), km]
  exact ⟨fun z => List.mem_map.mpr ⟨x, z, rfl⟩, fun z => by
    obtain ⟨y, hy, e⟩ := List.mem_map.mp z
    exact Sum.inl.inj e ▸ hy⟩
end Pw

namespace Pw
open PySem PySem.Spec PyProof.Rows L2
section
variable {J : It} {n : Nat} {G : Hp → Prop} {Y : Nat → Hp → V → Hp → Prop} {g : TG} {tt : L2.TT} {tk tv te : TE} {vs : List Nat} {σ : L2.St} {H1 : Hp} {D : Addr} {Qd : Hp → Prop}
theorem sq_it {P : Program} {wd : World} (w : Walk J n G Y) (Pv : Nat → Hp → Prop) (h0 : Pv 0 (upd H1 D (SetQO P wd D (fun _ => false) 0))) (hG : ∀ i H, i ≤ n → Pv i H → G H)
    (hs : ∀ i x H H', i < n → Pv i H → Y i H x H' → g x (wipe σ vs) H' fun σ2 H2 => wipe σ2 vs = wipe σ vs ∧ tt σ2 H2 fun b H3 => if b = true then te σ2 H3 fun y H4 =>
      ∃ (k : Key) (S : Key → Bool) (n : Nat), y = kV k ∧ H4 D = some (SetQO P wd D S n) ∧ n + 1 < scanBound ∧ Pv (i + 1) (upd H4 D (SetQO P wd D (fun j => S j || decide (j = k)) (if S k = true then n else n + 1))) else Pv (i + 1) H3)
    (hd : ∀ H, Pv n H → Qd H) : ∃ W : Nat → Nat → Hp → Prop, (∃ m, W 0 m (upd H1 D (SetQO P wd D (fun _ => false) 0))) ∧ ∀ i m H, W i m H → (J.stop i H ∧ Qd H) ∨ (J.go i H ∧ ∃ Nx : Hp → Prop, (∀ H', Nx H' → ∃ m', m' < m ∧ W (i + 1) m' H') ∧
      ∀ x H', J.yld i H x H' → g x (wipe σ vs) H' fun σ2 H2 => wipe σ2 vs = wipe σ vs ∧ tt σ2 H2 fun b H3 => if b = true then te σ2 H3 fun y H4 =>
        ∃ (k : Key) (S : Key → Bool) (n : Nat), y = kV k ∧ H4 D = some (SetQO P wd D S n) ∧ n + 1 < scanBound ∧ Nx (upd H4 D (SetQO P wd D (fun j => S j || decide (j = k)) (if S k = true then n else n + 1))) else Nx H3) := by
  refine ⟨fun i m H => i ≤ n ∧ m = n - i ∧ Pv i H, ⟨n, Nat.zero_le _, rfl, h0⟩, ?_⟩
  rintro i m H ⟨hi, rfl, p⟩
  by_cases h : i = n
  · subst h
    exact .inl ⟨w.stops H (hG _ _ (Nat.le_refl _) p), hd H p⟩
  · exact .inr ⟨w.goes i H (by omega) (hG i H hi p), Pv (i + 1), fun H' p' => ⟨n - (i + 1), by omega, by omega, rfl, p'⟩, fun x H' y => hs i x H H' (by omega) p (w.yields i H x H' (by omega) (hG i H hi p) y)⟩
end
end Pw

set_option maxHeartbeats 8000000
namespace V45
open PySem PySem.Spec PyProof.Rows L2 Pw
theorem str_dec (a b : Str) : decide (V.str a = V.str b) = decide (a = b) := by
  by_cases h : a = b
  · rw [decide_eq_true h, decide_eq_true (congrArg V.str h)]
  · rw [decide_eq_false h, decide_eq_false fun z => h (V.str.inj z)]
/-! ### the places of works -/
section
variable {P : Program} {w : World} {K : PySem.W.Frag} {mg : Str → Option Value} {base : Heap} {C : Addr}
def spPlaces (C : Addr) (K : PySem.W.Frag) : Sp := fun vs H Q _ => ∃ p W ps, vs = [.ref p] ∧ WoP K C H p W ps ∧ ∀ (ys : List Str) l H', Same H H' → H l = none → H' l = some (.lst (ys.map V.str)) → (∀ x, x ∈ ys ↔ x ∈ ps.map Pt.pl) → ys.Nodup → Q (.ref l) H'
theorem d_places (T : Txt mg) (Wc : WoC K C) (A : AtMt K C "places" "Works.places" mWorks_Places) : DefM P w K mg base C "places" 1 ["self"] (spPlaces C K) := by
  refine mkDefM A scmWorks_Places (fun _ _ _ _ _ _ us hl => match us, hl with | [_], _ => rfl) (fun vs H Q E ⟨_, _, _, e, _⟩ => by rw [e]; rfl)
    (fun f cdv A out s H vs Q E hr h => ?_)
  obtain ⟨p, W, ps, rfl, hw, k⟩ := h
  obtain ⟨dx, tp, dp, tr, dr, tc, tm, dm, tl, e0, e1, _⟩ := hw.wo.ex
  refine ⟨_, (pss_one (ps_ret (pe_callB (cr_sortedQS rfl) (by rfl) T.sorted (by decide +kernel) (pa_cons (pe_scQ (own := [("_", 1), ("place", 2)]) (g := (gTup K 3 (gCons (gName 1) (gCons (gName 2) (gCons (gName 1) gNil))))) (tt := tYes) rfl scmWorks_Places.nd (pi_sq (pe_fld (pv 0) rfl))
        (blkOk_by (own := [("_", 1), ("place", 2)]) (N := ["self", "_", "place"]) (sc := defScope mWorks_Places) (by decide +kernel))
        (fun _ _ _ _ _ => (pg_tup (by rfl) (pgs_cons (pg_name (i := 1) scmWorks_Places.nd rfl (.inl rfl)) (pgs_cons (pg_name (i := 2) scmWorks_Places.nd rfl (.inl rfl)) (pgs_cons (pg_name (i := 1) scmWorks_Places.nd rfl (.inl rfl)) pgs_nil))))) (fun _ _ _ _ _ => pts_nil)
        (fun _ _ _ _ _ => (pv 2))) pa_nil)))), ?_⟩
  refine ⟨_, rfl, p, C, dx, _, _, rfl, e0, Wc.cl, Wc.nPo, lk_eq, tp, W.xs, rfl, .inr e1, fun J G hG wk D nD => ?_⟩
  have p8 := hw.g.len
  have hlen := hw.al.length
  refine sq_it wk (fun i X => Same H X ∧ ∃ (S : Key → Bool) (n : Nat), X D = some (SetQO P w D S n) ∧ n ≤ i ∧ (∀ j, S (.inl j) = false) ∧ ∀ u, S (.inr u) = true ↔ u ∈ (ps.take i).map Pt.pl) ?_ (fun i X _ h => hG X h.1) ?_ ?_
  · exact ⟨Same.laid nD, _, 0, upd_same, Nat.le_refl _, fun _ => rfl, fun u => by simp⟩
  · rintro i v H4 H5 hi ⟨S4, S, n, eD, nl, h1, h2⟩ ⟨rfl, hx⟩
    obtain ⟨q, pt, rfl, hpt, ep⟩ := (hw.al.same S4).get hx
    refine ⟨q, _, rfl, SqT.of ep, rfl, _, _, rfl, _, _, rfl, _, _, rfl, rfl, ?_⟩
    refine ⟨rfl, ?_⟩
    unfold tYes
    refine iteT ⟨_, rfl, .inr pt.pl, S, n, rfl, eD, Nat.lt_of_le_of_lt (show n + 1 ≤ 9 by omega) (by decide), Same.wo_upd S4 nD, _, _, upd_same, by split <;> omega, fun j => ?_, fun u => ?_⟩
    · show (S (.inl j) || decide ((Sum.inl j : Key) = .inr pt.pl)) = false
      rw [h1, decide_eq_false (fun z => nomatch z)]
      rfl
    · show (S (.inr u) || decide ((Sum.inr u : Key) = .inr pt.pl)) = true ↔ _
      rw [List.take_add_one, hpt, List.map_append, List.mem_append, Bool.or_eq_true, decide_eq_true_eq, h2]
      refine or_congr Iff.rfl ⟨fun z => ?_, fun z => ?_⟩
      · rw [Sum.inr.inj z]; simp
      · simp at z; rw [z]
  rintro H4 ⟨S4, S, n, eD, nl, h1, h2⟩
  refine ⟨D, S, n, rfl, eD, h1, fun ys l nd hm _ _ nl' => ?_⟩
  rw [List.take_of_length_le (by omega)] at h2
  exact k ys l _ (S4.trans (Same.laid nl')) (Same.no S4 nl') upd_same (fun x => (hm x).trans (h2 x)) nd
def spHasPl (C : Addr) (K : PySem.W.Frag) : Sp := fun vs H Q _ => ∃ p W ps s, vs = [.ref p, .str s] ∧ WoP K C H p W ps ∧ OkName s ∧ ∀ H', Same H H' → Q (.bl (decide (s ∈ ps.map Pt.pl))) H'
theorem d_hasPl (Wc : WoC K C) (A : AtMt K C "has_place" "Works.has_place" mWorks_HasPlace) (dn : Def P w K mg base "is_name" 1 ["thing"] (spName K)) (dp : DefM P w K mg base C "places" 1 ["self"] (spPlaces C K)) :
    DefM P w K mg base C "has_place" 2 ["self", "thing"] (spHasPl C K) := by
  refine mkDefM A scmWorks_HasPlace (fun _ _ _ _ _ _ us hl => match us, hl with | [_, _], _ => rfl) (fun vs H Q E ⟨_, _, _, _, e, _⟩ => by rw [e]; rfl)
    (fun f cdv A out s H vs Q E hr h => ?_)
  obtain ⟨p, W, ps, s0, rfl, hw, on, k⟩ := h
  refine ⟨_, (pss_one (ps_ret (pe_and (pe_d dn hr (by decide) (by rfl) (pa_cons (pv 1) pa_nil)) (pe_one (pe_cmpR op_in_seq (pv 1) (pe_mm0 (pv 0) Wc.cl dp hr (by decide)) (by rfl)))))), ?_⟩
  refine ⟨_, rfl, .str s0, _, rfl, .str _, on.sh, fun H1 S1 => ⟨true, congrArg V.bl on.b, iteT ?_⟩⟩
  have hw1 := hw.same S1
  obtain ⟨dx, tp, dp', tr, dr, tc, tm, dm, tl, e0, _⟩ := hw1.wo.ex
  refine ⟨_, rfl, _, rfl, p, dx, _, rfl, e0, wof_no (by decide +kernel) (by decide +kernel) (by decide +kernel) (by decide +kernel) (by decide +kernel) (by decide +kernel) (by decide +kernel) (by decide +kernel), p, W, ps, rfl, hw1, fun ys l H2 S2 nl el hm _ => ?_⟩
  refine ⟨l, _, rfl, .inl (SqL.of el), rfl, flat_strs _, ?_⟩
  rw [inV_str]
  have : decide (s0 ∈ ys) = decide (s0 ∈ ps.map Pt.pl) := by
    by_cases h : s0 ∈ ps.map Pt.pl
    · rw [decide_eq_true h, decide_eq_true ((hm s0).mpr h)]
    · rw [decide_eq_false h, decide_eq_false fun z => h ((hm s0).mp z)]
  rw [this]
  exact k _ (S1.trans S2)
def spPtsAt (C : Addr) (K : PySem.W.Frag) : Sp := fun vs H Q _ => ∃ p W ps s, vs = [.ref p, .str s] ∧ WoP K C H p W ps ∧ s ∈ ps.map Pt.pl ∧ ∀ l H', Same H H' → H l = none → H' l = some (.lst (((ps.filter fun x => decide (x.pl = s)).map Pt.nm).map V.str)) → Q (.ref l) H'
theorem d_ptsAt (Wc : WoC K C) (A : AtMt K C "points_at" "Works.points_at" mWorks_PointsAt) (dh : DefM P w K mg base C "has_place" 2 ["self", "thing"] (spHasPl C K)) :
    DefM P w K mg base C "points_at" 3 ["self", "place"] (spPtsAt C K) := by
  refine mkDefM A scmWorks_PointsAt (fun _ _ _ _ _ _ us hl => match us, hl with | [_, _], _ => rfl) (fun vs H Q E ⟨_, _, _, _, e, _⟩ => by rw [e]; rfl)
    (fun f cdv A out s H vs Q E hr h => ?_)
  obtain ⟨p, W, ps, s0, rfl, hw, hin, k⟩ := h
  refine ⟨_, (pss_cons (ps_if (pt_not (pt_val (pe_mm (pv 0) Wc.cl dh hr (by decide) (pa_cons (pv 1) pa_nil))))
      (pss_one ps_never)
      pss_nil)
    (pss_one (ps_ret (pe_lc (own := [("name", 2), ("where", 3), ("_", 4)]) (g := (gTup K 3 (gCons (gName 2) (gCons (gName 3) (gCons (gName 4) gNil))))) rfl scmWorks_PointsAt.nd (pi_sq (pe_fld (pv 0) rfl))
        (blkOk_by (own := [("name", 2), ("where", 3), ("_", 4)]) (N := ["self", "place", "name", "where", "_"]) (sc := defScope mWorks_PointsAt) (by decide +kernel))
        (fun _ _ _ _ _ => (pg_tup (by rfl) (pgs_cons (pg_name (i := 2) scmWorks_PointsAt.nd rfl (.inl rfl)) (pgs_cons (pg_name (i := 3) scmWorks_PointsAt.nd rfl (.inl rfl)) (pgs_cons (pg_name (i := 4) scmWorks_PointsAt.nd rfl (.inl rfl)) pgs_nil))))) (fun _ _ _ _ _ => (pts_one (pt_cmpR op_eq (pv 3) (pv 1) (nomark _))))
        (fun _ _ _ _ _ => (pv 2)))))), ?_⟩
  obtain ⟨pt0, hpt0, rfl⟩ := List.mem_map.mp hin
  obtain ⟨dx, tp, dp', tr, dr, tc, tm, dm, tl, e0, _⟩ := hw.wo.ex
  refine ⟨_, rfl, p, dx, _, rfl, e0, wof_no (by decide +kernel) (by decide +kernel) (by decide +kernel) (by decide +kernel) (by decide +kernel) (by decide +kernel) (by decide +kernel) (by decide +kernel), _, rfl, p, W, ps, pt0.pl, rfl, hw, (hw.g.all pt0 hpt0).pl, fun H1 S1 => ?_⟩
  rw [decide_eq_true hin]
  refine ⟨_, rfl, iteF ?_⟩
  have hw1 := hw.same S1
  obtain ⟨dx, tp, dp', tr, dr, tc, tm, dm, tl, e0, e1, _⟩ := hw1.wo.ex
  have p8 := hw.g.len
  have hlen := hw.al.length
  refine ⟨_, rfl, p, C, dx, _, _, rfl, e0, Wc.cl, Wc.nPo, lk_eq, tp, W.xs, rfl, .inr e1, fun J G hG wk D nD => ?_⟩
  refine lc_acc wk nD (by omega) (fun i acc _ => acc = (((ps.take i).filter fun x => decide (x.pl = pt0.pl)).map Pt.nm).map V.str) rfl hG ?_ ?_
  · rintro i v G0 G acc hi S eD hl rfl ⟨rfl, hx⟩ Fy Fn hy1 hy2
    obtain ⟨q, x, rfl, hx', eq⟩ := (hw1.al.same S).get hx
    have et : ps.take (i + 1) = ps.take i ++ [x] := by rw [List.take_add_one, hx']; rfl
    rw [et, List.filter_append, List.map_append, List.map_append] at hy1 hy2
    refine ⟨q, _, rfl, SqT.of eq, rfl, _, _, rfl, _, _, rfl, _, _, rfl, rfl, ?_⟩
    refine ⟨rfl, ?_⟩
    refine ⟨_, rfl, _, rfl, rfl, _, rfl, ?_⟩
    rw [str_dec]
    by_cases h : x.pl = pt0.pl
    · rw [decide_eq_true h]
      refine iteT ⟨_, rfl, hy1 _ _ (Same.refl _) ?_⟩
      simp [h]
    · rw [decide_eq_false h]
      refine iteF (hy2 _ (Same.refl _) ?_)
      simp [h]
  rintro X acc S eD rfl
  rw [List.take_of_length_le (by omega)] at eD
  exact k D X (S1.trans S) (Same.no S1 nD) eD
end
/-! ### signs and letters -/
structure Sg where
  t : Int
  nm : Str
  w : Int
  m : Str
def f4 (r : Sg) : List V := [.int r.t, .str r.nm, .int r.w, .str r.m]
structure GoodS (ps : List Pt) (pl : Str) (r : Sg) : Prop where
  t0 : 0 ≤ r.t
  t1 : r.t ≤ 9999
  inn : ∃ pt ∈ ps, pt.nm = r.nm ∧ pt.pl = pl ∧ 0 ≤ r.w ∧ r.w ≤ hiP pt
  m : r.m = "good" ∨ r.m = "odd"
structure Lt where
  pl : Str
  no : Int
  tm : Int
  rs : List Sg
structure GoodLt (ps : List Pt) (L : Lt) : Prop where
  pl : L.pl ∈ ps.map Pt.pl
  n0 : 1 ≤ L.no
  n1 : L.no ≤ 40
  t0 : 0 ≤ L.tm
  t1 : L.tm ≤ 9999
  few : L.rs.length ≤ 12
  all : ∀ r ∈ L.rs, GoodS ps L.pl r
  up : (L.rs.map Sg.t ++ [L.tm]).Pairwise (· ≤ ·)
def LtAt (H : Hp) (q : Addr) (L : Lt) : Prop := ∃ rt vs, H q = some (.tup [.str "signs", .str L.pl, .int L.no, .int L.tm, .ref rt]) ∧ H rt = some (.tup vs) ∧ Al f4 H vs L.rs
theorem LtAt.same {H H' : Hp} {q : Addr} {L : Lt} (h : LtAt H q L) (S : Same H H') : LtAt H' q L := let ⟨rt, vs, e, et, al⟩ := h; ⟨rt, vs, S _ _ e, S _ _ et, al.same S⟩
theorem mark_one {s : Str} (h : s = "good" ∨ s = "odd") : oneB (.str s) ["good", "odd"] = true := by rcases h with rfl | rfl <;> decide +kernel
section
variable {P : Program} {w : World} {K : PySem.W.Frag} {mg : Str → Option Value} {base : Heap} {C : Addr}
def spSign (C : Addr) (K : PySem.W.Frag) : Sp := fun vs H Q _ => ∃ p q W ps pl r, vs = [.ref p, .ref q] ∧ WoP K C H p W ps ∧ H q = some (.tup (f4 r)) ∧ GoodS ps pl r ∧ ∀ H', Same H H' → Q (.bl true) H'
theorem d_sign (Wc : WoC K C) (A : At K mg "is_sign" sIsSign) (dc : Def P w K mg base "check_works" 1 ["thing"] (spWorksC C K)) (dt : Def P w K mg base "is_tuple" 1 ["thing", "many"] (spTupN K)) (dti : Def P w K mg base "is_time" 4 ["thing"] (spRange K 0 9999))
    (dh : DefM P w K mg base C "has_point" 2 ["self", "thing"] (spHasP C K)) (dw : DefM P w K mg base C "is_worth" 5 ["self", "point", "thing"] (spIsWorth C K)) (dm : Def P w K mg base "is_mark" 2 ["thing"] (spMark K)) :
    Def P w K mg base "is_sign" 6 ["works", "thing"] (spSign C K) := by
  refine mkDef A scIsSign (fun _ _ _ _ _ _ us hl => match us, hl with | [_, _], _ => rfl) (fun vs H Q E ⟨_, _, _, _, _, _, e, _⟩ => by rw [e]; rfl)
    (fun f cdv A out s H vs Q E hr h => ?_)
  obtain ⟨p, q, W, ps, pl, r, rfl, hw, eq, g, k⟩ := h
  refine ⟨_, (pss_cons (ps_expr (pe_d dc hr (by decide) (by rfl) (pa_cons (pv 0) pa_nil)))
    (pss_cons (ps_if (pt_not (pt_val (pe_d dt hr (by decide) (by rfl) (pa_cons (pv 1) (pa_cons pe_int pa_nil)))))
      (pss_one (ps_ret pe_bl))
      pss_nil)
    (pss_cons (ps_asg (pv 1) (pg_tup (by rfl) (pgs_cons (pg_name (i := 2) scIsSign.nd rfl (.inl rfl)) (pgs_cons (pg_name (i := 3) scIsSign.nd rfl (.inl rfl)) (pgs_cons (pg_name (i := 4) scIsSign.nd rfl (.inl rfl)) (pgs_cons (pg_name (i := 5) scIsSign.nd rfl (.inl rfl)) pgs_nil))))))
    (pss_one (ps_ret (pe_and (pe_d dti hr (by decide) (by rfl) (pa_cons (pv 2) pa_nil)) (pe_and (pe_mm (pv 0) Wc.cl dh hr (by decide) (pa_cons (pv 3) pa_nil)) (pe_and (pe_mm (pv 0) Wc.cl dw hr (by decide) (pa_cons (pv 3) (pa_cons (pv 4) pa_nil))) (pe_one (pe_d dm hr (by decide) (by rfl) (pa_cons (pv 5) pa_nil))))))))))), ?_⟩
  obtain ⟨pt, hpt, en, epl, w0, w1⟩ := g.inn
  have eT : tupNB H (.ref q) 4 = true := by simp only [tupNB, eq]; rfl
  obtain ⟨dx, tp, dp', tr, dr, tc, tm, dm', tl, e0, _⟩ := hw.wo.ex
  refine ⟨_, rfl, p, W, rfl, hw.wo, ?_⟩
  refine ⟨_, rfl, .ref q, _, 4, rfl, .tup eq, true, congrArg V.bl eT, iteF ?_⟩
  refine ⟨_, rfl, q, _, rfl, SqT.of eq, rfl, _, _, rfl, _, _, rfl, _, _, rfl, _, _, rfl, rfl, ?_⟩
  refine ⟨_, rfl, .int r.t, _, rfl, .int _, true, congrArg V.bl (whole_in g.t0 g.t1), iteT ?_⟩
  refine ⟨_, rfl, p, dx, _, rfl, e0, wof_no (by decide +kernel) (by decide +kernel) (by decide +kernel) (by decide +kernel) (by decide +kernel) (by decide +kernel) (by decide +kernel) (by decide +kernel), _, rfl, p, W, ps, r.nm, rfl, hw, en ▸ (hw.g.all pt hpt).nm, fun H1 S1 => ?_⟩
  rw [decide_eq_true (List.mem_map.mpr ⟨pt, hpt, en⟩)]
  refine ⟨_, rfl, iteT ?_⟩
  have hw1 := hw.same S1
  obtain ⟨dx, tp, dp', tr, dr, tc, tm, dm', tl, e0, _⟩ := hw1.wo.ex
  refine ⟨_, rfl, p, dx, _, rfl, e0, wof_no (by decide +kernel) (by decide +kernel) (by decide +kernel) (by decide +kernel) (by decide +kernel) (by decide +kernel) (by decide +kernel) (by decide +kernel), _, rfl, _, rfl, p, W, ps, pt, .int r.w, _, (by rw [en]; rfl), hw1, hpt, fun H' => .int _, fun H2 S2 => ?_⟩
  refine ⟨true, congrArg V.bl (whole_in w0 w1), iteT ?_⟩
  refine ⟨_, rfl, .str r.m, _, rfl, .str _, fun H3 S3 => ?_⟩
  rw [mark_one g.m]
  exact k _ (S1.trans (S2.trans S3))
def spSignAt (C : Addr) (K : PySem.W.Frag) : Sp := fun vs H Q _ => ∃ p q W ps pl r, vs = [.ref p, .str pl, .ref q] ∧ WoP K C H p W ps ∧ H q = some (.tup (f4 r)) ∧ GoodS ps pl r ∧ ∀ H', Same H H' → Q (.bl true) H'
theorem d_signAt (Wc : WoC K C) (A : At K mg "_is_sign_at" sIsSignAt) (ds : Def P w K mg base "is_sign" 6 ["works", "thing"] (spSign C K)) (dp : DefM P w K mg base C "points_at" 3 ["self", "place"] (spPtsAt C K)) :
    Def P w K mg base "_is_sign_at" 7 ["works", "place", "thing"] (spSignAt C K) := by
  refine mkDef A scIsSignAt (fun _ _ _ _ _ _ us hl => match us, hl with | [_, _, _], _ => rfl) (fun vs H Q E ⟨_, _, _, _, _, _, e, _⟩ => by rw [e]; rfl)
    (fun f cdv A out s H vs Q E hr h => ?_)
  obtain ⟨p, q, W, ps, pl, r, rfl, hw, eq, g, k⟩ := h
  refine ⟨_, (pss_one (ps_ret (pe_and (pe_d ds hr (by decide) (by rfl) (pa_cons (pv 0) (pa_cons (pv 2) pa_nil))) (pe_one (pe_cmpR op_in_seq (pe_ix (r := rIxT K) ix_tup (pv 2) pe_int (fun _ _ => rfl)) (pe_mm (pv 0) Wc.cl dp hr (by decide) (pa_cons (pv 1) pa_nil)) (by rfl)))))), ?_⟩
  obtain ⟨pt, hpt, en, epl, _⟩ := g.inn
  refine ⟨_, rfl, _, rfl, p, q, W, ps, pl, r, rfl, hw, eq, g, fun H1 S1 => ⟨_, rfl, iteT ?_⟩⟩
  have hw1 := hw.same S1
  obtain ⟨dx, tp, dp', tr, dr, tc, tm, dm', tl, e0, _⟩ := hw1.wo.ex
  refine ⟨_, rfl, q, _, 1, .str r.nm, rfl, rfl, SqT.of (S1 _ _ eq), rfl, _, rfl, p, dx, _, rfl, e0, wof_no (by decide +kernel) (by decide +kernel) (by decide +kernel) (by decide +kernel) (by decide +kernel) (by decide +kernel) (by decide +kernel) (by decide +kernel), _, rfl, p, W, ps, pl, rfl, hw1, List.mem_map.mpr ⟨pt, hpt, epl⟩, fun l H2 S2 nl el => ?_⟩
  refine ⟨l, _, rfl, .inl (SqL.of el), rfl, flat_strs _, ?_⟩
  rw [inV_str, decide_eq_true (List.mem_map.mpr ⟨pt, List.mem_filter.mpr ⟨hpt, decide_eq_true epl⟩, en⟩)]
  exact k _ (S1.trans S2)
end
theorem sorted_eq : ∀ {xs ys : List Int}, xs.Perm ys → xs.Pairwise (· ≤ ·) → ys.Pairwise (· ≤ ·) → xs = ys
  | [], ys, p, _, _ => (List.Perm.nil_eq p)
  | x :: xs, [], p, _, _ => by have := p.length_eq; simp at this
  | x :: xs, y :: ys, p, h1, h2 => by
    obtain ⟨a1, a2⟩ := List.pairwise_cons.mp h1
    obtain ⟨b1, b2⟩ := List.pairwise_cons.mp h2
    have e : x = y := by
      have m1 : x ∈ y :: ys := p.mem_iff.mp List.mem_cons_self
      have m2 : y ∈ x :: xs := p.mem_iff.mpr List.mem_cons_self
      rcases List.mem_cons.mp m1 with h | h
      · exact h
      · rcases List.mem_cons.mp m2 with h' | h'
        · exact h'.symm
        · have := b1 x h; have := a1 y h'; omega
    subst e
    rw [sorted_eq ((List.perm_cons x).mp p) a2 b2]
theorem dp_intsL {K : PySem.W.Frag} {H : Hp} : ∀ ys : List Int, DpAll K H (ys.map V.int) (ys.map .int)
  | [] => .nil
  | y :: r => .cons (.int y) (dp_intsL r)
theorem eqvAll_ints : ∀ ys : List Int, PyData.eqvAll (ys.map .int) (ys.map .int) = true
  | [] => by simp only [List.map_nil, PyData.eqvAll]
  | y :: r => by simp [PyData.eqvAll, PyData.eqv, eqvAll_ints r]
theorem shaped_ints (ys : List Int) : SeqAt.shaped (.list (ys.map .int)) = true := by
  have h1 : ∀ ys : List Int, PyData.canLayAll0 (ys.map .int) = true := fun ys => by
    induction ys with
    | nil => simp only [List.map_nil, PyData.canLayAll0]
    | cons y r ih => simp only [List.map_cons, PyData.canLayAll0, PyData.canLay0, ih, Bool.and_self]
  have h2 : ∀ ys : List Int, PyData.depthAll (ys.map .int) = 0 := fun ys => by
    induction ys with
    | nil => simp only [List.map_nil, PyData.depthAll]
    | cons y r ih => simp only [List.map_cons, PyData.depthAll, PyData.depth, ih, Nat.max_self]
  unfold SeqAt.shaped
  simp only [PyData.canLay0, PyData.depth, h1, h2]
  rfl
section
variable {P : Program} {w : World} {K : PySem.W.Frag} {mg : Str → Option Value} {base : Heap} {C : Addr}
def spSigns (C : Addr) (K : PySem.W.Frag) : Sp := fun vs H Q _ => ∃ p q W ps L, vs = [.ref p, .ref q] ∧ WoP K C H p W ps ∧ LtAt H q L ∧ GoodLt ps L ∧ ∀ H', Same H H' → Q (.bl true) H'
theorem d_signs (T : Txt mg) (Wc : WoC K C) (A : At K mg "is_signs" sIsSigns) (dc : Def P w K mg base "check_works" 1 ["thing"] (spWorksC C K)) (dt : Def P w K mg base "is_tuple" 1 ["thing", "many"] (spTupN K)) (dh : DefM P w K mg base C "has_place" 2 ["self", "thing"] (spHasPl C K))
    (dwh : Def P w K mg base "is_whole" 3 ["thing", "low", "high"] (spWhole K)) (dti : Def P w K mg base "is_time" 4 ["thing"] (spRange K 0 9999)) (dsa : Def P w K mg base "_is_sign_at" 7 ["works", "place", "thing"] (spSignAt C K)) :
    Def P w K mg base "is_signs" 8 ["works", "thing"] (spSigns C K) := by
  refine mkDef A scIsSigns (fun _ _ _ _ _ _ us hl => match us, hl with | [_, _], _ => rfl) (fun vs H Q E ⟨_, _, _, _, _, e, _⟩ => by rw [e]; rfl)
    (fun f cdv A out s H vs Q E hr h => ?_)
  obtain ⟨p, q, W, ps, L, rfl, hw, hq, g, k⟩ := h
  refine ⟨_, (pss_cons (ps_expr (pe_d dc hr (by decide) (by rfl) (pa_cons (pv 0) pa_nil)))
    (pss_cons (ps_if (PW.pt (pw_or (pt_not (pt_val (pe_d dt hr (by decide) (by rfl) (pa_cons (pv 1) (pa_cons pe_int pa_nil))))) (pw_or1 (pt_cmpR op_ne (pe_ix (r := rIxT K) ix_tup (pv 1) pe_int (fun _ _ => rfl)) pe_str (nomark _)))))
      (pss_one (ps_ret pe_bl))
      pss_nil)
    (pss_cons (ps_asg (pv 1) (pg_tup (by rfl) (pgs_cons (pg_name (i := 2) scIsSigns.nd rfl (.inl rfl)) (pgs_cons (pg_name (i := 3) scIsSigns.nd rfl (.inr rfl)) (pgs_cons (pg_name (i := 4) scIsSigns.nd rfl (.inl rfl)) (pgs_cons (pg_name (i := 5) scIsSigns.nd rfl (.inl rfl)) (pgs_cons (pg_name (i := 6) scIsSigns.nd rfl (.inl rfl)) pgs_nil)))))))
    (pss_cons (ps_if (pt_not (PW.pt (pw_and (pt_val (pe_mm (pv 0) Wc.cl dh hr (by decide) (pa_cons (pv 3) pa_nil))) (pw_and (pt_val (pe_d dwh hr (by decide) (by rfl) (pa_cons (pv 4) (pa_cons pe_int (pa_cons (pe_gi T.c_MOST_LETTERS) pa_nil))))) (pw_and1 (pt_val (pe_d dti hr (by decide) (by rfl) (pa_cons (pv 5) pa_nil))))))))
      (pss_one (ps_ret pe_bl))
      pss_nil)
    (pss_cons (ps_if (PW.pt (pw_or (pt_not (pt_val (pe_is T.isinstance (by rfl) (pv 6) T.tuple (by rfl) (Tn := "tuple") (by decide +kernel)))) (pw_or1 (pt_cmpR op_gt (pe_callB call_len_seq (by rfl) T.len PySem.boot_len (pa_cons (pv 6) pa_nil)) (pe_gi T.c_MOST_SIGNS) (nomark _)))))
      (pss_one (ps_ret pe_bl))
      pss_nil)
    (pss_cons (ps_if (pt_not (pt_val (pe_callB (cr_all rfl) (by rfl) T.all PyProof.Rows.boot_all (pa_cons (pe_lc (own := [("row", 8)]) (g := gName 8) (tt := tYes) rfl scIsSigns.nd (pi_sq (pv 6))
        (blkOk_by (own := [("row", 8)]) (N := ["works", "thing", "_", "place", "number", "time", "rows", "times", "row"]) (sc := defScope sIsSigns) (by decide +kernel))
        (fun _ _ _ _ _ => (pg_name (i := 8) scIsSigns.nd rfl (.inl rfl))) (fun _ _ _ _ _ => pts_nil)
        (fun _ _ _ _ _ => (pe_d dsa hr (by decide) (by rfl) (pa_cons (pv 0) (pa_cons (pv 3) (pa_cons (pv 8) pa_nil)))))) pa_nil))))
      (pss_one (ps_ret pe_bl))
      pss_nil)
    (pss_cons (ps_set (i := 7) scIsSigns.nd rfl (.inl rfl) (pe_op op_cat (pe_lc (own := [("row", 8)]) (g := gName 8) (tt := tYes) rfl scIsSigns.nd (pi_sq (pv 6))
        (blkOk_by (own := [("row", 8)]) (N := ["works", "thing", "_", "place", "number", "time", "rows", "times", "row"]) (sc := defScope sIsSigns) (by decide +kernel))
        (fun _ _ _ _ _ => (pg_name (i := 8) scIsSigns.nd rfl (.inl rfl))) (fun _ _ _ _ _ => pts_nil)
        (fun _ _ _ _ _ => (pe_ix (r := rIxT K) ix_tup (pv 8) pe_int (fun _ _ => rfl)))) (pe_lst (pa_cons (pv 5) pa_nil))))
    (pss_one (ps_ret (pe_cmpR (op_eqD hr.units) (pv 7) (pe_callB cr_sortedI (by rfl) T.sorted (by decide +kernel) (pa_cons (pv 7) pa_nil)) (nomark _))))))))))), ?_⟩
  obtain ⟨rt, vs, eq, et, al⟩ := hq
  have few := g.few
  have hlen := al.length
  obtain ⟨pt0, hpt0, epl0⟩ := List.mem_map.mp g.pl
  have opl : OkName L.pl := epl0 ▸ (hw.g.all pt0 hpt0).pl
  have eT : tupNB H (.ref q) 5 = true := by simp only [tupNB, eq]; rfl
  obtain ⟨dx, tp, dp', tr, dr, tc, tm, dm', tl, e0, _⟩ := hw.wo.ex
  refine ⟨_, rfl, p, W, rfl, hw.wo, ?_⟩
  refine ⟨_, rfl, .ref q, _, 5, rfl, .tup eq, true, congrArg V.bl eT, iteF ?_⟩
  refine ⟨_, rfl, q, _, 0, .str "signs", rfl, rfl, SqT.of eq, rfl, rfl, _, rfl, ?_⟩
  rw [decide_eq_true rfl]
  refine iteF ?_
  refine ⟨_, rfl, q, _, rfl, SqT.of eq, rfl, _, _, rfl, _, _, rfl, _, _, rfl, _, _, rfl, _, _, rfl, rfl, ?_⟩
  refine ⟨_, rfl, p, dx, _, rfl, e0, wof_no (by decide +kernel) (by decide +kernel) (by decide +kernel) (by decide +kernel) (by decide +kernel) (by decide +kernel) (by decide +kernel) (by decide +kernel), _, rfl, p, W, ps, L.pl, rfl, hw, opl, fun H1 S1 => ?_⟩
  rw [decide_eq_true g.pl]
  refine ⟨_, rfl, iteT ?_⟩
  refine ⟨_, rfl, .int L.no, _, 1, 40, rfl, .int _, true, congrArg V.bl (whole_in g.n0 g.n1), iteT ?_⟩
  refine ⟨_, rfl, .int L.tm, _, rfl, .int _, true, congrArg V.bl (whole_in g.t0 g.t1), iteF ?_⟩
  have et1 := S1 _ _ et
  refine ⟨_, rfl, .ref rt, .ty "tuple", .type "tuple", .type "tuple", true, rfl, .ty _, .base (.base (.tup et1)), kit_ty (by decide +kernel), true, rfl, iteF ?_⟩
  refine ⟨_, rfl, rt, vs, rfl, .inr (SqT.of et1), (vs.length : Int), 12, rfl, rfl, _, rfl, ?_⟩
  rw [decide_eq_false (show ¬ ((vs.length : Int) > 12) by omega)]
  refine iteF ?_
  have hw1 := hw.same S1
  have al1 := al.same S1
  -- each a sign
  refine ⟨_, rfl, rt, vs, rfl, .inr (SqT.of et1), fun J G hG wk D nD => ?_⟩
  refine lc_acc wk nD (by omega) (fun i acc _ => acc = (List.replicate i true).map V.bl) rfl hG ?_ ?_
  · rintro i v G0 G acc hi S eD hl rfl ⟨rfl, hx⟩ Fy Fn hy1 _
    obtain ⟨q2, r, rfl, hr', eq2⟩ := (al1.same S).get hx
    refine ⟨rfl, ?_⟩
    unfold tYes
    refine iteT ?_
    refine ⟨_, rfl, _, rfl, _, rfl, p, q2, W, ps, L.pl, r, rfl, hw1.same S, eq2, g.all r (List.mem_of_getElem? hr'), fun H4 S4 => hy1 _ _ S4 (reps_succ i)⟩
  rintro H2 acc S2 eD rfl
  refine ⟨D, _, rfl, SqL.of eD, ?_⟩
  rw [reps_all]
  refine ⟨_, rfl, iteF ?_⟩
  -- the times
  have et2 := S2 _ _ et1
  have al2 := al1.same S2
  refine ⟨_, rfl, rt, vs, rfl, .inr (SqT.of et2), fun J G hG wk D2 nD2 => ?_⟩
  refine lc_acc wk nD2 (by omega) (fun i acc _ => acc = ((L.rs.take i).map Sg.t).map V.int) rfl hG ?_ ?_
  · rintro i v G0 G acc hi S eD hl rfl ⟨rfl, hx⟩ Fy Fn hy1 _
    obtain ⟨q2, r, rfl, hr', eq2⟩ := (al2.same S).get hx
    refine ⟨rfl, ?_⟩
    unfold tYes
    refine iteT ?_
    refine ⟨_, rfl, q2, _, 0, .int r.t, rfl, rfl, SqT.of eq2, rfl, ?_⟩
    refine hy1 _ _ (Same.refl _) ?_
    rw [List.take_add_one, hr', List.map_append, List.map_append]
    rfl
  rintro H3 acc S3 eD2 rfl
  rw [List.take_of_length_le (by omega)] at eD2
  refine ⟨_, rfl, by show 1 ≤ sizeLine; decide, fun l nl => ?_⟩
  have U1 := Same.laid (o := HO.lst [.int L.tm]) nl
  have el : upd H3 l (.lst [.int L.tm]) l = some (.lst [.int L.tm]) := upd_same
  generalize upd H3 l (.lst [.int L.tm]) = H4 at *
  refine ⟨D2, l, _, _, rfl, rfl, U1 _ _ eD2, el, by rw [List.length_map, List.length_map]; exact Nat.le_trans (show L.rs.length + 1 ≤ 13 by omega) (by decide), fun M nM => ?_⟩
  have eM : upd H4 M (.lst ((L.rs.map Sg.t).map V.int ++ [.int L.tm])) M = some (.lst ((L.rs.map Sg.t ++ [L.tm]).map V.int)) := by rw [upd_same, List.map_append]; rfl
  have U2 := Same.laid (o := HO.lst ((L.rs.map Sg.t).map V.int ++ [.int L.tm])) nM
  generalize upd H4 M (.lst ((L.rs.map Sg.t).map V.int ++ [.int L.tm])) = H5 at *
  dsimp only [gName]
  refine ⟨_, rfl, _, rfl, M, _, rfl, SqL.of eM, fun ns' o hp hs no => ?_⟩
  obtain rfl := sorted_eq hp hs g.up
  have U3 := Same.laid (o := HO.lst ((L.rs.map Sg.t ++ [L.tm]).map V.int)) no
  refine ⟨.list ((L.rs.map Sg.t ++ [L.tm]).map .int), .list ((L.rs.map Sg.t ++ [L.tm]).map .int), .lst (SqL.of (U3 _ _ eM)) (dp_intsL _), .lst (SqL.of upd_same) (dp_intsL _), shaped_ints _, shaped_ints _, ?_⟩
  have ev : PyData.eqv (.list ((L.rs.map Sg.t ++ [L.tm]).map .int)) (.list ((L.rs.map Sg.t ++ [L.tm]).map .int)) = true := by
    simp only [PyData.eqv]
    exact eqvAll_ints _
  rw [ev]
  exact k _ (S1.trans (S2.trans (S3.trans (U1.trans (U2.trans U3)))))
/-- the rows of a point -/
def f3s (r : Sg) : List V := [.int r.t, .int r.w, .str r.m]
def rowsM (L : Lt) (nm : Str) : List Sg := L.rs.filter fun r => decide (r.nm = nm)
def spRowsIn : Sp := fun vs H Q _ => ∃ q L nm, vs = [.ref q, .str nm] ∧ LtAt H q L ∧ L.rs.length ≤ 12 ∧ ∀ l vs' H', Same H H' → H l = none → H' l = some (.lst vs') → Al f3s H' vs' (rowsM L nm) → Q (.ref l) H'
theorem d_rowsIn (A : At K mg "rows_in" sRowsIn) : Def P w K mg base "rows_in" 1 ["letter", "point"] spRowsIn := by
  refine mkDef A scRowsIn (fun _ _ _ _ _ _ us hl => match us, hl with | [_, _], _ => rfl) (fun vs H Q E ⟨_, _, _, e, _⟩ => by rw [e]; rfl)
    (fun f cdv A out s H vs Q E hr h => ?_)
  obtain ⟨q, L, nm, rfl, hq, few, k⟩ := h
  refine ⟨_, (pss_one (ps_ret (pe_lc (own := [("time", 2), ("name", 3), ("worth", 4), ("mark", 5)]) (g := (gTup K 4 (gCons (gName 2) (gCons (gName 3) (gCons (gName 4) (gCons (gName 5) gNil)))))) rfl scRowsIn.nd (pi_sq (pe_ix (r := rIxT K) ix_tup (pv 0) pe_int (fun _ _ => rfl)))
        (blkOk_by (own := [("time", 2), ("name", 3), ("worth", 4), ("mark", 5)]) (N := ["letter", "point", "time", "name", "worth", "mark"]) (sc := defScope sRowsIn) (by decide +kernel))
        (fun _ _ _ _ _ => (pg_tup (by rfl) (pgs_cons (pg_name (i := 2) scRowsIn.nd rfl (.inl rfl)) (pgs_cons (pg_name (i := 3) scRowsIn.nd rfl (.inl rfl)) (pgs_cons (pg_name (i := 4) scRowsIn.nd rfl (.inl rfl)) (pgs_cons (pg_name (i := 5) scRowsIn.nd rfl (.inl rfl)) pgs_nil)))))) (fun _ _ _ _ _ => (pts_one (pt_cmpR op_eq (pv 3) (pv 1) (nomark _))))
        (fun _ _ _ _ _ => (pe_tup (pa_cons (pv 2) (pa_cons (pv 4) (pa_cons (pv 5) pa_nil)))))))), ?_⟩
  obtain ⟨rt, vs, eq, et, al⟩ := hq
  have hlen := al.length
  refine ⟨_, rfl, q, _, 4, .ref rt, rfl, rfl, SqT.of eq, rfl, rt, vs, rfl, .inr (SqT.of et), fun J G hG wk D nD => ?_⟩
  refine lc_acc wk nD (by omega) (fun i acc G => Al f3s G acc ((L.rs.take i).filter fun r => decide (r.nm = nm))) .nil hG ?_ ?_
  · rintro i v G0 G acc hi S eD hl hacc ⟨rfl, hx⟩ Fy Fn hy1 hy2
    obtain ⟨q2, r, rfl, hr', eq2⟩ := (al.same S).get hx
    have ets : L.rs.take (i + 1) = L.rs.take i ++ [r] := by rw [List.take_add_one, hr']; rfl
    rw [ets, List.filter_append] at hy1 hy2
    refine ⟨q2, _, rfl, SqT.of eq2, rfl, _, _, rfl, _, _, rfl, _, _, rfl, _, _, rfl, rfl, ?_⟩
    refine ⟨rfl, ?_⟩
    refine ⟨_, rfl, _, rfl, rfl, _, rfl, ?_⟩
    rw [str_dec]
    by_cases h : r.nm = nm
    · rw [decide_eq_true h]
      refine iteT ⟨_, rfl, _, rfl, _, rfl, by show 3 ≤ sizeLine; decide, fun o no => ?_⟩
      have U := Same.laid (o := HO.tup (f3s r)) no
      have oD : o ≠ D := fun z => by rw [z, eD] at no; cases no
      refine hy1 _ _ U ?_
      have e1 : [r].filter (fun r => decide (r.nm = nm)) = [r] := by simp [h]
      rw [e1]
      exact Al.snoc (hacc.imp fun b xs e => Same.wo U _ _ e) ((wo_ne oD).trans upd_same)
    · rw [decide_eq_false h]
      refine iteF (hy2 _ (Same.refl _) ?_)
      have e1 : [r].filter (fun r => decide (r.nm = nm)) = [] := by simp [h]
      rw [e1, List.append_nil]
      exact hacc
  rintro X acc S eD hacc
  rw [List.take_of_length_le (by omega)] at hacc
  exact k D acc X S nD eD (hacc.imp fun b xs e => wo_same _ _ e)
end
end V45

set_option maxHeartbeats 8000000
namespace V45
open PySem PySem.Spec PyProof.Rows L2 Pw
section
variable {P : Program} {w : World} {K : PySem.W.Frag} {mg : Str → Option Value} {base : Heap} {C : Addr}
/-- check_signs: of a good letter -/
def spChkS (C : Addr) (K : PySem.W.Frag) : Sp := fun vs H Q _ => ∃ p q W ps L, vs = [.ref p, .ref q] ∧ WoP K C H p W ps ∧ LtAt H q L ∧ GoodLt ps L ∧ ∀ H', Same H H' → Q .non H'
theorem d_chkS (A : At K mg "check_signs" sCheckSigns) (ds : Def P w K mg base "is_signs" 8 ["works", "thing"] (spSigns C K)) : Def P w K mg base "check_signs" 9 ["works", "letter"] (spChkS C K) := by
  refine mkDef A scCheckSigns (fun _ _ _ _ _ _ us hl => match us, hl with | [_, _], _ => rfl) (fun vs H Q E ⟨_, _, _, _, _, e, _⟩ => by rw [e]; rfl)
    (fun f cdv A out s H vs Q E hr h => ?_)
  obtain ⟨p, q, W, ps, L, rfl, hw, hq, g, k⟩ := h
  refine ⟨_, (pss_one (ps_if (pt_not (pt_val (pe_d ds hr (by decide) (by rfl) (pa_cons (pv 0) (pa_cons (pv 1) pa_nil)))))
      (pss_one ps_never)
      pss_nil)), ?_⟩
  exact ⟨_, rfl, _, rfl, p, q, W, ps, L, rfl, hw, hq, g, fun H' S => ⟨_, rfl, iteF (k H' S)⟩⟩
def spChkP (C : Addr) (K : PySem.W.Frag) : Sp := fun vs H Q _ => ∃ p W ps nm, vs = [.ref p, .str nm] ∧ WoP K C H p W ps ∧ OkName nm ∧ nm ∈ ps.map Pt.nm ∧ ∀ H', Same H H' → Q .non H'
theorem d_chkP (Wc : WoC K C) (A : At K mg "check_point" sCheckPoint) (dh : DefM P w K mg base C "has_point" 2 ["self", "thing"] (spHasP C K)) : Def P w K mg base "check_point" 3 ["works", "thing"] (spChkP C K) := by
  refine mkDef A scCheckPoint (fun _ _ _ _ _ _ us hl => match us, hl with | [_, _], _ => rfl) (fun vs H Q E ⟨_, _, _, _, e, _⟩ => by rw [e]; rfl)
    (fun f cdv A out s H vs Q E hr h => ?_)
  obtain ⟨p, W, ps, nm, rfl, hw, on, hm, k⟩ := h
  refine ⟨_, (pss_one (ps_if (pt_not (pt_val (pe_mm (pv 0) Wc.cl dh hr (by decide) (pa_cons (pv 1) pa_nil))))
      (pss_one ps_never)
      pss_nil)), ?_⟩
  obtain ⟨dx, tp, dp, tr, dr, tc, tm, dm, tl, e0, _⟩ := hw.wo.ex
  refine ⟨_, rfl, p, dx, _, rfl, e0, wof_no (by decide +kernel) (by decide +kernel) (by decide +kernel) (by decide +kernel) (by decide +kernel) (by decide +kernel) (by decide +kernel) (by decide +kernel), _, rfl, p, W, ps, nm, rfl, hw, on, fun H1 S1 => ?_⟩
  rw [decide_eq_true hm]
  exact ⟨_, rfl, iteF (k H1 S1)⟩
def spChkT (K : PySem.W.Frag) : Sp := fun vs H Q _ => ∃ n : Int, vs = [.int n] ∧ 0 ≤ n ∧ n ≤ 9999 ∧ Q .non H
theorem d_chkT (A : At K mg "check_time" sCheckTime) (dti : Def P w K mg base "is_time" 4 ["thing"] (spRange K 0 9999)) : Def P w K mg base "check_time" 5 ["thing"] (spChkT K) := by
  refine mkDef A scCheckTime (fun _ _ _ _ _ _ us hl => match us, hl with | [_], _ => rfl) (fun vs H Q E ⟨_, e, _⟩ => by rw [e]; rfl)
    (fun f cdv A out s H vs Q E hr h => ?_)
  obtain ⟨n, rfl, h0, h1, k⟩ := h
  refine ⟨_, (pss_one (ps_if (pt_not (pt_val (pe_d dti hr (by decide) (by rfl) (pa_cons (pv 0) pa_nil))))
      (pss_one ps_never)
      pss_nil)), ?_⟩
  exact ⟨_, rfl, .int n, _, rfl, .int _, true, congrArg V.bl (whole_in h0 h1), iteF k⟩
def spChkPl (C : Addr) (K : PySem.W.Frag) : Sp := fun vs H Q _ => ∃ p W ps s, vs = [.ref p, .str s] ∧ WoP K C H p W ps ∧ OkName s ∧ s ∈ ps.map Pt.pl ∧ ∀ H', Same H H' → Q .non H'
theorem d_chkPl (Wc : WoC K C) (A : At K mg "check_place" sCheckPlace) (dh : DefM P w K mg base C "has_place" 2 ["self", "thing"] (spHasPl C K)) : Def P w K mg base "check_place" 3 ["works", "thing"] (spChkPl C K) := by
  refine mkDef A scCheckPlace (fun _ _ _ _ _ _ us hl => match us, hl with | [_, _], _ => rfl) (fun vs H Q E ⟨_, _, _, _, e, _⟩ => by rw [e]; rfl)
    (fun f cdv A out s H vs Q E hr h => ?_)
  obtain ⟨p, W, ps, nm, rfl, hw, on, hm, k⟩ := h
  refine ⟨_, (pss_one (ps_if (pt_not (pt_val (pe_mm (pv 0) Wc.cl dh hr (by decide) (pa_cons (pv 1) pa_nil))))
      (pss_one ps_never)
      pss_nil)), ?_⟩
  obtain ⟨dx, tp, dp, tr, dr, tc, tm, dm, tl, e0, _⟩ := hw.wo.ex
  refine ⟨_, rfl, p, dx, _, rfl, e0, wof_no (by decide +kernel) (by decide +kernel) (by decide +kernel) (by decide +kernel) (by decide +kernel) (by decide +kernel) (by decide +kernel) (by decide +kernel), _, rfl, p, W, ps, nm, rfl, hw, on, fun H1 S1 => ?_⟩
  rw [decide_eq_true hm]
  exact ⟨_, rfl, iteF (k H1 S1)⟩
end
end V45

/-! Tuples of nothing multiplied, tuples turned round, (x,) == (text,), list(d.values()). -/
namespace Pw
open PySem PySem.Spec PyProof.Rows L2

/-! ### () * n -/
theorem tuple_mul0 (l : Addr) (n : Nat) (dd : Option Addr) (sl : Array (Option Value)) (x : Int) (u : Tok) (c0 : (decide (x < -(2 ^ 63)) || decide (x ≥ 2 ^ 63)) = false) :
    Meets (Builtin.«tuple.__mul__» ⟨[.ref l, .int x u], []⟩) (fun _ R s => s.heap.get? l = some { cls := .type "tuple", dict := dd, data := .seq #[] n, slots := sl } ∧ R (.ok (.ret (Value.ref l))) s) :=
  .of_wp fun prog w A R s h => by
    obtain ⟨hp, g, d, tk, os⟩ := s
    obtain ⟨hl, h⟩ := h
    have f1 := AutoSeq1.idx_int
    wp_walk using wpAny_loadPart' hl
    repeat (first
      | (refine wpAny_ite_false (decide_eq_false (by rw [c0]; exact Bool.false_ne_true)) ?_; wp_walk using wpAny_loadPart' hl)
      | (refine wpAny_ite_true (by simp) ?_; wp_walk using wpAny_loadPart' hl))
    exact ⟨_, rfl, h⟩
section
variable {X : Cx}
def rRep0 (K : PySem.W.Frag) : R2 := fun x y H Q => ∃ l k, x = .ref l ∧ y = .int k ∧ SqT K H l [] ∧ 2 ≤ k ∧ k ≤ 1000 ∧ Q (.ref l) H
theorem op_rep0 : OpR X (binaryOp .Mult) (rRep0 X.K) := by
  intro pins s σ H x y v u Q I rx ry h
  obtain ⟨l, k, rfl, rfl, hT, h1, h2, q⟩ := h
  cases rx
  obtain ⟨t, rfl⟩ := ry
  obtain ⟨its, r, ⟨⟨cls, dd, data, sl⟩, ho, hc, n, hd⟩, hs⟩ := I.tuple hT
  simp only at hc hd
  subst hc hd
  cases r
  have c0 : (decide (k < -(2 ^ 63)) || decide (k ≥ 2 ^ 63)) = false := by
    rw [decide_eq_false (by omega), decide_eq_false (by omega)] <;> rfl
  exact wpAny_binaryOp_repeat_ref (T := "tuple") (U := "int") (by decide) ⟨_, ho, rfl⟩ (fun s' => typeIs_int s' k t) noFill_tuple_mul F.fills_int_mul F.slot_int_rmul repeat_tuple F.slot_int_index.lookup
    (call_meets F.slot_int_rmul (typeIs_int s k t) F.entry_int_rmul (F.args_int_rmul_2 _ _) (int_rmul_tuple k t l #[] n dd sl)
      ⟨ho, rfl, ⟨_, ho, rfl⟩, call_meets F.slot_tuple_mul ⟨_, ho, rfl⟩ F.entry_tuple_mul (F.args_tuple_mul_2 _ _) (tuple_mul0 l n dd sl k t c0) ⟨ho, ⟨.ref l, H, I, rfl, q⟩⟩⟩)
end

/-! ### t[::-1] -/
section
variable {prog : Program} {w : World} {A : Around} {E : Value → Shared → Prop} {s : Shared}
theorem sliceApplied_rev {sl : Addr} {u : Tok} {n : Nat} {Q : Int × Int × Nat → Shared → Prop} (hs : s.heap.IsSliceOf sl .none .none (.int (-1) u))
    (h : Q ((n : Int) - 1, -1, n) s) : wpAny (model prog w) A (Builtin.Slice.sliceApplied (.ref sl) (pure (n : Int))) Q E s := by
  obtain ⟨os, hos, hcs, hds⟩ := id hs
  unfold Builtin.Slice.sliceApplied Builtin.Slice.sliceFields
  refine wpAny_bind (wpAny_bind (wpAny_field hos hds (x := .none) rfl (wpAny_bind (wpAny_field hos hds (x := .none) rfl (wpAny_bind (wpAny_field hos hds (x := .int (-1) u) rfl (wpAny_pure ?_)))))))
  refine wpAny_bind (HT.slicePart_ (IsPart.int _ _) ?_)
  show wpAny _ _ (if ((-1 : Int) == 0) = true then _ else _) _ _ s
  rw [if_neg (by decide)]
  refine wpAny_bind (HT.slicePart_ IsPart.none (wpAny_bind (HT.slicePart_ IsPart.none (wpAny_bind (wpAny_pure ?_)))))
  have e1 : Builtin.Slice.sliceAdjust none none (-1) (n : Int) = ((n : Int) - 1, -1) := by
    unfold Builtin.Slice.sliceAdjust
    rfl
  have e2 : Builtin.Slice.slicePlaces ((n : Int) - 1) (-1) (-1) = n := by
    unfold Builtin.Slice.slicePlaces
    have h1 : ¬ ((-1 : Int) > 0) := by decide
    rw [if_neg h1]
    by_cases hn : (n : Int) - 1 > -1
    · rw [if_pos hn, show (- -1 : Int) = 1 by decide, Int.ediv_one]
      omega
    · rw [if_neg hn]
      omega
  show wpAny _ _ (match Builtin.Slice.sliceAdjust none none (-1) (n : Int) with | (lo, hi) => pure (lo, (-1 : Int), Builtin.Slice.slicePlaces lo hi (-1))) _ _ s
  rw [e1]
  show wpAny _ _ (pure ((n : Int) - 1, (-1 : Int), Builtin.Slice.slicePlaces ((n : Int) - 1) (-1) (-1))) _ _ s
  rw [e2]
  exact wpAny_pure h
theorem filterMap_same {α β : Type} {f g : α → Option β} : ∀ l : List α, (∀ m ∈ l, f m = g m) → l.filterMap f = l.filterMap g
  | [], _ => rfl
  | a :: l, h => by
    rw [List.filterMap_cons, List.filterMap_cons, h a (by simp), filterMap_same l fun m hm => h m (by simp [hm])]
theorem pick_rev (xs : Array Value) : ((List.range xs.size).filterMap fun (m : Nat) => xs[(((xs.size : Nat) : Int) - 1 + (m : Int) * -1).toNat]?).toArray = xs.toList.reverse.toArray := by
  have e : (List.range xs.size).filterMap (fun (m : Nat) => xs[(((xs.size : Nat) : Int) - 1 + (m : Int) * -1).toNat]?) = ((List.range xs.size).map fun k => xs.size - 1 - k).filterMap (xs[·]?) := by
    rw [List.filterMap_map]
    refine filterMap_same _ fun m hm => ?_
    have := List.mem_range.mp hm
    show xs[(((xs.size : Nat) : Int) - 1 + (m : Int) * -1).toNat]? = xs[xs.size - 1 - m]?
    have : (((xs.size : Nat) : Int) - 1 + (m : Int) * -1).toNat = xs.size - 1 - m := by omega
    rw [this]
  rw [e, PySem.W.krv_range, List.filterMap_reverse, PySem.W.krv_all]
theorem getItem_tuple_rev {t sl : Addr} {items : Array Value} {u : Tok} {Q : Value → Shared → Prop} (ht : IsTup s.heap t items) (hs : s.heap.IsSliceOf sl .none .none (.int (-1) u))
    (h : Q (.ref s.heap.objs.size) { s with heap := s.heap.push { cls := .type "tuple", data := .seq items.toList.reverse.toArray } })
    (hsz : items.size ≤ sizeLine) : wpAny (model prog w) A (getItem (.ref t) (.ref sl)) Q E s := by
  have htake : sizeOk (.seq items.toList.reverse.toArray) := by
    show items.toList.reverse.toArray.size ≤ sizeLine
    rw [List.size_toArray, List.length_reverse, Array.length_toList]
    omega
  obtain ⟨os, hos, hcs, hds⟩ := id hs
  have hTs : s.TypeIs (.ref sl) "slice" := ⟨os, hos, hcs⟩
  unfold getItem
  try with_reducible refine wpAny_holding ?_
  first | refine wpAny_bind (wpAny_pure ?_) | skip
  refine wpAny_bind (wpAny_sequenceKey ht.typeIs (by decide) ?_)
  refine wpAny_bind (wpAny_callSpecial?_slot (name := Str.ofString "__getitem__") ht.typeIs PyProof.Rows.slot_tuple_getitem
    (wpAny_call_entry PyProof.Rows.slot_tuple_getitem ht.typeIs entry_tuple_getitem ?_ (args_tuple_getitem _ _)))
  show wpAny _ _ (Builtin.Tuple.tupleItemsOf (.ref t) >>= _) _ _ s
  refine wpAny_bind (tupleItemsOf_ ht ?_)
  refine wpAny_bind (wpAny_typeOf hTs ?_)
  rw [if_pos (by decide)]
  refine wpAny_bind (sliceApplied_rev hs ?_)
  have hno : ¬ ((((items.size : Nat) : Int) - 1 == 0 && (-1 : Int) == 1 && items.size == items.size) = true) := by
    intro q
    rw [Bool.and_eq_true, Bool.and_eq_true] at q
    exact absurd q.1.2 (by decide)
  show wpAny _ _ (if (((items.size : Nat) : Int) - 1 == 0 && (-1 : Int) == 1 && items.size == items.size) = true then _ else _) _ _ s
  rw [if_neg hno, pick_rev]
  first
    | exact wpAny_bind (m := Builtin.Tuple.tupleExact _) (wpAny_newObj_type (wpAny_pure ⟨_, rfl, wpAny_pure h⟩) htake)
    | exact wpAny_bind (m := Builtin.Tuple.tupleExact _) (wpAny_newObj_type (wpAny_bind (wpAny_pure (wpAny_pure ⟨_, rfl, wpAny_pure h⟩))) htake)
    | exact wpAny_bind (wpAny_bind (m := Builtin.Tuple.tupleExact _) (wpAny_newObj_type (wpAny_pure (wpAny_pure ⟨_, rfl, wpAny_pure h⟩)) htake))
    | exact wpAny_bind (wpAny_bind (m := Builtin.Tuple.tupleExact _) (wpAny_newObj_type (wpAny_pure ⟨_, rfl, wpAny_pure h⟩) htake))
end
section
variable {X : Cx}
def tRevT (K : PySem.W.Frag) (te : TE) : TE := fun σ H Q => te σ H fun x H1 => ∃ a xs, x = .ref a ∧ SqT K H1 a xs ∧ ∀ p, H1 p = none → Q (.ref p) (upd H1 p (.tup xs.reverse))
theorem pe_revT {e : Expr} {te : TE} {k : Nat} {p1 p2 p3 pos : Pos} (he : PE X e te) : PE X (.Subscript e (.Slice none none (some (.UnaryOp .USub (.Constant (.int 1) k p1) p2)) p3) pos) (tRevT X.K te) := by
  refine ⟨fun pins s σ H Q I h => ?_⟩
  refine Subscript_ (thn (he.run pins s σ H _ I h) fun v s1 ⟨x, H1, I1, r1, q1⟩ => ?_)
  obtain ⟨a, xs, ex, hx, q⟩ := q1
  subst ex
  cases r1
  have hst : PO X (some (.UnaryOp .USub (.Constant (.int 1) k p1) p2)) (tPart (tUn (rU fun i => .int (-i)) (tC (.int 1)))) := po_some (pe_un un_neg pe_int)
  refine wpAny_Slice (thn (po_none.run pins s1 σ H1 (fun o H2 => o = none ∧ H2 = H1) I1 ⟨rfl, rfl⟩) fun vl s2 ⟨l, H2, I2, pl, el, e2⟩ => ?_)
  subst el e2
  refine thn (po_none.run pins s2 σ H2 (fun o H3 => o = none ∧ H3 = H2) I2 ⟨rfl, rfl⟩) fun vu s3 ⟨u, H3, I3, pu, eu, e3⟩ => ?_
  subst eu e3
  refine thn (hst.run pins s3 σ H3 (fun o H4 => o = some (-1) ∧ H4 = H3) I3 ⟨1, rfl, -1, rfl, rfl, rfl⟩) fun vs s4 ⟨o, H4, I4, ps, eo, e4⟩ => ?_
  subst eo e4
  cases pl
  cases pu
  cases ps with
  | int i tk =>
  have I5 : Inv X pins σ H4 { s4 with heap := s4.heap.push { cls := .type "slice", data := .fields #[.none, .none, .int (-1) tk] } } := I4.kept (t' := s4.toks) fun b ob q => Heap.get?_push_of_some _ q
  obtain ⟨its, r, ht, hz⟩ := I5.tuple hx
  have hlen := r.length
  show wpAny (model X.prog X.w) X.A (subscriptTail e (.Slice none none (some (.UnaryOp .USub (.Constant (.int 1) k p1) p2)) p3) (.ref a) (.ref s4.heap.objs.size)) (EP X pins σ Q) X.xe { s4 with heap := s4.heap.push { cls := .type "slice", data := .fields #[.none, .none, .int (-1) tk] } }
  refine tail_any (ops := [.ref a, .ref s4.heap.objs.size]) ht.typeIs PyProof.Rows.slot_tuple_getitem.lookup ?_ (by with_unfolding_all rfl)
  refine getItem_tuple_rev ht (Heap.IsSliceOf.new _ _ _ _) ?_ (by rw [List.size_toArray]; omega)
  refine ⟨.ref _, _, I5.laid (t' := s4.toks) (o := .tup xs.reverse) (fun b ob q => Heap.get?_push_of_some _ q) (Nat.le_refl _) ?_, rfl, q _ (I5.hok.fresh (Nat.le_refl _))⟩
  exact ⟨by rw [List.length_reverse]; exact hz, _, r.reverse, IsTup.new _ _⟩
end

/-! ### (x,) == (text,) -/
section
variable {prog : Program} {w : World} {A : Around} {E : Value → Shared → Prop} {s : Shared}
theorem dict_eq_declines_str (l : Addr) (dat : Data) (dd : Option Addr) (sl : Array (Option Value)) (b : Str) (u : Tok) :
    Meets (Builtin.«dict.__eq__» ⟨[.ref l, .str b u], []⟩) (fun _ R s => s.heap.get? l = some { cls := .type "dict", dict := dd, data := dat, slots := sl } ∧ R (.ok (.ret .notImplemented)) s) :=
  .of_wp fun prog w A R s h => by
    obtain ⟨hl, h⟩ := h
    have hT : s.TypeIs (.ref l) "dict" := ⟨_, hl, rfl⟩
    show wpAny _ _ (Builtin.Dict.dictSlotArgs "__eq__" ⟨[.ref l, .str b u], []⟩ >>= _) _ _ s
    refine wpAny_bind ?_
    unfold Builtin.Dict.dictSlotArgs
    refine wpAny_bind (wpAny_notOrdered_dict hT ?_)
    show wpAny _ _ (pure (Value.ref l, Value.str b u)) _ _ s
    refine wpAny_pure ?_
    refine wpAny_bind (wpAny_isInstance (T := "str") (typeIs_str s b u) F.sub_str_dict ?_)
    simp only [Bool.not_false, if_true]
    exact wpAny_bind (wpAny_rule (wpAny_pure ⟨_, rfl, h⟩))
theorem str_eq_declines_dict (b : Str) (u : Tok) (l : Addr) (c : Value) (es : Array DictEntry) (ep : Nat) (dd : Option Addr) (sl : Array (Option Value)) :
    Meets (Builtin.«str.__eq__» ⟨[.str b u, .ref l], []⟩) (fun _ R s => s.heap.get? l = some { cls := c, dict := dd, data := .dict es ep, slots := sl } ∧ R (.ok (.ret .notImplemented)) s) :=
  .of_wp fun prog w A R s h => by obtain ⟨hp, g, d, tk, os⟩ := s; obtain ⟨hl, h⟩ := h; wp_walk using wpAny_loadPart' hl, wpAny_load hl; exact ⟨_, rfl, h⟩
theorem rc_dict_str {l : Addr} {es : Array DictEntry} {ep : Nat} {dd : Option Addr} {sl : Array (Option Value)} (b : Str) (u : Tok) (ho : s.heap.get? l = some { cls := .type "dict", dict := dd, data := .dict es ep, slots := sl }) (hu : A.units < cLine) : SeqAt.RcAt A s (.ref l) (.str b u) false := fun prog w E Q h => by
  exact SeqAt.rc_eq_decline_or (k := false) ⟨_, ho, rfl⟩ (typeIs_str s b u) (by decide) F.sub_str_dict F.slot_dict_eq F.slot_str_eq_refl
    (fun _ hq => call_meets F.slot_dict_eq ⟨_, ho, rfl⟩ F.entry_dict_eq (F.args_dict_eq_2 _ _) (dict_eq_declines_str l _ dd sl b u) ⟨ho, hq⟩)
    (fun _ hq => call_meets F.slot_str_eq_refl (typeIs_str s b u) F.entry_str_eq (F.args_str_eq_2 _ _) (str_eq_declines_dict b u l (.type "dict") es ep dd sl) ⟨ho, hq⟩)
    (fun _ hq => wpAny_of_eq (rfl : isSame (.ref l) (.str b u) = pure false) hq) (.inr hu) h
theorem eq_dict_str {l : Addr} {es : Array DictEntry} {ep : Nat} {dd : Option Addr} {sl : Array (Option Value)} (b : Str) (u : Tok) (ho : s.heap.get? l = some { cls := .type "dict", dict := dd, data := .dict es ep, slots := sl }) (hu : A.units < cLine) : SeqAt.EqAt A s (.ref l) (.str b u) false := fun prog w E Q h => by
  unfold eqBool
  refine wpAny_holding ?_
  refine wpAny_ite_split (fun hab => absurd (eq_of_beq hab) nofun) (fun _ => ?_)
  exact wpAny_bind (rc_dict_str b u ho hu prog w E _ (wpAny_truthy_bool h))
end
/-- (x,) == (text,): no error as x -/
def rEqH (K : PySem.W.Frag) : R2 := fun x y H Q => ∃ a b z t st, x = .ref a ∧ y = .ref b ∧ SqT K H a [z] ∧ SqT K H b [.str st] ∧ Ty K H z t ∧ (∀ D, t ≠ .ref D) ∧ Q (.bl (decide (z = .str st))) H
theorem op_eqH {X : Cx} (hu : X.A.units + 64 < cLine) : OpR X (compareOp .Eq) (rEqH X.K) := by
  intro pins s σ H x y v u Q I rx ry h
  obtain ⟨a, b, z, t, st, rfl, rfl, ha, hb, ty, nt, q⟩ := h
  cases rx
  cases ry
  obtain ⟨us, r1, p1, _⟩ := I.tuple ha
  obtain ⟨ws, r2, p2, _⟩ := I.tuple hb
  obtain ⟨u1, rfl, q1⟩ := vals1 r1
  obtain ⟨u2, rfl, q2⟩ := vals1 r2
  obtain ⟨k2, rfl⟩ := q2
  have he : SeqAt.EqAt X.A.in1 s u1 (.str st k2) (decide (z = .str st)) := by
    have hu1 : X.A.in1.units < cLine := by
      show X.A.units + 1 < cLine
      omega
    cases ty with
    | non =>
      cases q1
      exact SeqAt.EqAt.none_str _ _
    | bl c =>
      cases q1
      exact SeqAt.EqAt.bool_str _ _ _
    | int i =>
      obtain ⟨k1, rfl⟩ := q1
      exact SeqAt.EqAt.int_str _ _ _ _
    | str s1 =>
      obtain ⟨k1, rfl⟩ := q1
      have e : decide (V.str s1 = V.str st) = (s1 == st) := by
        by_cases h : s1 = st <;> simp [h]
      rw [e]
      exact SeqAt.EqAt.str_str _ _ _ _
    | lst e =>
      cases q1
      obtain ⟨its, r, ht, hz⟩ := I.list (SqL.of e)
      exact SeqAt.EqAt.list_str _ _ ht.isList hu1
    | tup e =>
      cases q1
      obtain ⟨its, r, ht, hz⟩ := I.tuple (SqT.of e)
      exact SeqAt.EqAt.tuple_str _ _ ht hu1
    | dct e =>
      cases q1
      obtain ⟨hz, hs0, vs, kv, ob, es, ep, ho, hc, hd, _⟩ := I.hok _ _ e
      obtain ⟨cls, dd, data, sl⟩ := ob
      simp only at hd
      have hcc : cls = .type "dict" := hc.1
      subst hcc hd
      exact eq_dict_str _ _ ho hu1
    | exc e ed c => exact absurd rfl (nt _)
  have e : ((List.range (min [u1].toArray.size [Value.str st k2].toArray.size)).all (fun _ => decide (z = .str st)) && [u1].toArray.size == [Value.str st k2].toArray.size) = decide (z = .str st) := by
    simp
  refine SeqAt.RcAt.tuples (e := fun _ => decide (z = .str st)) p1 p2 (by omega) (fun j h1 h2 => ?_) X.prog X.w X.xe _ ?_
  · have : j = 0 := by simp at h1; omega
    subst this
    exact he
  · rw [e]
    exact ⟨.bl _, H, I, rfl, q⟩
/-- () == (text,) -/
def rEqHE (K : PySem.W.Frag) : R2 := fun x y H Q => ∃ a b st, x = .ref a ∧ y = .ref b ∧ SqT K H a [] ∧ SqT K H b [.str st] ∧ Q (.bl false) H
theorem op_eqHE {X : Cx} (hu : X.A.units + 64 < cLine) : OpR X (compareOp .Eq) (rEqHE X.K) := by
  intro pins s σ H x y v u Q I rx ry h
  obtain ⟨a, b, st, rfl, rfl, ha, hb, q⟩ := h
  cases rx
  cases ry
  obtain ⟨us, r1, p1, _⟩ := I.tuple ha
  obtain ⟨ws, r2, p2, _⟩ := I.tuple hb
  cases r1
  obtain ⟨u2, rfl, q2⟩ := vals1 r2
  refine SeqAt.RcAt.tuples (e := fun _ => true) p1 p2 (by omega) (fun j h1 h2 => absurd h1 (by simp)) X.prog X.w X.xe _ ?_
  exact ⟨.bl _, H, I, rfl, q⟩
/-- (x,) or () == (text,) -/
theorem op_or {X : Cx} {o : Value → Value → Sem Value} {r1 r2 : R2} (h1 : OpR X o r1) (h2 : OpR X o r2) : OpR X o fun x y H Q => r1 x y H Q ∨ r2 x y H Q := by
  intro pins s σ H x y v u Q I rx ry h
  rcases h with h | h
  · exact h1 pins s σ H x y v u Q I rx ry h
  · exact h2 pins s σ H x y v u Q I rx ry h

/-! ### list(d.values()) -/
section
variable {X : Cx} {e : Expr} {te : TE} {p apos cpos pos : Pos}
def tListVals (te : TE) : TE := fun σ H Q => te σ H fun x H1 => ∃ (d : Addr) (kvs : List (Key × V)), x = .ref d ∧ H1 d = some (.dK kvs) ∧ ∀ q, H1 q = none → Q (.ref q) (upd H1 q (.lst (kvs.map fun kv => kv.2)))
theorem pe_listVals (hc : X.calm = true) (he : PE X e te) (hg : Gl X "list") (hm : X.mg "list" = none) (hv : bootBuiltins "list" = some (.type "list")) (hbase : attributeBase e "values" X.env (eval e X.env) = eval e X.env := by rfl) (hline : (apos.endLine == cpos.line) = true := by rfl)
    (hs : starEach [.Call (.Attribute e "values" apos) [] [] cpos] X.env = (false, eval (.Call (.Attribute e "values" apos) [] [] cpos) X.env) :: starEach [] X.env := by rfl) :
    PE X (.Call (.Name "list" p) [.Call (.Attribute e "values" apos) [] [] cpos] [] pos) (tListVals te) := by
  refine ⟨fun pins s σ H Q I hq => ?_⟩
  refine wpAny_Call_Name_kw (ld_blt I hg hm hv ?_)
  refine PyProof.Rows.callWith_type1 ?_ hs rfl
  rw [hs]
  show wpAny _ _ (spliced ((false, eval (.Call (.Attribute e "values" apos) [] [] cpos) X.env) :: backTo pos (starEach [] X.env))) _ _ s
  refine Calls.spliced_cons ?_
  refine wpAny_Call_method (T := "dict") (id := "dict.values") hbase rfl hline F.plainAttrs_dict F.slot_dict_values F.type_dict_values (thn (he.run pins s σ H _ I hq) fun u s1 ⟨x, H1, I1, rx, d, kvs, ex, hd, q⟩ => ?_)
  subst ex
  obtain rfl : u = Value.ref d := rx
  obtain ⟨hz, hs0, vs, kv, hdo⟩ := I1.hok d _ hd
  obtain ⟨ep, hat⟩ := hdo.dictAt
  have lk : kvs.length = vs.length := Paired.length kv
  have I2 : Inv X pins σ H1 { s1 with heap := s1.heap.push { cls := .type "dict_values", data := .fields #[.ref d] } } := I1.kept (t' := s1.toks) fun b ob q => Heap.get?_push_of_some _ q
  refine ⟨hdo.typeIs, hdo.mapOf.noDict, ?_⟩
  show wpAny _ _ (callWith cpos (.builtin "dict.values") [.ref d] [] []) _ X.xe s1
  refine method_meetsIn F.slot_dict_values F.entry_dict_values rfl (PySem.evalArgs_none ⟨rfl, hdo.typeIs, F.args_dict_values_1 _, _, meets_dict_values (mixKind X.prog X.w) d hs0, ⟨vs, hdo⟩, ?_⟩)
  refine Calls.spliced_nil ?_
  refine PySem.W.kdl_call (PySem.W.kdl_values (knd := mixKind X.prog X.w) (kvs := vs) (ep := ep)) (I1.ok.hd hc) ⟨⟨_, Heap.get?_push_size _ rfl, rfl, rfl⟩, hat.push _⟩ (by omega) fun h' tk acc' c' hkeep hS hacc => ?_
  refine ⟨.ref _, _, I2.laid (o := .lst (kvs.map fun kv => kv.2)) hkeep (Nat.le_refl _) (show ObjOk X.prog X.w _ _ _ (.lst (kvs.map fun kv => kv.2)) from ⟨?_, acc'.toList, c', ?_, ?_⟩), rfl, q _ (I1.hok.fresh (by
    show s1.heap.objs.size ≤ _
    simp [Heap.push]))⟩
  · rw [List.length_map]; exact hz
  · have el : acc'.toList.length = acc'.size := by simp
    refine vals_of_at (by rw [List.length_map, el, hacc.1]; omega) fun j x w h1 h2 => ?_
    obtain ⟨k, hky⟩ := hacc.2 j w (by rw [← Array.getElem?_toList]; exact h2)
    rw [List.getElem?_map] at h1
    obtain ⟨pk, e1, rfl⟩ := Option.map_eq_some_iff.mp h1
    obtain ⟨qv, g1, g2, g3⟩ := LiI.paired_get kv e1
    rw [hky] at g1
    cases g1
    exact g3
  · rw [Array.toArray_toList]; exact hS
end
end Pw

/-! Tuples cut, joined and multiplied, whether the outcome is new or one of those. -/
namespace Pw
open PySem PySem.Spec PyProof.Rows L2
section
variable {X : Cx}
def rCatS : R2 := fun x y H Q => ∃ a b xs ys, x = .ref a ∧ y = .ref b ∧ H a = some (.tup xs) ∧ H b = some (.tup ys) ∧ xs.length + ys.length ≤ sizeLine ∧ ∀ c H', Same H H' → H' c = some (.tup (xs ++ ys)) → Q (.ref c) H'
theorem op_catS : OpR X (binaryOp .Add) rCatS := by
  intro pins s σ H x y v u Q I rx ry h
  obtain ⟨a, b, xs, ys, rfl, rfl, ha, hb, hz, q⟩ := h
  refine op_catA pins s σ H _ _ v u Q I rx ry ⟨a, b, xs, ys, rfl, rfl, SqT.of ha, SqT.of hb, hz, fun e => ?_, fun _ e => ?_, fun _ _ c nc => q c _ (Same.laid nc) upd_same⟩
  · subst e
    exact q b H (Same.refl _) hb
  · subst e
    exact q a H (Same.refl _) (by rw [List.append_nil]; exact ha)
def rSlS : V → Option Int → Option Int → Hp → VK → Prop := fun x lo hi H Q => ∃ a xs, x = .ref a ∧ H a = some (.tup xs) ∧ ∀ c H', Same H H' → H' c = some (.tup (cutV xs lo hi)) → Q (.ref c) H'
theorem sl_tupS : SlR X rSlS := by
  intro pins s σ H x v vl vu lo hi sl Q I rx hs pl pu h
  obtain ⟨a, xs, rfl, ha, q⟩ := h
  refine sl_tupA pins s σ H _ v vl vu lo hi sl Q I rx hs pl pu ⟨a, xs, rfl, SqT.of ha, fun e => ?_, fun _ c nc => q c _ (Same.laid nc) upd_same⟩
  refine q a H (Same.refl _) ?_
  have : cutV xs lo hi = xs := by
    unfold cutV
    rw [e.1, e.2, List.drop_zero, Nat.sub_zero, List.take_of_length_le (Nat.le_refl _)]
  rw [this]
  exact ha
def rRepS : R2 := fun x y H Q => ∃ a xs k, x = .ref a ∧ y = .int k ∧ H a = some (.tup xs) ∧ 2 ≤ k ∧ k ≤ 1000 ∧ xs.length ≤ 1000 ∧ ∀ c H', Same H H' → H' c = some (.tup (List.replicate k.toNat xs).flatten) → Q (.ref c) H'
theorem op_repS : OpR X (binaryOp .Mult) rRepS := by
  intro pins s σ H x y v u Q I rx ry h
  obtain ⟨a, xs, k, rfl, rfl, ha, h1, h2, hz, q⟩ := h
  by_cases hx : xs = []
  · subst hx
    refine op_rep0 pins s σ H _ _ v u Q I rx ry ⟨a, k, rfl, rfl, SqT.of ha, h1, h2, q a H (Same.refl _) ?_⟩
    have : (List.replicate k.toNat ([] : List V)).flatten = [] := by
      rw [List.flatten_eq_nil_iff]
      exact fun l hl => (List.mem_replicate.mp hl).2
    rw [this]
    exact ha
  · exact op_repT pins s σ H _ _ v u Q I rx ry ⟨a, k, xs, rfl, rfl, SqT.of ha, hx, h1, h2, hz, fun c nc => q c _ (Same.laid nc) upd_same⟩
end
theorem cut_upto (xs : List V) (j : Nat) : cutV xs none (some (j : Int)) = xs.take j := by
  unfold cutV
  have e1 : HT.sIx xs.length 0 none = 0 := rfl
  rw [e1, HT.sIx_nat, List.drop_zero, Nat.sub_zero]
  by_cases h : j ≤ xs.length
  · rw [Nat.min_eq_left h]
  · rw [Nat.min_eq_right (by omega), List.take_of_length_le (Nat.le_refl _), List.take_of_length_le (by omega)]
theorem cut_behind (xs : List V) (i : Nat) : cutV xs (some (i : Int)) none = xs.drop i := by
  unfold cutV
  have e2 : HT.sIx xs.length xs.length none = xs.length := rfl
  rw [HT.sIx_nat, e2]
  by_cases h : i ≤ xs.length
  · rw [Nat.min_eq_left h, List.take_of_length_le (by rw [List.length_drop]; omega)]
  · rw [Nat.min_eq_right (by omega), Nat.sub_self, List.take_zero, List.drop_of_length_le (by omega)]
theorem cut_two (xs : List V) (i j : Nat) : cutV xs (some (i : Int)) (some (j : Int)) = (xs.take j).drop i := by
  unfold cutV
  rw [HT.sIx_nat, HT.sIx_nat]
  by_cases h : i ≤ xs.length
  · rw [Nat.min_eq_left h, List.drop_take]
    by_cases h2 : j ≤ xs.length
    · rw [Nat.min_eq_left h2]
    · rw [Nat.min_eq_right (by omega), List.take_of_length_le (by rw [List.length_drop]; omega), List.take_of_length_le (by rw [List.length_drop]; omega)]
  · rw [Nat.min_eq_right (a := i) (by omega), List.drop_of_length_le (Nat.le_refl _), List.take_nil, List.drop_of_length_le (by rw [List.length_take]; omega)]
end Pw

/-! A try with several clauses 'except X as e', met one after the other; what stands behind the last that may be met is never looked at. -/
namespace Pw
open PySem PySem.Spec PyProof.Rows L2
abbrev SuiteT := Addr → Value → Option Addr → TS
/-- the wishes of such clauses -/
def wAll (K : PySem.W.Frag) (i : Nat) (D : Ends) : List (Value × SuiteT) → WX
  | [] => fun _ _ _ _ => False
  | (c, ts) :: r => wAs K c i ts (wAll K i D r) D
inductive AsOk (X : Cx) (n : Str) : List ExceptHandler → List (Value × SuiteT) → Prop
  | rest {hds : List ExceptHandler} : AsOk X n hds []
  | cons {x : Str} {c : Value} {ts : SuiteT} {b₀ : Stmt} {suite : List Stmt} {np pos' : Pos} {hds : List ExceptHandler} {l : List (Value × SuiteT)} (nm : Names X x c)
      (sui : ∀ (a : Addr) (oe : Obj) (cls : Value) (d : Option Addr) (pn : List (Addr × Obj)), Zc cls d oe → (∃ vs, oe.data = .fields vs) → PSs (X.suite a ((a, oe) :: pn)) (b₀ :: suite) (ts a cls d)) (more : AsOk X n hds l) :
      AsOk X n (.ExceptHandler (some (.Name x np)) (some n) (b₀ :: suite) pos' :: hds) ((c, ts) :: l)
section
variable {X : Cx} {n : Str} {i : Nat}
/-- a landed exception is no frame of ours -/
theorem no_frame {B h : Heap} {l : List Env} {a : Addr} {o : Obj} {vs : Array Value} (ff : h.FunFrames B l) (e : h.get? a = some o) (dd : o.data = .fields vs) : a ∉ frs l := fun hm => by
  obtain ⟨_, o', e', hnf⟩ := ff.mem hm
  rw [e] at e'
  cases e'
  exact hnf _ dd
/-- the clauses, one behind the other, over a landed exception -/
theorem clauses_as {pins : List (Addr × Obj)} {D : Ends} {B : Heap} {a : Addr} {cls : Value} {d : Option Addr} {σ : L2.St} {H : Hp} {s : Shared} (ok : X.Ok) (hs : X.stack = X.env :: X.outer) (hf : X.env.frame = some X.env.locals)
    (hN : X.N.Nodup) (hi : X.N[i]? = some n) (hln : X.env.kindOf n = some .local) (na : H a = none)
    (fl : HandSPX.FlyingZ B (X.env :: X.outer) a (Zc cls d) s.heap)
    (at_ : ∀ h, HandSPX.FlyingZ B (X.env :: X.outer) a (Zc cls d) h → s.heap.UpToSlots h → Inv X pins σ H { s with heap := h }) :
    ∀ {hds : List ExceptHandler} {l : List (Value × SuiteT)}, AsOk X n hds l → wAll X.K i D l cls d σ H → wpAny (model X.prog X.w) X.A (handleBy (.ref a) X.env hds) (SP X pins D) X.xe s
  | _, _, .rest, w => w.elim
  | _, _, .cons (x := x) (c := c) (ts := ts) (np := np) (pos' := pos') nm sui more, w => by
    obtain ⟨b, eb, yes, no⟩ := w
    have J : Inv X pins σ H s := at_ _ fl (Heap.UpToSlots.refl _)
    obtain ⟨o1, v1, g1, z1, f1⟩ := fl.there
    have nfr := no_frame fl.2.2.1 g1 f1
    have nL : a ≠ X.env.locals := fun z => nfr (List.mem_filterMap.mpr ⟨X.env, List.mem_cons_self, by rw [hf, z]⟩)
    have nF : a ∉ X.fs := fun hm => by
      obtain ⟨e, he, q⟩ := List.mem_filterMap.mp hm
      exact nfr (List.mem_filterMap.mpr ⟨e, List.mem_cons_of_mem _ he, q⟩)
    have kind : PySem.W.Looks (model X.prog X.w) s.heap (typeOf (.ref a)) cls := fun _ _ _ _ k q => wpAny_typeOf_ref (k _ _ g1) (by rw [z1.1]; exact q)
    have I1 := J.suite g1 f1 na nL nF
    refine wpAny_handleBy_cons (codeAny_handlers_test ?_) (by intro q; cases q)
    have read : ∀ {Q E : Value → Shared → Prop}, Q c s → wpAny (model X.prog X.w) (X.A.mark (some (.ref a))) (eval (.Name x np) X.env) Q E s := fun {Q E} q => by
      rcases nm with ⟨hg, hd, hm | ⟨hm, hv, hn⟩⟩
      · exact ld_glob (X := X.suite a ((a, o1) :: (X.pn ++ pins))) I1 hg hm q hd
      · exact ld_blt (X := X.suite a ((a, o1) :: (X.pn ++ pins))) I1 hg hm hv q hn hd
    refine read ((PySem.W.exm_one (M := model X.prog X.w) J.kIn kind eb).here ?_)
    match b, yes, no with
    | false, _, no => exact clauses_as ok hs hf hN hi hln na fl at_ more (no rfl)
    | true, yes, _ =>
      refine codeAny_handlers_suite_as (HandSPX.lands_againZ fl fun h2 fl2 up2 => ?_)
      obtain ⟨o2, v2, g2, z2, f2⟩ := fl2.there
      have I2 := (at_ h2 fl2 up2).suite g2 f2 na nL nF
      refine store_ok (X := X.suite a ((a, o2) :: (X.pn ++ pins))) (v := .ref a) I2 hN hi (.inl hln) rfl (fun s3 I3 => ?_) (.inr hln)
      refine wpAny_mono ((sui a o2 cls d (X.pn ++ pins) z2 ⟨_, f2⟩).run [] s3 _ H _ I3 (yes rfl a na)) (fun way s4 at4 => ?_) fun _ _ z => False.elim z
      have off : ∀ {σ4 : L2.St} {H4 : Hp} {Q : Shared → Prop}, Inv (X.suite a ((a, o2) :: (X.pn ++ pins))) [] σ4 H4 s4 → (∀ s5, Inv X pins (σ4.set i none) H4 s5 → Q s5) →
          wpAny (model X.prog X.w) X.A (do bindName X.env n .none; unbindBehindTheSuite X.env n pos') (fun _ s5 => Q s5) X.xe s4 := fun I4 k => gone_ok (I4.unsuite ok) hN hi hln k
      match way, at4 with
      | .next, ⟨_, _, I4, q⟩ => exact off I4 fun _ I5 => ⟨_, _, I5, q⟩
      | .brk, ⟨_, _, I4, q⟩ => exact off I4 fun _ I5 => ⟨_, _, I5, q⟩
      | .cont, ⟨_, _, I4, q⟩ => exact off I4 fun _ I5 => ⟨_, _, I5, q⟩
      | .ret u, ⟨_, _, _, I4, r, q⟩ => exact off I4 fun _ I5 => ⟨_, _, _, I5, r, q⟩
theorem ps_try_ass {body : List Stmt} {h₀ : ExceptHandler} {hds : List ExceptHandler} {l : List (Value × SuiteT)} {pos : Pos} {tb : WX → TS} (hs : X.stack = X.env :: X.outer) (hf : X.env.frame = some X.env.locals)
    (hN : X.N.Nodup) (hi : X.N[i]? = some n) (hln : X.env.kindOf n = some .local)
    (hb : ∀ (W : WX) (pn : List (Addr × Obj)) (xe : Value → Shared → Prop), Takes (X.tr pn xe) W → PassesOwn (model X.prog X.w) X.A X.env xe → PSs (X.tr pn xe) body (tb W)) (hh : AsOk X n (h₀ :: hds) l) :
    PS X (.Try body (h₀ :: hds) [] [] pos) (fun D σ H => tb (wAll X.K i D l) D σ H) := by
  refine ⟨fun pins s σ H D I h => ?_⟩
  have fr : X.A.frames = some (X.env :: X.outer) := by rw [I.ok.frames, hs]
  refine wpAny_Try_except (wpAny_mono ((hb (wAll X.K i D l) (X.pn ++ pins) (fun e s1 => wpAny (model X.prog X.w) X.A (noteFrame e X.env) (fun _ s2 => wpAny (model X.prog X.w) X.A (setFlight e none)
    (fun _ s3 => wpAny (model X.prog X.w) X.A (handleBy e X.env (h₀ :: hds)) (SP X pins D) X.xe s3) X.xe s2) X.xe s1) (fun u s' xx => ?_) PassesOwn.looking).run [] s σ H D (I.toTry _) h) (fun way s1 at1 => ?_) fun _ _ z => z)
  · obtain ⟨a, B, sI, pins', σ', H', cls, d, rfl, J', nb, up, sky, na, os, ag, w⟩ := xx
    have J : Inv X pins σ' H' sI := J'.ofTry I.ok
    show wpAny (model X.prog X.w) X.A (noteFrame (.ref a) X.env) _ _ _
    refine Sky.land Zc.steady fr hf (by rw [← hs]; exact sky) fun h3 fl3 up3 => ?_
    exact clauses_as (s := { s' with heap := h3 }) I.ok hs hf hN hi hln na fl3 (fun h fl u4 => J.landed nb fl.1 ((up.trans up3).trans u4) os ag) hh w
  · match way, at1 with
    | .next, ⟨_, _, I1, q⟩ => exact wpAny_execs_nil ⟨_, _, I1.ofTry I.ok, q⟩
    | .brk, ⟨_, _, I1, q⟩ => exact ⟨_, _, I1.ofTry I.ok, q⟩
    | .cont, ⟨_, _, I1, q⟩ => exact ⟨_, _, I1.ofTry I.ok, q⟩
    | .ret u, ⟨_, _, _, I1, r, q⟩ => exact ⟨_, _, _, I1.ofTry I.ok, r, q⟩
end
end Pw

/-! except (A, B, C, D) as e; any thing in a list of texts; tuples of the very same things. -/
namespace Pw
open PySem PySem.Spec PyProof.Rows L2
/-! ### a clause that names four classes -/
theorem flyz_keeps {base h h' : Heap} {l : List Env} {e : Addr} {Z : Obj → Prop} (R : HandSPX.FlyingZ base l e Z h) (k : ∀ b o, h.get? b = some o → h'.get? b = some o) : HandSPX.FlyingZ base l e Z h' := by
  obtain ⟨f1, f2, f3, oe, vs, T, oT, ts, he, hz, hd, h1, hb, hne, hT, hdT, h3⟩ := R
  exact ⟨fun b o q => k b o (f1 b o q), f2, f3.of_keeps fun b o q _ => ⟨o, k b o q, rfl⟩, oe, vs, T, oT, ts, k _ _ he, hz, hd, h1, hb, hne, k _ _ hT, hdT, h3⟩
/-- what such a clause wishes: it is met -/
def wTup (K : PySem.W.Frag) (cs : List Value) (i : Nat) (ts : SuiteT) (D : Ends) : WX := fun cls d σ H =>
  PySem.W.exmAny K cls cs = some true ∧ ∀ a, H a = none → ts a cls d { nx := fun σ' H' => D.nx (σ'.set i none) H', rt := D.rt, bk := fun σ' H' => D.bk (σ'.set i none) H', ct := fun σ' H' => D.ct (σ'.set i none) H' } (σ.set i (some (.ref a))) H
def tTryT (K : PySem.W.Frag) (i : Nat) (cs : List Value) (ts : SuiteT) (tb : WX → TS) : TS := fun D σ H => tb (wTup K cs i ts D) D σ H
theorem ps_try_tup4 {X : Cx} {n x1 x2 x3 x4 : Str} {c1 c2 c3 c4 : Value} {i : Nat} {body suite : List Stmt} {b₀ : Stmt} {hds : List ExceptHandler} {p1 p2 p3 p4 tpos pos' pos : Pos} {kk : Nat} {tb : WX → TS} {ts : SuiteT} (hs : X.stack = X.env :: X.outer) (hf : X.env.frame = some X.env.locals)
    (hN : X.N.Nodup) (hi : X.N[i]? = some n) (hln : X.env.kindOf n = some .local)
    (hb : ∀ (W : WX) (pn : List (Addr × Obj)) (xe : Value → Shared → Prop), Takes (X.tr pn xe) W → PassesOwn (model X.prog X.w) X.A X.env xe → PSs (X.tr pn xe) body (tb W)) (n1 : Names X x1 c1) (n2 : Names X x2 c2) (n3 : Names X x3 c3) (n4 : Names X x4 c4)
    (sui : ∀ (a : Addr) (oe : Obj) (cls : Value) (d : Option Addr) (pn : List (Addr × Obj)), Zc cls d oe → (∃ vs, oe.data = .fields vs) → PSs (X.suite a ((a, oe) :: pn)) (b₀ :: suite) (ts a cls d)) :
    PS X (.Try body (.ExceptHandler (some (.Tuple [.Name x1 p1, .Name x2 p2, .Name x3 p3, .Name x4 p4] kk tpos)) (some n) (b₀ :: suite) pos' :: hds) [] [] pos) (tTryT X.K i [c1, c2, c3, c4] ts tb) := by
  refine ⟨fun pins s σ H D I h => ?_⟩
  have fr : X.A.frames = some (X.env :: X.outer) := by rw [I.ok.frames, hs]
  refine wpAny_Try_except (wpAny_mono ((hb (wTup X.K [c1, c2, c3, c4] i ts D) (X.pn ++ pins) (fun e s1 => wpAny (model X.prog X.w) X.A (noteFrame e X.env) (fun _ s2 => wpAny (model X.prog X.w) X.A (setFlight e none)
    (fun _ s3 => wpAny (model X.prog X.w) X.A (handleBy e X.env (.ExceptHandler (some (.Tuple [.Name x1 p1, .Name x2 p2, .Name x3 p3, .Name x4 p4] kk tpos)) (some n) (b₀ :: suite) pos' :: hds)) (SP X pins D) X.xe s3) X.xe s2) X.xe s1) (fun u s' xx => ?_) PassesOwn.looking).run [] s σ H D (I.toTry _) h) (fun way s1 at1 => ?_) fun _ _ z => z)
  · obtain ⟨a, B, sI, pins', σ', H', cls, d, rfl, J', nb, up, sky, na, os, ag, w⟩ := xx
    have J : Inv X pins σ' H' sI := J'.ofTry I.ok
    show wpAny (model X.prog X.w) X.A (noteFrame (.ref a) X.env) _ _ _
    refine Sky.land Zc.steady fr hf (by rw [← hs]; exact sky) fun h3 fl3 up3 => ?_
    have at_ : ∀ h, HandSPX.FlyingZ B (X.env :: X.outer) a (Zc cls d) h → h3.UpToSlots h → Inv X pins σ' H' { s' with heap := h } := fun h fl u4 => J.landed nb fl.1 ((up.trans up3).trans u4) os ag
    obtain ⟨eb, yes⟩ := w
    have J3 : Inv X pins σ' H' { s' with heap := h3 } := at_ _ fl3 (Heap.UpToSlots.refl _)
    obtain ⟨o1, v1, g1, z1, f1⟩ := fl3.there
    have nfr := no_frame fl3.2.2.1 g1 f1
    have nL : a ≠ X.env.locals := fun z => nfr (List.mem_filterMap.mpr ⟨X.env, List.mem_cons_self, by rw [hf, z]⟩)
    have nF : a ∉ X.fs := fun hm => by
      obtain ⟨e, he, q⟩ := List.mem_filterMap.mp hm
      exact nfr (List.mem_filterMap.mpr ⟨e, List.mem_cons_of_mem _ he, q⟩)
    have I1 := J3.suite g1 f1 na nL nF
    refine wpAny_handleBy_cons (codeAny_handlers_test ?_) (by intro q; cases q)
    have read : ∀ {x : Str} {c : Value} {np : Pos} {Q E : Value → Shared → Prop}, Names X x c → Q c { s' with heap := h3 } → wpAny (model X.prog X.w) (X.A.mark (some (.ref a))) (eval (.Name x np) X.env) Q E { s' with heap := h3 } := fun {x c np Q E} nm q => by
      rcases nm with ⟨hg, hd, hm | ⟨hm, hv, hn⟩⟩
      · exact ld_glob (X := X.suite a ((a, o1) :: (X.pn ++ pins))) I1 hg hm q hd
      · exact ld_blt (X := X.suite a ((a, o1) :: (X.pn ++ pins))) I1 hg hm hv q hn hd
    refine wpAny_Tuple ?_
    refine wpAny_items_cons (read n1 ?_)
    refine wpAny_items_cons (read n2 ?_)
    refine wpAny_items_cons (read n3 ?_)
    refine wpAny_items_cons (read n4 ?_)
    refine wpAny_items_nil ⟨by size_fits, ?_⟩
    have kp : ∀ q o, h3.get? q = some o → (h3.push { cls := .type "tuple", data := .seq [c1, c2, c3, c4].toArray }).get? q = some o := fun _ _ z => Heap.get?_push_of_some _ z
    have fl4 := flyz_keeps fl3 kp
    have up4 : h3.UpToSlots (h3.push { cls := .type "tuple", data := .seq [c1, c2, c3, c4].toArray }) := Heap.UpToSlots.of_keeps kp
    have J4 := at_ _ fl4 up4
    have g4 := kp _ _ g1
    have kind : PySem.W.Looks (model X.prog X.w) (h3.push { cls := .type "tuple", data := .seq [c1, c2, c3, c4].toArray }) (typeOf (.ref a)) cls := fun _ _ _ _ k q => wpAny_typeOf_ref (k _ _ g4) (by rw [z1.1]; exact q)
    refine ((PySem.W.exm_tup4 (M := model X.prog X.w) J4.kIn kind (Heap.get?_push_size h3 rfl) eb).here ?_)
    refine codeAny_handlers_suite_as (HandSPX.lands_againZ fl4 fun h2 fl2 up2 => ?_)
    obtain ⟨o2, v2, g2, z2, f2⟩ := fl2.there
    have I2 := (at_ h2 fl2 (up4.trans up2)).suite g2 f2 na nL nF
    refine store_ok (X := X.suite a ((a, o2) :: (X.pn ++ pins))) (v := .ref a) I2 hN hi (.inl hln) rfl (fun s3 I3 => ?_) (.inr hln)
    refine wpAny_mono ((sui a o2 cls d (X.pn ++ pins) z2 ⟨_, f2⟩).run [] s3 _ H' _ I3 (yes a na)) (fun way s4 at4 => ?_) fun _ _ z => False.elim z
    have off : ∀ {σ4 : L2.St} {H4 : Hp} {Q : Shared → Prop}, Inv (X.suite a ((a, o2) :: (X.pn ++ pins))) [] σ4 H4 s4 → (∀ s5, Inv X pins (σ4.set i none) H4 s5 → Q s5) →
        wpAny (model X.prog X.w) X.A (do bindName X.env n .none; unbindBehindTheSuite X.env n pos') (fun _ s5 => Q s5) X.xe s4 := fun I4 k => gone_ok (I4.unsuite I.ok) hN hi hln k
    match way, at4 with
    | .next, ⟨_, _, I4, q⟩ => exact off I4 fun _ I5 => ⟨_, _, I5, q⟩
    | .brk, ⟨_, _, I4, q⟩ => exact off I4 fun _ I5 => ⟨_, _, I5, q⟩
    | .cont, ⟨_, _, I4, q⟩ => exact off I4 fun _ I5 => ⟨_, _, I5, q⟩
    | .ret u, ⟨_, _, _, I4, r, q⟩ => exact off I4 fun _ I5 => ⟨_, _, _, I5, r, q⟩
  · match way, at1 with
    | .next, ⟨_, _, I1, q⟩ => exact wpAny_execs_nil ⟨_, _, I1.ofTry I.ok, q⟩
    | .brk, ⟨_, _, I1, q⟩ => exact ⟨_, _, I1.ofTry I.ok, q⟩
    | .cont, ⟨_, _, I1, q⟩ => exact ⟨_, _, I1.ofTry I.ok, q⟩
    | .ret u, ⟨_, _, _, I1, r, q⟩ => exact ⟨_, _, _, I1.ofTry I.ok, r, q⟩
/-! ### x in texts, whatever x is -/
section
variable {prog : Program} {w : World} {A : Around} {E : Value → Shared → Prop} {s : Shared}
theorem rc_str_dict {l : Addr} {es : Array DictEntry} {ep : Nat} {dd : Option Addr} {sl : Array (Option Value)} (b : Str) (u : Tok) (ho : s.heap.get? l = some { cls := .type "dict", dict := dd, data := .dict es ep, slots := sl }) (hu : A.units < cLine) : SeqAt.RcAt A s (.str b u) (.ref l) false := fun prog w E Q h => by
  exact SeqAt.rc_eq_decline_or (k := false) (typeIs_str s b u) ⟨_, ho, rfl⟩ (by decide) F.sub_dict_str F.slot_str_eq F.slot_dict_eq_refl
    (fun _ hq => call_meets F.slot_str_eq (typeIs_str s b u) F.entry_str_eq (F.args_str_eq_2 _ _) (str_eq_declines_dict b u l (.type "dict") es ep dd sl) ⟨ho, hq⟩)
    (fun _ hq => call_meets F.slot_dict_eq_refl ⟨_, ho, rfl⟩ F.entry_dict_eq (F.args_dict_eq_2 _ _) (dict_eq_declines_str l _ dd sl b u) ⟨ho, hq⟩)
    (fun _ hq => wpAny_of_eq (rfl : isSame (.str b u) (.ref l) = pure false) hq) (.inr hu) h
theorem eq_str_dict {l : Addr} {es : Array DictEntry} {ep : Nat} {dd : Option Addr} {sl : Array (Option Value)} (b : Str) (u : Tok) (ho : s.heap.get? l = some { cls := .type "dict", dict := dd, data := .dict es ep, slots := sl }) (hu : A.units < cLine) : SeqAt.EqAt A s (.str b u) (.ref l) false := fun prog w E Q h => by
  unfold eqBool
  refine wpAny_holding ?_
  refine wpAny_ite_split (fun hab => absurd (eq_of_beq hab) nofun) (fun _ => ?_)
  exact wpAny_bind (rc_str_dict b u ho hu prog w E _ (wpAny_truthy_bool h))
end
def inStrs (x : V) (ns : List Str) : Bool := match x with
  | .str s => decide (s ∈ ns)
  | _ => false
def rInS (K : PySem.W.Frag) : R2 := fun x y H Q => ∃ b ns t, y = .ref b ∧ SqL K H b ((ns : List Str).map V.str) ∧ Ty K H x t ∧ (∀ D, t ≠ .ref D) ∧ Q (.bl (inStrs x ns)) H
theorem strs_vals : ∀ {ns : List Str} {us : List Value}, Vals (ns.map V.str) us → ∀ u ∈ us, ∃ s k, u = .str s k
  | [], us, r, u, hu => by cases r; cases hu
  | n :: ns, us, r, u, hu => by
    cases r with
    | cons r1 r2 =>
      rcases List.mem_cons.mp hu with rfl | hu
      · obtain ⟨k, e⟩ := r1
        exact ⟨n, k, e⟩
      · exact strs_vals r2 u hu
def txt (v : Value) (s0 : Str) : Bool := match v with
  | .str s _ => s == s0
  | _ => false
theorem any_strs (s0 : Str) : ∀ {ns : List Str} {us : List Value}, Vals (ns.map V.str) us → us.any (fun v => txt v s0) = decide (s0 ∈ ns)
  | [], us, r => by cases r; rfl
  | n :: ns, us, r => by
    cases r with
    | cons r1 r2 =>
      obtain ⟨k, rfl⟩ := r1
      rw [List.any_cons, any_strs s0 r2]
      show (n == s0 || decide (s0 ∈ ns)) = decide (s0 ∈ n :: ns)
      by_cases h : n = s0
      · subst h
        simp
      · have h2 : ¬ s0 = n := fun z => h z.symm
        simp [h, h2]
theorem op_inS {X : Cx} (hu : X.A.units + 64 < cLine) : OpR X (compareOp .In) (rInS X.K) := by
  intro pins s σ H x y v u Q I rx ry h
  obtain ⟨b, ns, t, rfl, hb, ty, nt, q⟩ := h
  cases ry
  obtain ⟨its, r, p, _⟩ := I.list hb
  have hu1 : X.A.in1.units < cLine := by
    show X.A.units + 1 < cLine
    omega
  have go : ∀ e : Value → Bool, (∀ y ∈ its, SeqAt.EqAt X.A.in1 s y v (e y)) → its.any e = inStrs x ns → wpAny (model X.prog X.w) X.A (compareOp .In v (.ref b)) (fun v s' => ∃ x H', Inv X pins σ H' s' ∧ RelV x v ∧ Q x H') X.xe s := fun e he ea => by
    refine SeqAt.in_listAt e p.isList (fun y hy => he y (by simpa using hy)) ?_
    rw [List.any_toArray, ea]
    exact ⟨.bl _, H, I, rfl, q⟩
  have no : (∀ y ∈ its, SeqAt.EqAt X.A.in1 s y v false) → inStrs x ns = false → _ := fun he ei => go (fun _ => false) he (by rw [ei]; simp)
  cases ty with
  | non =>
    cases rx
    exact no (fun y hy => by obtain ⟨z, k, rfl⟩ := strs_vals r y hy; exact SeqAt.EqAt.str_none _ _) rfl
  | bl c =>
    cases rx
    exact no (fun y hy => by obtain ⟨z, k, rfl⟩ := strs_vals r y hy; exact SeqAt.EqAt.str_bool _ _ _) rfl
  | int i =>
    obtain ⟨k1, rfl⟩ := rx
    exact no (fun y hy => by obtain ⟨z, k, rfl⟩ := strs_vals r y hy; exact SeqAt.EqAt.str_int _ _ _ _) rfl
  | str s1 =>
    obtain ⟨k1, rfl⟩ := rx
    refine go (fun v => txt v s1) (fun y hy => ?_) (any_strs s1 r)
    obtain ⟨z, k, rfl⟩ := strs_vals r y hy
    exact SeqAt.EqAt.str_str _ _ _ _
  | lst e =>
    cases rx
    obtain ⟨ws, r2, ht, hz⟩ := I.list (SqL.of e)
    exact no (fun y hy => by obtain ⟨z, k, rfl⟩ := strs_vals r y hy; exact SeqAt.EqAt.str_list _ _ ht.isList hu1) rfl
  | tup e =>
    cases rx
    obtain ⟨ws, r2, ht, hz⟩ := I.tuple (SqT.of e)
    exact no (fun y hy => by obtain ⟨z, k, rfl⟩ := strs_vals r y hy; exact SeqAt.EqAt.str_tuple _ _ ht hu1) rfl
  | dct e =>
    cases rx
    obtain ⟨hz, hs0, vs, kv, ob, es, ep, ho, hc, hd, _⟩ := I.hok _ _ e
    obtain ⟨cls, dd, data, sl⟩ := ob
    simp only at hd
    have hcc : cls = .type "dict" := hc.1
    subst hcc hd
    exact no (fun y hy => by obtain ⟨z, k, rfl⟩ := strs_vals r y hy; exact eq_str_dict _ _ ho hu1) rfl
  | exc e ed c => exact absurd rfl (nt _)
/-! ### tuples of the very same things -/
def rEqI (K : PySem.W.Frag) : R2 := fun x y H Q => ∃ a b xs, x = .ref a ∧ y = .ref b ∧ SqT K H a xs ∧ SqT K H b xs ∧ (∀ v ∈ xs, ∃ q, v = .ref q) ∧ Q (.bl true) H
theorem refs_vals : ∀ {xs : List V} {us ws : List Value}, Vals xs us → Vals xs ws → (∀ v ∈ xs, ∃ q, v = .ref q) → us = ws
  | [], us, ws, r1, r2, _ => by cases r1; cases r2; rfl
  | x :: xs, us, ws, r1, r2, h => by
    cases r1 with
    | cons a1 b1 =>
      cases r2 with
      | cons a2 b2 =>
        obtain ⟨q, rfl⟩ := h x (by simp)
        cases a1
        cases a2
        rw [refs_vals b1 b2 fun v hv => h v (by simp [hv])]
theorem op_eqI {X : Cx} (hu : X.A.units + 64 < cLine) : OpR X (compareOp .Eq) (rEqI X.K) := by
  intro pins s σ H x y v u Q I rx ry h
  obtain ⟨a, b, xs, rfl, rfl, ha, hb, hr, q⟩ := h
  cases rx
  cases ry
  obtain ⟨us, r1, p1, _⟩ := I.tuple ha
  obtain ⟨ws, r2, p2, _⟩ := I.tuple hb
  obtain rfl := refs_vals r1 r2 hr
  refine SeqAt.RcAt.tuples (e := fun _ => true) p1 p2 (by omega) (fun j h1 h2 => SeqAt.EqAt.same _) X.prog X.w X.xe _ ?_
  have e : ((List.range (min us.toArray.size us.toArray.size)).all (fun _ => true) && us.toArray.size == us.toArray.size) = true := by simp
  rw [e]
  exact ⟨.bl _, H, I, rfl, q⟩
end Pw

/-! sorted of a list of tuples (int, int, text). -/
namespace Pw
open PySem PySem.Spec PyProof.Rows L2 SrtO
abbrev T3 := Int × Int × Str
def fT3 (r : T3) : List V := [.int r.1, .int r.2.1, .str r.2.2]
def lt3 (p q : T3) : Bool := if p.1 = q.1 then (if p.2.1 = q.2.1 then decide (p.2.2.cps.toList < q.2.2.cps.toList) else decide (p.2.1 < q.2.1)) else decide (p.1 < q.1)
theorem lt3_iff {p q : T3} : lt3 p q = true ↔ p.1 < q.1 ∨ (p.1 = q.1 ∧ (p.2.1 < q.2.1 ∨ (p.2.1 = q.2.1 ∧ p.2.2.cps.toList < q.2.2.cps.toList))) := by
  unfold lt3
  by_cases e : p.1 = q.1
  · rw [if_pos e]
    by_cases e2 : p.2.1 = q.2.1
    · rw [if_pos e2, decide_eq_true_eq]
      constructor
      · intro h
        exact .inr ⟨e, .inr ⟨e2, h⟩⟩
      · rintro (h | ⟨_, h | ⟨_, h⟩⟩)
        · omega
        · omega
        · exact h
    · rw [if_neg e2, decide_eq_true_eq]
      constructor
      · intro h
        exact .inr ⟨e, .inl h⟩
      · rintro (h | ⟨_, h | ⟨h, _⟩⟩)
        · omega
        · exact h
        · exact absurd h e2
  · rw [if_neg e, decide_eq_true_eq]
    constructor
    · intro h
      exact .inl h
    · rintro (h | ⟨h, _⟩)
      · exact h
      · exact absurd h e
theorem lt3_no {p q : T3} : lt3 p q = false ↔ ¬ (p.1 < q.1 ∨ (p.1 = q.1 ∧ (p.2.1 < q.2.1 ∨ (p.2.1 = q.2.1 ∧ p.2.2.cps.toList < q.2.2.cps.toList)))) := by
  rw [← lt3_iff]
  cases lt3 p q <;> simp
theorem swo3 {α : Type} (k : α → T3) : Swo fun v u => lt3 (k v) (k u) := by
  refine ⟨fun x y h => ?_, fun x y z h1 h2 => ?_⟩
  · have a := lt3_iff.mp h
    refine lt3_no.mpr ?_
    rintro (h | ⟨h0, h | ⟨h1, h⟩⟩)
    · omega
    · omega
    · rcases a with a | ⟨_, a | ⟨_, a⟩⟩
      · omega
      · omega
      · exact List.lt_asymm a h
  · have a := lt3_no.mp h1
    have b := lt3_no.mp h2
    refine lt3_no.mpr ?_
    have a1 : ¬ (k y).1 < (k x).1 := fun q => a (.inl q)
    have b1 : ¬ (k z).1 < (k y).1 := fun q => b (.inl q)
    have a2 : (k y).1 = (k x).1 → ¬ (k y).2.1 < (k x).2.1 := fun e q => a (.inr ⟨e, .inl q⟩)
    have b2 : (k z).1 = (k y).1 → ¬ (k z).2.1 < (k y).2.1 := fun e q => b (.inr ⟨e, .inl q⟩)
    have a3 : (k y).1 = (k x).1 → (k y).2.1 = (k x).2.1 → ¬ (k y).2.2.cps.toList < (k x).2.2.cps.toList := fun e e2 q => a (.inr ⟨e, .inr ⟨e2, q⟩⟩)
    have b3 : (k z).1 = (k y).1 → (k z).2.1 = (k y).2.1 → ¬ (k z).2.2.cps.toList < (k y).2.2.cps.toList := fun e e2 q => b (.inr ⟨e, .inr ⟨e2, q⟩⟩)
    rintro (h | ⟨h0, h | ⟨h1, h⟩⟩)
    · omega
    · have := a2 (by omega)
      have := b2 (by omega)
      omega
    · have := a2 (by omega)
      have := b2 (by omega)
      exact List.le_trans (List.not_lt.mp (a3 (by omega) (by omega))) (List.not_lt.mp (b3 (by omega) (by omega))) h
section
variable {prog : Program} {w : World} {A : Around} {E : Value → Shared → Prop} {s : Shared}
def IsTri (h : Heap) (v : Value) (k : T3) : Prop := ∃ a o t u z n, v = .ref a ∧ h.get? a = some o ∧ o.cls = .type "tuple" ∧ o.data = .seq #[.int k.1 t, .int k.2.1 u, .str k.2.2 z] n
theorem IsTri.keeps {h h' : Heap} {v : Value} {k : T3} (p : IsTri h v k) (kp : ∀ b o, h.get? b = some o → o.cls = .type "tuple" → h'.get? b = some o) : IsTri h' v k := by
  obtain ⟨a, o, t, u, z, n, e, ho, hc, hd⟩ := p
  exact ⟨a, o, t, u, z, n, e, kp _ _ ho hc, hc, hd⟩
theorem tri_cmp {vs : List Value} {k : Value → T3} (hp : ∀ v ∈ vs, IsTri s.heap v (k v)) : Cmp prog w A s (tuples' true) (fun p => p.1 ∈ vs) (lt2 fun v u => lt3 (k v) (k u)) := by
  intro p q hm hm'
  have h1 := hp _ hm
  have h2 := hp _ hm'
  show wpAny (model prog w) A (keyLt' (tuples' true) p.1 q.1) (fun r s' => s' = s ∧ r = lt3 (k p.1) (k q.1)) (fun _ _ => False) s
  generalize k p.1 = kp at h1 ⊢
  generalize k q.1 = kq at h2 ⊢
  obtain ⟨x, y, c⟩ := kp
  obtain ⟨x', y', c'⟩ := kq
  obtain ⟨a, o, t, u, z, n, e, ho, hc, hd⟩ := h1
  obtain ⟨a', o', t', u', z', n', e', ho', hc', hd'⟩ := h2
  rw [e, e']
  refine PySem.W.kat_lt ho hd ho' hd' ?_
  show PySem.W.KatLex prog w A true (decide (3 < 3)) _ [(.int x t, .int x' t'), (.int y u, .int y' u'), (.str c z, .str c' z')] 0 s
  have e0 : lt3 (x, y, c) (x', y', c') = if x = x' then (if y = y' then decide (c.cps.toList < c'.cps.toList) else decide (y < y')) else decide (x < x') := rfl
  rw [e0]
  refine PySem.W.kat_cons (SeqAt.EqAt.int_int x t x' t' prog w _ _ ?_)
  refine PySem.W.kat_go (fun e1 => ?_) (fun e1 => ?_)
  · have ex : x = x' := by simpa using e1
    rw [if_pos ex]
    refine PySem.W.kat_yes (PySem.W.kat_cons (SeqAt.EqAt.int_int y u y' u' prog w _ _ ?_))
    refine PySem.W.kat_go (fun e2 => ?_) (fun e2 => ?_)
    · have ey : y = y' := by simpa using e2
      rw [if_pos ey]
      refine PySem.W.kat_yes (PySem.W.kat_cons (SeqAt.EqAt.str_str c z c' z' prog w _ _ ?_))
      refine PySem.W.kat_go (fun e3 => ?_) (fun e3 => ?_)
      · have ec : c = c' := by simpa using e3
        refine PySem.W.kat_yes (PySem.W.kat_nil ⟨rfl, ?_⟩)
        rw [ec]
        exact (decide_eq_false (List.lt_irrefl _)).symm
      · exact PySem.W.kat_no (PySem.W.kat_one _ _ (PyProof.Rows.lt_str ⟨rfl, rfl⟩))
    · have ey : ¬ y = y' := by simpa using e2
      rw [if_neg ey]
      exact PySem.W.kat_no (PySem.W.kat_one _ _ (PyProof.Rows.lt_int ⟨rfl, rfl⟩))
  · have ex : ¬ x = x' := by simpa using e1
    rw [if_neg ex]
    exact PySem.W.kat_no (oneLt_int ⟨rfl, rfl⟩)
theorem firsts3 {h : Heap} {k : Value → T3} : ∀ {vs : List Value}, (∀ v ∈ vs, IsTri h v (k v)) → ∃ fs : List Value, PySem.W.KatTups h vs fs ∧ fs.length = vs.length ∧ ∀ f ∈ fs, ∃ x t, f = Value.int x t
  | [], _ => ⟨[], PySem.W.KatTups.nil, rfl, fun _ hm => by simp at hm⟩
  | v :: vs, hp => by
    obtain ⟨fs, h1, h2, h3⟩ := firsts3 (vs := vs) fun v' hm => hp v' (List.mem_cons_of_mem _ hm)
    obtain ⟨a, o, t, u, z, n, e, ho, hc, hd⟩ := hp v (List.mem_cons_self ..)
    generalize k v = kv at hd
    subst e
    refine ⟨.int kv.1 t :: fs, PySem.W.KatTups.cons ho hc hd rfl h1, by rw [List.length_cons, List.length_cons, h2], fun f hm => ?_⟩
    rcases List.mem_cons.mp hm with rfl | hm
    · exact ⟨_, t, rfl⟩
    · exact h3 f hm
theorem tris_sortable {a : Addr} {vs : List Value} {k : Value → T3} (h0 : 0 < vs.length) (hp : ∀ v ∈ vs, IsTri s.heap v (k v)) (ha : ∀ o, s.heap.get? a = some o → o.cls ≠ .type "tuple") : SortableO prog w A s a vs fun v u => lt3 (k v) (k u) := by
  intro h' keep
  have hp' : ∀ v ∈ vs, IsTri h' v (k v) := fun v hm => (hp v hm).keeps fun b o e c => keep b o (fun z => by subst z; exact ha o e c) e
  obtain ⟨fs, h1, h2, h3⟩ := firsts3 hp'
  refine ⟨tuples' true, fun Q E hq => ?_, tri_cmp hp'⟩
  refine PySem.W.kat_kind (T := .type "int") h1 (by omega) (fun f hm => ?_) (by rfl) ?_
  · obtain ⟨x, t, rfl⟩ := h3 f hm
    exact PySem.W.Looks.now
  · have e : (Value.type "int" != Value.type "tuple") = true := by first | decide +kernel | rfl | decide
    rw [e]
    exact hq
theorem sorted_tris {l : Addr} {vs : List Value} {k : Value → T3} {Q : Value → Shared → Prop} (hl : s.heap.IsList l vs.toArray) (hz : vs.length ≤ sizeLine) (hp : ∀ v ∈ vs, IsTri s.heap v (k v))
    (h : ∀ (h' : Heap) (d : Addr) (out : List Value), Srtd (fun v u => lt3 (k v) (k u)) out → Stb (fun v u => lt3 (k v) (k u)) out vs → (∀ b o, s.heap.get? b = some o → h'.get? b = some o) → s.heap.objs.size ≤ d → (∃ n, h'.get? d = some (seqObj "list" out.toArray n)) → Q (.ref d) { s with heap := h' }) :
    wpAny (model prog w) A (call (.builtin "sorted") [.ref l]) Q E s := by
  refine sorted_ord (swo3 k) hl hz (fun h2 h₁ a ha kk => ?_) fun out hs hb => ?_
  · refine tris_sortable (s := { s with heap := h₁ }) (by omega) (fun v hm => (hp v hm).keeps fun b o e _ => (kk b o e).2) fun o e => ?_
    have e' : some o = some (seqObj "list" vs.toArray 0) := e.symm.trans ha
    cases e'
    intro c
    exact absurd (Value.type.inj c) (by decide)
  · exact h _ _ out hs hb (fun b o e => sortedAll_old e) (Nat.le_succ _) (sortedAll_at s.heap vs out.toArray)
end
/-! ### the rule -/
/-- m is l in order -/
def Ord3 (l m : List T3) : Prop := Srtd lt3 m ∧ Stb lt3 m l
theorem ord3_uniq {l m1 m2 : List T3} (h1 : Ord3 l m1) (h2 : Ord3 l m2) : m1 = m2 :=
  stb_uniq (swo3 fun x : T3 => x) h1.1 h2.1 ⟨h1.2.perm.trans h2.2.perm.symm, fun x => (h1.2.cls x).trans (h2.2.cls x).symm⟩
/-- what stands at a tuple -/
def key3 (H : Hp) (v : V) : T3 := match v with
  | .ref t => (match H t with
    | some (.tup [.int a, .int b, .str c]) => (a, b, c)
    | _ => (0, 0, ""))
  | _ => (0, 0, "")
theorem key3_at {H : Hp} {t : Addr} {r : T3} (e : H t = some (.tup (fT3 r))) : key3 H (.ref t) = r := by
  unfold key3
  simp only [e, fT3]
theorem al_key {H : Hp} {xs : List V} {l : List T3} (h : Al fT3 H xs l) : xs.map (key3 H) = l := by
  induction h with
  | nil => rfl
  | cons e t ih => rw [List.map_cons, ih, key3_at e]
theorem al_of_key {H : Hp} : ∀ {ys : List V}, (∀ v ∈ ys, ∃ t r, v = .ref t ∧ H t = some (.tup (fT3 r))) → Al fT3 H ys (ys.map (key3 H))
  | [], _ => .nil
  | v :: ys, h => by
    obtain ⟨t, r, rfl, e⟩ := h v List.mem_cons_self
    rw [List.map_cons, key3_at e]
    exact .cons e (al_of_key fun u hu => h u (List.mem_cons_of_mem _ hu))
/-- sorted(xs), xs a list of tuples (int, int, text) -/
def rSort3 (K : PySem.W.Frag) : List V → Hp → VK → Prop := fun vs H Q => ∃ (a : Addr) (xs : List V) (l : List T3), vs = [V.ref a] ∧ SqL K H a xs ∧ Al fT3 H xs l ∧
  ∀ ys m p, Ord3 l m → Al fT3 H ys m → H p = none → Q (.ref p) (upd H p (.lst ys))
theorem cr_sorted3 {X : Cx} : CallR X (.builtin "sorted") (rSort3 X.K) := by
  intro pins s σ H vs us Q I r h
  obtain ⟨a, xs, l, rfl, hs, al, q⟩ := h
  obtain ⟨its, rv, hl, hz⟩ := I.list hs
  obtain ⟨u, rfl, ru⟩ := vals1 r
  obtain rfl : u = Value.ref a := ru
  have ats : ∀ x ∈ xs, ∃ t r, x = V.ref t ∧ H t = some (.tup (fT3 r)) := fun x hx => by
    obtain ⟨i, hi, e⟩ := List.getElem_of_mem hx
    obtain ⟨t, r, e1, _, e2⟩ := al.get (List.getElem?_eq_some_iff.mpr ⟨hi, e⟩)
    exact ⟨t, r, e1, e2⟩
  obtain ⟨e1, e2⟩ := refs_back rv fun x m => by
    obtain ⟨t, _, e, _⟩ := ats x m
    exact ⟨t, e⟩
  refine sorted_tris (k := fun u => key3 H (backV u)) hl.isList (by rw [← rv.length]; exact hz) (fun v hv => ?_) fun h' d out h1 h2 kp hd hn => ?_
  · obtain ⟨t, rfl⟩ := e2 v hv
    have hm : V.ref t ∈ xs := by rw [e1]; exact List.mem_map.mpr ⟨_, hv, rfl⟩
    obtain ⟨t', r, e, ht⟩ := ats _ hm
    cases e
    obtain ⟨_, its2, r2, o, ho, hc, n, hd⟩ := I.hok _ _ ht
    have ek : key3 H (backV (Value.ref t)) = r := key3_at ht
    cases r2 with
    | cons ra r2 =>
      cases r2 with
      | cons rb r2 =>
        cases r2 with
        | cons rc r2 =>
          cases r2
          obtain ⟨t1, rfl⟩ := ra
          obtain ⟨t2, rfl⟩ := rb
          obtain ⟨t3, rfl⟩ := rc
          show IsTri s.heap (.ref t) (key3 H (backV (Value.ref t)))
          rw [ek]
          exact ⟨t, o, t1, t2, t3, n, rfl, ho, hc, hd⟩
  · have h3 : ∀ u ∈ out, ∃ a, u = Value.ref a := fun u hu => e2 u (h2.perm.mem_iff.mp hu)
    obtain ⟨n, hn⟩ := hn
    have hb : Stb (fun x y => lt3 (key3 H x) (key3 H y)) (out.map backV) xs := by
      rw [e1]
      exact Stb.map (swo3 (key3 H)) backV h2
    have hsd : Srtd (fun x y => lt3 (key3 H x) (key3 H y)) (out.map backV) := srtd_map h1
    have al2 : Al fT3 H (out.map backV) ((out.map backV).map (key3 H)) := al_of_key fun v hv => ats v (hb.perm.mem_iff.mp hv)
    have ord : Ord3 l ((out.map backV).map (key3 H)) := by
      refine ⟨srtd_map hsd, ?_⟩
      have := Stb.map (swo3 fun x : T3 => x) (key3 H) hb
      rw [al_key al] at this
      exact this
    refine ⟨.ref d, upd H d (.lst (out.map backV)), I.laid (t' := s.toks) kp hd ⟨?_, out, n, vals_back h3, hn⟩, rfl, q _ _ d ord al2 (I.hok.fresh hd)⟩
    rw [hb.len]
    exact hz
end Pw

/-! sorted of a list of tuples (text, int). -/
namespace Pw
open PySem PySem.Spec PyProof.Rows L2 SrtO
abbrev TP := Str × Int
def fTP (r : TP) : List V := [.str r.1, .int r.2]
def ltp (p q : TP) : Bool := if p.1 = q.1 then decide (p.2 < q.2) else decide (p.1.cps.toList < q.1.cps.toList)
theorem str_of_cps {a b : Str} (h : a.cps.toList = b.cps.toList) : a = b := by
  cases a; cases b
  simp only [Str.mk.injEq]
  exact Array.toList_inj.mp h
theorem str_tri (a b : Str) : a.cps.toList < b.cps.toList ∨ a = b ∨ b.cps.toList < a.cps.toList := by
  by_cases h1 : a.cps.toList < b.cps.toList
  · exact .inl h1
  · by_cases h2 : b.cps.toList < a.cps.toList
    · exact .inr (.inr h2)
    · exact .inr (.inl (str_of_cps (List.le_antisymm (List.not_lt.mp h2) (List.not_lt.mp h1))))
theorem ltp_iff {p q : TP} : ltp p q = true ↔ p.1.cps.toList < q.1.cps.toList ∨ (p.1 = q.1 ∧ p.2 < q.2) := by
  unfold ltp
  by_cases e : p.1 = q.1
  · rw [if_pos e, decide_eq_true_eq, e]
    exact ⟨fun h => .inr ⟨rfl, h⟩, fun h => h.elim (fun z => absurd z (List.lt_irrefl _)) fun z => z.2⟩
  · rw [if_neg e, decide_eq_true_eq]
    exact ⟨fun h => .inl h, fun h => h.elim id fun z => absurd z.1 e⟩
theorem ltp_no {p q : TP} : ltp p q = false ↔ ¬ (p.1.cps.toList < q.1.cps.toList ∨ (p.1 = q.1 ∧ p.2 < q.2)) := by
  rw [← ltp_iff]
  cases ltp p q <;> simp
theorem swop {α : Type} (k : α → TP) : Swo fun v u => ltp (k v) (k u) := by
  refine ⟨fun x y h => ?_, fun x y z h1 h2 => ?_⟩
  · refine ltp_no.mpr ?_
    rcases ltp_iff.mp h with a | ⟨e, a⟩
    · rintro (b | ⟨e, _⟩)
      · exact List.lt_asymm a b
      · rw [e] at a; exact List.lt_irrefl _ a
    · rintro (b | ⟨_, b⟩)
      · rw [e] at b; exact List.lt_irrefl _ b
      · omega
  · have a := ltp_no.mp h1
    have b := ltp_no.mp h2
    refine ltp_no.mpr ?_
    have a1 : ¬ (k y).1.cps.toList < (k x).1.cps.toList := fun q => a (.inl q)
    have b1 : ¬ (k z).1.cps.toList < (k y).1.cps.toList := fun q => b (.inl q)
    rintro (c | ⟨e, c⟩)
    · exact List.le_trans (List.not_lt.mp a1) (List.not_lt.mp b1) c
    · rw [e] at b1
      have exy : (k x).1 = (k y).1 := str_of_cps (List.le_antisymm (List.not_lt.mp a1) (List.not_lt.mp b1))
      have a2 : ¬ (k y).2 < (k x).2 := fun q => a (.inr ⟨exy.symm, q⟩)
      have b2 : ¬ (k z).2 < (k y).2 := fun q => b (.inr ⟨e.trans exy, q⟩)
      omega
theorem eqvp {x y : TP} : eqv ltp x y = true ↔ x = y := by
  rw [eqv_iff]
  constructor
  · rintro ⟨h1, h2⟩
    have a := ltp_no.mp h1
    have b := ltp_no.mp h2
    have e1 : x.1 = y.1 := by
      rcases str_tri x.1 y.1 with h | h | h
      · exact absurd (.inl h) a
      · exact h
      · exact absurd (.inl h) b
    have a2 : ¬ x.2 < y.2 := fun q => a (.inr ⟨e1, q⟩)
    have b2 : ¬ y.2 < x.2 := fun q => b (.inr ⟨e1.symm, q⟩)
    exact Prod.ext e1 (by omega)
  · rintro rfl
    have := (swop fun z : TP => z).refl x
    exact ⟨this, this⟩
section
variable {prog : Program} {w : World} {A : Around} {E : Value → Shared → Prop} {s : Shared}
def IsTP (h : Heap) (v : Value) (k : TP) : Prop := ∃ a o t u n, v = .ref a ∧ h.get? a = some o ∧ o.cls = .type "tuple" ∧ o.data = .seq #[.str k.1 t, .int k.2 u] n
theorem IsTP.keeps {h h' : Heap} {v : Value} {k : TP} (p : IsTP h v k) (kp : ∀ b o, h.get? b = some o → o.cls = .type "tuple" → h'.get? b = some o) : IsTP h' v k := by
  obtain ⟨a, o, t, u, n, e, ho, hc, hd⟩ := p
  exact ⟨a, o, t, u, n, e, kp _ _ ho hc, hc, hd⟩
theorem tp_cmp {vs : List Value} {k : Value → TP} (hp : ∀ v ∈ vs, IsTP s.heap v (k v)) : Cmp prog w A s (tuples' true) (fun p => p.1 ∈ vs) (lt2 fun v u => ltp (k v) (k u)) := by
  intro p q hm hm'
  have h1 := hp _ hm
  have h2 := hp _ hm'
  show wpAny (model prog w) A (keyLt' (tuples' true) p.1 q.1) (fun r s' => s' = s ∧ r = ltp (k p.1) (k q.1)) (fun _ _ => False) s
  generalize k p.1 = kp at h1 ⊢
  generalize k q.1 = kq at h2 ⊢
  obtain ⟨x, y⟩ := kp
  obtain ⟨x', y'⟩ := kq
  obtain ⟨a, o, t, u, n, e, ho, hc, hd⟩ := h1
  obtain ⟨a', o', t', u', n', e', ho', hc', hd'⟩ := h2
  rw [e, e']
  refine PySem.W.kat_lt ho hd ho' hd' ?_
  show PySem.W.KatLex prog w A true (decide (2 < 2)) _ [(.str x t, .str x' t'), (.int y u, .int y' u')] 0 s
  have e0 : ltp (x, y) (x', y') = if x = x' then decide (y < y') else decide (x.cps.toList < x'.cps.toList) := rfl
  rw [e0]
  refine PySem.W.kat_cons (SeqAt.EqAt.str_str x t x' t' prog w _ _ ?_)
  refine PySem.W.kat_go (fun e1 => ?_) (fun e1 => ?_)
  · have ex : x = x' := by simpa using e1
    rw [if_pos ex]
    refine PySem.W.kat_yes (PySem.W.kat_cons (SeqAt.EqAt.int_int y u y' u' prog w _ _ ?_))
    refine PySem.W.kat_go (fun e2 => ?_) (fun e2 => ?_)
    · have ey : y = y' := by simpa using e2
      refine PySem.W.kat_yes (PySem.W.kat_nil ⟨rfl, ?_⟩)
      rw [ey]
      exact (decide_eq_false (Int.lt_irrefl _)).symm
    · exact PySem.W.kat_no (PySem.W.kat_one _ _ (PyProof.Rows.lt_int ⟨rfl, rfl⟩))
  · have ex : ¬ x = x' := by simpa using e1
    rw [if_neg ex]
    exact PySem.W.kat_no (oneLt_str ⟨rfl, rfl⟩)
theorem firstsP {h : Heap} {k : Value → TP} : ∀ {vs : List Value}, (∀ v ∈ vs, IsTP h v (k v)) → ∃ fs : List Value, PySem.W.KatTups h vs fs ∧ fs.length = vs.length ∧ ∀ f ∈ fs, ∃ x t, f = Value.str x t
  | [], _ => ⟨[], PySem.W.KatTups.nil, rfl, fun _ hm => by simp at hm⟩
  | v :: vs, hp => by
    obtain ⟨fs, h1, h2, h3⟩ := firstsP (vs := vs) fun v' hm => hp v' (List.mem_cons_of_mem _ hm)
    obtain ⟨a, o, t, u, n, e, ho, hc, hd⟩ := hp v (List.mem_cons_self ..)
    generalize k v = kv at hd
    subst e
    refine ⟨.str kv.1 t :: fs, PySem.W.KatTups.cons ho hc hd rfl h1, by rw [List.length_cons, List.length_cons, h2], fun f hm => ?_⟩
    rcases List.mem_cons.mp hm with rfl | hm
    · exact ⟨_, t, rfl⟩
    · exact h3 f hm
theorem tps_sortable {a : Addr} {vs : List Value} {k : Value → TP} (h0 : 0 < vs.length) (hp : ∀ v ∈ vs, IsTP s.heap v (k v)) (ha : ∀ o, s.heap.get? a = some o → o.cls ≠ .type "tuple") : SortableO prog w A s a vs fun v u => ltp (k v) (k u) := by
  intro h' keep
  have hp' : ∀ v ∈ vs, IsTP h' v (k v) := fun v hm => (hp v hm).keeps fun b o e c => keep b o (fun z => by subst z; exact ha o e c) e
  obtain ⟨fs, h1, h2, h3⟩ := firstsP hp'
  refine ⟨tuples' true, fun Q E hq => ?_, tp_cmp hp'⟩
  refine PySem.W.kat_kind (T := .type "str") h1 (by omega) (fun f hm => ?_) (by rfl) ?_
  · obtain ⟨x, t, rfl⟩ := h3 f hm
    exact PySem.W.Looks.now
  · have e : (Value.type "str" != Value.type "tuple") = true := by first | decide +kernel | rfl | decide
    rw [e]
    exact hq
theorem sorted_tps {l : Addr} {vs : List Value} {k : Value → TP} {Q : Value → Shared → Prop} (hl : s.heap.IsList l vs.toArray) (hz : vs.length ≤ sizeLine) (hp : ∀ v ∈ vs, IsTP s.heap v (k v))
    (h : ∀ (h' : Heap) (d : Addr) (out : List Value), Srtd (fun v u => ltp (k v) (k u)) out → Stb (fun v u => ltp (k v) (k u)) out vs → (∀ b o, s.heap.get? b = some o → h'.get? b = some o) → s.heap.objs.size ≤ d → (∃ n, h'.get? d = some (seqObj "list" out.toArray n)) → Q (.ref d) { s with heap := h' }) :
    wpAny (model prog w) A (call (.builtin "sorted") [.ref l]) Q E s := by
  refine sorted_ord (swop k) hl hz (fun h2 h₁ a ha kk => ?_) fun out hs hb => ?_
  · refine tps_sortable (s := { s with heap := h₁ }) (by omega) (fun v hm => (hp v hm).keeps fun b o e _ => (kk b o e).2) fun o e => ?_
    have e' : some o = some (seqObj "list" vs.toArray 0) := e.symm.trans ha
    cases e'
    intro c
    exact absurd (Value.type.inj c) (by decide)
  · exact h _ _ out hs hb (fun b o e => sortedAll_old e) (Nat.le_succ _) (sortedAll_at s.heap vs out.toArray)
end
/-! ### the rule -/
/-- m is l in order -/
def OrdP (l m : List TP) : Prop := Srtd ltp m ∧ Stb ltp m l
theorem ordP_uniq {l1 l2 m1 m2 : List TP} (h1 : OrdP l1 m1) (h2 : OrdP l2 m2) (p : l1.Perm l2) : m1 = m2 := by
  have hp := h1.2.perm.trans (p.trans h2.2.perm.symm)
  refine stb_uniq (swop fun x : TP => x) h1.1 h2.1 ⟨hp, fun x => ?_⟩
  have q := hp.filter (eqv ltp x)
  have e : m2.filter (eqv ltp x) = List.replicate (m2.filter (eqv ltp x)).length x := List.eq_replicate_of_mem fun y hy => (eqvp.mp (List.mem_filter.mp hy).2).symm
  rw [e] at q
  exact (List.perm_replicate.mp q).trans e.symm
def keyP (H : Hp) (v : V) : TP := match v with
  | .ref t => (match H t with
    | some (.tup [.str a, .int b]) => (a, b)
    | _ => ("", 0))
  | _ => ("", 0)
theorem keyP_at {H : Hp} {t : Addr} {r : TP} (e : H t = some (.tup (fTP r))) : keyP H (.ref t) = r := by
  unfold keyP
  simp only [e, fTP]
theorem al_keyP {H : Hp} {xs : List V} {l : List TP} (h : Al fTP H xs l) : xs.map (keyP H) = l := by
  induction h with
  | nil => rfl
  | cons e t ih => rw [List.map_cons, ih, keyP_at e]
theorem al_of_keyP {H : Hp} : ∀ {ys : List V}, (∀ v ∈ ys, ∃ t r, v = .ref t ∧ H t = some (.tup (fTP r))) → Al fTP H ys (ys.map (keyP H))
  | [], _ => .nil
  | v :: ys, h => by
    obtain ⟨t, r, rfl, e⟩ := h v List.mem_cons_self
    rw [List.map_cons, keyP_at e]
    exact .cons e (al_of_keyP fun u hu => h u (List.mem_cons_of_mem _ hu))
/-- sorted(xs), xs a list of tuples (text, int) -/
def rSortP (K : PySem.W.Frag) : List V → Hp → VK → Prop := fun vs H Q => ∃ (a : Addr) (xs : List V) (l : List TP), vs = [V.ref a] ∧ SqL K H a xs ∧ Al fTP H xs l ∧
  ∀ ys m p, OrdP l m → Al fTP H ys m → H p = none → Q (.ref p) (upd H p (.lst ys))
theorem cr_sortedPq {X : Cx} : CallR X (.builtin "sorted") (rSortP X.K) := by
  intro pins s σ H vs us Q I r h
  obtain ⟨a, xs, l, rfl, hs, al, q⟩ := h
  obtain ⟨its, rv, hl, hz⟩ := I.list hs
  obtain ⟨u, rfl, ru⟩ := vals1 r
  obtain rfl : u = Value.ref a := ru
  have ats : ∀ x ∈ xs, ∃ t r, x = V.ref t ∧ H t = some (.tup (fTP r)) := fun x hx => by
    obtain ⟨i, hi, e⟩ := List.getElem_of_mem hx
    obtain ⟨t, r, e1, _, e2⟩ := al.get (List.getElem?_eq_some_iff.mpr ⟨hi, e⟩)
    exact ⟨t, r, e1, e2⟩
  obtain ⟨e1, e2⟩ := refs_back rv fun x m => by
    obtain ⟨t, _, e, _⟩ := ats x m
    exact ⟨t, e⟩
  refine sorted_tps (k := fun u => keyP H (backV u)) hl.isList (by rw [← rv.length]; exact hz) (fun v hv => ?_) fun h' d out h1 h2 kp hd hn => ?_
  · obtain ⟨t, rfl⟩ := e2 v hv
    have hm : V.ref t ∈ xs := by rw [e1]; exact List.mem_map.mpr ⟨_, hv, rfl⟩
    obtain ⟨t', r, e, ht⟩ := ats _ hm
    cases e
    obtain ⟨_, its2, r2, o, ho, hc, n, hd⟩ := I.hok _ _ ht
    have ek : keyP H (backV (Value.ref t)) = r := keyP_at ht
    cases r2 with
    | cons ra r2 =>
      cases r2 with
      | cons rb r2 =>
        cases r2
        obtain ⟨t1, rfl⟩ := ra
        obtain ⟨t2, rfl⟩ := rb
        show IsTP s.heap (.ref t) (keyP H (backV (Value.ref t)))
        rw [ek]
        exact ⟨t, o, t1, t2, n, rfl, ho, hc, hd⟩
  · have h3 : ∀ u ∈ out, ∃ a, u = Value.ref a := fun u hu => e2 u (h2.perm.mem_iff.mp hu)
    obtain ⟨n, hn⟩ := hn
    have hb : Stb (fun x y => ltp (keyP H x) (keyP H y)) (out.map backV) xs := by
      rw [e1]
      exact Stb.map (swop (keyP H)) backV h2
    have hsd : Srtd (fun x y => ltp (keyP H x) (keyP H y)) (out.map backV) := srtd_map h1
    have al2 : Al fTP H (out.map backV) ((out.map backV).map (keyP H)) := al_of_keyP fun v hv => ats v (hb.perm.mem_iff.mp hv)
    have ord : OrdP l ((out.map backV).map (keyP H)) := by
      refine ⟨srtd_map hsd, ?_⟩
      have := Stb.map (swop fun x : TP => x) (keyP H) hb
      rw [al_keyP al] at this
      exact this
    refine ⟨.ref d, upd H d (.lst (out.map backV)), I.laid (t' := s.toks) kp hd ⟨?_, out, n, vals_back h3, hn⟩, rfl, q _ _ d ord al2 (I.hok.fresh hd)⟩
    rw [hb.len]
    exact hz
end Pw

/-! sorted of a dict with number keys, of any number. -/
namespace Pw
open PySem PySem.Spec PyProof.Rows L2
/-- what sorted(d) asks of a dict whose keys are numbers -/
def rSortD : List V → Hp → VK → Prop := fun xs H Q => ∃ (a : Addr) (kvs : List (Key × V)) (ks : List Int), xs = [.ref a] ∧ Rd H a (.dK kvs) ∧
  kvs.map Prod.fst = ks.map Sum.inl ∧ ks.length ≤ 1000000 ∧
  ∀ (ys : List Int) (p : Addr), ys.Perm ks → ys.Pairwise (· ≤ ·) → H p = none → Q (.ref p) (upd H p (.lst (ys.map V.int)))
theorem cr_sortD {X : Cx} (calm : X.calm = true) : CallR X (.builtin "sorted") rSortD := by
  intro pins st σ H xs us Q I rel0 hq
  obtain ⟨a, kvs, ks, rfl, hrd, hkeys, hsm, hq⟩ := hq
  have small : ks.length ≤ sizeLine := Nat.le_trans hsm (by decide)
  obtain ⟨u, rfl, ru⟩ := vals1 rel0
  obtain rfl : u = Value.ref a := ru
  obtain ⟨_, low, vs, rel, there⟩ := dk_rd I.hok hrd
  obtain ⟨ep, at_⟩ := there.dictAt
  have names : vs.map Prod.fst = ks.map Sum.inl := Eq.trans rel.keys.symm hkeys
  have many : vs.length = ks.length := by
    have := congrArg List.length names
    simpa using this
  refine Calls.call_function_entry PyProof.Rows.kind_sorted PyProof.Rows.plain_sorted
    PyProof.Rows.entry_sorted (PyProof.Rows.args_sorted1 _) ?_
  unfold Builtin.«sorted»
  refine wpAny_bind (m := checkCount "sorted" 1 1 _) (wpAny_pure (wpAny_bind ?_))
  refine PySem.W.kdu_collect (A := X.A.in1)
    (PySem.W.kdl_dict (knd := mixKind X.prog X.w) (kvs := vs) (ep := ep) low) (I.ok.hd calm) at_
    (by rw [many]; exact small) fun h1 tk got keep hgot => ?_
  have lgot : got.toList.length = ks.length := by
    rw [Array.length_toList, hgot.1]
    exact many
  have nums : IntsAre got.toList ks := by
    refine ints_each lgot fun j v ej => ?_
    obtain ⟨k, _, q1, q2⟩ := hgot.2 j v ((Array.getElem?_toList).symm.trans ej)
    have q3 : (ks.map (Sum.inl (β := Str)))[j]? = some k := by
      rw [← names, List.getElem?_map, q1]
      rfl
    rw [List.getElem?_map] at q3
    cases q4 : ks[j]? with
    | none => simp [q4] at q3
    | some y =>
      simp only [q4, Option.map_some, Option.some.injEq] at q3
      subst q3
      rcases keyIs_shape (show keyIs (Sum.inl y) v = true from q2) with ⟨i, t, ek, ev⟩ | ⟨_, _, ek, _⟩
      · cases ek
        exact ⟨_, t, rfl, ev⟩
      · cases ek
  have J : Inv X pins σ H { st with heap := h1, toks := tk } := I.kept keep
  have fits : got.toList.length ≤ sizeLine := by
    rw [lgot]
    exact small
  refine wpAny_bind (wpAny_newList ?_ fits)
  have laid_ : (h1.push (seqObj "list" got.toList.toArray 0)).get? h1.objs.size =
    some (seqObj "list" got.toList.toArray 0) := Heap.get?_push_size _ rfl
  show wpAny _ _ _ _ _
    { st with heap := h1.push (seqObj "list" got.toList.toArray 0), toks := tk }
  refine wpAny_bind (wpAny_holding (wpAny_call_entry PyProof.Rows.slot_list_sort
    ⟨_, laid_, rfl⟩ PyProof.Rows.entry_list_sort ?_ (PyProof.Rows.args_list_sort _)))
  refine SrtO.list_sort_ord SrtO.swo_int laid_ fits (fun h2 => SrtO.ints_sortable nums h2)
    fun out g1 g2 => ⟨_, rfl, ?_⟩
  obtain ⟨z1, z2, z3⟩ := SrtO.ints_out nums g1 g2
  obtain ⟨e', at'⟩ := PyProof.Rows.sortedHeap_at (vs := got.toList) (out := out.toArray) laid_
  have fits2 : ((out.map SrtO.iv).map V.int).length ≤ sizeLine := by
    rw [List.length_map, z2.length_eq]
    exact small
  refine wpAny_pure ⟨_, rfl, .ref h1.objs.size, upd H h1.objs.size (.lst ((out.map SrtO.iv).map V.int)), ?_, rfl, ?_⟩
  · refine J.laid (t' := tk) (fun b u e => ?_) (Nat.le_refl _) ⟨fits2, out, e', vals_of_ints z1, at'⟩
    have lt : b < h1.objs.size := Heap.lt_size e
    refine (PyProof.Rows.sortedHeap_old (Nat.ne_of_lt lt) ?_).trans (Heap.get?_push_of_some _ e)
    rw [size_push']
    exact Nat.lt_succ_of_lt lt
  · exact hq _ _ z2 z3 (J.hok.fresh (Nat.le_refl _))
end Pw

set_option maxHeartbeats 8000000
/-! Dicts whose keys are tuples: made of a list of pairs, and by a comprehension. -/
namespace Pw
open PySem PySem.Spec PyProof.Rows L2
abbrev TK := List (List Key × V)
/-- put one after another -/
def mergeT (acc : TK) (more : TK) : TK := more.foldl (fun d kv => putK d kv.1 kv.2) acc
theorem mergeT_len : ∀ (more acc : TK), (mergeT acc more).length ≤ acc.length + more.length
  | [], acc => Nat.le_refl _
  | kv :: more, acc => by
    have h1 := mergeT_len more (putK acc kv.1 kv.2)
    have h2 := length_putK acc kv.1 kv.2
    show (mergeT (putK acc kv.1 kv.2) more).length ≤ _
    rw [List.length_cons]
    omega
/-- a pair (key, value) of the list: where the key's tuple lies -/
structure PrT (K : PySem.W.Frag) (H : Hp) (p : Addr) (b : Addr) (kv : List Key × V) : Prop where
  pr : SqT K H p [.ref b, kv.2]
  key : H b = some (.tup (kv.1.map kV))
section
variable {X : Cx}
theorem prT_rows {pins : List (Addr × Obj)} {σ : L2.St} {H : Hp} {s : Shared} (I : Inv X pins σ H s) : ∀ {ps bs : List Addr} {kvs : TK}, ps.length = kvs.length → bs.length = kvs.length → (∀ (j : Nat) (p b : Addr) (kv : List Key × V), ps[j]? = some p → bs[j]? = some b → kvs[j]? = some kv → PrT X.K H p b kv) →
    ∃ xs : List (List Key × Addr × Value), KT H kvs xs ∧ xs.length = ps.length ∧ ∀ (j : Nat) (x : List Key × Addr × Value), xs[j]? = some x → ∃ p, ps[j]? = some p ∧ IsTup s.heap p #[.ref x.2.1, x.2.2]
  | [], _, [], _, _, _ => ⟨[], .nil, rfl, fun j x e => by simp at e⟩
  | [], _, _ :: _, h, _, _ => by simp at h
  | _ :: _, _, [], h, _, _ => by simp at h
  | _ :: _, [], _ :: _, _, h, _ => by simp at h
  | p :: ps, b :: bs, kv :: kvs, h1, h2, h => by
    obtain ⟨xs, r1, r2, r3⟩ := prT_rows I (ps := ps) (bs := bs) (kvs := kvs) (by simpa using h1) (by simpa using h2) (fun j p b kv e1 e2 e3 => h (j + 1) p b kv (by simpa using e1) (by simpa using e2) (by simpa using e3))
    have hp := h 0 p b kv rfl rfl rfl
    obtain ⟨its, rv, ht, _⟩ := I.tuple hp.pr
    obtain ⟨u, y, rfl, ru, ry⟩ := vals2 rv
    obtain rfl : u = Value.ref b := ru
    refine ⟨(kv.1, b, y) :: xs, .cons ⟨rfl, hp.key, ry⟩ r1, by rw [List.length_cons, List.length_cons, r2], fun j x e => ?_⟩
    cases j with
    | zero => cases (show some (kv.1, b, y) = some x from e); exact ⟨p, rfl, ht⟩
    | succ j =>
      obtain ⟨q, e1, e2⟩ := r3 j x (by simpa using e)
      exact ⟨q, by simpa using e1, e2⟩
theorem KT.all {H : Hp} : ∀ {more acc : TK} {xs ys : List (List Key × Addr × Value)}, KT H acc xs → KT H more ys → KT H (mergeT acc more) (PySem.storedAllH xs ys)
  | _, _, _, _, r, .nil => r
  | _, _, _, _, r, .cons (a := kv) (b := q) h t => by
    obtain ⟨e1, e2, e3⟩ := h
    have := KT.all (KT.put r kv.1 e2 e3) t
    show KT H (mergeT (putK _ kv.1 kv.2) _) (List.foldl _ (PySem.storedH _ q.1 q.2.1 q.2.2) _)
    rw [← e1]
    exact this
/-- dict(xs), xs a list of pairs whose keys are tuples -/
theorem call_dictT (hc : X.calm = true) (hu : X.A.units + 64 < cLine) : CallR X (.type "dict") (fun vs H Q => ∃ (a : Addr) (ps bs : List Addr) (kvs : TK), vs = [.ref a] ∧ SqL X.K H a (ps.map V.ref) ∧ ps.length = kvs.length ∧ bs.length = kvs.length ∧
    (∀ (j : Nat) (p b : Addr) (kv : List Key × V), ps[j]? = some p → bs[j]? = some b → kvs[j]? = some kv → PrT X.K H p b kv) ∧ ∀ d, H d = none → Q (.ref d) (upd H d (.dT (mergeT [] kvs)))) := by
  intro pins s σ H vs us Q I r h
  obtain ⟨a, ps, bs, kvs, rfl, hq, l1, l2, hp, q⟩ := h
  obtain ⟨u, rfl, ru⟩ := vals1 r
  obtain rfl : u = Value.ref a := ru
  obtain ⟨its, rv, pl, hz⟩ := I.list hq
  obtain rfl := refs_at rv
  rw [List.length_map] at hz
  obtain ⟨xs, rel, lx, hx⟩ := prT_rows I l1 l2 hp
  have keyOk : ∀ x ∈ xs, H x.2.1 = some (.tup (x.1.map kV)) := by
    have g : ∀ {kvs : TK} {xs : List (List Key × Addr × Value)}, KT H kvs xs → ∀ x ∈ xs, H x.2.1 = some (.tup (x.1.map kV)) := by
      intro kvs xs r
      induction r with
      | nil => intro x hx; cases hx
      | cons h _ ih =>
        intro x hx
        rcases List.mem_cons.mp hx with rfl | hx
        · rw [← h.1]; exact h.2.1
        · exact ih x hx
    exact g rel
  generalize hpp : xs.map (fun x => (Value.ref x.2.1, x.2.2)) = pp
  have lp : pp.length = ps.length := by rw [← hpp, List.length_map, lx]
  have ok : PySem.PlainSeq "list" s.heap a (ps.map Value.ref).toArray ∧ PySem.PairItems s.heap (ps.map Value.ref).toArray (fun j => ps.getD j 0) pp := by
    refine ⟨?_, by simp [lp], fun j k v hj => ?_⟩
    · obtain ⟨o, n, ho, hcl, hd, hdat⟩ := pl
      exact ⟨o, n, ho, hcl, hd, hdat⟩
    · rw [← hpp, List.getElem?_map] at hj
      cases hxj : xs[j]? with
      | none => rw [hxj] at hj; cases hj
      | some x =>
        rw [hxj] at hj
        cases hj
        obtain ⟨p, e1, e2⟩ := hx j x hxj
        have ed : ps.getD j 0 = p := by rw [List.getD_eq_getElem?_getD, e1]; rfl
        show (List.map Value.ref ps).toArray[j]? = some (Value.ref (ps.getD j 0)) ∧ PySem.PairAt s.heap (ps.getD j 0) (Value.ref x.2.1) x.2.2
        rw [ed]
        refine ⟨by simp [e1], .inl ?_⟩
        obtain ⟨o, ho, hcl, n, hdat⟩ := e2
        exact ⟨o, ho, hcl, n, hdat⟩
  refine PySem.call_dict_pairsH (knd := tupleKind (mixKind X.prog X.w)) (ps := xs) (PySem.PairArg.list a (ps.map Value.ref).toArray (fun j => ps.getD j 0) pp) (I.ok.hd hc) ?_ ok ⟨by rw [lp, lx], fun i key v e => ?_⟩ (fun h' hk x hxm => ?_) (by rw [lp]; exact hz) fun h' tk hd' hk => ?_
  · exact tupleKind_room_in1 (A := X.A.in1) (by show X.A.units + 1 + 1 < cLine; omega)
  · have e' : pp[i]? = some (key, v) := e
    rw [← hpp, List.getElem?_map] at e'
    cases hxj : xs[i]? with
    | none => rw [hxj] at e'; cases e'
    | some x =>
      rw [hxj] at e'
      cases e'
      exact ⟨x.1, x.2.1, rfl, rfl⟩
  · have I' := I.kept (t' := s.toks) (h' := h') fun b o e => hk b o (Nat.ne_of_lt (Heap.lt_size e)) (fun z => nomatch z) e
    exact key_of I'.hok (keyOk x hxm)
  · have hd0 : (s.heap.objs.size == sysModules) = false := beq_eq_false_iff_ne.mpr (Nat.ne_of_gt I.big)
    have hl : (mergeT [] kvs).length ≤ sizeLine := by
      have := mergeT_len kvs []
      rw [List.length_nil, Nat.zero_add, ← l1] at this
      omega
    have nD : H s.heap.objs.size = none := I.hok.fresh (Nat.le_refl _)
    obtain ⟨q', es, ep, g1, g2, g3, g4, _, g5⟩ := hd'
    refine ⟨.ref s.heap.objs.size, upd H s.heap.objs.size (.dT (mergeT [] kvs)), I.laid (t' := tk) (fun b o e => hk b o (fun z => nomatch z) e) (Nat.le_refl _) ?_, rfl, q _ nD⟩
    refine ⟨hl, hd0, _, (KT.all .nil rel).keeps fun b ys e => ?_, q', es, ep, g1, g2, g3, g4, g5⟩
    rw [upd_ne (ne_of_none e nD)]
    exact e
end
end Pw

set_option maxHeartbeats 8000000
/-! A dict comprehension whose keys are tuples. -/
namespace Pw
open PySem PySem.Spec PyProof.Rows L2
/-- dictSet with a tuple as the key -/
theorem dT_put {X : Cx} {pins : List (Addr × Obj)} {σ : L2.St} {H : Hp} {s : Shared} {E : Value → Shared → Prop} {D b : Addr} {kvs : TK} {k : List Key} {v : V} {r : Value} {Q : Unit → Shared → Prop} (hu : X.A.units + 1 < cLine) (I : Inv X pins σ H s)
    (eD : H D = some (.dT kvs)) (eb : H b = some (.tup (k.map kV))) (small : kvs.length < sizeLine) (rv : RelV v r) (go : ∀ s', Inv X pins σ (upd H D (.dT (putK kvs k v))) s' → Q () s') :
    wpAny (model X.prog X.w) X.A (dictSet D (.ref b) r) Q E s := by
  obtain ⟨_, nsys, xs, rel, isD⟩ := dt_of I.hok eD
  have few : xs.length ≤ sizeLine := by
    have := Paired.length rel
    omega
  have more := length_putK kvs k v
  refine wpAny_dictSet_heap (hsz := few) (show (tupleKind (mixKind X.prog X.w)).room X.A from (by show X.A.units < cLine; omega)) (key_of I.hok eb) isD fun hp isD' but => go _ ?_
  obtain ⟨o, es, ep, ho, r1, r2, r3, _, r5⟩ := isD'
  have stay : ∀ c ys, H c = some (.tup ys) → upd H D (.dT (putK kvs k v)) c = some (.tup ys) := fun c ys ec => by
    by_cases z : c = D
    · rw [z, eD] at ec
      cases ec
    · rw [upd_ne z]
      exact ec
  exact d_write I (by rw [eD]; exact True.intro) but ⟨o, ho⟩ ⟨by omega, nsys, _, (rel.put k eb rv).keeps stay, o, es, ep, ho, r1, r2, r3, r5⟩
/-- {k: v for target in iter if ..}, keys tuples of ints and texts: D the new dict -/
def tDcT (wi : TI) (g : TG) (tt : L2.TT) (tk tv : TE) (vs : List Nat) : TE := fun σ H Q => wi σ H fun J H1 => ∀ D, H1 D = none →
  ∃ W : Nat → Nat → Hp → Prop, (∃ m, W 0 m (upd H1 D (.dT []))) ∧ ∀ i m G, W i m G → (J.stop i G ∧ Q (.ref D) G) ∨ (J.go i G ∧ ∃ Nx : Hp → Prop, (∀ G', Nx G' → ∃ m', m' < m ∧ W (i + 1) m' G') ∧
    ∀ x G', J.yld i G x G' → g x (wipe σ vs) G' fun τ G2 => wipe τ vs = wipe σ vs ∧ tt τ G2 fun c G3 => if c = true then tk τ G3 fun y G4 => tv τ G4 fun z G5 =>
      ∃ kvs k b, y = .ref b ∧ G5 b = some (.tup (k.map kV)) ∧ G5 D = some (.dT kvs) ∧ kvs.length < sizeLine ∧ Nx (upd G5 D (.dT (putK kvs k z))) else Nx G3)
section
variable {X : Cx}
theorem pe_dcT {kx vx tg iter : Expr} {ifs : List Expr} {scope : Scope} {own : List (Str × Nat)} {pos : Pos} {wi : TI} {g : TG} {tt : L2.TT} {tk tv : TE} (hu : X.A.units + 1 < cLine) (hc : X.calm = true) (nd : X.N.Nodup) (pi : PI X tg iter wi) (bk : BlkOk X.N X.env.scope scope own)
    (fg : ∀ (s : Shared) (H : Hp) (C : Addr) (cl : List (Str × Addr)) (fp : List Addr), PG (X.blk s H scope (compEnvC scope cl C X.env) fp) tg g)
    (ft : ∀ (s : Shared) (H : Hp) (C : Addr) (cl : List (Str × Addr)) (fp : List Addr), PTs (X.blk s H scope (compEnvC scope cl C X.env) fp) ifs tt)
    (fk : ∀ (s : Shared) (H : Hp) (C : Addr) (cl : List (Str × Addr)) (fp : List Addr), PE (X.blk s H scope (compEnvC scope cl C X.env) fp) kx tk)
    (fv : ∀ (s : Shared) (H : Hp) (C : Addr) (cl : List (Str × Addr)) (fp : List Addr), PE (X.blk s H scope (compEnvC scope cl C X.env) fp) vx tv)
    (fold : ∀ x, foldedSetIterable iter X.env x = pure x := by intro _; rfl) : PE X (.DictComp kx vx [⟨tg, iter, ifs, 0⟩] scope pos) (tDcT wi g tt tk tv (own.map (·.2))) := by
  refine ⟨fun pins s σ H Q I want => ?_⟩
  rw [arm_eval_DictComp]
  have cells : ∀ y ∈ scope.names, y.2 = .free → ∃ c, X.env.cells.lookup y.1 = some c := fun y hy e => by
    rcases bk.free y hy e with z | z <;> exact I.ok.has _ (by first | exact .inl z | exact .inr z)
  refine wpAny_comprehension_free rfl fold (closure_ok cells) bk.kind (fun y hy e => by rw [bk.uniq y hy, e]) (thn (pi.run pins s σ H _ I want) fun xv sa ha => thn ha fun itv sb hb => ?_)
  obtain ⟨it, fp, tn, J, Hb, rfl, Ib, Tn, at0, fpOk, dict⟩ := hb
  -- the new dict
  refine wpAny_newObj_type (newEnv_comp ?_)
  generalize eD : sb.heap.objs.size = D
  have freeD : Hb D = none := Ib.hok.fresh (Nat.le_of_eq eD)
  obtain ⟨W, ⟨m0, start⟩, each⟩ := dict D freeD
  have below : ∀ b ∈ fp, b < sb.heap.objs.size := fun b hb => by
    obtain ⟨_, e, _⟩ := Tn.obj _ _ at0 b hb
    exact Heap.lt_size e
  have pushed : ∀ b o, sb.heap.get? b = some o → (sb.heap.push { cls := .type "dict", data := .dict #[] }).get? b = some o := fun b o e => Heap.get?_push_of_some _ e
  generalize ec : ({ sb with heap := sb.heap.push { cls := .type "dict", data := .dict #[] } } : Shared) = sc
  have hsc : sc.heap = sb.heap.push { cls := .type "dict", data := .dict #[] } := by rw [← ec]
  have Ic : Inv X pins σ (upd Hb D (.dT [])) sc := by
    rw [← ec]
    exact Ib.laid (t' := sb.toks) pushed (Nat.le_of_eq eD) (by rw [← eD]; exact dt_empty sb.heap Ib.big)
  have fpc : ∀ b ∈ fp, FpOk X pins (upd Hb D (.dT [])) b ∧ b < sc.heap.objs.size := fun b hb => by
    have lt := below b hb
    have ne : b ≠ D := by rw [← eD]; exact Nat.ne_of_lt lt
    exact ⟨⟨(upd_ne ne).trans (fpOk b hb).1, (fpOk b hb).2⟩, by rw [hsc, Heap.size_push]; exact Nat.lt_succ_of_lt lt⟩
  have atc : tn 0 sc.heap := Tn.keep _ _ _ at0 fun b _ o e => by rw [hsc]; exact pushed b o e
  have Ie := block_start Ic bk nd fpc
  generalize hcl : cellsFrom (sc.heap.objs.size + 1) scope.names (cloFrom X.env.cells scope.names []) = cl at Ie
  have g1 := fg sc (upd Hb D (.dT [])) sc.heap.objs.size cl fp
  have g2 := ft sc (upd Hb D (.dT [])) sc.heap.objs.size cl fp
  have g3 := fk sc (upd Hb D (.dT [])) sc.heap.objs.size cl fp
  have g4 := fv sc (upd Hb D (.dT [])) sc.heap.objs.size cl fp
  have no : ∀ b ∈ fp, upd Hb D (.dT []) b = none := fun b hb => (fpc b hb).1.1
  show codeAny _ _ (.compStart _ 0 (.ref it) (.ref D) (compEnvC scope cl sc.heap.objs.size X.env)) (compPost (model X.prog X.w) X.A X.xe none (EP X pins σ Q) (.ref D) sc.heap.objs.size) _
  have cenv : (compEnvC scope cl sc.heap.objs.size X.env).locals = sc.heap.objs.size := rfl
  generalize compEnvC scope cl sc.heap.objs.size X.env = ce at *
  generalize upd Hb D (.dT []) = Hc at *
  generalize es : ({ sc with heap := pushCells (sc.heap.push { cls := .type "dict", data := .dict #[] }) scope.names } : Shared) = se at Ie ⊢
  have ate : tn 0 se.heap := Tn.keep _ _ _ atc fun b _ o e => by rw [← es]; exact pushCells_keeps _ _ _ _ (Heap.get?_push_of_some _ e)
  -- what the iterator lies on is pinned
  have lain : ∀ {τ : L2.St} {G : Hp} {t : Shared}, Inv (X.blk sc Hc scope ce fp) [] τ G t → (∀ b ∈ fp, G b = none) → ∀ b ∈ fp, FpOk (X.blk sc Hc scope ce fp) [] G b := fun {_ _ _} It none b hb =>
    ⟨none b hb, (It.ok.exf b hb).1, It.ok.exfs b hb, .inl hb, fun x c e => (It.ok.exf b hb).2 x c e, fun p hp => by simp at hp⟩
  let St : Nat → Shared → Prop := fun n t => ∃ i G, W i n G ∧ tn i t.heap ∧ (∀ b ∈ fp, G b = none) ∧ Inv (X.blk sc Hc scope ce fp) [] (wipe σ (own.map (·.2))) G t
  have body : codeAny (model X.prog X.w) X.A (.compLoop (.DictComp kx vx [⟨tg, iter, ifs, 0⟩] scope pos) 0 (.ref it) (.ref D) ce) (compPost (model X.prog X.w) X.A X.xe none (EP X pins σ Q) (.ref D) sc.heap.objs.size) se := by
    refine compLoop_anyD St (fun n t ⟨i, G, w, at1, no1, It⟩ => ?_) m0 ⟨0, Hc, start, ate, no, Ie⟩
    rcases each i n G w with ⟨stop, last⟩ | ⟨goes, Nx, next, turn⟩
    · refine thnF (Tn.done (X.blk sc Hc scope ce fp) rfl rfl rfl hc i [] t _ G (fun _ _ => False) It (lain It no1) at1 stop) fun r u ⟨er, Iu⟩ => ?_
      subst er
      have Io : Inv X pins σ G u := Ic.call' (ch := fp) Iu.os Iu.base Iu.hok Iu.bare fun b hb => let f := (fpc b hb).1.2; ⟨f.2.2.1, f.1, f.2.2.2.1, f.2.2.2.2⟩
      have gone : G ce.locals = none := Iu.free
      obtain ⟨m, ns, _⟩ := Iu.loc
      have ns' : u.heap.Ns ce.locals m := ns
      rw [cenv] at gone ns'
      refine ⟨m, ns', fun h'' sb' => ?_⟩
      obtain ⟨f0, f1, f2, f3, f4, f5⟩ := Ic.fpOk (Nat.le_refl _) gone
      exact ⟨.ref D, G, Io.turned (t' := u.toks) (fun b o hb e => (sb'.2 b hb).trans e) f0 f1 f3 f4 f5, rfl, last⟩
    · refine thnF (Tn.item (X.blk sc Hc scope ce fp) rfl rfl rfl hc i [] t _ G (fun _ _ => False) It (lain It no1) at1 goes) fun r u ⟨v, er, next1⟩ => ?_
      subst er
      refine thnF next1 fun _ u ⟨x, G', Iu, rx, yld, at2, no2⟩ => ?_
      refine thnF (g1.run _ u _ G' x v _ (Iu.pinned (lain Iu no2) (Tn.obj _ _ at2)) rx (turn x G' yld)) fun _ u2 ⟨τ, G2, I2, same, q2⟩ => ?_
      refine thnF (g2.run _ u2 τ G2 _ I2 q2) fun c u3 ⟨G3, I3, q3⟩ => ?_
      have back : ∀ {t' : Shared} {G' : Hp}, Inv (X.blk sc Hc scope ce fp) ([] ++ pinsAt fp u.heap) τ G' t' → Nx G' → ∃ m, m < n ∧ St m t' := fun {t' G'} I' nx => by
        obtain ⟨m', less, w'⟩ := next G' nx
        have pinned : ∀ b ∈ fp, ∀ o, u.heap.get? b = some o → t'.heap.get? b = some o ∧ G' b = none := fun b hb o e => by
          have z := I'.pin (b, o) (List.mem_append_right _ (List.mem_append_right _ (mem_pinsAt hb e)))
          exact ⟨z.1, z.2.1⟩
        refine ⟨m', less, i + 1, G', w', Tn.keep _ _ _ at2 fun b hb o e => (pinned b hb o e).1, fun b hb => ?_, (I'.unpinned (pins := [])).weak ?_ fun j v e => ?_⟩
        · obtain ⟨o, e, _⟩ := Tn.obj _ _ at2 b hb
          exact (pinned b hb o e).2
        · have := congrArg List.length same
          rw [wipe_length] at this
          exact this.symm
        · rw [← same] at e
          exact (wipe_some e).1
      cases c with
      | false =>
        simp only [Bool.false_eq_true, if_false] at q3
        exact back I3 q3
      | true =>
        have q3' := q3
        simp only [if_true] at q3'
        refine thnF (g3.run _ u3 τ G3 _ I3 q3') fun kv u4 ⟨y, G4, I4, ry, q4⟩ => ?_
        refine thnF (g4.run _ u4 τ G4 _ I4 q4) fun vv u5 ⟨z, G5, I5, rz, kvs, k, b, ey, eb, eD5, few, nx⟩ => ?_
        subst ey
        obtain rfl : kv = Value.ref b := ry
        exact dT_put (X := X.blk sc Hc scope ce fp) hu I5 eD5 eb few rz fun u6 I6 => back I6 nx
  exact codeAny_compStart_dict body (Tn.self X.A 0 _ _ _ ate body)
end
end Pw
namespace Pw
open PySem PySem.Spec PyProof.Rows L2
section
variable {J : It} {n : Nat} {G : Hp → Prop} {Y : Nat → Hp → V → Hp → Prop} {g : TG} {tt : L2.TT} {tk tv : TE} {vs : List Nat} {σ : L2.St} {H1 : Hp} {D : Addr} {Qd : Hp → Prop}
/-- over any walk, all but the dict staying: R i d H, d the dict behind i turns -/
theorem dcT_acc (w : Walk J n G Y) (nD : H1 D = none) (hn : n ≤ 1000000) (R : Nat → TK → Hp → Prop) (r0 : R 0 [] H1) (hG : ∀ H, Same H1 H → G H)
    (step : ∀ i x H H' d, i < n → Same H1 H → H D = some (.dT d) → d.length ≤ i → R i d (wo H D) → Y i H x H' → ∀ (Fy : V → V → Hp → Prop) (Fn : Hp → Prop),
      (∀ k b z H5, Same H H5 → H5 b = some (.tup (k.map kV)) → R (i + 1) (putK d k z) (wo H5 D) → Fy (.ref b) z H5) → (∀ H3, Same H H3 → R (i + 1) d (wo H3 D) → Fn H3) →
      g x (wipe σ vs) H' fun τ H2 => wipe τ vs = wipe σ vs ∧ tt τ H2 fun c H3 => if c = true then tk τ H3 fun y H4 => tv τ H4 fun z H5 => Fy y z H5 else Fn H3)
    (fin : ∀ H d, Same H1 H → H D = some (.dT d) → R n d (wo H D) → Qd H) :
    ∃ W : Nat → Nat → Hp → Prop, (∃ m, W 0 m (upd H1 D (.dT []))) ∧ ∀ i m H, W i m H → (J.stop i H ∧ Qd H) ∨ (J.go i H ∧ ∃ Nx : Hp → Prop, (∀ H', Nx H' → ∃ m', m' < m ∧ W (i + 1) m' H') ∧
      ∀ x H', J.yld i H x H' → g x (wipe σ vs) H' fun τ H2 => wipe τ vs = wipe σ vs ∧ tt τ H2 fun c H3 => if c = true then tk τ H3 fun y H4 => tv τ H4 fun z H5 =>
        ∃ kvs k b, y = .ref b ∧ H5 b = some (.tup (k.map kV)) ∧ H5 D = some (.dT kvs) ∧ kvs.length < sizeLine ∧ Nx (upd H5 D (.dT (putK kvs k z))) else Nx H3) := by
  have big : 1000000 < sizeLine := by decide
  let P : Nat → Hp → Prop := fun i H => Same H1 H ∧ ∃ d, H D = some (.dT d) ∧ d.length ≤ i ∧ R i d (wo H D)
  refine ⟨fun i m H => i + m = n ∧ P i H, ⟨n, Nat.zero_add n, Same.laid nD, [], upd_same, Nat.le_refl _, by rw [wo_upd, wo_none nD]; exact r0⟩, ?_⟩
  rintro i m H ⟨him, S, d, eD, dl, r⟩
  cases m with
  | zero =>
    obtain rfl : i = n := him
    exact .inl ⟨w.stops H (hG H S), fin H d S eD r⟩
  | succ m =>
    have lt : i < n := by omega
    refine .inr ⟨w.goes i H lt (hG H S), P (i + 1), fun H' p => ⟨m, Nat.lt_succ_self m, by omega, p⟩, fun x H' y => ?_⟩
    refine step i x H H' d lt S eD dl r (w.yields i H x H' lt (hG H S) y) (fun y z H5 => ∃ kvs k b, y = .ref b ∧ H5 b = some (.tup (k.map kV)) ∧ H5 D = some (.dT kvs) ∧ kvs.length < sizeLine ∧ P (i + 1) (upd H5 D (.dT (putK kvs k z)))) (P (i + 1)) (fun k b z H5 S5 eb r5 => ?_) fun H3 S3 r3 => ?_
    · have more := length_putK d k z
      exact ⟨d, k, b, rfl, eb, S5 _ _ eD, by omega, Same.wo_upd (S.trans S5) nD, _, upd_same, by omega, by rw [wo_upd]; exact r5⟩
    · exact ⟨S.trans S3, d, S3 _ _ eD, by omega, r3⟩
end
end Pw

/-! sorted of a dict whose keys are tuples (text, int). -/
namespace Pw
open PySem PySem.Spec PyProof.Rows L2 SrtO
def kTP (r : TP) : List Key := [.inr r.1, .inl r.2]
theorem kTP_map (r : TP) : (kTP r).map kV = fTP r := rfl
/-- what sorted(d) asks of a dict whose keys are tuples (text, int) -/
def rSortT : List V → Hp → VK → Prop := fun xs H Q => ∃ (a : Addr) (kvs : TK) (l : List TP), xs = [.ref a] ∧ Rd H a (.dT kvs) ∧
  kvs.map Prod.fst = l.map kTP ∧
  ∀ (ys : List V) (m : List TP) (p : Addr), OrdP l m → Al fTP H ys m → H p = none → Q (.ref p) (upd H p (.lst ys))
theorem al_of_isKeys {H : Hp} : ∀ {kvs : TK} {bs : List Addr} {l : List TP}, IsKeys H kvs bs → kvs.map Prod.fst = l.map kTP → Al fTP H (bs.map V.ref) l
  | [], _, [], .nil, _ => .nil
  | [], _, _ :: _, .nil, e => by simp at e
  | kv :: kvs, _, [], .cons _ _, e => by simp at e
  | kv :: kvs, _, r :: l, .cons (b := b) h t, e => by
    have e1 : kv.1 = kTP r := by simpa using (List.cons.inj e).1
    have e2 : kvs.map Prod.fst = l.map kTP := (List.cons.inj e).2
    refine .cons ?_ (al_of_isKeys t e2)
    rw [h, e1, kTP_map]
theorem cr_sortedT {X : Cx} (calm : X.calm = true) : CallR X (.builtin "sorted") rSortT := by
  intro pins s σ H xs us Q I rel0 hq
  obtain ⟨a, kvs, l, rfl, hrd, hkeys, q⟩ := hq
  obtain ⟨u, rfl, ru⟩ := vals1 rel0
  obtain rfl : u = Value.ref a := ru
  obtain ⟨z, hs, ks, pr, o, es, ep, ho, hx, hdt, he, hn⟩ := (show ObjOk X.prog X.w H s.heap a (.dT kvs) from hrd.ok I.hok)
  have l1 : es.size = ks.length := size_of_entries he
  have l2 : kvs.length = ks.length := Paired.length pr
  have al := al_of_isKeys (isKeys_of pr) hkeys
  refine Calls.call_function_entry PyProof.Rows.kind_sorted PyProof.Rows.plain_sorted
    PyProof.Rows.entry_sorted (PyProof.Rows.args_sorted1 _) ?_
  unfold Builtin.«sorted»
  refine wpAny_bind (m := checkCount "sorted" 1 1 _) (wpAny_pure (wpAny_bind ?_))
  refine PySem.W.kdu_collect (A := X.A.in1) (kdl_raw hs hx hdt) (I.ok.hd calm) ho (by omega) fun h1 tk got keep it => ?_
  have ea : got.toList = ks.map fun x => Value.ref x.2.1 := by
    have hl : got.toList.length = ks.length := by rw [Array.length_toList, it.1]; exact l1
    apply List.ext_getElem?
    intro j
    rw [List.getElem?_map]
    cases hj : got.toList[j]? with
    | none =>
      have h1 := List.getElem?_eq_none_iff.mp hj
      rw [List.getElem?_eq_none (by omega)]
      all_goals rfl
    | some v =>
      obtain ⟨en, hen, hv⟩ := it.2 j v (by rw [← Array.getElem?_toList]; exact hj)
      have qe := entry_at he j
      rw [hen] at qe
      cases hb : ks[j]? with
      | none =>
        rw [hb] at qe
        exact nomatch (show some en = none from qe)
      | some b =>
        rw [hb] at qe
        have e2 : en = entryOfKey (tupleKind (mixKind X.prog X.w)) b := Option.some.inj qe
        rw [hv, e2]
        all_goals rfl
  have eb : got.toList = (ks.map fun x => x.2.1).map Value.ref := by rw [ea, List.map_map]; all_goals rfl
  generalize ks.map (fun x => x.2.1) = bs at al eb
  have lb : bs.length = ks.length := by
    have := congrArg List.length eb
    rw [ea] at this
    simpa using this.symm
  have J : Inv X pins σ H { s with heap := h1, toks := tk } := I.kept keep
  have fits : got.toList.length ≤ sizeLine := by
    rw [eb, List.length_map, lb]
    omega
  refine wpAny_bind (wpAny_newList ?_ fits)
  have laid_ : (h1.push (seqObj "list" got.toList.toArray 0)).get? h1.objs.size =
    some (seqObj "list" got.toList.toArray 0) := Heap.get?_push_size _ rfl
  show wpAny _ _ _ _ _
    { s with heap := h1.push (seqObj "list" got.toList.toArray 0), toks := tk }
  refine wpAny_bind (wpAny_holding (wpAny_call_entry PyProof.Rows.slot_list_sort
    ⟨_, laid_, rfl⟩ PyProof.Rows.entry_list_sort ?_ (PyProof.Rows.args_list_sort _)))
  have ats : ∀ v ∈ got.toList, IsTP h1 v (keyP H (backV v)) := fun v hv => by
    rw [eb] at hv
    obtain ⟨b, hb, rfl⟩ := List.mem_map.mp hv
    obtain ⟨i, hi, e⟩ := List.getElem_of_mem (List.mem_map.mpr ⟨b, hb, rfl⟩ : V.ref b ∈ bs.map V.ref)
    obtain ⟨t', r, e1, _, ht⟩ := al.get (List.getElem?_eq_some_iff.mpr ⟨hi, e⟩)
    cases e1
    obtain ⟨_, its2, r2, o, ho, hc, n, hd⟩ := J.hok _ _ ht
    have ek : keyP H (backV (Value.ref b)) = r := keyP_at ht
    cases r2 with
    | cons ra r2 =>
      cases r2 with
      | cons rb r2 =>
        cases r2
        obtain ⟨t1, rfl⟩ := ra
        obtain ⟨t2, rfl⟩ := rb
        rw [ek]
        exact ⟨b, o, t1, t2, n, rfl, ho, hc, hd⟩
  have keepTo : ∀ {v : Value} {k : TP}, IsTP h1 v k → IsTP (h1.push (seqObj "list" got.toList.toArray 0)) v k := fun p => p.keeps fun b o e _ => Heap.get?_push_of_some _ e
  refine SrtO.list_sort_ord (swop (fun u => keyP H (backV u))) laid_ fits (fun h2 => ?_)
    fun out g1 g2 => ⟨_, rfl, ?_⟩
  · refine tps_sortable (by omega) (fun v hv => keepTo (ats v hv)) fun o' e => ?_
    have e' : some o' = some (seqObj "list" got.toList.toArray 0) := e.symm.trans laid_
    cases e'
    intro c
    exact absurd (Value.type.inj c) (by decide)
  · obtain ⟨e', at'⟩ := PyProof.Rows.sortedHeap_at (vs := got.toList) (out := out.toArray) laid_
    have isr : ∀ u ∈ out, ∃ a, u = Value.ref a := fun u hu => by
      have hm := g2.perm.mem_iff.mp hu
      rw [eb] at hm
      obtain ⟨b, _, rfl⟩ := List.mem_map.mp hm
      exact ⟨b, rfl⟩
    have exs : got.toList.map backV = bs.map V.ref := by rw [eb, List.map_map]; all_goals rfl
    have hb : Stb (fun x y => ltp (keyP H x) (keyP H y)) (out.map backV) (bs.map V.ref) := by
      rw [← exs]
      exact Stb.map (swop (keyP H)) backV g2
    have hsd : Srtd (fun x y => ltp (keyP H x) (keyP H y)) (out.map backV) := srtd_map g1
    have al2 : Al fTP H (out.map backV) ((out.map backV).map (keyP H)) := al_of_keyP fun v hv => by
      have hm := hb.perm.mem_iff.mp hv
      obtain ⟨i, hi, e⟩ := List.getElem_of_mem hm
      obtain ⟨t', r, e1, _, ht⟩ := al.get (List.getElem?_eq_some_iff.mpr ⟨hi, e⟩)
      exact ⟨t', r, e1, ht⟩
    have ord : OrdP l ((out.map backV).map (keyP H)) := by
      refine ⟨srtd_map hsd, ?_⟩
      have := Stb.map (swop fun x : TP => x) (keyP H) hb
      rw [al_keyP al] at this
      exact this
    have fits2 : (out.map backV).length ≤ sizeLine := by
      rw [hb.len, List.length_map, lb]
      omega
    refine wpAny_pure ⟨_, rfl, .ref h1.objs.size, upd H h1.objs.size (.lst (out.map backV)), ?_, rfl, ?_⟩
    · refine J.laid (t' := tk) (fun b u e => ?_) (Nat.le_refl _) ⟨fits2, out, e', vals_back isr, at'⟩
      have lt : b < h1.objs.size := Heap.lt_size e
      refine (PyProof.Rows.sortedHeap_old (Nat.ne_of_lt lt) ?_).trans (Heap.get?_push_of_some _ e)
      rw [size_push']
      exact Nat.lt_succ_of_lt lt
    · exact q _ _ _ ord al2 (J.hok.fresh (Nat.le_refl _))
end Pw

namespace V45
open PySem PySem.Spec PyProof.Rows L2 Pw
/-! ### a hearing -/
def hef (wa hd hl : V) : List (Str × V) := [("_works", wa), ("_heard", hd), ("_hands", hl)]
section
variable {wa hd hl : V}
theorem hef_works : (hef wa hd hl).lookup ("_works" : Str) = some wa := lk_eq
theorem hef_heard : (hef wa hd hl).lookup ("_heard" : Str) = some hd := (lk_ne (by decide +kernel)).trans lk_eq
theorem hef_hands : (hef wa hd hl).lookup ("_hands" : Str) = some hl := (lk_ne (by decide +kernel)).trans ((lk_ne (by decide +kernel)).trans lk_eq)
theorem hef_no {m : Str} (h1 : (m == ("_works" : Str)) = false) (h2 : (m == ("_heard" : Str)) = false) (h3 : (m == ("_hands" : Str)) = false) : (hef wa hd hl).lookup m = none :=
  (lk_ne h1).trans ((lk_ne h2).trans ((lk_ne h3).trans rfl))
end
/-- the class, as the head finds it -/
structure HeC (K : PySem.W.Frag) (D : Addr) : Prop where
  cl : Cls K D
  nW : NoAttr K D "_works"
  nH : NoAttr K D "_heard"
  nL : NoAttr K D "_hands"
/-- a letter that was heard, and where it lies -/
abbrev LA := Lt × Addr
def ky (x : LA) : TP := (x.1.pl, x.1.no)
def kvT (ls : List LA) : TK := ls.map fun x => (kTP (ky x), V.ref x.2)
/-- a hand -/
structure Hd where
  nm : Str
  w : Int
  a : Int
  b : Int
def fHd (h : Hd) : List V := [.str h.nm, .int h.w, .int h.a, .int h.b]
structure HeAt (D : Addr) (H : Hp) (p wa hd hl : Addr) (ls : List LA) (hs : List Hd) : Prop where
  ex : ∃ dx vs, H p = some (.ins D dx (hef (.ref wa) (.ref hd) (.ref hl))) ∧ H hd = some (.dT (kvT ls)) ∧ H hl = some (.lst vs) ∧ Al fHd H vs hs
  at_ : ∀ x ∈ ls, LtAt H x.2 x.1
  nd : (ls.map ky).Nodup
  few : ls.length ≤ 1000
  fewH : hs.length ≤ 1000
section
variable {D : Addr} {H H' : Hp} {p wa hd hl : Addr} {ls : List LA} {hs : List Hd}
theorem HeAt.same (h : HeAt D H p wa hd hl ls hs) (S : Same H H') : HeAt D H' p wa hd hl ls hs :=
  let ⟨dx, vs, e1, e2, e3, al⟩ := h.ex
  ⟨⟨dx, vs, S _ _ e1, S _ _ e2, S _ _ e3, al.same S⟩, fun x m => (h.at_ x m).same S, h.nd, h.few, h.fewH⟩
theorem kvT_keys : (kvT ls).map Prod.fst = (ls.map ky).map kTP := by
  unfold kvT
  rw [List.map_map, List.map_map]
  rfl
theorem kTP_inj {a b : TP} (h : kTP a = kTP b) : a = b := by
  obtain ⟨a1, a2⟩ := a
  obtain ⟨b1, b2⟩ := b
  unfold kTP at h
  injection h with h1 h2
  injection h2 with h2 _
  exact Prod.ext (Sum.inr.inj h1) (Sum.inl.inj h2)
/-- what the dict has at a key -/
def lkK (ls : List LA) (k : TP) : Option LA := ls.find? fun x => decide (ky x = k)
theorem lkK_val (k : TP) : valV (kvT ls) (kTP k) = (lkK ls k).map fun x => V.ref x.2 := by
  unfold valV lkK kvT
  induction ls with
  | nil => rfl
  | cons x r ih =>
    rw [List.map_cons, List.find?_cons, List.find?_cons]
    by_cases h : ky x = k
    · subst h
      simp
    · have h2 : ¬ kTP (ky x) = kTP k := fun z => h (kTP_inj z)
      rw [decide_eq_false h, decide_eq_false h2]
      exact ih
theorem lkK_some {k : TP} {x : LA} (h : lkK ls k = some x) : x ∈ ls ∧ ky x = k := by
  unfold lkK at h
  have := List.find?_some h
  exact ⟨List.mem_of_find?_eq_some h, of_decide_eq_true this⟩
theorem lkK_none {k : TP} (h : lkK ls k = none) : k ∉ ls.map ky := fun m => by
  obtain ⟨x, hx, e⟩ := List.mem_map.mp m
  exact (List.find?_eq_none.mp h x hx) (decide_eq_true e)
theorem ky_inj : ∀ {ls : List LA} {x y : LA}, (ls.map ky).Nodup → x ∈ ls → y ∈ ls → ky x = ky y → x = y
  | [], _, _, _, h, _, _ => by cases h
  | z :: r, x, y, nd, hx, hy, e => by
    obtain ⟨n1, n2⟩ := List.nodup_cons.mp (show (ky z :: r.map ky).Nodup from nd)
    rcases List.mem_cons.mp hx with hx | hx
    · rcases List.mem_cons.mp hy with hy | hy
      · rw [hx, hy]
      · exact absurd (List.mem_map.mpr ⟨y, hy, by rw [← e, hx]⟩) n1
    · rcases List.mem_cons.mp hy with hy | hy
      · exact absurd (List.mem_map.mpr ⟨x, hx, by rw [e, hy]⟩) n1
      · exact ky_inj n2 hx hy e
theorem lkK_mem {x : LA} (nd : (ls.map ky).Nodup) (h : x ∈ ls) : lkK ls (ky x) = some x := by
  cases e : lkK ls (ky x) with
  | none => exact absurd (List.mem_map.mpr ⟨x, h, rfl⟩) (lkK_none e)
  | some y =>
    obtain ⟨m, ey⟩ := lkK_some e
    rw [ky_inj nd m h ey]
theorem putK_newT {k : TP} {v : V} (h : k ∉ ls.map ky) : putK (kvT ls) (kTP k) v = kvT ls ++ [(kTP k, v)] := by
  unfold putK
  rw [if_neg]
  intro z
  obtain ⟨kv, hm, e⟩ := List.any_eq_true.mp z
  obtain ⟨x, hx, rfl⟩ := List.mem_map.mp hm
  exact h (List.mem_map.mpr ⟨x, hx, kTP_inj (of_decide_eq_true e)⟩)
end
section
variable {P : Program} {w : World} {K : PySem.W.Frag} {mg : Str → Option Value} {base : Heap} {C D : Addr}
theorem put_endH {f g : Str} {v x : V} (h : (g == f) = false) : putF f v [(g, x)] = [(g, x), (f, v)] := by
  rw [put_ne h]
  rfl
def spHeInit (C D : Addr) (K : PySem.W.Frag) : Sp := fun vs H Q _ => ∃ p dx wa W ps, vs = [.ref p, .ref wa] ∧ H p = some (.ins D dx []) ∧ WoP K C H wa W ps ∧
  ∀ hd hl H', HeAt D H' p wa hd hl [] [] → (∀ b o, b ≠ p → H b = some o → H' b = some o) → H hd = none → H hl = none → Q .non H'
theorem d_heInit (W : HeC K D) {f : Addr} {fd : FuncData} (hm : mg "Hearing" = some (.ref D)) (M : Mk K D f) (F : Fun K "__init__" "Hearing.__init__" mHearing_Init f fd)
    (dc : Def P w K mg base "check_works" 1 ["thing"] (spWorksC C K)) : DefI P w K mg base "Hearing" D 3 ["self", "works"] (spHeInit C D K) := by
  refine mkDefI hm M F scmHearing_Init (fun _ _ _ _ _ _ us hl => match us, hl with | [_, _], _ => rfl) (fun vs H Q E ⟨_, _, _, _, _, e, _⟩ => by rw [e]; rfl)
    (fun f cdv A out s H vs Q E hr h => ?_)
  obtain ⟨p, dx, wa, Wk, ps, rfl, ep, hw, k⟩ := h
  refine ⟨_, (pss_cons (ps_expr (pe_d dc hr (by decide) (by rfl) (pa_cons (pv 1) pa_nil)))
    (pss_cons (ps_fld (pv 0) (pv 1) rfl)
    (pss_cons (ps_fld (pv 0) pe_dnewT rfl)
    (pss_one (ps_fld (pv 0) (pe_lst pa_nil) rfl))))), ?_⟩
  refine ⟨_, rfl, wa, Wk, rfl, hw.wo, ?_⟩
  refine ⟨_, rfl, _, rfl, p, D, dx, _, rfl, ep, W.cl, W.nW, by show 0 < 1000; decide, ?_⟩
  generalize q2 : upd H p (.ins D dx (putF "_works" (.ref wa) [])) = H2
  have e2 : H2 p = some (.ins D dx [("_works", .ref wa)]) := q2 ▸ upd_same
  have T2 : ∀ b o, b ≠ p → H b = some o → H2 b = some o := fun b o n e => by rw [← q2, upd_ne n]; exact e
  have N2 : ∀ b, H2 b = none → H b = none := fun b e => by
    by_cases z : b = p
    · rw [z, e2] at e; cases e
    · rw [← q2, upd_ne z] at e; exact e
  refine fun hd nd => ?_
  have np : hd ≠ p := fun z => by rw [z, e2] at nd; cases nd
  generalize q3 : upd H2 hd (.dT []) = H3
  have e3 : H3 p = some (.ins D dx [("_works", .ref wa)]) := by rw [← q3, upd_ne (Ne.symm np)]; exact e2
  have e3d : H3 hd = some (.dT []) := q3 ▸ upd_same
  have T3 : ∀ b o, b ≠ p → H b = some o → H3 b = some o := fun b o n e => by
    have := T2 b o n e
    rw [← q3, upd_ne (ne_of_none this nd)]
    exact this
  refine ⟨_, rfl, p, D, dx, _, rfl, e3, W.cl, W.nH, by show 1 < 1000; decide, ?_⟩
  rw [put_endH (by decide +kernel)]
  generalize q4 : upd H3 p (.ins D dx [("_works", .ref wa), ("_heard", .ref hd)]) = H4
  have e4 : H4 p = some (.ins D dx [("_works", .ref wa), ("_heard", .ref hd)]) := q4 ▸ upd_same
  have e4d : H4 hd = some (.dT []) := by rw [← q4, upd_ne np]; exact e3d
  have T4 : ∀ b o, b ≠ p → H b = some o → H4 b = some o := fun b o n e => by rw [← q4, upd_ne n]; exact T3 b o n e
  refine ⟨by show 0 ≤ sizeLine; decide, fun hl nl => ?_⟩
  have lp : hl ≠ p := fun z => by rw [z, e4] at nl; cases nl
  have ld : hl ≠ hd := fun z => by rw [z, e4d] at nl; cases nl
  refine ⟨_, rfl, p, D, dx, _, rfl, (upd_ne (Ne.symm lp)).trans e4, W.cl, W.nL, by show 2 < 1000; decide, ?_⟩
  rw [put_ne (by decide +kernel), put_endH (by decide +kernel)]
  refine k hd hl _ ⟨⟨dx, [], upd_same, (upd_ne np).trans ((upd_ne (Ne.symm ld)).trans e4d), (upd_ne lp).trans upd_same, .nil⟩, fun x m => (by cases m), List.nodup_nil, Nat.zero_le _, Nat.zero_le _⟩ (fun b o n e => ?_) (N2 _ nd) ?_
  · have := T4 b o n e
    exact (upd_ne n).trans ((upd_ne (ne_of_none this nl)).trans this)
  · cases z : H hl with
    | none => rfl
    | some o => rw [T4 hl o lp z] at nl; cases nl
end
end V45

/-! Lists in the order of a number of their own. -/
namespace Pw
section
variable {α : Type} (f : α → Int)
def insF (x : α) : List α → List α
  | [] => [x]
  | y :: r => if f x < f y then x :: y :: r else y :: insF x r
def srtF (l : List α) : List α := l.foldr (insF f) []
theorem insF_perm (x : α) : ∀ l : List α, (insF f x l).Perm (x :: l)
  | [] => List.Perm.refl _
  | y :: r => by
    unfold insF
    split
    · exact List.Perm.refl _
    · exact ((insF_perm x r).cons y).trans (List.Perm.swap x y r)
theorem srtF_perm : ∀ l : List α, (srtF f l).Perm l
  | [] => List.Perm.refl _
  | x :: r => (insF_perm f x (srtF f r)).trans ((srtF_perm r).cons x)
theorem insF_le {x : α} : ∀ {l : List α}, l.Pairwise (fun a b => f a ≤ f b) → (insF f x l).Pairwise fun a b => f a ≤ f b
  | [], _ => List.pairwise_singleton _ _
  | y :: r, h => by
    obtain ⟨h1, h2⟩ := List.pairwise_cons.mp h
    unfold insF
    split
    · rename_i lt
      refine List.pairwise_cons.mpr ⟨fun z hz => ?_, h⟩
      rcases List.mem_cons.mp hz with rfl | hz
      · exact Int.le_of_lt lt
      · exact Int.le_trans (Int.le_of_lt lt) (h1 z hz)
    · rename_i ge
      refine List.pairwise_cons.mpr ⟨fun z hz => ?_, insF_le h2⟩
      rcases List.mem_cons.mp ((insF_perm f x r).mem_iff.mp hz) with rfl | hz
      · exact Int.not_lt.mp ge
      · exact h1 z hz
theorem srtF_le : ∀ l : List α, (srtF f l).Pairwise fun a b => f a ≤ f b
  | [] => .nil
  | x :: r => insF_le f (srtF_le r)
theorem lt_of_le : ∀ {l : List α}, (l.map f).Nodup → l.Pairwise (fun a b => f a ≤ f b) → l.Pairwise fun a b => f a < f b
  | [], _, _ => .nil
  | x :: r, nd, h => by
    obtain ⟨n1, n2⟩ := List.nodup_cons.mp (show (f x :: r.map f).Nodup from nd)
    obtain ⟨h1, h2⟩ := List.pairwise_cons.mp h
    refine List.pairwise_cons.mpr ⟨fun z hz => ?_, lt_of_le n2 h2⟩
    have a := h1 z hz
    have b : f x ≠ f z := fun e => n1 (e ▸ List.mem_map.mpr ⟨z, hz, rfl⟩)
    omega
theorem srtF_lt {l : List α} (nd : (l.map f).Nodup) : (srtF f l).Pairwise fun a b => f a < f b :=
  lt_of_le f (((srtF_perm f l).map f).nodup_iff.mpr nd) (srtF_le f l)
theorem lt_uniq : ∀ {xs ys : List α}, (∀ x, x ∈ xs ↔ x ∈ ys) → xs.Pairwise (fun a b => f a < f b) → ys.Pairwise (fun a b => f a < f b) → xs = ys
  | [], [], _, _, _ => rfl
  | [], y :: ys, p, _, _ => absurd ((p y).mpr List.mem_cons_self) (List.not_mem_nil)
  | x :: xs, [], p, _, _ => absurd ((p x).mp List.mem_cons_self) (List.not_mem_nil)
  | x :: xs, y :: ys, p, h1, h2 => by
    obtain ⟨a1, a2⟩ := List.pairwise_cons.mp h1
    obtain ⟨b1, b2⟩ := List.pairwise_cons.mp h2
    have e : x = y := by
      rcases List.mem_cons.mp ((p x).mp List.mem_cons_self) with h | h
      · exact h
      · rcases List.mem_cons.mp ((p y).mpr List.mem_cons_self) with h' | h'
        · exact h'.symm
        · have := b1 x h; have := a1 y h'; omega
    subst e
    congr 1
    refine lt_uniq (fun z => ⟨fun hz => ?_, fun hz => ?_⟩) a2 b2
    · rcases List.mem_cons.mp ((p z).mp (List.mem_cons_of_mem _ hz)) with e | h
      · have := a1 z hz; rw [e] at this; omega
      · exact h
    · rcases List.mem_cons.mp ((p z).mpr (List.mem_cons_of_mem _ hz)) with e | h
      · have := b1 z hz; rw [e] at this; omega
      · exact h
/-- in order is in order, whatever the order before -/
theorem srtF_uniq {l xs : List α} (nd : (l.map f).Nodup) (m : ∀ x, x ∈ xs ↔ x ∈ l) (h : xs.Pairwise fun a b => f a < f b) : xs = srtF f l :=
  lt_uniq f (fun x => (m x).trans (srtF_perm f l).mem_iff.symm) h (srtF_lt f nd)
end
end Pw

namespace V45
open PySem PySem.Spec PyProof.Rows L2 Pw SrtO
/-- a field, within a comprehension -/
theorem pe_fldK {X : Cx} {e : Expr} {f : Str} {pos : Pos} {ta : TE} {K : PySem.W.Frag} (hK : X.K = K) (he : PE X e ta) (hb : attributeBase e f X.env (eval e X.env) = eval e X.env) : PE X (.Attribute e f pos) (tFld K ta f) :=
  hK ▸ pe_fld he hb
/-! ### the letters of a place, in the order of their numbers -/
def noF (x : LA) : Int := x.1.no
def atPl (pl : Str) (x : LA) : Bool := decide (x.1.pl = pl)
def ofPl (ls : List LA) (pl : Str) : List LA := srtF noF (ls.filter (atPl pl))
theorem nd_no {ls : List LA} {pl : Str} (nd : (ls.map ky).Nodup) : ((ls.filter (atPl pl)).map noF).Nodup := by
  induction ls with
  | nil => exact List.nodup_nil
  | cons x r ih =>
    obtain ⟨n1, n2⟩ := List.nodup_cons.mp (show (ky x :: r.map ky).Nodup from nd)
    rw [List.filter_cons]
    split
    · rename_i h
      refine List.nodup_cons.mpr ⟨fun m => ?_, ih n2⟩
      obtain ⟨y, hy, e⟩ := List.mem_map.mp m
      obtain ⟨hy1, hy2⟩ := List.mem_filter.mp hy
      refine n1 (List.mem_map.mpr ⟨y, hy1, ?_⟩)
      exact Prod.ext ((of_decide_eq_true hy2).trans (of_decide_eq_true h).symm) e
    · exact ih n2
theorem ofPl_mem {ls : List LA} {pl : Str} {x : LA} : x ∈ ofPl ls pl ↔ x ∈ ls ∧ x.1.pl = pl := by
  unfold ofPl
  rw [(srtF_perm noF _).mem_iff, List.mem_filter]
  exact and_congr Iff.rfl ⟨of_decide_eq_true, decide_eq_true⟩
theorem ofPl_len {ls : List LA} {pl : Str} : (ofPl ls pl).length ≤ ls.length := by
  unfold ofPl
  rw [(srtF_perm noF _).length_eq]
  exact List.length_filter_le _ _
/-- the keys in order, those of a place, what lies there -/
theorem pick_eq {ls : List LA} {m : List TP} {pl : Str} (nd : (ls.map ky).Nodup) (o : OrdP (ls.map ky) m) : (m.filter fun k => decide (k.1 = pl)).filterMap (lkK ls) = ofPl ls pl := by
  have pm := o.2.perm
  have ndm : m.Nodup := pm.nodup_iff.mpr nd
  refine srtF_uniq noF (nd_no nd) (fun x => ?_) ?_
  · rw [List.mem_filterMap, List.mem_filter]
    constructor
    · rintro ⟨k, hk, e⟩
      obtain ⟨hk1, hk2⟩ := List.mem_filter.mp hk
      obtain ⟨h1, h2⟩ := lkK_some e
      refine ⟨h1, decide_eq_true ?_⟩
      have := of_decide_eq_true hk2
      rw [← h2] at this
      exact this
    · rintro ⟨h1, h2⟩
      exact ⟨ky x, List.mem_filter.mpr ⟨pm.mem_iff.mpr (List.mem_map.mpr ⟨x, h1, rfl⟩), h2⟩, lkK_mem nd h1⟩
  · rw [List.pairwise_filterMap, List.pairwise_filter]
    refine (o.1.and ndm).imp fun {a b} h ha hb x hx y hy => ?_
    obtain ⟨_, ex⟩ := lkK_some hx
    obtain ⟨_, ey⟩ := lkK_some hy
    have ea := of_decide_eq_true ha
    have eb := of_decide_eq_true hb
    obtain ⟨h1, h2⟩ := h
    have h3 := ltp_no.mp h1
    have e1 : b.1 = a.1 := eb.trans ea.symm
    have h4 : ¬ b.2 < a.2 := fun z => h3 (.inr ⟨e1, z⟩)
    have h5 : a.2 ≠ b.2 := fun z => h2 (Prod.ext e1.symm z)
    have e2 : noF x = a.2 := by rw [← ex]; rfl
    have e3 : noF y = b.2 := by rw [← ey]; rfl
    omega
section
variable {P : Program} {w : World} {K : PySem.W.Frag} {mg : Str → Option Value} {base : Heap} {C D : Addr}
def spLtsOf (D : Addr) : Sp := fun vs H Q _ => ∃ p wa hd hl ls hs pl, vs = [.ref p, .str pl] ∧ HeAt D H p wa hd hl ls hs ∧
  ∀ l H', Same H H' → H l = none → H' l = some (.lst ((ofPl ls pl).map fun x => V.ref x.2)) → Q (.ref l) H'
theorem d_ltsOf (T : Txt mg) (W : HeC K D) (A : AtMt K D "_letters_of" "Hearing._letters_of" mHearing_LettersOf) : DefM P w K mg base D "_letters_of" 1 ["self", "place"] (spLtsOf D) := by
  refine mkDefM A scmHearing_LettersOf (fun _ _ _ _ _ _ us hl => match us, hl with | [_, _], _ => rfl) (fun vs H Q E ⟨_, _, _, _, _, _, _, e, _⟩ => by rw [e]; rfl)
    (fun f cdv A out s H vs Q E hr h => ?_)
  obtain ⟨p, wa, hd, hl, ls, hs, pl, rfl, he, k⟩ := h
  have hu : (A.deeper (envOfC "Hearing._letters_of" (defScope mHearing_LettersOf) s.heap.objs.size f cdv)).units + 1 < cLine := hu_of hr
  refine ⟨_, (pss_one (ps_ret (pe_lc (own := [("key", 2)]) (g := gName 2) rfl scmHearing_LettersOf.nd (pi_sq (pe_callB (cr_sortedT rfl) (by rfl) T.sorted (by decide +kernel) (pa_cons (pe_fld (pv 0) rfl) pa_nil)))
        (blkOk_by (own := [("key", 2)]) (N := ["self", "place", "key"]) (sc := defScope mHearing_LettersOf) (by decide +kernel))
        (fun _ _ _ _ _ => (pg_name (i := 2) scmHearing_LettersOf.nd rfl (.inl rfl))) (fun _ _ _ _ _ => (pts_one (pt_cmpR op_eq (pe_ix (r := rIxT K) ix_tup (pv 2) pe_int (fun _ _ => rfl)) (pv 1) (nomark _))))
        (fun _ _ _ _ _ => (pe_dget hu (pe_fldK (K := K) rfl (pv 0) rfl) (pv 2) (fun _ _ => rfl)))))), ?_⟩
  obtain ⟨dx, vs, e1, e2, e3, _⟩ := he.ex
  refine ⟨_, rfl, p, D, dx, _, _, rfl, e1, W.cl, W.nH, hef_heard, hd, _, ls.map ky, rfl, .inl e2, kvT_keys, fun ys m q ord al nq => ?_⟩
  have S1 := Same.laid (o := HO.lst ys) nq
  have eq1 : upd H q (.lst ys) q = some (.lst ys) := upd_same
  have al1 := al.same S1
  generalize upd H q (.lst ys) = H1 at *
  have lm : m.length = ls.length := by rw [ord.2.perm.length_eq, List.length_map]
  have few := he.few
  refine ⟨q, ys, rfl, .inl (SqL.of eq1), fun J G hG wk D' nD => ?_⟩
  have hlen := al.length
  refine lc_acc wk nD (by omega) (fun i acc _ => acc = (((m.take i).filter fun k => decide (k.1 = pl)).filterMap (lkK ls)).map fun x => V.ref x.2) rfl hG ?_ ?_
  · rintro i v G0 G acc hi S eD hl' rfl ⟨rfl, hx⟩ Fy Fn hy1 hy2
    obtain ⟨t, r, rfl, hr', et⟩ := (al1.same S).get hx
    have em : m.take (i + 1) = m.take i ++ [r] := by rw [List.take_add_one, hr']; rfl
    rw [em, List.filter_append, List.filterMap_append, List.map_append] at hy1 hy2
    refine ⟨rfl, ?_⟩
    refine ⟨_, rfl, t, _, 0, .str r.1, rfl, rfl, SqT.of et, rfl, _, rfl, rfl, _, rfl, ?_⟩
    rw [str_dec]
    have he' := he.same (S1.trans S)
    obtain ⟨dx', vs', e1', e2', _⟩ := he'.ex
    by_cases h : r.1 = pl
    · rw [decide_eq_true h]
      obtain ⟨x, hx1, hx2⟩ := List.mem_map.mp (ord.2.perm.mem_iff.mp (List.mem_of_getElem? hr'))
      have eL : lkK ls r = some x := hx2 ▸ lkK_mem he.nd hx1
      have eg : DGet G hd (.ref t) (some (.ref x.2)) := by
        have := DGet.t e2' (b := t) (k := kTP r) et
        rw [lkK_val, eL] at this
        exact this
      refine iteT ⟨_, rfl, p, D, dx', _, _, rfl, e1', W.cl, W.nH, hef_heard, _, rfl, hd, _, rfl, eg, hy1 _ _ (Same.refl _) ?_⟩
      simp [h, eL]
    · rw [decide_eq_false h]
      refine iteF (hy2 _ (Same.refl _) ?_)
      simp [h]
  rintro H2 acc S2 eD rfl
  rw [List.take_of_length_le (by omega), pick_eq he.nd ord] at eD
  exact k D' _ (S1.trans S2) (Same.no S1 nD) eD
end
end V45

namespace V45
open PySem PySem.Spec PyProof.Rows L2 Pw
/-! ### letters that fit, and a letter heard -/
/-- all times of the letter behind are no earlier than the known time of the one ahead -/
def BehindT (a b : Lt) : Prop := ∀ t ∈ b.rs.map Sg.t ++ [b.tm], a.tm ≤ t
def FitT (x y : Lt) : Prop := if x.no < y.no then BehindT x y else BehindT y x
section
variable {P : Program} {w : World} {K : PySem.W.Frag} {mg : Str → Option Value} {base : Heap} {C D : Addr}
def spFit (K : PySem.W.Frag) : Sp := fun vs H Q _ => ∃ qa qb x y, vs = [.ref qa, .ref qb] ∧ LtAt H qa x ∧ LtAt H qb y ∧ x.rs.length ≤ 12 ∧ y.rs.length ≤ 12 ∧ FitT x y ∧ ∀ H', Same H H' → Q (.bl true) H'
theorem d_fit (T : Txt mg) (A : At K mg "_fit" sFit) : Def P w K mg base "_fit" 1 ["one", "other"] (spFit K) := by
  refine mkDef A scFit (fun _ _ _ _ _ _ us hl => match us, hl with | [_, _], _ => rfl) (fun vs H Q E ⟨_, _, _, _, e, _⟩ => by rw [e]; rfl)
    (fun f cdv A out s H vs Q E hr h => ?_)
  obtain ⟨qa, qb, x, y, rfl, hx, hy, lx, ly, fit, k⟩ := h
  refine ⟨_, (pss_cons (ps_asg (pe_ifExp (pt_cmpR op_lt (pe_ix ix_tup (pv 0) pe_int (fun _ _ => rfl)) (pe_ix ix_tup (pv 1) pe_int (fun _ _ => rfl)) (nomark _)) (pe_tup (pa_cons (pv 0) (pa_cons (pv 1) pa_nil))) (pe_tup (pa_cons (pv 1) (pa_cons (pv 0) pa_nil)))) (pg_tup (by rfl) (pgs_cons (pg_name (i := 2) scFit.nd rfl (.inl rfl)) (pgs_cons (pg_name (i := 3) scFit.nd rfl (.inl rfl)) pgs_nil))))
    (pss_one (ps_ret (pe_cmpR op_ge (pe_callB (cr_min rfl) (by rfl) T.min PyProof.Rows.boot_min (pa_cons (pe_op op_cat (pe_lc (own := [("row", 4)]) (g := gName 4) (tt := tYes) rfl scFit.nd (pi_sq (pe_ix (r := rIxT K) ix_tup (pv 3) pe_int (fun _ _ => rfl)))
        (blkOk_by (own := [("row", 4)]) (N := ["one", "other", "ahead", "behind", "row"]) (sc := defScope sFit) (by decide +kernel))
        (fun _ _ _ _ _ => (pg_name (i := 4) scFit.nd rfl (.inl rfl))) (fun _ _ _ _ _ => pts_nil)
        (fun _ _ _ _ _ => (pe_ix (r := rIxT K) ix_tup (pv 4) pe_int (fun _ _ => rfl)))) (pe_lst (pa_cons (pe_ix ix_tup (pv 3) pe_int (fun _ _ => rfl)) pa_nil))) pa_nil)) (pe_ix ix_tup (pv 2) pe_int (fun _ _ => rfl)) (nomark _))))), ?_⟩
  obtain ⟨rx, vx, ex, etx, alx⟩ := hx
  obtain ⟨ry, vy, ey, ety, aly⟩ := hy
  refine ⟨_, rfl, qa, _, 2, _, rfl, rfl, SqT.of ex, rfl, _, rfl, qb, _, 2, _, rfl, rfl, SqT.of ey, rfl, x.no, y.no, rfl, rfl, _, rfl, ?_⟩
  unfold FitT at fit
  by_cases h : x.no < y.no
  · skip
    rw [if_pos h] at fit
    rw [decide_eq_true h]
    refine iteT ⟨_, rfl, _, rfl, by show 2 ≤ sizeLine; decide, fun t nt => ?_⟩
    have S1 := Same.laid (o := HO.tup [.ref qa, .ref qb]) nt
    have e1 : upd H t (.tup [.ref qa, .ref qb]) t = some (.tup [.ref qa, .ref qb]) := upd_same
    generalize upd H t (.tup [.ref qa, .ref qb]) = H1 at *
    refine ⟨t, _, rfl, SqT.of e1, rfl, _, _, rfl, _, _, rfl, rfl, ?_⟩
    have hlen := aly.length
    refine ⟨_, rfl, qb, _, 4, _, rfl, rfl, SqT.of (S1 _ _ ey), rfl, ry, vy, rfl, .inr (SqT.of (S1 _ _ ety)), fun J G hG wk D' nD => ?_⟩
    refine lc_acc wk nD (by omega) (fun i acc _ => acc = ((y.rs.take i).map Sg.t).map V.int) rfl hG ?_ ?_
    · rintro i v G0 G acc hi S eD hl rfl ⟨rfl, hx⟩ Fy Fn hy1 _
      obtain ⟨q2, r, rfl, hr', eq2⟩ := ((aly.same S1).same S).get hx
      refine ⟨rfl, ?_⟩
      unfold tYes
      refine iteT ?_
      refine ⟨_, rfl, q2, _, 0, .int r.t, rfl, rfl, SqT.of eq2, rfl, ?_⟩
      refine hy1 _ _ (Same.refl _) ?_
      rw [List.take_add_one, hr', List.map_append, List.map_append]
      rfl
    rintro H3 acc S3 eD2 rfl
    rw [List.take_of_length_le (by omega)] at eD2
    have S13 := S1.trans S3
    refine ⟨_, rfl, qb, _, 3, _, rfl, rfl, SqT.of (S13 _ _ ey), rfl, by show 1 ≤ sizeLine; decide, fun l nl => ?_⟩
    have U1 := Same.laid (o := HO.lst [.int y.tm]) nl
    have el : upd H3 l (.lst [.int y.tm]) l = some (.lst [.int y.tm]) := upd_same
    generalize upd H3 l (.lst [.int y.tm]) = H4 at *
    refine ⟨D', l, _, _, rfl, rfl, U1 _ _ eD2, el, by rw [List.length_map, List.length_map]; exact Nat.le_trans (show y.rs.length + 1 ≤ 13 by omega) (by decide), fun M nM => ?_⟩
    have eM : upd H4 M (.lst ((y.rs.map Sg.t).map V.int ++ [.int y.tm])) M = some (.lst ((y.rs.map Sg.t ++ [y.tm]).map V.int)) := by rw [upd_same, List.map_append]; rfl
    have U2 := Same.laid (o := HO.lst ((y.rs.map Sg.t).map V.int ++ [.int y.tm])) nM
    generalize upd H4 M (.lst ((y.rs.map Sg.t).map V.int ++ [.int y.tm])) = H5 at *
    have SF := (S13.trans U1).trans U2
    refine ⟨M, _, rfl, SqL.of eM, by rw [List.length_append, List.length_singleton]; omega, fun m hm _ => ?_⟩
    refine ⟨_, rfl, qa, _, 3, _, rfl, rfl, SqT.of (SF _ _ ex), rfl, m, x.tm, rfl, rfl, ?_⟩
    have ed : decide (x.tm ≤ m) = true := decide_eq_true (fit m hm)
    show Q (.bl (decide (x.tm ≤ m))) _
    rw [ed]
    exact k _ SF
  · skip
    rw [if_neg h] at fit
    rw [decide_eq_false h]
    refine iteF ⟨_, rfl, _, rfl, by show 2 ≤ sizeLine; decide, fun t nt => ?_⟩
    have S1 := Same.laid (o := HO.tup [.ref qb, .ref qa]) nt
    have e1 : upd H t (.tup [.ref qb, .ref qa]) t = some (.tup [.ref qb, .ref qa]) := upd_same
    generalize upd H t (.tup [.ref qb, .ref qa]) = H1 at *
    refine ⟨t, _, rfl, SqT.of e1, rfl, _, _, rfl, _, _, rfl, rfl, ?_⟩
    have hlen := alx.length
    refine ⟨_, rfl, qa, _, 4, _, rfl, rfl, SqT.of (S1 _ _ ex), rfl, rx, vx, rfl, .inr (SqT.of (S1 _ _ etx)), fun J G hG wk D' nD => ?_⟩
    refine lc_acc wk nD (by omega) (fun i acc _ => acc = ((x.rs.take i).map Sg.t).map V.int) rfl hG ?_ ?_
    · rintro i v G0 G acc hi S eD hl rfl ⟨rfl, hx⟩ Fy Fn hy1 _
      obtain ⟨q2, r, rfl, hr', eq2⟩ := ((alx.same S1).same S).get hx
      refine ⟨rfl, ?_⟩
      unfold tYes
      refine iteT ?_
      refine ⟨_, rfl, q2, _, 0, .int r.t, rfl, rfl, SqT.of eq2, rfl, ?_⟩
      refine hy1 _ _ (Same.refl _) ?_
      rw [List.take_add_one, hr', List.map_append, List.map_append]
      rfl
    rintro H3 acc S3 eD2 rfl
    rw [List.take_of_length_le (by omega)] at eD2
    have S13 := S1.trans S3
    refine ⟨_, rfl, qa, _, 3, _, rfl, rfl, SqT.of (S13 _ _ ex), rfl, by show 1 ≤ sizeLine; decide, fun l nl => ?_⟩
    have U1 := Same.laid (o := HO.lst [.int x.tm]) nl
    have el : upd H3 l (.lst [.int x.tm]) l = some (.lst [.int x.tm]) := upd_same
    generalize upd H3 l (.lst [.int x.tm]) = H4 at *
    refine ⟨D', l, _, _, rfl, rfl, U1 _ _ eD2, el, by rw [List.length_map, List.length_map]; exact Nat.le_trans (show x.rs.length + 1 ≤ 13 by omega) (by decide), fun M nM => ?_⟩
    have eM : upd H4 M (.lst ((x.rs.map Sg.t).map V.int ++ [.int x.tm])) M = some (.lst ((x.rs.map Sg.t ++ [x.tm]).map V.int)) := by rw [upd_same, List.map_append]; rfl
    have U2 := Same.laid (o := HO.lst ((x.rs.map Sg.t).map V.int ++ [.int x.tm])) nM
    generalize upd H4 M (.lst ((x.rs.map Sg.t).map V.int ++ [.int x.tm])) = H5 at *
    have SF := (S13.trans U1).trans U2
    refine ⟨M, _, rfl, SqL.of eM, by rw [List.length_append, List.length_singleton]; omega, fun m hm _ => ?_⟩
    refine ⟨_, rfl, qb, _, 3, _, rfl, rfl, SqT.of (SF _ _ ey), rfl, m, y.tm, rfl, rfl, ?_⟩
    have ed : decide (y.tm ≤ m) = true := decide_eq_true (fit m hm)
    show Q (.bl (decide (y.tm ≤ m))) _
    rw [ed]
    exact k _ SF
end
end V45

namespace V45
open PySem PySem.Spec PyProof.Rows L2 Pw
/-! ### a letter heard -/
theorem LtAt.but {H H' : Hp} {q d : Addr} {L : Lt} {ls : TK} (h : LtAt H q L) (e : H d = some (.dT ls)) (B : But d H H') : LtAt H' q L := by
  obtain ⟨rt, vs, e1, e2, al⟩ := h
  refine ⟨rt, vs, B.at (fun z => ?_) e1, B.at (fun z => ?_) e2, al.imp fun a xs ea => B.at (fun z => ?_) ea⟩
  · rw [z, e] at e1; cases e1
  · rw [z, e] at e2; cases e2
  · rw [z, e] at ea; cases ea
/-- one letter more -/
theorem HeAt.put {D : Addr} {H : Hp} {p wa hd hl q : Addr} {ls : List LA} {hs : List Hd} {L : Lt} (h : HeAt D H p wa hd hl ls hs) (hL : LtAt H q L) (nk : (L.pl, L.no) ∉ ls.map ky) (few : ls.length < 1000) :
    HeAt D (upd H hd (.dT (kvT ls ++ [(kTP (L.pl, L.no), V.ref q)]))) p wa hd hl (ls ++ [(L, q)]) hs := by
  obtain ⟨dx, vs, e1, e2, e3, al⟩ := h.ex
  have B : But hd H (upd H hd (.dT (kvT ls ++ [(kTP (L.pl, L.no), V.ref q)]))) := But.set
  have ek : kvT (ls ++ [(L, q)]) = kvT ls ++ [(kTP (L.pl, L.no), V.ref q)] := by unfold kvT; rw [List.map_append]; rfl
  refine ⟨⟨dx, vs, B.at (fun z => ?_) e1, by rw [ek]; exact upd_same, B.at (fun z => ?_) e3, al.imp fun a xs ea => B.at (fun z => ?_) ea⟩, fun x hx => ?_, ?_, by rw [List.length_append, List.length_singleton]; omega, h.fewH⟩
  · rw [z, e2] at e1; cases e1
  · rw [z, e2] at e3; cases e3
  · rw [z, e2] at ea; cases ea
  · rcases List.mem_append.mp hx with hx | hx
    · exact (h.at_ x hx).but e2 B
    · rw [List.mem_singleton.mp hx]
      exact hL.but e2 B
  · rw [List.map_append]
    refine List.nodup_append.mpr ⟨h.nd, by simp, fun a ha b hb => ?_⟩
    have : b = (L.pl, L.no) := List.mem_singleton.mp hb
    rw [this]
    exact fun z => nk (z ▸ ha)
section
variable {P : Program} {w : World} {K : PySem.W.Frag} {mg : Str → Option Value} {base : Heap} {C D : Addr}
def spHear (C D : Addr) (K : PySem.W.Frag) : Sp := fun vs H Q _ => ∃ p wa hd hl ls hs W ps q L, vs = [.ref p, .ref q] ∧ HeAt D H p wa hd hl ls hs ∧ WoP K C H wa W ps ∧ LtAt H q L ∧ GoodLt ps L ∧
  (∀ x ∈ ls, x.1.rs.length ≤ 12) ∧ (L.pl, L.no) ∉ ls.map ky ∧ (∀ x ∈ ls, x.1.pl = L.pl → FitT L x.1) ∧ ls.length < 1000 ∧
  ∀ H', But hd H H' → HeAt D H' p wa hd hl (ls ++ [(L, q)]) hs → Q (.bl true) H'
theorem d_hear (W : HeC K D) (A : AtMt K D "hear" "Hearing.hear" mHearing_Hear) (ds : Def P w K mg base "check_signs" 9 ["works", "letter"] (spChkS C K)) (df : Def P w K mg base "_fit" 1 ["one", "other"] (spFit K))
    (dL : DefM P w K mg base D "_letters_of" 1 ["self", "place"] (spLtsOf D)) : DefM P w K mg base D "hear" 10 ["self", "letter"] (spHear C D K) := by
  refine mkDefM A scmHearing_Hear (fun _ _ _ _ _ _ us hl => match us, hl with | [_, _], _ => rfl) (fun vs H Q E ⟨_, _, _, _, _, _, _, _, _, _, e, _⟩ => by rw [e]; rfl)
    (fun f cdv A out s H vs Q E hr h => ?_)
  obtain ⟨p, wa, hd, hl, ls, hs, Wk, ps, q, L, rfl, he, hw, hL, gL, l12, nk, fit, few, k⟩ := h
  have hu : (A.deeper (envOfC "Hearing.hear" (defScope mHearing_Hear) s.heap.objs.size f cdv)).units + 1 < cLine := hu_of hr
  refine ⟨_, (pss_cons (ps_expr (pe_d ds hr (by decide) (by rfl) (pa_cons (pe_fld (pv 0) rfl) (pa_cons (pv 1) pa_nil))))
    (pss_cons (ps_set (i := 2) scmHearing_Hear.nd rfl (.inl rfl) (pe_tup (pa_cons (pe_ix ix_tup (pv 1) pe_int (fun _ _ => rfl)) (pa_cons (pe_ix ix_tup (pv 1) pe_int (fun _ _ => rfl)) pa_nil))))
    (pss_cons (ps_if (pt_cmp (pc_din hu (pv 2) (pe_fld (pv 0) rfl)))
      (pss_cons ps_never (pss_one ps_never))
      pss_nil)
    (pss_cons (ps_for PassesOwn.never rfl (pi_sq (pe_mm (pv 0) W.cl dL hr (by decide) (pa_cons (pe_ix ix_tup (pv 1) pe_int (fun _ _ => rfl)) pa_nil))) (pg_name (i := 3) scmHearing_Hear.nd rfl (.inl rfl))
      (pss_one (ps_if (pt_not (pt_val (pe_d df hr (by decide) (by rfl) (pa_cons (pv 1) (pa_cons (pv 3) pa_nil)))))
        (pss_one ps_never)
        pss_nil)))
    (pss_cons (ps_asg (pv 1) (pg_sub (pe_fld (pv 0) rfl) (pv 2) (set_dict hu)))
    (pss_one (ps_ret pe_bl))))))), ?_⟩
  obtain ⟨dx, vs, e1, e2, e3, _⟩ := he.ex
  refine ⟨_, rfl, p, D, dx, _, _, rfl, e1, W.cl, W.nW, hef_works, _, rfl, wa, q, Wk, ps, L, rfl, hw, hL, gL, fun H1 S1 => ?_⟩
  have he1 := he.same S1
  have hL1 := hL.same S1
  have eq := hL1
  obtain ⟨rt, vr, eq, _⟩ := eq
  refine ⟨_, rfl, q, _, 1, _, rfl, rfl, SqT.of eq, rfl, _, rfl, q, _, 2, _, rfl, rfl, SqT.of eq, rfl, by show 2 ≤ sizeLine; decide, fun t nt => ?_⟩
  have S2 := Same.laid (o := HO.tup [.str L.pl, .int L.no]) nt
  have et : upd H1 t (.tup [.str L.pl, .int L.no]) t = some (.tup ((kTP (L.pl, L.no)).map kV)) := upd_same
  generalize upd H1 t (.tup [.str L.pl, .int L.no]) = H2 at *
  have he2 := he1.same S2
  obtain ⟨dx2, vs2, f1, f2, f3, _⟩ := he2.ex
  have eg := DGet.t f2 et
  have en : lkK ls (L.pl, L.no) = none := by
    cases z : lkK ls (L.pl, L.no) with
    | none => rfl
    | some x =>
      obtain ⟨h1, h2⟩ := lkK_some z
      exact absurd (List.mem_map.mpr ⟨x, h1, h2⟩) nk
  rw [lkK_val, en] at eg
  refine ⟨_, rfl, _, rfl, p, D, dx2, _, _, rfl, f1, W.cl, W.nH, hef_heard, hd, _, rfl, eg, ?_⟩
  refine ⟨_, rfl, iteF ?_⟩
  refine ⟨_, rfl, p, dx2, _, rfl, f1, hef_no (by decide +kernel) (by decide +kernel) (by decide +kernel), _, rfl, q, _, 1, _, rfl, rfl, SqT.of (S2 _ _ eq), rfl, p, wa, hd, hl, ls, hs, L.pl, rfl, he2, fun l H3 S3 nl el => ?_⟩
  refine ⟨l, _, rfl, .inl (SqL.of el), fun J G hG wk => ?_⟩
  refine for_it wk (fun i σ X => (∃ v3 : Option V, σ = [some (.ref p), some (.ref q), some (.ref t), v3]) ∧ Same H3 X) ⟨⟨_, rfl⟩, Same.refl _⟩ (fun i σ X _ h => hG X h.2) ?_ ?_
  · rintro i v σ G0 G hi ⟨⟨v3, rfl⟩, SX⟩ ⟨rfl, hx⟩
    rw [List.getElem?_map] at hx
    cases hy : (ofPl ls L.pl)[i]? with
    | none => rw [hy] at hx; cases hx
    | some y =>
      rw [hy] at hx
      cases hx
      obtain ⟨hy1, hy2⟩ := ofPl_mem.mp (List.mem_of_getElem? hy)
      have S23 := S2.trans (S3.trans SX)
      refine ⟨_, rfl, _, rfl, q, y.2, L, y.1, rfl, hL1.same S23, (he1.at_ y hy1).same S23, gL.few, l12 y hy1, fit y hy1 hy2, fun H5 S5 => ?_⟩
      refine ⟨_, rfl, iteF ⟨⟨_, rfl⟩, SX.trans S5⟩⟩
  rintro σ X ⟨⟨v3, rfl⟩, SX⟩
  have S4 := S3.trans SX
  have heX := he2.same S4
  obtain ⟨dx4, vs4, g1, g2, g3, _⟩ := heX.ex
  refine ⟨_, rfl, _, rfl, p, D, dx4, _, _, rfl, g1, W.cl, W.nH, hef_heard, _, rfl, hd, _, rfl, DPut.t g2 (S4 _ _ et) (by rw [show (kvT ls).length = ls.length from List.length_map _]; exact Nat.lt_trans few (by decide)), ?_⟩
  rw [putK_newT nk]
  exact k _ ((Same.but (S1.trans (S2.trans S4))).trans But.set) (heX.put (hL1.same (S2.trans S4)) nk few)
end
end V45

namespace V45
open PySem PySem.Spec PyProof.Rows L2 Pw
/-! ### the known time of a place, and its state -/
def knF (g : Int → Option Int) : Nat → Int → Option Int → Option Int
  | 0, _, t => t
  | f + 1, n, t => match g n with
    | none => t
    | some x => knF g f (n + 1) (some x)
def tmOf (ls : List LA) (pl : Str) (n : Int) : Option Int := (lkK ls (pl, n)).map fun x => x.1.tm
def knownM (ls : List LA) (pl : Str) : Option Int := knF (tmOf ls pl) 40 1 none
def oVi : Option Int → V
  | none => .non
  | some i => .int i
def sureB (ls : List LA) (pl : Str) (at_ : Int) : Bool := match knownM ls pl with
  | none => false
  | some k => decide (at_ < k)
def stW (b : Bool) : Str := if b = true then "sure" else "open"
section
variable {P : Program} {w : World} {K : PySem.W.Frag} {mg : Str → Option Value} {base : Heap} {C D : Addr}
def spKnown (C D : Addr) (K : PySem.W.Frag) : Sp := fun vs H Q _ => ∃ p wa hd hl ls hs W ps pl, vs = [.ref p, .str pl] ∧ HeAt D H p wa hd hl ls hs ∧ WoP K C H wa W ps ∧ OkName pl ∧ pl ∈ ps.map Pt.pl ∧ (∀ x ∈ ls, x.1.no ≤ 40) ∧
  ∀ H', Same H H' → Q (oVi (knownM ls pl)) H'
theorem d_known (W : HeC K D) (A : AtMt K D "known" "Hearing.known" mHearing_Known) (dp : Def P w K mg base "check_place" 3 ["works", "thing"] (spChkPl C K)) : DefM P w K mg base D "known" 4 ["self", "place"] (spKnown C D K) := by
  refine mkDefM A scmHearing_Known (fun _ _ _ _ _ _ us hl => match us, hl with | [_, _], _ => rfl) (fun vs H Q E ⟨_, _, _, _, _, _, _, _, _, e, _⟩ => by rw [e]; rfl)
    (fun f cdv A out s H vs Q E hr h => ?_)
  obtain ⟨p, wa, hd, hl, ls, hs, Wk, ps, pl, rfl, he, hw, on, hin, le40, k⟩ := h
  have hu : (A.deeper (envOfC "Hearing.known" (defScope mHearing_Known) s.heap.objs.size f cdv)).units + 1 < cLine := hu_of hr
  refine ⟨_, (pss_cons (ps_expr (pe_d dp hr (by decide) (by rfl) (pa_cons (pe_fld (pv 0) rfl) (pa_cons (pv 1) pa_nil))))
    (pss_cons (ps_set (i := 2) scmHearing_Known.nd rfl (.inl rfl) pe_non)
    (pss_cons (ps_set (i := 3) scmHearing_Known.nd rfl (.inl rfl) pe_int)
    (pss_cons (ps_while PassesOwn.never (pt_cmp (pc_din hu (pe_tup (pa_cons (pv 1) (pa_cons (pv 3) pa_nil))) (pe_fld (pv 0) rfl)))
      (pss_cons (ps_set (i := 2) scmHearing_Known.nd rfl (.inl rfl) (pe_ix ix_tup (pe_dget hu (pe_fld (pv 0) rfl) (pe_tup (pa_cons (pv 1) (pa_cons (pv 3) pa_nil))) (fun _ _ => rfl)) pe_int (fun _ _ => rfl)))
      (pss_one (ps_aug (i := 3) scmHearing_Known.nd rfl (.inl rfl) pe_int ip_add))))
    (pss_one (ps_ret (pv 2))))))), ?_⟩
  obtain ⟨dx, vs, e1, e2, e3, _⟩ := he.ex
  refine ⟨_, rfl, p, D, dx, _, _, rfl, e1, W.cl, W.nW, hef_works, _, rfl, wa, Wk, ps, pl, rfl, hw, on, hin, fun H1 S1 => ?_⟩
  refine ⟨fun m σ G => ∃ (n : Int) (t : Option Int), σ = [some (.ref p), some (.str pl), some (oVi t), some (.int n)] ∧ Same H G ∧ (m : Int) + n = 41 ∧ 1 ≤ n ∧ knF (tmOf ls pl) m n t = knownM ls pl, ⟨40, 1, none, rfl, S1, rfl, Int.le_refl _, rfl⟩, ?_⟩
  rintro m σ G ⟨n, t, rfl, SG, emn, n1, ek⟩
  refine ⟨_, rfl, _, rfl, by show 2 ≤ sizeLine; decide, fun b nb => ?_⟩
  have S2 := Same.laid (o := HO.tup [.str pl, .int n]) nb
  have eb : upd G b (.tup [.str pl, .int n]) b = some (.tup ((kTP (pl, n)).map kV)) := upd_same
  generalize upd G b (.tup [.str pl, .int n]) = G1 at *
  have SG1 := SG.trans S2
  obtain ⟨dx2, vs2, f1, f2, f3, _⟩ := (he.same SG1).ex
  have eg := DGet.t f2 eb
  rw [lkK_val] at eg
  refine ⟨_, rfl, p, D, dx2, _, _, rfl, f1, W.cl, W.nH, hef_heard, hd, _, rfl, eg, ?_⟩
  cases z : lkK ls (pl, n) with
  | none =>
    refine ⟨_, rfl, iteF ?_⟩
    have : knownM ls pl = t := by
      rw [← ek]
      cases m with
      | zero => rfl
      | succ m => simp only [knF, tmOf, z, Option.map_none]
    refine ⟨_, rfl, ?_⟩
    rw [← this]
    exact k _ SG1
  | some x =>
    refine ⟨_, rfl, iteT ?_⟩
    obtain ⟨hx1, hx2⟩ := lkK_some z
    have hn : x.1.no = n := congrArg Prod.snd hx2
    have := le40 x hx1
    cases m with
    | zero => omega
    | succ m =>
      refine ⟨_, fun σ' H' h => ⟨m, Nat.lt_succ_self m, h⟩, ?_⟩
      refine ⟨_, rfl, p, D, dx2, _, _, rfl, f1, W.cl, W.nH, hef_heard, _, rfl, _, rfl, by show 2 ≤ sizeLine; decide, fun b3 nb3 => ?_⟩
      have S3 := Same.laid (o := HO.tup [.str pl, .int n]) nb3
      have eb3 : upd G1 b3 (.tup [.str pl, .int n]) b3 = some (.tup ((kTP (pl, n)).map kV)) := upd_same
      generalize upd G1 b3 (.tup [.str pl, .int n]) = G3 at *
      have SG3 := SG1.trans S3
      obtain ⟨dx3, vs3, g1, g2, g3, _⟩ := (he.same SG3).ex
      have eg3 := DGet.t g2 eb3
      rw [lkK_val, z] at eg3
      obtain ⟨rt, vr, eq, _⟩ := (he.at_ x hx1).same SG3
      refine ⟨hd, _, rfl, eg3, x.2, _, 3, _, rfl, rfl, SqT.of eq, rfl, ?_⟩
      refine ⟨_, rfl, n, 1, rfl, rfl, n + 1, some x.1.tm, rfl, SG3, by omega, by omega, ?_⟩
      rw [← ek]
      simp only [knF, tmOf, z, Option.map_some]
def spState (C D : Addr) (K : PySem.W.Frag) : Sp := fun vs H Q _ => ∃ p wa hd hl ls hs W ps pl at_, vs = [.ref p, .str pl, .int at_] ∧ HeAt D H p wa hd hl ls hs ∧ WoP K C H wa W ps ∧ OkName pl ∧ pl ∈ ps.map Pt.pl ∧ (∀ x ∈ ls, x.1.no ≤ 40) ∧
  ∀ H', Same H H' → Q (.str (stW (sureB ls pl at_))) H'
theorem d_state (W : HeC K D) (A : AtMt K D "_state" "Hearing._state" mHearing_State) (dk : DefM P w K mg base D "known" 4 ["self", "place"] (spKnown C D K)) : DefM P w K mg base D "_state" 5 ["self", "place", "at"] (spState C D K) := by
  refine mkDefM A scmHearing_State (fun _ _ _ _ _ _ us hl => match us, hl with | [_, _, _], _ => rfl) (fun vs H Q E ⟨_, _, _, _, _, _, _, _, _, _, e, _⟩ => by rw [e]; rfl)
    (fun f cdv A out s H vs Q E hr h => ?_)
  obtain ⟨p, wa, hd, hl, ls, hs, Wk, ps, pl, at_, rfl, he, hw, on, hin, le40, k⟩ := h
  refine ⟨_, (pss_cons (ps_set (i := 3) scmHearing_State.nd rfl (.inl rfl) (pe_mm (pv 0) W.cl dk hr (by decide) (pa_cons (pv 1) pa_nil)))
    (pss_one (ps_ret (pe_ifExp (PW.pt (pw_and (pt_cmpR op_notN (pv 3) pe_non (nomark _)) (pw_and1 (pt_cmpR op_lt (pv 2) (pv 3) (nomark _))))) pe_str pe_str)))), ?_⟩
  obtain ⟨dx, vs, e1, e2, e3, _⟩ := he.ex
  refine ⟨_, rfl, p, dx, _, rfl, e1, hef_no (by decide +kernel) (by decide +kernel) (by decide +kernel), _, rfl, p, wa, hd, hl, ls, hs, Wk, ps, pl, rfl, he, hw, on, hin, le40, fun H1 S1 => ?_⟩
  have k1 := k H1 S1
  unfold sureB at k1
  cases z : knownM ls pl with
  | none =>
    rw [z] at k1
    refine ⟨_, rfl, rfl, false, rfl, ?_⟩
    first | exact iteF k1 | exact iteF (iteF k1)
  | some t =>
    rw [z] at k1
    refine ⟨_, rfl, rfl, true, rfl, ?_⟩
    refine ⟨_, rfl, _, rfl, at_, t, rfl, rfl, _, rfl, ?_⟩
    by_cases h : at_ < t
    · rw [decide_eq_true h]
      rw [show stW (decide (at_ < t)) = "sure" by rw [decide_eq_true h]; rfl] at k1
      exact iteT k1
    · rw [decide_eq_false h]
      rw [show stW (decide (at_ < t)) = "open" by rw [decide_eq_false h]; rfl] at k1
      exact iteF k1
end
end V45

/-! min of a list of tuples (int, text). -/
namespace Pw
open PySem PySem.Spec PyProof.Rows L2 SrtO
abbrev T2 := Int × Str
def fT2 (r : T2) : List V := [.int r.1, .str r.2]
/-- the first of the least -/
def min2 (x : T2) (l : List T2) : T2 := PySem.W.minOf x l
/-- min(xs), xs a list of tuples (int, text), not empty -/
def rMin2 (K : PySem.W.Frag) : List V → Hp → VK → Prop := fun vs H Q => ∃ (a : Addr) (xs : List V) (x : T2) (l : List T2), vs = [V.ref a] ∧ SqL K H a xs ∧ Al fT2 H xs (x :: l) ∧
  ∀ t, V.ref t ∈ xs → H t = some (.tup (fT2 (min2 x l))) → Q (.ref t) H
theorem holds2 {X : Cx} {pins : List (Addr × Obj)} {σ : L2.St} {H : Hp} {s : Shared} (I : Inv X pins σ H s) : ∀ {xs : List V} {l : List T2} {vs : List Value}, Al fT2 H xs l → Vals xs vs → PySem.W.HoldAll s.heap vs l
  | _, _, _, .nil, .nil => PySem.W.HoldAll.nil
  | _, _, _, .cons e al, .cons r rv => by
    refine PySem.W.HoldAll.cons ?_ (holds2 I al rv)
    obtain ⟨_, its2, r2, o, ho, hc, n, hd⟩ := I.hok _ _ e
    cases r2 with
    | cons ra r2 =>
      cases r2 with
      | cons rb r2 =>
        cases r2
        obtain ⟨t1, rfl⟩ := ra
        obtain ⟨t2, rfl⟩ := rb
        obtain rfl := r
        exact PySem.W.holds_pair ⟨o, ho, hc, n, hd⟩ (PySem.W.holds_int _ _) (PySem.W.holds_str _ _)
theorem cr_min2 {X : Cx} (hc : X.calm = true) (hu : X.A.units + 64 < cLine) : CallR X (.builtin "min") (rMin2 X.K) := by
  intro pins s σ H vs us Q I r h
  obtain ⟨a, xs, x, l, rfl, hs, al, q⟩ := h
  obtain ⟨its, rv, hl, hz⟩ := I.list hs
  obtain ⟨u, rfl, ru⟩ := vals1 r
  obtain rfl : u = Value.ref a := ru
  have hd : PySem.W.Datum.depth T2 = 1 := rfl
  refine PySem.W.min_list_datum (α := T2) (I.ok.hd hc) hl.isList (holds2 I al rv) (by rw [hd]; omega) fun i v h' tk hi hv hk => ?_
  have hi' : its[i]? = some v := by simpa using hi
  obtain ⟨y, hy, ry⟩ : ∃ y, xs[i]? = some y ∧ RelV y v := by
    obtain ⟨hlt, _⟩ := List.getElem?_eq_some_iff.mp hi'
    obtain ⟨y, hy⟩ : ∃ y, xs[i]? = some y := ⟨_, List.getElem?_eq_getElem (by rw [rv.length]; exact hlt)⟩
    obtain ⟨u, hu', ru'⟩ := rv.get hy
    rw [hi'] at hu'
    cases hu'
    exact ⟨y, hy, ru'⟩
  obtain ⟨t, r, e1, e2, e3⟩ := al.get hy
  subst e1
  obtain rfl : v = Value.ref t := ry
  have : r = min2 x l := by
    obtain ⟨_, its2, r2, o, ho, hc', n, hd'⟩ := I.hok _ _ e3
    obtain ⟨l2, b1, b2, el, ⟨o2, ho2, hc2, n2, hd2⟩, H1, H2⟩ := PySem.W.pair_of_holds hv
    cases el
    have eo : o = o2 := Option.some.inj ((hk _ _ ho).symm.trans ho2)
    subst eo
    cases r2 with
    | cons ra r2 =>
      cases r2 with
      | cons rb r2 =>
        cases r2
        obtain ⟨t1, rfl⟩ := ra
        obtain ⟨t2, rfl⟩ := rb
        have ed := hd'.symm.trans hd2
        obtain ⟨u1, w1⟩ := PySem.W.int_of_holds H1
        obtain ⟨u2, w2⟩ := PySem.W.str_of_holds H2
        injection ed with e5 _
        have e6 := congrArg Array.toList e5
        rw [w1, w2] at e6
        injection e6 with e7 e8
        injection e8 with e9 _
        injection e7 with e10 _
        injection e9 with e11 _
        exact Prod.ext e10 e11
  subst this
  exact ⟨.ref t, H, I.kept hk, rfl, q t (List.mem_of_getElem? hy) e3⟩
/-- max(xs, default=None), xs a list of ints -/
def rMaxD (K : PySem.W.Frag) : List V → List V → Hp → VK → Prop := fun vs zs H Q => ∃ (a : Addr) (ns : List Int), vs = [V.ref a] ∧ zs = [V.non] ∧ SqL K H a (ns.map V.int) ∧ (ns = [] → Q .non H) ∧ ∀ m, m ∈ ns → Q (.int m) H
theorem maxOf_mem (x : Int) (l : List Int) : PySem.W.maxOf x l ∈ x :: l := by
  unfold PySem.W.maxOf
  induction l generalizing x with
  | nil => exact List.mem_cons_self
  | cons y l ih =>
    rw [List.foldl_cons]
    have := ih (if PySem.W.DatumOrd.lt x y = true then y else x)
    rcases List.mem_cons.mp this with h | h
    · rw [h]
      split
      · exact List.mem_cons_of_mem _ List.mem_cons_self
      · exact List.mem_cons_self
    · exact List.mem_cons_of_mem _ (List.mem_cons_of_mem _ h)
theorem cr_maxD {X : Cx} (hc : X.calm = true) (hu : X.A.units + 64 < cLine) : CallRK X (.builtin "max") [Str.ofString "default"] (rMaxD X.K) := by
  intro pins s σ H vs zs us ws Q I r rz h
  obtain ⟨a, ns, rfl, rfl, hs, q0, q1⟩ := h
  obtain ⟨its, rv, hl, _⟩ := I.list hs
  rw [Vals.ref1 r]
  obtain ⟨w1, rfl, e1⟩ := vals1 rz
  obtain rfl : w1 = Value.none := e1
  refine PySem.W.max_list_datum_default (α := Int) (I.ok.hd hc) hl.isList (PySem.W.HoldAll.of_ints rv.ints) (by rw [show PySem.W.Datum.depth Int = 0 from rfl]; omega) (fun e h' tk hk => ⟨.non, H, I.kept hk, rfl, q0 e⟩) fun y ys i v h' tk e _ hv hk => ?_
  obtain ⟨t, rfl⟩ := PySem.W.int_of_holds hv
  exact ⟨.int _, H, I.kept hk, ⟨_, rfl⟩, q1 _ (by rw [e]; exact maxOf_mem y ys)⟩
end Pw

set_option maxHeartbeats 8000000
/-! max of a list of ints, with an int as its default. -/
namespace Pw
open PySem PySem.Spec PyProof.Rows L2
/-- the greatest, or what stands for it -/
def isTop (d : Int) (ns : List Int) (m : Int) : Prop := (ns = [] ∧ m = d) ∨ (m ∈ ns ∧ ∀ y ∈ ns, y ≤ m)
theorem isTop_uniq {d : Int} {ns : List Int} {a b : Int} (h : isTop d ns a) (h' : isTop d ns b) : a = b := by
  rcases h with ⟨e, rfl⟩ | ⟨m, l⟩
  · rcases h' with ⟨_, rfl⟩ | ⟨m', _⟩
    · rfl
    · rw [e] at m'; cases m'
  · rcases h' with ⟨e, _⟩ | ⟨m', l'⟩
    · rw [e] at m; cases m
    · have := l _ m'; have := l' _ m; omega
/-- max(xs, default=d), xs a list of ints -/
def rMaxI (K : PySem.W.Frag) : List V → List V → Hp → VK → Prop := fun vs zs H Q => ∃ (a : Addr) (ns : List Int) (d : Int), vs = [V.ref a] ∧ zs = [V.int d] ∧ SqL K H a (ns.map V.int) ∧ ∀ m, isTop d ns m → Q (.int m) H
theorem maxOf_le (x : Int) (l : List Int) : ∀ y ∈ x :: l, y ≤ PySem.W.maxOf x l := by
  unfold PySem.W.maxOf
  induction l generalizing x with
  | nil => intro y hy; rw [List.mem_singleton.mp hy]; exact Int.le_refl _
  | cons z l ih =>
    intro y hy
    rw [List.foldl_cons]
    have h1 := ih (if PySem.W.DatumOrd.lt x z = true then z else x)
    have hx : x ≤ (if PySem.W.DatumOrd.lt x z = true then z else x) ∧ z ≤ (if PySem.W.DatumOrd.lt x z = true then z else x) := by
      by_cases h : PySem.W.DatumOrd.lt x z = true
      · have h' : x < z := of_decide_eq_true h
        rw [if_pos h]; omega
      · have h' : ¬ x < z := fun q => h (decide_eq_true q)
        rw [if_neg h]; omega
    have h0 := h1 _ List.mem_cons_self
    rcases List.mem_cons.mp hy with rfl | hy
    · exact Int.le_trans hx.1 h0
    · rcases List.mem_cons.mp hy with rfl | hy
      · exact Int.le_trans hx.2 h0
      · exact h1 y (List.mem_cons_of_mem _ hy)
theorem cr_maxI {X : Cx} (hc : X.calm = true) (hu : X.A.units + 64 < cLine) : CallRK X (.builtin "max") [Str.ofString "default"] (rMaxI X.K) := by
  intro pins s σ H vs zs us ws Q I r rz h
  obtain ⟨a, ns, d, rfl, rfl, hs, q⟩ := h
  obtain ⟨its, rv, hl, _⟩ := I.list hs
  rw [Vals.ref1 r]
  obtain ⟨w1, rfl, e1⟩ := vals1 rz
  obtain ⟨t1, rfl⟩ := (show ∃ t, w1 = Value.int d t from e1)
  refine PySem.W.max_list_datum_default (α := Int) (I.ok.hd hc) hl.isList (PySem.W.HoldAll.of_ints rv.ints) (by rw [show PySem.W.Datum.depth Int = 0 from rfl]; omega) (fun e h' tk hk => ⟨.int d, H, I.kept hk, ⟨_, rfl⟩, q d (.inl ⟨e, rfl⟩)⟩) fun y ys i v h' tk e _ hv hk => ?_
  obtain ⟨t, rfl⟩ := PySem.W.int_of_holds hv
  exact ⟨.int _, H, I.kept hk, ⟨_, rfl⟩, q _ (.inr ⟨by rw [e]; exact maxOf_mem y ys, by rw [e]; exact maxOf_le y ys⟩)⟩
end Pw

namespace V45
open PySem PySem.Spec PyProof.Rows L2 Pw
/-! ### what lacks -/
theorem op_notIn_seqK {X : Cx} {K : PySem.W.Frag} (hK : X.K = K) : OpR X (compareOp .NotIn) (rIn K true) := hK ▸ op_notIn_seq
theorem inV_int (x : Int) : ∀ ns : List Int, inV (.int x) (ns.map V.int) = decide (x ∈ ns)
  | [] => rfl
  | n :: ns => by
    have ih := inV_int x ns
    unfold inV at ih ⊢
    rw [List.map_cons, List.any_cons, ih]
    by_cases h : n = x
    · subst h
      simp [eqV]
    · simp [eqV, h, Ne.symm h]
theorem flat_ints (ns : List Int) : (ns.map V.int).all flatV = true := List.all_eq_true.mpr fun y hy => by
  obtain ⟨n, _, rfl⟩ := List.mem_map.mp hy
  rfl
def lackL (ns : List Int) (m : Int) : List Int := ((List.range (m - 1).toNat).map fun i : Nat => 1 + (i : Int)).filter fun x => !decide (x ∈ ns)
end V45

namespace V45
open PySem PySem.Spec PyProof.Rows L2 Pw
/-! ### histories -/
abbrev T3 := Int × Int × Str
def f3t (r : T3) : List V := [.int r.1, .int r.2.1, .str r.2.2]
def tri (r : Sg) : T3 := (r.t, r.w, r.m)
/-- the last row of a time -/
def lastR (R : List T3) (t : Int) : Option T3 := (R.filter fun r => decide (r.1 = t)).getLast?
theorem lastR_snoc (R : List T3) (r : T3) (t : Int) : lastR (R ++ [r]) t = if r.1 = t then some r else lastR R t := by
  unfold lastR
  rw [List.filter_append]
  by_cases h : r.1 = t
  · rw [if_pos h, List.filter_cons, decide_eq_true h, if_pos rfl, List.filter_nil, List.getLast?_concat]
  · rw [if_neg h, List.filter_cons, decide_eq_false h]
    simp
theorem lastR_some {R : List T3} {t : Int} (h : t ∈ R.map (·.1)) : ∃ r, lastR R t = some r := by
  unfold lastR
  obtain ⟨r, hr, e⟩ := List.mem_map.mp h
  cases z : (R.filter fun r => decide (r.1 = t)).getLast? with
  | some x => exact ⟨x, rfl⟩
  | none =>
    have := List.getLast?_eq_none_iff.mp z
    have m : r ∈ R.filter fun r => decide (r.1 = t) := List.mem_filter.mpr ⟨hr, decide_eq_true e⟩
    rw [this] at m
    cases m
def ddI : List Int → List Int
  | [] => []
  | x :: r => if x ∈ ddI r then ddI r else x :: ddI r
theorem ddI_mem {x : Int} : ∀ {l : List Int}, x ∈ ddI l ↔ x ∈ l
  | [] => Iff.rfl
  | y :: r => by
    unfold ddI
    split
    · rename_i h
      rw [ddI_mem (l := r), List.mem_cons]
      exact ⟨.inr, fun z => z.elim (fun e => by rw [e]; exact ddI_mem.mp h) id⟩
    · rw [List.mem_cons, List.mem_cons, ddI_mem (l := r)]
theorem ddI_nd : ∀ {l : List Int}, (ddI l).Nodup
  | [] => List.nodup_nil
  | y :: r => by
    unfold ddI
    split
    · exact ddI_nd
    · rename_i h
      exact List.nodup_cons.mpr ⟨h, ddI_nd⟩
def timesR (R : List T3) : List Int := srtF (fun x : Int => x) (ddI (R.map (·.1)))
def histM (R : List T3) : List T3 := (timesR R).filterMap (lastR R)
theorem times_eq {R : List T3} {ys : List Int} (m : ∀ x, x ∈ ys ↔ x ∈ R.map (·.1)) (h : ys.Pairwise (· < ·)) : ys = timesR R :=
  srtF_uniq (fun x : Int => x) (by rw [List.map_id']; exact ddI_nd) (fun x => (m x).trans ddI_mem.symm) h
structure KeyI (kvs : List (Key × V)) (ks : List Int) : Prop where
  e : kvs.map Prod.fst = ks.map Sum.inl
  nd : ks.Nodup
theorem KeyI.put {kvs : List (Key × V)} {ks : List Int} (h : KeyI kvs ks) (t : Int) (v : V) : ∃ ms, KeyI (putK kvs (.inl t) v) ms ∧ (∀ x, x ∈ ms ↔ x ∈ ks ∨ x = t) ∧ ms.length ≤ ks.length + 1 := by
  by_cases c : t ∈ ks
  · refine ⟨ks, ⟨?_, h.nd⟩, fun x => ⟨.inl, ?_⟩, by omega⟩
    · unfold putK
      have : (kvs.any fun kv => decide (kv.1 = (.inl t : Key))) = true := by
        have : (Sum.inl t : Key) ∈ kvs.map Prod.fst := by rw [h.e]; exact List.mem_map.mpr ⟨t, c, rfl⟩
        obtain ⟨p, hp, e⟩ := List.mem_map.mp this
        exact List.any_eq_true.mpr ⟨p, hp, decide_eq_true e⟩
      rw [if_pos this, ← h.e, List.map_map]
      refine List.map_congr_left fun p _ => ?_
      show (if p.1 = (.inl t : Key) then (p.1, v) else p).1 = p.1
      split <;> rfl
    · rintro (z | rfl)
      · exact z
      · exact c
  · refine ⟨ks ++ [t], ⟨?_, ?_⟩, fun x => by simp, by simp⟩
    · rw [putK_new, List.map_append, h.e, List.map_append]
      · rfl
      · rw [h.e]
        intro z
        obtain ⟨y, hy, e⟩ := List.mem_map.mp z
        rw [Sum.inl.inj e] at hy
        exact c hy
    · rw [List.nodup_append]
      exact ⟨h.nd, by simp, fun x hx y hy e => c (by rw [List.mem_singleton.mp hy] at e; rw [← e]; exact hx)⟩

/-- the last row that is no later than T -/
def rowAt (rs : List T3) (T : Int) : Option T3 := (rs.filter fun r => decide (r.1 ≤ T)).getLast?
theorem row_last {rs : List T3} {T : Int} {k : Nat} {r : T3} (e : rs[k]? = some r) (h : r.1 ≤ T) (aft : ∀ j r', k < j → rs[j]? = some r' → ¬ r'.1 ≤ T) : rowAt rs T = some r := by
  unfold rowAt
  obtain ⟨hk, ek⟩ := List.getElem?_eq_some_iff.mp e
  have es : rs = rs.take k ++ (r :: rs.drop (k + 1)) := by
    rw [← ek, List.getElem_cons_drop, List.take_append_drop]
  have e2 : (rs.drop (k + 1)).filter (fun r => decide (r.1 ≤ T)) = [] := by
    refine List.filter_eq_nil_iff.mpr fun x hx z => ?_
    obtain ⟨j, hj, ej⟩ := List.getElem_of_mem hx
    rw [List.getElem_drop] at ej
    rw [List.length_drop] at hj
    exact aft (k + 1 + j) x (by omega) (List.getElem?_eq_some_iff.mpr ⟨by omega, ej⟩) (of_decide_eq_true z)
  rw [es, List.filter_append, List.filter_cons, decide_eq_true h, if_pos rfl, e2, List.getLast?_concat]
theorem row_none {rs : List T3} {T : Int} (h : ∀ (j : Nat) r, rs[j]? = some r → ¬ r.1 ≤ T) : rowAt rs T = none := by
  unfold rowAt
  rw [List.filter_eq_nil_iff.mpr fun x hx z => ?_]
  · rfl
  · obtain ⟨j, hj, ej⟩ := List.getElem_of_mem hx
    exact h j x (List.getElem?_eq_some_iff.mpr ⟨hj, ej⟩) (of_decide_eq_true z)
section
variable {P : Program} {w : World} {K : PySem.W.Frag} {mg : Str → Option Value} {base : Heap} {C D : Addr}
def spHistOf (K : PySem.W.Frag) : Sp := fun vs H Q _ => ∃ (a : Addr) (xs : List V) (R : List T3), vs = [.ref a] ∧ H a = some (.lst xs) ∧ Al f3t H xs R ∧ R.length ≤ 100000 ∧
  ∀ l ys H', Same H H' → H l = none → H' l = some (.lst ys) → Al f3t H' ys (histM R) → Q (.ref l) H'
theorem d_histOf (T : Txt mg) (A : At K mg "history_of" sHistoryOf) : Def P w K mg base "history_of" 1 ["rows"] (spHistOf K) := by
  refine mkDef A scHistoryOf (fun _ _ _ _ _ _ us hl => match us, hl with | [_], _ => rfl) (fun vs H Q E ⟨_, _, _, e, _⟩ => by rw [e]; rfl)
    (fun f cdv A out s H vs Q E hr h => ?_)
  obtain ⟨a, xs, R, rfl, ea, al, lR, k⟩ := h
  have hu : (A.deeper (envOfC "history_of" (defScope sHistoryOf) s.heap.objs.size f cdv)).units + 1 < cLine := hu_of hr
  refine ⟨_, (pss_cons (ps_set (i := 1) scHistoryOf.nd rfl (.inr rfl) (pe_dc (own := [("row", 2)]) (g := gName 2) (tt := tYes) rfl scHistoryOf.nd (pi_sq (pv 0))
        (blkOk_by (own := [("row", 2)]) (N := ["rows", "latest", "row", "time"]) (sc := defScope sHistoryOf) (by decide +kernel))
        (fun _ _ _ _ _ => (pg_name (i := 2) scHistoryOf.nd rfl (.inl rfl))) (fun _ _ _ _ _ => pts_nil)
        (fun _ _ _ _ _ => (pe_ix (r := rIxT K) ix_tup (pv 2) pe_int (fun _ _ => rfl))) (fun _ _ _ _ _ => (pv 2))))
    (pss_one (ps_ret (pe_lc (own := [("time", 3)]) (g := gName 3) (tt := tYes) rfl scHistoryOf.nd (pi_sq (pe_callB (cr_sortD rfl) (by rfl) T.sorted PyProof.Rows.boot_sorted (pa_cons (pv 1) pa_nil)))
        (blkOk_by (own := [("time", 3)]) (N := ["rows", "latest", "row", "time"]) (sc := defScope sHistoryOf) (by decide +kernel))
        (fun _ _ _ _ _ => (pg_name (i := 3) scHistoryOf.nd rfl (.inl rfl))) (fun _ _ _ _ _ => pts_nil)
        (fun _ _ _ _ _ => (pe_dget hu (pv 1) (pv 3) (fun _ _ => rfl))))))), ?_⟩
  refine ⟨_, rfl, a, xs, rfl, .inl (SqL.of ea), fun J G hG wk D hD => ?_⟩
  have hlen := al.length
  refine dc_acc wk hD (by omega) (fun i acc _ => ∃ ks, KeyI acc ks ∧ (∀ x, x ∈ ks ↔ x ∈ (R.take i).map (·.1)) ∧ ks.length ≤ i ∧ ∀ t r, lastR (R.take i) t = some r → ∃ q, valV acc (.inl t) = some (.ref q) ∧ H q = some (.tup (f3t r)))
    ⟨[], ⟨rfl, List.nodup_nil⟩, fun x => by simp, Nat.le_refl _, fun t r e => by simp [lastR] at e⟩ hG ?_ ?_
  · rintro i v H2 H3 acc hi S2 eD hl2 ⟨ks, kk, km, kl, kv⟩ ⟨rfl, hx⟩ Fy Fn hy1 _
    obtain ⟨p, r, rfl, hr', ep⟩ := al.get hx
    refine ⟨rfl, ?_⟩
    unfold tYes
    refine iteT ⟨_, rfl, p, _, 0, .int r.1, rfl, rfl, SqT.of (S2 _ _ ep), rfl, ?_⟩
    refine ⟨_, rfl, hy1 (.inl r.1) _ _ (Same.refl _) ?_⟩
    obtain ⟨ms, h1, h2, h3⟩ := kk.put r.1 (.ref p)
    have e1 : R.take (i + 1) = R.take i ++ [r] := by rw [List.take_add_one, hr']; rfl
    refine ⟨ms, h1, fun x => ?_, by omega, fun t r' e => ?_⟩
    · rw [h2, km, e1, List.map_append, List.mem_append]
      exact or_congr Iff.rfl ⟨fun z => by rw [z]; exact List.mem_singleton.mpr rfl, fun z => List.mem_singleton.mp z⟩
    · rw [e1, lastR_snoc] at e
      rw [valV_put]
      by_cases h : r.1 = t
      · rw [if_pos h] at e
        cases e
        rw [if_pos (by rw [h])]
        exact ⟨p, rfl, ep⟩
      · rw [if_neg h] at e
        rw [if_neg (fun z => h (Sum.inl.inj z).symm)]
        exact kv t r' e
  rintro H2 acc S2 eD ⟨ks, kk, km, kl, kv⟩
  rw [List.take_of_length_le (by omega)] at km kv
  refine ⟨_, rfl, D, acc, ks, rfl, .inl eD, kk.e, by omega, fun ys q hp hs nq => ?_⟩
  have ety : ys = timesR R := by
    refine times_eq (fun x => hp.mem_iff.trans (km x)) ?_
    exact lt_of_le (fun x : Int => x) (by rw [List.map_id']; exact hp.nodup_iff.mpr kk.nd) hs
  have S3 := Same.laid (o := HO.lst (ys.map V.int)) nq
  have eq : upd H2 q (.lst (ys.map V.int)) q = some (.lst (ys.map V.int)) := upd_same
  generalize upd H2 q (.lst (ys.map V.int)) = H3 at *
  refine ⟨q, _, rfl, .inl (SqL.of eq), fun J2 G2 hG2 wk2 F nF => ?_⟩
  refine lc_acc wk2 nF (by rw [List.length_map, hp.length_eq]; omega) (fun i acc2 X => Al f3t H acc2 ((ys.take i).filterMap (lastR R))) .nil hG2 ?_ ?_
  · rintro i v G0 G acc2 hi S eF hl' al2 ⟨rfl, hx⟩ Fy Fn hy1 _
    rw [List.getElem?_map] at hx
    cases hy : ys[i]? with
    | none => rw [hy] at hx; cases hx
    | some t =>
      rw [hy] at hx
      cases hx
      obtain ⟨r, er⟩ := lastR_some ((km t).mp (hp.mem_iff.mp (List.mem_of_getElem? hy)))
      obtain ⟨q3, ev, e3⟩ := kv t r er
      refine ⟨rfl, ?_⟩
      unfold tYes
      refine iteT ⟨_, rfl, _, rfl, D, .ref q3, rfl, .inl ⟨_, .inl t, .inl ((S3.trans S) _ _ eD), rfl, ev.symm⟩, hy1 _ _ (Same.refl _) ?_⟩
      rw [List.take_add_one, hy, List.filterMap_append]
      show Al f3t H _ (_ ++ List.filterMap (lastR R) [t])
      rw [show List.filterMap (lastR R) [t] = [r] by simp [er]]
      exact al2.snoc e3
  rintro H4 acc2 S4 eF al2
  rw [List.length_map, List.take_length, ety] at al2
  have SF := S2.trans (S3.trans S4)
  exact k F acc2 _ SF (Same.no (S2.trans S3) nF) eF (al2.same SF)
def spRowAt (K : PySem.W.Frag) : Sp := fun vs H Q _ => ∃ (a : Addr) (xs : List V) (rs : List T3) (T : Int), vs = [.ref a, .int T] ∧ H a = some (.lst xs) ∧ Al f3t H xs rs ∧ (rowAt rs T = none → Q .non H) ∧ (∀ r q, rowAt rs T = some r → H q = some (.tup (f3t r)) → Q (.ref q) H)
theorem d_rowAt (T : Txt mg) (A : At K mg "row_at" sRowAt) : Def P w K mg base "row_at" 1 ["history", "at"] (spRowAt K) := by
  refine mkDef A scRowAt (fun _ _ _ _ _ _ us hl => match us, hl with | [_, _], _ => rfl) (fun vs H Q E ⟨_, _, _, _, e, _⟩ => by rw [e]; rfl)
    (fun f cdv A out s H vs Q E hr h => ?_)
  obtain ⟨a, vs, rs, T', rfl, eL, al, k1, k2⟩ := h
  refine ⟨_, (pss_cons (ps_for PassesOwn.never rfl (RT.pi_revA (by rfl) T.reversed (pv 0)) (pg_name (i := 2) scRowAt.nd rfl (.inl rfl))
      (pss_one (ps_if (pt_cmpR op_le (pe_ix (r := rIxT K) ix_tup (pv 2) pe_int (fun _ _ => rfl)) (pv 1) (nomark _))
        (pss_one (ps_ret (pv 2)))
        pss_nil)))
    (pss_one (ps_ret pe_non))), ?_⟩
  refine ⟨_, rfl, a, vs, rfl, .inl ⟨SqL.of eL, ?_⟩⟩
  refine for_it (walk_rev (K := K) (a := a) (xs := vs)) (fun i σ G => (∃ v2 : Option V, σ = [some (.ref a), some (.int T'), v2]) ∧ G = H ∧ ∀ (j : Nat) r, vs.length - i ≤ j → rs[j]? = some r → ¬ r.1 ≤ T') ?_ (fun i σ G _ h => h.2.1 ▸ SqL.of eL) ?_ ?_
  · refine ⟨⟨none, rfl⟩, rfl, fun j r hj e => ?_⟩
    have h1 := (List.getElem?_eq_some_iff.mp e).1
    have h2 := al.length
    omega
  · rintro i v σ G0 G hi ⟨⟨v2, rfl⟩, rfl, inv⟩ ⟨rfl, hx⟩
    obtain ⟨q, r, rfl, hr', eq⟩ := al.get hx
    refine ⟨_, rfl, q, _, 0, .int r.1, rfl, rfl, SqT.of eq, rfl, _, rfl, r.1, T', rfl, rfl, _, rfl, ?_⟩
    by_cases h : r.1 ≤ T'
    · rw [decide_eq_true h]
      refine iteT ⟨_, rfl, k2 r q (row_last hr' h fun j r' hj e => inv j r' (by omega) e) eq⟩
    · rw [decide_eq_false h]
      refine iteF ⟨⟨_, rfl⟩, rfl, fun j r' hj e => ?_⟩
      by_cases hj2 : j = vs.length - 1 - i
      · subst hj2
        rw [hr'] at e
        cases e
        exact h
      · exact inv j r' (by omega) e
  · rintro σ G ⟨⟨v2, rfl⟩, rfl, inv⟩
    exact k1 (row_none fun j r e => inv j r (by omega) e)
end
end V45

namespace Pw
open PySem PySem.Spec PyProof.Rows L2
/-- a list or a tuple, by a word of one's own that keeps it -/
def iSqG (K : PySem.W.Frag) (tl : TE) : TI := fun σ H R => tl σ H fun x H1 => ∃ a xs, ∃ g : Hp → Prop, x = .ref a ∧ g H1 ∧ ((∀ H', g H' → SqL K H' a xs) ∨ (∀ H', g H' → SqT K H' a xs)) ∧
  ∀ (J : It) (G : Hp → Prop), (∀ H', g H' → G H') → Walk J xs.length G (YAt xs) → R J H1
theorem pi_sqG {X : Cx} {tg l : Expr} {tl : TE} (hl : PE X l tl) : PI X tg l (iSqG X.K tl) := by
  refine ⟨fun pins s σ H R I h => ?_⟩
  refine thn (hl.run pins s σ H _ I h) fun v s1 hv => ?_
  obtain ⟨x, H1, I1, r1, a, xs, g, rfl, g1, hs, q⟩ := hv
  obtain rfl : v = Value.ref a := r1
  rcases hs with hq | hq
  · obtain ⟨its, rv, p, hz⟩ := I1.list (hq _ g1)
    refine wpAny_pyIter_list (PlainL.isList p) ⟨s1.heap.objs.size, [s1.heap.objs.size], fun i h => h.IsListIter s1.heap.objs.size a i, Itl X.K a, H1, rfl, I1.kept fun b o e => Heap.get?_push_of_some _ e, turn_list a _,
      ⟨_, Heap.get?_push_size _ rfl, rfl, rfl⟩, fun b hb => ?_, q _ (fun H => SqL X.K H a xs) hq walk_list⟩
    rw [List.mem_singleton.mp hb]
    exact I1.fpOk (Nat.le_refl _) (HOk.fresh I1.hok (Nat.le_refl _))
  · obtain ⟨its, rv, p, hz⟩ := I1.tuple (hq _ g1)
    refine wpAny_pyIter_tuple p ⟨s1.heap.objs.size, [s1.heap.objs.size], fun i h => h.IsTupleIter s1.heap.objs.size a i, Itt X.K a, H1, rfl, I1.kept fun b o e => Heap.get?_push_of_some _ e, turn_tuple a _,
      ⟨_, Heap.get?_push_size _ rfl, rfl, rfl⟩, fun b hb => ?_, q _ (fun H => SqT X.K H a xs) hq walk_tup⟩
    rw [List.mem_singleton.mp hb]
    exact I1.fpOk (Nat.le_refl _) (HOk.fresh I1.hok (Nat.le_refl _))
theorem Sq.ok {K : PySem.W.Frag} {H : Hp} {a : Addr} {xs : List V} (h : Sq K H a xs) : (∀ H', Same H H' → SqL K H' a xs) ∨ (∀ H', Same H H' → SqT K H' a xs) :=
  h.imp (fun z H' S => Same.seq S z) fun z H' S => z.imp (fun r => Rd_same S r) id
end Pw

namespace V45
open PySem PySem.Spec PyProof.Rows L2 Pw
/-! ### a point's history, hands, what is shown -/
theorem filt_last {α : Type} {p : α → Bool} {rs : List α} {k : Nat} {r : α} (e : rs[k]? = some r) (h : p r = true) (aft : ∀ (j : Nat) r', k < j → rs[j]? = some r' → p r' = false) : (rs.filter p).getLast? = some r := by
  obtain ⟨hk, ek⟩ := List.getElem?_eq_some_iff.mp e
  have es : rs = rs.take k ++ (r :: rs.drop (k + 1)) := by
    rw [← ek, List.getElem_cons_drop, List.take_append_drop]
  have e2 : (rs.drop (k + 1)).filter p = [] := by
    refine List.filter_eq_nil_iff.mpr fun x hx z => ?_
    obtain ⟨j, hj, ej⟩ := List.getElem_of_mem hx
    rw [List.getElem_drop] at ej
    rw [List.length_drop] at hj
    have := aft (k + 1 + j) x (by omega) (List.getElem?_eq_some_iff.mpr ⟨by omega, ej⟩)
    rw [this] at z
    cases z
  rw [es, List.filter_append, List.filter_cons, h, if_pos rfl, e2, List.getLast?_concat]
theorem filt_none {α : Type} {p : α → Bool} {rs : List α} (h : ∀ (j : Nat) r, rs[j]? = some r → p r = false) : (rs.filter p).getLast? = none := by
  rw [List.filter_eq_nil_iff.mpr fun x hx z => ?_]
  · rfl
  · obtain ⟨j, hj, ej⟩ := List.getElem_of_mem hx
    have := h j x (List.getElem?_eq_some_iff.mpr ⟨hj, ej⟩)
    rw [this] at z
    cases z
theorem al_tri {H : Hp} {vs : List V} {rs : List Sg} (h : Al f3s H vs rs) : Al f3t H vs (rs.map tri) := by
  induction h with
  | nil => exact .nil
  | cons e t ih => exact .cons e ih
theorem LtAt.butL {H H' : Hp} {q d : Addr} {L : Lt} {xs : List V} (h : LtAt H q L) (e : H d = some (.lst xs)) (B : But d H H') : LtAt H' q L := by
  obtain ⟨rt, vs, e1, e2, al⟩ := h
  refine ⟨rt, vs, B.at (fun z => ?_) e1, B.at (fun z => ?_) e2, al.imp fun a xs ea => B.at (fun z => ?_) ea⟩
  · rw [z, e] at e1; cases e1
  · rw [z, e] at e2; cases e2
  · rw [z, e] at ea; cases ea
theorem al_but {α : Type} {f : α → List V} {H H' : Hp} {d : Addr} {xs : List V} {vs : List V} {rs : List α} (h : Al f H vs rs) (e : H d = some (.lst xs)) (B : But d H H') : Al f H' vs rs :=
  h.imp fun a ys ea => B.at (fun z => by rw [z, e] at ea; cases ea) ea
/-- the rows of a point, in all letters of its place -/
def rowsL (ls : List LA) (pt : Pt) : List T3 := (ofPl ls pt.pl).flatMap fun x => (rowsM x.1 pt.nm).map tri
def cntH (nm : Str) (at_ : Int) (h : Hd) : Bool := decide (h.nm = nm) && (decide (h.a ≤ at_) && decide (at_ < h.b))
def lastHd (hs : List Hd) (nm : Str) (at_ : Int) : Option Hd := (hs.filter (cntH nm at_)).getLast?
def showM (ls : List LA) (hs : List Hd) (pt : Pt) (at_ : Int) : List V := match lastHd hs pt.nm at_ with
  | some h => [.int h.w, .int h.a, .str "good", .str "hand"]
  | none => match rowAt (histM (rowsL ls pt)) at_ with
    | none => [.non, .non, .non, .str (stW (sureB ls pt.pl at_))]
    | some r => [.int r.2.1, .int r.1, .str r.2.2, .str (stW (sureB ls pt.pl at_))]
theorem flat_len {α β : Type} (f : α → List β) (n : Nat) : ∀ {l : List α}, (∀ x ∈ l, (f x).length ≤ n) → (l.flatMap f).length ≤ n * l.length
  | [], _ => by simp
  | x :: r, h => by
    rw [List.flatMap_cons, List.length_append, List.length_cons, Nat.mul_succ]
    have := h x List.mem_cons_self
    have := flat_len f n (l := r) fun y hy => h y (List.mem_cons_of_mem _ hy)
    omega
section
variable {P : Program} {w : World} {K : PySem.W.Frag} {mg : Str → Option Value} {base : Heap} {C D : Addr}
def spHistory (C D : Addr) (K : PySem.W.Frag) : Sp := fun vs H Q _ => ∃ p wa hd hl ls hs W ps pt, vs = [.ref p, .str (Pt.nm pt)] ∧ HeAt D H p wa hd hl ls hs ∧ WoP K C H wa W ps ∧ pt ∈ ps ∧ (∀ x ∈ ls, x.1.rs.length ≤ 12) ∧
  ∀ l ys H', Same H H' → H l = none → H' l = some (.lst ys) → Al f3t H' ys (histM (rowsL ls pt)) → Q (.ref l) H'
theorem d_history (W : HeC K D) (Wc : WoC K C) (A : AtMt K D "history" "Hearing.history" mHearing_History) (dL : DefM P w K mg base D "_letters_of" 1 ["self", "place"] (spLtsOf D))
    (dpt : DefM P w K mg base C "point" 3 ["self", "name"] (spPoint C K)) (dri : Def P w K mg base "rows_in" 1 ["letter", "point"] spRowsIn) (dho : Def P w K mg base "history_of" 1 ["rows"] (spHistOf K)) :
    DefM P w K mg base D "history" 4 ["self", "point"] (spHistory C D K) := by
  refine mkDefM A scmHearing_History (fun _ _ _ _ _ _ us hl => match us, hl with | [_, _], _ => rfl) (fun vs H Q E ⟨_, _, _, _, _, _, _, _, _, e, _⟩ => by rw [e]; rfl)
    (fun f cdv A out s H vs Q E hr h => ?_)
  obtain ⟨p, wa, hd, hl, ls, hs, Wk, ps, pt, rfl, he, hw, hpt, l12, k⟩ := h
  refine ⟨_, (pss_cons (ps_set (i := 2) scmHearing_History.nd rfl (.inl rfl) (pe_lst pa_nil))
    (pss_cons (ps_for PassesOwn.never rfl (pi_sqG (pe_mm (pv 0) W.cl dL hr (by decide) (pa_cons (pe_ix ix_tup (pe_mm (pe_fld (pv 0) rfl) Wc.cl dpt hr (by decide) (pa_cons (pv 1) pa_nil)) pe_int (fun _ _ => rfl)) pa_nil))) (pg_name (i := 3) scmHearing_History.nd rfl (.inl rfl))
      (pss_one (ps_expr (pe_bm PySem.F.plainAttrs_list PySem.F.slot_list_extend PySem.F.type_list_extend mt_extend (pv 2) (pa_cons (pe_d dri hr (by decide) (by rfl) (pa_cons (pv 3) (pa_cons (pv 1) pa_nil))) pa_nil)))))
    (pss_one (ps_ret (pe_d dho hr (by decide) (by rfl) (pa_cons (pv 2) pa_nil)))))), ?_⟩
  refine ⟨by show 0 ≤ sizeLine; decide, fun F nF => ?_⟩
  have S1 := Same.laid (o := HO.lst []) nF
  have eF : upd H F (.lst []) F = some (.lst []) := upd_same
  generalize upd H F (.lst []) = H1 at *
  have he1 := he.same S1
  have hw1 := hw.same S1
  obtain ⟨dx, vs, e1, e2, e3, _⟩ := he1.ex
  obtain ⟨dxw, tp, dp', tr, dr, tc, tm, dm, tl, e0, _⟩ := hw1.wo.ex
  refine ⟨_, rfl, p, dx, _, rfl, e1, hef_no (by decide +kernel) (by decide +kernel) (by decide +kernel), _, rfl, p, D, dx, _, _, rfl, e1, W.cl, W.nW, hef_works, wa, dxw, _, rfl, e0, wof_no (by decide +kernel) (by decide +kernel) (by decide +kernel) (by decide +kernel) (by decide +kernel) (by decide +kernel) (by decide +kernel) (by decide +kernel), _, rfl, wa, Wk, ps, pt, rfl, hw1, hpt, fun q2 H2 S2 eq2 => ?_⟩
  have he2 := he1.same S2
  refine ⟨q2, _, 1, .str pt.pl, rfl, rfl, SqT.of eq2, rfl, p, wa, hd, hl, ls, hs, pt.pl, rfl, he2, fun l H3 S3 nl el => ?_⟩
  have he3 := he2.same S3
  have eF3 := (S2.trans S3) _ _ eF
  have few := he.few
  have lenO := ofPl_len (ls := ls) (pl := pt.pl)
  have bnd : ∀ i, (((ofPl ls pt.pl).take i).flatMap fun x => (rowsM x.1 pt.nm).map tri).length ≤ 12000 := fun i => by
    have := flat_len (fun x : LA => (rowsM x.1 pt.nm).map tri) 12 (l := (ofPl ls pt.pl).take i) fun x hx => by
      rw [List.length_map]
      exact Nat.le_trans (List.length_filter_le _ _) (l12 x (ofPl_mem.mp (List.mem_of_mem_take hx)).1)
    have l2 : ((ofPl ls pt.pl).take i).length ≤ 1000 := by rw [List.length_take]; omega
    omega
  have nFl : l ≠ F := fun z => by
    have := S2 _ _ eF
    rw [← z, nl] at this
    cases this
  refine ⟨l, _, But F H3, rfl, But.refl, .inl (fun X B => SqL.of (B.at nFl el)), fun J G hG wk => ?_⟩
  refine for_it wk (fun i σ X => (∃ v3 : Option V, σ = [some (.ref p), some (.str pt.nm), some (.ref F), v3]) ∧ But F H3 X ∧ ∃ ys, X F = some (.lst ys) ∧ Al f3t X ys (((ofPl ls pt.pl).take i).flatMap fun x => (rowsM x.1 pt.nm).map tri))
    ⟨⟨_, rfl⟩, But.refl, [], eF3, .nil⟩ (fun i σ X _ h => hG X h.2.1) ?_ ?_
  · rintro i v σ G0 X hi ⟨⟨v3, rfl⟩, BX, ys, eX, al⟩ ⟨rfl, hx⟩
    rw [List.getElem?_map] at hx
    cases hy : (ofPl ls pt.pl)[i]? with
    | none => rw [hy] at hx; cases hx
    | some y =>
      rw [hy] at hx
      cases hx
      obtain ⟨hy1, hy2⟩ := ofPl_mem.mp (List.mem_of_getElem? hy)
      refine ⟨_, rfl, .inl ⟨rfl, _, SqL.of eX⟩, _, rfl, _, rfl, y.2, y.1, pt.nm, rfl, (he3.at_ y hy1).butL eF3 BX, l12 y hy1, fun l2 vs' X2 SX2 nl2 el2 al2 => ?_⟩
      have b1 := bnd i
      have b2 := al.length
      have b3 := al2.length
      have b4 : (rowsM y.1 pt.nm).length ≤ 12 := Nat.le_trans (List.length_filter_le _ _) (l12 y hy1)
      refine ⟨F, l2, ys, vs', rfl, rfl, SX2 _ _ eX, el2, Nat.le_trans (show ys.length + vs'.length ≤ 12012 by omega) (by decide), ⟨_, rfl⟩, BX.trans ((Same.but SX2).trans But.set), ys ++ vs', upd_same, ?_⟩
      rw [List.take_add_one, hy, List.flatMap_append]
      refine Al.append ?_ ?_
      · exact al_but (al.same SX2) (SX2 _ _ eX) But.set
      · show Al f3t _ vs' (List.flatMap (fun x => (rowsM x.1 pt.nm).map tri) [y])
        rw [List.flatMap_cons, List.flatMap_nil, List.append_nil]
        exact al_but (al_tri al2) (SX2 _ _ eX) But.set
  rintro σ X ⟨⟨v3, rfl⟩, BX, ys, eX, al⟩
  rw [List.length_map, List.take_length] at al
  have b2 := al.length
  have b3 := bnd (ofPl ls pt.pl).length
  rw [List.take_length] at b3
  have SX : Same H X := fun b o e => by
    have n : b ≠ F := fun z => by rw [z, nF] at e; cases e
    exact BX.at n ((S1.trans (S2.trans S3)) _ _ e)
  refine ⟨_, rfl, F, ys, _, rfl, eX, al, by omega, fun l5 ys5 H5 S5 nl5 el5 al5 => ?_⟩
  exact k l5 ys5 H5 (SX.trans S5) (Same.no SX nl5) el5 al5
end
end V45

namespace V45
open PySem PySem.Spec PyProof.Rows L2 Pw
/-! ### hands, and what is shown -/
section
variable {P : Program} {w : World} {K : PySem.W.Frag} {mg : Str → Option Value} {base : Heap} {C D : Addr}
def spIxH (D : Addr) : Sp := fun vs H Q _ => ∃ p wa hd hl ls hs nm at_, vs = [.ref p, .str nm, .int at_] ∧ HeAt D H p wa hd hl ls hs ∧ (lastHd hs nm at_ = none → Q .non H) ∧
  ∀ (i : Nat) h, hs[i]? = some h → lastHd hs nm at_ = some h → Q (.int i) H
theorem d_ixH (T : Txt mg) (W : HeC K D) (A : AtMt K D "_index_of_hand" "Hearing._index_of_hand" mHearing_IndexOfHand) : DefM P w K mg base D "_index_of_hand" 1 ["self", "point", "at"] (spIxH D) := by
  refine mkDefM A scmHearing_IndexOfHand (fun _ _ _ _ _ _ us hl => match us, hl with | [_, _, _], _ => rfl) (fun vs H Q E ⟨_, _, _, _, _, _, _, _, e, _⟩ => by rw [e]; rfl)
    (fun f cdv A out s H vs Q E hr h => ?_)
  obtain ⟨p, wa, hd, hl, ls, hs, nm, at_, rfl, he, k1, k2⟩ := h
  refine ⟨_, (pss_cons (ps_for PassesOwn.never rfl (pi_revR (by rfl) T.reversed (prg_1 (by rfl) T.range (pe_callB call_len_seq (by rfl) T.len PySem.boot_len (pa_cons (pe_fld (pv 0) rfl) pa_nil)))) (pg_name (i := 3) scmHearing_IndexOfHand.nd rfl (.inl rfl))
      (pss_cons (ps_asg (pe_ix ix_list (pe_fld (pv 0) rfl) (pv 3) (fun _ _ => rfl)) (pg_tup (by rfl) (pgs_cons (pg_name (i := 4) scmHearing_IndexOfHand.nd rfl (.inl rfl)) (pgs_cons (pg_name (i := 5) scmHearing_IndexOfHand.nd rfl (.inl rfl)) (pgs_cons (pg_name (i := 6) scmHearing_IndexOfHand.nd rfl (.inl rfl)) (pgs_cons (pg_name (i := 7) scmHearing_IndexOfHand.nd rfl (.inl rfl)) pgs_nil))))))
      (pss_one (ps_if (PW.pt (pw_and (pt_cmpR op_eq (pv 4) (pv 1) (nomark _)) (pw_and1 (pt_chain op_le op_lt (pv 6) (pv 2) (pv 7)))))
        (pss_one (ps_ret (pv 3)))
        pss_nil))))
    (pss_one (ps_ret pe_non))), ?_⟩
  obtain ⟨dx, vs, e1, e2, e3, al⟩ := he.ex
  have hlen := al.length
  have fewH := he.fewH
  refine ⟨_, rfl, p, D, dx, _, _, rfl, e1, W.cl, W.nL, hef_hands, hl, vs, rfl, .inl (SqL.of e3), _, rfl, by decide, by decide, by omega, by omega, ?_⟩
  rw [show ((vs.length : Int) - 0).toNat = vs.length by omega]
  refine for_it (walk_rangeC (n := vs.length)) (fun i σ X => (∃ v3 v4 v5 v6 v7 : Option V, σ = [some (.ref p), some (.str nm), some (.int at_), v3, v4, v5, v6, v7]) ∧ X = H ∧ ∀ (j : Nat) h, vs.length - i ≤ j → hs[j]? = some h → cntH nm at_ h = false) ?_ (fun _ _ _ _ _ => trivial) ?_ ?_
  · refine ⟨⟨_, _, _, _, _, rfl⟩, rfl, fun j h hj e => ?_⟩
    have := (List.getElem?_eq_some_iff.mp e).1
    omega
  · rintro i v σ G0 X hi ⟨⟨v3, v4, v5, v6, v7, rfl⟩, rfl, inv⟩ ⟨rfl, rfl⟩
    have ej : (0 : Int) + ((vs.length : Nat) : Int) - 1 + ((i : Nat) : Int) * (-1) = ((vs.length - 1 - i : Nat) : Int) := by omega
    dsimp only
    rw [ej]
    have hj : vs.length - 1 - i < hs.length := by omega
    obtain ⟨q, hq, eq⟩ := al.at (List.getElem?_eq_getElem hj)
    generalize hh : hs[vs.length - 1 - i] = h0 at eq
    have ehs : hs[vs.length - 1 - i]? = some h0 := by rw [List.getElem?_eq_getElem hj, hh]
    refine ⟨_, rfl, p, D, dx, _, _, rfl, e1, W.cl, W.nL, hef_hands, _, rfl, hl, _, _, .ref q, rfl, rfl, SqL.of e3, atI_nat hq, q, _, rfl, SqT.of eq, rfl, _, _, rfl, _, _, rfl, _, _, rfl, _, _, rfl, rfl, ?_⟩
    refine ⟨_, rfl, _, rfl, rfl, _, rfl, ?_⟩
    rw [str_dec]
    have no : cntH nm at_ h0 = false → ∀ (j : Nat) h, vs.length - (i + 1) ≤ j → hs[j]? = some h → cntH nm at_ h = false := fun hc j h hj' e => by
      by_cases hj2 : j = vs.length - 1 - i
      · rw [hj2, ehs] at e
        cases e
        exact hc
      · exact inv j h (by omega) e
    by_cases c1 : h0.nm = nm
    · rw [decide_eq_true c1]
      refine iteT ?_
      refine ⟨_, rfl, _, rfl, h0.a, at_, rfl, rfl, _, rfl, ?_⟩
      by_cases c2 : h0.a ≤ at_
      · rw [decide_eq_true c2]
        refine iteT ⟨_, rfl, at_, h0.b, rfl, rfl, _, rfl, ?_⟩
        by_cases c3 : at_ < h0.b
        · rw [decide_eq_true c3]
          refine iteT ⟨_, rfl, ?_⟩
          refine k2 (vs.length - 1 - i) h0 ehs (filt_last ehs ?_ fun j r' hj' e => inv j r' (by omega) e)
          unfold cntH
          rw [decide_eq_true c1, decide_eq_true c2, decide_eq_true c3]
          rfl
        · rw [decide_eq_false c3]
          refine iteF ⟨⟨_, _, _, _, _, rfl⟩, rfl, no ?_⟩
          unfold cntH
          rw [decide_eq_false c3, Bool.and_false, Bool.and_false]
      · rw [decide_eq_false c2]
        refine iteF ⟨_, rfl, ?_⟩
        refine iteF ⟨⟨_, _, _, _, _, rfl⟩, rfl, no ?_⟩
        unfold cntH
        rw [decide_eq_false c2, Bool.false_and, Bool.and_false]
    · rw [decide_eq_false c1]
      refine iteF ?_
      refine iteF ⟨⟨_, _, _, _, _, rfl⟩, rfl, no ?_⟩
      unfold cntH
      rw [decide_eq_false c1, Bool.false_and]
  · rintro σ X ⟨⟨v3, v4, v5, v6, v7, rfl⟩, rfl, inv⟩
    exact k1 (filt_none fun j r e => inv j r (by omega) e)
end
end V45

namespace V45
open PySem PySem.Spec PyProof.Rows L2 Pw
/-! ### a hand put in, and what is shown -/
theorem HeAt.hand {D : Addr} {H : Hp} {p wa hd hl q : Addr} {ls : List LA} {hs : List Hd} {h : Hd} {vs : List V} (he : HeAt D H p wa hd hl ls hs) (e : H hl = some (.lst vs)) (eq : H q = some (.tup (fHd h))) (few : hs.length < 1000) :
    HeAt D (upd H hl (.lst (vs ++ [.ref q]))) p wa hd hl ls (hs ++ [h]) := by
  obtain ⟨dx, vs', e1, e2, e3, al⟩ := he.ex
  rw [e] at e3
  cases e3
  have B : But hl H (upd H hl (.lst (vs ++ [.ref q]))) := But.set
  refine ⟨⟨dx, _, B.at (fun z => ?_) e1, B.at (fun z => ?_) e2, upd_same, ?_⟩, fun x hx => (he.at_ x hx).butL e B, he.nd, he.few, by rw [List.length_append, List.length_singleton]; omega⟩
  · rw [z, e] at e1; cases e1
  · rw [z, e] at e2; cases e2
  · exact (al_but al e B).snoc (B.at (fun z => by rw [z, e] at eq; cases eq) eq)
section
variable {P : Program} {w : World} {K : PySem.W.Frag} {mg : Str → Option Value} {base : Heap} {C D : Addr}
def spHand (C D : Addr) (K : PySem.W.Frag) : Sp := fun vs H Q _ => ∃ p wa hd hl ls hs W ps pt n a b, vs = [.ref p, .str (Pt.nm pt), .int n, .int a, .int b] ∧ HeAt D H p wa hd hl ls hs ∧ WoP K C H wa W ps ∧ pt ∈ ps ∧ (0 ≤ n ∧ n ≤ hiP pt) ∧ (0 ≤ a ∧ a < b ∧ b ≤ 9999) ∧ hs.length < 1000 ∧
  ∀ H', But hl H H' → HeAt D H' p wa hd hl ls (hs ++ [⟨pt.nm, n, a, b⟩]) → Q .non H'
theorem d_hand (W : HeC K D) (Wc : WoC K C) (A : AtMt K D "hand" "Hearing.hand" mHearing_Hand) (dw : DefM P w K mg base C "is_worth" 5 ["self", "point", "thing"] (spIsWorth C K))
    (dt : Def P w K mg base "check_time" 5 ["thing"] (spChkT K)) : DefM P w K mg base D "hand" 6 ["self", "point", "worth", "since", "end"] (spHand C D K) := by
  refine mkDefM A scmHearing_Hand (fun _ _ _ _ _ _ us hl => match us, hl with | [_, _, _, _, _], _ => rfl) (fun vs H Q E ⟨_, _, _, _, _, _, _, _, _, _, _, _, e, _⟩ => by rw [e]; rfl)
    (fun f cdv A out s H vs Q E hr h => ?_)
  obtain ⟨p, wa, hd, hl, ls, hs, Wk, ps, pt, n, a, b, rfl, he, hw, hpt, ⟨n0, n1⟩, ⟨a0, ab, b9⟩, few, k⟩ := h
  refine ⟨_, (pss_cons (ps_if (pt_not (pt_val (pe_mm (pe_fld (pv 0) rfl) Wc.cl dw hr (by decide) (pa_cons (pv 1) (pa_cons (pv 2) pa_nil)))))
      (pss_one ps_never)
      pss_nil)
    (pss_cons (ps_expr (pe_d dt hr (by decide) (by rfl) (pa_cons (pv 3) pa_nil)))
    (pss_cons (ps_expr (pe_d dt hr (by decide) (by rfl) (pa_cons (pv 4) pa_nil)))
    (pss_cons (ps_if (pt_cmpR op_le (pv 4) (pv 3) (nomark _))
      (pss_one ps_never)
      pss_nil)
    (pss_one (ps_expr (pe_bm PySem.F.plainAttrs_list PySem.F.slot_list_append PySem.F.type_list_append mt_append (pe_fld (pv 0) rfl) (pa_cons (pe_tup (pa_cons (pv 1) (pa_cons (pv 2) (pa_cons (pv 3) (pa_cons (pv 4) pa_nil))))) pa_nil)))))))), ?_⟩
  obtain ⟨dx, vs, e1, e2, e3, _⟩ := he.ex
  obtain ⟨dxw, tp, dp', tr, dr, tc, tm, dm, tl, e0, _⟩ := hw.wo.ex
  refine ⟨_, rfl, p, D, dx, _, _, rfl, e1, W.cl, W.nW, hef_works, wa, dxw, _, rfl, e0, wof_no (by decide +kernel) (by decide +kernel) (by decide +kernel) (by decide +kernel) (by decide +kernel) (by decide +kernel) (by decide +kernel) (by decide +kernel), _, rfl, _, rfl, wa, Wk, ps, pt, .int n, _, rfl, hw, hpt, (fun H' => .int _), fun H1 S1 => ?_⟩
  refine ⟨true, congrArg V.bl (whole_in n0 n1), iteF ?_⟩
  refine ⟨_, rfl, a, rfl, a0, by omega, ?_⟩
  refine ⟨_, rfl, b, rfl, by omega, b9, ?_⟩
  refine ⟨_, rfl, _, rfl, b, a, rfl, rfl, _, rfl, ?_⟩
  rw [decide_eq_false (show ¬ b ≤ a by omega)]
  refine iteF ?_
  have he1 := he.same S1
  obtain ⟨dx1, vs1, f1, f2, f3, al1⟩ := he1.ex
  have hlen := al1.length
  refine ⟨_, rfl, p, D, dx1, _, _, rfl, f1, W.cl, W.nL, hef_hands, .inl ⟨rfl, _, SqL.of f3⟩, _, rfl, _, rfl, _, rfl, _, rfl, by show 4 ≤ sizeLine; decide, fun t nt => ?_⟩
  have S2 := Same.laid (o := HO.tup [.str pt.nm, .int n, .int a, .int b]) nt
  have et : upd H1 t (.tup [.str pt.nm, .int n, .int a, .int b]) t = some (.tup (fHd ⟨pt.nm, n, a, b⟩)) := upd_same
  generalize upd H1 t (.tup [.str pt.nm, .int n, .int a, .int b]) = H2 at *
  refine ⟨hl, vs1, .ref t, rfl, rfl, S2 _ _ f3, Nat.lt_of_le_of_lt (show vs1.length ≤ 1000 by omega) (by decide), ?_⟩
  exact k _ ((Same.but (S1.trans S2)).trans But.set) ((he1.same S2).hand (S2 _ _ f3) et few)
def spShow (C D : Addr) (K : PySem.W.Frag) : Sp := fun vs H Q _ => ∃ p wa hd hl ls hs W ps pt at_, vs = [.ref p, .str (Pt.nm pt), .int at_] ∧ HeAt D H p wa hd hl ls hs ∧ WoP K C H wa W ps ∧ pt ∈ ps ∧ (0 ≤ at_ ∧ at_ ≤ 9999) ∧
  (∀ x ∈ ls, x.1.rs.length ≤ 12) ∧ (∀ x ∈ ls, x.1.no ≤ 40) ∧ ∀ q H', Same H H' → H' q = some (.tup (showM ls hs pt at_)) → Q (.ref q) H'
theorem d_show (W : HeC K D) (Wc : WoC K C) (A : AtMt K D "show" "Hearing.show" mHearing_Show) (dcp : Def P w K mg base "check_point" 3 ["works", "thing"] (spChkP C K)) (dt : Def P w K mg base "check_time" 5 ["thing"] (spChkT K))
    (di : DefM P w K mg base D "_index_of_hand" 1 ["self", "point", "at"] (spIxH D)) (ds : DefM P w K mg base D "_state" 5 ["self", "place", "at"] (spState C D K)) (dpt : DefM P w K mg base C "point" 3 ["self", "name"] (spPoint C K))
    (dh : DefM P w K mg base D "history" 4 ["self", "point"] (spHistory C D K)) (dr : Def P w K mg base "row_at" 1 ["history", "at"] (spRowAt K)) : DefM P w K mg base D "show" 6 ["self", "point", "at"] (spShow C D K) := by
  refine mkDefM A scmHearing_Show (fun _ _ _ _ _ _ us hl => match us, hl with | [_, _, _], _ => rfl) (fun vs H Q E ⟨_, _, _, _, _, _, _, _, _, _, e, _⟩ => by rw [e]; rfl)
    (fun f cdv A out s H vs Q E hr h => ?_)
  obtain ⟨p, wa, hd, hl, ls, hs, Wk, ps, pt, at_, rfl, he, hw, hpt, ⟨t0, t9⟩, l12, le40, k⟩ := h
  refine ⟨_, (pss_cons (ps_expr (pe_d dcp hr (by decide) (by rfl) (pa_cons (pe_fld (pv 0) rfl) (pa_cons (pv 1) pa_nil))))
    (pss_cons (ps_expr (pe_d dt hr (by decide) (by rfl) (pa_cons (pv 2) pa_nil)))
    (pss_cons (ps_set (i := 3) scmHearing_Show.nd rfl (.inl rfl) (pe_mm (pv 0) W.cl di hr (by decide) (pa_cons (pv 1) (pa_cons (pv 2) pa_nil))))
    (pss_cons (ps_if (pt_cmpR op_notN (pv 3) pe_non (nomark _))
      (pss_cons (ps_asg (pe_ix ix_list (pe_fld (pv 0) rfl) (pv 3) (fun _ _ => rfl)) (pg_tup (by rfl) (pgs_cons (pg_name (i := 4) scmHearing_Show.nd rfl (.inl rfl)) (pgs_cons (pg_name (i := 5) scmHearing_Show.nd rfl (.inl rfl)) (pgs_cons (pg_name (i := 6) scmHearing_Show.nd rfl (.inl rfl)) (pgs_cons (pg_name (i := 4) scmHearing_Show.nd rfl (.inl rfl)) pgs_nil))))))
      (pss_one (ps_ret (pe_tup (pa_cons (pv 5) (pa_cons (pv 6) (pa_cons pe_str (pa_cons pe_str pa_nil))))))))
      pss_nil)
    (pss_cons (ps_set (i := 7) scmHearing_Show.nd rfl (.inl rfl) (pe_mm (pv 0) W.cl ds hr (by decide) (pa_cons (pe_ix ix_tup (pe_mm (pe_fld (pv 0) rfl) Wc.cl dpt hr (by decide) (pa_cons (pv 1) pa_nil)) pe_int (fun _ _ => rfl)) (pa_cons (pv 2) pa_nil))))
    (pss_cons (ps_set (i := 8) scmHearing_Show.nd rfl (.inl rfl) (pe_d dr hr (by decide) (by rfl) (pa_cons (pe_mm (pv 0) W.cl dh hr (by decide) (pa_cons (pv 1) pa_nil)) (pa_cons (pv 2) pa_nil))))
    (pss_cons (ps_if (pt_cmpR op_isN (pv 8) pe_non (nomark _))
      (pss_one (ps_ret (pe_tup (pa_cons pe_non (pa_cons pe_non (pa_cons pe_non (pa_cons (pv 7) pa_nil)))))))
      pss_nil)
    (pss_cons (ps_asg (pv 8) (pg_tup (by rfl) (pgs_cons (pg_name (i := 9) scmHearing_Show.nd rfl (.inl rfl)) (pgs_cons (pg_name (i := 5) scmHearing_Show.nd rfl (.inl rfl)) (pgs_cons (pg_name (i := 10) scmHearing_Show.nd rfl (.inl rfl)) pgs_nil)))))
    (pss_one (ps_ret (pe_tup (pa_cons (pv 5) (pa_cons (pv 9) (pa_cons (pv 10) (pa_cons (pv 7) pa_nil))))))))))))))), ?_⟩
  obtain ⟨dx, vs, e1, e2, e3, _⟩ := he.ex
  have on := (hw.g.all pt hpt).nm
  have opl := (hw.g.all pt hpt).pl
  refine ⟨_, rfl, p, D, dx, _, _, rfl, e1, W.cl, W.nW, hef_works, _, rfl, wa, Wk, ps, pt.nm, rfl, hw, on, List.mem_map.mpr ⟨pt, hpt, rfl⟩, fun H1 S1 => ?_⟩
  refine ⟨_, rfl, at_, rfl, t0, t9, ?_⟩
  have he1 := he.same S1
  have hw1 := hw.same S1
  obtain ⟨dx1, vs1, f1, f2, f3, al1⟩ := he1.ex
  refine ⟨_, rfl, p, dx1, _, rfl, f1, hef_no (by decide +kernel) (by decide +kernel) (by decide +kernel), _, rfl, _, rfl, p, wa, hd, hl, ls, hs, pt.nm, at_, rfl, he1, fun en => ?_, fun i h eh el => ?_⟩
  · -- no hand counts
    refine ⟨_, rfl, rfl, false, rfl, iteF ?_⟩
    obtain ⟨dxw, tp, dp', tr, dr', tc, tm, dm, tl, e0, _⟩ := hw1.wo.ex
    refine ⟨_, rfl, p, dx1, _, rfl, f1, hef_no (by decide +kernel) (by decide +kernel) (by decide +kernel), _, rfl, p, D, dx1, _, _, rfl, f1, W.cl, W.nW, hef_works, wa, dxw, _, rfl, e0, wof_no (by decide +kernel) (by decide +kernel) (by decide +kernel) (by decide +kernel) (by decide +kernel) (by decide +kernel) (by decide +kernel) (by decide +kernel), _, rfl, wa, Wk, ps, pt, rfl, hw1, hpt, fun q2 H2 S2 eq2 => ?_⟩
    have he2 := he1.same S2
    have hw2 := hw1.same S2
    refine ⟨q2, _, 1, .str pt.pl, rfl, rfl, SqT.of eq2, rfl, _, rfl, p, wa, hd, hl, ls, hs, Wk, ps, pt.pl, at_, rfl, he2, hw2, opl, List.mem_map.mpr ⟨pt, hpt, rfl⟩, le40, fun H3 S3 => ?_⟩
    have he3 := he2.same S3
    have hw3 := hw2.same S3
    obtain ⟨dx3, vs3, g1, _⟩ := he3.ex
    refine ⟨_, rfl, p, dx3, _, rfl, g1, hef_no (by decide +kernel) (by decide +kernel) (by decide +kernel), _, rfl, p, wa, hd, hl, ls, hs, Wk, ps, pt, rfl, he3, hw3, hpt, l12, fun l ys H4 S4 nl el al => ?_⟩
    have S14 := S1.trans (S2.trans (S3.trans S4))
    refine ⟨_, rfl, l, ys, _, at_, rfl, el, al, fun er => ?_, fun r q er eq => ?_⟩
    · refine ⟨_, rfl, rfl, true, rfl, iteT ?_⟩
      refine ⟨_, rfl, by show 4 ≤ sizeLine; decide, fun t nt => ?_⟩
      refine k t _ (S14.trans (Same.laid nt)) ?_
      unfold showM
      rw [en, er]
      exact upd_same
    · refine ⟨_, rfl, rfl, false, rfl, iteF ?_⟩
      refine ⟨_, rfl, q, _, rfl, SqT.of eq, rfl, _, _, rfl, _, _, rfl, _, _, rfl, rfl, ?_⟩
      refine ⟨_, rfl, _, rfl, _, rfl, _, rfl, by show 4 ≤ sizeLine; decide, fun t nt => ?_⟩
      refine k t _ (S14.trans (Same.laid nt)) ?_
      unfold showM
      rw [en, er]
      exact upd_same
  · -- a hand
    refine ⟨_, rfl, rfl, true, rfl, iteT ?_⟩
    obtain ⟨q, hq, eq⟩ := al1.at eh
    refine ⟨_, rfl, p, D, dx1, _, _, rfl, f1, W.cl, W.nL, hef_hands, _, rfl, hl, _, _, .ref q, rfl, rfl, SqL.of f3, atI_nat hq, q, _, rfl, SqT.of eq, rfl, _, _, rfl, _, _, rfl, _, _, rfl, _, _, rfl, rfl, ?_⟩
    refine ⟨_, rfl, _, rfl, by show 4 ≤ sizeLine; decide, fun t nt => ?_⟩
    refine k t _ (S1.trans (Same.laid nt)) ?_
    unfold showM
    rw [el]
    exact upd_same
end
end V45

namespace V45
open PySem PySem.Spec PyProof.Rows L2 Pw
/-! ### what is shown, as a text -/
theorem small_log {i : Int} (h0 : 0 ≤ i) (h1 : i ≤ 99999) : i.natAbs.log2 < 1920 := by
  have h2 : i.natAbs < 2 ^ 200 := Nat.lt_of_le_of_lt (show i.natAbs ≤ 99999 by omega) (by decide)
  rcases Nat.eq_zero_or_pos i.natAbs with z | z
  · rw [z]; decide
  · exact Nat.lt_trans ((Nat.log2_lt (by omega)).mpr h2) (by decide)
def shT : V → Str
  | .non => "None"
  | .int i => toString i
  | .str s => reprText s
  | _ => ""
def OkV (v : V) : Prop := v = .non ∨ (∃ i, v = .int i ∧ 0 ≤ i ∧ i ≤ 9999) ∨ ∃ s, v = .str s ∧ (reprText s).length ≤ 84
theorem shw_vals {K : PySem.W.Frag} {H : Hp} : ∀ {vs : List V}, (∀ v ∈ vs, OkV v) → ∃ m, m ≤ 1923 * vs.length ∧ ShwL K H vs 0 m (vs.map shT)
  | [], _ => ⟨0, Nat.le_refl _, .nil⟩
  | v :: vs, h => by
    obtain ⟨m, hm, ih⟩ := shw_vals (K := K) (H := H) (vs := vs) fun x hx => h x (List.mem_cons_of_mem _ hx)
    rcases h v List.mem_cons_self with rfl | ⟨i, rfl, h0, h1⟩ | ⟨s, rfl, hs⟩
    · exact ⟨5 + 2 + m, by rw [List.length_cons]; omega, .cons .non ih⟩
    · exact ⟨1921 + 2 + m, by rw [List.length_cons]; omega, .cons (.int i (small_log h0 (by omega))) ih⟩
    · exact ⟨84 + 2 + m, by rw [List.length_cons]; omega, .cons (.str s 84 hs) ih⟩
theorem shw_tup {K : PySem.W.Frag} {H : Hp} {q : Addr} {vs : List V} (e : H q = some (.tup vs)) (ok : ∀ v ∈ vs, OkV v) : ∃ m, m ≤ 1923 * vs.length + 3 ∧ Shw K H (.ref q) 1 m (tupleText (vs.map shT)) := by
  obtain ⟨m, hm, h⟩ := shw_vals (K := K) (H := H) ok
  exact ⟨m + 3, by omega, .tup e h⟩
theorem okv_words : ∀ s ∈ (["good", "odd", "sure", "open", "hand"] : List Str), (reprText s).length ≤ 84 := by decide +kernel
theorem okv_str {s : Str} (h : s ∈ (["good", "odd", "sure", "open", "hand"] : List Str)) : OkV (.str s) := .inr (.inr ⟨s, rfl, okv_words s h⟩)
theorem okv_state (b : Bool) : OkV (.str (stW b)) := by
  refine okv_str ?_
  cases b <;> decide
theorem rowAt_mem {R : List T3} {t : Int} {r : T3} (h : rowAt R t = some r) : r ∈ R := by
  unfold rowAt at h
  exact (List.mem_filter.mp (List.mem_of_getLast? h)).1
theorem hist_mem {R : List T3} {r : T3} (h : r ∈ histM R) : r ∈ R := by
  unfold histM at h
  obtain ⟨t, _, e⟩ := List.mem_filterMap.mp h
  unfold lastR at e
  exact (List.mem_filter.mp (List.mem_of_getLast? e)).1
theorem rows_mem {ls : List LA} {pt : Pt} {r : T3} (h : r ∈ rowsL ls pt) : ∃ x ∈ ls, ∃ g ∈ x.1.rs, r = tri g := by
  unfold rowsL at h
  obtain ⟨x, hx, hr⟩ := List.mem_flatMap.mp h
  obtain ⟨g, hg, e⟩ := List.mem_map.mp hr
  exact ⟨x, (ofPl_mem.mp hx).1, g, (List.mem_filter.mp hg).1, e.symm⟩
/-- signs within their bounds -/
def OkR (r : Sg) : Prop := (0 ≤ r.t ∧ r.t ≤ 9999) ∧ (0 ≤ r.w ∧ r.w ≤ 9999) ∧ (r.m = "good" ∨ r.m = "odd")
theorem show_ok {ls : List LA} {hs : List Hd} {pt : Pt} {t : Int} (g : ∀ x ∈ ls, ∀ r ∈ x.1.rs, OkR r) (gh : ∀ h ∈ hs, (0 ≤ h.w ∧ h.w ≤ 9999) ∧ 0 ≤ h.a ∧ h.a ≤ 9999) : ∀ v ∈ showM ls hs pt t, OkV v := by
  unfold showM
  cases e1 : lastHd hs pt.nm t with
  | some h =>
    have hm : h ∈ hs := by
      unfold lastHd at e1
      exact (List.mem_filter.mp (List.mem_of_getLast? e1)).1
    obtain ⟨h1, h2⟩ := gh h hm
    intro v hv
    simp only [List.mem_cons, List.not_mem_nil, or_false] at hv
    rcases hv with rfl | rfl | rfl | rfl
    · exact .inr (.inl ⟨_, rfl, h1⟩)
    · exact .inr (.inl ⟨_, rfl, h2⟩)
    · exact okv_str (by decide)
    · exact okv_str (by decide)
  | none =>
    cases e2 : rowAt (histM (rowsL ls pt)) t with
    | none =>
      intro v hv
      simp only [List.mem_cons, List.not_mem_nil, or_false] at hv
      rcases hv with rfl | rfl | rfl | rfl
      · exact .inl rfl
      · exact .inl rfl
      · exact .inl rfl
      · exact okv_state _
    | some r =>
      obtain ⟨x, hx, s, hs', rfl⟩ := rows_mem (hist_mem (rowAt_mem e2))
      obtain ⟨a1, a2, a3⟩ := g x hx s hs'
      intro v hv
      simp only [List.mem_cons, List.not_mem_nil, or_false] at hv
      rcases hv with rfl | rfl | rfl | rfl
      · exact .inr (.inl ⟨_, rfl, a2⟩)
      · exact .inr (.inl ⟨_, rfl, a1⟩)
      · refine okv_str ?_
        show s.m ∈ _
        rcases a3 with e | e <;> rw [e] <;> decide
      · exact okv_state _
theorem show_len {ls : List LA} {hs : List Hd} {pt : Pt} {t : Int} : (showM ls hs pt t).length = 4 := by
  unfold showM
  cases lastHd hs pt.nm t with
  | some h => rfl
  | none =>
    cases rowAt (histM (rowsL ls pt)) t <;> rfl
end V45

/-! Texts by the list of their signs. -/
namespace Pw
open PySem PySem.Spec PyProof.Rows L2
def tx (cs : List Nat) : Str := ⟨cs.toArray⟩
theorem tx_cps (cs : List Nat) : (tx cs).cps.toList = cs := by simp [tx]
theorem tx_inj {a b : List Nat} (h : tx a = tx b) : a = b := by
  have := congrArg (fun s : Str => s.cps.toList) h
  simpa [tx] using this
theorem tx_of (s : Str) : s = tx s.cps.toList := by
  cases s
  simp [tx]
theorem tx_len (cs : List Nat) : (tx cs).length = cs.length := by
  show cs.toArray.size = _
  simp
theorem tx_add (a b : List Nat) : tx a ++ tx b = tx (a ++ b) := by
  show Str.mk (a.toArray ++ b.toArray) = Str.mk (a ++ b).toArray
  simp
theorem cut_tx (cs : List Nat) (lo hi : Option Int) : cutS (tx cs) lo hi = tx ((cs.drop (HT.sIx cs.length 0 lo)).take (HT.sIx cs.length cs.length hi - HT.sIx cs.length 0 lo)) := by
  unfold cutS
  rw [tx_len, tx_cps]
  rfl
theorem cut_tx_to (cs : List Nat) (i : Nat) : cutS (tx cs) none (some (i : Int)) = tx (cs.take i) := by
  rw [cut_tx]
  have e1 : HT.sIx cs.length 0 none = 0 := rfl
  rw [e1, HT.sIx_nat, List.drop_zero, Nat.sub_zero]
  by_cases h : i ≤ cs.length
  · rw [Nat.min_eq_left h]
  · rw [Nat.min_eq_right (by omega), List.take_length, List.take_of_length_le (by omega)]
theorem cut_tx_in (cs : List Nat) (i j : Nat) (hi : i ≤ cs.length) : cutS (tx cs) (some (i : Int)) (some (j : Int)) = tx ((cs.take j).drop i) := by
  rw [cut_tx, HT.sIx_nat, HT.sIx_nat, Nat.min_eq_left hi]
  congr 1
  rw [List.drop_take]
  by_cases h : j ≤ cs.length
  · rw [Nat.min_eq_left h]
  · rw [Nat.min_eq_right (by omega), List.take_of_length_le (by rw [List.length_drop]; omega), List.take_of_length_le (by rw [List.length_drop]; omega)]
theorem join_go : ∀ (css : List (List Nat)) (acc : Array Nat), List.foldl (fun (acc : Array Nat) (p : Str) => acc ++ (tx []).cps ++ p.cps) acc (css.map tx) = acc ++ css.flatten.toArray
  | [], acc => by simp
  | c :: css, acc => by
    rw [List.map_cons, List.foldl_cons, join_go css]
    simp [tx]
theorem join_tx (css : List (List Nat)) : Txt.join (tx []) (css.map tx) = tx css.flatten := by
  show Str.mk _ = Str.mk _
  cases css with
  | nil => rfl
  | cons c css =>
    show Str.mk (List.foldl _ (tx c).cps (css.map tx)) = _
    rw [join_go css]
    simp [tx]
theorem flat_ones : ∀ cs : List Nat, (cs.map fun c => [c]).flatten = cs
  | [] => rfl
  | c :: cs => by rw [List.map_cons, List.flatten_cons, flat_ones cs]; rfl
theorem join_ones (cs : List Nat) : Txt.join (tx []) (cs.map fun c => tx [c]) = tx cs := by
  rw [show (cs.map fun c => tx [c]) = (cs.map fun c => [c]).map tx by rw [List.map_map]; rfl, join_tx, flat_ones]
theorem sum_ones (cs : List Nat) : ((cs.map fun c => tx [c]).map fun s : Str => s.length).sum = cs.length := by
  induction cs with
  | nil => rfl
  | cons c cs ih =>
    simp only [List.map_cons, List.sum_cons, ih, tx_len, List.length_cons, List.length_nil]
    omega
def GoodN (cs : List Nat) : Prop := (1 ≤ cs.length ∧ cs.length ≤ 8) ∧ ∀ c ∈ cs, 97 ≤ c ∧ c ≤ 122
theorem nodup_map_range {α : Type} {m : Nat} {g : Nat → α} (h : ∀ i j, i < j → j < m → g i ≠ g j) : ((List.range m).map g).Nodup := by
  refine List.pairwise_map.mpr ?_
  have h2 : (List.range m).Pairwise (fun a b => a < b ∧ b < m) := by
    refine List.Pairwise.imp_of_mem (fun {a b} ha hb hab => ⟨hab, List.mem_range.mp hb⟩) List.pairwise_lt_range
  exact h2.imp fun {a b} h' => h a b h'.1 h'.2
theorem take_range_succ {α : Type} (g : Nat → α) (i : Nat) : (List.range (i + 1)).map g = (List.range i).map g ++ [g i] := by
  rw [List.range_succ, List.map_append]
  rfl
end Pw

set_option maxHeartbeats 8000000
namespace V45
open PySem PySem.Spec PyProof.Rows L2 Pw
def abc : Str := "abcdefghijklmnopqrstuvwxyz"
theorem abc_at : ∀ i : Nat, i < 26 → abc.cps[i]? = some (97 + i) := by decide +kernel
theorem abc_len : abc.length = 26 := by decide +kernel
theorem emp : ("" : Str) = tx [] := by decide +kernel
theorem okN {cs : List Nat} (h : GoodN cs) : OkName (tx cs) := by
  refine ⟨?_, fun z e => ?_⟩
  · show (decide (1 ≤ (tx cs).length ∧ (tx cs).length ≤ 8) && (tx cs).cps.toList.all fun c => decide (97 ≤ c ∧ c ≤ 122)) = true
    rw [tx_len, tx_cps, decide_eq_true h.1, Bool.true_and, List.all_eq_true]
    exact fun c hc => decide_eq_true (h.2 c hc)
  · cases e
    rw [tx_len, tx_cps]
    exact ⟨by have := h.1.2; omega, fun c hc => by have := h.2 c hc; omega⟩
theorem But.none_of {p q : Addr} {H H' : Hp} (B : But p H H') (n : H' q = none) (hq : q ≠ p) : H q = none := by
  cases z : H q with
  | none => rfl
  | some o => rw [B.at hq z] at n; cases n
theorem But.wo_upd {p D : Addr} {H H' : Hp} {o : HO} (B : But p H H') (n : H D = none) : But p H (upd H' D o) := But.of fun b u nb e => (upd_ne (ne_of_none e n)).trans (B.at nb e)
theorem BoxAt.set {p D : Addr} {H : Hp} {n : Nat} {o : HO} (h : BoxAt H p n) (ne : D ≠ p) : BoxAt (upd H D o) p n := by
  obtain ⟨b0, b1, b2, e, r⟩ := h
  exact ⟨b0, b1, b2, (upd_ne (Ne.symm ne)).trans e, r⟩
theorem tx_inj_map {css : List (List Nat)} (h : css.Nodup) : (css.map tx).Nodup := List.pairwise_map.mpr (h.imp fun n z => n (tx_inj z))
theorem canLay_strs : ∀ ys : List Str, (∀ y ∈ ys, PyData.strOk y = true) → PyData.canLayAll0 (ys.map .str) = true
  | [], _ => by simp only [List.map_nil, PyData.canLayAll0]
  | y :: r, h => by
    have h1 := h y List.mem_cons_self
    simp only [List.map_cons, PyData.canLayAll0, PyData.canLay0, canLay_strs r (fun z hz => h z (List.mem_cons_of_mem _ hz)), h1, Bool.and_self]
theorem depth_strs : ∀ ys : List Str, PyData.depthAll (ys.map .str) = 0
  | [] => by simp only [List.map_nil, PyData.depthAll]
  | y :: r => by simp only [List.map_cons, PyData.depthAll, PyData.depth, depth_strs r, Nat.max_self]
theorem shaped_strs (ys : List Str) (h : ∀ y ∈ ys, PyData.strOk y = true) : SeqAt.shaped (.list (ys.map .str)) = true := by
  unfold SeqAt.shaped
  simp only [PyData.canLay0, PyData.depth, canLay_strs ys h, depth_strs]
  rfl
theorem eqv_strs (ys : List Str) : PyData.eqv (.list (ys.map .str)) (.list []) = ys.isEmpty := by
  cases ys <;> simp [PyData.eqv, PyData.eqvAll]
theorem dp_strs {K : PySem.W.Frag} {H : Hp} : ∀ ys : List Str, DpAll K H (ys.map V.str) (ys.map .str)
  | [] => .nil
  | y :: r => .cons (.str y) (dp_strs r)
theorem ne_nil {K : PySem.W.Frag} {H : Hp} {Q : VK} {D q : Addr} {ys : List Str} (hD : H D = some (.lst (ys.map V.str)))
    (hq : H q = some (.lst [])) (ho : ∀ y ∈ ys, PyData.strOk y = true) (h : Q (.bl !ys.isEmpty) H) : rNeD K (.ref D) (.ref q) H Q :=
  ⟨.list (ys.map .str), .list [], .lst (SqL.of hD) (dp_strs ys), .lst (xs := []) (SqL.of hq) .nil, shaped_strs ys ho, rfl, by
    rw [eqv_strs]
    exact h⟩
theorem okSs {s : Str} (h : OkName s) : PyData.strOk s = true := by
  have h2 := (h.sh s rfl).2
  unfold PyData.strOk
  rw [Array.all_eq_true']
  intro c hc
  have := h2 c (by simpa using hc)
  exact decide_eq_true (by omega)
theorem op_notIn_seqKs {X : Cx} {K : PySem.W.Frag} (hK : X.K = K) : OpR X (compareOp .NotIn) (rIn K true) := hK ▸ op_notIn_seq
theorem pig {α : Type} [DecidableEq α] : ∀ {xs ys : List α}, xs.Nodup → (∀ x ∈ xs, x ∈ ys) → xs.length ≤ ys.length
  | [], _, _, _ => Nat.zero_le _
  | x :: xs, ys, nd, h => by
    have nd' := List.nodup_cons.mp nd
    have hx := h x List.mem_cons_self
    have ih := pig (ys := ys.erase x) nd'.2 fun y hy => (List.mem_erase_of_ne fun z => nd'.1 (by rw [← z]; exact hy)).mpr (h y (List.mem_cons_of_mem _ hy))
    rw [List.length_erase_of_mem hx] at ih
    have : 0 < ys.length := List.length_pos_of_mem hx
    rw [List.length_cons]
    omega
/-- some letter makes a new word -/
theorem new_word (cs : List Nat) {ns : List Str} (h : ns.length < 26) : (List.range 26).filter (fun j => decide (tx (cs ++ [97 + j]) ∉ ns)) ≠ [] := fun z => by
  have hin : ∀ s ∈ (List.range 26).map (fun j => tx (cs ++ [97 + j])), s ∈ ns := fun s hs => by
    obtain ⟨j, hj, rfl⟩ := List.mem_map.mp hs
    have := List.filter_eq_nil_iff.mp z j hj
    simp only [decide_eq_true_eq, Decidable.not_not] at this
    exact this
  have nd : ((List.range 26).map (fun j => tx (cs ++ [97 + j]))).Nodup := nodup_map_range fun i j hij hj e => by
    have := tx_inj e
    have := List.append_cancel_left this
    simp only [List.cons.injEq, and_true] at this
    omega
  have := pig nd hin
  rw [List.length_map, List.length_range] at this
  omega
def Lets (cs : List Nat) : Prop := ∀ c ∈ cs, 97 ≤ c ∧ c ≤ 122
theorem Lets.app {a b : List Nat} (h : Lets a) (k : Lets b) : Lets (a ++ b) := fun c hc => (List.mem_append.mp hc).elim (h c) (k c)
theorem Lets.take {a : List Nat} (h : Lets a) (i : Nat) : Lets (a.take i) := fun c hc => h c (List.mem_of_mem_take hc)
section
variable {P : Program} {w : World} {K : PySem.W.Frag} {mg : Str → Option Value} {base : Heap}
def spNames (K : PySem.W.Frag) : Sp := fun vs H Q _ => ∃ p m n, vs = [.ref p, .int m] ∧ 0 ≤ m ∧ m ≤ 10 ∧ BoxAt H p n ∧ n ≤ 900000 ∧
  ∀ a H' (css : List (List Nat)), H a = none → a ≠ p → BoxAt H' p (n + 120) → But p H H' → H' a = some (.lst ((css.map tx).map V.str)) → (css.length : Int) = m → css.Nodup → (∀ c ∈ css, GoodN c) → Q (.ref a) H'
theorem d_names (T : Txt mg) (A : At K mg "_law_names" sLawNames) (dt : Def P w K mg base "_law_take" 1 ["_law_box_here", "_law_many"] (spTake K)) :
    Def P w K mg base "_law_names" 2 ["_law_box_here", "_law_many"] (spNames K) := by
  refine mkDef A scLawNames (fun _ _ _ _ _ _ us hl => match us, hl with | [_, _], _ => rfl) (fun vs H Q E ⟨_, _, _, e, _⟩ => by rw [e]; rfl)
    (fun f cdv A out s H vs Q E hr h => ?_)
  obtain ⟨p, m, n, rfl, m0, m8, hb, hn, k⟩ := h
  refine ⟨_, (pss_cons (ps_set (i := 2) scLawNames.nd rfl (.inr rfl) pe_str)
    (pss_cons (ps_set (i := 3) scLawNames.nd rfl (.inr rfl) (pe_lst pa_nil))
    (pss_cons (ps_for PassesOwn.never rfl (pi_range1 (by rfl) T.range (pa_cons (pv 1) pa_nil)) (pg_name (i := 4) scLawNames.nd rfl (.inl rfl))
      (pss_cons (ps_set (i := 5) scLawNames.nd rfl (.inl rfl) pe_str)
      (pss_cons (ps_if (PW.pt (pw_and (pt_cmpR (op_neD hr.units) (pv 3) (pe_lst pa_nil) (nomark _)) (pw_and1 (pt_cmpR op_eq (pe_d dt hr (by decide) (by rfl) (pa_cons (pv 0) (pa_cons pe_int pa_nil))) pe_int (nomark _)))))
        (pss_one (ps_set (i := 5) scLawNames.nd rfl (.inl rfl) (pe_slice sl_str (pe_ix ix_list (pv 3) (pe_d dt hr (by decide) (by rfl) (pa_cons (pv 0) (pa_cons (pe_callB call_len_seq (by rfl) T.len PySem.boot_len (pa_cons (pv 3) pa_nil)) pa_nil))) (fun _ _ => rfl)) po_none (po_some (pe_d dt hr (by decide) (by rfl) (pa_cons (pv 0) (pa_cons pe_int pa_nil)))))))
        pss_nil)
      (pss_cons (ps_set (i := 6) scLawNames.nd rfl (.inr rfl) (pe_slice sl_str (pe_op op_add_str (pv 5) (pe_join pe_str (pe_lc (own := [("_law_turn", 7)]) (g := gName 7) (tt := tYes) rfl scLawNames.nd (pi_range1 (by rfl) T.range (pa_cons (pe_op op_add pe_int (pe_d dt hr (by decide) (by rfl) (pa_cons (pv 0) (pa_cons pe_int pa_nil)))) pa_nil))
        (blkOk_by (own := [("_law_turn", 7)]) (N := ["_law_box_here", "_law_many", "_law_letters_here", "_law_names_here", "_law_k", "_law_stem", "_law_word", "_law_turn", "_law_letter"]) (sc := defScope sLawNames) (by decide +kernel))
        (fun _ _ _ _ _ => (pg_name (i := 7) scLawNames.nd rfl (.inl rfl))) (fun _ _ _ _ _ => pts_nil)
        (fun _ _ _ _ _ => (pe_item_str (pv 2) (pe_d dt hr (by decide) (by rfl) (pa_cons (pv 0) (pa_cons pe_int pa_nil))) (fun _ _ => rfl)))))) po_none (po_some pe_int)))
      (pss_cons (ps_if (pt_cmpR op_in_seq (pv 6) (pv 3) (by rfl))
        (pss_one (ps_set (i := 6) scLawNames.nd rfl (.inr rfl) (pe_ix ix_list (pe_lc (own := [("_law_letter", 8)]) (g := gName 8) rfl scLawNames.nd (pi_str (pv 2))
        (blkOk_by (own := [("_law_letter", 8)]) (N := ["_law_box_here", "_law_many", "_law_letters_here", "_law_names_here", "_law_k", "_law_stem", "_law_word", "_law_turn", "_law_letter"]) (sc := defScope sLawNames) (by decide +kernel))
        (fun _ _ _ _ _ => (pg_name (i := 8) scLawNames.nd rfl (.inl rfl))) (fun _ _ _ _ _ => (pts_one (pt_cmpR (op_notIn_seqKs (K := K) rfl) (pe_op op_add_str (pe_slice sl_str (pv 6) po_none (po_some pe_int)) (pv 8)) (pv 3) (by rfl))))
        (fun _ _ _ _ _ => (pe_op op_add_str (pe_slice sl_str (pv 6) po_none (po_some pe_int)) (pv 8)))) pe_int (fun _ _ => rfl))))
        pss_nil)
      (pss_one (ps_expr (pe_bm PySem.F.plainAttrs_list PySem.F.slot_list_append PySem.F.type_list_append mt_append (pv 3) (pa_cons (pv 6) pa_nil)))))))))
    (pss_one (ps_ret (pv 3)))))), ?_⟩
  obtain ⟨mm, rfl⟩ := Int.eq_ofNat_of_zero_le m0
  have hm10 : mm ≤ 10 := by omega
  refine ⟨by show 0 ≤ sizeLine; decide, fun L nL => ?_⟩
  have Lp := hb.ne nL
  refine ⟨_, rfl, (mm : Int), rfl, by omega, by omega, ?_⟩
  refine for_it (walk_range (lo := 0) (n := mm)) (fun i σ G => (∃ v4 v5 v6 : Option V, σ = [some (.ref p), some (.int (mm : Int)), some (.str abc), some (.ref L), v4, v5, v6, none, none]) ∧ But p H G ∧ BoxAt G p (n + 12 * i) ∧
    ∃ css : List (List Nat), G L = some (.lst ((css.map tx).map V.str)) ∧ css.length = i ∧ css.Nodup ∧ ∀ c ∈ css, GoodN c) ?_ (fun _ _ _ _ _ => trivial) ?_ ?_
  · exact ⟨⟨_, _, _, rfl⟩, But.laid nL, hb.laid nL, [], upd_same, rfl, List.nodup_nil, fun c h => by cases h⟩
  · rintro i v σ G0 G hi ⟨⟨v4, v5, v6, rfl⟩, BG, hbG, css, eL, hcl, nd, good⟩ ⟨rfl, rfl⟩
    dsimp only [gName]
    have hsm : ∀ y ∈ css.map tx, PyData.strOk y = true := fun y hy => by
      obtain ⟨c, hc, rfl⟩ := List.mem_map.mp hy
      exact okSs (okN (good c hc))
    -- the stem
    refine seq_join (A := tAsg _ _) (fun σ' G' => σ' = [some (.ref p), some (.int (mm : Int)), some (.str abc), some (.ref L), some (.int (0 + (i : Int))), some (.str (tx [])), v6, none, none] ∧ G = G') (fun N' hN => ?_) ?_
    · exact hN _ _ ⟨by rw [← emp]; rfl, rfl⟩
    rintro _ _ ⟨rfl, rfl⟩
    refine seq_join (A := tIfS _ _ _) (fun σ' G' => ∃ st : List Nat, σ' = [some (.ref p), some (.int (mm : Int)), some (.str abc), some (.ref L), some (.int (0 + (i : Int))), some (.str (tx st)), v6, none, none] ∧ But p H G' ∧ BoxAt G' p (n + 12 * i + 3) ∧
      G' L = some (.lst ((css.map tx).map V.str)) ∧ Lets st ∧ st.length ≤ 8) (fun N' hN => ?_) ?_
    · refine ⟨_, rfl, by show 0 ≤ sizeLine; decide, fun z nz => ?_⟩
      have U := Same.laid (o := HO.lst []) nz
      have ez : upd G z (.lst []) z = some (.lst []) := upd_same
      have hb1 := hbG.keep U
      have B1 := BG.trans (Same.but U)
      have eL1 := U _ _ eL
      generalize upd G z (.lst []) = G1 at *
      refine ne_nil eL1 ez hsm ⟨_, rfl, ?_⟩
      have no : ∀ (G4 : Hp), But p H G4 → BoxAt G4 p (n + 12 * i + 3) → G4 L = some (.lst ((css.map tx).map V.str)) → N' [some (.ref p), some (.int (mm : Int)), some (.str abc), some (.ref L), some (.int (0 + (i : Int))), some (.str (tx [])), v6, none, none] G4 := fun G4 B4 hb4 e4 =>
        hN _ _ ⟨[], rfl, B4, hb4, e4, (fun c h => by cases h), by decide⟩
      cases hE : (css.map tx).isEmpty with
      | true => exact iteF (iteF (no _ B1 (hb1.up (by omega)) eL1))
      | false =>
        have pos : 0 < css.length := by
          cases css with
          | nil => cases hE
          | cons x y => exact Nat.succ_pos _
        refine iteT ⟨_, rfl, p, 3, _, rfl, hb1, by omega, by decide, by decide, fun t3 G3 a3 b3 hb3 B3 => ?_⟩
        have eL3 := B3.at Lp eL1
        refine ⟨rfl, _, rfl, ?_⟩
        refine ite2 (fun _ => ?_) (fun _ => no _ (B1.trans B3) (hb3.up (by omega)) eL3)
        refine ⟨_, rfl, _, rfl, _, rfl, L, _, rfl, .inl (SqL.of eL3), p, _, _, rfl, hb3, by omega, ?_, ?_, fun j G4 a4 b4 hb4 B4 => ?_⟩
        · rw [List.length_map, List.length_map]; omega
        · rw [List.length_map, List.length_map]
          exact Int.lt_of_le_of_lt (show (css.length : Int) ≤ 10 by omega) (by decide)
        have eL4 := B4.at Lp eL3
        obtain ⟨y, hy, aty⟩ := menu a4 b4
        obtain ⟨sy, hsy, rfl⟩ := List.mem_map.mp hy
        obtain ⟨c, hc, rfl⟩ := List.mem_map.mp hsy
        have gc := good c hc
        refine ⟨L, _, j, _, rfl, rfl, SqL.of eL4, aty, ?_⟩
        refine ⟨_, rfl, p, 8, _, rfl, hb4, by omega, by decide, by decide, fun k5 G5 a5 b5 hb5 B5 => ?_⟩
        obtain ⟨kk, rfl⟩ := Int.eq_ofNat_of_zero_le a5
        refine ⟨(kk : Int), rfl, tx c, rfl, by rw [tx_len]; exact Nat.le_trans gc.1.2 (by decide), ?_⟩
        rw [cut_tx_to]
        exact hN _ _ ⟨c.take kk, rfl, B1.trans (B3.trans (B4.trans B5)), hb5.up (by omega), B5.at Lp eL4, fun x hx => gc.2 x (List.mem_of_mem_take hx), by rw [List.length_take]; have := gc.1.2; omega⟩
    rintro _ G2 ⟨st, rfl, B2, hb2, eL2, lst, st8⟩
    -- the word
    refine seq_join (A := tAsg _ _) (fun σ' G' => ∃ cs : List Nat, σ' = [some (.ref p), some (.int (mm : Int)), some (.str abc), some (.ref L), some (.int (0 + (i : Int))), some (.str (tx st)), some (.str (tx cs)), none, none] ∧ But p H G' ∧ BoxAt G' p (n + 12 * i + 12) ∧
      G' L = some (.lst ((css.map tx).map V.str)) ∧ GoodN cs) (fun N' hN => ?_) ?_
    · refine ⟨_, rfl, ⟨_, rfl⟩, _, rfl, p, 8, _, rfl, hb2, by omega, by decide, by decide, fun t8 G3 a3 b3 hb3 B3 => ?_⟩
      obtain ⟨tt, rfl⟩ := Int.eq_ofNat_of_zero_le a3
      have eL3 := B3.at Lp eL2
      have BH3 := B2.trans B3
      refine ⟨_, _, rfl, rfl, ((tt + 1 : Nat) : Int), congrArg (fun x => [V.int x]) (show (1 + (tt : Int)) = ((tt + 1 : Nat) : Int) by omega), by omega, by omega, fun D nD => ?_⟩
      have DP := hb3.ne nD
      have DL : D ≠ L := fun z => by rw [z, eL3] at nD; cases nD
      refine lc_it (walk_range (lo := 0) (n := tt + 1)) (fun j G => But p G3 G ∧ BoxAt G p (n + 12 * i + 4 + j) ∧ ∃ cs : List Nat, G D = some (.lst ((cs.map fun c => tx [c]).map V.str)) ∧ cs.length = j ∧ Lets cs) ?_ (fun _ _ _ _ => trivial) ?_ ?_
      · exact ⟨But.laid nD, (hb3.laid nD).up (by omega), [], upd_same, rfl, fun c h => by cases h⟩
      · rintro j v G0 G hj ⟨BG, hbG, cs, eD, hcl, hcs⟩ ⟨rfl, rfl⟩
        refine ⟨rfl, ?_⟩
        unfold tYes
        refine iteT ?_
        refine ⟨_, rfl, _, rfl, p, 26, _, rfl, hbG, by omega, by decide, by decide, fun x G1 a4 b4 hb4 B4 => ?_⟩
        obtain ⟨xx, rfl⟩ := Int.eq_ofNat_of_zero_le a4
        have hx : xx < 26 := by omega
        refine ⟨abc, (xx : Int), 97 + xx, rfl, rfl, a4, by omega, by rw [abc_len]; omega, by rw [Int.toNat_natCast]; exact abc_at xx hx, ?_⟩
        have eD4 := B4.at DP eD
        refine ⟨_, eD4, by rw [List.length_map, List.length_map]; exact Nat.lt_of_le_of_lt (show cs.length ≤ 8 by omega) (by decide), But.wo_upd (BG.trans B4) nD, (BoxAt.set hb4 DP).up (by omega), cs ++ [97 + xx], ?_, by rw [List.length_append, hcl]; rfl, hcs.app fun c hc => ?_⟩
        · rw [upd_same, List.map_append, List.map_append]
          rfl
        · rw [List.mem_singleton.mp hc]
          exact ⟨by omega, by omega⟩
      rintro G ⟨BG, hbG, cs, eD, hcl, hcs⟩
      refine ⟨_, D, cs.map fun c => tx [c], rfl, rfl, .inl (SqL.of eD), ?_, ?_⟩
      · rw [sum_ones, List.length_map, hcl]
        exact Nat.le_trans (show tt + 1 + (tt + 1) * ("" : Str).length ≤ 8 by rw [show ("" : Str).length = 0 from by decide +kernel]; omega) (by decide)
      have ej : Txt.join "" (cs.map fun c => tx [c]) = tx cs := by
        rw [emp, Pw.join_ones]
      rw [ej]
      refine ⟨_, _, rfl, rfl, ?_, ?_⟩
      · rw [tx_len, tx_len]
        exact Nat.le_trans (show st.length + cs.length ≤ 100 by omega) (by decide)
      rw [tx_add]
      refine ⟨8, rfl, tx (st ++ cs), rfl, ?_, ?_⟩
      · rw [tx_len, List.length_append]
        exact Nat.le_trans (show st.length + cs.length ≤ 100 by omega) (by decide)
      rw [show (8 : Int) = ((8 : Nat) : Int) from rfl, cut_tx_to]
      refine hN _ _ ⟨(st ++ cs).take 8, rfl, BH3.trans BG, hbG.up (by omega), BG.at Lp eL3, ⟨?_, (lst.app hcs).take 8⟩⟩
      rw [List.length_take, List.length_append]
      omega
    rintro _ G3 ⟨cs, rfl, B3, hb3, eL3, gcs⟩
    refine seq_join (A := tIfS _ _ _) (fun σ' G' => ∃ cs : List Nat, σ' = [some (.ref p), some (.int (mm : Int)), some (.str abc), some (.ref L), some (.int (0 + (i : Int))), some (.str (tx st)), some (.str (tx cs)), none, none] ∧ Same G3 G' ∧
      GoodN cs ∧ cs ∉ css) (fun N' hN => ?_) ?_
    · refine ⟨_, rfl, _, rfl, L, _, rfl, .inl (SqL.of eL3), rfl, flat_strs _, ?_⟩
      rw [inV_str]
      refine ⟨_, rfl, ?_⟩
      refine ite2 (fun hm => ?_) (fun hm => ?_)
      · refine ⟨_, rfl, abc, rfl, fun D nD => ?_⟩
        have sz : abc.cps.size = 26 := abc_len
        have g7 : cs.length ≤ 8 := gcs.1.2
        refine lc_acc walk_str nD (by rw [sz]; decide) (fun j acc _ => acc = (((List.range j).filter fun j => decide (tx (cs.take 7 ++ [97 + j]) ∉ css.map tx)).map fun j => V.str (tx (cs.take 7 ++ [97 + j])))) rfl (fun _ _ => trivial) ?_ ?_
        · rintro j v G0 G1 acc hj S eD hl rfl ⟨rfl, c, hc, rfl⟩ Fy Fn hy1 hy2
          rw [sz] at hj
          rw [abc_at j hj] at hc
          cases hc
          refine ⟨rfl, ?_⟩
          have e1 : (⟨#[97 + j]⟩ : Str) = tx [97 + j] := rfl
          have e7 : cutS (tx cs) none (some 7) = tx (cs.take 7) := cut_tx_to cs 7
          have fit : (cutS (tx cs) none (some 7)).length + (⟨#[97 + j]⟩ : Str).length ≤ sizeLine := by
            rw [e7, e1, tx_len, tx_len, List.length_take]
            exact Nat.le_trans (show min 7 cs.length + 1 ≤ 100 by omega) (by decide)
          have ln : (tx cs).length ≤ sizeLine := by rw [tx_len]; exact Nat.le_trans (show cs.length ≤ 8 by omega) (by decide)
          refine ⟨_, rfl, 7, rfl, tx cs, rfl, ln, _, rfl, _, _, rfl, rfl, fit, _, rfl, L, _, rfl, .inl (SqL.of (S _ _ eL3)), rfl, flat_strs _, _, rfl, ?_⟩
          rw [inV_str, e7, e1, tx_add]
          rw [e7, e1] at fit
          have er : ∀ q : Nat → Bool, (List.range (j + 1)).filter q = (List.range j).filter q ++ (if q j = true then [j] else []) := fun q => by
            rw [List.range_succ, List.filter_append, List.filter_cons]
            rfl
          rw [er, List.map_append] at hy1 hy2
          by_cases hin : tx (cs.take 7 ++ [97 + j]) ∈ css.map tx
          · rw [decide_eq_true hin]
            refine iteF (hy2 _ (Same.refl _) ?_)
            simp [hin]
          · rw [decide_eq_false hin]
            refine iteT ⟨_, rfl, 7, rfl, tx cs, rfl, ln, _, rfl, _, _, rfl, rfl, by rw [e7]; exact fit, ?_⟩
            rw [e7, tx_add]
            refine hy1 _ _ (Same.refl _) ?_
            simp [hin]
        · rintro G4 acc S4 eD rfl
          rw [sz] at eD
          have ne := new_word (cs.take 7) (ns := css.map tx) (by rw [List.length_map]; omega)
          generalize hf : (List.range 26).filter (fun j => decide (tx (cs.take 7 ++ [97 + j]) ∉ css.map tx)) = fl at ne eD
          cases fl with
          | nil => exact absurd rfl ne
          | cons j fl =>
            have hj : j ∈ (List.range 26).filter (fun j => decide (tx (cs.take 7 ++ [97 + j]) ∉ css.map tx)) := by rw [hf]; exact List.mem_cons_self
            obtain ⟨j26, hjn⟩ := List.mem_filter.mp hj
            refine ⟨_, _, _, .str (tx (cs.take 7 ++ [97 + j])), rfl, rfl, SqL.of eD, atI_nat (j := 0) rfl, ?_⟩
            refine hN _ _ ⟨cs.take 7 ++ [97 + j], rfl, S4, ⟨?_, Lets.app (Lets.take gcs.2 7) fun c hc => ?_⟩, fun z => of_decide_eq_true hjn (List.mem_map.mpr ⟨_, z, rfl⟩)⟩
            · rw [List.length_append, List.length_take, List.length_singleton]
              omega
            · rw [List.mem_singleton.mp hc]
              have := List.mem_range.mp j26
              exact ⟨by omega, by omega⟩
      · refine hN _ _ ⟨cs, rfl, Same.refl _, gcs, fun z => ?_⟩
        exact hm (decide_eq_true (List.mem_map.mpr ⟨cs, z, rfl⟩))
    rintro _ G4 ⟨cs, rfl, S4, gcs, new⟩
    have eL4 := S4 _ _ eL3
    refine ⟨_, rfl, .inl ⟨rfl, _, SqL.of eL4⟩, _, rfl, L, _, .str (tx cs), rfl, rfl, eL4, by rw [List.length_map, List.length_map]; exact Nat.lt_of_le_of_lt (show css.length ≤ 10 by omega) (by decide), ?_⟩
    refine ⟨⟨_, _, _, rfl⟩, ?_, (BoxAt.set (hb3.keep S4) Lp).up (by omega), css ++ [cs], ?_, ?_, ?_, ?_⟩
    · exact But.wo_upd (B3.trans (Same.but S4)) nL
    · rw [upd_same, List.map_append, List.map_append]
      rfl
    · rw [List.length_append, hcl]
      rfl
    · exact List.nodup_append.mpr ⟨nd, by simp, fun a ha b hb e => new (by rw [List.mem_singleton] at hb; rw [← hb, ← e]; exact ha)⟩
    · intro c hc
      rcases List.mem_append.mp hc with h | h
      · exact good c h
      · rw [List.mem_singleton.mp h]
        exact gcs
  · rintro σ G ⟨⟨v4, v5, v6, rfl⟩, BG, hbG, css, eL, hcl, nd, good⟩
    refine ⟨_, rfl, ?_⟩
    exact k L G css nL Lp (hbG.up (by omega)) BG eL (by rw [hcl]) nd good
end
end V45

set_option maxHeartbeats 8000000
namespace V45
open PySem PySem.Spec PyProof.Rows L2 Pw
theorem BoxAt.lst {H : Hp} {p : Addr} {n : Nat} (h : BoxAt H p n) : ∃ vs, H p = some (.lst vs) := by
  obtain ⟨b0, b1, b2, e, _⟩ := h
  exact ⟨_, e⟩
theorem Al.but {α : Type} {f : α → List V} {H H' : Hp} {p : Addr} {n : Nat} {vs : List V} {rs : List α} (h : Al f H vs rs) (hb : BoxAt H p n) (B : But p H H') : Al f H' vs rs := by
  obtain ⟨ws, e⟩ := hb.lst
  exact h.imp fun q xs eq => B.at (fun z => by rw [z, e] at eq; cases eq) eq
theorem Al.off {α : Type} {f : α → List V} {H : Hp} {D : Addr} {o : HO} {us vs : List V} {rs : List α} (h : Al f H vs rs) (e : H D = some (.lst us)) : Al f (upd H D o) vs rs :=
  h.imp fun q xs eq => (upd_ne (fun z => by rw [z, e] at eq; cases eq)).trans eq
theorem LT.but {α : Type} {f : α → List V} {H H' : Hp} {p a : Addr} {n : Nat} {rs : List α} (h : LT f H a rs) (hb : BoxAt H p n) (na : a ≠ p) (B : But p H H') : LT f H' a rs := by
  obtain ⟨vs, e, al⟩ := h.ex
  exact ⟨vs, B.at na e, Al.but al hb B⟩
theorem lt_push {α : Type} {f : α → List V} {G : Hp} {D q : Addr} {vs : List V} {l : List α} {x : α} (eD : G D = some (.lst vs)) (al : Al f G vs l) (nq : G q = none) :
    LT f (upd (upd G q (.tup (f x))) D (.lst (vs ++ [.ref q]))) D (l ++ [x]) := by
  have qD : q ≠ D := fun z => by rw [z, eD] at nq; cases nq
  refine ⟨_, upd_same, ?_⟩
  refine Al.snoc (al.imp fun p xs e => ?_) ((upd_ne qD).trans upd_same)
  have pD : p ≠ D := fun z => by rw [z, eD] at e; cases e
  exact (upd_ne pD).trans ((upd_ne (ne_of_none e nq)).trans e)
theorem cut_ij (xs : List V) (i j : Nat) (h : i ≤ xs.length) : cutV xs (some (i : Int)) (some (j : Int)) = (xs.take j).drop i := by
  unfold cutV
  rw [HT.sIx_nat, HT.sIx_nat, Nat.min_eq_left h, List.drop_take]
  by_cases h2 : j ≤ xs.length
  · rw [Nat.min_eq_left h2]
  · rw [Nat.min_eq_right (by omega), List.take_of_length_le (by rw [List.length_drop]; omega), List.take_of_length_le (by rw [List.length_drop]; omega)]
section
variable {P : Program} {w : World} {K : PySem.W.Frag} {mg : Str → Option Value} {base : Heap}
def spPtsL (K : PySem.W.Frag) : Sp := fun vs H Q _ => ∃ p a n css, vs = [.ref p, .ref a] ∧ BoxAt H p n ∧ n ≤ 900000 ∧ a ≠ p ∧ H a = some (.lst (((css : List (List Nat)).map tx).map V.str)) ∧ css.Nodup ∧ (∀ c ∈ css, GoodN c) ∧ css.length = 8 ∧
  ∀ b H' ps, H b = none → b ≠ p → BoxAt H' p (n + 50) → But p H H' → LT fP H' b ps → GoodPs ps → (∀ pt ∈ ps, pt.nm ∈ css.map tx) → Q (.ref b) H'
theorem d_ptsL (T : Txt mg) (A : At K mg "_law_points" sLawPoints) (dt : Def P w K mg base "_law_take" 1 ["_law_box_here", "_law_many"] (spTake K)) :
    Def P w K mg base "_law_points" 2 ["_law_box_here", "_law_names_here"] (spPtsL K) := by
  refine mkDef A scLawPoints (fun _ _ _ _ _ _ us hl => match us, hl with | [_, _], _ => rfl) (fun vs H Q E ⟨_, _, _, _, e, _⟩ => by rw [e]; rfl)
    (fun f cdv A out s H vs Q E hr h => ?_)
  obtain ⟨p, a, n, css, rfl, hb, hn, ap, ea, nd, good, l10, k⟩ := h
  refine ⟨_, (pss_cons (ps_set (i := 2) scLawPoints.nd rfl (.inl rfl) (pe_slice sl_list (pv 1) po_none (po_some (pe_op op_add pe_int (pe_d dt hr (by decide) (by rfl) (pa_cons (pv 0) (pa_cons pe_int pa_nil)))))))
    (pss_cons (ps_set (i := 3) scLawPoints.nd rfl (.inl rfl) (pe_lst (pa_cons pe_str (pa_cons pe_str (pa_cons pe_str pa_nil)))))
    (pss_cons (ps_set (i := 4) scLawPoints.nd rfl (.inl rfl) (pe_lst pa_nil))
    (pss_cons (ps_for PassesOwn.never rfl (pi_list (pe_slice sl_list (pv 1) (po_some pe_int) (po_some (pe_op op_add pe_int (pe_d dt hr (by decide) (by rfl) (pa_cons (pv 0) (pa_cons pe_int pa_nil))))))) (pg_name (i := 5) scLawPoints.nd rfl (.inl rfl))
      (pss_one (ps_expr (pe_bm PySem.F.plainAttrs_list PySem.F.slot_list_append PySem.F.type_list_append mt_append (pv 4) (pa_cons (pe_tup (pa_cons (pv 5) (pa_cons (pe_ix ix_list (pv 2) (pe_d dt hr (by decide) (by rfl) (pa_cons (pv 0) (pa_cons (pe_callB call_len_seq (by rfl) T.len PySem.boot_len (pa_cons (pv 2) pa_nil)) pa_nil))) (fun _ _ => rfl)) (pa_cons (pe_ix ix_list (pv 3) (pe_d dt hr (by decide) (by rfl) (pa_cons (pv 0) (pa_cons pe_int pa_nil))) (fun _ _ => rfl)) pa_nil)))) pa_nil)))))
    (pss_one (ps_ret (pv 4))))))), ?_⟩
  have hlS : ((css.map tx).map V.str).length = 8 := by rw [List.length_map, List.length_map, l10]
  refine ⟨_, rfl, _, rfl, p, 3, n, rfl, hb, by omega, by decide, by decide, fun j1 H1 a1 b1 hb1 B1 => ?_⟩
  have e1 := B1.at ap ea
  refine ⟨1, j1, rfl, rfl, 1 + j1, rfl, a, _, rfl, SqL.of e1, fun L2 n2 => ?_⟩
  have L2p := hb1.ne n2
  obtain ⟨jj, ejj⟩ := Int.eq_ofNat_of_zero_le (show 0 ≤ 1 + j1 by omega)
  rw [ejj, cut_to]
  generalize hso : (css.map tx).take jj = so
  have e2 : upd H1 L2 (.lst (((css.map tx).map V.str).take jj)) L2 = some (.lst (so.map V.str)) := by rw [upd_same, ← List.map_take, hso]
  have S2 := Same.laid (o := HO.lst (((css.map tx).map V.str).take jj)) n2
  generalize upd H1 L2 (.lst (((css.map tx).map V.str).take jj)) = H2 at *
  have sl1 : 1 ≤ so.length := by rw [← hso, List.length_take, List.length_map, l10]; omega
  have sl3 : so.length ≤ 3 := by rw [← hso, List.length_take, List.length_map, l10]; omega
  have sok : ∀ s ∈ so, OkName s := fun s hs => by
    rw [← hso] at hs
    obtain ⟨c, hc, rfl⟩ := List.mem_map.mp (List.mem_of_mem_take hs)
    exact okN (good c hc)
  have hb2 := hb1.keep S2
  -- the kinds
  refine ⟨by show 3 ≤ sizeLine; decide, fun Kd nKd => ?_⟩
  have Kp := hb2.ne nKd
  have eK : upd H2 Kd (.lst [.str "level", .str "switch", .str "level"]) Kd = some (.lst [.str "level", .str "switch", .str "level"]) := upd_same
  have S3 := Same.laid (o := HO.lst [.str "level", .str "switch", .str "level"]) nKd
  generalize upd H2 Kd (.lst [.str "level", .str "switch", .str "level"]) = H3 at *
  have hb3 := hb2.keep S3
  have e23 := S3 _ _ e2
  refine ⟨by show 0 ≤ sizeLine; decide, fun F nF => ?_⟩
  have Fp := hb3.ne nF
  have BH3 : But p H H3 := B1.trans (Same.but (S2.trans S3))
  have nFH := But.none_of BH3 nF Fp
  have S4 := Same.laid (o := HO.lst []) nF
  have FL2 : L2 ≠ F := ne_of_none e23 nF
  have FKd : Kd ≠ F := ne_of_none eK nF
  have eF4 : upd H3 F (.lst []) F = some (.lst []) := upd_same
  have ea4 := S4 _ _ (BH3.at ap ea)
  generalize upd H3 F (.lst []) = H4 at *
  have BH4 : But p H H4 := BH3.trans (Same.but S4)
  refine ⟨_, rfl, 3, rfl, _, rfl, p, 5, _, rfl, hb3.keep S4, by omega, by decide, by decide, fun j5 H5 a5 b5 hb5 B5 => ?_⟩
  have ea5 := B5.at ap ea4
  refine ⟨4, j5, rfl, rfl, 4 + j5, rfl, a, _, rfl, SqL.of ea5, fun N nN => ?_⟩
  obtain ⟨kk, ekk⟩ := Int.eq_ofNat_of_zero_le (show 0 ≤ 4 + j5 by omega)
  have hL3 : (3 : Int) = ((3 : Nat) : Int) := rfl
  rw [ekk, hL3, cut_ij _ _ _ (by omega)]
  generalize hcs : (css.take kk).drop 3 = cs
  have ecs : ((((css.map tx).map V.str).take kk).drop 3) = ((cs.map tx).map V.str) := by rw [← hcs, List.map_drop, List.map_drop, List.map_take, List.map_take]
  rw [ecs]
  have cl1 : 1 ≤ cs.length := by rw [← hcs, List.length_drop, List.length_take, l10]; omega
  have cl5 : cs.length ≤ 5 := by rw [← hcs, List.length_drop, List.length_take, l10]; omega
  have cin : ∀ c ∈ cs, c ∈ css := fun c hc => by
    rw [← hcs] at hc
    exact List.mem_of_mem_take (List.mem_of_mem_drop hc)
  have cnd : cs.Nodup := by
    rw [← hcs]
    exact List.Nodup.sublist (List.drop_sublist _ _) (List.Nodup.sublist (List.take_sublist _ _) nd)
  clear hcs ecs ekk
  have Np := hb5.ne nN
  have BH5 : But p H H5 := BH4.trans B5
  have eN : upd H5 N (.lst ((cs.map tx).map V.str)) N = some (.lst ((cs.map tx).map V.str)) := upd_same
  have S6 := Same.laid (o := HO.lst ((cs.map tx).map V.str)) nN
  have hb6 := hb5.keep S6
  have e26 := S6 _ _ (B5.at L2p (S4 _ _ e23))
  have eK6 := S6 _ _ (B5.at Kp (S4 _ _ eK))
  have eF6 := S6 _ _ (B5.at Fp eF4)
  have BH6 : But p H (upd H5 N (.lst ((cs.map tx).map V.str))) := BH5.trans (Same.but S6)
  have NF : N ≠ F := fun z => by
    rw [← z] at eF6
    rw [eN] at eF6
    have := Option.some.inj eF6
    have h1 : ((cs.map tx).map V.str) = [] := by injection this
    have := congrArg List.length h1
    rw [List.length_map, List.length_map, List.length_nil] at this
    omega
  generalize upd H5 N (.lst ((cs.map tx).map V.str)) = H6 at *
  refine ⟨N, rfl, ⟨_, SqL.of eN⟩, ?_⟩
  refine for_it (walk_list (K := K) (a := N) (xs := (cs.map tx).map V.str)) (fun i σ X => ∃ (v5 : Option V) (ps : List Pt), σ = [some (.ref p), some (.ref a), some (.ref L2), some (.ref Kd), some (.ref F), v5] ∧
      BoxAt X p (n + 2 + 2 * i) ∧ But p H X ∧ X N = some (.lst ((cs.map tx).map V.str)) ∧ X L2 = some (.lst (so.map V.str)) ∧ X Kd = some (.lst [.str "level", .str "switch", .str "level"]) ∧ LT fP X F ps ∧ ps.map (·.nm) = (cs.take i).map tx ∧ ∀ q ∈ ps, q.pl ∈ so) ?_
    (fun i σ X _ ⟨_, _, _, _, _, e, _⟩ => SqL.of e) ?_ ?_
  · exact ⟨none, [], rfl, hb6.up (by omega), BH6, eN, e26, eK6, ⟨[], eF6, .nil⟩, rfl, fun q h => by cases h⟩
  · rintro i v σ X0 X hi ⟨v5, ps, rfl, hbX, BX, eNX, eX2, eKX, hF, enm, hpl⟩ ⟨rfl, hx⟩
    rw [List.length_map, List.length_map] at hi
    rw [List.getElem?_map, List.getElem?_map, List.getElem?_eq_getElem hi] at hx
    cases hx
    have pl : ps.length = i := by
      have := congrArg List.length enm
      simpa [Nat.min_eq_left (Nat.le_of_lt hi)] using this
    dsimp only [gName]
    obtain ⟨vF, eF, alF⟩ := hF.ex
    refine ⟨_, rfl, .inl ⟨rfl, _, SqL.of eF⟩, _, rfl, _, rfl, _, rfl, _, rfl, L2, _, rfl, .inl (SqL.of eX2), p, _, _, rfl, hbX, by omega, ?_, ?_, fun c Z ca cb hbZ BZ => ?_⟩
    · rw [List.length_map]
      omega
    · rw [List.length_map]
      exact Int.lt_of_le_of_lt (show (so.length : Int) ≤ 3 by omega) (by decide)
    rw [List.length_map] at cb
    obtain ⟨ci, rfl⟩ := Int.eq_ofNat_of_zero_le ca
    have hci : ci < so.length := by omega
    refine ⟨L2, _, (ci : Int), .str so[ci], rfl, rfl, SqL.of (BZ.at L2p eX2), atI_nat (by rw [List.getElem?_map, List.getElem?_eq_getElem hci]; rfl), ?_⟩
    refine ⟨_, rfl, _, rfl, p, 3, _, rfl, hbZ, by omega, by decide, by decide, fun j Y ja jb hbY BY => ?_⟩
    have BZY := BZ.trans BY
    have eKY := BZY.at Kp eKX
    obtain ⟨y0, hy0, aty⟩ := menu (xs := [V.str "level", .str "switch", .str "level"]) ja (by simpa using jb)
    obtain ⟨sw, ey⟩ : ∃ sw, y0 = .str (kd sw) := by
      simp only [List.mem_cons, List.not_mem_nil, or_false] at hy0
      rcases hy0 with rfl | rfl | rfl
      · exact ⟨false, rfl⟩
      · exact ⟨true, rfl⟩
      · exact ⟨false, rfl⟩
    subst ey
    refine ⟨Kd, _, j, _, rfl, rfl, SqL.of eKY, aty, by show 3 ≤ sizeLine; decide, fun r nr => ?_⟩
    have eFY := BZY.at Fp eF
    have rF : r ≠ F := fun z => by rw [z, eFY] at nr; cases nr
    refine ⟨F, vF, .ref r, rfl, rfl, (upd_ne rF.symm).trans eFY, by rw [alF.length]; exact Nat.lt_of_le_of_lt (show ps.length ≤ 8 by omega) (by decide), ?_⟩
    have BH' : But p H (upd Y r (.tup (fP ⟨tx cs[i], so[ci], sw⟩))) := BX.trans (BZY.trans (But.laid nr))
    have tk : cs.take (i + 1) = cs.take i ++ [cs[i]] := by rw [List.take_add_one, List.getElem?_eq_getElem hi]; rfl
    have Sr := Same.laid (o := HO.tup (fP ⟨tx cs[i], so[ci], sw⟩)) nr
    refine ⟨_, ps ++ [(⟨tx cs[i], so[ci], sw⟩ : Pt)], rfl, ((hbY.laid nr).set Fp.symm.symm).up (by omega), But.wo_upd BH' nFH, (upd_ne NF).trans (Sr _ _ (BZY.at Np eNX)), (upd_ne FL2).trans (Sr _ _ (BZY.at L2p eX2)), (upd_ne FKd).trans (Sr _ _ eKY),
      lt_push (f := fP) (x := (⟨tx cs[i], so[ci], sw⟩ : Pt)) eFY (Al.but alF hbX BZY) nr, ?_, fun q hq => ?_⟩
    · rw [List.map_append, enm, tk, List.map_append]
      rfl
    · rcases List.mem_append.mp hq with h | h
      · exact hpl q h
      · rw [List.mem_singleton.mp h]
        exact List.getElem_mem hci
  · rintro σ X ⟨v5, ps, rfl, hbX, BX, eNX, eX2, eKX, hF, enm, hpl⟩
    rw [List.length_map, List.length_map, List.take_length] at enm
    have pl : ps.length = cs.length := by
      have := congrArg List.length enm
      simpa using this
    have nin : ∀ q ∈ ps, ∃ c ∈ cs, tx c = q.nm := fun q hq => by
      have : q.nm ∈ cs.map tx := enm ▸ List.mem_map.mpr ⟨q, hq, rfl⟩
      exact List.mem_map.mp this
    refine ⟨_, rfl, k F X ps nFH Fp ((hbX.up (by rw [List.length_map, List.length_map]; omega))) BX hF ?_ fun q hq => ?_⟩
    · refine ⟨fun q hq => ⟨?_, sok _ (hpl q hq)⟩, by rw [enm]; exact tx_inj_map cnd, ⟨so, sl3, hpl⟩, by omega, by omega⟩
      obtain ⟨c, hc, e⟩ := nin q hq
      exact e ▸ okN (good c (cin c hc))
    · obtain ⟨c, hc, e⟩ := nin q hq
      exact List.mem_map.mpr ⟨c, cin c hc, e⟩
end
end V45

namespace V45
open PySem PySem.Spec PyProof.Rows L2 Pw
/-! ### what stands while the law goes on -/
section
variable {K : PySem.W.Frag} {H : Hp} {p a : Addr} {n : Nat} {C : Addr}
theorem sqT_wo {xs : List V} (h : SqT K H a xs) {us : List V} (eb : H p = some (.lst us)) : SqT K (Pw.wo H p) a xs := by
  refine h.imp (fun r => ?_) id
  rcases r with e | ⟨o, e⟩
  · exact .inl (wo_of (fun z => by rw [z, eb] at e; cases e) e)
  · exact .inr ⟨o, wo_of (fun z => by rw [z, eb] at e; cases e) e⟩
theorem WoAt_offL {w : Addr} {W : Wks} (h : WoAt K C H w W) {us : List V} (eb : H p = some (.lst us)) : WoAt K C (Pw.wo H p) w W := by
  have dk : ∀ {d : Addr} {kvs : List (Key × V)}, H d = some (.dK kvs) → Pw.wo H p d = some (.dK kvs) := fun e => wo_of (fun z => by rw [z, eb] at e; cases e) e
  obtain ⟨dx, tp, dp, tr, dr, tc, tm, dm, tl, e0, e1, e2, e3, e4, e5, e6, e7, e8⟩ := h.ex
  exact ⟨dx, tp, dp, tr, dr, tc, tm, dm, tl, wo_of (fun z => by rw [z, eb] at e0; cases e0) e0, sqT_wo e1 eb, dk e2, sqT_wo e3 eb, dk e4, sqT_wo e5 eb, sqT_wo e6 eb, dk e7, sqT_wo e8 eb⟩
theorem WoP_offL {p x : Addr} {W : Wks} {ps : List Pt} (h : WoP K C H x W ps) {us : List V} (eb : H p = some (.lst us)) : WoP K C (Pw.wo H p) x W ps :=
  ⟨WoAt_offL h.wo eb, h.ks, h.al.imp fun q xs eq => wo_of (fun z => by rw [z, eb] at eq; cases eq) eq, h.g⟩
theorem WoP.butL {p x : Addr} {n : Nat} {W : Wks} {ps : List Pt} {H' : Hp} (h : WoP K C H x W ps) (hb : BoxAt H p n) (B : But p H H') : WoP K C H' x W ps :=
  let ⟨_, eb⟩ := hb.lst
  ((WoP_offL h eb).same B).same wo_same
end
theorem cut_toI (xs : List V) (i : Int) : ∃ k, cutV xs none (some i) = xs.take k := ⟨_, by
  unfold cutV
  rw [HT.sIx_none, List.drop_zero]⟩
theorem HeAt.butL {D : Addr} {H H' : Hp} {p wa hd hl L : Addr} {ls : List LA} {hs : List Hd} {us : List V} (he : HeAt D H p wa hd hl ls hs) (e : H L = some (.lst us)) (n : hl ≠ L) (B : But L H H') : HeAt D H' p wa hd hl ls hs := by
  obtain ⟨dx, vs, e1, e2, e3, al⟩ := he.ex
  exact ⟨⟨dx, vs, B.at (fun z => by rw [z, e] at e1; cases e1) e1, B.at (fun z => by rw [z, e] at e2; cases e2) e2, B.at n e3, al_but al e B⟩, fun x hx => (he.at_ x hx).butL e B, he.nd, he.few, he.fewH⟩
/-- all tuples stay -/
def TS (H H' : Hp) : Prop := ∀ q t, H q = some (.tup t) → H' q = some (.tup t)
theorem TS.lt {H H' : Hp} {q : Addr} {L : Lt} (t : TS H H') (h : LtAt H q L) : LtAt H' q L :=
  let ⟨rt, vs, e1, e2, al⟩ := h
  ⟨rt, vs, t _ _ e1, t _ _ e2, al.imp fun q xs e => t _ _ e⟩
theorem okS {s : Str} (h : OkName s) : PyData.strOk s = true := by
  have h2 := (h.sh s rfl).2
  unfold PyData.strOk
  rw [Array.all_eq_true']
  intro c hc
  have := h2 c (by simpa using hc)
  exact decide_eq_true (by omega)
end V45

namespace V45
open PySem PySem.Spec PyProof.Rows L2 Pw
/-! ### letters in any order can be heard -/
theorem perm_map_inv {α β : Type} {f : α → β} : ∀ {ys : List β} {ls : List α}, ys.Perm (ls.map f) → ∃ ms : List α, ms.Perm ls ∧ ys = ms.map f
  | [], ls, h => by
    have : ls.map f = [] := List.Perm.eq_nil h.symm
    have : ls = [] := List.map_eq_nil_iff.mp this
    exact ⟨[], by rw [this], rfl⟩
  | y :: ys, ls, h => by
    obtain ⟨x, hx, e⟩ := List.mem_map.mp (h.mem_iff.mp List.mem_cons_self)
    obtain ⟨s, t, rfl⟩ := List.append_of_mem hx
    have h1 : (y :: ys).Perm (y :: (s ++ t).map f) := h.trans (by
      rw [List.map_append, List.map_cons, List.map_append, e]
      exact List.perm_middle)
    obtain ⟨ms, h2, h3⟩ := perm_map_inv ((List.perm_cons y).mp h1)
    exact ⟨x :: ms, (h2.cons x).trans List.perm_middle.symm, by rw [List.map_cons, e, h3]⟩
/-- letters in some order, some left out: what hear asks of each of them -/
structure Hrd (ps : List Pt) (ms : List LA) : Prop where
  good : ∀ x ∈ ms, GoodLt ps x.1
  nd : (ms.map ky).Nodup
  fit : ∀ x ∈ ms, ∀ y ∈ ms, ky x ≠ ky y → x.1.pl = y.1.pl → FitT x.1 y.1
  few : ms.length ≤ 60
theorem Hrd.sub {ps : List Pt} {ms ns : List LA} (h : Hrd ps ms) (s : List.Sublist ns ms) : Hrd ps ns :=
  ⟨fun x hx => h.good x (s.subset hx), h.nd.sublist (s.map ky), fun x hx y hy => h.fit x (s.subset hx) y (s.subset hy), Nat.le_trans s.length_le h.few⟩
theorem nodup_takeG {α : Type} {l : List α} (nd : l.Nodup) {i : Nat} {x : α} (e : l[i]? = some x) : x ∉ l.take i := fun m => by
  obtain ⟨j, hj, ej⟩ := List.getElem_of_mem m
  rw [List.getElem_take] at ej
  rw [List.length_take] at hj
  obtain ⟨hi, ei⟩ := List.getElem?_eq_some_iff.mp e
  exact List.pairwise_iff_getElem.mp nd j i (by omega) hi (by omega) (ej.trans ei.symm)
/-- the letter at i is new and fits those ahead -/
theorem Hrd.next {ps : List Pt} {ms : List LA} (h : Hrd ps ms) {i : Nat} {x : LA} (e : ms[i]? = some x) : (x.1.pl, x.1.no) ∉ (ms.take i).map ky ∧ ∀ y ∈ ms.take i, y.1.pl = x.1.pl → FitT x.1 y.1 := by
  have hn : ky x ∉ (ms.take i).map ky := by
    have e2 : (ms.map ky)[i]? = some (ky x) := by rw [List.getElem?_map, e]; rfl
    have := nodup_takeG h.nd e2
    rw [List.map_take]
    exact this
  exact ⟨hn, fun y hy ep => h.fit x (List.mem_of_getElem? e) y (List.mem_of_mem_take hy) (fun z => hn (z ▸ List.mem_map.mpr ⟨y, hy, rfl⟩)) ep.symm⟩
end V45

/-! != of dicts whose values are data. -/
namespace Pw
open PySem PySem.Spec PyProof.Rows L2
/-- the same data -/
def SameD (K : PySem.W.Frag) (H : Hp) (x y : V) : Prop := ∃ d, Dp K H x d ∧ Dp K H y d ∧ SeqAt.shaped d = true
theorem hits_data {X : Cx} {pins : List (Addr × Obj)} {σ : L2.St} {H : Hp} {s : Shared} (I : Inv X pins σ H s) {A : Around} (hu : A.units + 65 < cLine) {ls : List (Key × V)} {vb : List (Key × Value)} (rb : KV ls vb) {ks : List (Key × V)} {va : List (Key × Value)} (ra : KV ks va) :
    (∀ p ∈ ks, ∃ u, valV ls p.1 = some u ∧ SameD X.K H p.2 u) → PySem.W.KeqHits A.in1 s vb va true := by
  unfold KV at ra
  induction ra with
  | nil => intro _; exact .nil
  | @cons p q ps qs h t ih =>
    intro hp
    obtain ⟨h1, h2⟩ := h
    obtain ⟨u, e, d, d1, d2, sh⟩ := hp p List.mem_cons_self
    have rr : RelO (some u) (valueAt vb p.1) := by rw [← e]; exact rb.val p.1
    obtain ⟨y, hy, ry⟩ := rr.some_of
    obtain ⟨k, v⟩ := q
    have h1' : p.1 = k := h1
    rw [h1'] at hy
    obtain ⟨as, r1⟩ := Dp.reads I d p.2 v d1 h2
    obtain ⟨bs, r2⟩ := Dp.reads I d u y d2 ry
    have hq : SeqAt.EqAt A.in1 s v y (PyData.eqv d d) := PySem.W.keq_at r1 r2 sh sh (by show A.units + 1 + 64 < cLine; omega)
    rw [SeqAt.eqv_refl d (SeqAt.canLay_of_shaped sh)] at hq
    show PySem.W.KeqHits A.in1 s vb ((k, v) :: qs) (true && true)
    exact .hit hy hq (ih fun p' hm => hp p' (List.mem_cons_of_mem _ hm))
def rNeDV (K : PySem.W.Frag) : R2 := fun x y H Q => ∃ a b ks ls, x = .ref a ∧ y = .ref b ∧ H a = some (.dK ks) ∧ H b = some (.dK ls) ∧ ks.length = ls.length ∧ (∀ p ∈ ks, ∃ u, valV ls p.1 = some u ∧ SameD K H p.2 u) ∧ Q (.bl false) H
theorem op_neDV {X : Cx} (hu : X.A.units + 65 < cLine) : OpR X (compareOp .NotEq) (rNeDV X.K) := by
  intro pins s σ H x y v u Q I rx ry h
  obtain ⟨a, b, ks, ls, rfl, rfl, ea, eb, hlen, hp, q⟩ := h
  obtain rfl : v = Value.ref a := rx
  obtain rfl : u = Value.ref b := ry
  obtain ⟨_, ya, va, ra, da⟩ := (show ObjOk X.prog X.w H s.heap a (.dK ks) from I.hok a _ ea)
  obtain ⟨_, yb, vb, rb, db⟩ := (show ObjOk X.prog X.w H s.heap b (.dK ls) from I.hok b _ eb)
  have hl : va.length = vb.length := by rw [← ra.length, ← rb.length]; exact hlen
  exact PySem.W.keq_ne (knd := mixKind X.prog X.w) (r := true) ya yb da db (by omega) (fun _ => hits_data I hu rb ra hp) (fin_bl I q (by simp [hl]))
end Pw

namespace V45
open PySem PySem.Spec PyProof.Rows L2 Pw
/-! ### a letter heard, again too -/
def dSg (r : Sg) : PyData := .tuple [.int r.t, .str r.nm, .int r.w, .str r.m]
def dLt (L : Lt) : PyData := .tuple [.str "signs", .str L.pl, .int L.no, .int L.tm, .tuple (L.rs.map dSg)]
theorem al_dp {K : PySem.W.Frag} {H : Hp} {vs : List V} {rs : List Sg} (h : Al f4 H vs rs) : DpAll K H vs (rs.map dSg) := by
  induction h with
  | nil => exact .nil
  | cons e _ ih => exact .cons (.tup (SqT.of e) (.cons (.int _) (.cons (.str _) (.cons (.int _) (.cons (.str _) .nil))))) ih
theorem lt_dp {K : PySem.W.Frag} {H : Hp} {q : Addr} {L : Lt} (h : LtAt H q L) : Dp K H (.ref q) (dLt L) := by
  obtain ⟨rt, vs, e, et, al⟩ := h
  exact .tup (SqT.of e) (.cons (.str _) (.cons (.str _) (.cons (.int _) (.cons (.int _) (.cons (.tup (SqT.of et) (al_dp al)) .nil)))))
theorem lay_sg : ∀ rs : List Sg, (∀ r ∈ rs, PyData.strOk r.nm = true ∧ PyData.strOk r.m = true) → PyData.canLayAll0 (rs.map dSg) = true
  | [], _ => by simp only [List.map_nil, PyData.canLayAll0]
  | r :: t, h => by
    obtain ⟨h1, h2⟩ := h r List.mem_cons_self
    simp only [List.map_cons, PyData.canLayAll0, lay_sg t fun r' m => h r' (List.mem_cons_of_mem _ m), dSg, PyData.canLay0, h1, h2, Bool.and_self]
theorem dep_sg : ∀ rs : List Sg, PyData.depthAll (rs.map dSg) ≤ 1
  | [] => by simp only [List.map_nil, PyData.depthAll]; exact Nat.zero_le _
  | r :: t => by
    have := dep_sg t
    simp only [List.map_cons, PyData.depthAll, PyData.depth, dSg]
    omega
theorem lt_shaped {ps : List Pt} {L : Lt} (g : GoodLt ps L) (ok : ∀ s ∈ ps.map Pt.pl, OkName s) (okn : ∀ p ∈ ps, OkName p.nm) : SeqAt.shaped (dLt L) = true := by
  unfold SeqAt.shaped
  have h1 := dep_sg L.rs
  have e0 := lay_sg L.rs fun r hr => by
    have h := g.all r hr
    obtain ⟨pt, hpt, e, _⟩ := h.inn
    refine ⟨by rw [← e]; exact okS (okn pt hpt), ?_⟩
    rcases h.m with z | z <;> rw [z] <;> decide +kernel
  have e1 : PyData.canLay0 (dLt L) = true := by
    have s1 : PyData.strOk "signs" = true := by decide +kernel
    have s2 := okS (ok _ g.pl)
    simp only [dLt, PyData.canLay0, PyData.canLayAll0, e0, s1, s2, Bool.and_self]
  have e2 : PyData.depth (dLt L) ≤ 64 := by
    simp only [dLt, PyData.depth, PyData.depthAll]
    omega
  rw [e1, decide_eq_true e2]
  rfl
theorem lt_same {K : PySem.W.Frag} {H : Hp} {p q : Addr} {ps : List Pt} {L : Lt} (gp : GoodPs ps) (g : GoodLt ps L) (h1 : LtAt H p L) (h2 : LtAt H q L) : SameD K H (.ref p) (.ref q) :=
  ⟨_, lt_dp h1, lt_dp h2, lt_shaped g (fun s hs => by
    obtain ⟨pt, hpt, rfl⟩ := List.mem_map.mp hs
    exact (gp.all pt hpt).pl) fun p hp => (gp.all p hp).nm⟩
section
variable {P : Program} {w : World} {K : PySem.W.Frag} {mg : Str → Option Value} {base : Heap} {C D : Addr}
def spHear2 (C D : Addr) (K : PySem.W.Frag) : Sp := fun vs H Q _ => ∃ p wa hd hl ls hs W ps q L, vs = [.ref p, .ref q] ∧ HeAt D H p wa hd hl ls hs ∧ WoP K C H wa W ps ∧ LtAt H q L ∧ GoodLt ps L ∧
  (∀ x ∈ ls, x.1.rs.length ≤ 12) ∧ ls.length < 1000 ∧ (((∃ q', ((L, q') : LA) ∈ ls) ∧ ∀ H', Same H H' → Q (.bl false) H') ∨ ((L.pl, L.no) ∉ ls.map ky ∧ (∀ x ∈ ls, x.1.pl = L.pl → FitT L x.1) ∧
  ∀ H', But hd H H' → HeAt D H' p wa hd hl (ls ++ [(L, q)]) hs → Q (.bl true) H'))
theorem d_hear2 (W : HeC K D) (A : AtMt K D "hear" "Hearing.hear" mHearing_Hear) (ds : Def P w K mg base "check_signs" 9 ["works", "letter"] (spChkS C K)) (df : Def P w K mg base "_fit" 1 ["one", "other"] (spFit K))
    (dL : DefM P w K mg base D "_letters_of" 1 ["self", "place"] (spLtsOf D)) : DefM P w K mg base D "hear" 10 ["self", "letter"] (spHear2 C D K) := by
  refine mkDefM A scmHearing_Hear (fun _ _ _ _ _ _ us hl => match us, hl with | [_, _], _ => rfl) (fun vs H Q E ⟨_, _, _, _, _, _, _, _, _, _, e, _⟩ => by rw [e]; rfl)
    (fun f cdv A out s H vs Q E hr h => ?_)
  obtain ⟨p, wa, hd, hl, ls, hs, Wk, ps, q, L, rfl, he, hw, hL, gL, l12, few, k⟩ := h
  have hu : (A.deeper (envOfC "Hearing.hear" (defScope mHearing_Hear) s.heap.objs.size f cdv)).units + 1 < cLine := hu_of hr
  refine ⟨_, (pss_cons (ps_expr (pe_d ds hr (by decide) (by rfl) (pa_cons (pe_fld (pv 0) rfl) (pa_cons (pv 1) pa_nil))))
    (pss_cons (ps_set (i := 2) scmHearing_Hear.nd rfl (.inl rfl) (pe_tup (pa_cons (pe_ix ix_tup (pv 1) pe_int (fun _ _ => rfl)) (pa_cons (pe_ix ix_tup (pv 1) pe_int (fun _ _ => rfl)) pa_nil))))
    (pss_cons (ps_if (pt_cmp (pc_din hu (pv 2) (pe_fld (pv 0) rfl)))
      (pss_cons (ps_if (pt_cmpR (op_neD hr.units) (pe_dget hu (pe_fld (pv 0) rfl) (pv 2) (fun _ _ => rfl)) (pv 1) (nomark _))
        (pss_one ps_never)
        pss_nil) (pss_one (ps_ret pe_bl)))
      pss_nil)
    (pss_cons (ps_for PassesOwn.never rfl (pi_sq (pe_mm (pv 0) W.cl dL hr (by decide) (pa_cons (pe_ix ix_tup (pv 1) pe_int (fun _ _ => rfl)) pa_nil))) (pg_name (i := 3) scmHearing_Hear.nd rfl (.inl rfl))
      (pss_one (ps_if (pt_not (pt_val (pe_d df hr (by decide) (by rfl) (pa_cons (pv 1) (pa_cons (pv 3) pa_nil)))))
        (pss_one ps_never)
        pss_nil)))
    (pss_cons (ps_asg (pv 1) (pg_sub (pe_fld (pv 0) rfl) (pv 2) (set_dict hu)))
    (pss_one (ps_ret pe_bl))))))), ?_⟩
  obtain ⟨dx, vs, e1, e2, e3, _⟩ := he.ex
  refine ⟨_, rfl, p, D, dx, _, _, rfl, e1, W.cl, W.nW, hef_works, _, rfl, wa, q, Wk, ps, L, rfl, hw, hL, gL, fun H1 S1 => ?_⟩
  have he1 := he.same S1
  have hL1 := hL.same S1
  have eq := hL1
  obtain ⟨rt, vr, eq, _⟩ := eq
  refine ⟨_, rfl, q, _, 1, _, rfl, rfl, SqT.of eq, rfl, _, rfl, q, _, 2, _, rfl, rfl, SqT.of eq, rfl, by show 2 ≤ sizeLine; decide, fun t nt => ?_⟩
  have S2 := Same.laid (o := HO.tup [.str L.pl, .int L.no]) nt
  have et : upd H1 t (.tup [.str L.pl, .int L.no]) t = some (.tup ((kTP (L.pl, L.no)).map kV)) := upd_same
  generalize upd H1 t (.tup [.str L.pl, .int L.no]) = H2 at *
  have he2 := he1.same S2
  obtain ⟨dx2, vs2, f1, f2, f3, _⟩ := he2.ex
  have eg := DGet.t f2 et
  rcases k with ⟨⟨q', hq'⟩, k⟩ | ⟨nk, fit, k⟩
  · have en : lkK ls (L.pl, L.no) = some (L, q') := lkK_mem he.nd hq'
    rw [lkK_val, en] at eg
    refine ⟨_, rfl, _, rfl, p, D, dx2, _, _, rfl, f1, W.cl, W.nH, hef_heard, hd, _, rfl, eg, ?_⟩
    refine ⟨_, rfl, iteT ?_⟩
    refine ⟨_, rfl, p, D, dx2, _, _, rfl, f1, W.cl, W.nH, hef_heard, _, rfl, hd, _, rfl, eg, _, rfl, ?_⟩
    obtain ⟨d, g1, g2, g3⟩ := lt_same (K := K) hw.g gL ((he1.at_ _ hq').same S2) (hL1.same S2)
    refine ⟨d, d, g1, g2, g3, g3, ?_⟩
    rw [SeqAt.eqv_refl d (SeqAt.canLay_of_shaped g3)]
    refine ⟨_, rfl, iteF ?_⟩
    exact k _ (S1.trans S2)
  have en : lkK ls (L.pl, L.no) = none := by
    cases z : lkK ls (L.pl, L.no) with
    | none => rfl
    | some x =>
      obtain ⟨h1, h2⟩ := lkK_some z
      exact absurd (List.mem_map.mpr ⟨x, h1, h2⟩) nk
  rw [lkK_val, en] at eg
  refine ⟨_, rfl, _, rfl, p, D, dx2, _, _, rfl, f1, W.cl, W.nH, hef_heard, hd, _, rfl, eg, ?_⟩
  refine ⟨_, rfl, iteF ?_⟩
  refine ⟨_, rfl, p, dx2, _, rfl, f1, hef_no (by decide +kernel) (by decide +kernel) (by decide +kernel), _, rfl, q, _, 1, _, rfl, rfl, SqT.of (S2 _ _ eq), rfl, p, wa, hd, hl, ls, hs, L.pl, rfl, he2, fun l H3 S3 nl el => ?_⟩
  refine ⟨l, _, rfl, .inl (SqL.of el), fun J G hG wk => ?_⟩
  refine for_it wk (fun i σ X => (∃ v3 : Option V, σ = [some (.ref p), some (.ref q), some (.ref t), v3]) ∧ Same H3 X) ⟨⟨_, rfl⟩, Same.refl _⟩ (fun i σ X _ h => hG X h.2) ?_ ?_
  · rintro i v σ G0 G hi ⟨⟨v3, rfl⟩, SX⟩ ⟨rfl, hx⟩
    rw [List.getElem?_map] at hx
    cases hy : (ofPl ls L.pl)[i]? with
    | none => rw [hy] at hx; cases hx
    | some y =>
      rw [hy] at hx
      cases hx
      obtain ⟨hy1, hy2⟩ := ofPl_mem.mp (List.mem_of_getElem? hy)
      have S23 := S2.trans (S3.trans SX)
      refine ⟨_, rfl, _, rfl, q, y.2, L, y.1, rfl, hL1.same S23, (he1.at_ y hy1).same S23, gL.few, l12 y hy1, fit y hy1 hy2, fun H5 S5 => ?_⟩
      refine ⟨_, rfl, iteF ⟨⟨_, rfl⟩, SX.trans S5⟩⟩
  rintro σ X ⟨⟨v3, rfl⟩, SX⟩
  have S4 := S3.trans SX
  have heX := he2.same S4
  obtain ⟨dx4, vs4, g1, g2, g3, _⟩ := heX.ex
  refine ⟨_, rfl, _, rfl, p, D, dx4, _, _, rfl, g1, W.cl, W.nH, hef_heard, _, rfl, hd, _, rfl, DPut.t g2 (S4 _ _ et) (by rw [show (kvT ls).length = ls.length from List.length_map _]; exact Nat.lt_trans few (by decide)), ?_⟩
  rw [putK_newT nk]
  exact k _ ((Same.but (S1.trans (S2.trans S4))).trans But.set) (heX.put (hL1.same (S2.trans S4)) nk few)
end
end V45

namespace V45T
open PySem PySem.Spec PyProof.Rows L2 Pw V45
abbrev R3 := Int × Int × Str
def f3 (r : R3) : List V := [.int r.1, .int r.2.1, .str r.2.2]
def f2 (r : Int × Int) : List V := [.int r.1, .int r.2]
structure GoodR (r : R3) : Prop where
  t0 : 0 ≤ r.1
  t1 : r.1 ≤ 9999
  w0 : 0 ≤ r.2.1
  w1 : r.2.1 ≤ 63
  m : r.2.2 = "good" ∨ r.2.2 = "odd"
structure GoodH (rs : List R3) : Prop where
  all : ∀ r ∈ rs, GoodR r
  rise : rs.Pairwise fun a b => a.1 < b.1
  len : rs.length ≤ 1000
theorem whole_in {i lo hi : Int} (h : lo ≤ i) (k : i ≤ hi) : wholeB (.int i) lo hi = true := by
  show (decide (lo ≤ i) && decide (i ≤ hi)) = true
  rw [decide_eq_true h, decide_eq_true k]
  rfl
theorem cut1 (xs : List V) : cutV xs (some 1) none = xs.drop 1 := by
  unfold cutV
  rw [HT.sIx_none, show (1 : Int) = ((1 : Nat) : Int) from rfl, HT.sIx_nat]
  cases xs with
  | nil => rfl
  | cons x r =>
    have e : min 1 (x :: r).length = 1 := by
      rw [List.length_cons]
      omega
    rw [e, List.take_of_length_le]
    rw [List.length_drop]
    exact Nat.le_refl _
section
variable {P : Program} {w : World} {K : PySem.W.Frag} {mg : Str → Option Value} {base : Heap}
theorem d_level (T : Txt mg) (A : At K mg "is_level" sIsLevel) (dw : Def P w K mg base "is_whole" 3 ["thing", "low", "high"] (spWhole K)) :
    Def P w K mg base "is_level" 4 ["thing"] (spRange K 0 63) := by
  refine mkDef A scIsLevel (fun _ _ _ _ _ _ us hl => match us, hl with | [_], _ => rfl) (fun vs H Q E ⟨x, t, e, _⟩ => by rw [e]; rfl)
    (fun f cdv A out s H vs Q E hr h => ?_)
  obtain ⟨x, t, rfl, ty, k⟩ := h
  exact ⟨_, pss_one (ps_ret (pe_d dw hr (by decide) (by rfl) (pa_cons (pv 0) (pa_cons pe_int (pa_cons (pe_gi T.cMOST_LEVEL) pa_nil))))),
    _, rfl, x, t, 0, 63, rfl, ty, k⟩

def spRow : Sp := fun vs H Q _ => ∃ p r, vs = [.ref p] ∧ H p = some (.tup (f3 r)) ∧ GoodR r ∧ ∀ H', Same H H' → Q (.bl true) H'
theorem d_row (A : At K mg "is_row" sIsRow) (dt : Def P w K mg base "is_tuple" 1 ["thing", "many"] (spTupN K))
    (dti : Def P w K mg base "is_time" 4 ["thing"] (spRange K 0 9999)) (dl : Def P w K mg base "is_level" 4 ["thing"] (spRange K 0 63))
    (dm : Def P w K mg base "is_mark" 2 ["thing"] (spMark K)) : Def P w K mg base "is_row" 5 ["thing"] spRow := by
  refine mkDef A scIsRow (fun _ _ _ _ _ _ us hl => match us, hl with | [_], _ => rfl) (fun vs H Q E ⟨p, r, e, _⟩ => by rw [e]; rfl)
    (fun f cdv A out s H vs Q E hr h => ?_)
  obtain ⟨p, r, rfl, e, g, k⟩ := h
  refine ⟨_, (pss_cons (ps_if (pt_not (pt_val (pe_d dt hr (by decide) (by rfl) (pa_cons (pv 0) (pa_cons pe_int pa_nil)))))
      (pss_one (ps_ret pe_bl))
      pss_nil)
    (pss_cons (ps_asg (pv 0) (pg_tup (by rfl) (pgs_cons (pg_name (i := 1) scIsRow.nd rfl (.inl rfl)) (pgs_cons (pg_name (i := 2) scIsRow.nd rfl (.inl rfl)) (pgs_cons (pg_name (i := 3) scIsRow.nd rfl (.inl rfl)) pgs_nil)))))
    (pss_one (ps_ret (pe_and (pe_d dti hr (by decide) (by rfl) (pa_cons (pv 1) pa_nil)) (pe_and (pe_d dl hr (by decide) (by rfl) (pa_cons (pv 2) pa_nil)) (pe_one (pe_d dm hr (by decide) (by rfl) (pa_cons (pv 3) pa_nil))))))))), ?_⟩
  have eT : tupNB H (.ref p) 3 = true := by simp only [tupNB, e]; rfl
  refine ⟨_, rfl, .ref p, _, 3, rfl, .tup e, true, congrArg V.bl eT, iteF ?_⟩
  refine ⟨_, rfl, p, f3 r, rfl, SqT.of e, rfl, _, _, rfl, _, _, rfl, _, _, rfl, rfl, ?_⟩
  refine ⟨_, rfl, .int r.1, _, rfl, .int _, true, congrArg V.bl (whole_in g.t0 g.t1), iteT ?_⟩
  refine ⟨_, rfl, .int r.2.1, _, rfl, .int _, true, congrArg V.bl (whole_in g.w0 g.w1), iteT ?_⟩
  refine ⟨_, rfl, .str r.2.2, _, rfl, .str _, fun H' S => ?_⟩
  have eM : oneB (.str r.2.2) ["good", "odd"] = true := by
    rcases g.m with z | z <;> rw [z] <;> decide +kernel
  rw [eM]
  exact k H' S

def spRis (K : PySem.W.Frag) : Sp := fun vs H Q _ => ∃ (a : Addr) (ns : List Int), vs = [.ref a] ∧ SqL K H a (ns.map V.int) ∧ ns.length ≤ 2000 ∧ ns.Pairwise (· < ·) ∧
  ∀ H', Same H H' → Q (.bl true) H'
theorem d_rising (T : Txt mg) (A : At K mg "is_rising" sIsRising) : Def P w K mg base "is_rising" 1 ["numbers"] (spRis K) := by
  refine mkDef A scIsRising (fun _ _ _ _ _ _ us hl => match us, hl with | [_], _ => rfl) (fun vs H Q E ⟨_, _, e, _⟩ => by rw [e]; rfl)
    (fun f cdv A out s H vs Q E hr h => ?_)
  obtain ⟨a, ns, rfl, hS, hl, hp, k⟩ := h
  refine ⟨_, (pss_one (ps_ret (pe_callB (cr_all rfl) (by rfl) T.all PyProof.Rows.boot_all (pa_cons (pe_lc (own := [("one", 1), ("other", 2)]) (g := gTup K 2 (gCons (gName 1) (gCons (gName 2) gNil))) (tt := tYes) rfl scIsRising.nd (pi_zip (by rfl) T.zip (pa_cons (pv 0) (pa_cons (pe_slice sl_list (pv 0) (po_some pe_int) po_none) pa_nil)))
        (blkOk_by (own := [("one", 1), ("other", 2)]) (N := ["numbers", "one", "other"]) (sc := defScope sIsRising) (by decide +kernel))
        (fun _ _ _ _ _ => (pg_tup (by rfl) (pgs_cons (pg_name (i := 1) scIsRising.nd rfl (.inl rfl)) (pgs_cons (pg_name (i := 2) scIsRising.nd rfl (.inl rfl)) pgs_nil)))) (fun _ _ _ _ _ => pts_nil)
        (fun _ _ _ _ _ => (pe_cmpR op_lt (pv 1) (pv 2) (nomark _)))) pa_nil)))), ?_⟩
  refine ⟨_, rfl, _, rfl, 1, rfl, a, ns.map V.int, rfl, hS, fun b nb => ?_⟩
  rw [cut1]
  generalize q1 : upd H b (.lst ((ns.map V.int).drop 1)) = H1
  have S1 : Same H H1 := q1 ▸ Same.laid nb
  have e1 : H1 b = some (.lst ((ns.map V.int).drop 1)) := q1 ▸ upd_same
  refine ⟨a, b, ns.map V.int, (ns.map V.int).drop 1, rfl, S1.seq hS, SqL.of e1, fun D hD => ?_⟩
  have hn : min (ns.map V.int).length ((ns.map V.int).drop 1).length ≤ 1000000 := by
    rw [List.length_map]
    omega
  refine lc_acc (walk_zip (xs := ns.map V.int) (ys := (ns.map V.int).drop 1) rfl) hD hn (fun i acc H => acc = (List.replicate i true).map V.bl) rfl
    (fun H' S => ⟨S.seq (S1.seq hS), SqL.of (S _ _ e1)⟩) ?_ ?_
  · rintro i v H2 H3 acc hi S2 eD hl2 rfl ⟨Tt, x, y, rfl, nT, rfl, hx, hy⟩ Fy Fn hy1 _
    have hx' : (ns.map V.int)[i]? = some x := hx
    have hy' : ((ns.map V.int).drop 1)[i]? = some y := hy
    rw [List.getElem?_map] at hx'
    rw [List.getElem?_drop, List.getElem?_map] at hy'
    cases qa : ns[i]? with
    | none => rw [qa] at hx'; cases hx'
    | some i1 =>
      cases qb : ns[1 + i]? with
      | none => rw [qb] at hy'; cases hy'
      | some i2 =>
        rw [qa] at hx'; rw [qb] at hy'
        cases hx'; cases hy'
        refine ⟨Tt, _, rfl, SqT.of upd_same, rfl, _, _, rfl, _, _, rfl, rfl, rfl, ?_⟩
        unfold tYes
        refine iteT ?_
        refine ⟨_, rfl, _, rfl, i1, i2, rfl, rfl, ?_⟩
        have hlt : i1 < i2 := by
          obtain ⟨ha, ea⟩ := List.getElem?_eq_some_iff.mp qa
          obtain ⟨hb, eb⟩ := List.getElem?_eq_some_iff.mp qb
          have := List.pairwise_iff_getElem.mp hp i (1 + i) ha hb (by omega)
          rw [ea, eb] at this
          exact this
        show Fy (V.bl (decide (i1 < i2))) _
        rw [decide_eq_true hlt]
        refine hy1 _ _ (Same.laid nT) ?_
        show _ ++ [V.bl true] = _
        rw [List.replicate_succ', List.map_append]
        rfl
  · rintro H2 acc S2 eD rfl
    refine ⟨D, List.replicate _ true, rfl, SqL.of eD, ?_⟩
    have : (List.replicate (min (ns.map V.int).length ((ns.map V.int).drop 1).length) true).all id = true := by
      rw [List.all_eq_true]
      intro x hx
      rw [List.eq_of_mem_replicate hx]
      rfl
    rw [this]
    exact k _ (S1.trans S2)
end
end V45T

namespace V45T
open PySem PySem.Spec PyProof.Rows L2 Pw V45
theorem reps_all (n : Nat) : (List.replicate n true).all id = true := by
  rw [List.all_eq_true]
  intro x hx
  rw [List.eq_of_mem_replicate hx]
  rfl
theorem reps_succ (n : Nat) : (List.replicate n true).map V.bl ++ [V.bl true] = (List.replicate (n + 1) true).map V.bl := by
  rw [List.replicate_succ', List.map_append]
  rfl
section
variable {P : Program} {w : World} {K : PySem.W.Frag} {mg : Str → Option Value} {base : Heap}
def spHist : Sp := fun vs H Q _ => ∃ (a : Addr) (rs : List R3), vs = [.ref a] ∧ LT f3 H a rs ∧ GoodH rs ∧ ∀ H', Same H H' → Q (.bl true) H'
theorem d_history (T : Txt mg) (A : At K mg "is_history" sIsHistory) (dr : Def P w K mg base "is_row" 5 ["thing"] spRow)
    (di : Def P w K mg base "is_rising" 1 ["numbers"] (spRis K)) : Def P w K mg base "is_history" 6 ["thing"] spHist := by
  refine mkDef A scIsHistory (fun _ _ _ _ _ _ us hl => match us, hl with | [_], _ => rfl) (fun vs H Q E ⟨_, _, e, _⟩ => by rw [e]; rfl)
    (fun f cdv A out s H vs Q E hr h => ?_)
  obtain ⟨a, rs, rfl, hL, hg, k⟩ := h
  obtain ⟨vs, eL, al⟩ := hL.ex
  refine ⟨_, (pss_cons (ps_if (PW.pt (pw_or (pt_not (pt_val (pe_callB call_isiT (by rfl) T.isinstance PyProof.Rows.boot_isinstance (pa_cons (pv 0) (pa_cons (pe_tup (pa_cons (pe_bltn (v := .ty "list") (u := .type "list") (by rfl) T.list (by decide +kernel) rfl) (pa_cons (pe_bltn (v := .ty "tuple") (u := .type "tuple") (by rfl) T.tuple (by decide +kernel) rfl) pa_nil))) pa_nil))))) (pw_or1 (pt_not (pt_val (pe_callB (cr_all rfl) (by rfl) T.all PyProof.Rows.boot_all (pa_cons (pe_lc (own := [("row", 1)]) (g := gName 1) (tt := tYes) rfl scIsHistory.nd (pi_list (pv 0))
        (blkOk_by (own := [("row", 1)]) (N := ["thing", "row"]) (sc := defScope sIsHistory) (by decide +kernel))
        (fun _ _ _ _ _ => (pg_name (i := 1) scIsHistory.nd rfl (.inl rfl))) (fun _ _ _ _ _ => pts_nil)
        (fun _ _ _ _ _ => (pe_d dr hr (by decide) (by rfl) (pa_cons (pv 1) pa_nil)))) pa_nil)))))))
      (pss_one (ps_ret pe_bl))
      pss_nil)
    (pss_one (ps_ret (pe_d di hr (by decide) (by rfl) (pa_cons (pe_lc (own := [("row", 1)]) (g := gName 1) (tt := tYes) rfl scIsHistory.nd (pi_list (pv 0))
        (blkOk_by (own := [("row", 1)]) (N := ["thing", "row"]) (sc := defScope sIsHistory) (by decide +kernel))
        (fun _ _ _ _ _ => (pg_name (i := 1) scIsHistory.nd rfl (.inl rfl))) (fun _ _ _ _ _ => pts_nil)
        (fun _ _ _ _ _ => (pe_ix (r := rIxT K) ix_tup (pv 1) pe_int (fun _ _ => rfl)))) pa_nil))))), ?_⟩
  refine ⟨_, rfl, by show 2 ≤ sizeLine; decide, fun q hq => ?_⟩
  generalize q1 : upd H q (.tup [.ty "list", .ty "tuple"]) = H1
  have S1 : Same H H1 := q1 ▸ Same.laid hq
  have e1 : H1 q = some (.tup [.ty "list", .ty "tuple"]) := q1 ▸ upd_same
  refine ⟨.ref a, q, [.ty "list", .ty "tuple"], .type "list", [.type "list", .type "tuple"], true, rfl, e1, .cons (.ty _) (.cons (.ty _) .nil),
    .base (.lst (S1 _ _ eL)), kit_lt_list, true, rfl, iteF ?_⟩
  have al1 := al.same S1
  have hn : vs.length ≤ 1000000 := by
    rw [al.length]
    exact Nat.le_trans hg.len (by decide)
  refine ⟨_, rfl, a, rfl, ⟨_, SqL.of (S1 _ _ eL)⟩, fun D hD => ?_⟩
  refine lc_acc (walk_list (K := K) (a := a) (xs := vs)) hD hn (fun i acc H => acc = (List.replicate i true).map V.bl) rfl
    (fun H' S => SqL.of (S _ _ (S1 _ _ eL))) ?_ ?_
  · rintro i v H2 H3 acc hi S2 eD hl2 rfl ⟨rfl, hx⟩ Fy Fn hy1 _
    obtain ⟨p, r, rfl, hr', ep⟩ := (al1.same S2).get hx
    refine ⟨rfl, ?_⟩
    unfold tYes
    refine iteT ?_
    exact ⟨_, rfl, p, r, rfl, ep, hg.all r (List.mem_of_getElem? hr'), fun H4 S4 => hy1 _ _ S4 (reps_succ i)⟩
  · rintro H2 acc S2 eD rfl
    refine ⟨D, List.replicate _ true, rfl, SqL.of eD, true, congrArg V.bl (reps_all _), iteF ?_⟩
    have eL2 := S2 _ _ (S1 _ _ eL)
    have al2 := al1.same S2
    refine ⟨_, rfl, a, rfl, ⟨_, SqL.of eL2⟩, fun D2 hD2 => ?_⟩
    refine lc_acc (walk_list (K := K) (a := a) (xs := vs)) hD2 hn (fun i acc H => acc = ((rs.take i).map (·.1)).map V.int) rfl
      (fun H' S => SqL.of (S _ _ eL2)) ?_ ?_
    · rintro i v H3 H4 acc hi S3 eD2 hl3 rfl ⟨rfl, hx⟩ Fy Fn hy1 _
      obtain ⟨p, r, rfl, hr', ep⟩ := (al2.same S3).get hx
      refine ⟨rfl, ?_⟩
      unfold tYes
      refine iteT ?_
      refine ⟨_, rfl, p, f3 r, 0, .int r.1, rfl, rfl, SqT.of ep, rfl, ?_⟩
      refine hy1 _ _ (Same.refl _) ?_
      rw [List.take_add_one, hr', List.map_append, List.map_append]
      rfl
    · rintro H3 acc S3 eD2 rfl
      rw [al.length, List.take_length] at eD2
      refine ⟨D2, rs.map (·.1), rfl, SqL.of eD2, by rw [List.length_map]; exact Nat.le_trans hg.len (by decide), List.pairwise_map.mpr hg.rise, fun H4 S4 => ?_⟩
      exact k _ (S1.trans (S2.trans (S3.trans S4)))

def spHistC : Sp := fun vs H Q _ => ∃ (a : Addr) (rs : List R3), vs = [.ref a] ∧ LT f3 H a rs ∧ GoodH rs ∧ ∀ H', Same H H' → Q .non H'
theorem d_chistory (A : At K mg "check_history" sCheckHistory) (dh : Def P w K mg base "is_history" 6 ["thing"] spHist) :
    Def P w K mg base "check_history" 7 ["thing"] spHistC := by
  refine mkDef A scCheckHistory (fun _ _ _ _ _ _ us hl => match us, hl with | [_], _ => rfl) (fun vs H Q E ⟨_, _, e, _⟩ => by rw [e]; rfl)
    (fun f cdv A out s H vs Q E hr h => ?_)
  obtain ⟨a, rs, rfl, hL, hg, k⟩ := h
  refine ⟨_, (pss_one (ps_if (pt_not (pt_val (pe_d dh hr (by decide) (by rfl) (pa_cons (pv 0) pa_nil))))
      (pss_one ps_never)
      pss_nil)), ?_⟩
  exact ⟨_, rfl, a, rs, rfl, hL, hg, fun H' S => ⟨true, rfl, iteF (k H' S)⟩⟩

def spIn (lo hi : Int) : Sp := fun vs H Q _ => ∃ i, vs = [.int i] ∧ lo ≤ i ∧ i ≤ hi ∧ Q .non H
theorem d_ctime (A : At K mg "check_time" sCheckTime) (d : Def P w K mg base "is_time" 4 ["thing"] (spRange K 0 9999)) :
    Def P w K mg base "check_time" 5 ["thing"] (spIn 0 9999) := by
  refine mkDef A scCheckTime (fun _ _ _ _ _ _ us hl => match us, hl with | [_], _ => rfl) (fun vs H Q E ⟨_, e, _⟩ => by rw [e]; rfl)
    (fun f cdv A out s H vs Q E hr h => ?_)
  obtain ⟨i, rfl, h0, h1, k⟩ := h
  refine ⟨_, (pss_one (ps_if (pt_not (pt_val (pe_d d hr (by decide) (by rfl) (pa_cons (pv 0) pa_nil))))
      (pss_one ps_never)
      pss_nil)), ?_⟩
  exact ⟨_, rfl, .int i, _, rfl, .int i, true, congrArg V.bl (whole_in h0 h1), iteF k⟩
def spWholeC : Sp := fun vs H Q _ => ∃ i lo hi, vs = [.int i, .int lo, .int hi] ∧ lo ≤ i ∧ i ≤ hi ∧ Q .non H
theorem d_cwhole (A : At K mg "check_whole" sCheckWhole) (d : Def P w K mg base "is_whole" 3 ["thing", "low", "high"] (spWhole K)) :
    Def P w K mg base "check_whole" 4 ["thing", "low", "high"] spWholeC := by
  refine mkDef A scCheckWhole (fun _ _ _ _ _ _ us hl => match us, hl with | [_, _, _], _ => rfl) (fun vs H Q E ⟨_, _, _, e, _⟩ => by rw [e]; rfl)
    (fun f cdv A out s H vs Q E hr h => ?_)
  obtain ⟨i, lo, hi, rfl, h0, h1, k⟩ := h
  refine ⟨_, (pss_one (ps_if (pt_not (pt_val (pe_d d hr (by decide) (by rfl) (pa_cons (pv 0) (pa_cons (pv 1) (pa_cons (pv 2) pa_nil))))))
      (pss_one ps_never)
      pss_nil)), ?_⟩
  exact ⟨_, rfl, _, rfl, _, rfl, .int i, _, lo, hi, rfl, .int i, true, congrArg V.bl (whole_in h0 h1), iteF k⟩
def spTruth : Sp := fun vs H Q _ => ∃ b, vs = [.bl b] ∧ Q .non H
theorem d_ctruth (T : Txt mg) (A : At K mg "check_truth" sCheckTruth) : Def P w K mg base "check_truth" 1 ["thing"] spTruth := by
  refine mkDef A scCheckTruth (fun _ _ _ _ _ _ us hl => match us, hl with | [_], _ => rfl) (fun vs H Q E ⟨_, e, _⟩ => by rw [e]; rfl)
    (fun f cdv A out s H vs Q E hr h => ?_)
  obtain ⟨b, rfl, k⟩ := h
  refine ⟨_, (pss_one (ps_if (pt_not (pt_val (pe_is T.isinstance (by rfl) (pv 0) T.bool (by rfl) (Tn := "bool") (by decide +kernel))))
      (pss_one ps_never)
      pss_nil)), ?_⟩
  exact ⟨_, rfl, .bl b, .ty "bool", _, .type "bool", true, rfl, .ty "bool", (Ty.bl b).q (K := K), (Ty.bl (K := K) (H := H) b).isBool, true, rfl, iteF k⟩
theorem d_csize (T : Txt mg) (A : At K mg "_check_size" sCheckSize) (d : Def P w K mg base "check_whole" 4 ["thing", "low", "high"] spWholeC) :
    Def P w K mg base "_check_size" 5 ["size"] (spIn 1 400) := by
  refine mkDef A scCheckSize (fun _ _ _ _ _ _ us hl => match us, hl with | [_], _ => rfl) (fun vs H Q E ⟨_, e, _⟩ => by rw [e]; rfl)
    (fun f cdv A out s H vs Q E hr h => ?_)
  obtain ⟨i, rfl, h0, h1, k⟩ := h
  refine ⟨_, (pss_one (ps_expr (pe_d d hr (by decide) (by rfl) (pa_cons (pv 0) (pa_cons pe_int (pa_cons (pe_gi T.c_MOST_SIZE) pa_nil)))))), ?_⟩
  exact ⟨_, rfl, i, 1, 400, rfl, h0, h1, k⟩
def spWin : Sp := fun vs H Q _ => ∃ s t b, vs = [.int s, .int t, .bl b] ∧ (0 ≤ s ∧ s ≤ 9999) ∧ (0 ≤ t ∧ t ≤ 9999) ∧ t - s < 1000 ∧ Q .non H
theorem d_cwin (T : Txt mg) (A : At K mg "_check_window" sCheckWindow) (dt : Def P w K mg base "check_time" 5 ["thing"] (spIn 0 9999))
    (db : Def P w K mg base "check_truth" 1 ["thing"] spTruth) : Def P w K mg base "_check_window" 6 ["since", "till", "odd"] spWin := by
  refine mkDef A scCheckWindow (fun _ _ _ _ _ _ us hl => match us, hl with | [_, _, _], _ => rfl) (fun vs H Q E ⟨_, _, _, e, _⟩ => by rw [e]; rfl)
    (fun f cdv A out s H vs Q E hr h => ?_)
  obtain ⟨i, j, b, rfl, hi, hj, hw, k⟩ := h
  refine ⟨_, (pss_cons (ps_expr (pe_d dt hr (by decide) (by rfl) (pa_cons (pv 0) pa_nil)))
    (pss_cons (ps_expr (pe_d dt hr (by decide) (by rfl) (pa_cons (pv 1) pa_nil)))
    (pss_cons (ps_expr (pe_d db hr (by decide) (by rfl) (pa_cons (pv 2) pa_nil)))
    (pss_cons (ps_set (i := 3) scCheckWindow.nd rfl (.inl rfl) (pe_op op_add (pe_op op_sub (pv 1) (pv 0)) pe_int))
    (pss_one (ps_if (pt_cmpR op_gt (pv 3) (pe_gi T.c_MOST_TICKS) (nomark _))
      (pss_one ps_never)
      pss_nil)))))), ?_⟩
  refine ⟨_, rfl, i, rfl, hi.1, hi.2, _, rfl, j, rfl, hj.1, hj.2, _, rfl, b, rfl, _, rfl, _, rfl, _, _, rfl, rfl, _, _, rfl, rfl, _, rfl, _, _, rfl, rfl, false, ?_, iteF k⟩
  exact congrArg V.bl (decide_eq_false (by omega))
end
end V45T

/-! Trends: the mathematics of fine and coarse rows. -/
namespace Tr
/-- the worth of the last row, of those ahead, that is no later than t -/
def lastW (rs : List (Int × Int)) (t : Int) : Option Int := ((rs.takeWhile fun r => decide (r.1 ≤ t)).getLast?).map (·.2)
def tickRow (rs : List (Int × Int)) (t : Int) : Option (Int × Int) := (lastW rs t).map fun w => (t, w)
def fineM (rs : List (Int × Int)) (lo : Int) (n : Nat) : List (Int × Int) := (List.range n).filterMap fun (i : Nat) => tickRow rs (lo + (i : Int))
theorem fineM_zero (rs : List (Int × Int)) (lo : Int) : fineM rs lo 0 = [] := rfl
theorem fineM_succ (rs : List (Int × Int)) (lo : Int) (n : Nat) : fineM rs lo (n + 1) = fineM rs lo n ++ (tickRow rs (lo + n)).toList := by
  unfold fineM
  rw [List.range_succ, List.filterMap_append]
  cases h : tickRow rs (lo + n) <;> simp [h]
theorem fineM_append (rs : List (Int × Int)) (lo : Int) (n m : Nat) : fineM rs lo n ++ fineM rs (lo + n) m = fineM rs lo (n + m) := by
  induction m with
  | zero => simp [fineM_zero]
  | succ m ih =>
    rw [fineM_succ, ← List.append_assoc, ih, show n + (m + 1) = (n + m) + 1 from rfl, fineM_succ]
    congr 3
    omega
theorem fineM_mem {rs : List (Int × Int)} {lo : Int} {n : Nat} {r : Int × Int} (h : r ∈ fineM rs lo n) :
    lo ≤ r.1 ∧ r.1 < lo + n ∧ ∃ q ∈ rs, q.2 = r.2 := by
  unfold fineM at h
  obtain ⟨i, hi, e⟩ := List.mem_filterMap.mp h
  have hi := List.mem_range.mp hi
  unfold tickRow lastW at e
  cases q : (rs.takeWhile fun r => decide (r.1 ≤ lo + i)).getLast? with
  | none => rw [q] at e; cases e
  | some z =>
    rw [q] at e
    cases e
    refine ⟨by show lo ≤ lo + i; omega, by show lo + i < lo + n; omega, z, ?_, rfl⟩
    exact (List.takeWhile_sublist _).subset (List.mem_of_getLast? q)
theorem fineM_len (rs : List (Int × Int)) (lo : Int) (n : Nat) : (fineM rs lo n).length ≤ n := by
  unfold fineM
  exact Nat.le_trans (List.length_filterMap_le _ _) (by simp)
/-- ticks rising -/
def Rise (l : List (Int × Int)) : Prop := l.Pairwise fun a b => a.1 < b.1
theorem fineM_rise (rs : List (Int × Int)) (lo : Int) (n : Nat) : Rise (fineM rs lo n) := by
  induction n with
  | zero => exact .nil
  | succ n ih =>
    rw [fineM_succ]
    refine List.pairwise_append.mpr ⟨ih, ?_, ?_⟩
    · cases tickRow rs (lo + n) <;> simp
    · intro a ha b hb
      have h1 := (fineM_mem ha).2.1
      unfold tickRow at hb
      cases q : lastW rs (lo + n) with
      | none => rw [q] at hb; simp at hb
      | some z =>
        rw [q] at hb
        simp at hb
        rw [hb]
        exact h1

/-! ### coarse rows -/
structure G5 where
  k : Int
  n : Int
  s : Int
  lo : Int
  hi : Int
deriving DecidableEq
def key (z t : Int) : Int := t - t % z
def one (r : Int × Int) : G5 := ⟨r.1, 1, r.2, r.2, r.2⟩
def mrg (a b : G5) : G5 := ⟨a.k, a.n + b.n, a.s + b.s, min a.lo b.lo, max a.hi b.hi⟩
def atKey (z : Int) (r : G5) : G5 := { r with k := key z r.k }
def stp (z : Int) (C : List G5) (r : G5) : List G5 := match C.getLast? with
  | some g => if g.k = key z r.k then C.dropLast ++ [mrg g r] else C ++ [atKey z r]
  | none => [atKey z r]
def coarseM (z : Int) (rs : List G5) : List G5 := rs.foldl (stp z) []
theorem stp_nil (z : Int) (r : G5) : stp z [] r = [atKey z r] := rfl
theorem stp_snoc (z : Int) (C : List G5) (g r : G5) : stp z (C ++ [g]) r = if g.k = key z r.k then C ++ [mrg g r] else C ++ [g] ++ [atKey z r] := by
  unfold stp
  rw [List.getLast?_concat]
  simp
theorem snoc_cases {α : Type} (l : List α) : l = [] ∨ ∃ l' a, l = l' ++ [a] := by
  rcases List.eq_nil_or_concat l with h | ⟨l', a, h⟩
  · exact .inl h
  · exact .inr ⟨l', a, by simpa using h⟩
theorem mrg_assoc (a b c : G5) : mrg (mrg a b) c = mrg a (mrg b c) := by
  unfold mrg
  simp only [G5.mk.injEq, true_and]
  refine ⟨by omega, by omega, by omega, by omega⟩
theorem stp_stp {f : Int} {g r : G5} (h : key f g.k = key f r.k) (D : List G5) : stp f (stp f D g) r = stp f D (mrg g r) := by
  have hk : (mrg g r).k = g.k := rfl
  have e2 : mrg (atKey f g) r = atKey f (mrg g r) := rfl
  have ek : (atKey f g).k = key f g.k := rfl
  rcases snoc_cases D with rfl | ⟨D', d, rfl⟩
  · rw [stp_nil, stp_nil, show [atKey f g] = [] ++ [atKey f g] from rfl, stp_snoc, if_pos (by rw [ek]; exact h), e2]
    rfl
  · rw [stp_snoc, stp_snoc, hk]
    by_cases c : d.k = key f g.k
    · rw [if_pos c, if_pos c, stp_snoc, if_pos (show (mrg d g).k = _ from c.trans h), mrg_assoc]
    · rw [if_neg c, if_neg c, stp_snoc, if_pos (by rw [ek]; exact h), e2]
theorem stp_atKey {f g : Int} (hfg : ∀ t, key f (key g t) = key f t) (D : List G5) (r : G5) : stp f D (atKey g r) = stp f D r := by
  have e1 : (atKey g r).k = key g r.k := rfl
  have e2 : atKey f (atKey g r) = atKey f r := by
    unfold atKey
    simp only [hfg]
  rcases snoc_cases D with rfl | ⟨D', d, rfl⟩
  · rw [stp_nil, stp_nil, e2]
  · rw [stp_snoc, stp_snoc, e1, hfg, e2]
    rfl
theorem fold_coarse {f g : Int} (hfg : ∀ t, key f (key g t) = key f t) (D : List G5) : ∀ n (B : List G5), B.length = n →
    (coarseM g B).foldl (stp f) D = B.foldl (stp f) D := by
  intro n
  induction n with
  | zero =>
    intro B h
    rw [List.length_eq_zero_iff.mp h]
    rfl
  | succ n ih =>
    intro B h
    rcases snoc_cases B with rfl | ⟨B', r, rfl⟩
    · cases h
    · have hl : B'.length = n := by simpa using h
      have e := ih B' hl
      have c1 : coarseM g (B' ++ [r]) = stp g (coarseM g B') r := by
        unfold coarseM
        rw [List.foldl_append]
        rfl
      rw [c1, List.foldl_append, ← e]
      show _ = stp f (List.foldl (stp f) D (coarseM g B')) r
      generalize coarseM g B' = C
      rcases snoc_cases C with rfl | ⟨C', c, rfl⟩
      · rw [stp_nil]
        exact stp_atKey hfg D r
      · rw [stp_snoc]
        by_cases q : c.k = key g r.k
        · rw [if_pos q, List.foldl_append, List.foldl_append]
          show stp f (List.foldl (stp f) D C') (mrg c r) = stp f (stp f (List.foldl (stp f) D C') c) r
          rw [stp_stp]
          rw [q, hfg]
        · rw [if_neg q, List.foldl_append]
          exact stp_atKey hfg _ r
theorem coarse_parts {z : Int} (hz : ∀ t, key z (key z t) = key z t) (A B : List G5) : coarseM z (coarseM z A ++ coarseM z B) = coarseM z (A ++ B) := by
  unfold coarseM
  rw [List.foldl_append, List.foldl_append]
  have h1 := fold_coarse hz [] _ A rfl
  have h2 := fold_coarse hz (List.foldl (stp z) [] A) _ B rfl
  unfold coarseM at h1 h2
  rw [h1, h2]
theorem coarse_coarse {f g : Int} (hfg : ∀ t, key f (key g t) = key f t) (B : List G5) : coarseM f (coarseM g B) = coarseM f B :=
  fold_coarse hfg [] _ B rfl
theorem key_key (z m : Int) (hz : 0 < z) (hm : 0 < m) (t : Int) : key (z * m) (key z t) = key (z * m) t := by
  have e : ∀ (q s : Int), q - q % s = s * (q / s) := fun q s => by
    have := Int.mul_ediv_add_emod q s
    omega
  unfold key
  rw [e t z, e, e t, Int.mul_ediv_mul_of_pos _ _ hz, Int.ediv_ediv_of_nonneg (by omega)]
theorem key_idem (z : Int) (hz : 0 < z) (t : Int) : key z (key z t) = key z t := by
  have := key_key z 1 hz (by omega) t
  rwa [Int.mul_one] at this
theorem key_mono {z : Int} (hz : 0 < z) {a b : Int} (h : a ≤ b) : key z a ≤ key z b := by
  have e : ∀ (q : Int), q - q % z = z * (q / z) := fun q => by
    have := Int.mul_ediv_add_emod q z
    omega
  unfold key
  rw [e, e]
  exact Int.mul_le_mul_of_nonneg_left (Int.ediv_le_ediv hz h) (by omega)
theorem key_one (t : Int) : key 1 t = t := by
  unfold key
  omega
theorem coarse_one {l : List (Int × Int)} (h : Rise l) : coarseM 1 (l.map one) = l.map one := by
  have : ∀ n (l : List (Int × Int)), l.length = n → Rise l → coarseM 1 (l.map one) = l.map one := by
    intro n
    induction n with
    | zero => intro l h _; rw [List.length_eq_zero_iff.mp h]; rfl
    | succ n ih =>
      intro l hl h
      rcases snoc_cases l with rfl | ⟨l', r, rfl⟩
      · cases hl
      · have hp := List.pairwise_append.mp h
        have e := ih l' (by simpa using hl) hp.1
        rw [List.map_append]
        show coarseM 1 (l'.map one ++ [one r]) = l'.map one ++ [one r]
        have c1 : coarseM 1 (l'.map one ++ [one r]) = stp 1 (coarseM 1 (l'.map one)) (one r) := by
          unfold coarseM
          rw [List.foldl_append]
          rfl
        have e2 : atKey 1 (one r) = one r := by
          unfold atKey
          rw [key_one]
        rw [c1, e]
        rcases snoc_cases l' with rfl | ⟨l2, q, rfl⟩
        · rw [List.map_nil, stp_nil, e2]
          rfl
        · rw [List.map_append, List.map_cons, List.map_nil, stp_snoc, if_neg, e2]
          rw [key_one]
          have := hp.2.2 q (by simp) r (by simp)
          show ¬ q.1 = r.1
          omega
  exact this _ l rfl h
def sumN (C : List G5) : Int := (C.map (·.n)).sum
def sumS (C : List G5) : Int := (C.map (·.s)).sum
theorem sum_append (a b : List Int) : (a ++ b).sum = a.sum + b.sum := by
  induction a with
  | nil => simp
  | cons x r ih => simp only [List.cons_append, List.sum_cons, ih]; omega
theorem sumN_stp (z : Int) (C : List G5) (r : G5) : sumN (stp z C r) = sumN C + r.n := by
  rcases snoc_cases C with rfl | ⟨C', c, rfl⟩
  · simp [stp_nil, sumN, atKey]
  · rw [stp_snoc]
    split <;> simp [sumN, sum_append, mrg, atKey] <;> omega
theorem sumS_stp (z : Int) (C : List G5) (r : G5) : sumS (stp z C r) = sumS C + r.s := by
  rcases snoc_cases C with rfl | ⟨C', c, rfl⟩
  · simp [stp_nil, sumS, atKey]
  · rw [stp_snoc]
    split <;> simp [sumS, sum_append, mrg, atKey] <;> omega
theorem sumN_coarse (z : Int) (B : List G5) : sumN (coarseM z B) = sumN B := by
  have : ∀ D, sumN (B.foldl (stp z) D) = sumN D + sumN B := by
    induction B with
    | nil => intro D; simp [sumN]
    | cons r B ih =>
      intro D
      rw [List.foldl_cons, ih, sumN_stp]
      simp only [sumN, List.map_cons, List.sum_cons]
      omega
  have h := this []
  simpa [coarseM, sumN] using h
theorem sumS_coarse (z : Int) (B : List G5) : sumS (coarseM z B) = sumS B := by
  have : ∀ D, sumS (B.foldl (stp z) D) = sumS D + sumS B := by
    induction B with
    | nil => intro D; simp [sumS]
    | cons r B ih =>
      intro D
      rw [List.foldl_cons, ih, sumS_stp]
      simp only [sumS, List.map_cons, List.sum_cons]
      omega
  have h := this []
  simpa [coarseM, sumS] using h
theorem sumN_ones (l : List (Int × Int)) : sumN (l.map one) = l.length := by
  induction l with
  | nil => rfl
  | cons r l ih =>
    simp only [sumN, List.map_cons, List.sum_cons, List.length_cons] at ih ⊢
    rw [ih]
    show (1 : Int) + _ = _
    omega
theorem sumS_ones (l : List (Int × Int)) : sumS (l.map one) = (l.map (·.2)).sum := by
  induction l with
  | nil => rfl
  | cons r l ih =>
    simp only [sumS, List.map_cons, List.sum_cons] at ih ⊢
    rw [ih]
    rfl
/-- starts rising -/
def RiseK (C : List G5) : Prop := C.Pairwise fun a b => a.k < b.k
/-- one step more, of a row no earlier than all ahead: the starts rise on -/
theorem stp_rise {z : Int} {C : List G5} {r : G5} (h : RiseK C) (hl : ∀ g ∈ C, g.k ≤ key z r.k) : RiseK (stp z C r) ∧ ∀ g ∈ stp z C r, g.k ≤ key z r.k := by
  rcases snoc_cases C with rfl | ⟨C', c, rfl⟩
  · rw [stp_nil]
    refine ⟨by unfold RiseK; simp, ?_⟩
    intro g hg
    simp only [List.mem_singleton] at hg
    rw [hg]
    exact Int.le_refl _
  · rw [stp_snoc]
    have hp := List.pairwise_append.mp h
    by_cases q : c.k = key z r.k
    · rw [if_pos q]
      refine ⟨List.pairwise_append.mpr ⟨hp.1, by simp, fun a ha b hb => ?_⟩, fun g hg => ?_⟩
      · simp only [List.mem_singleton] at hb
        rw [hb]
        exact hp.2.2 a ha c (by simp)
      · rcases List.mem_append.mp hg with hg | hg
        · exact hl g (by simp [hg])
        · simp only [List.mem_singleton] at hg
          rw [hg]
          exact hl c (by simp)
    · rw [if_neg q]
      have lt : c.k < key z r.k := by
        have := hl c (by simp)
        omega
      refine ⟨List.pairwise_append.mpr ⟨h, by simp, fun a ha b hb => ?_⟩, fun g hg => ?_⟩
      · simp only [List.mem_singleton] at hb
        rw [hb]
        show a.k < key z r.k
        rcases List.mem_append.mp ha with ha | ha
        · have := hp.2.2 a ha c (by simp)
          omega
        · simp only [List.mem_singleton] at ha
          rw [ha]
          exact lt
      · rcases List.mem_append.mp hg with hg | hg
        · exact hl g hg
        · simp only [List.mem_singleton] at hg
          rw [hg]
          exact Int.le_refl _
/-- rows that never go back -/
def Nd (rs : List G5) : Prop := rs.Pairwise fun a b => a.k ≤ b.k
theorem coarse_snoc (z : Int) (B : List G5) (r : G5) : coarseM z (B ++ [r]) = stp z (coarseM z B) r := by
  unfold coarseM
  rw [List.foldl_append]
  rfl
theorem coarse_rise {z : Int} (hz : 0 < z) : ∀ (n : Nat) (rs : List G5), rs.length = n → Nd rs → RiseK (coarseM z rs) ∧ ∀ g ∈ coarseM z rs, ∃ r ∈ rs, g.k = key z r.k := by
  intro n
  induction n with
  | zero =>
    intro rs h _
    rw [List.length_eq_zero_iff.mp h]
    exact ⟨List.Pairwise.nil, fun g hg => by cases hg⟩
  | succ n ih =>
    intro rs h nd
    rcases snoc_cases rs with rfl | ⟨B, r, rfl⟩
    · cases h
    · have hp := List.pairwise_append.mp nd
      obtain ⟨h1, h2⟩ := ih B (by simpa using h) hp.1
      rw [coarse_snoc]
      have hl : ∀ g ∈ coarseM z B, g.k ≤ key z r.k := fun g hg => by
        obtain ⟨q, hq, e⟩ := h2 g hg
        rw [e]
        exact key_mono hz (hp.2.2 q hq r (by simp))
      refine ⟨(stp_rise h1 hl).1, fun g hg => ?_⟩
      generalize coarseM z B = C at *
      rcases snoc_cases C with rfl | ⟨C', c, rfl⟩
      · rw [stp_nil] at hg
        simp only [List.mem_singleton] at hg
        exact ⟨r, by simp, by rw [hg]; rfl⟩
      · rw [stp_snoc] at hg
        by_cases q : c.k = key z r.k
        · rw [if_pos q] at hg
          rcases List.mem_append.mp hg with hg | hg
          · obtain ⟨r', hr, e⟩ := h2 g (by simp [hg])
            exact ⟨r', by simp [hr], e⟩
          · simp only [List.mem_singleton] at hg
            exact ⟨r, by simp, by rw [hg]; exact q⟩
        · rw [if_neg q] at hg
          rcases List.mem_append.mp hg with hg | hg
          · obtain ⟨r', hr, e⟩ := h2 g hg
            exact ⟨r', by simp [hr], e⟩
          · simp only [List.mem_singleton] at hg
            exact ⟨r, by simp, by rw [hg]; rfl⟩
theorem coarse_len (z : Int) (rs : List G5) : (coarseM z rs).length ≤ rs.length := by
  have : ∀ D : List G5, (rs.foldl (stp z) D).length ≤ D.length + rs.length := by
    induction rs with
    | nil => intro D; simp
    | cons r rs ih =>
      intro D
      rw [List.foldl_cons]
      refine Nat.le_trans (ih _) ?_
      have : (stp z D r).length ≤ D.length + 1 := by
        rcases snoc_cases D with rfl | ⟨D', d, rfl⟩
        · rw [stp_nil]; simp
        · rw [stp_snoc]; split <;> simp
      simp only [List.length_cons]
      omega
  have h := this []
  simpa [coarseM] using h
theorem nd_ones {l : List (Int × Int)} (h : Rise l) : Nd (l.map one) :=
  List.pairwise_map.mpr (h.imp fun q => Int.le_of_lt q)
theorem RiseK.nd {C : List G5} (h : RiseK C) : Nd C := h.imp fun q => Int.le_of_lt q
/-- the stats of some worths -/
structure St (g : G5) (ws : List Int) : Prop where
  n : g.n = ws.length
  s : g.s = ws.sum
  lo : g.lo ∈ ws ∧ ∀ x ∈ ws, g.lo ≤ x
  hi : g.hi ∈ ws ∧ ∀ x ∈ ws, x ≤ g.hi
theorem St.one (z : Int) (r : Int × Int) : St (atKey z (Tr.one r)) [r.2] :=
  ⟨rfl, by simp [atKey, Tr.one], by simp [atKey, Tr.one], by simp [atKey, Tr.one]⟩
theorem St.snoc {g : G5} {ws : List Int} (h : St g ws) (r : Int × Int) : St (mrg g (Tr.one r)) (ws ++ [r.2]) := by
  refine ⟨?_, ?_, ?_, ?_⟩
  · show g.n + 1 = _
    rw [h.n, List.length_append]
    rfl
  · show g.s + r.2 = _
    rw [h.s, sum_append]
    simp
  · show min g.lo r.2 ∈ _ ∧ _
    refine ⟨?_, fun x hx => ?_⟩
    · rcases Int.le_total g.lo r.2 with q | q
      · rw [Int.min_eq_left q]
        simp [h.lo.1]
      · rw [Int.min_eq_right q]
        simp
    · show min g.lo r.2 ≤ x
      rcases List.mem_append.mp hx with hx | hx
      · have := h.lo.2 x hx
        omega
      · simp only [List.mem_singleton] at hx
        omega
  · show max g.hi r.2 ∈ _ ∧ _
    refine ⟨?_, fun x hx => ?_⟩
    · rcases Int.le_total g.hi r.2 with q | q
      · rw [Int.max_eq_right q]
        simp
      · rw [Int.max_eq_left q]
        simp [h.hi.1]
    · show x ≤ max g.hi r.2
      rcases List.mem_append.mp hx with hx | hx
      · have := h.hi.2 x hx
        omega
      · simp only [List.mem_singleton] at hx
        omega
end Tr

namespace V45T
open PySem PySem.Spec PyProof.Rows L2 Pw Tr V45
theorem tw_step {α : Type} (p : α → Bool) : ∀ (xs : List α) (h : Nat) (x : α), h ≤ (xs.takeWhile p).length → xs[h]? = some x → p x = true → h + 1 ≤ (xs.takeWhile p).length
  | [], h, x, _, e, _ => by simp at e
  | y :: r, h, x, l, e, q => by
    rw [List.takeWhile_cons] at l ⊢
    cases c : p y with
    | false =>
      rw [c, if_neg (by decide)] at l
      have : h = 0 := by simpa using l
      subst this
      simp only [List.getElem?_cons_zero, Option.some.injEq] at e
      rw [e, q] at c
      cases c
    | true =>
      rw [c, if_pos rfl] at l
      rw [if_pos rfl, List.length_cons]
      cases h with
      | zero => omega
      | succ h =>
        simp only [List.getElem?_cons_succ] at e
        have := tw_step p r h x (by simpa using l) e q
        omega
theorem tw_stop {α : Type} (p : α → Bool) : ∀ (xs : List α) (h : Nat), h ≤ (xs.takeWhile p).length → (∀ x, xs[h]? = some x → p x = false) → h = (xs.takeWhile p).length
  | [], h, l, _ => by simpa using l
  | y :: r, h, l, q => by
    rw [List.takeWhile_cons] at l ⊢
    cases c : p y with
    | false =>
      rw [c, if_neg (by decide)] at l
      rw [if_neg (by decide)]
      simpa using l
    | true =>
      rw [c, if_pos rfl] at l
      rw [if_pos rfl, List.length_cons]
      cases h with
      | zero =>
        have := q y rfl
        rw [c] at this
        cases this
      | succ h =>
        have := tw_stop p r h (by simpa using l) fun x e => q x (by simpa using e)
        omega
theorem tw_take {α : Type} (p : α → Bool) : ∀ xs : List α, xs.take (xs.takeWhile p).length = xs.takeWhile p
  | [] => rfl
  | y :: r => by
    rw [List.takeWhile_cons]
    cases c : p y with
    | false => rw [if_neg (by decide)]; rfl
    | true => rw [if_pos rfl, List.length_cons, List.take_succ_cons, tw_take p r]
theorem tw_mono {α : Type} {p q : α → Bool} (h : ∀ x, p x = true → q x = true) : ∀ xs : List α, (xs.takeWhile p).length ≤ (xs.takeWhile q).length
  | [] => Nat.le_refl _
  | y :: r => by
    rw [List.takeWhile_cons, List.takeWhile_cons]
    cases c : p y with
    | false => rw [if_neg (by decide)]; exact Nat.zero_le _
    | true =>
      rw [if_pos rfl, h y c, if_pos rfl, List.length_cons, List.length_cons]
      have := tw_mono h r
      omega
def pr (rs : List R3) : List (Int × Int) := rs.map fun r => (r.1, r.2.1)
def cnt (ss : List R3) (t : Int) : Nat := ((pr ss).takeWhile fun r => decide (r.1 ≤ t)).length
def wvO : Option (Int × Int) → V
  | none => .non
  | some r => .int r.2
def wv (ss : List R3) (h : Nat) : V := wvO ((pr ss).take h).getLast?
theorem cnt_mono (ss : List R3) (t : Int) : cnt ss t ≤ cnt ss (t + 1) :=
  tw_mono (fun x e => decide_eq_true (by have := of_decide_eq_true e; omega)) _
theorem cnt_step {ss : List R3} {t : Int} {h : Nat} {r : R3} (l : h ≤ cnt ss t) (e : ss[h]? = some r) (q : r.1 ≤ t) : h + 1 ≤ cnt ss t :=
  tw_step _ _ _ (r.1, r.2.1) l (by unfold pr; rw [List.getElem?_map, e]; rfl) (decide_eq_true q)
theorem cnt_stop {ss : List R3} {t : Int} {h : Nat} (l : h ≤ cnt ss t) (q : ∀ r, ss[h]? = some r → ¬ r.1 ≤ t) : h = cnt ss t := by
  refine tw_stop _ _ _ l fun x e => ?_
  unfold pr at e
  rw [List.getElem?_map] at e
  cases z : ss[h]? with
  | none => rw [z] at e; cases e
  | some r =>
    rw [z] at e
    cases e
    exact decide_eq_false (q r z)
theorem wv_cnt (ss : List R3) (t : Int) : wv ss (cnt ss t) = match lastW (pr ss) t with
    | none => .non
    | some w => .int w := by
  unfold wv cnt lastW
  rw [tw_take]
  cases ((pr ss).takeWhile fun r => decide (r.1 ≤ t)).getLast? <;> rfl
theorem wv_succ {ss : List R3} {h : Nat} {r : R3} (e : ss[h]? = some r) : wv ss (h + 1) = .int r.2.1 := by
  have e' : (pr ss)[h]? = some (r.1, r.2.1) := by unfold pr; rw [List.getElem?_map, e]; rfl
  unfold wv
  rw [List.take_add_one, e']
  show wvO (_ ++ [(r.1, r.2.1)]).getLast? = _
  rw [List.getLast?_concat]
  rfl
def goods (rs : List R3) : List R3 := rs.filter fun r => decide (r.2.2 = "good")
section
variable {P : Program} {w : World} {K : PySem.W.Frag} {mg : Str → Option Value} {base : Heap}
def spGoods (K : PySem.W.Frag) : Sp := fun vs H Q _ => ∃ (a : Addr) (rs : List R3), vs = [.ref a] ∧ LT f3 H a rs ∧ rs.length ≤ 1000 ∧
  ∀ b H', Same H H' → LT f3 H' b (goods rs) → Q (.ref b) H'
theorem d_goods (A : At K mg "good_rows" sGoodRows) : Def P w K mg base "good_rows" 1 ["history"] (spGoods K) := by
  refine mkDef A scGoodRows (fun _ _ _ _ _ _ us hl => match us, hl with | [_], _ => rfl) (fun vs H Q E ⟨_, _, e, _⟩ => by rw [e]; rfl)
    (fun f cdv A out s H vs Q E hr h => ?_)
  obtain ⟨a, rs, rfl, hL, hl, k⟩ := h
  obtain ⟨vs, eL, al⟩ := hL.ex
  refine ⟨_, (pss_one (ps_ret (pe_lc (own := [("row", 1)]) (g := gName 1) rfl scGoodRows.nd (pi_list (pv 0))
        (blkOk_by (own := [("row", 1)]) (N := ["history", "row"]) (sc := defScope sGoodRows) (by decide +kernel))
        (fun _ _ _ _ _ => (pg_name (i := 1) scGoodRows.nd rfl (.inl rfl))) (fun _ _ _ _ _ => (pts_one (pt_cmpR op_eq (pe_ix (r := rIxT K) ix_tup (pv 1) pe_int (fun _ _ => rfl)) pe_str (nomark _))))
        (fun _ _ _ _ _ => (pv 1))))), ?_⟩
  refine ⟨_, rfl, a, rfl, ⟨_, SqL.of eL⟩, fun D hD => ?_⟩
  refine lc_acc (walk_list (K := K) (a := a) (xs := vs)) hD (by rw [al.length]; exact Nat.le_trans hl (by decide)) (fun i acc H => Al f3 H acc (goods (rs.take i))) .nil
    (fun H' S => SqL.of (S _ _ eL)) ?_ ?_
  · rintro i v H2 H3 acc hi S2 eD hl2 hA ⟨rfl, hx⟩ Fy Fn hy1 hn1
    obtain ⟨p, r, rfl, hr', ep⟩ := (al.same S2).get hx
    have et : rs.take (i + 1) = rs.take i ++ [r] := by rw [List.take_add_one, hr']; rfl
    refine ⟨rfl, ?_⟩
    refine ⟨_, rfl, p, f3 r, 2, .str r.2.2, rfl, rfl, SqT.of ep, rfl, rfl, _, rfl, ?_⟩
    show if decide (V.str r.2.2 = V.str "good") = true then _ else _
    by_cases hm : r.2.2 = "good"
    · rw [decide_eq_true (congrArg V.str hm)]
      refine iteT ⟨_, rfl, hy1 _ _ (Same.refl _) ?_⟩
      have pD : p ≠ D := fun z => by rw [z, eD] at ep; cases ep
      have : goods (rs.take (i + 1)) = goods (rs.take i) ++ [r] := by
        unfold goods
        rw [et, List.filter_append, List.filter_cons, decide_eq_true hm]
        rfl
      rw [this]
      exact hA.snoc (wo_of pD ep)
    · rw [decide_eq_false (fun z => hm (V.str.inj z))]
      refine iteF (hn1 _ (Same.refl _) ?_)
      have : goods (rs.take (i + 1)) = goods (rs.take i) := by
        unfold goods
        rw [et, List.filter_append, List.filter_cons, decide_eq_false hm]
        simp
      rw [this]
      exact hA
  · rintro H2 acc S2 eD hA
    rw [al.length, List.take_length] at hA
    exact k D H2 S2 ⟨acc, eD, hA.same wo_same⟩

def spFineR : Sp := fun vs H Q _ => ∃ (a : Addr) (rs : List R3) (lo hi : Int) (o : Bool), vs = [.ref a, .int lo, .int hi, .bl o] ∧ LT f3 H a rs ∧ rs.length ≤ 1000 ∧
  (0 ≤ lo ∧ lo ≤ 10000) ∧ (0 ≤ hi ∧ hi ≤ 10000) ∧ hi - lo ≤ 2000 ∧
  ∀ b H', Same H H' → H b = none → LT f2 H' b (fineM (pr (if o = true then rs else goods rs)) lo (hi + 1 - lo).toNat) → Q (.ref b) H'
theorem d_fineR (T : Txt mg) (A : At K mg "_fine_rows" sFineRows) (dg : Def P w K mg base "good_rows" 1 ["history"] (spGoods K)) :
    Def P w K mg base "_fine_rows" 2 ["history", "since", "till", "odd"] spFineR := by
  refine mkDef A scFineRows (fun _ _ _ _ _ _ us hl => match us, hl with | [_, _, _, _], _ => rfl) (fun vs H Q E ⟨_, _, _, _, _, e, _⟩ => by rw [e]; rfl)
    (fun f cdv A out s H vs Q E hr h => ?_)
  obtain ⟨a, rs, lo, hi, o, rfl, hL, hl, hlo, hhi, hw, k⟩ := h
  refine ⟨_, (pss_cons (ps_set (i := 4) scFineRows.nd rfl (.inl rfl) (pe_ifExp (pt_val (pv 3)) (pv 0) (pe_d dg hr (by decide) (by rfl) (pa_cons (pv 0) pa_nil))))
    (pss_cons (ps_set (i := 5) scFineRows.nd rfl (.inl rfl) (pe_lst pa_nil))
    (pss_cons (ps_set (i := 6) scFineRows.nd rfl (.inl rfl) pe_non)
    (pss_cons (ps_set (i := 7) scFineRows.nd rfl (.inl rfl) pe_int)
    (pss_cons (ps_for PassesOwn.never rfl (pi_range2 (by rfl) T.range (pa_cons (pv 1) (pa_cons (pe_op op_add (pv 2) pe_int) pa_nil))) (pg_name (i := 8) scFineRows.nd rfl (.inl rfl))
      (pss_cons (ps_while PassesOwn.never (PW.pt (pw_and (pt_cmpR op_lt (pv 7) (pe_callB call_len_seq (by rfl) T.len PySem.boot_len (pa_cons (pv 4) pa_nil)) (nomark _)) (pw_and1 (pt_cmpR op_le (pe_ix ix_tup (pe_ix ix_list (pv 4) (pv 7) (fun _ _ => rfl)) pe_int (fun _ _ => rfl)) (pv 8) (nomark _)))))
        (pss_cons (ps_set (i := 6) scFineRows.nd rfl (.inl rfl) (pe_ix ix_tup (pe_ix ix_list (pv 4) (pv 7) (fun _ _ => rfl)) pe_int (fun _ _ => rfl)))
        (pss_one (ps_aug (i := 7) scFineRows.nd rfl (.inl rfl) pe_int ip_add))))
      (pss_one (ps_if (pt_cmpR op_notN (pv 6) pe_non (nomark _))
        (pss_one (ps_expr (pe_bm PySem.F.plainAttrs_list PySem.F.slot_list_append PySem.F.type_list_append mt_append (pv 5) (pa_cons (pe_tup (pa_cons (pv 8) (pa_cons (pv 6) pa_nil))) pa_nil))))
        pss_nil))))
    (pss_one (ps_ret (pv 5)))))))), ?_⟩
  have split : ∀ (σ : L2.St) (Qc : VK), σ[0]? = some (some (.ref a)) → (∀ (b : Addr) (ss : List R3) (H1 : Hp), Same H H1 → LT f3 H1 b ss → ss.length ≤ 1000 →
      ss = (if o = true then rs else goods rs) → Qc (.ref b) H1) →
      (if o = true then tVar 0 σ H Qc else tCall (spGoods K) [] E0 (tCons (tVar 0) tNil) σ H Qc) := by
    intro σ Qc e0 hq
    cases o with
    | true => exact iteT ⟨_, e0, hq a rs H (Same.refl _) hL hl rfl⟩
    | false => exact iteF ⟨_, e0, a, rs, rfl, hL, hl, fun b H' S h => hq b _ H' S h (Nat.le_trans (List.length_filter_le _ _) hl) rfl⟩
  refine ⟨_, rfl, o, rfl, ?_⟩
  refine split _ _ rfl fun b ss H1 S1 hLs hls hss => ?_
  rw [← hss] at k
  clear split hss
  obtain ⟨vs, eb, al⟩ := hLs.ex
  refine ⟨by show 0 ≤ sizeLine; decide, fun R hR => ?_⟩
  refine ⟨_, rfl, _, rfl, _, _, rfl, rfl, lo, hi + 1, rfl, ⟨by omega, by omega, by omega, by omega⟩, ?_⟩
  refine for_range (lo := lo) (n := (hi + 1 - lo).toNat) (fun i σ G => ∃ (h : Nat) (tv : Option V) (ws : List V),
    σ = [some (.ref a), some (.int lo), some (.int hi), some (.bl o), some (.ref b), some (.ref R), some (wv ss h), some (.int h), tv] ∧
    h ≤ cnt ss (lo + i) ∧ Same H1 G ∧ G R = some (.lst ws) ∧ Al f2 (wo G R) ws (fineM (pr ss) lo i)) ?_ ?_ ?_
  · exact ⟨0, none, [], rfl, Nat.zero_le _, Same.laid hR, upd_same, .nil⟩
  · rintro i σ G hi' ⟨h, tv, ws, rfl, hc, S2, eR, hA⟩
    have eb2 := S2 _ _ eb
    have al2 := al.same S2
    refine while_m (fun m σ G' => G' = G ∧ ∃ h : Nat, m = cnt ss (lo + i) - h ∧ h ≤ cnt ss (lo + i) ∧
      σ = [some (.ref a), some (.int lo), some (.int hi), some (.bl o), some (.ref b), some (.ref R), some (wv ss h), some (.int h), some (.int (lo + i))])
      _ ⟨rfl, h, rfl, hc, rfl⟩ ?_
    rintro m σ G' ⟨rfl, h, rfl, hc, rfl⟩ F hT hF
    have fin : h = cnt ss (lo + i) → F false G' := by
      intro eh
      refine hF _ ?_
      have ew := wv_cnt ss (lo + i)
      rw [← eh] at ew
      have e1 : fineM (pr ss) lo (i + 1) = fineM (pr ss) lo i ++ (tickRow (pr ss) (lo + i)).toList := fineM_succ _ _ _
      have hm := cnt_mono ss (lo + i)
      have hc2 : h ≤ cnt ss (lo + ((i + 1 : Nat) : Int)) := by
        have : lo + ((i + 1 : Nat) : Int) = lo + i + 1 := by omega
        rw [this]
        omega
      refine ⟨_, rfl, rfl, _, rfl, ?_⟩
      cases hL : lastW (pr ss) (lo + i) with
      | none =>
        rw [hL] at ew
        have ew' : wv ss h = V.non := ew
        rw [ew']
        refine iteF ?_
        refine ⟨h, some (.int (lo + i)), ws, ?_, hc2, S2, eR, ?_⟩
        · rw [ew']
        · rw [e1]
          unfold tickRow
          rw [hL]
          simpa using hA
      | some w =>
        rw [hL] at ew
        have ew' : wv ss h = V.int w := ew
        rw [ew']
        refine iteT ?_
        refine ⟨_, rfl, .inl ⟨rfl, _, SqL.of eR⟩, _, rfl, _, rfl, by show 2 ≤ sizeLine; decide, fun q hq => ?_⟩
        have hRq : q ≠ R := fun z => by rw [z, eR] at hq; cases hq
        have hlen : ws.length ≤ 2001 := by
          rw [hA.length]
          refine Nat.le_trans (fineM_len _ _ _) ?_
          omega
        refine ⟨R, ws, .ref q, rfl, rfl, (upd_ne (Ne.symm hRq)).trans eR, Nat.lt_of_le_of_lt hlen (by decide), ?_⟩
        refine ⟨h, some (.int (lo + i)), ws ++ [.ref q], ?_, hc2, Same.wo_upd (S2.trans (Same.laid hq)) hR, upd_same, ?_⟩
        · rw [ew']
        · rw [wo_upd, e1]
          unfold tickRow
          rw [hL]
          refine Al.snoc (hA.same (Pw.Same.wo (Same.laid hq))) (r := (lo + (i : Int), w)) ?_
          exact wo_of hRq upd_same
    refine ⟨_, rfl, _, rfl, b, vs, rfl, .inl (SqL.of eb2), (h : Int), (vs.length : Int), rfl, rfl, _, rfl, ?_⟩
    by_cases hlt : (h : Int) < (vs.length : Int)
    · rw [decide_eq_true hlt]
      refine iteT ?_
      have hlt' : h < vs.length := by omega
      obtain ⟨p, r, ev, er, ep⟩ := al2.get (List.getElem?_eq_getElem hlt')
      have ai : atI vs (h : Int) = some (.ref p) := atI_nat (by rw [List.getElem?_eq_getElem hlt', ev])
      refine ⟨_, rfl, _, rfl, b, vs, (h : Int), .ref p, rfl, rfl, SqL.of eb2, ai, p, f3 r, 0, .int r.1, rfl, rfl, SqT.of ep, rfl, _, rfl, r.1, lo + i, rfl, rfl, _, rfl, ?_⟩
      by_cases hle : r.1 ≤ lo + i
      · rw [decide_eq_true hle]
        refine hT _ fun N hN => ?_
        refine ⟨_, rfl, _, rfl, b, vs, (h : Int), .ref p, rfl, rfl, SqL.of eb2, ai, p, f3 r, 1, .int r.2.1, rfl, rfl, SqT.of ep, rfl, ?_⟩
        refine ⟨_, rfl, _, _, rfl, rfl, ?_⟩
        have hs := cnt_step hc er hle
        refine hN (cnt ss (lo + i) - (h + 1)) _ _ (by omega) ⟨rfl, h + 1, rfl, hs, ?_⟩
        rw [wv_succ er]
        rfl
      · rw [decide_eq_false hle]
        refine fin (cnt_stop hc fun r' er' => ?_)
        rw [er] at er'
        cases er'
        exact hle
    · rw [decide_eq_false hlt]
      refine iteF (fin (cnt_stop hc fun r' er' => ?_))
      have := (List.getElem?_eq_some_iff.mp er').1
      rw [← al2.length] at this
      omega
  · rintro σ G ⟨h, tv, ws, rfl, hc, S2, eR, hA⟩
    refine ⟨_, rfl, k R G (S1.trans S2) ?_ ⟨ws, eR, hA.same wo_same⟩⟩
    cases q : H R with
    | none => rfl
    | some o => rw [S1 _ _ q] at hR; cases hR
end
end V45T

namespace V45T
open PySem PySem.Spec PyProof.Rows L2 Pw Tr V45
def f5 (g : G5) : List V := [.int g.k, .int g.n, .int g.s, .int g.lo, .int g.hi]
structure GoodF (fr : List (Int × Int)) : Prop where
  all : ∀ r ∈ fr, (0 ≤ r.1 ∧ r.1 ≤ 9999) ∧ (0 ≤ r.2 ∧ r.2 ≤ 63)
  rise : Rise fr
  len : fr.length ≤ 2000
/-- a dict of lists of worths, each list at a place of its own -/
inductive Gr : Hp → List (Key × V) → List G5 → Prop where
  | nil {H : Hp} : Gr H [] []
  | snoc {H : Hp} {kvs : List (Key × V)} {C : List G5} {l : Addr} {ws : List Int} {g : G5} (t : Gr (wo H l) kvs C)
      (e : H l = some (.lst (ws.map V.int))) (s : St g ws) : Gr H (kvs ++ [(.inl g.k, .ref l)]) (C ++ [g])
theorem Gr.same {H : Hp} {kvs : List (Key × V)} {C : List G5} (h : Gr H kvs C) : ∀ {H' : Hp}, Same H H' → Gr H' kvs C := by
  induction h with
  | nil => intro H' _; exact .nil
  | snoc _ e s ih => intro H' S; exact .snoc (ih (Pw.Same.wo S)) (S _ _ e) s
theorem Gr.keys {H : Hp} {kvs : List (Key × V)} {C : List G5} (h : Gr H kvs C) : kvs.map (·.1) = C.map fun g => Sum.inl g.k := by
  induction h with
  | nil => rfl
  | snoc _ _ _ ih => rw [List.map_append, List.map_append, ih]; rfl
theorem Gr.length {H : Hp} {kvs : List (Key × V)} {C : List G5} (h : Gr H kvs C) : kvs.length = C.length := by
  have := congrArg List.length h.keys
  simpa using this
theorem Gr.last {H : Hp} {kvs : List (Key × V)} {C : List G5} {g : G5} (h : Gr H kvs (C ++ [g])) :
    ∃ kvs' l ws, kvs = kvs' ++ [(.inl g.k, .ref l)] ∧ Gr (wo H l) kvs' C ∧ H l = some (.lst (ws.map V.int)) ∧ St g ws := by
  generalize e : C ++ [g] = D at h
  cases h with
  | nil => simp at e
  | snoc t q s =>
    obtain ⟨rfl, e2⟩ := List.append_inj' e rfl
    cases e2
    exact ⟨_, _, _, rfl, t, q, s⟩
theorem Gr.get {H : Hp} {kvs : List (Key × V)} {C : List G5} (h : Gr H kvs C) : ∀ {i : Nat} {g : G5}, C[i]? = some g →
    ∃ l ws, kvs[i]? = some (.inl g.k, .ref l) ∧ H l = some (.lst (ws.map V.int)) ∧ St g ws := by
  induction h with
  | nil => intro i g e; simp at e
  | @snoc H kvs C l ws g' t e s ih =>
    intro i g e'
    by_cases hi : i < C.length
    · rw [List.getElem?_append_left hi] at e'
      obtain ⟨l', ws', h1, h2, h3⟩ := ih e'
      refine ⟨l', ws', ?_, (wo_at h2).2, h3⟩
      rw [List.getElem?_append_left (by rw [t.length]; exact hi)]
      exact h1
    · rw [List.getElem?_append_right (by omega)] at e'
      have : i - C.length = 0 := by
        cases q : i - C.length with
        | zero => rfl
        | succ n => rw [q] at e'; simp at e'
      rw [this] at e'
      simp only [List.getElem?_cons_zero, Option.some.injEq] at e'
      subst e'
      refine ⟨l, ws, ?_, e, s⟩
      rw [List.getElem?_append_right (by rw [t.length]; omega), t.length, this]
      rfl
theorem Gr.pos {H : Hp} {kvs : List (Key × V)} {C : List G5} (h : Gr H kvs C) : 0 ≤ sumN C := by
  induction h with
  | nil => exact Int.le_refl _
  | snoc _ _ s ih =>
    unfold sumN at ih ⊢
    rw [List.map_append, sum_append]
    simp only [List.map_cons, List.map_nil, List.sum_cons, List.sum_nil]
    have := s.n
    omega
theorem Gr.no {H : Hp} {kvs : List (Key × V)} {C : List G5} (h : Gr H kvs C) {k : Int} (n : ∀ g ∈ C, g.k ≠ k) : ∀ kv ∈ kvs, kv.1 ≠ Sum.inl k := by
  intro kv hk e
  have : kv.1 ∈ kvs.map (·.1) := List.mem_map_of_mem hk
  rw [h.keys, e] at this
  obtain ⟨g, hg, q⟩ := List.mem_map.mp this
  exact n g hg (Sum.inl.inj q)
section
variable {P : Program} {w : World} {K : PySem.W.Frag} {mg : Str → Option Value} {base : Heap}
def spCoR : Sp := fun vs H Q _ => ∃ (a : Addr) (fr : List (Int × Int)) (z : Int), vs = [.ref a, .int z] ∧ LT f2 H a fr ∧ Rise fr ∧ fr.length ≤ 2000 ∧ 1 ≤ z ∧
  ∀ b H', Same H H' → H b = none → LT f5 H' b (coarseM z (fr.map one)) → Q (.ref b) H'
theorem d_coR (T : Txt mg) (A : At K mg "_coarse_rows" sCoarseRows) : Def P w K mg base "_coarse_rows" 1 ["rows", "size"] spCoR := by
  refine mkDef A scCoarseRows (fun _ _ _ _ _ _ us hl => match us, hl with | [_, _], _ => rfl) (fun vs H Q E ⟨_, _, _, e, _⟩ => by rw [e]; rfl)
    (fun f cdv A out s H vs Q E hr h => ?_)
  obtain ⟨a, fr, z, rfl, hL, hri, hl, hz, k⟩ := h
  obtain ⟨vs, eL, al⟩ := hL.ex
  have hu := hu_of hr
  refine ⟨_, (pss_cons (ps_set (i := 2) scCoarseRows.nd rfl (.inl rfl) pe_dnewK)
    (pss_cons (ps_for PassesOwn.never rfl (pi_list (pv 0)) (pg_tup (by rfl) (pgs_cons (pg_name (i := 3) scCoarseRows.nd rfl (.inl rfl)) (pgs_cons (pg_name (i := 4) scCoarseRows.nd rfl (.inl rfl)) pgs_nil)))
      (pss_one (ps_expr (pe_bm PySem.F.plainAttrs_list PySem.F.slot_list_append PySem.F.type_list_append mt_append (pe_dsetd (pv 2) (pe_op op_sub (pv 3) (pe_op op_mod (pv 3) (pv 1))) (pe_lst pa_nil) ⟨rfl, rfl, rfl, rfl⟩) (pa_cons (pv 4) pa_nil)))))
    (pss_one (ps_ret (pe_lock (pe_lc (own := [("start", 5), ("worths", 6)]) (g := (gTup K 2 (gCons (gName 5) (gCons (gName 6) gNil)))) (tt := tYes) rfl scCoarseRows.nd (pi_items (pv 2))
        (blkOk_by (own := [("start", 5), ("worths", 6)]) (N := ["rows", "size", "stretches", "tick", "worth", "start", "worths"]) (sc := defScope sCoarseRows) (by decide +kernel))
        (fun _ _ _ _ _ => (pg_tup (by rfl) (pgs_cons (pg_name (i := 5) scCoarseRows.nd rfl (.inl rfl)) (pgs_cons (pg_name (i := 6) scCoarseRows.nd rfl (.inl rfl)) pgs_nil)))) (fun _ _ _ _ _ => pts_nil)
        (fun _ _ _ _ _ => (pe_tup (pa_cons (pv 5) (pa_cons (pe_callB (r := rLn K) call_len_seq (by rfl) T.len PySem.boot_len (pa_cons (pv 6) pa_nil)) (pa_cons (pe_callB (r := rSum K) (cr_sum rfl) (by rfl) T.sum PyProof.Rows.boot_sum (pa_cons (pv 6) pa_nil)) (pa_cons (pe_callB (r := rMin K) (cr_min rfl) (by rfl) T.min PyProof.Rows.boot_min (pa_cons (pv 6) pa_nil)) (pa_cons (pe_callB (r := rMax K) (cr_max rfl) (by rfl) T.max PyProof.Rows.boot_max (pa_cons (pv 6) pa_nil)) pa_nil))))))))))))), ?_⟩
  refine fun d hd => ?_
  refine ⟨_, rfl, a, rfl, ⟨_, SqL.of ((upd_ne (ne_of_none eL hd)).trans eL)⟩, ?_⟩
  have hzp : 0 < z := by omega
  refine for_it (walk_list (K := K) (a := a) (xs := vs)) (fun i σ G => ∃ (t3 t4 : Option V) (kvs : List (Key × V)),
    σ = [some (.ref a), some (.int z), some (.ref d), t3, t4, none, none] ∧ Same H G ∧ G d = some (.dK kvs) ∧ Gr (wo (fre H G) d) kvs (coarseM z ((fr.take i).map one)))
    ?_ (fun i σ G _ ⟨_, _, _, _, S, _⟩ => SqL.of (S _ _ eL)) ?_ ?_
  · exact ⟨none, none, [], rfl, Same.laid hd, upd_same, .nil⟩
  · rintro i v σ G0 G hi ⟨t3, t4, kvs, rfl, S, ed, hG⟩ ⟨rfl, hx⟩
    obtain ⟨p, r, rfl, hr', ep⟩ := (al.same S).get hx
    have hi2 : i < fr.length := by rw [← al.length]; exact hi
    have et : fr.take (i + 1) = fr.take i ++ [r] := by rw [List.take_add_one, hr']; rfl
    have ec : coarseM z ((fr.take (i + 1)).map one) = stp z (coarseM z ((fr.take i).map one)) (one r) := by
      rw [et, List.map_append]
      exact coarse_snoc z _ _
    -- the starts ahead are no later
    have hri' : Rise (fr.take i ++ [r]) := by
      rw [← et]
      exact hri.sublist (List.take_sublist _ _)
    have hpw := List.pairwise_append.mp hri'
    obtain ⟨hk1, hk2⟩ := coarse_rise hzp _ _ rfl (nd_ones hpw.1)
    have hle : ∀ g ∈ coarseM z ((fr.take i).map one), g.k ≤ key z r.1 := fun g hg => by
      obtain ⟨q, hq, e⟩ := hk2 g hg
      obtain ⟨q', hq', rfl⟩ := List.mem_map.mp hq
      rw [e]
      exact key_mono hzp (Int.le_of_lt (hpw.2.2 q' hq' r (by simp)))
    have hlen : (coarseM z ((fr.take i).map one)).length ≤ 2000 := by
      refine Nat.le_trans (coarse_len _ _) ?_
      rw [List.length_map, List.length_take]
      omega
    have hsum : sumN (coarseM z ((fr.take i).map one)) ≤ 2000 := by
      rw [sumN_coarse, sumN_ones, List.length_take]
      omega
    generalize coarseM z ((fr.take i).map one) = C at *
    have hkl : kvs.length < sizeLine := by
      rw [hG.length]
      exact Nat.lt_of_le_of_lt hlen (by decide)
    refine ⟨p, f2 r, rfl, SqT.of ep, rfl, _, _, rfl, _, _, rfl, rfl, ?_⟩
    refine ⟨_, rfl, d, rfl, .inl ⟨kvs, .inl ed⟩, ?_⟩
    refine ⟨_, rfl, _, rfl, _, rfl, _, _, rfl, rfl, hzp, r.1, r.1 % z, rfl, rfl, ?_⟩
    refine ⟨by show 0 ≤ sizeLine; decide, fun q hq => ?_⟩
    have qd : q ≠ d := fun e => by rw [e, ed] at hq; cases hq
    have ed1 : upd G q (.lst []) d = some (.dK kvs) := (upd_ne (Ne.symm qd)).trans ed
    refine ⟨kvs, .inl (key z r.1), ed1, rfl, hkl, fun v hv => ?_, fun hv => ?_⟩
    · -- the stretch is there
      rcases snoc_cases C with rfl | ⟨C', g, rfl⟩
      · have := hG.length
        rw [List.length_eq_zero_iff.mp this] at hv
        cases hv
      · obtain ⟨kvs', l, ws, rfl, hG', el, st⟩ := hG.last
        by_cases e : g.k = key z r.1
        · have hno : ∀ kv ∈ kvs', kv.1 ≠ Sum.inl (key z r.1) := hG'.no fun g' hg' => by
            have := (List.pairwise_append.mp hk1).2.2 g' hg' g (by simp)
            omega
          rw [e, valV_last hno] at hv
          cases hv
          obtain ⟨ld, el1⟩ := wo_at el
          obtain ⟨lH, el2⟩ := fre_at el1
          have el3 : upd G q (.lst []) l = some (.lst (ws.map V.int)) := (upd_ne (ne_of_none el2 hq)).trans el2
          have hwl : ws.length < sizeLine := by
            have h1 := hG'.pos
            have h2 := st.n
            unfold sumN at hsum h1
            rw [List.map_append, sum_append] at hsum
            simp only [List.map_cons, List.map_nil, List.sum_cons, List.sum_nil] at hsum
            exact Nat.lt_of_le_of_lt (show ws.length ≤ 2000 by omega) (by decide)
          refine ⟨.inl ⟨rfl, _, SqL.of el3⟩, _, rfl, l, _, .int r.2, rfl, rfl, el3, by rw [List.length_map]; exact hwl, ?_⟩
          refine ⟨_, _, _, rfl, Same.wo_upd (S.trans (Same.laid hq)) lH, (upd_ne (Ne.symm ld)).trans ed1, ?_⟩
          rw [ec, stp_snoc, if_pos (show g.k = key z (one r).k from e)]
          refine Gr.snoc (g := mrg g (one r)) (ws := ws ++ [r.2]) ?_ ?_ (st.snoc r)
          · refine hG'.same fun b o eb => ?_
            obtain ⟨n1, eb1⟩ := wo_at eb
            obtain ⟨n2, eb2⟩ := wo_at eb1
            obtain ⟨n3, eb3⟩ := fre_at eb2
            exact wo_of n1 (wo_of n2 (fre_of n3 ((upd_ne n1).trans ((upd_ne (ne_of_none eb3 hq)).trans eb3))))
          · refine wo_of ld (fre_of lH ?_)
            rw [upd_same, List.map_append]
            rfl
        · exfalso
          have hno := hG.no (k := key z r.1) fun g' hg' => by
            rcases List.mem_append.mp hg' with h' | h'
            · have h1 := (List.pairwise_append.mp hk1).2.2 g' h' g (by simp)
              have h2 := hle g (by simp)
              omega
            · simp only [List.mem_singleton] at h'
              rw [h']
              exact e
          rw [valV_none_of hno] at hv
          cases hv
    · -- a new stretch
      have hcase : ∀ g C', C = C' ++ [g] → ¬ g.k = key z r.1 := fun g C' e e2 => by
        subst e
        obtain ⟨kvs', l, ws, rfl, hG', el, st⟩ := hG.last
        have hno : ∀ kv ∈ kvs', kv.1 ≠ Sum.inl (key z r.1) := hG'.no fun g' hg' => by
          have := (List.pairwise_append.mp hk1).2.2 g' hg' g (by simp)
          omega
        rw [e2, valV_last hno] at hv
        cases hv
      have ec2 : stp z C (one r) = C ++ [atKey z (one r)] := by
        rcases snoc_cases C with rfl | ⟨C', g, rfl⟩
        · rfl
        · rw [stp_snoc, if_neg (show ¬ g.k = key z (one r).k from hcase g C' rfl)]
      have eq1 : upd G q (.lst []) q = some (.lst []) := upd_same
      have eq2 : upd (upd G q (.lst [])) d (.dK (putK kvs (.inl (key z r.1)) (.ref q))) q = some (.lst []) := (upd_ne qd).trans eq1
      refine ⟨.inl ⟨rfl, _, SqL.of eq2⟩, _, rfl, q, _, .int r.2, rfl, rfl, eq2, by decide, ?_⟩
      have qH : H q = none := Same.no S hq
      refine ⟨_, _, kvs ++ [(.inl (key z r.1), .ref q)], rfl, Same.wo_upd (Same.wo_upd (S.trans (Same.laid hq)) hd) qH, ?_, ?_⟩
      · rw [upd_ne (Ne.symm qd), upd_same, putK_new _ hv]
      · rw [ec, ec2]
        refine Gr.snoc (g := atKey z (one r)) (ws := [r.2]) ?_ ?_ (St.one z r)
        · refine hG.same fun b o eb => ?_
          obtain ⟨n1, eb1⟩ := wo_at eb
          obtain ⟨n3, eb3⟩ := fre_at eb1
          have n2 := ne_of_none eb3 hq
          exact wo_of n2 (wo_of n1 (fre_of n3 ((upd_ne n2).trans ((upd_ne n1).trans ((upd_ne n2).trans eb3)))))
        · refine wo_of qd (fre_of qH ?_)
          rw [upd_same]
          rfl
  · rintro σ G ⟨t3, t4, kvs, rfl, S, ed, hG⟩
    rw [al.length, List.take_length] at hG
    have hlen : (coarseM z (fr.map one)).length ≤ 2000 := by
      refine Nat.le_trans (coarse_len _ _) ?_
      rw [List.length_map]
      exact hl
    generalize coarseM z (fr.map one) = C at *
    refine ⟨d, _, ed, trivial, fun od => ?_⟩
    refine ⟨_, rfl, d, od, kvs, rfl, upd_same, fun D hD => ?_⟩
    refine lc_acc (walk_items (d := d) (o := od) (kvs := kvs)) hD (by rw [hG.length]; exact Nat.le_trans hlen (by decide))
      (fun i acc G' => Al f5 G' acc (C.take i)) .nil (fun G' S' => S' _ _ upd_same) ?_ ?_
    · rintro i v G1 G2 acc hi S' eD hl2 hA ⟨Tt, x, y, rfl, nT, rfl, hx, hy⟩ Fy Fn hy1 _
      have hiC : i < C.length := by rw [← hG.length]; exact hi
      obtain ⟨l, ws, hkv, el, st⟩ := hG.get (List.getElem?_eq_getElem hiC)
      generalize eg : C[i] = g at *
      have egC : C[i]? = some g := by rw [List.getElem?_eq_getElem hiC, eg]
      have hx' : (kvs[i]?.map fun kv => kV kv.1) = some x := hx
      have hy' : (kvs[i]?.map Prod.snd) = some y := hy
      rw [hkv] at hx' hy'
      cases hx'
      cases hy'
      obtain ⟨ld, el1⟩ := wo_at el
      obtain ⟨lH, el2⟩ := fre_at el1
      have el3 : G1 l = some (.lst (ws.map V.int)) := S' _ _ ((upd_ne ld).trans el2)
      have el4 : upd G1 Tt (.tup [V.int g.k, .ref l]) l = some (.lst (ws.map V.int)) := (upd_ne (ne_of_none el3 nT)).trans el3
      have hne : 0 < ws.length := by
        rcases ws with _ | ⟨y, r⟩
        · cases st.lo.1
        · exact Nat.succ_pos _
      refine ⟨Tt, _, rfl, SqT.of upd_same, rfl, _, _, rfl, _, _, rfl, rfl, rfl, ?_⟩
      unfold tYes
      refine iteT ?_
      refine ⟨_, rfl, _, rfl, l, _, rfl, .inl (SqL.of el4), ?_⟩
      refine ⟨_, rfl, l, ws, rfl, SqL.of el4, ?_⟩
      refine ⟨_, rfl, l, ws, rfl, SqL.of el4, hne, fun m1 hm1 hl1 => ?_⟩
      refine ⟨_, rfl, l, ws, rfl, SqL.of el4, hne, fun m2 hm2 hl2' => ?_⟩
      refine ⟨by show 5 ≤ sizeLine; decide, fun q hq => ?_⟩
      refine hy1 _ _ ((Same.laid nT).trans (Same.laid hq)) ?_
      have e1 : m1 = g.lo := by
        have := hl1 _ st.lo.1
        have := st.lo.2 _ hm1
        omega
      have e2 : m2 = g.hi := by
        have := hl2' _ st.hi.1
        have := st.hi.2 _ hm2
        omega
      have qD : q ≠ D := by
        intro z
        rw [z, upd_ne (ne_of_none eD nT), eD] at hq
        cases hq
      have et : C.take (i + 1) = C.take i ++ [g] := by rw [List.take_add_one, egC]; rfl
      rw [et]
      refine Al.snoc (hA.same (Pw.Same.wo ((Same.laid nT).trans (Same.laid hq)))) (wo_of qD ?_)
      rw [upd_same]
      unfold f5
      rw [e1, e2, st.n, st.s, List.length_map]
      rfl
    · rintro G1 acc S' eD hA
      have hDd : D ≠ d := fun z => by rw [z, upd_same] at hD; cases hD
      have hDG : G D = none := by rw [upd_ne hDd] at hD; exact hD
      refine ⟨S' _ _ upd_same, k D _ (fun b o eb => ?_) (Same.no S hDG) ⟨acc, (upd_ne hDd).trans eD, ?_⟩⟩
      · have n1 := ne_of_none eb hd
        exact (upd_ne n1).trans (S' _ _ ((upd_ne n1).trans (S _ _ eb)))
      · rw [hG.length, List.take_length] at hA
        refine hA.imp fun p xs ep => ?_
        obtain ⟨_, ep2⟩ := wo_at ep
        have n1 : p ≠ d := fun z => by
          have e7 := S' d _ upd_same
          rw [z] at ep2
          rw [ep2] at e7
          cases e7
        exact (upd_ne n1).trans ep2
end
end V45T

namespace V45T
open PySem PySem.Spec PyProof.Rows L2 Pw Tr V45
section
variable {P : Program} {w : World} {K : PySem.W.Frag} {mg : Str → Option Value} {base : Heap}
def spFRow : Sp := fun vs H Q _ => ∃ p r, vs = [.ref p] ∧ H p = some (.tup (f2 r)) ∧ ((0 ≤ r.1 ∧ r.1 ≤ 9999) ∧ (0 ≤ r.2 ∧ r.2 ≤ 63)) ∧ Q (.bl true) H
def spFRows : Sp := fun vs H Q _ => ∃ (a : Addr) (fr : List (Int × Int)), vs = [.ref a] ∧ LT f2 H a fr ∧ GoodF fr ∧ ∀ H', Same H H' → Q (.bl true) H'
def spCoOf : Sp := fun vs H Q _ => ∃ (a : Addr) (fr : List (Int × Int)) (z : Int), vs = [.ref a, .int z] ∧ LT f2 H a fr ∧ GoodF fr ∧ 1 ≤ z ∧ z ≤ 400 ∧
  ∀ b H', Same H H' → H b = none → LT f5 H' b (coarseM z (fr.map one)) → Q (.ref b) H'
def spFine : Sp := fun vs H Q _ => ∃ (a : Addr) (rs : List R3) (lo hi : Int) (o : Bool), vs = [.ref a, .int lo, .int hi, .bl o] ∧ LT f3 H a rs ∧ GoodH rs ∧
  (0 ≤ lo ∧ lo ≤ 9999) ∧ (0 ≤ hi ∧ hi ≤ 9999) ∧ hi - lo < 1000 ∧
  ∀ b H', Same H H' → H b = none → LT f2 H' b (fineM (pr (if o = true then rs else goods rs)) lo (hi + 1 - lo).toNat) → Q (.ref b) H'
theorem b_fine : ∀ (D : Addr) (doc pm : Value) (an : Option Addr) (cdv ct : Value) (us ks : List Value), us.length = 3 → ks.length = [(("odd" : Str), V.bl true)].length →
      KwChain D (([(("odd" : Str), V.bl true)].map (·.1)).zip ks) (bindArgs (PySem.W.fnOf "fine" "fine" (defArgs sFine) (defBody sFine) (defScope sFine) .none (.ref D) doc pm an cdv ct) ⟨us, []⟩)
        ((["history", "since", "till", "odd"] : List Str).zip (us ++ ks)) :=
  fun D doc pm an cdv ct us ks h1 h2 => match us, ks, h1, h2 with | [_, _, _], [_], _, _ => ⟨_, _, _, _, _, _, rfl, rfl, rfl⟩
theorem d_fine (A : AtD K mg "fine" sFine [("odd", .bl true)]) (dh : Def P w K mg base "check_history" 7 ["thing"] spHistC)
    (dw : Def P w K mg base "_check_window" 6 ["since", "till", "odd"] spWin) (df : Def P w K mg base "_fine_rows" 2 ["history", "since", "till", "odd"] spFineR) :
    DefD P w K mg base "fine" 8 ["history", "since", "till", "odd"] [.bl true] spFine := by
  refine mkDefD (n := 3) A scFine (by decide) rfl b_fine (fun vs H Q E ⟨_, _, _, _, _, e, _⟩ => by rw [e]; rfl)
    (fun f cdv A out s H vs Q E hr h => ?_)
  obtain ⟨a, rs, lo, hi, o, rfl, hL, hg, hlo, hhi, hw, k⟩ := h
  refine ⟨_, (pss_cons (ps_expr (pe_d dh hr (by decide) (by rfl) (pa_cons (pv 0) pa_nil)))
    (pss_cons (ps_expr (pe_d dw hr (by decide) (by rfl) (pa_cons (pv 1) (pa_cons (pv 2) (pa_cons (pv 3) pa_nil)))))
    (pss_one (ps_ret (pe_d df hr (by decide) (by rfl) (pa_cons (pv 0) (pa_cons (pv 1) (pa_cons (pv 2) (pa_cons (pv 3) pa_nil))))))))), ?_⟩
  refine ⟨_, rfl, a, rs, rfl, hL, hg, fun H1 S1 => ?_⟩
  refine ⟨_, rfl, _, rfl, _, rfl, lo, hi, o, rfl, hlo, hhi, hw, ?_⟩
  exact ⟨_, rfl, _, rfl, _, rfl, _, rfl, a, rs, lo, hi, o, rfl, hL.same S1, hg.len, ⟨hlo.1, by omega⟩, ⟨hhi.1, by omega⟩, by omega,
    fun b H' S hb h => k b H' (S1.trans S) (Same.no S1 hb) h⟩

def spCo : Sp := fun vs H Q _ => ∃ (a : Addr) (rs : List R3) (z lo hi : Int) (o : Bool), vs = [.ref a, .int z, .int lo, .int hi, .bl o] ∧ LT f3 H a rs ∧ GoodH rs ∧
  (1 ≤ z ∧ z ≤ 400) ∧ (0 ≤ lo ∧ lo ≤ 9999) ∧ (0 ≤ hi ∧ hi ≤ 9999) ∧ hi - lo < 1000 ∧
  ∀ b H', Same H H' → H b = none → LT f5 H' b (coarseM z ((fineM (pr (if o = true then rs else goods rs)) lo (hi + 1 - lo).toNat).map one)) → Q (.ref b) H'
theorem b_co : ∀ (D : Addr) (doc pm : Value) (an : Option Addr) (cdv ct : Value) (us ks : List Value), us.length = 4 → ks.length = [(("odd" : Str), V.bl true)].length →
      KwChain D (([(("odd" : Str), V.bl true)].map (·.1)).zip ks) (bindArgs (PySem.W.fnOf "coarse" "coarse" (defArgs sCoarse) (defBody sCoarse) (defScope sCoarse) .none (.ref D) doc pm an cdv ct) ⟨us, []⟩)
        ((["history", "size", "since", "till", "odd"] : List Str).zip (us ++ ks)) :=
  fun D doc pm an cdv ct us ks h1 h2 => match us, ks, h1, h2 with | [_, _, _, _], [_], _, _ => ⟨_, _, _, _, _, _, rfl, rfl, rfl⟩
theorem d_co (A : AtD K mg "coarse" sCoarse [("odd", .bl true)]) (dh : Def P w K mg base "check_history" 7 ["thing"] spHistC) (ds : Def P w K mg base "_check_size" 5 ["size"] (spIn 1 400))
    (dw : Def P w K mg base "_check_window" 6 ["since", "till", "odd"] spWin) (df : Def P w K mg base "_fine_rows" 2 ["history", "since", "till", "odd"] spFineR)
    (dc : Def P w K mg base "_coarse_rows" 1 ["rows", "size"] spCoR) :
    DefD P w K mg base "coarse" 8 ["history", "size", "since", "till", "odd"] [.bl true] spCo := by
  refine mkDefD (n := 4) A scCoarse (by decide) rfl b_co (fun vs H Q E ⟨_, _, _, _, _, _, e, _⟩ => by rw [e]; rfl)
    (fun f cdv A out s H vs Q E hr h => ?_)
  obtain ⟨a, rs, z, lo, hi, o, rfl, hL, hg, hz, hlo, hhi, hw, k⟩ := h
  refine ⟨_, (pss_cons (ps_expr (pe_d dh hr (by decide) (by rfl) (pa_cons (pv 0) pa_nil)))
    (pss_cons (ps_expr (pe_d ds hr (by decide) (by rfl) (pa_cons (pv 1) pa_nil)))
    (pss_cons (ps_expr (pe_d dw hr (by decide) (by rfl) (pa_cons (pv 2) (pa_cons (pv 3) (pa_cons (pv 4) pa_nil)))))
    (pss_one (ps_ret (pe_d dc hr (by decide) (by rfl) (pa_cons (pe_d df hr (by decide) (by rfl) (pa_cons (pv 0) (pa_cons (pv 2) (pa_cons (pv 3) (pa_cons (pv 4) pa_nil))))) (pa_cons (pv 1) pa_nil)))))))), ?_⟩
  refine ⟨_, rfl, a, rs, rfl, hL, hg, fun H1 S1 => ?_⟩
  refine ⟨_, rfl, z, rfl, hz.1, hz.2, ?_⟩
  refine ⟨_, rfl, _, rfl, _, rfl, lo, hi, o, rfl, hlo, hhi, hw, ?_⟩
  refine ⟨_, rfl, _, rfl, _, rfl, _, rfl, a, rs, lo, hi, o, rfl, hL.same S1, hg.len, ⟨hlo.1, by omega⟩, ⟨hhi.1, by omega⟩, by omega, fun b H' S hb hF => ?_⟩
  refine ⟨_, rfl, b, _, z, rfl, hF, fineM_rise _ _ _, Nat.le_trans (fineM_len _ _ _) (by omega), hz.1, fun c H2 S2 hc h => ?_⟩
  exact k c H2 (S1.trans (S.trans S2)) (Same.no (S1.trans S) hc) h
end
end V45T

/-! xs[::k] of a list: some of its things, no more than there are. -/
namespace Pw
open PySem PySem.Spec PyProof.Rows L2
/-- Vals of some picked places -/
theorem vals_pick {xs : List V} {us : List Value} (h : Vals xs us) : ∀ is : List Nat, ∃ zs : List V, Vals zs (is.filterMap (us[·]?)) ∧ ∀ z ∈ zs, z ∈ xs
  | [] => ⟨[], .nil, fun z hz => by cases hz⟩
  | i :: is => by
    obtain ⟨zs, h1, h2⟩ := vals_pick h is
    cases e : us[i]? with
    | none => exact ⟨zs, by rw [List.filterMap_cons, e]; exact h1, h2⟩
    | some u =>
      have : ∃ x, xs[i]? = some x ∧ RelV x u := by
        have hl := h.length
        have hi := (List.getElem?_eq_some_iff.mp e).1
        obtain ⟨u', e1, r⟩ := h.get (List.getElem?_eq_getElem (show i < xs.length by omega))
        rw [e] at e1
        cases e1
        exact ⟨_, List.getElem?_eq_getElem (by omega), r⟩
      obtain ⟨x, ex, r⟩ := this
      refine ⟨x :: zs, by rw [List.filterMap_cons, e]; exact .cons r h1, fun z hz => ?_⟩
      rcases List.mem_cons.mp hz with rfl | hz
      · exact List.mem_of_getElem? ex
      · exact h2 z hz
/-- xs[::k] -/
def tSlK (K : PySem.W.Frag) (te : TE) : TE := fun σ H Q => te σ H fun x H1 => ∃ a xs, x = .ref a ∧ SqL K H1 a xs ∧ ∀ p zs, H1 p = none → zs.length ≤ xs.length → (∀ z ∈ zs, z ∈ xs) → Q (.ref p) (upd H1 p (.lst zs))
theorem pe_sliceK {X : Cx} {e st : Expr} {te : TE} {k : Int} {p2 pos : Pos} (he : PE X e te) (hk : PE X st (tC (.int k))) (k0 : k ≠ 0) : PE X (.Subscript e (.Slice none none (some st) p2) pos) (tSlK X.K te) := by
  refine ⟨fun pins s σ H Q I h => ?_⟩
  refine Subscript_ (thn (he.run pins s σ H _ I h) fun v s1 ⟨x, H1, I1, r1, a, xs, ex, hx, q⟩ => ?_)
  subst ex
  obtain rfl : v = Value.ref a := r1
  refine wpAny_Slice ?_
  rw [evalPart_none]
  refine wpAny_pure ?_
  refine wpAny_pure ?_
  rw [evalPart_some]
  refine thn (hk.run pins s1 σ H1 (fun y H2 => y = .int k ∧ H2 = H1) I1 ⟨rfl, rfl⟩) fun w s2 ⟨y, H2, I2, ry, ey, eH⟩ => ?_
  subst ey eH
  obtain ⟨t, rfl⟩ := ry
  obtain ⟨its, r, ht, hz⟩ := I2.list hx
  have I4 : Inv X pins σ H2 { s2 with heap := s2.heap.push { cls := .type "slice", data := .fields #[.none, .none, .int k t] } } := I2.kept (t' := s2.toks) fun b ob q => Heap.get?_push_of_some _ q
  obtain ⟨its', r', ht', hz'⟩ := I4.list hx
  have hlen := r'.length
  show wpAny (model X.prog X.w) X.A (subscriptTail e (.Slice none none (some st) p2) (.ref a) (.ref s2.heap.objs.size)) (EP X pins σ Q) X.xe { s2 with heap := s2.heap.push { cls := .type "slice", data := .fields #[.none, .none, .int k t] } }
  refine tail_any (ops := [.ref a, .ref s2.heap.objs.size]) ht'.isList.typeIs slot_list_getitem.lookup ?_ (by with_unfolding_all rfl)
  refine wpAny_getItem_list_slice ht'.isList (Heap.IsSliceOf.new ..) .none .none (.int k t) (by simpa using k0) ?_ (by rw [List.size_toArray] <;> omega)
  have hle := slicePick_size_le its'.toArray none none (some k)
  obtain ⟨zs, h1, h2⟩ := vals_pick r' (sliceRange (sliceBounds none none (some k) its'.toArray.size).1 (sliceBounds none none (some k) its'.toArray.size).2.1 (sliceBounds none none (some k) its'.toArray.size).2.2)
  have es : slicePick its'.toArray none none (some k) = ((sliceRange (sliceBounds none none (some k) its'.toArray.size).1 (sliceBounds none none (some k) its'.toArray.size).2.1 (sliceBounds none none (some k) its'.toArray.size).2.2).filterMap (its'[·]?)).toArray := by
    unfold slicePick
    simp
  rw [es] at hle
  generalize (sliceRange (sliceBounds none none (some k) its'.toArray.size).1 (sliceBounds none none (some k) its'.toArray.size).2.1 (sliceBounds none none (some k) its'.toArray.size).2.2).filterMap (its'[·]?) = L at *
  have zl : zs.length ≤ xs.length := by
    have e1 := h1.length
    have e2 : L.toArray.size = L.length := List.size_toArray ..
    have e3 : its'.toArray.size = its'.length := List.size_toArray ..
    omega
  refine ⟨.ref _, _, I4.laid (t' := s2.toks) (o := .lst zs) (fun b ob q => Heap.get?_push_of_some _ q) (Nat.le_refl _) ⟨Nat.le_trans zl hz, _, 0, h1, ?_⟩, rfl, q _ zs (I4.hok.fresh (Nat.le_refl _)) zl h2⟩
  rw [← es]
  exact Heap.get?_push_size _ rfl
end Pw

/-! xs[::k], k drawn: 1 or -1. -/
namespace Pw
open PySem PySem.Spec PyProof.Rows L2
/-- xs[::k]: as it is, or turned about -/
def tSlP (K : PySem.W.Frag) (te ts : TE) : TE := fun σ H Q => te σ H fun x H1 => ∃ a, x = .ref a ∧ ts σ H1 fun y H2 => ∃ (k : Int) (xs : List V), y = .int k ∧ (k = 1 ∨ k = -1) ∧ SqL K H2 a xs ∧ ∀ p, H2 p = none → Q (.ref p) (upd H2 p (.lst (if k = 1 then xs else xs.reverse)))
theorem pick_one (items : Array Value) : slicePick items none none (some 1) = items := by
  show slicePick items none none none = items
  rw [PySem.W.kms_pick_eq]
  show (((items.toList.drop 0).take (items.toList.length - 0)).toArray) = items
  rw [List.drop_zero, Nat.sub_zero, List.take_length]
theorem pe_sliceP {X : Cx} {e st : Expr} {te ts : TE} {p2 pos : Pos} (he : PE X e te) (hk : PE X st ts) : PE X (.Subscript e (.Slice none none (some st) p2) pos) (tSlP X.K te ts) := by
  refine ⟨fun pins s σ H Q I h => ?_⟩
  refine Subscript_ (thn (he.run pins s σ H _ I h) fun v s1 ⟨x, H1, I1, r1, a, ex, q⟩ => ?_)
  subst ex
  obtain rfl : v = Value.ref a := r1
  refine wpAny_Slice ?_
  rw [evalPart_none]
  refine wpAny_pure ?_
  refine wpAny_pure ?_
  rw [evalPart_some]
  refine thn (hk.run pins s1 σ H1 _ I1 q) fun w s2 ⟨y, H2, I2, ry, k, xs, ey, k0, hx, q2⟩ => ?_
  subst ey
  obtain ⟨t, rfl⟩ := ry
  have I4 : Inv X pins σ H2 { s2 with heap := s2.heap.push { cls := .type "slice", data := .fields #[.none, .none, .int k t] } } := I2.kept (t' := s2.toks) fun b ob q => Heap.get?_push_of_some _ q
  obtain ⟨its', r', ht', hz'⟩ := I4.list hx
  have hlen := r'.length
  show wpAny (model X.prog X.w) X.A (subscriptTail e (.Slice none none (some st) p2) (.ref a) (.ref s2.heap.objs.size)) (EP X pins σ Q) X.xe { s2 with heap := s2.heap.push { cls := .type "slice", data := .fields #[.none, .none, .int k t] } }
  refine tail_any (ops := [.ref a, .ref s2.heap.objs.size]) ht'.isList.typeIs slot_list_getitem.lookup ?_ (by with_unfolding_all rfl)
  refine wpAny_getItem_list_slice ht'.isList (Heap.IsSliceOf.new ..) .none .none (.int k t) (by rcases k0 with rfl | rfl <;> decide) ?_ (by rw [List.size_toArray] <;> omega)
  rcases k0 with rfl | rfl
  · rw [pick_one]
    refine ⟨.ref _, _, I4.laid (t' := s2.toks) (o := .lst xs) (fun b ob q => Heap.get?_push_of_some _ q) (Nat.le_refl _) ⟨hz', _, 0, r', Heap.get?_push_size _ rfl⟩, rfl, ?_⟩
    have := q2 _ (I4.hok.fresh (Nat.le_refl _))
    rwa [if_pos rfl] at this
  · rw [PySem.W.krv_pick]
    refine ⟨.ref _, _, I4.laid (t' := s2.toks) (o := .lst xs.reverse) (fun b ob q => Heap.get?_push_of_some _ q) (Nat.le_refl _) ⟨by rw [List.length_reverse]; exact hz', _, 0, r'.reverse, Heap.get?_push_size _ rfl⟩, rfl, ?_⟩
    have := q2 _ (I4.hok.fresh (Nat.le_refl _))
    rwa [if_neg (by decide)] at this
end Pw

namespace V45
open PySem PySem.Spec PyProof.Rows L2 Pw Tr
/-! ### a trend -/
def tnf (w n z lo hi od hd : V) : List (Str × V) := [("_works", w), ("_point", n), ("_size", z), ("_since", lo), ("_till", hi), ("_odd", od), ("_heard", hd)]
section
variable {w n z lo hi od hd : V}
theorem tnf_works : (tnf w n z lo hi od hd).lookup ("_works" : Str) = some w := lk_eq
theorem tnf_point : (tnf w n z lo hi od hd).lookup ("_point" : Str) = some n := (lk_ne (by decide +kernel)).trans lk_eq
theorem tnf_size : (tnf w n z lo hi od hd).lookup ("_size" : Str) = some z := (lk_ne (by decide +kernel)).trans ((lk_ne (by decide +kernel)).trans lk_eq)
theorem tnf_since : (tnf w n z lo hi od hd).lookup ("_since" : Str) = some lo := (lk_ne (by decide +kernel)).trans ((lk_ne (by decide +kernel)).trans ((lk_ne (by decide +kernel)).trans lk_eq))
theorem tnf_till : (tnf w n z lo hi od hd).lookup ("_till" : Str) = some hi := (lk_ne (by decide +kernel)).trans ((lk_ne (by decide +kernel)).trans ((lk_ne (by decide +kernel)).trans ((lk_ne (by decide +kernel)).trans lk_eq)))
theorem tnf_odd : (tnf w n z lo hi od hd).lookup ("_odd" : Str) = some od := (lk_ne (by decide +kernel)).trans ((lk_ne (by decide +kernel)).trans ((lk_ne (by decide +kernel)).trans ((lk_ne (by decide +kernel)).trans ((lk_ne (by decide +kernel)).trans lk_eq))))
theorem tnf_heard : (tnf w n z lo hi od hd).lookup ("_heard" : Str) = some hd := (lk_ne (by decide +kernel)).trans ((lk_ne (by decide +kernel)).trans ((lk_ne (by decide +kernel)).trans ((lk_ne (by decide +kernel)).trans ((lk_ne (by decide +kernel)).trans ((lk_ne (by decide +kernel)).trans lk_eq)))))
theorem tnf_no {m : Str} (h : (m == ("_works" : Str)) = false ∧ (m == ("_point" : Str)) = false ∧ (m == ("_size" : Str)) = false ∧ (m == ("_since" : Str)) = false ∧ (m == ("_till" : Str)) = false ∧ (m == ("_odd" : Str)) = false ∧ (m == ("_heard" : Str)) = false) : (tnf w n z lo hi od hd).lookup m = none := by
  obtain ⟨h1, h2, h3, h4, h5, h6, h7⟩ := h
  exact (lk_ne h1).trans ((lk_ne h2).trans ((lk_ne h3).trans ((lk_ne h4).trans ((lk_ne h5).trans ((lk_ne h6).trans ((lk_ne h7).trans rfl))))))
end
structure TrC (K : PySem.W.Frag) (E : Addr) : Prop where
  cl : Cls K E
  nWk : NoAttr K E "_works"
  nPo : NoAttr K E "_point"
  nSz : NoAttr K E "_size"
  nSi : NoAttr K E "_since"
  nTi : NoAttr K E "_till"
  nOd : NoAttr K E "_odd"
  nHe : NoAttr K E "_heard"
/-- how a trend was made -/
structure Md where
  z : Int
  lo : Int
  hi : Int
structure Md.Ok (m : Md) : Prop where
  z0 : 1 ≤ m.z
  z1 : m.z ≤ 400
  l0 : 0 ≤ m.lo
  l1 : m.lo ≤ 9999
  h0 : 0 ≤ m.hi
  h1 : m.hi ≤ 9999
  n : m.hi - m.lo < 1000
def nvK (ls : List LA) : List (Key × V) := ls.map fun x => (.inl x.1.no, .ref x.2)
structure TrAt (E : Addr) (H : Hp) (r wa : Addr) (pt : Pt) (m : Md) (hd : Addr) (ls : List LA) : Prop where
  ex : ∃ dx, H r = some (.ins E dx (tnf (.ref wa) (.str pt.nm) (.int m.z) (.int m.lo) (.int m.hi) (.bl true) (.ref hd)))
  d : H hd = some (.dK (nvK ls))
  at_ : ∀ x ∈ ls, LtAt H x.2 x.1
  nd : (ls.map noF).Nodup
  few : ls.length ≤ 60
theorem TrAt.same {E : Addr} {H H' : Hp} {r wa : Addr} {pt : Pt} {m : Md} {hd : Addr} {ls : List LA} (h : TrAt E H r wa pt m hd ls) (S : Same H H') : TrAt E H' r wa pt m hd ls :=
  let ⟨dx, e⟩ := h.ex
  ⟨⟨dx, S _ _ e⟩, S _ _ h.d, fun x hx => (h.at_ x hx).same S, h.nd, h.few⟩
theorem nvK_keys {ls : List LA} : (nvK ls).map Prod.fst = (ls.map noF).map Sum.inl := by
  unfold nvK
  rw [List.map_map, List.map_map]
  rfl
def lkN (ls : List LA) (k : Int) : Option LA := ls.find? fun x => decide (noF x = k)
theorem lkN_val {ls : List LA} (k : Int) : valV (nvK ls) (.inl k) = (lkN ls k).map fun x => V.ref x.2 := by
  unfold valV lkN nvK
  induction ls with
  | nil => rfl
  | cons x r ih =>
    rw [List.map_cons, List.find?_cons, List.find?_cons]
    by_cases h : noF x = k
    · rw [decide_eq_true h, decide_eq_true (show (Sum.inl x.1.no : Key) = .inl k from congrArg Sum.inl h)]
      rfl
    · rw [decide_eq_false h, decide_eq_false (show ¬ (Sum.inl x.1.no : Key) = .inl k from fun z => h (Sum.inl.inj z))]
      exact ih
theorem lkN_some {ls : List LA} {k : Int} {x : LA} (h : lkN ls k = some x) : x ∈ ls ∧ noF x = k := by
  unfold lkN at h
  have := List.find?_some h
  exact ⟨List.mem_of_find?_eq_some h, of_decide_eq_true this⟩
theorem lkN_none {ls : List LA} {k : Int} (h : lkN ls k = none) : k ∉ ls.map noF := fun m => by
  obtain ⟨x, hx, e⟩ := List.mem_map.mp m
  exact (List.find?_eq_none.mp h x hx) (decide_eq_true e)
theorem lkN_mem {ls : List LA} {x : LA} (nd : (ls.map noF).Nodup) (h : x ∈ ls) : lkN ls (noF x) = some x := by
  cases e : lkN ls (noF x) with
  | none => exact absurd (List.mem_map.mpr ⟨x, h, rfl⟩) (lkN_none e)
  | some y =>
    obtain ⟨m, ey⟩ := lkN_some e
    congr 1
    clear e
    induction ls with
    | nil => cases h
    | cons z r ih =>
      obtain ⟨n1, n2⟩ := List.nodup_cons.mp (show (noF z :: r.map noF).Nodup from nd)
      rcases List.mem_cons.mp m with rfl | m'
      · rcases List.mem_cons.mp h with rfl | h'
        · rfl
        · exact absurd (List.mem_map.mpr ⟨x, h', ey.symm⟩) n1
      · rcases List.mem_cons.mp h with rfl | h'
        · exact absurd (List.mem_map.mpr ⟨y, m', ey⟩) n1
        · exact ih n2 h' m'
theorem putK_newN {ls : List LA} {k : Int} {v : V} (h : k ∉ ls.map noF) : putK (nvK ls) (.inl k) v = nvK ls ++ [(.inl k, v)] := by
  refine putK_new ?_
  rw [nvK_keys]
  intro z
  obtain ⟨x, hx, e⟩ := List.mem_map.mp z
  exact h (Sum.inl.inj e ▸ hx)
/-- the rows of a point in letters, by their numbers -/
def rowsN (ls : List LA) (nm : Str) : List T3 := (srtF noF ls).flatMap fun x => (rowsM x.1 nm).map tri
section
variable {P : Program} {w : World} {K : PySem.W.Frag} {mg : Str → Option Value} {base : Heap} {C E : Addr}
theorem put_endT {f g : Str} {v x : V} (h : (g == f) = false) : putF f v [(g, x)] = [(g, x), (f, v)] := by
  rw [put_ne h]
  rfl
def spTrInit (C E : Addr) (K : PySem.W.Frag) : Sp := fun vs H Q _ => ∃ p dx wa W ps pt m, vs = [.ref p, .ref wa, .str (Pt.nm pt), .int (Md.z m), .int (Md.lo m), .int (Md.hi m), .bl true] ∧ H p = some (.ins E dx []) ∧ WoP K C H wa W ps ∧ pt ∈ ps ∧ Md.Ok m ∧
  ∀ hd H', TrAt E H' p wa pt m hd [] → FrX p H H' → H hd = none → Q .non H'
theorem ok_trInit (Wt : TrC K E) {f : Addr} {fd : FuncData} {kws : List (Str × V)} (F : FunD K "__init__" "Trend.__init__" (defArgs mTrend_Init) (defBody mTrend_Init) (defScope mTrend_Init) [] kws f fd)
    (dc : Def P w K mg base "check_works" 1 ["thing"] (spWorksC C K)) (dp : Def P w K mg base "check_point" 3 ["works", "thing"] (spChkP C K)) (dz : Def P w K mg base "_check_size" 5 ["size"] (V45T.spIn 1 400)) (dw : Def P w K mg base "_check_window" 6 ["since", "till", "odd"] V45T.spWin) :
    FnOk P w K mg base CX0 7 f fd ["self", "works", "point", "size", "since", "till", "odd"] (spTrInit C E K) := by
  refine mkFnI F scmTrend_Init (fun vs H Q E ⟨_, _, _, _, _, _, _, e, _⟩ => by rw [e]; rfl) (fun f cdv A out s H vs Q X hr h => ?_)
  obtain ⟨p, dx, wa, Wk, ps, pt, m, rfl, ep, hw, hpt, g, k⟩ := h
  refine ⟨_, (pss_cons (ps_expr (pe_d dc hr (by decide) (by rfl) (pa_cons (pv 1) pa_nil)))
    (pss_cons (ps_expr (pe_d dp hr (by decide) (by rfl) (pa_cons (pv 1) (pa_cons (pv 2) pa_nil))))
    (pss_cons (ps_expr (pe_d dz hr (by decide) (by rfl) (pa_cons (pv 3) pa_nil)))
    (pss_cons (ps_expr (pe_d dw hr (by decide) (by rfl) (pa_cons (pv 4) (pa_cons (pv 5) (pa_cons (pv 6) pa_nil)))))
    (pss_cons (ps_fld (pv 0) (pv 1) rfl)
    (pss_cons (ps_fld (pv 0) (pv 2) rfl)
    (pss_cons (ps_fld (pv 0) (pv 3) rfl)
    (pss_cons (ps_fld (pv 0) (pv 4) rfl)
    (pss_cons (ps_fld (pv 0) (pv 5) rfl)
    (pss_cons (ps_fld (pv 0) (pv 6) rfl)
    (pss_one (ps_fld (pv 0) pe_dnewK rfl)))))))))))), ?_⟩
  refine ⟨_, rfl, wa, Wk, rfl, hw.wo, ?_⟩
  refine ⟨_, rfl, _, rfl, wa, Wk, ps, pt.nm, rfl, hw, (hw.g.all pt hpt).nm, List.mem_map.mpr ⟨pt, hpt, rfl⟩, fun H1 S1 => ?_⟩
  refine ⟨_, rfl, m.z, rfl, g.z0, g.z1, ?_⟩
  refine ⟨_, rfl, _, rfl, _, rfl, m.lo, m.hi, true, rfl, ⟨g.l0, g.l1⟩, ⟨g.h0, g.h1⟩, g.n, ?_⟩
  have F1 : FrX p H H1 := .of S1
  have e1 := S1 _ _ ep
  refine ⟨_, rfl, _, rfl, p, E, dx, _, rfl, e1, Wt.cl, Wt.nWk, by show 0 < 1000; decide, ?_⟩
  rw [show putF "_works" (V.ref wa) [] = ([("_works", V.ref wa)] : List (Str × V)) from rfl]
  have F2 := F1.trans (FrX.put (p := p) (H := H1) (o := HO.ins E dx [("_works", V.ref wa)]))
  have e2 : upd H1 p (.ins E dx [("_works", V.ref wa)]) p = some (.ins E dx [("_works", V.ref wa)]) := upd_same
  generalize upd H1 p (.ins E dx [("_works", V.ref wa)]) = H2 at *
  refine ⟨_, rfl, _, rfl, p, E, dx, _, rfl, e2, Wt.cl, Wt.nPo, by show 1 < 1000; decide, ?_⟩
  rw [put_endT (by decide +kernel)]
  have F3 := F2.trans (FrX.put (p := p) (H := H2) (o := HO.ins E dx [("_works", V.ref wa), ("_point", .str pt.nm)]))
  have e3 : upd H2 p (.ins E dx [("_works", V.ref wa), ("_point", .str pt.nm)]) p = some (.ins E dx [("_works", V.ref wa), ("_point", .str pt.nm)]) := upd_same
  generalize upd H2 p (.ins E dx [("_works", V.ref wa), ("_point", .str pt.nm)]) = H3 at *
  refine ⟨_, rfl, _, rfl, p, E, dx, _, rfl, e3, Wt.cl, Wt.nSz, by show 2 < 1000; decide, ?_⟩
  rw [put_ne (by decide +kernel), put_endT (by decide +kernel)]
  have F4 := F3.trans (FrX.put (p := p) (H := H3) (o := HO.ins E dx [("_works", V.ref wa), ("_point", .str pt.nm), ("_size", .int m.z)]))
  have e4 : upd H3 p (.ins E dx [("_works", V.ref wa), ("_point", .str pt.nm), ("_size", .int m.z)]) p = some (.ins E dx [("_works", V.ref wa), ("_point", .str pt.nm), ("_size", .int m.z)]) := upd_same
  generalize upd H3 p (.ins E dx [("_works", V.ref wa), ("_point", .str pt.nm), ("_size", .int m.z)]) = H4 at *
  refine ⟨_, rfl, _, rfl, p, E, dx, _, rfl, e4, Wt.cl, Wt.nSi, by show 3 < 1000; decide, ?_⟩
  rw [put_ne (by decide +kernel), put_ne (by decide +kernel), put_endT (by decide +kernel)]
  have F5 := F4.trans (FrX.put (p := p) (H := H4) (o := HO.ins E dx [("_works", V.ref wa), ("_point", .str pt.nm), ("_size", .int m.z), ("_since", .int m.lo)]))
  have e5 : upd H4 p (.ins E dx [("_works", V.ref wa), ("_point", .str pt.nm), ("_size", .int m.z), ("_since", .int m.lo)]) p = some (.ins E dx [("_works", V.ref wa), ("_point", .str pt.nm), ("_size", .int m.z), ("_since", .int m.lo)]) := upd_same
  generalize upd H4 p (.ins E dx [("_works", V.ref wa), ("_point", .str pt.nm), ("_size", .int m.z), ("_since", .int m.lo)]) = H5 at *
  refine ⟨_, rfl, _, rfl, p, E, dx, _, rfl, e5, Wt.cl, Wt.nTi, by show 4 < 1000; decide, ?_⟩
  rw [put_ne (by decide +kernel), put_ne (by decide +kernel), put_ne (by decide +kernel), put_endT (by decide +kernel)]
  have F6 := F5.trans (FrX.put (p := p) (H := H5) (o := HO.ins E dx [("_works", V.ref wa), ("_point", .str pt.nm), ("_size", .int m.z), ("_since", .int m.lo), ("_till", .int m.hi)]))
  have e6 : upd H5 p (.ins E dx [("_works", V.ref wa), ("_point", .str pt.nm), ("_size", .int m.z), ("_since", .int m.lo), ("_till", .int m.hi)]) p = some (.ins E dx [("_works", V.ref wa), ("_point", .str pt.nm), ("_size", .int m.z), ("_since", .int m.lo), ("_till", .int m.hi)]) := upd_same
  generalize upd H5 p (.ins E dx [("_works", V.ref wa), ("_point", .str pt.nm), ("_size", .int m.z), ("_since", .int m.lo), ("_till", .int m.hi)]) = H6 at *
  refine ⟨_, rfl, _, rfl, p, E, dx, _, rfl, e6, Wt.cl, Wt.nOd, by show 5 < 1000; decide, ?_⟩
  rw [put_ne (by decide +kernel), put_ne (by decide +kernel), put_ne (by decide +kernel), put_ne (by decide +kernel), put_endT (by decide +kernel)]
  have F7 := F6.trans (FrX.put (p := p) (H := H6) (o := HO.ins E dx [("_works", V.ref wa), ("_point", .str pt.nm), ("_size", .int m.z), ("_since", .int m.lo), ("_till", .int m.hi), ("_odd", .bl true)]))
  have e7 : upd H6 p (.ins E dx [("_works", V.ref wa), ("_point", .str pt.nm), ("_size", .int m.z), ("_since", .int m.lo), ("_till", .int m.hi), ("_odd", .bl true)]) p = some (.ins E dx [("_works", V.ref wa), ("_point", .str pt.nm), ("_size", .int m.z), ("_since", .int m.lo), ("_till", .int m.hi), ("_odd", .bl true)]) := upd_same
  generalize upd H6 p (.ins E dx [("_works", V.ref wa), ("_point", .str pt.nm), ("_size", .int m.z), ("_since", .int m.lo), ("_till", .int m.hi), ("_odd", .bl true)]) = H7 at *
  refine fun hd nhd => ?_
  have hp : hd ≠ p := fun z => by rw [z, e7] at nhd; cases nhd
  have nH : H hd = none := by
    cases z : H hd with
    | none => rfl
    | some o => rw [F7 hd o hp z] at nhd; cases nhd
  have U := Same.laid (o := HO.dK []) nhd
  have ed : upd H7 hd (.dK []) hd = some (.dK []) := upd_same
  have F8 := F7.trans (FrX.of (p := p) U)
  have e8 := U _ _ e7
  generalize upd H7 hd (.dK []) = H8 at *
  refine ⟨_, rfl, p, E, dx, _, rfl, e8, Wt.cl, Wt.nHe, by show 6 < 1000; decide, ?_⟩
  rw [put_ne (by decide +kernel), put_ne (by decide +kernel), put_ne (by decide +kernel), put_ne (by decide +kernel), put_ne (by decide +kernel), put_endT (by decide +kernel)]
  exact k hd _ ⟨⟨dx, upd_same⟩, (upd_ne hp).trans ed, fun x hx => (by cases hx), List.nodup_nil, Nat.zero_le _⟩ (F8.trans FrX.put) nH
end
end V45

namespace V45
open PySem PySem.Spec PyProof.Rows L2 Pw Tr
/-! ### what a trend tells -/
def g2 (r : Int × Int) : List PyData := [.int r.1, .int r.2]
def g5 (g : G5) : List PyData := [.int g.k, .int g.n, .int g.s, .int g.lo, .int g.hi]
theorem D2 : Dat V45T.f2 g2 fun _ => True := by
  refine ⟨fun K H r => .cons (.int _) (.cons (.int _) .nil), fun r _ => ?_, fun r => ?_⟩
  · simp only [g2, PyData.canLayAll0, PyData.canLay0, Bool.and_self]
  · simp only [g2, PyData.depthAll, PyData.depth, Nat.max_self]
theorem D5 : Dat V45T.f5 g5 fun _ => True := by
  refine ⟨fun K H r => .cons (.int _) (.cons (.int _) (.cons (.int _) (.cons (.int _) (.cons (.int _) .nil)))), fun r _ => ?_, fun r => ?_⟩
  · simp only [g5, PyData.canLayAll0, PyData.canLay0, Bool.and_self]
  · simp only [g5, PyData.depthAll, PyData.depth, Nat.max_self]
/-- the fine rows by what was heard -/
def fineT (ls : List LA) (nm : Str) (m : Md) : List (Int × Int) := fineM (V45T.pr (histM (rowsN ls nm))) m.lo (m.hi + 1 - m.lo).toNat
def coarseT (ls : List LA) (nm : Str) (m : Md) : List G5 := coarseM m.z ((fineT ls nm m).map one)
theorem rowsN_len {ls : List LA} {nm : Str} (h12 : ∀ x ∈ ls, x.1.rs.length ≤ 12) : (rowsN ls nm).length ≤ 12 * ls.length := by
  unfold rowsN
  have h := flat_len (fun x : LA => (rowsM x.1 nm).map tri) 12 (l := srtF noF ls) fun x hx => by
    rw [List.length_map]
    exact Nat.le_trans (List.length_filter_le _ _) (h12 x ((srtF_perm noF ls).mem_iff.mp hx))
  rw [(srtF_perm noF ls).length_eq] at h
  exact h
theorem hist_len (R : List T3) : (histM R).length ≤ R.length := by
  unfold histM
  refine Nat.le_trans (List.length_filterMap_le _ _) ?_
  unfold timesR
  rw [(srtF_perm _ _).length_eq]
  have : ∀ l : List Int, (ddI l).length ≤ l.length := fun l => by
    induction l with
    | nil => exact Nat.le_refl _
    | cons x r ih =>
      unfold ddI
      split
      · rw [List.length_cons]; omega
      · rw [List.length_cons, List.length_cons]; omega
  exact Nat.le_trans (this _) (by rw [List.length_map]; exact Nat.le_refl _)
theorem fineT_rise {ls : List LA} {nm : Str} {m : Md} : Rise (fineT ls nm m) := fineM_rise _ _ _
theorem fineT_len {ls : List LA} {nm : Str} {m : Md} (g : m.Ok) : (fineT ls nm m).length ≤ 1000 := by
  refine Nat.le_trans (fineM_len _ _ _) ?_
  have := g.n
  omega
section
variable {P : Program} {w : World} {K : PySem.W.Frag} {mg : Str → Option Value} {base : Heap} {C E : Addr}
def spHeard (E : Addr) : Sp := fun vs H Q _ => ∃ r wa pt m hd ls, vs = [.ref r] ∧ TrAt E H r wa pt m hd ls ∧ ∀ l H', Same H H' → H l = none → H' l = some (.lst (((srtF noF ls).map noF).map V.int)) → Q (.ref l) H'
theorem d_heard (T : Txt mg) (Wt : TrC K E) (A : AtMt K E "heard" "Trend.heard" mTrend_Heard) : DefM P w K mg base E "heard" 1 ["self"] (spHeard E) := by
  refine mkDefM A scmTrend_Heard (fun _ _ _ _ _ _ us hl => match us, hl with | [_], _ => rfl) (fun vs H Q X ⟨_, _, _, _, _, _, e, _⟩ => by rw [e]; rfl)
    (fun f cdv A out s H vs Q X hr h => ?_)
  obtain ⟨r, wa, pt, m, hd, ls, rfl, tr, k⟩ := h
  refine ⟨_, (pss_one (ps_ret (pe_callB (cr_sortD rfl) (by rfl) T.sorted PyProof.Rows.boot_sorted (pa_cons (pe_fld (pv 0) rfl) pa_nil)))), ?_⟩
  obtain ⟨dx, e1⟩ := tr.ex
  have few := tr.few
  refine ⟨_, rfl, r, E, dx, _, _, rfl, e1, Wt.cl, Wt.nHe, tnf_heard, hd, nvK ls, ls.map noF, rfl, .inl tr.d, nvK_keys, by rw [List.length_map]; omega, fun ys p hp hs np => ?_⟩
  have : ys = (srtF noF ls).map noF := by
    refine sorted_eq (hp.trans ((srtF_perm noF ls).map noF).symm) hs ?_
    exact List.pairwise_map.mpr (srtF_le noF ls)
  rw [this]
  exact k p _ (Same.laid np) np upd_same
def spFineTr (E : Addr) : Sp := fun vs H Q _ => ∃ r wa pt m hd ls, vs = [.ref r] ∧ TrAt E H r wa pt m hd ls ∧ Md.Ok m ∧ (∀ x ∈ ls, x.1.rs.length ≤ 12) ∧ ∀ l H', Same H H' → H l = none → LT V45T.f2 H' l (fineT ls pt.nm m) → Q (.ref l) H'
theorem d_fineTr (T : Txt mg) (Wt : TrC K E) (A : AtMt K E "fine" "Trend.fine" mTrend_Fine) (dh : DefM P w K mg base E "heard" 1 ["self"] (spHeard E)) (dr : Def P w K mg base "rows_in" 1 ["letter", "point"] spRowsIn)
    (dho : Def P w K mg base "history_of" 1 ["rows"] (spHistOf K)) (df : Def P w K mg base "_fine_rows" 2 ["history", "since", "till", "odd"] V45T.spFineR) : DefM P w K mg base E "fine" 3 ["self"] (spFineTr E) := by
  refine mkDefM A scmTrend_Fine (fun _ _ _ _ _ _ us hl => match us, hl with | [_], _ => rfl) (fun vs H Q X ⟨_, _, _, _, _, _, e, _⟩ => by rw [e]; rfl)
    (fun f cdv A out s H vs Q X hr h => ?_)
  obtain ⟨r, wa, pt, m, hd, ls, rfl, tr, g, h12, k⟩ := h
  have hu : (A.deeper (envOfC "Trend.fine" (defScope mTrend_Fine) s.heap.objs.size f cdv)).units + 1 < cLine := hu_of hr
  refine ⟨_, (pss_cons (ps_set (i := 1) scmTrend_Fine.nd rfl (.inl rfl) (pe_lst pa_nil))
    (pss_cons (ps_for PassesOwn.never rfl (pi_list (pe_mm0 (pv 0) Wt.cl dh hr (by decide))) (pg_name (i := 2) scmTrend_Fine.nd rfl (.inl rfl))
      (pss_one (ps_expr (pe_bm PySem.F.plainAttrs_list PySem.F.slot_list_extend PySem.F.type_list_extend mt_extend (pv 1) (pa_cons (pe_d dr hr (by decide) (by rfl) (pa_cons (pe_dget hu (pe_fld (pv 0) rfl) (pv 2) (fun _ _ => rfl)) (pa_cons (pe_fld (pv 0) rfl) pa_nil))) pa_nil)))))
    (pss_one (ps_ret (pe_d df hr (by decide) (by rfl) (pa_cons (pe_d dho hr (by decide) (by rfl) (pa_cons (pv 1) pa_nil)) (pa_cons (pe_fld (pv 0) rfl) (pa_cons (pe_fld (pv 0) rfl) (pa_cons (pe_fld (pv 0) rfl) pa_nil))))))))), ?_⟩
  refine ⟨by show 0 ≤ sizeLine; decide, fun L nL => ?_⟩
  have S1 := Same.laid (o := HO.lst []) nL
  have eL1 : upd H L (.lst []) L = some (.lst []) := upd_same
  have tr1 := tr.same S1
  generalize upd H L (.lst []) = H1 at *
  dsimp only [gName]
  obtain ⟨dx, e1⟩ := tr1.ex
  refine ⟨_, rfl, r, dx, _, rfl, e1, tnf_no ⟨by decide +kernel, by decide +kernel, by decide +kernel, by decide +kernel, by decide +kernel, by decide +kernel, by decide +kernel⟩, r, wa, pt, m, hd, ls, rfl, tr1, fun M H2 S2 nM eM => ⟨M, rfl, ⟨_, SqL.of eM⟩, ?_⟩⟩
  have tr2 := tr1.same S2
  have ML : M ≠ L := (ne_of_none eL1 nM).symm
  have eL2 := S2 _ _ eL1
  have few := tr.few
  have sl : (srtF noF ls).length = ls.length := (srtF_perm noF ls).length_eq
  refine for_it (walk_list (K := K) (a := M) (xs := ((srtF noF ls).map noF).map V.int)) (fun i σ X => (∃ v2 : Option V, σ = [some (.ref r), some (.ref L), v2]) ∧ But L H2 X ∧ ∃ vs, X L = some (.lst vs) ∧ Al f3t X vs (((srtF noF ls).take i).flatMap fun x => (rowsM x.1 pt.nm).map tri) ∧ vs.length ≤ 12 * i)
    ⟨⟨_, rfl⟩, But.refl, [], eL2, .nil, by decide⟩ (fun i σ X _ h => SqL.of (h.2.1.at ML eM)) ?_ ?_
  · rintro i v σ X0 X hi ⟨⟨v2, rfl⟩, BX, vs, eX, alX, vl⟩ ⟨rfl, hx⟩
    rw [List.getElem?_map, List.getElem?_map] at hx
    rw [List.length_map, List.length_map] at hi
    cases hy : (srtF noF ls)[i]? with
    | none => rw [hy] at hx; cases hx
    | some y =>
      rw [hy] at hx
      cases hx
      have hyl : y ∈ ls := (srtF_perm noF ls).mem_iff.mp (List.mem_of_getElem? hy)
      obtain ⟨dx2, e2⟩ := tr2.ex
      have rL : r ≠ L := fun z => by rw [z, eL2] at e2; cases e2
      have hL : hd ≠ L := fun z => by have := tr2.d; rw [z, eL2] at this; cases this
      have eg : DGet X hd (.int (noF y)) (some (.ref y.2)) := .inl ⟨_, .inl (noF y), .inl (BX.at hL tr2.d), rfl, by rw [lkN_val, lkN_mem tr.nd hyl]; rfl⟩
      have ltX : LtAt X y.2 y.1 := (tr2.at_ y hyl).butL eL2 BX
      dsimp only [gName]
      refine ⟨_, rfl, .inl ⟨rfl, _, SqL.of eX⟩, _, rfl, r, E, dx2, _, _, rfl, BX.at rL e2, Wt.cl, Wt.nHe, tnf_heard, _, rfl, hd, _, rfl, eg, _, rfl, r, E, dx2, _, _, rfl, BX.at rL e2, Wt.cl, Wt.nPo, tnf_point, y.2, y.1, pt.nm, rfl, ltX, h12 y hyl, fun M2 vs2 X2 S nM2 eM2 al2 => ?_⟩
      have eX2 := S _ _ eX
      have M2L : M2 ≠ L := (ne_of_none eX nM2).symm
      have al2' : Al f3t X2 vs2 ((rowsM y.1 pt.nm).map tri) := al_tri al2
      have l2 := al2'.length
      rw [List.length_map] at l2
      have l12 : (rowsM y.1 pt.nm).length ≤ 12 := Nat.le_trans (List.length_filter_le _ _) (h12 y hyl)
      refine ⟨L, M2, vs, vs2, rfl, rfl, eX2, eM2, Nat.le_trans (show vs.length + vs2.length ≤ 1000 by omega) (by decide), ⟨_, rfl⟩, ?_, _, upd_same, ?_, by rw [List.length_append]; omega⟩
      · exact (BX.trans (Same.but S)).trans But.set
      · have et : (srtF noF ls).take (i + 1) = (srtF noF ls).take i ++ [y] := by rw [List.take_add_one, hy]; rfl
        rw [et, List.flatMap_append, List.flatMap_cons, List.flatMap_nil, List.append_nil]
        exact (al_but (alX.same S) eX2 But.set).append (al_but al2' eX2 But.set)
  rintro σ X ⟨⟨v2, rfl⟩, BX, vs, eX, alX, vl⟩
  rw [List.length_map, List.length_map, List.take_length] at alX
  obtain ⟨dx2, e2⟩ := tr2.ex
  have rL : r ≠ L := fun z => by rw [z, eL2] at e2; cases e2
  have e2X := BX.at rL e2
  have rl := rowsN_len (nm := pt.nm) h12
  refine ⟨_, rfl, L, vs, rowsN ls pt.nm, rfl, eX, alX, by omega, fun l2 ys X2 S3 nl2 el2 al2 => ?_⟩
  refine ⟨_, rfl, r, E, dx2, _, _, rfl, S3 _ _ e2X, Wt.cl, Wt.nSi, tnf_since, _, rfl, r, E, dx2, _, _, rfl, S3 _ _ e2X, Wt.cl, Wt.nTi, tnf_till, _, rfl, r, E, dx2, _, _, rfl, S3 _ _ e2X, Wt.cl, Wt.nOd, tnf_odd, ?_⟩
  have hl := hist_len (rowsN ls pt.nm)
  have g1 := g.l1
  have g2 := g.h1
  have g3 := g.n
  refine ⟨l2, histM (rowsN ls pt.nm), m.lo, m.hi, true, rfl, ⟨ys, el2, al2⟩, by omega, ⟨g.l0, by omega⟩, ⟨g.h0, by omega⟩, by omega, fun b X3 S4 nb lb => ?_⟩
  have SX : Same H X2 := fun q o e => S3 _ _ (BX.at (ne_of_none e nL) (S2 _ _ (S1 _ _ e)))
  exact k b X3 (SX.trans S4) (Same.no SX nb) lb
def spRowsTr (E : Addr) : Sp := fun vs H Q _ => ∃ r wa pt m hd ls, vs = [.ref r] ∧ TrAt E H r wa pt m hd ls ∧ Md.Ok m ∧ (∀ x ∈ ls, x.1.rs.length ≤ 12) ∧ ∀ l H', Same H H' → H l = none → LT V45T.f5 H' l (coarseT ls pt.nm m) → Q (.ref l) H'
theorem d_rowsTr (Wt : TrC K E) (A : AtMt K E "rows" "Trend.rows" mTrend_Rows) (dfi : DefM P w K mg base E "fine" 3 ["self"] (spFineTr E)) (dco : Def P w K mg base "_coarse_rows" 1 ["rows", "size"] V45T.spCoR) : DefM P w K mg base E "rows" 4 ["self"] (spRowsTr E) := by
  refine mkDefM A scmTrend_Rows (fun _ _ _ _ _ _ us hl => match us, hl with | [_], _ => rfl) (fun vs H Q X ⟨_, _, _, _, _, _, e, _⟩ => by rw [e]; rfl)
    (fun f cdv A out s H vs Q X hr h => ?_)
  obtain ⟨r, wa, pt, m, hd, ls, rfl, tr, g, h12, k⟩ := h
  refine ⟨_, (pss_one (ps_ret (pe_d dco hr (by decide) (by rfl) (pa_cons (pe_mm0 (pv 0) Wt.cl dfi hr (by decide)) (pa_cons (pe_fld (pv 0) rfl) pa_nil))))), ?_⟩
  obtain ⟨dx, e1⟩ := tr.ex
  refine ⟨_, rfl, r, dx, _, rfl, e1, tnf_no ⟨by decide +kernel, by decide +kernel, by decide +kernel, by decide +kernel, by decide +kernel, by decide +kernel, by decide +kernel⟩, r, wa, pt, m, hd, ls, rfl, tr, g, h12, fun l H1 S1 nl hl => ?_⟩
  have fl := fineT_len (ls := ls) (nm := pt.nm) g
  refine ⟨_, rfl, r, E, dx, _, _, rfl, S1 _ _ e1, Wt.cl, Wt.nSz, tnf_size, l, fineT ls pt.nm m, m.z, rfl, hl, fineT_rise, by omega, g.z0, fun b H2 S2 nb hb => ?_⟩
  exact k b H2 (S1.trans S2) (Same.no S1 nb) hb
end
end V45

namespace V45
open PySem PySem.Spec PyProof.Rows L2 Pw Tr
/-! ### a trend hears a letter -/
def hearN (pt : Pt) (ls : List LA) (x : LA) : List LA := if x.1.pl = pt.pl ∧ x.1.no ∉ ls.map noF then ls ++ [x] else ls
theorem TrAt.put {E : Addr} {H : Hp} {r wa : Addr} {pt : Pt} {m : Md} {hd q : Addr} {ls : List LA} {L : Lt} (h : TrAt E H r wa pt m hd ls) (hL : LtAt H q L) (nk : L.no ∉ ls.map noF) (few : ls.length < 60) :
    TrAt E (upd H hd (.dK (nvK ls ++ [(.inl L.no, .ref q)]))) r wa pt m hd (ls ++ [(L, q)]) := by
  obtain ⟨dx, e⟩ := h.ex
  have tp : ∀ {a : Addr} {xs : List V}, H a = some (.tup xs) → upd H hd (.dK (nvK ls ++ [(.inl L.no, .ref q)])) a = some (.tup xs) := fun ea => (upd_ne (fun z => by rw [z, h.d] at ea; cases ea)).trans ea
  have lt : ∀ {a : Addr} {M : Lt}, LtAt H a M → LtAt (upd H hd (.dK (nvK ls ++ [(.inl L.no, .ref q)]))) a M := fun ⟨rt, vs, a1, a2, a3⟩ => ⟨rt, vs, tp a1, tp a2, a3.imp fun q xs e => tp e⟩
  refine ⟨⟨dx, (upd_ne (fun z => by rw [z, h.d] at e; cases e)).trans e⟩, ?_, fun x hx => ?_, ?_, by rw [List.length_append, List.length_singleton]; omega⟩
  · rw [upd_same]
    unfold nvK
    rw [List.map_append]
    rfl
  · rcases List.mem_append.mp hx with h' | h'
    · exact lt (h.at_ x h')
    · rw [List.mem_singleton.mp h']
      exact lt hL
  · rw [List.map_append]
    refine List.nodup_append.mpr ⟨h.nd, List.pairwise_singleton _ _, fun a ha b hb => ?_⟩
    rw [List.mem_singleton.mp hb]
    exact fun z => nk (show noF ((L, q) : LA) ∈ ls.map noF from z ▸ ha)
section
variable {P : Program} {w : World} {K : PySem.W.Frag} {mg : Str → Option Value} {base : Heap} {C E : Addr}
def spHearT (C E : Addr) (K : PySem.W.Frag) : Sp := fun vs H Q _ => ∃ r wa pt m hd ls W ps q L, vs = [.ref r, .ref q] ∧ TrAt E H r wa pt m hd ls ∧ Md.Ok m ∧ WoP K C H wa W ps ∧ pt ∈ ps ∧ LtAt H q L ∧ GoodLt ps L ∧ (∀ x ∈ ls, x.1.rs.length ≤ 12) ∧ ls.length < 60 ∧
  (L.pl = pt.pl → L.no ∈ ls.map noF → ∃ q', ((L, q') : LA) ∈ ls) ∧ ∀ b H', But hd H H' → TrAt E H' r wa pt m hd (hearN pt ls (L, q)) → Q (.bl b) H'
theorem d_hearT (Wt : TrC K E) (Wc : WoC K C) (A : AtMt K E "hear" "Trend.hear" mTrend_Hear) (ds : Def P w K mg base "check_signs" 9 ["works", "letter"] (spChkS C K)) (dpt : DefM P w K mg base C "point" 3 ["self", "name"] (spPoint C K))
    (dro : DefM P w K mg base E "rows" 4 ["self"] (spRowsTr E)) : DefM P w K mg base E "hear" 10 ["self", "letter"] (spHearT C E K) := by
  refine mkDefM A scmTrend_Hear (fun _ _ _ _ _ _ us hl => match us, hl with | [_, _], _ => rfl) (fun vs H Q X ⟨_, _, _, _, _, _, _, _, _, _, e, _⟩ => by rw [e]; rfl)
    (fun f cdv A out s H vs Q X hr h => ?_)
  obtain ⟨r, wa, pt, m, hd, ls, W, ps, q, L, rfl, tr, g, hw, hpt, hL, gL, h12, few, again, k⟩ := h
  have hu : (A.deeper (envOfC "Trend.hear" (defScope mTrend_Hear) s.heap.objs.size f cdv)).units + 1 < cLine := hu_of hr
  refine ⟨_, (pss_cons (ps_expr (pe_d ds hr (by decide) (by rfl) (pa_cons (pe_fld (pv 0) rfl) (pa_cons (pv 1) pa_nil))))
    (pss_cons (ps_asg (pv 1) (pg_tup (by rfl) (pgs_cons (pg_name (i := 2) scmTrend_Hear.nd rfl (.inl rfl)) (pgs_cons (pg_name (i := 3) scmTrend_Hear.nd rfl (.inl rfl)) (pgs_cons (pg_name (i := 4) scmTrend_Hear.nd rfl (.inl rfl)) (pgs_cons (pg_name (i := 2) scmTrend_Hear.nd rfl (.inl rfl)) (pgs_cons (pg_name (i := 2) scmTrend_Hear.nd rfl (.inl rfl)) pgs_nil)))))))
    (pss_cons (ps_if (pt_cmpR op_ne (pv 3) (pe_ix ix_tup (pe_mm (pe_fld (pv 0) rfl) Wc.cl dpt hr (by decide) (pa_cons (pe_fld (pv 0) rfl) pa_nil)) pe_int (fun _ _ => rfl)) (nomark _))
      (pss_one (ps_ret pe_bl))
      pss_nil)
    (pss_cons (ps_if (pt_cmp (pc_din hu (pv 4) (pe_fld (pv 0) rfl)))
      (pss_cons (ps_if (pt_cmpR (op_neD hr.units) (pe_dget hu (pe_fld (pv 0) rfl) (pv 4) (fun _ _ => rfl)) (pv 1) (nomark _))
        (pss_one ps_never)
        pss_nil)
      (pss_one (ps_ret pe_bl)))
      pss_nil)
    (pss_cons (ps_set (i := 5) scmTrend_Hear.nd rfl (.inl rfl) (pe_mm0 (pv 0) Wt.cl dro hr (by decide)))
    (pss_cons (ps_asg (pv 1) (pg_sub (pe_fld (pv 0) rfl) (pv 4) (set_dict hu)))
    (pss_one (ps_ret (pe_cmpR (op_neD hr.units) (pe_mm0 (pv 0) Wt.cl dro hr (by decide)) (pv 5) (nomark _)))))))))), ?_⟩
  have tno : ∀ {m : Str} {w n z lo hi od hd : V}, m = "rows" → (tnf w n z lo hi od hd).lookup m = none := fun e => by
    rw [e]
    exact tnf_no ⟨by decide +kernel, by decide +kernel, by decide +kernel, by decide +kernel, by decide +kernel, by decide +kernel, by decide +kernel⟩
  obtain ⟨dx, e1⟩ := tr.ex
  refine ⟨_, rfl, r, E, dx, _, _, rfl, e1, Wt.cl, Wt.nWk, tnf_works, _, rfl, wa, q, W, ps, L, rfl, hw, hL, gL, fun H1 S1 => ?_⟩
  have hL1 := hL.same S1
  obtain ⟨rt, vr, eq, _⟩ := hL1
  refine ⟨_, rfl, q, _, rfl, SqT.of eq, rfl, _, _, rfl, _, _, rfl, _, _, rfl, _, _, rfl, _, _, rfl, rfl, ?_⟩
  dsimp only [gName]
  have hw1 := hw.same S1
  obtain ⟨dxw, tp, dp', tr', dr, tc, tm, dm, tl, e0, _⟩ := hw1.wo.ex
  refine ⟨_, rfl, _, rfl, r, E, dx, _, _, rfl, S1 _ _ e1, Wt.cl, Wt.nWk, tnf_works, wa, dxw, _, rfl, e0, wof_no (by decide +kernel) (by decide +kernel) (by decide +kernel) (by decide +kernel) (by decide +kernel) (by decide +kernel) (by decide +kernel) (by decide +kernel), _, rfl, r, E, dx, _, _, rfl, S1 _ _ e1, Wt.cl, Wt.nPo, tnf_point, wa, W, ps, pt, rfl, hw1, hpt, fun q2 H2 S2 eq2 => ?_⟩
  refine ⟨q2, _, 1, .str pt.pl, rfl, rfl, SqT.of eq2, rfl, rfl, _, rfl, ?_⟩
  rw [str_dec]
  have S12 := S1.trans S2
  have tr2 := tr.same S12
  by_cases c : L.pl = pt.pl
  rotate_left
  · rw [decide_eq_false c]
    refine iteT (k _ _ (Same.but S12) ?_)
    unfold hearN
    rw [if_neg fun z => c z.1]
    exact tr2
  rw [decide_eq_true c]
  refine iteF ?_
  have e2 := S12 _ _ e1
  by_cases d : L.no ∈ ls.map noF
  · obtain ⟨q', hq'⟩ := again c d
    have eg : DGet H2 hd (.int L.no) (some (.ref q')) := .inl ⟨_, .inl L.no, .inl tr2.d, rfl, by rw [lkN_val, show L.no = noF ((L, q') : LA) from rfl, lkN_mem tr.nd hq']; rfl⟩
    refine ⟨_, rfl, _, rfl, r, E, dx, _, _, rfl, e2, Wt.cl, Wt.nHe, tnf_heard, hd, _, rfl, eg, ?_⟩
    refine ⟨_, rfl, iteT ?_⟩
    refine ⟨_, rfl, r, E, dx, _, _, rfl, e2, Wt.cl, Wt.nHe, tnf_heard, _, rfl, hd, _, rfl, eg, _, rfl, ?_⟩
    obtain ⟨dd, g1, g2, g3⟩ := lt_same (K := K) hw.g gL (tr2.at_ _ hq') (hL.same S12)
    refine ⟨dd, dd, g1, g2, g3, g3, ?_⟩
    rw [SeqAt.eqv_refl dd (SeqAt.canLay_of_shaped g3)]
    refine ⟨_, rfl, iteF ?_⟩
    refine k _ _ (Same.but S12) ?_
    unfold hearN
    rw [if_neg fun z => z.2 d]
    exact tr2
  · have en : lkN ls L.no = none := by
      cases z : lkN ls L.no with
      | none => rfl
      | some x =>
        obtain ⟨h1, h2⟩ := lkN_some z
        exact absurd (List.mem_map.mpr ⟨x, h1, h2⟩) d
    have eg : DGet H2 hd (.int L.no) none := .inl ⟨_, .inl L.no, .inl tr2.d, rfl, by rw [lkN_val, en]; rfl⟩
    refine ⟨_, rfl, _, rfl, r, E, dx, _, _, rfl, e2, Wt.cl, Wt.nHe, tnf_heard, hd, _, rfl, eg, ?_⟩
    refine ⟨_, rfl, iteF ?_⟩
    refine ⟨_, rfl, r, dx, _, rfl, e2, tno rfl, r, wa, pt, m, hd, ls, rfl, tr2, g, h12, fun l H3 S3 nl ll => ?_⟩
    dsimp only [gName]
    have tr3 := tr2.same S3
    have S13 := S12.trans S3
    have hL3 := hL.same S13
    refine ⟨_, rfl, _, rfl, r, E, dx, _, _, rfl, S3 _ _ e2, Wt.cl, Wt.nHe, tnf_heard, _, rfl, hd, _, rfl, DPut.k (k := .inl L.no) tr3.d (by rw [show (nvK ls).length = ls.length from List.length_map _]; exact Nat.lt_trans few (by decide)), ?_⟩
    rw [putK_newN d]
    have tr4 := tr3.put hL3 d few
    have B4 : But hd H3 (upd H3 hd (.dK (nvK ls ++ [(.inl L.no, .ref q)]))) := But.set
    have ed3 := tr3.d
    have ll4 : LT V45T.f5 (upd H3 hd (.dK (nvK ls ++ [(.inl L.no, .ref q)]))) l (coarseT ls pt.nm m) := by
      obtain ⟨vs, ev, al⟩ := ll.ex
      exact ⟨vs, B4.at (fun z => by rw [z, ed3] at ev; cases ev) ev, al.imp fun a xs e => B4.at (fun z => by rw [z, ed3] at e; cases e) e⟩
    generalize upd H3 hd (.dK (nvK ls ++ [(.inl L.no, .ref q)])) = H4 at *
    obtain ⟨dx4, e4⟩ := tr4.ex
    have h12' : ∀ x ∈ ls ++ [((L, q) : LA)], x.1.rs.length ≤ 12 := fun x hx => by
      rcases List.mem_append.mp hx with h | h
      · exact h12 x h
      · rw [List.mem_singleton.mp h]
        exact gL.few
    refine ⟨_, rfl, r, dx4, _, rfl, e4, tno rfl, r, wa, pt, m, hd, _, rfl, tr4, g, h12', fun l2 H5 S5 nl2 ll2 => ?_⟩
    refine ⟨_, rfl, _, _, LT.dp (K := K) D5 ll2, LT.dp (K := K) D5 (ll4.same S5), shaped_rows D5 _ fun _ _ => trivial, shaped_rows D5 _ fun _ _ => trivial, ?_⟩
    refine k _ _ ((Same.but S13).trans (B4.trans (Same.but S5))) ?_
    unfold hearN
    rw [if_pos ⟨c, d⟩]
    exact tr4.same S5
end
end V45

set_option maxHeartbeats 8000000
namespace V45
open PySem PySem.Spec PyProof.Rows L2 Pw
theorem off_lst {H : Hp} {D q : Addr} {us xs : List V} {o : HO} (eq : H q = some (.tup xs)) (e : H D = some (.lst us)) : upd H D o q = some (.tup xs) := (upd_ne (fun z => by rw [z, e] at eq; cases eq)).trans eq
theorem up_to {xs : List Int} {a b : Int} (h : (xs ++ [a]).Pairwise (· ≤ ·)) (ab : a ≤ b) : (xs ++ [b]).Pairwise (· ≤ ·) := by
  rw [List.pairwise_append] at h ⊢
  refine ⟨h.1, by simp, fun x hx y hy => ?_⟩
  have := h.2.2 x hx a (by simp)
  rw [List.mem_singleton] at hy
  omega
theorem up_twice {xs : List Int} {b : Int} (h : (xs ++ [b]).Pairwise (· ≤ ·)) : (xs ++ [b] ++ [b]).Pairwise (· ≤ ·) := by
  rw [List.pairwise_append]
  refine ⟨h, by simp, fun x hx y hy => ?_⟩
  rw [List.mem_singleton] at hy
  subst hy
  rcases List.mem_append.mp hx with g | g
  · exact (List.pairwise_append.mp h).2.2 x g y (by simp)
  · rw [List.mem_singleton.mp g]
    omega
section
variable {P : Program} {w : World} {K : PySem.W.Frag} {mg : Str → Option Value} {base : Heap}
def spRows (K : PySem.W.Frag) : Sp := fun vs H Q _ => ∃ p b pl m t n ps, vs = [.ref p, .ref b, .str pl, .int m, .int t] ∧ BoxAt H p n ∧ n ≤ 950000 ∧ b ≠ p ∧ LT fP H b ps ∧ GoodPs ps ∧ pl ∈ ps.map Pt.pl ∧ 0 ≤ m ∧ m ≤ 12 ∧ 0 ≤ t ∧ t ≤ 9999 ∧
  ∀ o F H' vs rs t', BoxAt H' p (n + 60) → But p H H' → H o = none → o ≠ p → F ≠ p → H' o = some (.tup [.ref F, .int t']) → H' F = some (.lst vs) → Al f4 H' vs rs → rs.length ≤ 12 → (∀ r ∈ rs, GoodS ps pl r) → (rs.map Sg.t ++ [t']).Pairwise (· ≤ ·) → 0 ≤ t' → t' ≤ 9999 → (t ≤ t' ∧ t' ≤ t + 40 * m ∧ ∀ r ∈ rs, t ≤ r.t) → Q (.ref o) H'
theorem d_rowsL (T : Txt mg) (A : At K mg "_law_rows" sLawRows) (dt : Def P w K mg base "_law_take" 1 ["_law_box_here", "_law_many"] (spTake K)) :
    Def P w K mg base "_law_rows" 2 ["_law_box_here", "_law_points_here", "_law_place", "_law_many", "_law_time"] (spRows K) := by
  refine mkDef A scLawRows (fun _ _ _ _ _ _ us hl => match us, hl with | [_, _, _, _, _], _ => rfl) (fun vs H Q E ⟨_, _, _, _, _, _, _, e, _⟩ => by rw [e]; rfl)
    (fun f cdv A out s H vs Q E hr h => ?_)
  obtain ⟨p, b, pl, m, t, n, ps, rfl, hb, hn, bp, hP, gp, hpl, m0, m12, t0, t1, k⟩ := h
  obtain ⟨mm, rfl⟩ := Int.eq_ofNat_of_zero_le m0
  refine ⟨_, (pss_cons (ps_setLc (i := 5) (own := [("_law_point", 12)]) (g := gName 12) rfl scLawRows.nd rfl rfl (sw_true rfl rfl rfl (by decide +kernel)) (pi_list (pv 1))
        (blkOk_by (own := [("_law_point", 12)]) (N := ["_law_box_here", "_law_points_here", "_law_place", "_law_many", "_law_time", "_law_mine", "_law_rows_here", "_law_k", "_law_name", "_law_at", "_law_kind", "_law_worth", "_law_point"]) (sc := defScope sLawRows) (by decide +kernel))
        (fun _ _ _ _ _ => (pg_name (i := 12) scLawRows.nd rfl (.inl rfl))) (fun _ _ _ _ _ => (pts_one (pt_cmpR op_eq (pe_ix (r := rIxT K) ix_tup (pv 12) pe_int (fun _ _ => rfl)) (pv 2) (nomark _))))
        (fun _ _ _ _ _ => (pv 12)))
    (pss_cons (ps_set (i := 6) scLawRows.nd rfl (.inl rfl) (pe_lst pa_nil))
    (pss_cons (ps_for PassesOwn.never rfl (pi_range1 (by rfl) T.range (pa_cons (pv 3) pa_nil)) (pg_name (i := 7) scLawRows.nd rfl (.inl rfl))
      (pss_cons (ps_set (i := 4) scLawRows.nd rfl (.inl rfl) (pe_callB (call_min2 rfl) (by rfl) T.min PyProof.Rows.boot_min (pa_cons pe_int (pa_cons (pe_op op_add (pv 4) (pe_ix ix_list (pe_lst (pa_cons pe_int (pa_cons pe_int (pa_cons pe_int (pa_cons pe_int (pa_cons pe_int pa_nil)))))) (pe_d dt hr (by decide) (by rfl) (pa_cons (pv 0) (pa_cons pe_int pa_nil))) (fun _ _ => rfl))) pa_nil))))
      (pss_cons (ps_asg (pe_ix ix_list (pv 5) (pe_d dt hr (by decide) (by rfl) (pa_cons (pv 0) (pa_cons (pe_callB call_len_seq (by rfl) T.len PySem.boot_len (pa_cons (pv 5) pa_nil)) pa_nil))) (fun _ _ => rfl)) (pg_tup (by rfl) (pgs_cons (pg_name (i := 8) scLawRows.nd rfl (.inl rfl)) (pgs_cons (pg_name (i := 9) scLawRows.nd rfl (.inl rfl)) (pgs_cons (pg_name (i := 10) scLawRows.nd rfl (.inl rfl)) pgs_nil)))))
      (pss_cons (ps_set (i := 11) scLawRows.nd rfl (.inl rfl) (pe_ifExp (pt_cmpR op_eq (pv 10) pe_str (nomark _)) (pe_d dt hr (by decide) (by rfl) (pa_cons (pv 0) (pa_cons pe_int pa_nil))) (pe_d dt hr (by decide) (by rfl) (pa_cons (pv 0) (pa_cons pe_int pa_nil)))))
      (pss_one (ps_expr (pe_bm PySem.F.plainAttrs_list PySem.F.slot_list_append PySem.F.type_list_append mt_append (pv 6) (pa_cons (pe_tup (pa_cons (pv 4) (pa_cons (pv 8) (pa_cons (pv 11) (pa_cons (pe_ix ix_list (pe_lst (pa_cons pe_str (pa_cons pe_str (pa_cons pe_str pa_nil)))) (pe_d dt hr (by decide) (by rfl) (pa_cons (pv 0) (pa_cons pe_int pa_nil))) (fun _ _ => rfl)) pa_nil))))) pa_nil))))))))
    (pss_one (ps_ret (pe_tup (pa_cons (pv 6) (pa_cons (pv 4) pa_nil)))))))), ?_⟩
  obtain ⟨vP, eP, alP⟩ := hP.ex
  have plen := alP.length
  have p8 := gp.len
  refine ⟨_, rfl, b, rfl, ⟨_, SqL.of eP⟩, fun D nD => ?_⟩
  have Dp := hb.ne nD
  refine lc_acc (walk_list (K := K) (a := b) (xs := vP)) nD (by omega) (fun i acc G => Al fP G acc ((ps.take i).filter fun x => decide (x.pl = pl))) .nil (fun H' S => SqL.of (S _ _ eP)) ?_ ?_
  · rintro i v G0 G acc hi S eD hl hacc ⟨rfl, hx⟩ Fy Fn hy1 hy2
    obtain ⟨q, x, rfl, hx', eq⟩ := (alP.same S).get hx
    have ets : ps.take (i + 1) = ps.take i ++ [x] := by rw [List.take_add_one, hx']; rfl
    rw [ets, List.filter_append] at hy1 hy2
    refine ⟨rfl, ?_⟩
    refine ⟨_, rfl, q, fP x, 1, .str x.pl, rfl, rfl, SqT.of eq, rfl, _, rfl, rfl, _, rfl, ?_⟩
    rw [str_dec]
    by_cases h : x.pl = pl
    · rw [decide_eq_true h]
      refine iteT ⟨_, rfl, hy1 _ _ (Same.refl _) ?_⟩
      have e1 : [x].filter (fun x => decide (x.pl = pl)) = [x] := by simp [h]
      rw [e1]
      exact Al.snoc hacc (wo_of (fun z => by rw [z, eD] at eq; cases eq) eq)
    · rw [decide_eq_false h]
      refine iteF (hy2 _ (Same.refl _) ?_)
      have e1 : [x].filter (fun x => decide (x.pl = pl)) = [] := by simp [h]
      rw [e1, List.append_nil]
      exact hacc
  rintro H1 acc S1 eD hacc
  rw [List.take_of_length_le (by omega)] at hacc
  have alM : Al fP H1 acc (ps.filter fun x => decide (x.pl = pl)) := hacc.same wo_same
  generalize hms : (ps.filter fun x => decide (x.pl = pl)) = ms at alM hacc
  have msin : ∀ x ∈ ms, x ∈ ps ∧ x.pl = pl := fun x hx => by
    rw [← hms] at hx
    obtain ⟨a, b⟩ := List.mem_filter.mp hx
    exact ⟨a, of_decide_eq_true b⟩
  have ms1 : 1 ≤ ms.length := by
    obtain ⟨x, hx, ex⟩ := List.mem_map.mp hpl
    have : x ∈ ms := by rw [← hms]; exact List.mem_filter.mpr ⟨hx, decide_eq_true ex⟩
    exact List.length_pos_of_mem this
  have ms8 : ms.length ≤ 8 := by rw [← hms]; exact Nat.le_trans (List.length_filter_le _ _) p8
  have mlen := alM.length
  clear hms hacc
  dsimp only [gName]
  refine ⟨by show 0 ≤ sizeLine; decide, fun F nF => ?_⟩
  have hb1 := hb.keep S1
  have Fp := hb1.ne nF
  have S2 := Same.laid (o := HO.lst []) nF
  have eF : upd H1 F (.lst []) F = some (.lst []) := upd_same
  have DF : D ≠ F := ne_of_none eD nF
  have eD2 := S2 _ _ eD
  have alM2 := alM.same S2
  have hb2 := hb1.keep S2
  have BH2 : But p H (upd H1 F (.lst [])) := Same.but (S1.trans S2)
  have nFH := Same.no S1 nF
  generalize upd H1 F (.lst []) = H2 at *
  refine ⟨_, rfl, (mm : Int), rfl, by omega, by omega, ?_⟩
  refine for_it (walk_range (lo := 0) (n := mm)) (fun i σ X => ∃ (v7 v8 v9 v10 v11 : Option V) (ti : Int) (vs : List V) (rs : List Sg), σ = [some (.ref p), some (.ref b), some (.str pl), some (.int (mm : Int)), some (.int ti), some (.ref D), some (.ref F), v7, v8, v9, v10, v11, none] ∧
      BoxAt X p (n + 4 * i) ∧ But p H X ∧ X D = some (.lst acc) ∧ Al fP X acc ms ∧ X F = some (.lst vs) ∧ Al f4 X vs rs ∧ rs.length = i ∧ (∀ r ∈ rs, GoodS ps pl r) ∧ (rs.map Sg.t ++ [ti]).Pairwise (· ≤ ·) ∧ 0 ≤ ti ∧ ti ≤ 9999 ∧ (t ≤ ti ∧ ti ≤ t + 40 * i ∧ ∀ r ∈ rs, t ≤ r.t)) ?_
    (fun _ _ _ _ _ => trivial) ?_ ?_
  · exact ⟨none, none, none, none, none, t, [], [], rfl, hb2, BH2, eD2, alM2, eF, .nil, rfl, (fun r h => by cases h), by simp, t0, t1, Int.le_refl _, by omega, fun r h => (by cases h)⟩
  · rintro i v σ X0 X hi ⟨v7, v8, v9, v10, v11, ti, vs, rs, rfl, hbX, BX, eDX, alX, eFX, al4, rl, gs, up, ti0, ti1, tlo, thi, tall⟩ ⟨rfl, rfl⟩
    dsimp only [gName]
    -- the time
    refine ⟨_, rfl, by show 5 ≤ sizeLine; decide, fun q1 nq1 => ?_⟩
    have U1 := Same.laid (o := HO.lst [.int 0, .int 1, .int 0, .int 7, .int 40]) nq1
    have eq1 : upd X q1 (.lst [.int 0, .int 1, .int 0, .int 7, .int 40]) q1 = some (.lst [.int 0, .int 1, .int 0, .int 7, .int 40]) := upd_same
    have q1p := hbX.ne nq1
    have hb1 := hbX.keep U1
    have BX1 : But p X (upd X q1 (.lst [.int 0, .int 1, .int 0, .int 7, .int 40])) := Same.but U1
    generalize upd X q1 (.lst [.int 0, .int 1, .int 0, .int 7, .int 40]) = X1 at *
    refine ⟨_, rfl, p, 5, _, rfl, hb1, by omega, by decide, by decide, fun j1 X2 a1 b1 hb2 B2 => ?_⟩
    obtain ⟨y1, hy1, at1⟩ := menu (xs := [V.int 0, .int 1, .int 0, .int 7, .int 40]) a1 (by simpa using b1)
    obtain ⟨i1, rfl, i10, i14⟩ : ∃ i1 : Int, y1 = .int i1 ∧ 0 ≤ i1 ∧ i1 ≤ 40 := by
      simp only [List.mem_cons, List.not_mem_nil, or_false] at hy1
      rcases hy1 with rfl | rfl | rfl | rfl | rfl <;> exact ⟨_, rfl, by decide, by decide⟩
    refine ⟨q1, _, j1, _, rfl, rfl, SqL.of (B2.at q1p eq1), at1, _, _, rfl, rfl, _, _, rfl, ?_⟩
    obtain ⟨t2, e2, t20, t21, t22, t23⟩ : ∃ t2 : Int, (if ti + i1 < 9999 then ti + i1 else 9999) = t2 ∧ ti ≤ t2 ∧ 0 ≤ t2 ∧ t2 ≤ 9999 ∧ t2 ≤ ti + 40 := ⟨_, rfl, by split <;> omega, by split <;> omega, by split <;> omega, by split <;> omega⟩
    rw [e2]
    have BX2 := BX1.trans B2
    have eDX2 := BX2.at Dp eDX
    have alX2 := Al.but alX hbX BX2
    -- the point
    refine ⟨_, rfl, _, rfl, _, rfl, D, _, rfl, .inl (SqL.of eDX2), p, _, _, rfl, hb2, by omega, by omega, Int.lt_of_le_of_lt (show (acc.length : Int) ≤ 8 by omega) (by decide), fun c X3 ca cb hb3 B3 => ?_⟩
    obtain ⟨ci, rfl⟩ := Int.eq_ofNat_of_zero_le ca
    have hci : ci < ms.length := by omega
    have BX3 := BX2.trans B3
    have eDX3 := BX3.at Dp eDX
    have alX3 := Al.but alX hbX BX3
    obtain ⟨q, hq, eq⟩ := alX3.at (i := ci) (r := ms[ci]) (List.getElem?_eq_getElem hci)
    have hmem := msin _ (List.getElem_mem hci)
    generalize ms[ci] = x at eq hmem
    refine ⟨D, _, (ci : Int), .ref q, rfl, rfl, SqL.of eDX3, atI_nat hq, q, _, rfl, SqT.of eq, rfl, _, _, rfl, _, _, rfl, _, _, rfl, rfl, ?_⟩
    -- the worth
    dsimp only [gName]
    refine seq_join (A := tAsg _ _) (fun σ' Y => ∃ wo : Int, σ' = [some (.ref p), some (.ref b), some (.str pl), some (.int (mm : Int)), some (.int t2), some (.ref D), some (.ref F), some (.int (0 + (i : Int))), some (.str x.nm), some (.str x.pl), some (.str (kd x.sw)), some (.int wo), none] ∧
      But p X3 Y ∧ BoxAt Y p (n + 4 * i + 3) ∧ 0 ≤ wo ∧ wo ≤ hiP x) (fun N' hN => ?_) ?_
    · refine ⟨_, rfl, rfl, _, rfl, ?_⟩
      rw [kd_level]
      unfold hiP at hN
      cases hsw : x.sw with
      | true =>
        rw [hsw] at hN
        refine iteF ⟨_, rfl, p, 2, _, rfl, hb3, by omega, by decide, by decide, fun wo Y wa wb hbY BY => ?_⟩
        exact hN _ _ ⟨wo, rfl, BY, hbY.up (by omega), wa, by rw [if_pos rfl]; omega⟩
      | false =>
        rw [hsw] at hN
        refine iteT ⟨_, rfl, p, 64, _, rfl, hb3, by omega, by decide, by decide, fun wo Y wa wb hbY BY => ?_⟩
        exact hN _ _ ⟨wo, rfl, BY, hbY.up (by omega), wa, by rw [if_neg (by decide)]; omega⟩
    rintro _ X4 ⟨wo, rfl, B4, hb4, w0, w1⟩
    have BX4 := BX3.trans B4
    have eFX4 := BX4.at Fp eFX
    refine ⟨_, rfl, .inl ⟨rfl, _, SqL.of eFX4⟩, _, rfl, _, rfl, _, rfl, by show 3 ≤ sizeLine; decide, fun q5 nq5 => ?_⟩
    have U5 := Same.laid (o := HO.lst [.str "good", .str "odd", .str "good"]) nq5
    have eq5 : upd X4 q5 (.lst [.str "good", .str "odd", .str "good"]) q5 = some (.lst [.str "good", .str "odd", .str "good"]) := upd_same
    have q5p := hb4.ne nq5
    have hb5 := hb4.keep U5
    have BX5 : But p X (upd X4 q5 (.lst [.str "good", .str "odd", .str "good"])) := BX4.trans (Same.but U5)
    generalize upd X4 q5 (.lst [.str "good", .str "odd", .str "good"]) = X5 at *
    refine ⟨_, rfl, p, 3, _, rfl, hb5, by omega, by decide, by decide, fun j6 X6 a6 b6 hb6 B6 => ?_⟩
    obtain ⟨y6, hy6, at6⟩ := menu (xs := [V.str "good", .str "odd", .str "good"]) a6 (by simpa using b6)
    obtain ⟨mk, rfl, hmk⟩ : ∃ mk : Str, y6 = .str mk ∧ (mk = "good" ∨ mk = "odd") := by
      simp only [List.mem_cons, List.not_mem_nil, or_false] at hy6
      rcases hy6 with rfl | rfl | rfl
      · exact ⟨_, rfl, .inl rfl⟩
      · exact ⟨_, rfl, .inr rfl⟩
      · exact ⟨_, rfl, .inl rfl⟩
    refine ⟨q5, _, j6, _, rfl, rfl, SqL.of (B6.at q5p eq5), at6, by show 4 ≤ sizeLine; decide, fun r nr => ?_⟩
    have BX6 := BX5.trans B6
    generalize hrr : (⟨t2, x.nm, wo, mk⟩ : Sg) = rr
    have ef : [V.int t2, .str x.nm, .int wo, .str mk] = f4 rr := by rw [← hrr]; rfl
    rw [ef]
    have Sr := Same.laid (o := HO.tup (f4 rr)) nr
    have er : upd X6 r (.tup (f4 rr)) r = some (.tup (f4 rr)) := upd_same
    have hbr := hb6.keep Sr
    have BXr : But p X (upd X6 r (.tup (f4 rr))) := BX6.trans (Same.but Sr)
    generalize upd X6 r (.tup (f4 rr)) = X7 at *
    have eF7 := BXr.at Fp eFX
    have eD7 := BXr.at Dp eDX
    have al7 := Al.but al4 hbX BXr
    have alM7 := Al.but alX hbX BXr
    refine ⟨F, vs, .ref r, rfl, rfl, eF7, by rw [al4.length]; exact Nat.lt_of_le_of_lt (show rs.length ≤ 12 by omega) (by decide), ?_⟩
    refine ⟨_, _, _, _, _, t2, _, rs ++ [rr], rfl, (hbr.set Fp).up (by omega), But.wo_upd (BX.trans BXr) nFH, (upd_ne DF).trans eD7, Al.off alM7 eF7, upd_same, Al.snoc (Al.off al7 eF7) (off_lst er eF7), by rw [List.length_append, rl]; rfl, ?_, ?_, t21, t22, by omega, by omega, fun z hz => ?_⟩
    · intro z hz
      rcases List.mem_append.mp hz with h | h
      · exact gs z h
      · rw [List.mem_singleton.mp h, ← hrr]
        exact ⟨t21, t22, ⟨x, hmem.1, rfl, hmem.2, w0, w1⟩, hmk⟩
    · rw [List.map_append]
      have : [rr].map Sg.t = [t2] := by rw [← hrr]; rfl
      rw [this]
      exact up_twice (up_to up t20)
    · rcases List.mem_append.mp hz with h | h
      · exact tall z h
      · rw [List.mem_singleton.mp h, ← hrr]
        show t ≤ t2
        omega
  · rintro σ X ⟨v7, v8, v9, v10, v11, ti, vs, rs, rfl, hbX, BX, eDX, alX, eFX, al4, rl, gs, up, ti0, ti1, tx⟩
    refine ⟨_, rfl, _, rfl, by show 2 ≤ sizeLine; decide, fun o no => ?_⟩
    have So := Same.laid (o := HO.tup [.ref F, .int ti]) no
    have op := hbX.ne no
    exact k o F _ vs rs ti ((hbX.laid no).up (by omega)) (BX.trans (Same.but So)) (But.none_of BX no op) op Fp upd_same (So _ _ eFX) (al4.same So) (by omega) gs up ti0 ti1 tx
end
end V45

set_option maxHeartbeats 8000000
namespace V45
open PySem PySem.Spec PyProof.Rows L2 Pw Tr
/-! ### letters drawn, place by place -/
theorem Hrd.snoc {ps : List Pt} {F : List LA} {L : Lt} {q : Addr} (h : Hrd ps F) (g : GoodLt ps L) (b : ∀ z ∈ F, z.1.pl = L.pl → z.1.no < L.no ∧ BehindT z.1 L) (few : F.length < 60) : Hrd ps (F ++ [(L, q)]) := by
  refine ⟨fun x hx => ?_, ?_, fun x hx y hy ne ep => ?_, by rw [List.length_append, List.length_singleton]; omega⟩
  · rcases List.mem_append.mp hx with h' | h'
    · exact h.good x h'
    · rw [List.mem_singleton.mp h']
      exact g
  · rw [List.map_append]
    refine List.nodup_append.mpr ⟨h.nd, List.pairwise_singleton _ _, fun a ha c hc e => ?_⟩
    rw [List.mem_singleton.mp hc] at e
    obtain ⟨z, hz, rfl⟩ := List.mem_map.mp ha
    have h1 := (b z hz (congrArg (fun q : TP => q.1) e)).1
    have h2 : z.1.no = L.no := congrArg (fun q : TP => q.2) e
    omega
  · rcases List.mem_append.mp hx with h' | h'
    · rcases List.mem_append.mp hy with h2 | h2
      · exact h.fit x h' y h2 ne ep
      · rw [List.mem_singleton.mp h2] at ep ⊢
        obtain ⟨b1, b2⟩ := b x h' ep
        unfold FitT
        rw [if_pos b1]
        exact b2
    · rw [List.mem_singleton.mp h'] at ep ne ⊢
      rcases List.mem_append.mp hy with h2 | h2
      · obtain ⟨b1, b2⟩ := b y h2 ep.symm
        unfold FitT
        rw [if_neg (show ¬ L.no < y.1.no by omega)]
        exact b2
      · rw [List.mem_singleton.mp h2] at ne
        exact absurd rfl ne
/-- what the law keeps of each place -/
def Kept (X : Hp) (kvs : List (Key × V)) (F : List LA) (i : Nat) : Prop := ∀ pl : Str, (valV kvs (.inr pl) = none ∧ ∀ z ∈ F, z.1.pl ≠ pl) ∨
  ∃ (a : Addr) (no tm : Int), valV kvs (.inr pl) = some (.ref a) ∧ X a = some (.tup [.int no, .int tm]) ∧ (∀ z ∈ F, z.1.pl = pl → z.1.no ≤ no ∧ z.1.tm ≤ tm) ∧ 0 ≤ no ∧ no ≤ i ∧ 0 ≤ tm ∧ tm ≤ 20 + 400 * i
theorem Kept.ts {X X' : Hp} {kvs : List (Key × V)} {F : List LA} {i : Nat} (h : Kept X kvs F i) (t : TS X X') : Kept X' kvs F i := fun pl => (h pl).imp id fun ⟨a, no, tm, e1, e2, r⟩ => ⟨a, no, tm, e1, t _ _ e2, r⟩
theorem TS.of {H H' : Hp} (S : Same H H') : TS H H' := fun q t e => S _ _ e
theorem TS.butL {H H' : Hp} {L : Addr} {us : List V} (e : H L = some (.lst us)) (B : But L H H') : TS H H' := fun q t eq => B.at (fun z => by rw [z, e] at eq; cases eq) eq
theorem TS.dict {H : Hp} {D : Addr} {kvs : List (Key × V)} {o : HO} (e : H D = some (.dK kvs)) : TS H (upd H D o) := fun q t eq => (upd_ne (fun z => by rw [z, e] at eq; cases eq)).trans eq
theorem TS.trans {H H' H2 : Hp} (a : TS H H') (b : TS H' H2) : TS H H2 := fun q t e => b q t (a q t e)
section
variable {P : Program} {w : World} {K : PySem.W.Frag} {mg : Str → Option Value} {base : Heap}
def spLettersL (K : PySem.W.Frag) : Sp := fun vs H Q _ => ∃ p b n ps, vs = [.ref p, .ref b] ∧ BoxAt H p n ∧ n ≤ 800000 ∧ b ≠ p ∧ LT fP H b ps ∧ GoodPs ps ∧
  ∀ A H' F, H A = none → A ≠ p → BoxAt H' p (n + 700) → But p H H' → H' A = some (.lst ((F : List LA).map fun x => V.ref x.2)) → (∀ z ∈ F, LtAt H' z.2 z.1) → Hrd ps F → F.length ≤ 7 → 1 ≤ F.length → Q (.ref A) H'
theorem d_lettersL (T : Txt mg) (A : At K mg "_law_letters" sLawLetters) (dt : Def P w K mg base "_law_take" 1 ["_law_box_here", "_law_many"] (spTake K)) (dr : Def P w K mg base "_law_rows" 2 ["_law_box_here", "_law_points_here", "_law_place", "_law_many", "_law_time"] (spRows K)) :
    Def P w K mg base "_law_letters" 3 ["_law_box_here", "_law_points_here"] (spLettersL K) := by
  refine mkDef A scLawLetters (fun _ _ _ _ _ _ us hl => match us, hl with | [_, _], _ => rfl) (fun vs H Q E ⟨_, _, _, _, e, _⟩ => by rw [e]; rfl)
    (fun f cdv A0 out s H vs Q E hr h => ?_)
  obtain ⟨p, b, n, ps, rfl, hb, hn, bp, hP, gps, k⟩ := h
  have hu : (A0.deeper (envOfC "_law_letters" (defScope sLawLetters) s.heap.objs.size f cdv)).units + 1 < cLine := hu_of hr
  refine ⟨_, (pss_cons (ps_set (i := 2) scLawLetters.nd rfl (.inl rfl) (pe_lst pa_nil))
    (pss_cons (ps_set (i := 3) scLawLetters.nd rfl (.inl rfl) pe_dnewK)
    (pss_cons (ps_for PassesOwn.never rfl (pi_range1 (by rfl) T.range (pa_cons (pe_op op_add pe_int (pe_d dt hr (by decide) (by rfl) (pa_cons (pv 0) (pa_cons pe_int pa_nil)))) pa_nil)) (pg_name (i := 4) scLawLetters.nd rfl (.inl rfl))
      (pss_cons (ps_set (i := 5) scLawLetters.nd rfl (.inl rfl) (pe_ix ix_tup (pe_ix ix_list (pv 1) (pe_d dt hr (by decide) (by rfl) (pa_cons (pv 0) (pa_cons (pe_callB call_len_seq (by rfl) T.len PySem.boot_len (pa_cons (pv 1) pa_nil)) pa_nil))) (fun _ _ => rfl)) pe_int (fun _ _ => rfl)))
      (pss_cons (ps_asg (pe_dget2 hu (pv 3) (pv 5) (pe_tup (pa_cons pe_int (pa_cons (pe_d dt hr (by decide) (by rfl) (pa_cons (pv 0) (pa_cons pe_int pa_nil))) pa_nil))) ⟨rfl, rfl, rfl, rfl⟩) (pg_tup (by rfl) (pgs_cons (pg_name (i := 6) scLawLetters.nd rfl (.inl rfl)) (pgs_cons (pg_name (i := 7) scLawLetters.nd rfl (.inl rfl)) pgs_nil))))
      (pss_cons (ps_asg (pe_d dr hr (by decide) (by rfl) (pa_cons (pv 0) (pa_cons (pv 1) (pa_cons (pv 5) (pa_cons (pe_ix ix_list (pe_lst (pa_cons pe_int (pa_cons pe_int (pa_cons pe_int (pa_cons (pe_d dt hr (by decide) (by rfl) (pa_cons (pv 0) (pa_cons pe_int pa_nil))) pa_nil))))) (pe_d dt hr (by decide) (by rfl) (pa_cons (pv 0) (pa_cons pe_int pa_nil))) (fun _ _ => rfl)) (pa_cons (pv 7) pa_nil)))))) (pg_tup (by rfl) (pgs_cons (pg_name (i := 8) scLawLetters.nd rfl (.inl rfl)) (pgs_cons (pg_name (i := 7) scLawLetters.nd rfl (.inl rfl)) pgs_nil))))
      (pss_cons (ps_asg (pe_tup (pa_cons (pe_op op_add (pv 6) pe_int) (pa_cons (pe_op op_add (pv 7) (pe_ix ix_list (pe_lst (pa_cons pe_int (pa_cons pe_int (pa_cons pe_int pa_nil)))) (pe_d dt hr (by decide) (by rfl) (pa_cons (pv 0) (pa_cons pe_int pa_nil))) (fun _ _ => rfl))) pa_nil))) (pg_sub (pv 3) (pv 5) (set_dict hu)))
      (pss_one (ps_expr (pe_bm PySem.F.plainAttrs_list PySem.F.slot_list_append PySem.F.type_list_append mt_append (pv 2) (pa_cons (pe_tup (pa_cons pe_str (pa_cons (pv 5) (pa_cons (pe_op op_add (pv 6) pe_int) (pa_cons (pe_ix ix_tup (pe_dget hu (pv 3) (pv 5) (fun _ _ => rfl)) pe_int (fun _ _ => rfl)) (pa_cons (pe_callTy call_tuple_of (by rfl) T.tuple (by decide +kernel) (pa_cons (pv 8) pa_nil)) pa_nil)))))) pa_nil)))))))))
    (pss_one (ps_ret (pv 2)))))), ?_⟩
  obtain ⟨usp, ebp⟩ := hb.lst
  obtain ⟨xp, eb, alp⟩ := hP.ex
  have xpl := alp.length
  have p8 := gps.len
  have ppos := gps.pos
  refine ⟨by show 0 ≤ sizeLine; decide, fun A nA => ?_⟩
  have S1 := Same.laid (o := HO.lst []) nA
  have eA1 : upd H A (.lst []) A = some (.lst []) := upd_same
  have hb1 := hb.keep S1
  have Ap := hb.ne nA
  generalize upd H A (.lst []) = H1 at *
  dsimp only [gName]
  refine fun D nD => ?_
  have S2 := Same.laid (o := HO.dK []) nD
  have eD2 : upd H1 D (.dK []) D = some (.dK []) := upd_same
  have hb2 := hb1.keep S2
  have eA2 := S2 _ _ eA1
  have Dp := hb1.ne nD
  have nDH := Same.no S1 nD
  generalize upd H1 D (.dK []) = H2 at *
  dsimp only [gName]
  refine ⟨_, rfl, p, 7, _, rfl, hb2, by omega, by decide, by decide, fun j0 H3 ja jb hb3 B3 => ?_⟩
  refine ⟨1, j0, rfl, rfl, ?_⟩
  obtain ⟨mm, emm⟩ := Int.eq_ofNat_of_zero_le (show 0 ≤ 1 + j0 by omega)
  have BH3 : But p H H3 := (Same.but (S1.trans S2)).trans B3
  refine ⟨(mm : Int), congrArg (fun z => [V.int z]) emm, by omega, by omega, ?_⟩
  have nvV : ∀ pl : Str, valV ([] : List (Key × V)) (.inr pl) = none := fun pl => rfl
  refine for_it (walk_range (lo := 0) (n := mm)) (fun i σ X => (∃ v4 v5 v6 v7 v8 : Option V, σ = [some (.ref p), some (.ref b), some (.ref A), some (.ref D), v4, v5, v6, v7, v8]) ∧ BoxAt X p (n + 1 + 80 * i) ∧ But p H X ∧ ∃ (F : List LA) (kvs : List (Key × V)), X A = some (.lst (F.map fun x => V.ref x.2)) ∧ X D = some (.dK kvs) ∧ kvs.length ≤ i ∧ (∀ z ∈ F, LtAt X z.2 z.1) ∧ Hrd ps F ∧ F.length = i ∧ Kept X kvs F i)
    ⟨⟨_, _, _, _, _, rfl⟩, hb3, BH3, [], [], B3.at Ap eA2, B3.at Dp eD2, Nat.le_refl _, fun z hz => (by cases hz), ⟨fun x h => (by cases h), List.nodup_nil, fun x h => (by cases h), by decide⟩, rfl, fun pl => .inl ⟨rfl, fun z hz => (by cases hz)⟩⟩ (fun _ _ _ _ _ => trivial) ?_ ?_
  · rintro i v σ X0 X hi ⟨⟨v4, v5, v6, v7, v8, rfl⟩, hbX, BX, F, kvs, eA, eD, kl, ltF, hF, Fl, kp⟩ ⟨rfl, rfl⟩
    dsimp only [gName]
    have AD : A ≠ D := fun z => by rw [z, eD] at eA; cases eA
    have mm7 : mm ≤ 7 := by omega
    -- the place
    have ebX := BX.at bp eb
    refine ⟨_, rfl, _, rfl, _, rfl, b, xp, rfl, .inl (SqL.of ebX), p, _, _, rfl, hbX, by omega, by rw [xpl]; omega, by rw [xpl]; exact Int.lt_of_le_of_lt (show (ps.length : Int) ≤ 8 by omega) (by decide), fun c X1 ca cb hb4 B1 => ?_⟩
    obtain ⟨ci, rfl⟩ := Int.eq_ofNat_of_zero_le ca
    have hci : ci < ps.length := by omega
    have BX1 := BX.trans B1
    have alX1 := al_but alp ebp BX1
    obtain ⟨q, hq, eq⟩ := alX1.at (List.getElem?_eq_getElem hci)
    have hpt := List.getElem_mem hci
    generalize ps[ci] = pt at eq hpt hq
    refine ⟨b, _, (ci : Int), .ref q, rfl, rfl, SqL.of (BX1.at bp eb), atI_nat hq, q, _, 1, .str pt.pl, rfl, rfl, SqT.of eq, rfl, ?_⟩
    dsimp only [gName]
    have ts1 := TS.butL (hbX.lst.choose_spec) B1
    have eA1' := B1.at Ap eA
    have eD1' := B1.at Dp eD
    have kp1 := kp.ts ts1
    -- its number and its time
    refine ⟨_, rfl, D, rfl, .inl ⟨kvs, .inl eD1'⟩, _, rfl, _, rfl, p, 20, _, rfl, hb4, by omega, by decide, by decide, fun j1 X2 a1 b1 hb5 B2 => ⟨by show 2 ≤ sizeLine; decide, fun t1 nt1 => ?_⟩⟩
    have S3 := Same.laid (o := HO.tup [.int 0, .int j1]) nt1
    have et1 : upd X2 t1 (.tup [.int 0, .int j1]) t1 = some (.tup [.int 0, .int j1]) := upd_same
    have hb6 := hb5.keep S3
    have B13 : But p X1 (upd X2 t1 (.tup [.int 0, .int j1])) := B2.trans (Same.but S3)
    generalize upd X2 t1 (.tup [.int 0, .int j1]) = X3 at *
    have ts3 := TS.butL (hb4.lst.choose_spec) B13
    have kp3 := kp1.ts ts3
    have eD3 := B13.at Dp eD1'
    obtain ⟨a0, no, tm, eget, ea0, old, no0, no1, tm0, tm1⟩ : ∃ (a0 : Addr) (no tm : Int), (valV kvs (.inr pt.pl)).getD (.ref t1) = .ref a0 ∧ X3 a0 = some (.tup [.int no, .int tm]) ∧ (∀ z ∈ F, z.1.pl = pt.pl → z.1.no ≤ no ∧ z.1.tm ≤ tm) ∧ 0 ≤ no ∧ no ≤ i ∧ 0 ≤ tm ∧ tm ≤ 20 + 400 * i := by
      rcases kp3 pt.pl with ⟨e, h⟩ | ⟨a, no, tm, e, ea, h⟩
      · exact ⟨t1, 0, j1, by rw [e]; rfl, et1, fun z hz e2 => absurd e2 (h z hz), Int.le_refl _, by omega, a1, by omega⟩
      · exact ⟨a, no, tm, by rw [e]; rfl, ea, h⟩
    refine ⟨valV kvs (.inr pt.pl), .inl ⟨kvs, .inr pt.pl, .inl eD3, rfl, rfl⟩, ?_⟩
    rw [eget]
    refine ⟨a0, _, rfl, SqT.of ea0, rfl, _, _, rfl, _, _, rfl, rfl, ?_⟩
    dsimp only [gName]
    -- its rows
    refine ⟨_, rfl, _, rfl, _, rfl, _, rfl, p, 9, _, rfl, hb6, by omega, by decide, by decide, fun j2 X4 a2 b2 hb7 B4 => ⟨by show 4 ≤ sizeLine; decide, fun Lq nLq => ?_⟩⟩
    have S5 := Same.laid (o := HO.lst [V.int 1, .int 0, .int 4, .int j2]) nLq
    have eLq : upd X4 Lq (.lst [.int 1, .int 0, .int 4, .int j2]) Lq = some (.lst [.int 1, .int 0, .int 4, .int j2]) := upd_same
    have Lqp := hb7.ne nLq
    have hb8 := hb7.keep S5
    have B35 : But p X3 (upd X4 Lq (.lst [.int 1, .int 0, .int 4, .int j2])) := B4.trans (Same.but S5)
    generalize upd X4 Lq (.lst [.int 1, .int 0, .int 4, .int j2]) = X5 at *
    refine ⟨_, rfl, p, 4, _, rfl, hb8, by omega, by decide, by decide, fun j3 X6 a3 b3 hb9 B6 => ?_⟩
    obtain ⟨y0, hy0, aty⟩ := menu (xs := [V.int 1, .int 0, .int 4, .int j2]) a3 (by simpa using b3)
    obtain ⟨d, rfl, d0, d8⟩ : ∃ d : Int, y0 = .int d ∧ 0 ≤ d ∧ d ≤ 8 := by
      simp only [List.mem_cons, List.not_mem_nil, or_false] at hy0
      rcases hy0 with rfl | rfl | rfl | rfl
      · exact ⟨1, rfl, by decide, by decide⟩
      · exact ⟨0, rfl, by decide, by decide⟩
      · exact ⟨4, rfl, by decide, by decide⟩
      · exact ⟨j2, rfl, a2, by omega⟩
    have B36 := B35.trans B6
    have BX6 : But p H X6 := BX1.trans (B13.trans B36)
    refine ⟨Lq, _, j3, .int d, rfl, rfl, SqL.of (B6.at Lqp eLq), aty, _, rfl, p, b, pt.pl, d, tm, _, ps, rfl, hb9, by omega, bp, ⟨xp, BX6.at bp eb, al_but alp ebp BX6⟩, gps, List.mem_map.mpr ⟨pt, hpt, rfl⟩, d0, by omega, tm0, by omega, fun o Fr X7 vs rs t' hb10 B7 no_ op Frp eo eFr alr rl gs up t0' t9' ⟨tlo, thi, tall⟩ => ?_⟩
    refine ⟨o, _, rfl, SqT.of eo, rfl, _, _, rfl, _, _, rfl, rfl, ?_⟩
    dsimp only [gName]
    -- kept
    refine ⟨_, rfl, _, _, rfl, rfl, _, rfl, by show 3 ≤ sizeLine; decide, fun Kd nKd => ?_⟩
    have S8 := Same.laid (o := HO.lst [V.int 0, .int 1, .int 5]) nKd
    have eK : upd X7 Kd (.lst [.int 0, .int 1, .int 5]) Kd = some (.lst [.int 0, .int 1, .int 5]) := upd_same
    have Kp := hb10.ne nKd
    have hb11 := hb10.keep S8
    have B78 : But p X7 (upd X7 Kd (.lst [.int 0, .int 1, .int 5])) := Same.but S8
    generalize upd X7 Kd (.lst [.int 0, .int 1, .int 5]) = X8 at *
    refine ⟨_, rfl, p, 3, _, rfl, hb11, by omega, by decide, by decide, fun j4 X9 a4 b4 hb12 B9 => ?_⟩
    obtain ⟨y1, hy1, aty1⟩ := menu (xs := [V.int 0, .int 1, .int 5]) a4 (by simpa using b4)
    obtain ⟨d2, rfl, d20, d25⟩ : ∃ d2 : Int, y1 = .int d2 ∧ 0 ≤ d2 ∧ d2 ≤ 5 := by
      simp only [List.mem_cons, List.not_mem_nil, or_false] at hy1
      rcases hy1 with rfl | rfl | rfl <;> exact ⟨_, rfl, by decide, by decide⟩
    refine ⟨Kd, _, j4, .int d2, rfl, rfl, SqL.of (B9.at Kp eK), aty1, t', d2, rfl, rfl, by show 2 ≤ sizeLine; decide, fun t2 nt2 => ?_⟩
    have S10 := Same.laid (o := HO.tup [.int (no + 1), .int (t' + d2)]) nt2
    have et2 : upd X9 t2 (.tup [.int (no + 1), .int (t' + d2)]) t2 = some (.tup [.int (no + 1), .int (t' + d2)]) := upd_same
    have hb13 := hb12.keep S10
    have B7A : But p X7 (upd X9 t2 (.tup [.int (no + 1), .int (t' + d2)])) := B78.trans (B9.trans (Same.but S10))
    generalize upd X9 t2 (.tup [.int (no + 1), .int (t' + d2)]) = XA at *
    have B1A : But p X1 XA := B13.trans (B36.trans (B7.trans B7A))
    have BXA : But p X XA := B1.trans B1A
    have eDA := BXA.at Dp eD
    have eAA := BXA.at Ap eA
    have eFA := B7A.at Frp eFr
    have tsA : TS X XA := TS.butL hbX.lst.choose_spec BXA
    have ts7A : TS X7 XA := TS.butL hb10.lst.choose_spec B7A
    have alA := alr.imp fun a xs e => ts7A a xs e
    refine ⟨_, rfl, _, rfl, D, _, rfl, DPut.k (k := .inr pt.pl) eDA (Nat.lt_of_le_of_lt (show kvs.length ≤ 100 by omega) (by decide)), ?_⟩
    have tsB : TS XA (upd XA D (.dK (putK kvs (.inr pt.pl) (.ref t2)))) := TS.dict eDA
    have BB : But D XA (upd XA D (.dK (putK kvs (.inr pt.pl) (.ref t2)))) := But.set
    have eDB : upd XA D (.dK (putK kvs (.inr pt.pl) (.ref t2))) D = some (.dK (putK kvs (.inr pt.pl) (.ref t2))) := upd_same
    have eAB := BB.at AD eAA
    have eFB := BB.at (fun z => by rw [z, eDA] at eFA; cases eFA) eFA
    have alB := alA.imp fun a xs e => tsB a xs e
    have etB := tsB _ _ et2
    have hbB : BoxAt (upd XA D (.dK (putK kvs (.inr pt.pl) (.ref t2)))) p (n + 1 + 80 * (i + 1)) := (hb13.set Dp).up (by omega)
    have BHB : But p H (upd XA D (.dK (putK kvs (.inr pt.pl) (.ref t2)))) := But.wo_upd (BX.trans BXA) nDH
    generalize upd XA D (.dK (putK kvs (.inr pt.pl) (.ref t2))) = XB at *
    have eg : DGet XB D (.str pt.pl) (some (.ref t2)) := .inl ⟨_, .inr pt.pl, .inl eDB, rfl, by rw [valV_put, if_pos rfl]⟩
    -- the letter
    refine ⟨_, rfl, .inl ⟨rfl, _, SqL.of eAB⟩, _, rfl, _, rfl, no, 1, rfl, rfl, _, rfl, _, rfl, D, .ref t2, rfl, eg, t2, _, 1, .int (t' + d2), rfl, rfl, SqT.of etB, rfl, _, rfl, Fr, vs, rfl, .inl ⟨SqL.of eFB, fun tp ntp => ?_⟩⟩
    have SC := Same.laid (o := HO.tup vs) ntp
    have etp : upd XB tp (.tup vs) tp = some (.tup vs) := upd_same
    generalize upd XB tp (.tup vs) = XC at *
    refine ⟨by show 5 ≤ sizeLine; decide, fun ql nql => ?_⟩
    have SD := Same.laid (o := HO.tup [.str "signs", .str pt.pl, .int (no + 1), .int (t' + d2), .ref tp]) nql
    have eql : upd XC ql (.tup [.str "signs", .str pt.pl, .int (no + 1), .int (t' + d2), .ref tp]) ql = some (.tup [.str "signs", .str pt.pl, .int (no + 1), .int (t' + d2), .ref tp]) := upd_same
    generalize upd XC ql (.tup [.str "signs", .str pt.pl, .int (no + 1), .int (t' + d2), .ref tp]) = XD at *
    have SBD := SC.trans SD
    have hL : LtAt XD ql ⟨pt.pl, no + 1, t' + d2, rs⟩ := ⟨tp, vs, eql, SD _ _ etp, alB.same SBD⟩
    have eAD := SBD _ _ eAB
    have hbD := hbB.keep SBD
    have tsD : TS X XD := tsA.trans (tsB.trans (TS.of SBD))
    refine ⟨A, _, .ref ql, rfl, rfl, eAD, Nat.lt_of_le_of_lt (show _ ≤ 100 by rw [List.length_map]; omega) (by decide), ?_⟩
    have BE : But A XD (upd XD A (.lst (F.map (fun x => V.ref x.2) ++ [.ref ql]))) := But.set
    have tsE : TS XD (upd XD A (.lst (F.map (fun x => V.ref x.2) ++ [.ref ql]))) := TS.butL eAD BE
    have keepL : ∀ {a : Addr} {M : Lt} {Z Z' : Hp}, TS Z Z' → LtAt Z a M → LtAt Z' a M := fun t h => t.lt h
    refine ⟨⟨_, _, _, _, _, rfl⟩, hbD.set Ap, But.wo_upd (BHB.trans (Same.but SBD)) nA, F ++ [((⟨pt.pl, no + 1, t' + d2, rs⟩ : Lt), ql)], putK kvs (.inr pt.pl) (.ref t2), by rw [upd_same, List.map_append]; rfl, BE.at AD.symm (SBD _ _ eDB), ?_, fun z hz => ?_, ?_, by rw [List.length_append, Fl]; rfl, fun pl => ?_⟩
    · have := putK_len kvs (.inr pt.pl) (.ref t2)
      omega
    · rcases List.mem_append.mp hz with h | h
      · exact keepL (tsD.trans tsE) (ltF z h)
      · rw [List.mem_singleton.mp h]
        exact keepL tsE hL
    · refine Hrd.snoc hF ⟨List.mem_map.mpr ⟨pt, hpt, rfl⟩, by show (1 : Int) ≤ no + 1; omega, by show no + 1 ≤ 40; omega, by show 0 ≤ t' + d2; omega, by show t' + d2 ≤ 9999; omega, rl, gs, up_to up (by show t' ≤ t' + d2; omega)⟩ (fun z hz e => ?_) (by omega)
      obtain ⟨h1, h2⟩ := old z hz e
      refine ⟨by show z.1.no < no + 1; omega, fun x hx => ?_⟩
      rcases List.mem_append.mp hx with h | h
      · obtain ⟨s, hs, rfl⟩ := List.mem_map.mp h
        have := tall s hs
        omega
      · rw [List.mem_singleton.mp h]
        show z.1.tm ≤ t' + d2
        omega
    · rw [valV_put]
      by_cases c : pl = pt.pl
      · rw [if_pos (congrArg Sum.inr c)]
        refine .inr ⟨t2, no + 1, t' + d2, rfl, (tsB.trans ((TS.of SBD).trans tsE)) _ _ et2, fun z hz e => ?_, by omega, by omega, by omega, by omega⟩
        rcases List.mem_append.mp hz with h | h
        · obtain ⟨h1, h2⟩ := old z h (e.trans c)
          exact ⟨by omega, by omega⟩
        · rw [List.mem_singleton.mp h]
          exact ⟨Int.le_refl _, Int.le_refl _⟩
      · rw [if_neg fun z => c (Sum.inr.inj z)]
        rcases (kp.ts (tsD.trans tsE)) pl with ⟨e, h⟩ | ⟨a, no', tm', e, ea, h, r1, r2, r3, r4⟩
        · refine .inl ⟨e, fun z hz e2 => ?_⟩
          rcases List.mem_append.mp hz with h' | h'
          · exact h z h' e2
          · rw [List.mem_singleton.mp h'] at e2
            exact c e2.symm
        · refine .inr ⟨a, no', tm', e, ea, fun z hz e2 => ?_, r1, by omega, r3, by omega⟩
          rcases List.mem_append.mp hz with h' | h'
          · exact h z h' e2
          · rw [List.mem_singleton.mp h'] at e2
            exact absurd e2.symm c
  · rintro σ X ⟨⟨v4, v5, v6, v7, v8, rfl⟩, hbX, BX, F, kvs, eA, eD, kl, ltF, hF, Fl, kp⟩
    exact ⟨_, rfl, k A X F nA Ap (hbX.up (by omega)) BX eA ltF hF (by omega) (by omega)⟩
end
end V45

namespace V45
open PySem PySem.Spec PyProof.Rows L2 Pw Tr
/-! ### maths of a trend and a hearing -/
theorem rgc_up {lo hi c : Int} (h0 : 0 ≤ lo) (h1 : lo ≤ hi) (h2 : hi ≤ 10000) (c1 : 1 ≤ c) (c2 : c ≤ 1000) : ∃ n : Nat, RgC lo (hi + 1) c n ∧ ∀ i : Nat, i < n → lo + (i : Int) * c ≤ hi := by
  have e : Builtin.Range.rangeSize lo (hi + 1) c = (hi - lo) / c + 1 := by
    unfold Builtin.Range.rangeSize
    rw [if_pos (show c > 0 by omega), if_pos (show lo < hi + 1 by omega)]
    rw [show hi + 1 - lo - 1 = hi - lo by omega]
  have p0 : 0 ≤ (hi - lo) / c := Int.ediv_nonneg (by omega) (by omega)
  have p1 : (hi - lo) / c ≤ hi - lo := Int.ediv_le_self c (by omega)
  obtain ⟨n, en⟩ := Int.eq_ofNat_of_zero_le (show 0 ≤ (hi - lo) / c + 1 by omega)
  refine ⟨n, ⟨by omega, by omega, ?_, by rw [e, en]⟩, fun i hi' => ?_⟩
  · unfold Builtin.Range.small
    rw [e]
    simp only [Builtin.Range.rangeFitsLong, Bool.and_eq_true, Bool.or_eq_true, decide_eq_true_eq, beq_iff_eq, show c > 0 by omega, if_true]
    omega
  · have h3 : (i : Int) ≤ (hi - lo) / c := by omega
    have h4 := Int.mul_le_mul_of_nonneg_right h3 (show 0 ≤ c by omega)
    have h5 := Int.ediv_mul_le (hi - lo) (show c ≠ 0 by omega)
    omega
theorem lastR_time' {R : List T3} {s : Int} {r : T3} (h : lastR R s = some r) : r.1 = s := by
  unfold lastR at h
  exact of_decide_eq_true (List.mem_filter.mp (List.mem_of_getLast? h)).2
theorem times_memR {R : List T3} {x : Int} : x ∈ timesR R ↔ x ∈ R.map (·.1) := (srtF_perm (fun x : Int => x) _).mem_iff.trans ddI_mem
theorem times_ltR (R : List T3) : (timesR R).Pairwise (· < ·) := srtF_lt (fun x : Int => x) (by rw [List.map_id']; exact ddI_nd)
def fnK (l : List (Int × Int)) : List (Key × V) := l.map fun r => (.inl r.1, .int r.2)
theorem valV_app (a b : List (Key × V)) (k : Key) : valV (a ++ b) k = (valV a k).or (valV b k) := by
  unfold valV
  rw [List.find?_append]
  cases a.find? fun kv => decide (kv.1 = k) <;> rfl
theorem fine_none {rs : List (Int × Int)} {lo : Int} {t : Int} : ∀ {n : Nat}, (∀ i, i < n → t ≠ lo + (i : Int)) → valV (fnK (fineM rs lo n)) (.inl t) = none
  | 0, _ => rfl
  | n + 1, h => by
    unfold fnK
    rw [fineM_succ, List.map_append, valV_app]
    have ih := fine_none (rs := rs) (lo := lo) (t := t) (n := n) fun i hi => h i (by omega)
    unfold fnK at ih
    rw [ih]
    cases e : tickRow rs (lo + n) with
    | none => rfl
    | some r =>
      have er : r.1 = lo + n := by
        unfold tickRow at e
        cases z : lastW rs (lo + n) with
        | none => rw [z] at e; cases e
        | some w => rw [z] at e; cases e; rfl
      show valV [((Sum.inl r.1 : Key), V.int r.2)] (.inl t) = none
      unfold valV
      rw [List.find?_cons, decide_eq_false (show ¬ (Sum.inl r.1 : Key) = .inl t from fun z => h n (by omega) ((Sum.inl.inj z).symm.trans er))]
      rfl
theorem fine_at {rs : List (Int × Int)} {lo : Int} : ∀ {n i : Nat}, i < n → valV (fnK (fineM rs lo n)) (.inl (lo + (i : Int))) = (lastW rs (lo + (i : Int))).map V.int
  | 0, _, h => absurd h (Nat.not_lt_zero _)
  | n + 1, i, h => by
    have hn := fine_none (rs := rs) (lo := lo) (t := lo + (n : Int)) (n := n) fun j hj e => by omega
    have ih := @fine_at rs lo n i
    unfold fnK at hn ih ⊢
    rw [fineM_succ, List.map_append, valV_app]
    by_cases c : i < n
    · rw [ih c]
      cases e : lastW rs (lo + (i : Int)) with
      | some w => rfl
      | none =>
        cases e2 : tickRow rs (lo + n) with
        | none => rfl
        | some r =>
          have er : r.1 = lo + n := by
            unfold tickRow at e2
            cases z : lastW rs (lo + n) with
            | none => rw [z] at e2; cases e2
            | some w => rw [z] at e2; cases e2; rfl
          show (valV [((Sum.inl r.1 : Key), V.int r.2)] (.inl (lo + (i : Int)))) = none
          unfold valV
          rw [List.find?_cons, decide_eq_false (show ¬ (Sum.inl r.1 : Key) = .inl (lo + (i : Int)) from fun z => by
            have := (Sum.inl.inj z).symm.trans er
            omega)]
          rfl
    · have : i = n := by omega
      subst this
      rw [hn]
      unfold tickRow
      cases e : lastW rs (lo + (i : Int)) with
      | none => rfl
      | some w =>
        show valV [((Sum.inl (lo + (i : Int)) : Key), V.int w)] (.inl (lo + (i : Int))) = _
        unfold valV
        rw [List.find?_cons, decide_eq_true rfl]
        rfl
theorem take_filt {α : Type} {f : α → Int} {t : Int} : ∀ {l : List α}, l.Pairwise (fun a b => f a < f b) → l.takeWhile (fun x => decide (f x ≤ t)) = l.filter fun x => decide (f x ≤ t)
  | [], _ => rfl
  | x :: r, h => by
    obtain ⟨h1, h2⟩ := List.pairwise_cons.mp h
    rw [List.takeWhile_cons, List.filter_cons]
    by_cases c : f x ≤ t
    · rw [decide_eq_true c, if_pos rfl, if_pos rfl, take_filt h2]
    · rw [decide_eq_false c, if_neg (by decide), if_neg (by decide)]
      symm
      refine List.filter_eq_nil_iff.mpr fun y hy z => ?_
      have := h1 y hy
      have : f y ≤ t := of_decide_eq_true z
      omega
theorem hist_rise (R : List T3) : (histM R).Pairwise fun a b => a.1 < b.1 := by
  unfold histM
  refine List.Pairwise.filterMap (lastR R) (fun a b h x hx y hy => ?_) (times_ltR R)
  rw [lastR_time' hx, lastR_time' hy]
  exact h
theorem last_row {R : List T3} (h : R.Pairwise fun a b => a.1 < b.1) (t : Int) : lastW (V45T.pr R) t = (rowAt R t).map fun r => r.2.1 := by
  unfold lastW rowAt V45T.pr
  rw [List.takeWhile_map, List.getLast?_map, Option.map_map]
  show Option.map _ (R.takeWhile fun r => decide (r.1 ≤ t)).getLast? = _
  rw [take_filt (f := fun r : T3 => r.1) h]
  rfl
/-- the letters of a place, of a trend and of a hearing -/
theorem rows_same {tl ls : List LA} {pt : Pt} (nd : (ls.map ky).Nodup) (ndt : (tl.map noF).Nodup) (h : ∀ z, z ∈ tl ↔ z ∈ ls ∧ z.1.pl = pt.pl) : rowsN tl pt.nm = rowsL ls pt := by
  unfold rowsN rowsL
  have : srtF noF tl = ofPl ls pt.pl := lt_uniq noF (fun x => by rw [(srtF_perm noF tl).mem_iff, ofPl_mem, h]) (srtF_lt noF ndt) (srtF_lt noF (nd_no nd))
  rw [this]
theorem goodH_of {ps : List Pt} {ls : List LA} {pt : Pt} (g : ∀ x ∈ ls, GoodLt ps x.1) (few : ls.length ≤ 60) : V45T.GoodH (histM (rowsL ls pt)) := by
  refine ⟨fun r hr => ?_, hist_rise _, ?_⟩
  · obtain ⟨x, hx, s, hs, rfl⟩ := rows_mem (hist_mem hr)
    have gs := (g x hx).all s hs
    obtain ⟨q, _, _, _, w0, w1⟩ := gs.inn
    have : hiP q ≤ 63 := by unfold hiP; split <;> decide
    exact ⟨gs.t0, gs.t1, w0, by show s.w ≤ 63; omega, gs.m⟩
  · refine Nat.le_trans (hist_len _) ?_
    unfold rowsL
    have h := flat_len (fun x : LA => (rowsM x.1 pt.nm).map tri) 12 (l := ofPl ls pt.pl) fun x hx => by
      rw [List.length_map]
      exact Nat.le_trans (List.length_filter_le _ _) (g x (ofPl_mem.mp hx).1).few
    have h2 := ofPl_len (ls := ls) (pl := pt.pl)
    omega
end V45

set_option maxHeartbeats 8000000
namespace V45
open PySem PySem.Spec PyProof.Rows L2 Pw Tr
/-! ### a trend beside a hearing -/
def owV : Option T3 → V
  | none => .non
  | some r => .int r.2.1
theorem showM_fst (ls : List LA) (pt : Pt) (t : Int) : ∃ rest, showM ls [] pt t = owV (rowAt (histM (rowsL ls pt)) t) :: rest := by
  unfold showM
  rw [show lastHd [] pt.nm t = none from rfl]
  dsimp only
  cases rowAt (histM (rowsL ls pt)) t <;> exact ⟨_, rfl⟩
theorem merge_new : ∀ (more acc : List (Key × V)), ((acc ++ more).map Prod.fst).Nodup → mergeK acc more = acc ++ more
  | [], acc, _ => by simp [mergeK]
  | kv :: more, acc, nd => by
    have n1 : kv.1 ∉ acc.map Prod.fst := fun z => by
      rw [List.map_append, List.nodup_append] at nd
      exact nd.2.2 _ z _ (by simp) rfl
    have e : mergeK acc (kv :: more) = mergeK (putK acc kv.1 kv.2) more := rfl
    rw [e, putK_new n1, merge_new more _ (by simpa using nd)]
    simp
theorem merge_fn {l : List (Int × Int)} (h : Rise l) : mergeK [] (fnK l) = fnK l := by
  refine merge_new _ [] ?_
  rw [List.nil_append]
  unfold fnK
  rw [List.map_map]
  exact List.pairwise_map.mpr (h.imp fun h z => by
    have := Sum.inl.inj z
    omega)
theorem al_fn {K : PySem.W.Frag} {H : Hp} {vs : List V} {l : List (Int × Int)} (h : Al V45T.f2 H vs l) : ∃ ps : List Addr, vs = ps.map V.ref ∧ Paired (fun p kv => SqT K H p [kV kv.1, kv.2]) ps (fnK l) := by
  induction h with
  | nil => exact ⟨[], rfl, .nil⟩
  | cons e _ ih =>
    obtain ⟨ps, e1, e2⟩ := ih
    exact ⟨_ :: ps, by rw [e1]; rfl, .cons (SqT.of e) e2⟩
section
variable {P : Program} {w : World} {K : PySem.W.Frag} {mg : Str → Option Value} {base : Heap} {C D E : Addr}
def spPtR (C D E : Addr) (K : PySem.W.Frag) : Sp := fun vs H Q _ => ∃ h0 tr pt md wa hd hl ls wa2 m hT tl W ps, vs = [.ref h0, .ref tr, .str (Pt.nm pt), .ref md] ∧ HeAt D H h0 wa hd hl ls [] ∧ WoP K C H wa W ps ∧ pt ∈ ps ∧ TrAt E H tr wa2 pt m hT tl ∧ Md.Ok m ∧ m.lo ≤ m.hi ∧
  H md = some (.tup [.int m.z, .int m.lo, .int m.hi]) ∧ (∀ x ∈ ls, GoodLt ps x.1) ∧ ls.length ≤ 60 ∧ (∀ z, z ∈ tl ↔ z ∈ ls ∧ z.1.pl = pt.pl) ∧ ∀ H', Same H H' → Q (.bl true) H'
theorem d_ptR (T : Txt mg) (Wh : HeC K D) (Wt : TrC K E) (A : At K mg "_law_point_right" sLawPointRight) (dHy : DefM P w K mg base D "history" 4 ["self", "point"] (spHistory C D K)) (dRo : DefM P w K mg base E "rows" 4 ["self"] (spRowsTr E)) (dFi : DefM P w K mg base E "fine" 3 ["self"] (spFineTr E))
    (dCo : DefD P w K mg base "coarse" 8 ["history", "size", "since", "till", "odd"] [.bl true] V45T.spCo) (dF : DefD P w K mg base "fine" 8 ["history", "since", "till", "odd"] [.bl true] V45T.spFine) (dSw : DefM P w K mg base D "show" 6 ["self", "point", "at"] (spShow C D K)) :
    Def P w K mg base "_law_point_right" 9 ["_law_hearing", "_law_trend", "_law_point", "_law_made"] (spPtR C D E K) := by
  refine mkDef A scLawPointRight (fun _ _ _ _ _ _ us hl => match us, hl with | [_, _, _, _], _ => rfl) (fun vs H Q E ⟨_, _, _, _, _, _, _, _, _, _, _, _, _, _, e, _⟩ => by rw [e]; rfl)
    (fun f cdv A out s H vs Q EX hr h => ?_)
  obtain ⟨h0, tr, pt, md, wa, hd, hl, ls, wa2, m, hT, tl, W, ps, rfl, he, hw, hpt, ht, g, lohi, emd, good, few, rel, k⟩ := h
  have hu : (A.deeper (envOfC "_law_point_right" (defScope sLawPointRight) s.heap.objs.size f cdv)).units + 1 < cLine := hu_of hr
  refine ⟨_, (pss_cons (ps_asg (pv 3) (pg_tup (by rfl) (pgs_cons (pg_name (i := 4) scLawPointRight.nd rfl (.inl rfl)) (pgs_cons (pg_name (i := 5) scLawPointRight.nd rfl (.inl rfl)) (pgs_cons (pg_name (i := 6) scLawPointRight.nd rfl (.inl rfl)) pgs_nil)))))
    (pss_cons (ps_set (i := 7) scLawPointRight.nd rfl (.inl rfl) (pe_mm (pv 0) Wh.cl dHy hr (by decide) (pa_cons (pv 2) pa_nil)))
    (pss_cons (ps_if (PW.pt (pw_or (pt_cmpR (op_neD hr.units) (pe_mm0 (pv 1) Wt.cl dRo hr (by decide)) (pe_dD dCo hr (by decide) (by rfl) (pa_cons (pv 7) (pa_cons (pv 4) (pa_cons (pv 5) (pa_cons (pv 6) pa_nil))))) (nomark _)) (pw_or1 (pt_cmpR (op_neD hr.units) (pe_mm0 (pv 1) Wt.cl dFi hr (by decide)) (pe_dD dF hr (by decide) (by rfl) (pa_cons (pv 7) (pa_cons (pv 5) (pa_cons (pv 6) pa_nil)))) (nomark _)))))
      (pss_one (ps_ret pe_bl))
      pss_nil)
    (pss_cons (ps_set (i := 8) scLawPointRight.nd rfl (.inl rfl) (pe_callTy (call_dictP rfl) (by rfl) T.dict (by decide +kernel) (pa_cons (pe_mm0 (pv 1) Wt.cl dFi hr (by decide)) pa_nil)))
    (pss_cons (ps_for PassesOwn.never rfl (pi_range3 (by rfl) T.range (pa_cons (pv 5) (pa_cons (pe_op op_add (pv 6) pe_int) (pa_cons (pe_op op_add pe_int (pe_op op_fdiv (pe_op op_sub (pv 6) (pv 5)) pe_int)) pa_nil)))) (pg_name (i := 9) scLawPointRight.nd rfl (.inl rfl))
      (pss_one (ps_if (pt_cmpR op_ne (pe_ix ix_tup (pe_mm (pv 0) Wh.cl dSw hr (by decide) (pa_cons (pv 2) (pa_cons (pv 9) pa_nil))) pe_int (fun _ _ => rfl)) (pe_dget1 hu (pv 8) (pv 9) ⟨rfl, rfl, rfl, rfl⟩) (nomark _))
        (pss_one (ps_ret pe_bl))
        pss_nil)))
    (pss_one (ps_ret pe_bl))))))), ?_⟩
  have tno : ∀ {m : Str} {w n z lo hi od hd : V}, m ∈ (["rows", "fine"] : List Str) → (tnf w n z lo hi od hd).lookup m = none := fun {m _ _ _ _ _ _ _} h => by
    simp only [List.mem_cons, List.not_mem_nil, or_false] at h
    rcases h with rfl | rfl <;> exact tnf_no ⟨by decide +kernel, by decide +kernel, by decide +kernel, by decide +kernel, by decide +kernel, by decide +kernel, by decide +kernel⟩
  have h12 : ∀ x ∈ ls, x.1.rs.length ≤ 12 := fun x hx => (good x hx).few
  have n40 : ∀ x ∈ ls, x.1.no ≤ 40 := fun x hx => (good x hx).n1
  have t12 : ∀ x ∈ tl, x.1.rs.length ≤ 12 := fun x hx => h12 x ((rel x).mp hx).1
  have eR : rowsN tl pt.nm = rowsL ls pt := rows_same he.nd ht.nd rel
  have gH : V45T.GoodH (histM (rowsL ls pt)) := goodH_of good few
  refine ⟨_, rfl, md, _, rfl, SqT.of emd, rfl, _, _, rfl, _, _, rfl, _, _, rfl, rfl, ?_⟩
  dsimp only [gName]
  obtain ⟨dx, vs, e1, _⟩ := he.ex
  obtain ⟨dxt, et⟩ := ht.ex
  refine ⟨_, rfl, h0, dx, _, rfl, e1, hef_no (by decide +kernel) (by decide +kernel) (by decide +kernel), _, rfl, h0, wa, hd, hl, ls, [], W, ps, pt, rfl, he, hw, hpt, h12, fun l ys H1 S1 nl el al => ?_⟩
  dsimp only [gName]
  have hL : LT V45T.f3 H1 l (histM (rowsL ls pt)) := ⟨ys, el, al⟩
  -- rows
  refine ⟨_, rfl, tr, dxt, _, rfl, S1 _ _ et, tno (by simp), tr, wa2, pt, m, hT, tl, rfl, ht.same S1, g, t12, fun l2 H2 S2 nl2 hl2 => ?_⟩
  refine ⟨_, rfl, _, rfl, _, rfl, _, rfl, l, histM (rowsL ls pt), m.z, m.lo, m.hi, true, rfl, hL.same S2, gH, ⟨g.z0, g.z1⟩, ⟨g.l0, g.l1⟩, ⟨g.h0, g.h1⟩, g.n, fun b H3 S3 nb hb => ?_⟩
  have ec : coarseT tl pt.nm m = coarseM m.z ((fineM (V45T.pr (if true = true then histM (rowsL ls pt) else V45T.goods (histM (rowsL ls pt)))) m.lo (m.hi + 1 - m.lo).toNat).map one) := by
    unfold coarseT fineT
    rw [eR, if_pos rfl]
  rw [← ec] at hb
  refine ne_rows D5 (fun _ _ => trivial) (hl2.same S3) hb ⟨_, rfl, iteF ?_⟩
  have S13 := S1.trans (S2.trans S3)
  refine ⟨_, rfl, tr, dxt, _, rfl, S13 _ _ et, tno (by simp), tr, wa2, pt, m, hT, tl, rfl, ht.same S13, g, t12, fun l3 H4 S4 nl3 hl3 => ?_⟩
  refine ⟨_, rfl, _, rfl, _, rfl, l, histM (rowsL ls pt), m.lo, m.hi, true, rfl, hL.same (S2.trans (S3.trans S4)), gH, ⟨g.l0, g.l1⟩, ⟨g.h0, g.h1⟩, g.n, fun b2 H5 S5 nb2 hb2 => ?_⟩
  have ef : fineT tl pt.nm m = fineM (V45T.pr (if true = true then histM (rowsL ls pt) else V45T.goods (histM (rowsL ls pt)))) m.lo (m.hi + 1 - m.lo).toNat := by
    unfold fineT
    rw [eR, if_pos rfl]
  rw [← ef] at hb2
  refine ne_rows D2 (fun _ _ => trivial) (hl3.same S5) hb2 ⟨_, rfl, iteF ?_⟩
  have S15 := S13.trans (S4.trans S5)
  -- what is known
  refine ⟨_, rfl, tr, dxt, _, rfl, S15 _ _ et, tno (by simp), tr, wa2, pt, m, hT, tl, rfl, ht.same S15, g, t12, fun l4 H6 S6 nl4 hl4 => ?_⟩
  obtain ⟨fv, efv, alf⟩ := hl4.ex
  obtain ⟨qs, rfl, prd⟩ := al_fn (K := K) alf
  refine ⟨l4, qs, _, rfl, SqL.of efv, prd, fun kn nkn => ?_⟩
  rw [merge_fn fineT_rise]
  have S7 := Same.laid (o := HO.dK (fnK (fineT tl pt.nm m))) nkn
  have ekn : upd H6 kn (.dK (fnK (fineT tl pt.nm m))) kn = some (.dK (fnK (fineT tl pt.nm m))) := upd_same
  generalize upd H6 kn (.dK (fnK (fineT tl pt.nm m))) = H7 at *
  have S17 := S15.trans (S6.trans S7)
  dsimp only [gName]
  -- tick by tick
  obtain ⟨n, rg, up⟩ := rgc_up (c := 1 + (m.hi - m.lo) / 40) g.l0 lohi (by have := g.h1; omega) (by have := Int.ediv_nonneg (show 0 ≤ m.hi - m.lo by omega) (show (0 : Int) ≤ 40 by decide); omega) (by have := Int.ediv_le_self 40 (show 0 ≤ m.hi - m.lo by omega); have := g.n; omega)
  refine ⟨_, rfl, _, rfl, m.hi, 1, rfl, rfl, _, rfl, _, rfl, m.hi, m.lo, rfl, rfl, _, 40, rfl, rfl, ⟨by decide, by decide⟩, 1, _, rfl, rfl, m.lo, m.hi + 1, 1 + (m.hi - m.lo) / 40, n, rfl, rg, ?_⟩
  refine for_it (walk_rangeC (lo := m.lo) (c := 1 + (m.hi - m.lo) / 40) (n := n)) (fun i σ X => (∃ v9 : Option V, σ = [some (.ref h0), some (.ref tr), some (.str pt.nm), some (.ref md), some (.int m.z), some (.int m.lo), some (.int m.hi), some (.ref l), some (.ref kn), v9]) ∧ Same H7 X) ⟨⟨_, rfl⟩, Same.refl _⟩ (fun _ _ _ _ _ => trivial) ?_ (fun σ X h => ?_)
  · rintro i v σ X0 X hi ⟨⟨v9, rfl⟩, SX⟩ ⟨rfl, rfl⟩
    have hup := up i hi
    have hlo : m.lo ≤ m.lo + (i : Int) * (1 + (m.hi - m.lo) / 40) := by
      have h1 := Int.ediv_nonneg (show 0 ≤ m.hi - m.lo by omega) (show (0 : Int) ≤ 40 by decide)
      have := Int.mul_nonneg (Int.natCast_nonneg i) (show 0 ≤ 1 + (m.hi - m.lo) / 40 by omega)
      omega
    dsimp only [gName]
    generalize m.lo + (i : Int) * (1 + (m.hi - m.lo) / 40) = t at *
    have S1X := S17.trans SX
    have g0 := g.l0
    have g1 := g.h1
    refine ⟨_, rfl, h0, dx, _, rfl, S1X _ _ e1, hef_no (by decide +kernel) (by decide +kernel) (by decide +kernel), _, rfl, _, rfl, h0, wa, hd, hl, ls, [], W, ps, pt, t, rfl, he.same S1X, hw.same S1X, hpt, ⟨by omega, by omega⟩, h12, n40, fun q X1 SX1 eq => ?_⟩
    obtain ⟨rest, er⟩ := showM_fst ls pt t
    rw [er] at eq
    refine ⟨q, _, 0, owV (rowAt (histM (rowsL ls pt)) t), rfl, rfl, SqT.of eq, (atI_nat (j := 0) rfl : atI _ ((0 : Nat) : Int) = _), ?_⟩
    have ekX := SX1 _ _ (SX _ _ ekn)
    refine ⟨_, rfl, kn, rfl, .inl ⟨_, .inl ekX⟩, _, rfl, _, .inl ⟨_, .inl t, .inl ekX, rfl, rfl⟩, ?_⟩
    obtain ⟨j, ej⟩ := Int.eq_ofNat_of_zero_le (show 0 ≤ t - m.lo by omega)
    have etj : t = m.lo + (j : Int) := by omega
    have ev : valV (fnK (fineT tl pt.nm m)) (.inl t) = ((rowAt (histM (rowsL ls pt)) t).map fun r => r.2.1).map V.int := by
      rw [etj]
      unfold fineT
      rw [eR, fine_at (by omega), last_row (hist_rise _)]
    rw [ev]
    have eo : (((rowAt (histM (rowsL ls pt)) t).map fun r => r.2.1).map V.int).getD .non = owV (rowAt (histM (rowsL ls pt)) t) := by
      cases rowAt (histM (rowsL ls pt)) t <;> rfl
    rw [eo]
    refine ⟨by cases rowAt (histM (rowsL ls pt)) t <;> rfl, _, rfl, ?_⟩
    rw [decide_eq_true rfl]
    exact iteF ⟨⟨_, rfl⟩, SX.trans SX1⟩
  obtain ⟨⟨v9, rfl⟩, SX⟩ := h
  exact k _ (S17.trans SX)
end
end V45

/-! != of two lists of a dict and of data each. -/
namespace Pw
open PySem PySem.Spec PyProof.Rows L2
section
open AutoSeq1 (wpAny_loadPart')
open MeetsSeq MeetsSeq2 MeetsSeq3 SeqRoads2 SeqAt
variable {prog : Program} {w : World}
/-- a plain list's object -/
abbrev lo (xs : Array Value) (n : Nat) (d : Option Addr) (sl : Array (Option Value)) : Obj := { cls := .type "list", dict := d, data := .seq xs n, slots := sl }
/-- what stands side by side is equal -/
abbrev Alike (prog : Program) (w : World) (A : Around) (s : Shared) (xs ys : Array Value) : Prop := ∀ j (h1 : j < xs.size) (h2 : j < ys.size), EqIn prog w A s xs[j] ys[j] true
theorem same_from (p q : Addr) {xs ys : Array Value} (n m : Nat) (dp dq : Option Addr) (sp sq : Array (Option Value)) (same : xs.size = ys.size) : ∀ rest pos : Nat, xs.size = pos + rest →
    MeetsIn prog w (Builtin.«list.__eq__.loop» ⟨[.ref p, .ref q, rawInt pos, rawInt 3], []⟩)
      (fun A R s => s.heap.get? p = some (lo xs n dp sp) ∧ s.heap.get? q = some (lo ys m dq sq) ∧ Alike prog w A.in1 s xs ys ∧ R (.ok (.ret (.bool false))) s)
  | 0, pos, total => by
    rintro A R ⟨hp, g, d, tk, os⟩ ⟨e1, e2, al, fin⟩
    wp_walk using wpAny_loadPart' e1, wpAny_loadPart' e2
    rw [show xs[((pos : Nat) : Int).toNat]? = none by simp; omega, show ys[((pos : Nat) : Int).toNat]? = none by simp; omega]
    wp_walk using wpAny_loadPart' e1, wpAny_loadPart' e2
    have no : (xs.size != ys.size) = false := by simp [same]
    show R (.ok (.ret (.bool (xs.size != ys.size)))) _
    rw [no]
    exact fin
  | rest + 1, pos, total => by
    rintro A R ⟨hp, g, d, tk, os⟩ ⟨e1, e2, al, fin⟩
    wp_walk using wpAny_loadPart' e1, wpAny_loadPart' e2
    have in1 : pos < xs.size := by omega
    have in2 : pos < ys.size := by omega
    rw [show xs[((pos : Nat) : Int).toNat]? = some xs[pos] by simp [in1], show ys[((pos : Nat) : Int).toNat]? = some ys[pos] by simp [in2]]
    refine wpAny_bind (al pos in1 in2 _ _ ?_)
    wp_walk
    rw [show ((pos : Int) + 1) = ((pos + 1 : Nat) : Int) by push_cast; rfl]
    refine ⟨plainId_quiet plain_eq_loop _, codeAny_builtin entry_eq_loop ?_⟩
    rw [Around.under_plainId plain_eq_loop _]
    exact same_from p q n m dp dq sp sq same rest (pos + 1) (by omega) A R _ ⟨e1, e2, al, fin⟩
theorem ne_same (p q : Addr) {xs ys : Array Value} (n m : Nat) (dp dq : Option Addr) (sp sq : Array (Option Value)) (same : xs.size = ys.size) :
    MeetsIn prog w (Builtin.«list.__ne__» ⟨[.ref p, .ref q], []⟩)
      (fun A R s => s.heap.get? p = some (lo xs n dp sp) ∧ s.heap.get? q = some (lo ys m dq sq) ∧ Alike prog w A.in1 s xs ys ∧ R (.ok (.ret (.bool false))) s) := by
  rintro A R ⟨hp, g, d, tk, os⟩ ⟨e1, e2, al, fin⟩
  have sub := AutoSeq1.sub_list_list
  have no : ¬ (xs.size != ys.size) = true := by simp [same]
  wp_walk using wpAny_loadPart' e1, wpAny_loadPart' e2
  refine ⟨plainId_quiet plain_eq_loop _, codeAny_builtin entry_eq_loop ?_⟩
  rw [Around.under_plainId plain_eq_loop _]
  exact same_from p q n m dp dq sp sq same xs.size 0 (by omega) A R _ ⟨e1, e2, al, fin⟩
theorem ne_lists {A : Around} {s : Shared} {E : Value → Shared → Prop} {Q : Value → Shared → Prop} {p q : Addr} {xs ys : Array Value} (h1 : s.heap.IsList p xs) (h2 : s.heap.IsList q ys) (same : xs.size = ys.size) (hu : A.units < cLine)
    (al : Alike prog w A.in1 s xs ys) (k : Q (.bool false) s) : wpAny (model prog w) A (compareOp .NotEq (.ref p) (.ref q)) Q E s := by
  obtain ⟨⟨c1, d1, o1, s1⟩, g1, z1, n1, y1⟩ := id h1
  obtain ⟨⟨c2, d2, o2, s2⟩, g2, z2, n2, y2⟩ := id h2
  simp only at z1 y1 z2 y2
  subst z1 y1 z2 y2
  refine wpAny_richCompare_same_room (T := "list") (op := .NotEq) ⟨_, g1, rfl⟩ ⟨_, g2, rfl⟩ F.slot_list_ne ?_ hu
  refine call_meetsIn F.slot_list_ne ⟨_, g1, rfl⟩ F.entry_list_ne (F.args_list_ne_2 _ _) (ne_same p q n1 n2 d1 d2 s1 s2 same) ⟨g1, g2, al, ?_⟩
  show Value.bool false ≠ Value.notImplemented ∧ Q (.bool false) s
  exact ⟨(fun x => nomatch x), k⟩
end
/-- dicts of the same data -/
def SameDK (K : PySem.W.Frag) (H : Hp) (a b : Addr) : Prop := ∃ ks ls, H a = some (.dK ks) ∧ H b = some (.dK ls) ∧ ks.length = ls.length ∧ ∀ p ∈ ks, ∃ u, valV ls p.1 = some u ∧ SameD K H p.2 u
theorem dict_eqIn {X : Cx} {pins : List (Addr × Obj)} {σ : L2.St} {H : Hp} {s : Shared} (I : Inv X pins σ H s) {A : Around} (hu : A.units + 65 < cLine) {a b : Addr} (h : SameDK X.K H a b) : SeqAt.EqIn X.prog X.w A s (.ref a) (.ref b) true := by
  obtain ⟨ks, ls, ea, eb, hlen, hp⟩ := h
  by_cases hne : a = b
  · subst hne
    exact (SeqAt.EqAt.same _).inModel _ _
  obtain ⟨_, ya, va, ra, da⟩ := (show ObjOk X.prog X.w H s.heap a (.dK ks) from I.hok a _ ea)
  obtain ⟨_, yb, vb, rb, db⟩ := (show ObjOk X.prog X.w H s.heap b (.dK ls) from I.hok b _ eb)
  have hl : va.length = vb.length := by rw [← ra.length, ← rb.length]; exact hlen
  refine SeqAt.EqIn.of_refs hne fun E Q hq => ?_
  exact PySem.W.keq_eq (knd := mixKind X.prog X.w) (r := true) ya yb da db (by omega) (fun _ => hits_data I hu rb ra hp) (by simpa [hl] using hq)
def rNeDL (K : PySem.W.Frag) : R2 := fun x y H Q => ∃ p q a b x2 y2, x = .ref p ∧ y = .ref q ∧ H p = some (.lst [.ref a, x2]) ∧ H q = some (.lst [.ref b, y2]) ∧ SameDK K H a b ∧ SameD K H x2 y2 ∧ Q (.bl false) H
theorem op_neDL {X : Cx} (hu : X.A.units + 67 < cLine) : OpR X (compareOp .NotEq) (rNeDL X.K) := by
  intro pins s σ H x y v u Q I rx ry h
  obtain ⟨p, q, a, b, x2, y2, rfl, rfl, ep, eq, hd, h2, k⟩ := h
  obtain rfl : v = Value.ref p := rx
  obtain rfl : u = Value.ref q := ry
  obtain ⟨its, rv, hl, _⟩ := I.list (SqL.of ep)
  obtain ⟨its', rv', hl', _⟩ := I.list (SqL.of eq)
  obtain ⟨u1, u2, rfl, r1, r2⟩ := vals2 rv
  obtain ⟨w1, w2, rfl, s1, s2⟩ := vals2 rv'
  obtain rfl : u1 = Value.ref a := r1
  obtain rfl : w1 = Value.ref b := s1
  have e1 : SeqAt.EqIn X.prog X.w X.A.in1 s (.ref a) (.ref b) true := dict_eqIn I (A := X.A.in1) (by show X.A.units + 1 + 65 < cLine; omega) hd
  obtain ⟨d, d1, d2, sh⟩ := h2
  obtain ⟨as, z1⟩ := Dp.reads I d x2 u2 d1 r2
  obtain ⟨bs, z2⟩ := Dp.reads I d y2 w2 d2 s2
  have e2 : SeqAt.EqAt X.A.in1 s u2 w2 (PyData.eqv d d) := PySem.W.keq_at z1 z2 sh sh (by show X.A.units + 1 + 64 < cLine; omega)
  rw [SeqAt.eqv_refl d (SeqAt.canLay_of_shaped sh)] at e2
  refine ne_lists hl.isList hl'.isList rfl (by omega) (fun j h1 h2 => ?_) ⟨.bl false, H, I, rfl, k⟩
  match j with
  | 0 => exact e1
  | 1 => exact e2.inModel _ _
  | n + 2 => exact absurd h1 (by show ¬ n + 2 < 2; omega)
end Pw

/-! a list != [], whatever it holds. -/
namespace Pw
open PySem PySem.Spec PyProof.Rows L2
def rNeE (K : PySem.W.Frag) : R2 := fun x y H Q => ∃ a b xs, x = .ref a ∧ y = .ref b ∧ SqL K H a xs ∧ SqL K H b [] ∧ Q (.bl (!xs.isEmpty)) H
theorem op_neE {X : Cx} (hu : X.A.units + 64 < cLine) : OpR X (compareOp .NotEq) (rNeE X.K) := by
  intro pins s σ H x y v u Q I rx ry h
  obtain ⟨a, b, xs, rfl, rfl, ha, hb, q⟩ := h
  cases rx
  cases ry
  obtain ⟨us, r1, p1, _⟩ := I.list ha
  obtain ⟨ws, r2, p2, _⟩ := I.list hb
  cases r2
  have hl := r1.length
  cases xs with
  | nil =>
    cases r1
    exact ne_lists p1.isList p2.isList rfl (by omega) (fun j h1 h2 => absurd h2 (by simp)) ⟨.bl false, H, I, rfl, q⟩
  | cons y ys =>
    have hsz : (us.toArray.size != (List.toArray ([] : List Value)).size) = true := by
      rw [List.size_toArray, ← hl]
      rfl
    exact SeqAt.RcNeAt.lists_lengths p1.isList p2.isList hsz (by omega) X.prog X.w X.xe _ ⟨.bl true, H, I, rfl, q⟩
end Pw

namespace V45
open PySem PySem.Spec PyProof.Rows L2 Pw
/-! ### works and hearings made; what stands while a hearing hears -/
section
variable {P : Program} {w : World} {K : PySem.W.Frag} {C D R d1 d2 d3 d4 : Addr}
abbrev spWo (K : PySem.W.Frag) (C : Addr) : Sp := spInitW K C fP Pt.nm fP Pt.nm (spNone K) (spNone2 K) (spNone K) (spNone K)
abbrev gW (d1 d2 d3 d4 : Addr) : List V → List V → List V := fun vs zs => vs ++ [V.ref d1, .ref d2, .ref d3, .ref d4] ++ zs
def W0 (xp : List V) (ps : List Pt) : Wks := ⟨xp, kvs Pt.nm ps xp, [], [], [], [], [], []⟩
theorem mkWo {T : VK} {X : Hp} {b x dx : Addr} {xp : List V} {ps : List Pt} (hd1 : ∀ H, SqT K H d1 []) (hd2 : ∀ H, SqT K H d2 []) (hd3 : ∀ H, SqT K H d3 []) (hd4 : ∀ H, SqT K H d4 []) (eb : X b = some (.lst xp)) (al : Al fP X xp ps) (g : GoodPs ps)
    (nx : X x = none) (ndx : X dx = none) (ne : dx ≠ x) (q : ∀ X', Same X X' → WoP K C X' x (W0 xp ps) ps → T .non X') : spWo K C (gW d1 d2 d3 d4 [.ref x, .ref b] []) (upd (upd X dx (.own x)) x (.ins C dx [])) T E0 := by
  have U1 := Same.laid (o := HO.own x) ndx
  have nx1 : upd X dx (.own x) x = none := (upd_ne ne.symm).trans nx
  have U2 := Same.laid (o := HO.ins C dx []) nx1
  have ex : upd (upd X dx (.own x)) x (.ins C dx []) x = some (.ins C dx []) := upd_same
  have S23 : Same X (upd (upd X dx (.own x)) x (.ins C dx [])) := U1.trans U2
  generalize upd (upd X dx (.own x)) x (.ins C dx []) = X3 at *
  have chk1 : ∀ {z : Addr} (h : ∀ H, SqT K H z []) {p : Addr} {H : Hp} {ks : List (Key × V)}, Chk p H (spNone K) z ks := by
    intro z h p H ks d H1 Q1 Fr e k
    exact ⟨_, .ref d, rfl, .inr (h _), k⟩
  refine ⟨x, b, d1, d2, d3, d4, dx, xp, [], [], [], [], ps, [], [], rfl, ex, .inl (SqL.of (S23 _ _ eb)), al.same S23, g, .inr (hd1 _), .nil, .nil, by decide, .inr (hd2 _), .inr (hd3 _), .nil, .nil, by decide, .inr (hd4 _),
    chk1 hd1, (fun d H1 Q1 Fr h k => ⟨d2, d, rfl, .inr (hd2 _), h, k⟩), chk1 hd3, chk1 hd4, fun X4 hwo F4 => ?_⟩
  have S : Same X X4 := fun q o e => F4 q o (ne_of_none e nx) (S23 _ _ e)
  exact q X4 S ⟨hwo, rfl, al.same S, g⟩
end
section
variable {K : PySem.W.Frag} {C D x : Addr} {XA : Hp} {Wk : Wks} {ps : List Pt}
/-- a new hearing -/
theorem mkHe {R : VK} {pW dx : Addr} (hW : WoP K C XA x Wk ps) (n1 : XA pW = none) (n2 : XA dx = none) (ne : dx ≠ pW) (q : ∀ hd hl X', XA hd = none → XA hl = none → Same XA X' → HeAt D X' pW x hd hl [] [] → R .non X') :
    spHeInit C D K [.ref pW, .ref x] (upd (upd XA dx (.own pW)) pW (.ins D dx [])) R E0 := by
  have U1 := Same.laid (o := HO.own pW) n2
  have n1' : upd XA dx (.own pW) pW = none := (upd_ne ne.symm).trans n1
  have U2 := Same.laid (o := HO.ins D dx []) n1'
  exact ⟨pW, dx, x, Wk, ps, rfl, upd_same, hW.same (U1.trans U2), fun hd hl X' he keep m1 m2 => q hd hl X' (Same.no (U1.trans U2) m1) (Same.no (U1.trans U2) m2) (fun b o e => keep b o (ne_of_none e n1) ((U1.trans U2) b o e)) he⟩
end
section
variable {K : PySem.W.Frag} {H : Hp} {p a : Addr} {n : Nat} {C : Addr}
theorem sqT_woT {xs : List V} (h : SqT K H a xs) {us : TK} (eb : H p = some (.dT us)) : SqT K (Pw.wo H p) a xs := by
  refine h.imp (fun r => ?_) id
  rcases r with e | ⟨o, e⟩
  · exact .inl (wo_of (fun z => by rw [z, eb] at e; cases e) e)
  · exact .inr ⟨o, wo_of (fun z => by rw [z, eb] at e; cases e) e⟩
theorem WoP_offT {x : Addr} {W : Wks} {ps : List Pt} (h : WoP K C H x W ps) {us : TK} (eb : H p = some (.dT us)) : WoP K C (Pw.wo H p) x W ps := by
  have dk : ∀ {d : Addr} {kvs : List (Key × V)}, H d = some (.dK kvs) → Pw.wo H p d = some (.dK kvs) := fun e => wo_of (fun z => by rw [z, eb] at e; cases e) e
  obtain ⟨dx, tp, dp, tr, dr, tc, tm, dm, tl, e0, e1, e2, e3, e4, e5, e6, e7, e8⟩ := h.wo.ex
  exact ⟨⟨dx, tp, dp, tr, dr, tc, tm, dm, tl, wo_of (fun z => by rw [z, eb] at e0; cases e0) e0, sqT_woT e1 eb, dk e2, sqT_woT e3 eb, dk e4, sqT_woT e5 eb, sqT_woT e6 eb, dk e7, sqT_woT e8 eb⟩, h.ks, h.al.imp fun q xs eq => wo_of (fun z => by rw [z, eb] at eq; cases eq) eq, h.g⟩
theorem WoP.butT {x : Addr} {W : Wks} {ps : List Pt} {H' : Hp} {us : TK} (h : WoP K C H x W ps) (eb : H p = some (.dT us)) (B : But p H H') : WoP K C H' x W ps := ((WoP_offT h eb).same B).same wo_same
theorem WoP.butM {x : Addr} {W : Wks} {ps : List Pt} {H' : Hp} {us : List V} (h : WoP K C H x W ps) (eb : H p = some (.lst us)) (B : But p H H') : WoP K C H' x W ps := ((WoP_offL h eb).same B).same wo_same
end
theorem nodup_map {α β : Type} {f : α → β} : ∀ {l : List α}, (l.map f).Nodup → l.Nodup
  | [], _ => List.nodup_nil
  | x :: l, h => by
    obtain ⟨h1, h2⟩ := List.nodup_cons.mp (show (f x :: l.map f).Nodup from h)
    exact List.nodup_cons.mpr ⟨fun m => h1 (List.mem_map.mpr ⟨x, m, rfl⟩), nodup_map h2⟩
theorem al_butT {α : Type} {f : α → List V} {H H' : Hp} {d : Addr} {xs : TK} {vs : List V} {rs : List α} (h : Al f H vs rs) (e : H d = some (.dT xs)) (B : But d H H') : Al f H' vs rs :=
  h.imp fun a ys ea => B.at (fun z => by rw [z, e] at ea; cases ea) ea

theorem TrAt.butL {E : Addr} {H H' : Hp} {r wa : Addr} {pt : Pt} {m : Md} {hd L : Addr} {ls : List LA} {us : List V} (h : TrAt E H r wa pt m hd ls) (e : H L = some (.lst us)) (B : But L H H') : TrAt E H' r wa pt m hd ls := by
  obtain ⟨dx, e1⟩ := h.ex
  exact ⟨⟨dx, B.at (fun z => by rw [z, e] at e1; cases e1) e1⟩, B.at (fun z => by have := h.d; rw [z, e] at this; cases this) h.d, fun x hx => (h.at_ x hx).butL e B, h.nd, h.few⟩
theorem TrAt.butT {E : Addr} {H H' : Hp} {r wa : Addr} {pt : Pt} {m : Md} {hd L : Addr} {ls : List LA} {us : TK} (h : TrAt E H r wa pt m hd ls) (e : H L = some (.dT us)) (B : But L H H') : TrAt E H' r wa pt m hd ls := by
  obtain ⟨dx, e1⟩ := h.ex
  exact ⟨⟨dx, B.at (fun z => by rw [z, e] at e1; cases e1) e1⟩, B.at (fun z => by have := h.d; rw [z, e] at this; cases this) h.d, fun x hx => (h.at_ x hx).but e B, h.nd, h.few⟩
theorem LtAt.butK {H H' : Hp} {q d : Addr} {L : Lt} {us : List (Key × V)} (h : LtAt H q L) (e : H d = some (.dK us)) (B : But d H H') : LtAt H' q L :=
  let ⟨rt, vs, a1, a2, a3⟩ := h
  ⟨rt, vs, B.at (fun z => by rw [z, e] at a1; cases a1) a1, B.at (fun z => by rw [z, e] at a2; cases a2) a2, a3.imp fun q xs eq => B.at (fun z => by rw [z, e] at eq; cases eq) eq⟩
theorem TrAt.butK {E : Addr} {H H' : Hp} {r wa : Addr} {pt : Pt} {m : Md} {hd L : Addr} {ls : List LA} {us : List (Key × V)} (h : TrAt E H r wa pt m hd ls) (e : H L = some (.dK us)) (n : hd ≠ L) (B : But L H H') : TrAt E H' r wa pt m hd ls := by
  obtain ⟨dx, e1⟩ := h.ex
  exact ⟨⟨dx, B.at (fun z => by rw [z, e] at e1; cases e1) e1⟩, B.at n h.d, fun x hx => (h.at_ x hx).butK e B, h.nd, h.few⟩
theorem TrAt.woL {E : Addr} {H : Hp} {r wa : Addr} {pt : Pt} {m : Md} {hd L : Addr} {ls : List LA} {us : List V} (h : TrAt E H r wa pt m hd ls) (e : H L = some (.lst us)) : TrAt E (Pw.wo H L) r wa pt m hd ls := by
  obtain ⟨dx, e1⟩ := h.ex
  have k : ∀ {c : Addr} {o : HO}, H c = some o → (∀ l, o ≠ .lst l) → Pw.wo H L c = some o := fun ec h => wo_of (fun z => by rw [z, e] at ec; exact h _ (Option.some.inj ec).symm) ec
  refine ⟨⟨dx, k e1 fun l z => by cases z⟩, k h.d (fun l z => by cases z), fun x hx => ?_, h.nd, h.few⟩
  obtain ⟨rt, us, a1, a2, a3⟩ := h.at_ x hx
  exact ⟨rt, us, k a1 (fun l z => by cases z), k a2 (fun l z => by cases z), a3.imp fun q xs eq => k eq fun l z => by cases z⟩
theorem HeAt.butK {D : Addr} {H H' : Hp} {p wa hd hl d : Addr} {ls : List LA} {hs : List Hd} {us : List (Key × V)} (he : HeAt D H p wa hd hl ls hs) (e : H d = some (.dK us)) (B : But d H H') : HeAt D H' p wa hd hl ls hs := by
  obtain ⟨dx, vs, e1, e2, e3, al⟩ := he.ex
  exact ⟨⟨dx, vs, B.at (fun z => by rw [z, e] at e1; cases e1) e1, B.at (fun z => by rw [z, e] at e2; cases e2) e2, B.at (fun z => by rw [z, e] at e3; cases e3) e3, al.imp fun q xs eq => B.at (fun z => by rw [z, e] at eq; cases eq) eq⟩, fun x hx => (he.at_ x hx).butK e B, he.nd, he.few, he.fewH⟩
/-- a trend, as the law has it -/
structure Tn where
  pt : Pt
  r : Addr
  hd : Addr
def fTn (t : Tn) : List V := [.str t.pt.nm, .ref t.r]
/-- trends, each of which has heard what the hearing had heard: g j tells how much -/
structure Tds (E : Addr) (Z : Hp) (x : Addr) (m : Md) (trs : List Tn) (g : Nat → List LA) : Prop where
  at_ : ∀ (j : Nat) (t : Tn), trs[j]? = some t → ∃ tl, TrAt E Z t.r x t.pt m t.hd tl ∧ ∀ z, z ∈ tl ↔ z ∈ g j ∧ z.1.pl = t.pt.pl
section
variable {E x : Addr} {Z Z' : Hp} {m : Md} {trs : List Tn} {g : Nat → List LA}
theorem Tds.same (h : Tds E Z x m trs g) (S : Same Z Z') : Tds E Z' x m trs g := ⟨fun j t e => let ⟨tl, a, b⟩ := h.at_ j t e; ⟨tl, a.same S, b⟩⟩
theorem Tds.butL {p : Addr} {us : List V} (h : Tds E Z x m trs g) (e : Z p = some (.lst us)) (B : But p Z Z') : Tds E Z' x m trs g := ⟨fun j t ej => let ⟨tl, a, b⟩ := h.at_ j t ej; ⟨tl, a.butL e B, b⟩⟩
theorem Tds.butT {p : Addr} {us : TK} (h : Tds E Z x m trs g) (e : Z p = some (.dT us)) (B : But p Z Z') : Tds E Z' x m trs g := ⟨fun j t ej => let ⟨tl, a, b⟩ := h.at_ j t ej; ⟨tl, a.butT e B, b⟩⟩
end
theorem cut_from (xs : List V) (i : Nat) : cutV xs (some (i : Int)) none = xs.drop i := by
  unfold cutV
  rw [HT.sIx_none, HT.sIx_nat]
  by_cases h : i ≤ xs.length
  · rw [Nat.min_eq_left h, List.take_of_length_le (by rw [List.length_drop]; exact Nat.le_refl _)]
  · rw [Nat.min_eq_right (by omega), List.drop_length, List.drop_of_length_le (by omega), List.take_nil]
section
variable {K : PySem.W.Frag} {C E : Addr}
theorem mkTr {T : VK} {X : Hp} {x r dx : Addr} {pt : Pt} {m : Md} {W : Wks} {ps : List Pt} (hw : WoP K C X x W ps) (hpt : pt ∈ ps) (g : m.Ok) (nr : X r = none) (ndx : X dx = none) (ne : dx ≠ r)
    (q : ∀ hd X', TrAt E X' r x pt m hd [] → Same X X' → X hd = none → T .non X') : spTrInit C E K [.ref r, .ref x, .str pt.nm, .int m.z, .int m.lo, .int m.hi, .bl true] (upd (upd X dx (.own r)) r (.ins E dx [])) T E0 := by
  have U1 := Same.laid (o := HO.own r) ndx
  have nr1 : upd X dx (.own r) r = none := (upd_ne ne.symm).trans nr
  have U2 := Same.laid (o := HO.ins E dx []) nr1
  have S : Same X (upd (upd X dx (.own r)) r (.ins E dx [])) := U1.trans U2
  have er : upd (upd X dx (.own r)) r (.ins E dx []) r = some (.ins E dx []) := upd_same
  generalize upd (upd X dx (.own r)) r (.ins E dx []) = X3 at *
  exact ⟨r, dx, x, W, ps, pt, m, rfl, er, hw.same S, hpt, g, fun hd X' tr F n1 => q hd X' tr (fun b o e => F b o (ne_of_none e nr) (S _ _ e)) (Same.no S n1)⟩
end
end V45

namespace V45
open PySem PySem.Spec PyProof.Rows L2 Pw
/-! ### what stands while the law's order is heard -/
theorem but_past {p d : Addr} {X Y Z : Hp} (B : But p X Y) (n : X d = none) (B2 : But d Y Z) : But p X Z := But.of fun b o hb e => B2.at (ne_of_none e n) (B.at hb e)
structure Ns (X4 Z : Hp) (p md O TL : Addr) (m : Md) (F : List LA) (order acc : List V) (trs : List Tn) : Prop where
  b4 : But p X4 Z
  lts : ∀ z ∈ F, LtAt Z z.2 z.1
  em : Z md = some (.tup [.int m.z, .int m.lo, .int m.hi])
  eO : Z O = some (.lst order)
  eT : Z TL = some (.lst acc)
  al : Al fTn Z acc trs
section
variable {X4 Z Z' : Hp} {p md O TL d : Addr} {m : Md} {F : List LA} {order acc : List V} {trs : List Tn}
theorem Ns.same (h : Ns X4 Z p md O TL m F order acc trs) (S : Same Z Z') : Ns X4 Z' p md O TL m F order acc trs :=
  ⟨h.b4.trans (Same.but S), fun z hz => (h.lts z hz).same S, S _ _ h.em, S _ _ h.eO, S _ _ h.eT, h.al.same S⟩
theorem Ns.moveT {us : TK} (h : Ns X4 Z p md O TL m F order acc trs) (n : X4 d = none) (e : Z d = some (.dT us)) (B : But d Z Z') : Ns X4 Z' p md O TL m F order acc trs :=
  ⟨but_past h.b4 n B, fun z hz => (h.lts z hz).but e B, B.at (fun z => by have := h.em; rw [z, e] at this; cases this) h.em, B.at (fun z => by have := h.eO; rw [z, e] at this; cases this) h.eO,
    B.at (fun z => by have := h.eT; rw [z, e] at this; cases this) h.eT, al_butT h.al e B⟩
theorem Ns.moveK {us : List (Key × V)} (h : Ns X4 Z p md O TL m F order acc trs) (n : X4 d = none) (e : Z d = some (.dK us)) (B : But d Z Z') : Ns X4 Z' p md O TL m F order acc trs :=
  ⟨but_past h.b4 n B, fun z hz => (h.lts z hz).butK e B, B.at (fun z => by have := h.em; rw [z, e] at this; cases this) h.em, B.at (fun z => by have := h.eO; rw [z, e] at this; cases this) h.eO,
    B.at (fun z => by have := h.eT; rw [z, e] at this; cases this) h.eT, h.al.imp fun q xs eq => B.at (fun z => by rw [z, e] at eq; cases eq) eq⟩
end
theorem key_eq {F : List LA} {y y' : LA} (nd : (F.map ky).Nodup) (h : y ∈ F) (h' : y' ∈ F) (e : ky y' = ky y) : y' = y := by
  have h1 := lkK_mem nd h'
  have h2 := lkK_mem nd h
  rw [e, h2] at h1
  exact (Option.some.inj h1).symm
section
variable {pt : Pt} {tl l1 l2 F : List LA} {y : LA}
theorem had_it (nd : (F.map ky).Nodup) (sub : ∀ z ∈ l1, z ∈ F) (hy : y ∈ F) (rel : ∀ z, z ∈ tl ↔ z ∈ l1 ∧ z.1.pl = pt.pl) (e : y.1.pl = pt.pl) (hn : y.1.no ∈ tl.map noF) : y ∈ tl := by
  obtain ⟨y', hy', ey⟩ := List.mem_map.mp hn
  have r := (rel y').mp hy'
  have : y' = y := key_eq nd hy (sub y' r.1) (Prod.ext (r.2.trans e.symm) ey)
  exact this ▸ hy'
theorem hearN_rel (nd : (F.map ky).Nodup) (sub : ∀ z ∈ l1, z ∈ F) (hy : y ∈ F) (rel : ∀ z, z ∈ tl ↔ z ∈ l1 ∧ z.1.pl = pt.pl) (hr : ∀ z, z ∈ l2 ↔ z ∈ l1 ∨ z = y) : ∀ z, z ∈ hearN pt tl y ↔ z ∈ l2 ∧ z.1.pl = pt.pl := by
  intro z
  unfold hearN
  rw [hr z]
  by_cases c : y.1.pl = pt.pl ∧ y.1.no ∉ tl.map noF
  · rw [if_pos c, List.mem_append, List.mem_singleton, rel z]
    constructor
    · rintro (⟨a, b⟩ | rfl)
      · exact ⟨.inl a, b⟩
      · exact ⟨.inr rfl, c.1⟩
    · rintro ⟨a | a, b⟩
      · exact .inl ⟨a, b⟩
      · exact .inr a
  · rw [if_neg c, rel z]
    constructor
    · rintro ⟨a, b⟩
      exact ⟨.inl a, b⟩
    · rintro ⟨a | rfl, b⟩
      · exact ⟨a, b⟩
      · by_cases hn : z.1.no ∈ tl.map noF
        · exact (rel z).mp (had_it nd sub hy rel b hn)
        · exact absurd ⟨b, hn⟩ c
end
section
variable {E x : Addr} {Z Z' : Hp} {m : Md} {trs : List Tn} {l1 l2 tl' F : List LA}
theorem Tds.hear {k : Nat} {t : Tn} (h : Tds E Z x m trs fun j => if j < k then l2 else l1) (ek : trs[k]? = some t) (nd : (trs.map Tn.hd).Nodup) (B : But t.hd Z Z') (tr' : TrAt E Z' t.r x t.pt m t.hd tl')
    (rel' : ∀ z, z ∈ tl' ↔ z ∈ l2 ∧ z.1.pl = t.pt.pl) : Tds E Z' x m trs fun j => if j < k + 1 then l2 else l1 := by
  refine ⟨fun j t' ej => ?_⟩
  by_cases hj : j = k
  · subst hj
    rw [ek] at ej
    cases ej
    refine ⟨tl', tr', ?_⟩
    rw [if_pos (Nat.lt_succ_self _)]
    exact rel'
  · obtain ⟨tl, a, b⟩ := h.at_ j t' ej
    obtain ⟨tk, ak, _⟩ := h.at_ k t ek
    refine ⟨tl, a.butK ak.d (fun z => hj ?_) B, ?_⟩
    · have e1 : (trs.map Tn.hd)[j]? = some t.hd := by rw [List.getElem?_map, ej]; exact congrArg some z
      have e2 : (trs.map Tn.hd)[k]? = some t.hd := by rw [List.getElem?_map, ek]; rfl
      exact (List.getElem?_inj (List.getElem?_eq_some_iff.mp e1).1 nd).mp (e1.trans e2.symm)
    · have e : (if j < k + 1 then l2 else l1) = (if j < k then l2 else l1) := by
        by_cases h1 : j < k
        · rw [if_pos h1, if_pos (by omega)]
        · rw [if_neg h1, if_neg (by omega)]
      rw [e]
      exact b
theorem Tds.of {g g' : Nat → List LA} (h : Tds E Z x m trs g) (e : ∀ j, j < trs.length → g' j = g j) : Tds E Z x m trs g' :=
  ⟨fun j t ej => by
    obtain ⟨tl, a, b⟩ := h.at_ j t ej
    refine ⟨tl, a, ?_⟩
    rw [e j (List.getElem?_eq_some_iff.mp ej).1]
    exact b⟩
theorem TrAt.few7 {t : Tn} {tl : List LA} (a : TrAt E Z t.r x t.pt m t.hd tl) (rel : ∀ z, z ∈ tl ↔ z ∈ l1 ∧ z.1.pl = t.pt.pl) (sub : ∀ z ∈ l1, z ∈ F) (h7 : F.length ≤ 7) : tl.length ≤ 7 :=
  Nat.le_trans (List.Nodup.length_le_of_subset (nodup_map a.nd) fun z hz => sub z ((rel z).mp hz).1) h7
end
end V45

set_option maxHeartbeats 16000000
namespace V45
open PySem PySem.Spec PyProof.Rows L2 Pw Tr
abbrev gTr : List V → List V → List V := fun vs zs => vs ++ [V.bl true] ++ zs
section
variable {P : Program} {w : World} {K : PySem.W.Frag} {mg : Str → Option Value} {base : Heap} {C D E d1 d2 d3 d4 : Addr}
def spLaw (K : PySem.W.Frag) : Sp := fun vs H Q _ => ∃ (a : Addr) (ns : List Int), vs = [.ref a] ∧ SqL K H a (ns.map V.int) ∧ ns.length ≤ 63 ∧ ∀ H', Q (.bl true) H'
theorem ok_law {f : Addr} {fd : FuncData} (F0 : Fun K "law" "law" sLaw f fd) (T : Txt mg) (Wc : WoC K C) (Wh : HeC K D) (Wt : TrC K E)
    (dWo : MadeK P w K mg base "Works" C 14 ["self", "points", "rules", "causes", "commands", "relations"] 1 [] (gW d1 d2 d3 d4) (spWo K C))
    (hd1 : ∀ H, SqT K H d1 []) (hd2 : ∀ H, SqT K H d2 []) (hd3 : ∀ H, SqT K H d3 []) (hd4 : ∀ H, SqT K H d4 [])
    (dTr : MadeK P w K mg base "Trend" E 7 ["self", "works", "point", "size", "since", "till", "odd"] 5 [] gTr (spTrInit C E K))
    (dCell : Def P w K mg base "_law_cell" 1 ["_law_script", "_law_k"] (spCell K)) (dBox : Def P w K mg base "_law_box" 1 ["_law_cell_here"] (spBox K))
    (dt : Def P w K mg base "_law_take" 1 ["_law_box_here", "_law_many"] (spTake K)) (dN : Def P w K mg base "_law_names" 2 ["_law_box_here", "_law_many"] (spNames K))
    (dP : Def P w K mg base "_law_points" 2 ["_law_box_here", "_law_names_here"] (spPtsL K)) (dLt : Def P w K mg base "_law_letters" 3 ["_law_box_here", "_law_points_here"] (spLettersL K))
    (dI : DefI P w K mg base "Hearing" D 3 ["self", "works"] (spHeInit C D K))
    (dHe : DefM P w K mg base D "hear" 10 ["self", "letter"] (spHear2 C D K)) (dHt : DefM P w K mg base E "hear" 10 ["self", "letter"] (spHearT C E K))
    (dPR : Def P w K mg base "_law_point_right" 9 ["_law_hearing", "_law_trend", "_law_point", "_law_made"] (spPtR C D E K)) :
    FnG P w K mg base CX0 16 f fd ["_law_script"] (spLaw K) := by
  refine okG F0 scLaw (fun vs H Q E ⟨_, _, e, _⟩ => by rw [e]; rfl) (fun cdv A0 out s H vs Q EX gd hr h => ?_)
  obtain ⟨a, ns, rfl, hS, hlen, k⟩ := h
  have hu : (A0.deeper (envOfC "law" (defScope sLaw) s.heap.objs.size f cdv)).units + 1 < cLine := hu_of hr
  refine ⟨_, (pss_cons (ps_for PassesOwn.never rfl (pi_range1 (by rfl) T.range (pa_cons (pe_callB (call_max2 rfl) (by rfl) T.max PyProof.Rows.boot_max (pa_cons pe_int (pa_cons (pe_callB (call_min2 rfl) (by rfl) T.min PyProof.Rows.boot_min (pa_cons (pe_callB call_len_seq (by rfl) T.len PySem.boot_len (pa_cons (pv 0) pa_nil)) (pa_cons pe_int pa_nil))) pa_nil))) pa_nil)) (pg_name (i := 1) scLaw.nd rfl (.inl rfl))
      (pss_cons (ps_set (i := 2) scLaw.nd rfl (.inl rfl) (pe_d dBox hr (by decide) (by rfl) (pa_cons (pe_d dCell hr (by decide) (by rfl) (pa_cons (pv 0) (pa_cons (pv 1) pa_nil))) pa_nil)))
      (pss_cons (ps_set (i := 3) scLaw.nd rfl (.inl rfl) (pe_d dP hr (by decide) (by rfl) (pa_cons (pv 2) (pa_cons (pe_d dN hr (by decide) (by rfl) (pa_cons (pv 2) (pa_cons pe_int pa_nil))) pa_nil))))
      (pss_cons (ps_set (i := 4) scLaw.nd rfl (.inr rfl) (pe_mk dWo hr (by decide) (by rfl) (pa_cons (pv 3) pa_nil) pk_nil))
      (pss_cons (ps_set (i := 5) scLaw.nd rfl (.inl rfl) (pe_d dLt hr (by decide) (by rfl) (pa_cons (pv 2) (pa_cons (pv 3) pa_nil))))
      (pss_cons (ps_set (i := 6) scLaw.nd rfl (.inl rfl) (pe_d dt hr (by decide) (by rfl) (pa_cons (pv 2) (pa_cons pe_int pa_nil))))
      (pss_cons (ps_asg (pe_ix ix_list (pe_lst (pa_cons (pe_tup (pa_cons pe_int (pa_cons pe_int (pa_cons pe_int pa_nil)))) (pa_cons (pe_tup (pa_cons pe_int (pa_cons pe_int (pa_cons pe_int pa_nil)))) (pa_cons (pe_tup (pa_cons pe_int (pa_cons pe_int (pa_cons pe_int pa_nil)))) pa_nil)))) (pe_d dt hr (by decide) (by rfl) (pa_cons (pv 2) (pa_cons pe_int pa_nil))) (fun _ _ => rfl)) (pg_tup (by rfl) (pgs_cons (pg_name (i := 7) scLaw.nd rfl (.inl rfl)) (pgs_cons (pg_name (i := 8) scLaw.nd rfl (.inl rfl)) (pgs_cons (pg_name (i := 9) scLaw.nd rfl (.inl rfl)) pgs_nil)))))
      (pss_cons (ps_set (i := 10) scLaw.nd rfl (.inr rfl) (pe_tup (pa_cons (pe_op op_add (pv 7) (pe_d dt hr (by decide) (by rfl) (pa_cons (pv 2) (pa_cons (pv 8) pa_nil)))) (pa_cons (pv 6) (pa_cons (pe_op op_add (pv 6) (pe_d dt hr (by decide) (by rfl) (pa_cons (pv 2) (pa_cons (pv 9) pa_nil)))) pa_nil)))))
      (pss_cons (ps_set (i := 11) scLaw.nd rfl (.inl rfl) (pe_mi dI hr (by decide) (by rfl) (pa_cons (pv 4) pa_nil)))
      (pss_cons (ps_setLc (i := 12) (own := [("_law_name", 16), ("_law_place", 18), ("_law_kind", 19)]) (g := (gTup K 3 (gCons (gName 16) (gCons (gName 18) (gCons (gName 19) gNil))))) (tt := tYes) rfl scLaw.nd rfl rfl (sw_true rfl rfl rfl (by decide +kernel)) (pi_sq (pv 3))
        (blkOk_by (own := [("_law_name", 16), ("_law_place", 18), ("_law_kind", 19)]) (N := ["_law_script", "_law_k", "_law_box_here", "_law_points_here", "_law_works", "_law_letters_here", "_law_since", "_law_least", "_law_many", "_law_ticks", "_law_made", "_law_hearing", "_law_trends", "_law_turn", "_law_order", "_law_letter", "_law_name", "_law_trend", "_law_place", "_law_kind"]) (sc := defScope sLaw) (by decide +kernel))
        (fun _ _ _ _ _ => (pg_tup (by rfl) (pgs_cons (pg_name (i := 16) scLaw.nd rfl (.inl rfl)) (pgs_cons (pg_name (i := 18) scLaw.nd rfl (.inl rfl)) (pgs_cons (pg_name (i := 19) scLaw.nd rfl (.inl rfl)) pgs_nil))))) (fun _ _ _ _ _ => pts_nil)
        (fun _ _ _ _ _ => (pe_tup (pa_cons (pv 16) (pa_cons (pe_mk dTr hr (by decide) (by rfl) (pa_cons (pv 4) (pa_cons (pv 16) (pa_cons (pe_ix (r := rIxT K) ix_tup (pv 10) pe_int (fun _ _ => rfl)) (pa_cons (pe_ix (r := rIxT K) ix_tup (pv 10) pe_int (fun _ _ => rfl)) (pa_cons (pe_ix (r := rIxT K) ix_tup (pv 10) pe_int (fun _ _ => rfl)) pa_nil))))) pk_nil) pa_nil)))))
      (pss_cons (ps_set (i := 13) scLaw.nd rfl (.inl rfl) (pe_d dt hr (by decide) (by rfl) (pa_cons (pv 2) (pa_cons (pe_callB call_len_seq (by rfl) T.len PySem.boot_len (pa_cons (pv 5) pa_nil)) pa_nil))))
      (pss_cons (ps_set (i := 14) scLaw.nd rfl (.inl rfl) (pe_sliceP (pe_op op_cat (pe_slice sl_list (pv 5) (po_some (pv 13)) po_none) (pe_slice sl_list (pv 5) po_none (po_some (pv 13)))) (pe_ix ix_list (pe_lst (pa_cons pe_int (pa_cons (pe_un un_neg pe_int) pa_nil))) (pe_d dt hr (by decide) (by rfl) (pa_cons (pv 2) (pa_cons pe_int pa_nil))) (fun _ _ => rfl))))
      (pss_cons (ps_expr (pe_bm PySem.F.plainAttrs_list PySem.F.slot_list_insert PySem.F.type_list_insert mt_insert (pv 14) (pa_cons (pe_d dt hr (by decide) (by rfl) (pa_cons (pv 2) (pa_cons (pe_op op_add (pe_callB call_len_seq (by rfl) T.len PySem.boot_len (pa_cons (pv 14) pa_nil)) pe_int) pa_nil))) (pa_cons (pe_ix ix_list (pv 14) pe_int (fun _ _ => rfl)) pa_nil))))
      (pss_one (ps_for PassesOwn.never rfl (pi_list (pv 14)) (pg_name (i := 15) scLaw.nd rfl (.inl rfl))
        (pss_cons (ps_expr (pe_mm (pv 11) Wh.cl dHe hr (by decide) (pa_cons (pv 15) pa_nil)))
        (pss_one (ps_for PassesOwn.never rfl (pi_list (pv 12)) (pg_tup (by rfl) (pgs_cons (pg_name (i := 16) scLaw.nd rfl (.inl rfl)) (pgs_cons (pg_name (i := 17) scLaw.nd rfl (.inl rfl)) pgs_nil)))
          (pss_cons (ps_expr (pe_mm (pv 17) Wt.cl dHt hr (by decide) (pa_cons (pv 15) pa_nil)))
          (pss_one (ps_if (pt_not (pt_val (pe_d dPR hr (by decide) (by rfl) (pa_cons (pv 11) (pa_cons (pv 17) (pa_cons (pv 16) (pa_cons (pv 10) pa_nil)))))))
            (pss_one (ps_ret pe_bl))
            pss_nil)))))))))))))))))))))
    (pss_one (ps_ret pe_bl))), ?_⟩
  refine ⟨_, rfl, a, _, rfl, .inl hS, _, 3, rfl, 1, _, rfl, ?_⟩
  rw [List.length_map]
  obtain ⟨mm, em, hm⟩ : ∃ mm : Nat, (if (1 : Int) < (if (3 : Int) < (ns.length : Int) then 3 else (ns.length : Int)) then (if (3 : Int) < (ns.length : Int) then 3 else (ns.length : Int)) else 1) = (mm : Int) ∧ mm ≤ 3 := by
    by_cases h1 : (3 : Int) < (ns.length : Int)
    · exact ⟨3, by rw [if_pos h1]; rfl, by omega⟩
    · rw [if_neg h1]
      by_cases h2 : (1 : Int) < (ns.length : Int)
      · exact ⟨ns.length, by rw [if_pos h2], by omega⟩
      · exact ⟨1, by rw [if_neg h2]; rfl, by omega⟩
  rw [em]
  refine ⟨(mm : Int), rfl, by omega, by omega, ?_⟩
  refine for_it (walk_range (lo := 0) (n := mm)) (fun i σ X => (∃ v1 v2 v3 v4 v5 v6 v7 v8 v9 v10 v11 v12 v13 v14 v15 v16 v17 : Option V, σ = [some (.ref a), v1, v2, v3, v4, v5, v6, v7, v8, v9, v10, v11, v12, v13, v14, v15, v16, v17, none, none]) ∧ Same H X) ⟨⟨_, _, _, _, _, _, _, _, _, _, _, _, _, _, _, _, _, rfl⟩, Same.refl _⟩
    (fun _ _ _ _ _ => trivial) ?_ (fun σ X h => k X)
  rintro i v σ X0 X hi ⟨⟨v1, v2, v3, v4, v5, v6, v7, v8, v9, v10, v11, v12, v13, v14, v15, v16, v17, rfl⟩, SX⟩ ⟨rfl, rfl⟩
  dsimp only [gName]
  -- the box, the points, the works
  refine ⟨_, rfl, _, rfl, a, ns, 0 + (i : Int), rfl, Same.seq SX hS, hlen, by omega, by omega, fun c => ⟨c, rfl, fun p X1 np S1 hb1 => ?_⟩⟩
  dsimp only [gName]
  refine ⟨_, rfl, _, rfl, p, 8, 0, rfl, by decide, by decide, hb1, by decide, fun an X2 css nan anp hb2 B2 ean cl cnd cgood => ?_⟩
  refine ⟨p, an, _, css, rfl, hb2, by decide, anp, ean, cnd, cgood, by omega, fun b X3 ps nb bp hb3 B3 hP3 gps _ => ?_⟩
  dsimp only [gName]
  have p8 := gps.len
  obtain ⟨xp, eP3, alp⟩ := hP3.ex
  have xpl := alp.length
  refine ⟨_, rfl, rfl, rfl, fun x dx nx ndx nex => mkWo hd1 hd2 hd3 hd4 eP3 alp gps nx ndx nex fun X4 S34 hW4 => ⟨rfl, ?_⟩⟩
  dsimp only [gName]
  have hb4 := hb3.keep S34
  have SX4 : Same X X4 := fun q o e => S34 _ _ ((B2.trans B3).at (ne_of_none e np) (S1 _ _ e))
  have eP4 := S34 _ _ eP3
  have alp4 := alp.same S34
  obtain ⟨us4, ebx⟩ := hb4.lst
  clear S34 nx ndx nex alp eP3 hb3 B3 B2 hb2 hb1 S1 hP3 ean cnd cgood cl nan anp nb
  -- the letters
  refine ⟨_, rfl, _, rfl, p, b, _, ps, rfl, hb4, by decide, bp, ⟨xp, eP4, alp4⟩, gps, fun A X5 F nA Ap hb5 B5 eA ltF hF F7 F1 => ?_⟩
  dsimp only [gName]
  refine ⟨_, rfl, p, 30, _, rfl, hb5, by decide, by decide, by decide, fun lo X6 lo0 lo1 hb6 B6 => ?_⟩
  dsimp only [gName]
  -- how the trends are made
  refine ⟨by show 3 ≤ sizeLine; decide, fun q1 n1 => ?_⟩
  have U1 := Same.laid (o := HO.tup [V.int 1, .int 20, .int 25]) n1
  have e1 : upd X6 q1 (.tup [V.int 1, .int 20, .int 25]) q1 = some (.tup [V.int 1, .int 20, .int 25]) := upd_same
  generalize upd X6 q1 (.tup [V.int 1, .int 20, .int 25]) = X6a at *
  refine ⟨by show 3 ≤ sizeLine; decide, fun q2 n2 => ?_⟩
  have U2 := Same.laid (o := HO.tup [V.int 1, .int 20, .int 25]) n2
  have e2 : upd X6a q2 (.tup [V.int 1, .int 20, .int 25]) q2 = some (.tup [V.int 1, .int 20, .int 25]) := upd_same
  generalize upd X6a q2 (.tup [V.int 1, .int 20, .int 25]) = X6b at *
  refine ⟨by show 3 ≤ sizeLine; decide, fun q3 n3 => ?_⟩
  have U3 := Same.laid (o := HO.tup [V.int 20, .int 381, .int 999]) n3
  have e3 : upd X6b q3 (.tup [V.int 20, .int 381, .int 999]) q3 = some (.tup [V.int 20, .int 381, .int 999]) := upd_same
  generalize upd X6b q3 (.tup [V.int 20, .int 381, .int 999]) = X6c at *
  refine ⟨by show 3 ≤ sizeLine; decide, fun q4 n4 => ?_⟩
  have U4 := Same.laid (o := HO.lst [V.ref q1, .ref q2, .ref q3]) n4
  have e4 : upd X6c q4 (.lst [V.ref q1, .ref q2, .ref q3]) q4 = some (.lst [V.ref q1, .ref q2, .ref q3]) := upd_same
  have q4p := ((hb6.keep (U1.trans (U2.trans U3)))).ne n4
  have hb7 := hb6.keep (U1.trans (U2.trans (U3.trans U4)))
  have e1' := (U2.trans (U3.trans U4)) _ _ e1
  have e2' := (U3.trans U4) _ _ e2
  have e3' := U4 _ _ e3
  have B67 : But p X6 (upd X6c q4 (.lst [V.ref q1, .ref q2, .ref q3])) := Same.but (U1.trans (U2.trans (U3.trans U4)))
  generalize upd X6c q4 (.lst [V.ref q1, .ref q2, .ref q3]) = X7 at *
  refine ⟨_, rfl, p, 3, _, rfl, hb7, by decide, by decide, by decide, fun j8 X8 a8 b8 hb8 B8 => ?_⟩
  have tupK : ∀ {q : Addr} {xs : List V}, X7 q = some (.tup xs) → X8 q = some (.tup xs) := fun e => B8.at (fun z => by obtain ⟨us, eb⟩ := hb7.lst; rw [z, eb] at e; cases e) e
  obtain ⟨y0, hy0, aty⟩ := menu (xs := [V.ref q1, .ref q2, .ref q3]) a8 (by simpa using b8)
  obtain ⟨q0, ls0, mn0, tk0, rfl, eq0, hls, hmn, htk, hz⟩ : ∃ (q0 : Addr) (ls0 mn0 tk0 : Int), y0 = .ref q0 ∧ X8 q0 = some (.tup [.int ls0, .int mn0, .int tk0]) ∧ 1 ≤ ls0 ∧ (1 ≤ mn0 ∧ mn0 ≤ 400) ∧ (1 ≤ tk0 ∧ tk0 ≤ 999) ∧ ls0 + mn0 ≤ 401 := by
    simp only [List.mem_cons, List.not_mem_nil, or_false] at hy0
    rcases hy0 with rfl | rfl | rfl
    · exact ⟨q1, _, _, _, rfl, tupK e1', by decide, by decide, by decide, by decide⟩
    · exact ⟨q2, _, _, _, rfl, tupK e2', by decide, by decide, by decide, by decide⟩
    · exact ⟨q3, _, _, _, rfl, tupK e3', by decide, by decide, by decide, by decide⟩
  refine ⟨q4, _, j8, .ref q0, rfl, rfl, SqL.of (B8.at q4p e4), aty, q0, _, rfl, SqT.of eq0, rfl, _, _, rfl, _, _, rfl, _, _, rfl, rfl, ?_⟩
  dsimp only [gName]
  clear U1 U2 U3 U4 e1 e2 e3 e4 e1' e2' e3' n1 n2 n3 n4 tupK q4p hy0 aty
  refine ⟨_, rfl, _, rfl, _, rfl, p, mn0, _, rfl, hb8, by decide, by omega, Int.lt_of_le_of_lt hmn.2 (by decide), fun jz X9 az bz hb9 B9 => ?_⟩
  refine ⟨ls0, jz, rfl, rfl, _, rfl, _, rfl, _, rfl, _, rfl, p, tk0, _, rfl, hb9, by decide, by omega, Int.lt_of_le_of_lt htk.2 (by decide), fun jt XA at_ bt hbA BA => ?_⟩
  refine ⟨lo, jt, rfl, rfl, by show 3 ≤ sizeLine; decide, fun md nmd => ?_⟩
  have UB := Same.laid (o := HO.tup [V.int (ls0 + jz), .int lo, .int (lo + jt)]) nmd
  have emd : upd XA md (.tup [V.int (ls0 + jz), .int lo, .int (lo + jt)]) md = some (.tup [V.int (Md.z ⟨ls0 + jz, lo, lo + jt⟩), .int (Md.lo ⟨ls0 + jz, lo, lo + jt⟩), .int (Md.hi ⟨ls0 + jz, lo, lo + jt⟩)]) := upd_same
  have hbB := hbA.keep UB
  have B5B : But p X5 (upd XA md (.tup [V.int (ls0 + jz), .int lo, .int (lo + jt)])) := B6.trans (B67.trans (B8.trans (B9.trans (BA.trans (Same.but UB)))))
  have gm : (⟨ls0 + jz, lo, lo + jt⟩ : Md).Ok := ⟨by show 1 ≤ ls0 + jz; omega, by show ls0 + jz ≤ 400; omega, lo0, by show lo ≤ 9999; omega, by show 0 ≤ lo + jt; omega, by show lo + jt ≤ 9999; omega, by show lo + jt - lo < 1000; omega⟩
  have mlh : (⟨ls0 + jz, lo, lo + jt⟩ : Md).lo ≤ (⟨ls0 + jz, lo, lo + jt⟩ : Md).hi := by show lo ≤ lo + jt; omega
  generalize (⟨ls0 + jz, lo, lo + jt⟩ : Md) = m at *
  generalize upd XA md (.tup [V.int (ls0 + jz), .int lo, .int (lo + jt)]) = XB at *
  clear hb6 hb7 hb8 hb9 hbA UB B6 B67 B8 B9 BA hz hls
  dsimp only [gName]
  have hW5 := hW4.butL hb4 B5
  have hWB := hW5.butL hb5 B5B
  have eAB := B5B.at Ap eA
  have ltB : ∀ z ∈ F, LtAt XB z.2 z.1 := fun z hz => (ltF z hz).butL hb5.lst.choose_spec B5B
  have B4B : But p X4 XB := B5.trans B5B
  -- the hearing
  refine ⟨_, rfl, fun h0 dxN n1 n2 ne => mkHe hWB n1 n2 ne fun hd hl XC nhd nhl SC he0 => ⟨rfl, ?_⟩⟩
  dsimp only [gName, List.set_cons_zero, List.set_cons_succ]
  have hbC := hbB.keep SC
  have lp : hl ≠ p := hbB.ne nhl
  have hdp : hd ≠ p := hbB.ne nhd
  have nd4 : X4 hd = none := But.none_of B4B nhd hdp
  have B4C : But p X4 XC := B4B.trans (Same.but SC)
  have hWC := hWB.same SC
  have eAC := SC _ _ eAB
  have ltC : ∀ z ∈ F, LtAt XC z.2 z.1 := fun z hz => (ltB z hz).same SC
  have emC := SC _ _ emd
  have ePC := B4C.at bp eP4
  have alpC := al_but alp4 ebx B4C
  clear SC hWB eAB ltB B4B hbB emd n1 n2 ne nhd nhl
  -- the trends
  refine ⟨_, rfl, b, xp, rfl, .inl (SqL.of ePC), fun J G hG wk D2 nD2 => ?_⟩
  refine lc_acc wk nD2 (by omega) (fun i acc X => ∃ l : List Tn, Al fTn X acc l ∧ l.map Tn.pt = ps.take i ∧ (∀ t ∈ l, TrAt E X t.r x t.pt m t.hd [] ∧ XC t.hd = none) ∧ (l.map Tn.hd).Nodup) ⟨[], .nil, rfl, fun t ht => (by cases ht), List.nodup_nil⟩ hG ?_ ?_
  · rintro i2 v G0 G1 acc hi2 S eD hl2 ⟨l, al, epl, hall, nda⟩ ⟨rfl, hx⟩ Fy Fn hy1 _
    obtain ⟨q, pt, rfl, hx', eq⟩ := (alpC.same S).get hx
    have et : ps.take (i2 + 1) = ps.take i2 ++ [pt] := by rw [List.take_add_one, hx']; rfl
    have hpt := List.mem_of_getElem? hx'
    refine ⟨q, _, rfl, SqT.of eq, rfl, _, _, rfl, _, _, rfl, _, _, rfl, rfl, ?_⟩
    refine ⟨rfl, ?_⟩
    unfold tYes
    refine iteT ⟨_, rfl, _, rfl, _, rfl, _, rfl, md, _, 0, .int m.z, rfl, rfl, SqT.of (S _ _ emC), rfl, _, rfl, md, _, 1, .int m.lo, rfl, rfl, SqT.of (S _ _ emC), rfl, _, rfl, md, _, 2, .int m.hi, rfl, rfl, SqT.of (S _ _ emC), rfl, rfl, rfl, fun r dxr nr ndr ner => mkTr (hWC.same S) hpt gm nr ndr ner fun hT G2 tr S2 nhT => ⟨rfl, ?_⟩⟩
    refine ⟨by show 2 ≤ sizeLine; decide, fun t2 nt2 => ?_⟩
    have S3 := Same.laid (o := HO.tup [V.str pt.nm, .ref r]) nt2
    have et2 : upd G2 t2 (.tup [V.str pt.nm, .ref r]) t2 = some (.tup (fTn ⟨pt, r, hT⟩)) := upd_same
    generalize upd G2 t2 (.tup [V.str pt.nm, .ref r]) = G3 at *
    have S13 := S2.trans S3
    have eD3 := S13 _ _ eD
    have t2D : t2 ≠ D2 := (ne_of_none (S2 _ _ eD) nt2).symm
    refine hy1 _ _ S13 ⟨l ++ [⟨pt, r, hT⟩], Al.snoc (al.same (Same.wo S13)) (wo_of t2D et2), by rw [List.map_append, epl, et]; rfl, fun t ht => ?_, ?_⟩
    · rcases List.mem_append.mp ht with h' | h'
      · exact ⟨(hall t h').1.same (Same.wo S13), (hall t h').2⟩
      · rw [List.mem_singleton.mp h']
        exact ⟨(tr.same S3).woL eD3, Same.no S nhT⟩
    · rw [List.map_append]
      refine List.nodup_append.mpr ⟨nda, List.pairwise_singleton _ _, fun a ha b' hb' => ?_⟩
      rw [List.mem_singleton.mp hb']
      obtain ⟨t, ht, rfl⟩ := List.mem_map.mp ha
      exact ne_of_none (wo_same _ _ (hall t ht).1.d) nhT
  rintro XD acc SD eD2 ⟨trs, al, epl, hall, nda⟩
  rw [xpl, List.take_length] at epl
  have alT := al.same wo_same
  have tds0 : Tds E XD x m trs fun _ => [] := ⟨fun j t e => ⟨[], (hall t (List.mem_of_getElem? e)).1.same wo_same, fun z => ⟨fun h => (by cases h), fun h => (by cases h.1)⟩⟩⟩
  have hbD := hbC.keep SD
  have Dp2 := hbC.ne nD2
  have nD4 : X4 D2 = none := But.none_of B4C nD2 Dp2
  have nT4 : ∀ t ∈ trs, X4 t.hd = none := fun t ht => But.none_of B4C (hall t ht).2 (hbC.ne (hall t ht).2)
  have heD := he0.same SD
  have B4D : But p X4 XD := B4C.trans (Same.but SD)
  have eAD := SD _ _ eAC
  have ltD : ∀ z ∈ F, LtAt XD z.2 z.1 := fun z hz => (ltC z hz).same SD
  have emD := SD _ _ emC
  have trl : trs.length ≤ 8 := by
    have := congrArg List.length epl
    rw [List.length_map] at this
    omega
  clear al hall SD hbC hWC eAC ltC emC ePC alpC he0 wk nD2
  dsimp only [gName, List.set_cons_zero, List.set_cons_succ]
  -- the order
  refine ⟨_, rfl, _, rfl, A, _, rfl, .inl (SqL.of eAD), p, _, _, rfl, hbD, by decide, by rw [List.length_map]; omega, by rw [List.length_map]; exact Int.lt_of_le_of_lt (show (F.length : Int) ≤ 7 by omega) (by decide), fun tn XE tn0 tn1 hbE BE => ?_⟩
  obtain ⟨cn, rfl⟩ := Int.eq_ofNat_of_zero_le tn0
  dsimp only [gName, List.set_cons_zero, List.set_cons_succ]
  have eAE := BE.at Ap eAD
  refine ⟨_, rfl, _, rfl, _, rfl, A, _, rfl, SqL.of eAE, fun M nM => ?_⟩
  rw [cut_from, ← List.map_drop]
  have S1 := Same.laid (o := HO.lst ((F.drop cn).map fun z => V.ref z.2)) nM
  have eM : upd XE M (.lst ((F.drop cn).map fun z => V.ref z.2)) M = some (.lst ((F.drop cn).map fun z => V.ref z.2)) := upd_same
  generalize upd XE M (.lst ((F.drop cn).map fun z => V.ref z.2)) = XF at *
  refine ⟨_, rfl, _, rfl, _, rfl, A, _, rfl, SqL.of (S1 _ _ eAE), fun N nN => ?_⟩
  rw [cut_to, ← List.map_take]
  have S2 := Same.laid (o := HO.lst ((F.take cn).map fun z => V.ref z.2)) nN
  have eN : upd XF N (.lst ((F.take cn).map fun z => V.ref z.2)) N = some (.lst ((F.take cn).map fun z => V.ref z.2)) := upd_same
  generalize upd XF N (.lst ((F.take cn).map fun z => V.ref z.2)) = XG at *
  refine ⟨M, N, _, _, rfl, rfl, S2 _ _ eM, eN, by rw [List.length_map, List.length_map, List.length_drop, List.length_take]; exact Nat.le_trans (show _ ≤ 20 by omega) (by decide), fun R nR => ?_⟩
  rw [← List.map_append]
  have S3 := Same.laid (o := HO.lst ((F.drop cn ++ F.take cn).map fun z => V.ref z.2)) nR
  have eR : upd XG R (.lst ((F.drop cn ++ F.take cn).map fun z => V.ref z.2)) R = some (.lst ((F.drop cn ++ F.take cn).map fun z => V.ref z.2)) := upd_same
  have hbH := hbE.keep (S1.trans (S2.trans S3))
  have Rp := (hbE.keep (S1.trans S2)).ne nR
  generalize upd XG R (.lst ((F.drop cn ++ F.take cn).map fun z => V.ref z.2)) = XH at *
  refine ⟨R, rfl, _, rfl, by show 2 ≤ sizeLine; decide, fun q5 n5 => ?_⟩
  have S4 := Same.laid (o := HO.lst [V.int 1, .int (-1)]) n5
  have e5 : upd XH q5 (.lst [V.int 1, .int (-1)]) q5 = some (.lst [V.int 1, .int (-1)]) := upd_same
  have hbI := hbH.keep S4
  have q5p := hbH.ne n5
  have eR4 := S4 _ _ eR
  have SEI := S1.trans (S2.trans (S3.trans S4))
  generalize upd XH q5 (.lst [V.int 1, .int (-1)]) = XI at *
  refine ⟨_, rfl, p, 2, _, rfl, hbI, by decide, by decide, by decide, fun js XJ j0 j1 hbJ BJ => ?_⟩
  obtain ⟨sg, hsg, asg⟩ := menu (xs := [V.int 1, .int (-1)]) j0 (by simpa using j1)
  obtain ⟨kk, rfl, hkk⟩ : ∃ kk : Int, sg = .int kk ∧ (kk = 1 ∨ kk = -1) := by
    simp only [List.mem_cons, List.not_mem_nil, or_false] at hsg
    rcases hsg with rfl | rfl
    · exact ⟨1, rfl, .inl rfl⟩
    · exact ⟨-1, rfl, .inr rfl⟩
  refine ⟨q5, _, js, .int kk, rfl, rfl, SqL.of (BJ.at q5p e5), asg, kk, _, rfl, hkk, SqL.of (BJ.at Rp eR4), fun O nO => ?_⟩
  obtain ⟨ms, emss, hms, ml⟩ : ∃ ms : List LA, (if kk = 1 then (F.drop cn ++ F.take cn).map (fun z => V.ref z.2) else ((F.drop cn ++ F.take cn).map fun z => V.ref z.2).reverse) = ms.map (fun z => V.ref z.2) ∧ (∀ z ∈ ms, z ∈ F) ∧ ms.length = F.length := by
    have hm : ∀ z ∈ F.drop cn ++ F.take cn, z ∈ F := fun z hz => (List.mem_append.mp hz).elim List.mem_of_mem_drop List.mem_of_mem_take
    have hl : (F.drop cn ++ F.take cn).length = F.length := by rw [List.length_append, List.length_drop, List.length_take]; omega
    by_cases k1 : kk = 1
    · exact ⟨_, if_pos k1, hm, hl⟩
    · exact ⟨(F.drop cn ++ F.take cn).reverse, by rw [if_neg k1, List.map_reverse], fun z hz => hm z (List.mem_reverse.mp hz), by rw [List.length_reverse, hl]⟩
  rw [emss]
  clear emss hsg asg hkk eR4 e5 eR eN eM nM nN nR n5 S1 S2 S3 S4 hbH hbE Rp q5p
  have S5 := Same.laid (o := HO.lst (ms.map fun z => V.ref z.2)) nO
  have eO : upd XJ O (.lst (ms.map fun z => V.ref z.2)) O = some (.lst (ms.map fun z => V.ref z.2)) := upd_same
  have hbK := hbJ.keep S5
  have Op := hbJ.ne nO
  have BDK : But p XD (upd XJ O (.lst (ms.map fun z => V.ref z.2))) := BE.trans ((Same.but SEI).trans (BJ.trans (Same.but S5)))
  have nO4 : X4 O = none := But.none_of (B4D.trans (BE.trans ((Same.but SEI).trans BJ))) nO Op
  have BEJ := BE.trans ((Same.but SEI).trans BJ)
  have OD : O ≠ D2 := (ne_of_none (BEJ.at Dp2 eD2) nO).symm
  have lO : hl ≠ O := by
    obtain ⟨_, _, _, _, e3, _⟩ := heD.ex
    exact ne_of_none (BEJ.at lp e3) nO
  generalize upd XJ O (.lst (ms.map fun z => V.ref z.2)) = XK at *
  clear S5 nO BEJ BE SEI BJ hbI hbJ eAE
  dsimp only [gName, List.set_cons_zero, List.set_cons_succ]
  -- one letter again
  refine ⟨_, rfl, .inl ⟨rfl, _, SqL.of eO⟩, _, rfl, _, rfl, O, _, rfl, .inl (SqL.of eO), _, _, rfl, rfl, p, _, _, rfl, hbK, by decide, by rw [List.length_map]; omega, by rw [List.length_map]; exact Int.lt_of_le_of_lt (show (ms.length : Int) + 1 ≤ 8 by omega) (by decide), fun ti XL ti0 ti1 hbL BL => ?_⟩
  have eO2 := BL.at Op eO
  rw [List.length_map] at ti1
  obtain ⟨y0, hy0⟩ : ∃ y0 : LA, ms[0]? = some y0 := ⟨ms[0]'(by omega), List.getElem?_eq_getElem _⟩
  refine ⟨_, rfl, O, _, ((0 : Nat) : Int), .ref y0.2, rfl, rfl, SqL.of eO2, atI_nat (by rw [List.getElem?_map, hy0]; rfl), ?_⟩
  refine ⟨O, _, ti, _, rfl, rfl, eO2, by rw [List.length_map]; exact Nat.lt_of_le_of_lt (show ms.length ≤ 8 by omega) (by decide), ti0, Int.lt_of_lt_of_le ti1 (Int.le_trans (show (ms.length : Int) + 1 ≤ 9 by omega) (by decide)), ?_⟩
  obtain ⟨ns2, ens, hns, nl8⟩ : ∃ ns2 : List LA, ((ms.map fun z => V.ref z.2).take ti.toNat ++ [V.ref y0.2] ++ (ms.map fun z => V.ref z.2).drop ti.toNat) = ns2.map (fun z => V.ref z.2) ∧ (∀ z ∈ ns2, z ∈ F) ∧ ns2.length ≤ 8 :=
    ⟨ms.take ti.toNat ++ [y0] ++ ms.drop ti.toNat, by rw [List.map_append, List.map_append, List.map_take, List.map_drop]; rfl, fun z hz => by
      rcases List.mem_append.mp hz with h | h
      · rcases List.mem_append.mp h with h | h
        · exact hms z (List.mem_of_mem_take h)
        · rw [List.mem_singleton.mp h]
          exact hms _ (List.mem_of_getElem? hy0)
      · exact hms z (List.mem_of_mem_drop h), by rw [List.length_append, List.length_append, List.length_take, List.length_drop, List.length_singleton]; omega⟩
  rw [ens]
  clear ens hy0 hms ml
  have BDL : But p XD XL := BDK.trans BL
  obtain ⟨usD, ebD⟩ := hbD.lst
  have BO : But O XL (upd XL O (.lst (ns2.map fun z => V.ref z.2))) := But.set
  have ns0 : Ns X4 (upd XL O (.lst (ns2.map fun z => V.ref z.2))) p md O D2 m F (ns2.map fun z => V.ref z.2) acc trs :=
    ⟨but_past (B4D.trans BDL) nO4 BO, fun z hz => ((ltD z hz).butL ebD BDL).butL eO2 BO,
      BO.at (fun z => by have := BDL.at (fun z => by rw [z, ebD] at emD; cases emD) emD; rw [z, eO2] at this; cases this) (BDL.at (fun z => by rw [z, ebD] at emD; cases emD) emD), upd_same,
      BO.at OD.symm (BDL.at Dp2 eD2), al_but (al_but alT ebD BDL) eO2 BO⟩
  have he0' := (heD.butL ebD lp BDL).butL eO2 lO BO
  have td0' := (tds0.butL ebD BDL).butL eO2 BO
  clear heD tds0 alT ltD emD eD2 BDL BDK BL hbK hbL eO eO2 BO hbD ebD eAD OD lO
  generalize upd XL O (.lst (ns2.map fun z => V.ref z.2)) = XM at *
  dsimp only [gName, List.set_cons_zero, List.set_cons_succ]
  have SHX4 : ∀ q o, H q = some o → X4 q = some o ∧ q ≠ p := fun q o e => ⟨SX4 _ _ (SX _ _ e), ne_of_none (SX _ _ e) np⟩
  have accl : acc.length = trs.length := ns0.al.length
  have l12 : ∀ {zs : List LA}, (∀ z ∈ zs, z ∈ F) → ∀ z ∈ zs, z.1.rs.length ≤ 12 := fun s z hz => (hF.good z (s z hz)).few
  -- letter by letter
  refine ⟨_, rfl, O, rfl, ⟨_, SqL.of ns0.eO⟩, ?_⟩
  refine for_it (walk_list (K := K) (a := O) (xs := ns2.map fun z => V.ref z.2)) (fun i2 σ Z => (∃ v15 v16 v17 : Option V, σ = [some (.ref a), some (.int (0 + (i : Int))), some (.ref p), some (.ref b), some (.ref x), some (.ref A), some (.int lo), some (.int ls0), some (.int mn0), some (.int tk0), some (.ref md), some (.ref h0), some (.ref D2), some (.int (cn : Int)), some (.ref O), v15, v16, v17, none, none]) ∧ ∃ lsi, Ns X4 Z p md O D2 m F (ns2.map fun z => V.ref z.2) acc trs ∧ HeAt D Z h0 x hd hl lsi [] ∧ Tds E Z x m trs (fun _ => lsi) ∧ ∀ z ∈ lsi, z ∈ F)
    ⟨⟨_, _, _, rfl⟩, [], ns0, he0', td0', fun z h => (by cases h)⟩ (fun i2 σ Z _ h => by obtain ⟨_, lsi, h, _⟩ := h; exact SqL.of h.eO) ?_
    (fun σ Z ⟨⟨v15, v16, v17, e⟩, lsi, n, _⟩ => ⟨⟨_, _, _, _, _, _, _, _, _, _, _, _, _, _, _, _, _, e⟩, fun q o e => n.b4.at (SHX4 q o e).2 (SHX4 q o e).1⟩)
  rintro i2 v σ Z0 Z hi2 ⟨⟨v15, v16, v17, rfl⟩, l1, ns1, he, td, sub⟩ ⟨rfl, hx⟩
  rw [List.getElem?_map] at hx
  cases hz : ns2[i2]? with
  | none => rw [hz] at hx; cases hx
  | some y =>
    rw [hz] at hx
    cases hx
    have hyF := hns y (List.mem_of_getElem? hz)
    have woZ : WoP K C Z x (W0 xp ps) ps := hW4.butL hb4 ns1.b4
    obtain ⟨dxZ, _, eP, edZ, _⟩ := he.ex
    have few : l1.length ≤ 7 := Nat.le_trans (List.Nodup.length_le_of_subset (nodup_map he.nd) sub) F7
    dsimp only [gName, List.set_cons_zero, List.set_cons_succ]
    refine seq_join (fun σ' Z2 => σ' = [some (.ref a), some (.int (0 + (i : Int))), some (.ref p), some (.ref b), some (.ref x), some (.ref A), some (.int lo), some (.int ls0), some (.int mn0), some (.int tk0), some (.ref md), some (.ref h0), some (.ref D2), some (.int (cn : Int)), some (.ref O), some (.ref y.2), v16, v17, none, none] ∧ ∃ l2, Ns X4 Z2 p md O D2 m F (ns2.map fun z => V.ref z.2) acc trs ∧ HeAt D Z2 h0 x hd hl l2 [] ∧ Tds E Z2 x m trs (fun _ => l1) ∧ (∀ z ∈ l2, z ∈ F) ∧ ∀ z, z ∈ l2 ↔ z ∈ l1 ∨ z = y) (fun N' hN => ?_) ?_
    · refine ⟨_, rfl, h0, dxZ, _, rfl, eP, hef_no (by decide +kernel) (by decide +kernel) (by decide +kernel), _, rfl, h0, x, hd, hl, l1, [], _, ps, y.2, y.1, rfl, he, woZ, ns1.lts y hyF, hF.good y hyF, l12 sub, by omega, ?_⟩
      by_cases hk : (y.1.pl, y.1.no) ∈ l1.map ky
      · obtain ⟨y', hy', ey'⟩ := List.mem_map.mp hk
        have : y' = y := key_eq hF.nd hyF (sub y' hy') ey'
        subst this
        exact .inl ⟨⟨y'.2, hy'⟩, fun Z2 S2 => hN _ _ ⟨rfl, l1, ns1.same S2, he.same S2, td.same S2, sub, fun z => ⟨.inl, fun h => h.elim id fun e => e ▸ hy'⟩⟩⟩
      · refine .inr ⟨hk, fun z hz' e => hF.fit y hyF z (sub z hz') (fun e2 => hk (List.mem_map.mpr ⟨z, hz', e2.symm⟩)) e.symm, fun Z2 B2' he2 => hN _ _ ⟨rfl, l1 ++ [y], ns1.moveT nd4 edZ B2', he2, td.butT edZ B2', fun z hz' => ?_, fun z => by rw [List.mem_append, List.mem_singleton]⟩⟩
        rcases List.mem_append.mp hz' with h | h
        · exact sub z h
        · rw [List.mem_singleton.mp h]
          exact hyF
    rintro σ' Z2 ⟨rfl, l2, ns2', he2, td2, sub2, rel⟩
    have few2 : l2.length ≤ 7 := Nat.le_trans (List.Nodup.length_le_of_subset (nodup_map he2.nd) sub2) F7
    clear eP edZ he td ns1 woZ
    -- trend by trend
    refine ⟨_, rfl, D2, rfl, ⟨_, SqL.of ns2'.eT⟩, ?_⟩
    refine for_it (walk_list (K := K) (a := D2) (xs := acc)) (fun k σ Y => (∃ v16 v17 : Option V, σ = [some (.ref a), some (.int (0 + (i : Int))), some (.ref p), some (.ref b), some (.ref x), some (.ref A), some (.int lo), some (.int ls0), some (.int mn0), some (.int tk0), some (.ref md), some (.ref h0), some (.ref D2), some (.int (cn : Int)), some (.ref O), some (.ref y.2), v16, v17, none, none]) ∧ Ns X4 Y p md O D2 m F (ns2.map fun z => V.ref z.2) acc trs ∧ HeAt D Y h0 x hd hl l2 [] ∧ Tds E Y x m trs (fun j => if j < k then l2 else l1))
      ⟨⟨_, _, rfl⟩, ns2', he2, td2.of fun j _ => by rw [if_neg (Nat.not_lt_zero _)]⟩ (fun k σ Y _ h => SqL.of h.2.1.eT) ?_ (fun σ Y ⟨⟨w16, w17, e⟩, n, h, t⟩ => ⟨⟨_, _, _, e⟩, l2, n, h, t.of fun j hj => (if_pos (by rw [accl]; exact hj)).symm, sub2⟩)
    rintro k v σ Y0 Y hk ⟨⟨w16, w17, rfl⟩, n, h, t⟩ ⟨rfl, hx⟩
    obtain ⟨q, tn', rfl, hx', eq⟩ := n.al.get hx
    refine ⟨q, _, rfl, SqT.of eq, rfl, _, _, rfl, _, _, rfl, rfl, ?_⟩
    dsimp only [gName, List.set_cons_zero, List.set_cons_succ]
    obtain ⟨tl, tr, rel0⟩ := t.at_ k tn' hx'
    have rel1 : ∀ z, z ∈ tl ↔ z ∈ l1 ∧ z.1.pl = tn'.pt.pl := fun z => by
      have := rel0 z
      rwa [if_neg (Nat.lt_irrefl _)] at this
    have tl7 := TrAt.few7 tr rel1 sub F7
    obtain ⟨dxT, erT⟩ := tr.ex
    have hpt : tn'.pt ∈ ps := epl ▸ List.mem_map.mpr ⟨tn', List.mem_of_getElem? hx', rfl⟩
    refine ⟨_, rfl, tn'.r, dxT, _, rfl, erT, tnf_no ⟨by decide +kernel, by decide +kernel, by decide +kernel, by decide +kernel, by decide +kernel, by decide +kernel, by decide +kernel⟩, _, rfl, tn'.r, x, tn'.pt, m, tn'.hd, tl, _, ps, y.2, y.1, rfl, tr, gm, hW4.butL hb4 n.b4, hpt, n.lts y hyF, hF.good y hyF, (fun z hz => l12 sub z ((rel1 z).mp hz).1), by omega, fun e hn => ⟨y.2, had_it hF.nd sub hyF rel1 e hn⟩, fun bb Y1 B1 tr1 => ?_⟩
    have rel2 := hearN_rel (pt := tn'.pt) hF.nd sub hyF rel1 rel
    have t1 := Tds.hear t hx' nda B1 tr1 rel2
    have n1 := n.moveK (nT4 tn' (List.mem_of_getElem? hx')) tr.d B1
    have h1 := h.butK tr.d B1
    refine ⟨_, rfl, _, rfl, _, rfl, _, rfl, h0, tn'.r, tn'.pt, md, x, hd, hl, l2, x, m, tn'.hd, _, _, ps, rfl, h1, hW4.butL hb4 n1.b4, hpt, tr1, gm, mlh, n1.em, (fun z hz => hF.good z (sub2 z hz)), by omega, rel2, fun Y2 S2 => ?_⟩
    refine ⟨true, rfl, iteF ?_⟩
    exact ⟨⟨_, _, rfl⟩, n1.same S2, h1.same S2, t1.same S2⟩
end
end V45

namespace V45
open PySem PySem.Spec PyProof.Rows L2 Pw
theorem kbW {K : PySem.W.Frag} {d1 d2 d3 d4 f : Addr} {fd : FuncData} (F : FunD K "__init__" "Works.__init__" (defArgs mWorks_Init) (defBody mWorks_Init) (defScope mWorks_Init) [] [("rules", .ref d1), ("causes", .ref d2), ("commands", .ref d3), ("relations", .ref d4)] f fd) :
    ∃ g, KBn K fd ["self", "points", "rules", "causes", "commands", "relations"] 2 [] g (gW d1 d2 d3 d4) := by
  obtain ⟨mv, h⟩ := kbn_of (ms := [("rules", .ref d1), ("causes", .ref d2), ("commands", .ref d3), ("relations", .ref d4)]) (ps := ["self", "points", "rules", "causes", "commands", "relations"]) (ks := []) (n := 2) F (fun us mv ws => us ++ mv ++ ws) (by simp) (fun q h => h)
    (fun h1 h2 h3 => (h1.append h2).append h3) (fun D doc pm an cdv ct us mv ws l1 l2 l3 => by
      match us, mv, ws, l1, l2, l3 with
      | [a, b], [c, d, e, g], [], _, _, _ =>
        exact ⟨_, _, _, _, _, _, rfl, rfl, _, _, _, _, _, _, rfl, rfl, _, _, _, _, _, _, rfl, rfl, _, _, _, _, _, _, rfl, rfl, rfl⟩)
  exact ⟨_, h⟩
theorem kbT {K : PySem.W.Frag} {f : Addr} {fd : FuncData} (F : FunD K "__init__" "Trend.__init__" (defArgs mTrend_Init) (defBody mTrend_Init) (defScope mTrend_Init) [] [("odd", .bl true)] f fd) :
    ∃ g, KBn K fd ["self", "works", "point", "size", "since", "till", "odd"] 6 [] g gTr := by
  obtain ⟨mv, h⟩ := kbn_of (ms := [("odd", .bl true)]) (ps := ["self", "works", "point", "size", "since", "till", "odd"]) (ks := []) (n := 6) F (fun us mv ws => us ++ mv ++ ws) (by simp) (fun q h => h)
    (fun h1 h2 h3 => (h1.append h2).append h3) (fun D doc pm an cdv ct us mv ws l1 l2 l3 => by
      match us, mv, ws, l1, l2, l3 with
      | [a, b, c, d, e, g], [o], [], _, _, _ =>
        exact ⟨_, _, _, _, _, _, rfl, rfl, rfl⟩)
  exact ⟨_, h⟩
-- END defs: Number=_is_number Check=_check_number Whole=is_whole Name=is_name Time=is_time Mark=is_mark OneOf=is_one_of Tuple=is_tuple List=is_list ListOf=is_list_of PointS=is_point_shape Once=_check_each_once ByName=by_name Points=check_points Rules=check_rules RuleS=is_rule_shape Causes=check_causes CauseS=is_cause_shape Leads=_leads_to_itself Commands=check_commands CommandS=is_command_shape WorthOf=is_worth_of Locks=_check_locks Relations=check_relations RelS=is_relation_shape PtsRel=points_of_relation WorksC=check_works PointC=check_point PlaceC=check_place Sign=is_sign Signs=is_signs SignAt=_is_sign_at RowsIn=rows_in SignsC=check_signs Fit=_fit Rising=is_rising CTime=check_time CWhole=check_whole CTruth=check_truth Level=is_level Row=is_row History=is_history CHist=check_history Goods=good_rows CSize=_check_size CWin=_check_window FineR=_fine_rows CoR=_coarse_rows HistOf=history_of RowAt=row_at Cell=_law_cell Box=_law_box Take=_law_take LNames=_law_names LPoints=_law_points LRows=_law_rows LLetters=_law_letters PRight=_law_point_right
-- END kwdefs: Fine=fine:odd Co=coarse:odd
theorem fin {P : Program} {w : World} {K : PySem.W.Frag} {mg : Str → Option Value} {fa C D E fi fh fp d1 d2 d3 d4 : Addr} {fdi fdh fdp : FuncData} (hfa : mg "law" = some (.ref fa)) (T : Txt mg) (W : WoC K C) (Wq : WoQ K C) (hC : mg "Works" = some (.ref C))
    (M : Mk K C fi) (FI : FunD K "__init__" "Works.__init__" (defArgs mWorks_Init) (defBody mWorks_Init) (defScope mWorks_Init) [] [("rules", .ref d1), ("causes", .ref d2), ("commands", .ref d3), ("relations", .ref d4)] fi fdi)
    (hd1 : ∀ H, SqT K H d1 []) (hd2 : ∀ H, SqT K H d2 []) (hd3 : ∀ H, SqT K H d3 []) (hd4 : ∀ H, SqT K H d4 [])
    (Wh : HeC K D) (hD : mg "Hearing" = some (.ref D)) (Mh : Mk K D fh) (FH : Fun K "__init__" "Hearing.__init__" mHearing_Init fh fdh)
    (Wt : TrC K E) (hE : mg "Trend" = some (.ref E)) (Mt : Mk K E fp) (FT : FunD K "__init__" "Trend.__init__" (defArgs mTrend_Init) (defBody mTrend_Init) (defScope mTrend_Init) [] [("odd", .bl true)] fp fdp)
    (mPlaces : AtMt K C "places" "Works.places" mWorks_Places)
    (mPoint : AtMt K C "point" "Works.point" mWorks_Point)
    (mPtsAt : AtMt K C "points_at" "Works.points_at" mWorks_PointsAt)
    (mIsW : AtMt K C "is_worth" "Works.is_worth" mWorks_IsWorth)
    (mHasP : AtMt K C "has_point" "Works.has_point" mWorks_HasPoint)
    (mHasPl : AtMt K C "has_place" "Works.has_place" mWorks_HasPlace)
    (hHear : AtMt K D "hear" "Hearing.hear" mHearing_Hear)
    (hKnown : AtMt K D "known" "Hearing.known" mHearing_Known)
    (hHist : AtMt K D "history" "Hearing.history" mHearing_History)
    (hShow : AtMt K D "show" "Hearing.show" mHearing_Show)
    (hLtsOf : AtMt K D "_letters_of" "Hearing._letters_of" mHearing_LettersOf)
    (hIxH : AtMt K D "_index_of_hand" "Hearing._index_of_hand" mHearing_IndexOfHand)
    (hState : AtMt K D "_state" "Hearing._state" mHearing_State)
    (pTrHear : AtMt K E "hear" "Trend.hear" mTrend_Hear)
    (pTrRows : AtMt K E "rows" "Trend.rows" mTrend_Rows)
    (pTrFine : AtMt K E "fine" "Trend.fine" mTrend_Fine)
    (pTrHeard : AtMt K E "heard" "Trend.heard" mTrend_Heard)
    (aNumber : At K mg "_is_number" sIsNumber)
    (aCheck : At K mg "_check_number" sCheckNumber)
    (aWhole : At K mg "is_whole" sIsWhole)
    (aName : At K mg "is_name" sIsName)
    (aTime : At K mg "is_time" sIsTime)
    (aMark : At K mg "is_mark" sIsMark)
    (aOneOf : At K mg "is_one_of" sIsOneOf)
    (aTuple : At K mg "is_tuple" sIsTuple)
    (aList : At K mg "is_list" sIsList)
    (aListOf : At K mg "is_list_of" sIsListOf)
    (aPointS : At K mg "is_point_shape" sIsPointShape)
    (aOnce : At K mg "_check_each_once" sCheckEachOnce)
    (aByName : At K mg "by_name" sByName)
    (aPoints : At K mg "check_points" sCheckPoints)
    (aRules : At K mg "check_rules" sCheckRules)
    (aRuleS : At K mg "is_rule_shape" sIsRuleShape)
    (aCauses : At K mg "check_causes" sCheckCauses)
    (aCauseS : At K mg "is_cause_shape" sIsCauseShape)
    (aLeads : At K mg "_leads_to_itself" sLeadsToItself)
    (aCommands : At K mg "check_commands" sCheckCommands)
    (aCommandS : At K mg "is_command_shape" sIsCommandShape)
    (aWorthOf : At K mg "is_worth_of" sIsWorthOf)
    (aLocks : At K mg "_check_locks" sCheckLocks)
    (aRelations : At K mg "check_relations" sCheckRelations)
    (aRelS : At K mg "is_relation_shape" sIsRelationShape)
    (aPtsRel : At K mg "points_of_relation" sPointsOfRelation)
    (aWorksC : At K mg "check_works" sCheckWorks)
    (aPointC : At K mg "check_point" sCheckPoint)
    (aPlaceC : At K mg "check_place" sCheckPlace)
    (aSign : At K mg "is_sign" sIsSign)
    (aSigns : At K mg "is_signs" sIsSigns)
    (aSignAt : At K mg "_is_sign_at" sIsSignAt)
    (aRowsIn : At K mg "rows_in" sRowsIn)
    (aSignsC : At K mg "check_signs" sCheckSigns)
    (aFit : At K mg "_fit" sFit)
    (aRising : At K mg "is_rising" sIsRising)
    (aCTime : At K mg "check_time" sCheckTime)
    (aCWhole : At K mg "check_whole" sCheckWhole)
    (aCTruth : At K mg "check_truth" sCheckTruth)
    (aLevel : At K mg "is_level" sIsLevel)
    (aRow : At K mg "is_row" sIsRow)
    (aHistory : At K mg "is_history" sIsHistory)
    (aCHist : At K mg "check_history" sCheckHistory)
    (aGoods : At K mg "good_rows" sGoodRows)
    (aCSize : At K mg "_check_size" sCheckSize)
    (aCWin : At K mg "_check_window" sCheckWindow)
    (aFineR : At K mg "_fine_rows" sFineRows)
    (aCoR : At K mg "_coarse_rows" sCoarseRows)
    (aHistOf : At K mg "history_of" sHistoryOf)
    (aRowAt : At K mg "row_at" sRowAt)
    (aCell : At K mg "_law_cell" sLawCell)
    (aBox : At K mg "_law_box" sLawBox)
    (aTake : At K mg "_law_take" sLawTake)
    (aLNames : At K mg "_law_names" sLawNames)
    (aLPoints : At K mg "_law_points" sLawPoints)
    (aLRows : At K mg "_law_rows" sLawRows)
    (aLLetters : At K mg "_law_letters" sLawLetters)
    (aPRight : At K mg "_law_point_right" sLawPointRight)
    (aLaw : At K mg "law" sLaw) (aFine : AtD K mg "fine" sFine [("odd", .bl true)]) (aCo : AtD K mg "coarse" sCoarse [("odd", .bl true)]) :
    ∃ fd : FuncData, (∀ (s : Shared) (v : Value), BindsTo s fd ⟨[v], []⟩ [("_law_script", v)]) ∧
      ∀ base : Heap, K.In base → base.Ns mainGlobals mg → FnG P w K mg base CX0 16 fa fd ["_law_script"] (spLaw K) := by
  obtain ⟨f, fd, F, m⟩ := aLaw.ex
  cases hfa.symm.trans m
  have F' := F
  obtain ⟨oc, od, kV, doc, pm, an, cdv, ct, osl, rfl, lk, hcd⟩ := F.ex
  refine ⟨PySem.W.fnOf "law" "law" (defArgs sLaw) (defBody sLaw) (defScope sLaw) .none kV doc pm an cdv ct, fun s v => .of_eq rfl, fun base _ _ => ?_⟩
  have dNumber : Def P w K mg base "_is_number" 1 ["thing"] (spNumber K) := d_number T aNumber
  have dCheck := d_check aCheck dNumber
  have dWhole := d_whole aWhole dNumber dCheck
  have dTuple : Def P w K mg base "is_tuple" 1 ["thing", "many"] (spTupN K) := d_tuple T aTuple
  have dOne : Def P w K mg base "is_one_of" 1 ["thing", "words"] (spOne K) := d_oneof T aOneOf
  have dName : Def P w K mg base "is_name" 1 ["thing"] (spName K) := d_name T aName
  have dTime := d_time T aTime dWhole
  have dMark := d_mark aMark dOne
  have dList : Def P w K mg base "is_list" 1 ["thing", "least", "most"] (spList K) := d_list T aList
  have dPS := d_pointS aPointS dTuple dName dOne
  have dPts := d_points T aPoints aListOf dList dPS (d_once T aOnce)
  have dR0 := d_rules0 T aRules aRuleS aListOf dList
  have dC0 := d_causes0 T aCauses aCauseS aLeads aListOf dList
  have dM0 := d_commands0 T aCommands aCommandS aWorthOf aLocks aListOf dList
  have dL0 := d_relations0 T aRelations aRelS aPtsRel aOnce aListOf dList
  obtain ⟨g, hg⟩ := kbW FI
  have dWo : MadeK P w K mg base "Works" C 14 ["self", "points", "rules", "causes", "commands", "relations"] 1 [] (gW d1 d2 d3 d4) (spWo K C) :=
    ⟨fi, fdi, g, hC, M, hg, ok_initW T W FI dPts (fun f nm => d_byName aByName) dR0 dC0 (by decide) dM0 (by decide) dL0 (fun r => ⟨_, rfl⟩) (fun r => ⟨_, rfl⟩)⟩
  have dWO := d_worthOf T aWorthOf dWhole
  have eHP := d_hasP W mHasP dName
  have ePo := d_point W mPoint eHP
  have eIW := d_isWorth W mIsW ePo dWO
  have ePl := d_places (P := P) (w := w) (base := base) T W mPlaces
  have eHPl := d_hasPl W mHasPl dName ePl
  have ePA := d_ptsAt W mPtsAt eHPl
  have dWC := d_worksC (P := P) (w := w) (base := base) T W Wq hC aWorksC
  have dSi := d_sign W aSign dWC dTuple dTime eHP eIW dMark
  have dSA := d_signAt W aSignAt dSi ePA
  have dSs := d_signs T W aSigns dWC dTuple eHPl dWhole dTime dSA
  have dCS := d_chkS aSignsC dSs
  have dCP := d_chkP W aPointC eHP
  have dCT := d_chkT aCTime dTime
  have dCPl := d_chkPl W aPlaceC eHPl
  have dHi := d_heInit (P := P) (w := w) (base := base) Wh hD Mh FH dWC
  have eLO := d_ltsOf (P := P) (w := w) (base := base) T Wh hLtsOf
  have dFi := d_fit (P := P) (w := w) (base := base) T aFit
  have eHe := d_hear2 Wh hHear dCS dFi eLO
  have eKn := d_known Wh hKnown dCPl
  have eSt := d_state Wh hState eKn
  have dHO := d_histOf (P := P) (w := w) (base := base) T aHistOf
  have dRA := d_rowAt (P := P) (w := w) (base := base) T aRowAt
  have dRI := d_rowsIn (P := P) (w := w) (K := K) (base := base) aRowsIn
  have eHy := d_history Wh W hHist eLO ePo dRI dHO
  have eIx := d_ixH (P := P) (w := w) (base := base) T Wh hIxH
  have eSh := d_show Wh W hShow dCP dCT eIx eSt ePo eHy dRA
  have dt := d_take (P := P) (w := w) (base := base) aTake
  have dn := d_names T aLNames dt
  have dPo := d_ptsL (P := P) (w := w) (base := base) T aLPoints dt
  have dRo := d_rowsL (P := P) (w := w) (base := base) T aLRows dt
  have dLt := d_lettersL (P := P) (w := w) (base := base) T aLLetters dt dRo
  have dLevel := V45T.d_level (P := P) (w := w) (base := base) T aLevel dWhole
  have dRis : Def P w K mg base "is_rising" 1 ["numbers"] (V45T.spRis K) := V45T.d_rising T aRising
  have dHist := V45T.d_chistory aCHist (V45T.d_history T aHistory (V45T.d_row aRow dTuple dTime dLevel dMark) dRis)
  have dSize := V45T.d_csize T aCSize (V45T.d_cwhole aCWhole dWhole)
  have dWin := V45T.d_cwin T aCWin (V45T.d_ctime aCTime dTime) (V45T.d_ctruth (P := P) (w := w) (base := base) T aCTruth)
  have dFineR := V45T.d_fineR T aFineR (V45T.d_goods aGoods (P := P) (w := w) (base := base))
  have dCoR : Def P w K mg base "_coarse_rows" 1 ["rows", "size"] V45T.spCoR := V45T.d_coR T aCoR
  have dF := V45T.d_fine aFine dHist dWin dFineR
  have dCo := V45T.d_co aCo dHist dSize dWin dFineR dCoR
  have tHd := d_heard (P := P) (w := w) (base := base) T Wt pTrHeard
  have tFi := d_fineTr T Wt pTrFine tHd dRI dHO dFineR
  have tRo := d_rowsTr Wt pTrRows tFi dCoR
  have tHe := d_hearT Wt W pTrHear dCS ePo tRo
  obtain ⟨gt, hgt⟩ := kbT FT
  have dTr : MadeK P w K mg base "Trend" E 7 ["self", "works", "point", "size", "since", "till", "odd"] 5 [] gTr (spTrInit C E K) :=
    ⟨fp, fdp, gt, hE, Mt, hgt, ok_trInit Wt FT dWC dCP dSize dWin⟩
  have dPR := d_ptR T Wh Wt aPRight eHy tRo tFi dCo dF eSh
  exact ok_law F' T W Wh Wt dWo hd1 hd2 hd3 hd4 dTr (d_cell T aCell) (d_box T aBox) dt dn dPo dLt dHi eHe tHe dPR
end V45

namespace V45
open PySem PySem.Spec PyProof.Rows L2 Pw
theorem facts {P : Program} {w : World} {K : PySem.W.Frag} {h : Heap} {mg : Str → Option Value} {f : Addr} (X : K.In h) (G : h.Ns mainGlobals mg) (hfa : mg ("law" : Str) = some (.ref f)) (c : SaysB fb fn K) :
    ∃ fd : FuncData, (∀ (s : Shared) (v : Value), BindsTo s fd ⟨[v], []⟩ [("_law_script", v)]) ∧ ∀ base : Heap, K.In base → base.Ns mainGlobals mg → FnG P w K mg base CX0 16 f fd ["_law_script"] (spLaw K) := by
  have z_KeyError : PySem.W.nsIn K mainGlobals "KeyError" = some none := He.eqO_ok (c.fact (f := (He.Fa.free "KeyError").ok) 0 rfl)
  have z_ValueError : PySem.W.nsIn K mainGlobals "ValueError" = some none := He.eqO_ok (c.fact (f := (He.Fa.free "ValueError").ok) 1 rfl)
  have z_all : PySem.W.nsIn K mainGlobals "all" = some none := He.eqO_ok (c.fact (f := (He.Fa.free "all").ok) 2 rfl)
  have z_bool : PySem.W.nsIn K mainGlobals "bool" = some none := He.eqO_ok (c.fact (f := (He.Fa.free "bool").ok) 3 rfl)
  have z_dict : PySem.W.nsIn K mainGlobals "dict" = some none := He.eqO_ok (c.fact (f := (He.Fa.free "dict").ok) 4 rfl)
  have z_enumerate : PySem.W.nsIn K mainGlobals "enumerate" = some none := He.eqO_ok (c.fact (f := (He.Fa.free "enumerate").ok) 5 rfl)
  have z_int : PySem.W.nsIn K mainGlobals "int" = some none := He.eqO_ok (c.fact (f := (He.Fa.free "int").ok) 6 rfl)
  have z_isinstance : PySem.W.nsIn K mainGlobals "isinstance" = some none := He.eqO_ok (c.fact (f := (He.Fa.free "isinstance").ok) 7 rfl)
  have z_len : PySem.W.nsIn K mainGlobals "len" = some none := He.eqO_ok (c.fact (f := (He.Fa.free "len").ok) 8 rfl)
  have z_list : PySem.W.nsIn K mainGlobals "list" = some none := He.eqO_ok (c.fact (f := (He.Fa.free "list").ok) 9 rfl)
  have z_max : PySem.W.nsIn K mainGlobals "max" = some none := He.eqO_ok (c.fact (f := (He.Fa.free "max").ok) 10 rfl)
  have z_min : PySem.W.nsIn K mainGlobals "min" = some none := He.eqO_ok (c.fact (f := (He.Fa.free "min").ok) 11 rfl)
  have z_range : PySem.W.nsIn K mainGlobals "range" = some none := He.eqO_ok (c.fact (f := (He.Fa.free "range").ok) 12 rfl)
  have z_reversed : PySem.W.nsIn K mainGlobals "reversed" = some none := He.eqO_ok (c.fact (f := (He.Fa.free "reversed").ok) 13 rfl)
  have z_sorted : PySem.W.nsIn K mainGlobals "sorted" = some none := He.eqO_ok (c.fact (f := (He.Fa.free "sorted").ok) 14 rfl)
  have z_str : PySem.W.nsIn K mainGlobals "str" = some none := He.eqO_ok (c.fact (f := (He.Fa.free "str").ok) 15 rfl)
  have z_sum : PySem.W.nsIn K mainGlobals "sum" = some none := He.eqO_ok (c.fact (f := (He.Fa.free "sum").ok) 16 rfl)
  have z_tuple : PySem.W.nsIn K mainGlobals "tuple" = some none := He.eqO_ok (c.fact (f := (He.Fa.free "tuple").ok) 17 rfl)
  have z_zip : PySem.W.nsIn K mainGlobals "zip" = some none := He.eqO_ok (c.fact (f := (He.Fa.free "zip").ok) 18 rfl)
  have T : Txt mg :=
    {KeyError := PySem.W.mg_none_of X G z_KeyError, ValueError := PySem.W.mg_none_of X G z_ValueError, all := PySem.W.mg_none_of X G z_all, bool := PySem.W.mg_none_of X G z_bool, dict := PySem.W.mg_none_of X G z_dict, enumerate := PySem.W.mg_none_of X G z_enumerate, int := PySem.W.mg_none_of X G z_int, isinstance := PySem.W.mg_none_of X G z_isinstance, len := PySem.W.mg_none_of X G z_len, list := PySem.W.mg_none_of X G z_list, max := PySem.W.mg_none_of X G z_max, min := PySem.W.mg_none_of X G z_min, range := PySem.W.mg_none_of X G z_range, reversed := PySem.W.mg_none_of X G z_reversed, sorted := PySem.W.mg_none_of X G z_sorted, str := PySem.W.mg_none_of X G z_str, sum := PySem.W.mg_none_of X G z_sum, tuple := PySem.W.mg_none_of X G z_tuple, zip := PySem.W.mg_none_of X G z_zip, cMOST_TIME := He.int_ok X G (c.fact (f := (He.Fa.int "MOST_TIME" 9999).ok) 19 rfl), cMOST_LEVEL := He.int_ok X G (c.fact (f := (He.Fa.int "MOST_LEVEL" 63).ok) 20 rfl), c_MOST_NAME := He.int_ok X G (c.fact (f := (He.Fa.int "_MOST_NAME" 8).ok) 21 rfl), c_MOST_LOCKS := He.int_ok X G (c.fact (f := (He.Fa.int "_MOST_LOCKS" 4).ok) 22 rfl), c_MOST_PARTS := He.int_ok X G (c.fact (f := (He.Fa.int "_MOST_PARTS" 3).ok) 23 rfl), c_MOST_HOLD := He.int_ok X G (c.fact (f := (He.Fa.int "_MOST_HOLD" 99).ok) 24 rfl), c_MOST_RANK := He.int_ok X G (c.fact (f := (He.Fa.int "_MOST_RANK" 3).ok) 25 rfl), c_MOST_WITHIN := He.int_ok X G (c.fact (f := (He.Fa.int "_MOST_WITHIN" 999).ok) 26 rfl), c_MOST_PLACES := He.int_ok X G (c.fact (f := (He.Fa.int "_MOST_PLACES" 3).ok) 27 rfl), c_MOST_POINTS := He.int_ok X G (c.fact (f := (He.Fa.int "_MOST_POINTS" 8).ok) 28 rfl), c_MOST_RULES := He.int_ok X G (c.fact (f := (He.Fa.int "_MOST_RULES" 6).ok) 29 rfl), c_MOST_CAUSES := He.int_ok X G (c.fact (f := (He.Fa.int "_MOST_CAUSES" 8).ok) 30 rfl), c_MOST_COMMANDS := He.int_ok X G (c.fact (f := (He.Fa.int "_MOST_COMMANDS" 4).ok) 31 rfl), c_MOST_RELATIONS := He.int_ok X G (c.fact (f := (He.Fa.int "_MOST_RELATIONS" 5).ok) 32 rfl), c_MOST_LETTERS := He.int_ok X G (c.fact (f := (He.Fa.int "_MOST_LETTERS" 40).ok) 33 rfl), c_MOST_SIGNS := He.int_ok X G (c.fact (f := (He.Fa.int "_MOST_SIGNS" 12).ok) 34 rfl), c_MOST_TICKS := He.int_ok X G (c.fact (f := (He.Fa.int "_MOST_TICKS" 1000).ok) 35 rfl), c_MOST_SIZE := He.int_ok X G (c.fact (f := (He.Fa.int "_MOST_SIZE" 400).ok) 36 rfl)}
  have aNumber : At K mg "_is_number" sIsNumber := atOf X G (c.fact (f := (He.Fa.glo "_is_number").ok) 37 rfl) (c.def_ (d := dfN "_is_number" sIsNumber) 0 rfl)
  have aCheck : At K mg "_check_number" sCheckNumber := atOf X G (c.fact (f := (He.Fa.glo "_check_number").ok) 38 rfl) (c.def_ (d := dfN "_check_number" sCheckNumber) 1 rfl)
  have aWhole : At K mg "is_whole" sIsWhole := atOf X G (c.fact (f := (He.Fa.glo "is_whole").ok) 39 rfl) (c.def_ (d := dfN "is_whole" sIsWhole) 2 rfl)
  have aName : At K mg "is_name" sIsName := atOf X G (c.fact (f := (He.Fa.glo "is_name").ok) 40 rfl) (c.def_ (d := dfN "is_name" sIsName) 3 rfl)
  have aTime : At K mg "is_time" sIsTime := atOf X G (c.fact (f := (He.Fa.glo "is_time").ok) 41 rfl) (c.def_ (d := dfN "is_time" sIsTime) 4 rfl)
  have aMark : At K mg "is_mark" sIsMark := atOf X G (c.fact (f := (He.Fa.glo "is_mark").ok) 42 rfl) (c.def_ (d := dfN "is_mark" sIsMark) 5 rfl)
  have aOneOf : At K mg "is_one_of" sIsOneOf := atOf X G (c.fact (f := (He.Fa.glo "is_one_of").ok) 43 rfl) (c.def_ (d := dfN "is_one_of" sIsOneOf) 6 rfl)
  have aTuple : At K mg "is_tuple" sIsTuple := atOf X G (c.fact (f := (He.Fa.glo "is_tuple").ok) 44 rfl) (c.def_ (d := dfN "is_tuple" sIsTuple) 7 rfl)
  have aList : At K mg "is_list" sIsList := atOf X G (c.fact (f := (He.Fa.glo "is_list").ok) 45 rfl) (c.def_ (d := dfN "is_list" sIsList) 8 rfl)
  have aListOf : At K mg "is_list_of" sIsListOf := atOf X G (c.fact (f := (He.Fa.glo "is_list_of").ok) 46 rfl) (c.def_ (d := dfN "is_list_of" sIsListOf) 9 rfl)
  have aPointS : At K mg "is_point_shape" sIsPointShape := atOf X G (c.fact (f := (He.Fa.glo "is_point_shape").ok) 47 rfl) (c.def_ (d := dfN "is_point_shape" sIsPointShape) 10 rfl)
  have aOnce : At K mg "_check_each_once" sCheckEachOnce := atOf X G (c.fact (f := (He.Fa.glo "_check_each_once").ok) 48 rfl) (c.def_ (d := dfN "_check_each_once" sCheckEachOnce) 11 rfl)
  have aByName : At K mg "by_name" sByName := atOf X G (c.fact (f := (He.Fa.glo "by_name").ok) 49 rfl) (c.def_ (d := dfN "by_name" sByName) 12 rfl)
  have aPoints : At K mg "check_points" sCheckPoints := atOf X G (c.fact (f := (He.Fa.glo "check_points").ok) 50 rfl) (c.def_ (d := dfN "check_points" sCheckPoints) 13 rfl)
  have aRules : At K mg "check_rules" sCheckRules := atOf X G (c.fact (f := (He.Fa.glo "check_rules").ok) 51 rfl) (c.def_ (d := dfN "check_rules" sCheckRules) 14 rfl)
  have aRuleS : At K mg "is_rule_shape" sIsRuleShape := atOf X G (c.fact (f := (He.Fa.glo "is_rule_shape").ok) 52 rfl) (c.def_ (d := dfN "is_rule_shape" sIsRuleShape) 15 rfl)
  have aCauses : At K mg "check_causes" sCheckCauses := atOf X G (c.fact (f := (He.Fa.glo "check_causes").ok) 53 rfl) (c.def_ (d := dfN "check_causes" sCheckCauses) 16 rfl)
  have aCauseS : At K mg "is_cause_shape" sIsCauseShape := atOf X G (c.fact (f := (He.Fa.glo "is_cause_shape").ok) 54 rfl) (c.def_ (d := dfN "is_cause_shape" sIsCauseShape) 17 rfl)
  have aLeads : At K mg "_leads_to_itself" sLeadsToItself := atOf X G (c.fact (f := (He.Fa.glo "_leads_to_itself").ok) 55 rfl) (c.def_ (d := dfN "_leads_to_itself" sLeadsToItself) 18 rfl)
  have aCommands : At K mg "check_commands" sCheckCommands := atOf X G (c.fact (f := (He.Fa.glo "check_commands").ok) 56 rfl) (c.def_ (d := dfN "check_commands" sCheckCommands) 19 rfl)
  have aCommandS : At K mg "is_command_shape" sIsCommandShape := atOf X G (c.fact (f := (He.Fa.glo "is_command_shape").ok) 57 rfl) (c.def_ (d := dfN "is_command_shape" sIsCommandShape) 20 rfl)
  have aWorthOf : At K mg "is_worth_of" sIsWorthOf := atOf X G (c.fact (f := (He.Fa.glo "is_worth_of").ok) 58 rfl) (c.def_ (d := dfN "is_worth_of" sIsWorthOf) 21 rfl)
  have aLocks : At K mg "_check_locks" sCheckLocks := atOf X G (c.fact (f := (He.Fa.glo "_check_locks").ok) 59 rfl) (c.def_ (d := dfN "_check_locks" sCheckLocks) 22 rfl)
  have aRelations : At K mg "check_relations" sCheckRelations := atOf X G (c.fact (f := (He.Fa.glo "check_relations").ok) 60 rfl) (c.def_ (d := dfN "check_relations" sCheckRelations) 23 rfl)
  have aRelS : At K mg "is_relation_shape" sIsRelationShape := atOf X G (c.fact (f := (He.Fa.glo "is_relation_shape").ok) 61 rfl) (c.def_ (d := dfN "is_relation_shape" sIsRelationShape) 24 rfl)
  have aPtsRel : At K mg "points_of_relation" sPointsOfRelation := atOf X G (c.fact (f := (He.Fa.glo "points_of_relation").ok) 62 rfl) (c.def_ (d := dfN "points_of_relation" sPointsOfRelation) 25 rfl)
  have aWorksC : At K mg "check_works" sCheckWorks := atOf X G (c.fact (f := (He.Fa.glo "check_works").ok) 63 rfl) (c.def_ (d := dfN "check_works" sCheckWorks) 26 rfl)
  have aPointC : At K mg "check_point" sCheckPoint := atOf X G (c.fact (f := (He.Fa.glo "check_point").ok) 64 rfl) (c.def_ (d := dfN "check_point" sCheckPoint) 27 rfl)
  have aPlaceC : At K mg "check_place" sCheckPlace := atOf X G (c.fact (f := (He.Fa.glo "check_place").ok) 65 rfl) (c.def_ (d := dfN "check_place" sCheckPlace) 28 rfl)
  have aSign : At K mg "is_sign" sIsSign := atOf X G (c.fact (f := (He.Fa.glo "is_sign").ok) 66 rfl) (c.def_ (d := dfN "is_sign" sIsSign) 29 rfl)
  have aSigns : At K mg "is_signs" sIsSigns := atOf X G (c.fact (f := (He.Fa.glo "is_signs").ok) 67 rfl) (c.def_ (d := dfN "is_signs" sIsSigns) 30 rfl)
  have aSignAt : At K mg "_is_sign_at" sIsSignAt := atOf X G (c.fact (f := (He.Fa.glo "_is_sign_at").ok) 68 rfl) (c.def_ (d := dfN "_is_sign_at" sIsSignAt) 31 rfl)
  have aRowsIn : At K mg "rows_in" sRowsIn := atOf X G (c.fact (f := (He.Fa.glo "rows_in").ok) 69 rfl) (c.def_ (d := dfN "rows_in" sRowsIn) 32 rfl)
  have aSignsC : At K mg "check_signs" sCheckSigns := atOf X G (c.fact (f := (He.Fa.glo "check_signs").ok) 70 rfl) (c.def_ (d := dfN "check_signs" sCheckSigns) 33 rfl)
  have aFit : At K mg "_fit" sFit := atOf X G (c.fact (f := (He.Fa.glo "_fit").ok) 71 rfl) (c.def_ (d := dfN "_fit" sFit) 34 rfl)
  have aRising : At K mg "is_rising" sIsRising := atOf X G (c.fact (f := (He.Fa.glo "is_rising").ok) 72 rfl) (c.def_ (d := dfN "is_rising" sIsRising) 35 rfl)
  have aCTime : At K mg "check_time" sCheckTime := atOf X G (c.fact (f := (He.Fa.glo "check_time").ok) 73 rfl) (c.def_ (d := dfN "check_time" sCheckTime) 36 rfl)
  have aCWhole : At K mg "check_whole" sCheckWhole := atOf X G (c.fact (f := (He.Fa.glo "check_whole").ok) 74 rfl) (c.def_ (d := dfN "check_whole" sCheckWhole) 37 rfl)
  have aCTruth : At K mg "check_truth" sCheckTruth := atOf X G (c.fact (f := (He.Fa.glo "check_truth").ok) 75 rfl) (c.def_ (d := dfN "check_truth" sCheckTruth) 38 rfl)
  have aLevel : At K mg "is_level" sIsLevel := atOf X G (c.fact (f := (He.Fa.glo "is_level").ok) 76 rfl) (c.def_ (d := dfN "is_level" sIsLevel) 39 rfl)
  have aRow : At K mg "is_row" sIsRow := atOf X G (c.fact (f := (He.Fa.glo "is_row").ok) 77 rfl) (c.def_ (d := dfN "is_row" sIsRow) 40 rfl)
  have aHistory : At K mg "is_history" sIsHistory := atOf X G (c.fact (f := (He.Fa.glo "is_history").ok) 78 rfl) (c.def_ (d := dfN "is_history" sIsHistory) 41 rfl)
  have aCHist : At K mg "check_history" sCheckHistory := atOf X G (c.fact (f := (He.Fa.glo "check_history").ok) 79 rfl) (c.def_ (d := dfN "check_history" sCheckHistory) 42 rfl)
  have aGoods : At K mg "good_rows" sGoodRows := atOf X G (c.fact (f := (He.Fa.glo "good_rows").ok) 80 rfl) (c.def_ (d := dfN "good_rows" sGoodRows) 43 rfl)
  have aCSize : At K mg "_check_size" sCheckSize := atOf X G (c.fact (f := (He.Fa.glo "_check_size").ok) 81 rfl) (c.def_ (d := dfN "_check_size" sCheckSize) 44 rfl)
  have aCWin : At K mg "_check_window" sCheckWindow := atOf X G (c.fact (f := (He.Fa.glo "_check_window").ok) 82 rfl) (c.def_ (d := dfN "_check_window" sCheckWindow) 45 rfl)
  have aFineR : At K mg "_fine_rows" sFineRows := atOf X G (c.fact (f := (He.Fa.glo "_fine_rows").ok) 83 rfl) (c.def_ (d := dfN "_fine_rows" sFineRows) 46 rfl)
  have aCoR : At K mg "_coarse_rows" sCoarseRows := atOf X G (c.fact (f := (He.Fa.glo "_coarse_rows").ok) 84 rfl) (c.def_ (d := dfN "_coarse_rows" sCoarseRows) 47 rfl)
  have aHistOf : At K mg "history_of" sHistoryOf := atOf X G (c.fact (f := (He.Fa.glo "history_of").ok) 85 rfl) (c.def_ (d := dfN "history_of" sHistoryOf) 48 rfl)
  have aRowAt : At K mg "row_at" sRowAt := atOf X G (c.fact (f := (He.Fa.glo "row_at").ok) 86 rfl) (c.def_ (d := dfN "row_at" sRowAt) 49 rfl)
  have aCell : At K mg "_law_cell" sLawCell := atOf X G (c.fact (f := (He.Fa.glo "_law_cell").ok) 87 rfl) (c.def_ (d := dfN "_law_cell" sLawCell) 50 rfl)
  have aBox : At K mg "_law_box" sLawBox := atOf X G (c.fact (f := (He.Fa.glo "_law_box").ok) 88 rfl) (c.def_ (d := dfN "_law_box" sLawBox) 51 rfl)
  have aTake : At K mg "_law_take" sLawTake := atOf X G (c.fact (f := (He.Fa.glo "_law_take").ok) 89 rfl) (c.def_ (d := dfN "_law_take" sLawTake) 52 rfl)
  have aLNames : At K mg "_law_names" sLawNames := atOf X G (c.fact (f := (He.Fa.glo "_law_names").ok) 90 rfl) (c.def_ (d := dfN "_law_names" sLawNames) 53 rfl)
  have aLPoints : At K mg "_law_points" sLawPoints := atOf X G (c.fact (f := (He.Fa.glo "_law_points").ok) 91 rfl) (c.def_ (d := dfN "_law_points" sLawPoints) 54 rfl)
  have aLRows : At K mg "_law_rows" sLawRows := atOf X G (c.fact (f := (He.Fa.glo "_law_rows").ok) 92 rfl) (c.def_ (d := dfN "_law_rows" sLawRows) 55 rfl)
  have aLLetters : At K mg "_law_letters" sLawLetters := atOf X G (c.fact (f := (He.Fa.glo "_law_letters").ok) 93 rfl) (c.def_ (d := dfN "_law_letters" sLawLetters) 56 rfl)
  have aPRight : At K mg "_law_point_right" sLawPointRight := atOf X G (c.fact (f := (He.Fa.glo "_law_point_right").ok) 94 rfl) (c.def_ (d := dfN "_law_point_right" sLawPointRight) 57 rfl)
  have aLaw : At K mg "law" sLaw := atOf X G (c.fact (f := (He.Fa.glo "law").ok) 95 rfl) (c.def_ (d := dfN "law" sLaw) 58 rfl)
  have aFine : AtD K mg "fine" sFine [("odd", .bl true)] := atDOf X G (c.fact (f := (He.Fa.glo "fine").ok) 96 rfl) (c.def_ (d := dfK "fine" sFine [("odd", .bl true)]) 59 rfl)
  have aCo : AtD K mg "coarse" sCoarse [("odd", .bl true)] := atDOf X G (c.fact (f := (He.Fa.glo "coarse").ok) 97 rfl) (c.def_ (d := dfK "coarse" sCoarse [("odd", .bl true)]) 60 rfl)
  have hC : mg "Works" = some (.ref (He.ga K "Works")) := He.glo_ok X G (c.fact (f := (He.Fa.glo "Works").ok) 100 rfl)
  have W : WoC K (He.ga K "Works") := ⟨He.cls_ok (c.fact (f := (He.Fa.cls "Works").ok) 101 rfl), He.noat_ok (c.fact (f := (He.Fa.noat "Works" "_points").ok) 106 rfl), He.noat_ok (c.fact (f := (He.Fa.noat "Works" "_point_by_name").ok) 107 rfl), He.noat_ok (c.fact (f := (He.Fa.noat "Works" "_rules").ok) 108 rfl), He.noat_ok (c.fact (f := (He.Fa.noat "Works" "_rule_by_name").ok) 109 rfl), He.noat_ok (c.fact (f := (He.Fa.noat "Works" "_causes").ok) 110 rfl), He.noat_ok (c.fact (f := (He.Fa.noat "Works" "_commands").ok) 111 rfl), He.noat_ok (c.fact (f := (He.Fa.noat "Works" "_command_by_name").ok) 112 rfl), He.noat_ok (c.fact (f := (He.Fa.noat "Works" "_relations").ok) 113 rfl)⟩
  have Wq : WoQ K (He.ga K "Works") := ⟨He.eqO_ok (c.fact (f := (fun K => He.eqO (PySem.W.findIn K (.ref (He.ga K "Works")) "__class__") (some (some (.builtin "object.__class__"))))) 148 rfl), He.eqO_ok (c.fact (f := hnB) 98 rfl), of_decide_eq_true (c.fact (f := htB) 99 rfl), of_decide_eq_true (c.fact (f := (fun K => decide (PySem.W.mroIn K (He.ga K "Works") (.type "object") = some true))) 149 rfl), of_decide_eq_true (c.fact (f := (fun K => decide (PySem.W.kitOne K (.ref (He.ga K "Works")) (.ref (He.ga K "Works")) = some true))) 150 rfl)⟩
  obtain ⟨fdi, FI⟩ := (c.def_ (d := dfMK "Works" "__init__" "Works.__init__" mWorks_Init [("rules", .adr (dAd "rules")), ("causes", .adr (dAd "causes")), ("commands", .adr (dAd "commands")), ("relations", .adr (dAd "relations"))]) 79 rfl)
  have hD : mg "Hearing" = some (.ref (He.ga K "Hearing")) := He.glo_ok X G (c.fact (f := (He.Fa.glo "Hearing").ok) 103 rfl)
  have Wh : HeC K (He.ga K "Hearing") := ⟨He.cls_ok (c.fact (f := (He.Fa.cls "Hearing").ok) 104 rfl), He.noat_ok (c.fact (f := (He.Fa.noat "Hearing" "_works").ok) 114 rfl), He.noat_ok (c.fact (f := (He.Fa.noat "Hearing" "_heard").ok) 115 rfl), He.noat_ok (c.fact (f := (He.Fa.noat "Hearing" "_hands").ok) 116 rfl)⟩
  obtain ⟨fdh, FH⟩ := iniOf (x := "Hearing") (q := "Hearing.__init__") (st := mHearing_Init) (c.def_ (d := dfM "Hearing" "__init__" "Hearing.__init__" mHearing_Init) 67 rfl)
  have hE : mg "Trend" = some (.ref (He.ga K "Trend")) := He.glo_ok X G (c.fact (f := (He.Fa.glo "Trend").ok) 141 rfl)
  have Wt : TrC K (He.ga K "Trend") := ⟨He.cls_ok (c.fact (f := (He.Fa.cls "Trend").ok) 142 rfl), He.noat_ok (c.fact (f := (He.Fa.noat "Trend" "_works").ok) 134 rfl), He.noat_ok (c.fact (f := (He.Fa.noat "Trend" "_point").ok) 135 rfl), He.noat_ok (c.fact (f := (He.Fa.noat "Trend" "_size").ok) 136 rfl), He.noat_ok (c.fact (f := (He.Fa.noat "Trend" "_since").ok) 137 rfl), He.noat_ok (c.fact (f := (He.Fa.noat "Trend" "_till").ok) 138 rfl), He.noat_ok (c.fact (f := (He.Fa.noat "Trend" "_odd").ok) 139 rfl), He.noat_ok (c.fact (f := (He.Fa.noat "Trend" "_heard").ok) 140 rfl)⟩
  obtain ⟨fdp, FT⟩ := (c.def_ (d := dfMK "Trend" "__init__" "Trend.__init__" mTrend_Init [("odd", .bl true)]) 80 rfl)
  have pTrHear : AtMt K (He.ga K "Trend") "hear" "Trend.hear" mTrend_Hear := atMtOf (c.fact (f := (He.Fa.meth "Trend" "hear").ok) 130 rfl) (c.def_ (d := dfM "Trend" "hear" "Trend.hear" mTrend_Hear) 75 rfl)
  have pTrRows : AtMt K (He.ga K "Trend") "rows" "Trend.rows" mTrend_Rows := atMtOf (c.fact (f := (He.Fa.meth "Trend" "rows").ok) 131 rfl) (c.def_ (d := dfM "Trend" "rows" "Trend.rows" mTrend_Rows) 76 rfl)
  have pTrFine : AtMt K (He.ga K "Trend") "fine" "Trend.fine" mTrend_Fine := atMtOf (c.fact (f := (He.Fa.meth "Trend" "fine").ok) 132 rfl) (c.def_ (d := dfM "Trend" "fine" "Trend.fine" mTrend_Fine) 77 rfl)
  have pTrHeard : AtMt K (He.ga K "Trend") "heard" "Trend.heard" mTrend_Heard := atMtOf (c.fact (f := (He.Fa.meth "Trend" "heard").ok) 133 rfl) (c.def_ (d := dfM "Trend" "heard" "Trend.heard" mTrend_Heard) 78 rfl)
  have mPlaces : AtMt K (He.ga K "Works") "places" "Works.places" mWorks_Places := atMtOf (c.fact (f := (He.Fa.meth "Works" "places").ok) 117 rfl) (c.def_ (d := dfM "Works" "places" "Works.places" mWorks_Places) 61 rfl)
  have mPoint : AtMt K (He.ga K "Works") "point" "Works.point" mWorks_Point := atMtOf (c.fact (f := (He.Fa.meth "Works" "point").ok) 118 rfl) (c.def_ (d := dfM "Works" "point" "Works.point" mWorks_Point) 62 rfl)
  have mPtsAt : AtMt K (He.ga K "Works") "points_at" "Works.points_at" mWorks_PointsAt := atMtOf (c.fact (f := (He.Fa.meth "Works" "points_at").ok) 119 rfl) (c.def_ (d := dfM "Works" "points_at" "Works.points_at" mWorks_PointsAt) 63 rfl)
  have mIsW : AtMt K (He.ga K "Works") "is_worth" "Works.is_worth" mWorks_IsWorth := atMtOf (c.fact (f := (He.Fa.meth "Works" "is_worth").ok) 120 rfl) (c.def_ (d := dfM "Works" "is_worth" "Works.is_worth" mWorks_IsWorth) 64 rfl)
  have mHasP : AtMt K (He.ga K "Works") "has_point" "Works.has_point" mWorks_HasPoint := atMtOf (c.fact (f := (He.Fa.meth "Works" "has_point").ok) 121 rfl) (c.def_ (d := dfM "Works" "has_point" "Works.has_point" mWorks_HasPoint) 65 rfl)
  have mHasPl : AtMt K (He.ga K "Works") "has_place" "Works.has_place" mWorks_HasPlace := atMtOf (c.fact (f := (He.Fa.meth "Works" "has_place").ok) 122 rfl) (c.def_ (d := dfM "Works" "has_place" "Works.has_place" mWorks_HasPlace) 66 rfl)
  have hHear : AtMt K (He.ga K "Hearing") "hear" "Hearing.hear" mHearing_Hear := atMtOf (c.fact (f := (He.Fa.meth "Hearing" "hear").ok) 123 rfl) (c.def_ (d := dfM "Hearing" "hear" "Hearing.hear" mHearing_Hear) 68 rfl)
  have hKnown : AtMt K (He.ga K "Hearing") "known" "Hearing.known" mHearing_Known := atMtOf (c.fact (f := (He.Fa.meth "Hearing" "known").ok) 124 rfl) (c.def_ (d := dfM "Hearing" "known" "Hearing.known" mHearing_Known) 69 rfl)
  have hHist : AtMt K (He.ga K "Hearing") "history" "Hearing.history" mHearing_History := atMtOf (c.fact (f := (He.Fa.meth "Hearing" "history").ok) 125 rfl) (c.def_ (d := dfM "Hearing" "history" "Hearing.history" mHearing_History) 70 rfl)
  have hShow : AtMt K (He.ga K "Hearing") "show" "Hearing.show" mHearing_Show := atMtOf (c.fact (f := (He.Fa.meth "Hearing" "show").ok) 126 rfl) (c.def_ (d := dfM "Hearing" "show" "Hearing.show" mHearing_Show) 71 rfl)
  have hLtsOf : AtMt K (He.ga K "Hearing") "_letters_of" "Hearing._letters_of" mHearing_LettersOf := atMtOf (c.fact (f := (He.Fa.meth "Hearing" "_letters_of").ok) 127 rfl) (c.def_ (d := dfM "Hearing" "_letters_of" "Hearing._letters_of" mHearing_LettersOf) 72 rfl)
  have hIxH : AtMt K (He.ga K "Hearing") "_index_of_hand" "Hearing._index_of_hand" mHearing_IndexOfHand := atMtOf (c.fact (f := (He.Fa.meth "Hearing" "_index_of_hand").ok) 128 rfl) (c.def_ (d := dfM "Hearing" "_index_of_hand" "Hearing._index_of_hand" mHearing_IndexOfHand) 73 rfl)
  have hState : AtMt K (He.ga K "Hearing") "_state" "Hearing._state" mHearing_State := atMtOf (c.fact (f := (He.Fa.meth "Hearing" "_state").ok) 129 rfl) (c.def_ (d := dfM "Hearing" "_state" "Hearing._state" mHearing_State) 74 rfl)
  exact fin hfa T W Wq hC (He.mkr_ok (c.fact (f := (He.Fa.mkr "Works").ok) 102 rfl)) FI (dNo_ok (c.fact (f := (dNo "rules")) 144 rfl)) (dNo_ok (c.fact (f := (dNo "causes")) 145 rfl)) (dNo_ok (c.fact (f := (dNo "commands")) 146 rfl)) (dNo_ok (c.fact (f := (dNo "relations")) 147 rfl)) Wh hD (He.mkr_ok (c.fact (f := (He.Fa.mkr "Hearing").ok) 105 rfl)) FH Wt hE (He.mkr_ok (c.fact (f := (He.Fa.mkr "Trend").ok) 143 rfl)) FT mPlaces mPoint mPtsAt mIsW mHasP mHasPl hHear hKnown hHist hShow hLtsOf hIxH hState pTrHear pTrRows pTrFine pTrHeard aNumber aCheck aWhole aName aTime aMark aOneOf aTuple aList aListOf aPointS aOnce aByName aPoints aRules aRuleS aCauses aCauseS aLeads aCommands aCommandS aWorthOf aLocks aRelations aRelS aPtsRel aWorksC aPointC aPlaceC aSign aSigns aSignAt aRowsIn aSignsC aFit aRising aCTime aCWhole aCTruth aLevel aRow aHistory aCHist aGoods aCSize aCWin aFineR aCoR aHistOf aRowAt aCell aBox aTake aLNames aLPoints aLRows aLLetters aPRight aLaw aFine aCo
end V45

set_option maxHeartbeats 0
open PySem PySem.W PySem.Calls PyProof.Rows
theorem PySem.Challenge.cw_panelwatch_k45_whole_trends_as_hearings_holds : PySem.Challenge.rw_panelwatch_k45_whole_trends_as_hearings.Holds := by
  w_on; o_law
  refine HandSHeadRun.head_any (r := OpenLaw.row PySem.Challenge.rw_panelwatch_k45_whole_trends_as_hearings) (q := view (OpenLaw.row PySem.Challenge.rw_panelwatch_k45_whole_trends_as_hearings).prog [115]) (H := V45.hk) (ob := V45.ob) (M := 30000) (loose := V45.loose)
    (d := HandSHeadRun.topDef (OpenLaw.row PySem.Challenge.rw_panelwatch_k45_whole_trends_as_hearings).prog 115) (kwd := []) V45.ob_eq
    (by kernel_rfl) (fun s => by kernel_rfl) V45.run (by kernel_rfl) (by kernel_rfl) (by kernel_rfl) (by rfl) (by first | assumption | decide +kernel) (by decide +kernel) ⟨rfl, rfl, rfl, rfl, rfl, by decide +kernel⟩ ?hw ?hc
  case hw => w_witness2
  case hc =>
    refine Pw.walkE (l := PySem.Challenge.rw_panelwatch_k45_whole_trends_as_hearings) (n := 63) (k := 16) (x := "_law_script") (CX := L2.CX0) rfl (by decide) (by kernel_rfl) ⟨rfl, by decide, by decide⟩ ?F (fun _ _ _ _ z => z)
    intro w mg fa h Y G hmg0
    obtain ⟨K, KX, c⟩ := Y
    have hmg : mg ("law" : PySem.Str) = some (.ref fa) := by
      have e : (HandSHeadRun.topDef (OpenLaw.row PySem.Challenge.rw_panelwatch_k45_whole_trends_as_hearings).prog 115).name = ("law" : PySem.Str) := by kernel_rfl
      rw [← e]
      exact hmg0
    obtain ⟨fd, hb, hF⟩ := V45.facts (P := (PySem.Challenge.rw_panelwatch_k45_whole_trends_as_hearings).prog) (w := w) KX G hmg c
    exact ⟨K, fd, V45.spLaw K, KX, hb, fun H a ns hl _ hS => ⟨a, ns, rfl, hS, hl, fun _ => rfl⟩, hF⟩

