import PyProof.Rows.All
import PySem.Challenge.RW_panelwatch_k59_whole_one_term_at_a_place
import HandS.Defaults
import HandS.Words
import HandS.Head0
import HandS.Head1
import HandS.Head2
import HandS.HeadEnd
import HandS.HeadHook1
import HandS.HeadHook2
import HandS.List
import Wide.All
import OpenK.AllK
import Wide.FinOn
import HandS.ForSpec
import HandS.Comp
import HandS.Dict
import HandS.Iter
import HandS.Text
import HandS.IsInst
import HandS.Wide
import HandS.ExcInit
import HandS.ExcIs
import PyProof.ExcStrAll.ValueError
import PyProof.ReprRoads
import PyProof.CallFns
import HandS.Walk
import HandS.Zip
import HandS.DictTup
import HandS.SortInts
import HandS.IterVal
import HandS.SetBool
import HandS.SetKeys
import HandS.ForMost
import HandS.MakeKwOnly
import HandS.Codes
import HandS.DictComp
import PyProof.ExcBaseAll.LookupError
import PyProof.ExcBaseAll.ValueError
import KE.KExcInit
import HandS.MakeKw
import HandS.ExcField
import HandS.ExcValue
import HandS.TryMany
import HandS.CallSlots
import HandS.WordsExc
import HandS.Star
import HandS.Rev
import HandS.Set
import PyProof.Rows.SortShellAny
import KE.KDictPairs
import HandS.TupAny
import HandS.TupMul
import HandS.Style
import HandS.Conv
import HandS.ListItems
import KE.KDictList
import HandS.SortRule
import HandS.More
import HandS.Small
import HandS.DeepEq
import PyProof.DictMoreH
import KE.KItemsList
import PyProof.ZipIter
set_option Elab.async false
set_option linter.all false
set_option maxRecDepth 100000
set_option maxHeartbeats 4000000
namespace V59
open PySem PySem.Spec PyProof.Rows L2
def top (i : Nat) : Stmt := PySem.Challenge.pw_panelwatch_k59_whole_one_term_at_a_place.main.body.getD i (.Pass ⟨0, 0, 0, 0⟩)
abbrev sWall : Stmt := top 0
abbrev sIsNumber : Stmt := top 31
abbrev sCheckNumber : Stmt := top 32
abbrev sIsWhole : Stmt := top 33
abbrev sIsName : Stmt := top 34
abbrev sIsTime : Stmt := top 35
abbrev sIsMark : Stmt := top 36
abbrev sIsTerm : Stmt := top 37
abbrev sIsId : Stmt := top 38
abbrev sIsOneOf : Stmt := top 39
abbrev sIsTuple : Stmt := top 40
abbrev sIsList : Stmt := top 41
abbrev sIsListOf : Stmt := top 42
abbrev sCheckTime : Stmt := top 43
abbrev sIsLevel : Stmt := top 50
abbrev sIsPointShape : Stmt := top 51
abbrev sIsRuleShape : Stmt := top 52
abbrev sIsCauseShape : Stmt := top 53
abbrev sIsLockShape : Stmt := top 54
abbrev sIsCommandShape : Stmt := top 55
abbrev sIsRelationShape : Stmt := top 56
abbrev sPointsOfRelation : Stmt := top 57
abbrev sByName : Stmt := top 65
abbrev sIsWorthOf : Stmt := top 66
abbrev sCheckPoints : Stmt := top 67
abbrev sCheckEachOnce : Stmt := top 68
abbrev sCheckRules : Stmt := top 69
abbrev sCheckCauses : Stmt := top 70
abbrev sLeadsToItself : Stmt := top 71
abbrev sCheckCommands : Stmt := top 72
abbrev sCheckLocks : Stmt := top 73
abbrev sCheckRelations : Stmt := top 74
abbrev sCheckWorks : Stmt := top 77
abbrev sCheckPlace : Stmt := top 78
abbrev sIsBeyond : Stmt := top 79
abbrev sLockHolds : Stmt := top 80
abbrev sIsOrder : Stmt := top 82
abbrev sLawCell : Stmt := top 86
abbrev sLawBox : Stmt := top 87
abbrev sLawTake : Stmt := top 88
abbrev sLawNames : Stmt := top 89
abbrev sLawMixed : Stmt := top 90
abbrev sLawPoints : Stmt := top 91
abbrev sLawBonds : Stmt := top 92
abbrev sLawMost : Stmt := top 93
abbrev sLawIn : Stmt := top 94
abbrev sLawHolds : Stmt := top 95
abbrev sLawBroken : Stmt := top 96
abbrev sLawPicture : Stmt := top 97
abbrev sLawLetters : Stmt := top 98
abbrev sLawRoad : Stmt := top 99
abbrev sLawRight : Stmt := top 100
abbrev sLaw : Stmt := top 101
abbrev mPanelError_Init : Stmt := inClass (top 2) 0
abbrev mAbsent_Init : Stmt := inClass (top 3) 0
abbrev mBarred_Init : Stmt := inClass (top 4) 0
abbrev mTooMany_Init : Stmt := inClass (top 5) 0
abbrev mNoTime_Init : Stmt := inClass (top 6) 0
abbrev mNoWorth_Init : Stmt := inClass (top 7) 0
abbrev mNoMark_Init : Stmt := inClass (top 8) 0
abbrev mNoNumber_Init : Stmt := inClass (top 9) 0
abbrev mNoPoints_Init : Stmt := inClass (top 10) 0
abbrev mNoRules_Init : Stmt := inClass (top 11) 0
abbrev mNoCauses_Init : Stmt := inClass (top 12) 0
abbrev mNoCommands_Init : Stmt := inClass (top 13) 0
abbrev mNoRelations_Init : Stmt := inClass (top 14) 0
abbrev mNoWorks_Init : Stmt := inClass (top 15) 0
abbrev mNoLetter_Init : Stmt := inClass (top 16) 0
abbrev mTwice_Init : Stmt := inClass (top 17) 0
abbrev mRing_Init : Stmt := inClass (top 18) 0
abbrev mNoPoint_Init : Stmt := inClass (top 19) 0
abbrev mNoPlace_Init : Stmt := inClass (top 20) 0
abbrev mNoRule_Init : Stmt := inClass (top 21) 0
abbrev mNoCommand_Init : Stmt := inClass (top 22) 0
abbrev mNotThere_Init : Stmt := inClass (top 23) 0
abbrev mNotNow_Init : Stmt := inClass (top 24) 0
abbrev mWorks_Init : Stmt := inClass (top 76) 0
abbrev mWorks_Eq : Stmt := inClass (top 76) 1
abbrev mWorks_Points : Stmt := inClass (top 76) 2
abbrev mWorks_Rules : Stmt := inClass (top 76) 3
abbrev mWorks_Causes : Stmt := inClass (top 76) 4
abbrev mWorks_Commands : Stmt := inClass (top 76) 5
abbrev mWorks_Relations : Stmt := inClass (top 76) 6
abbrev mWorks_Places : Stmt := inClass (top 76) 7
abbrev mWorks_Point : Stmt := inClass (top 76) 8
abbrev mWorks_Rule : Stmt := inClass (top 76) 9
abbrev mWorks_Command : Stmt := inClass (top 76) 10
abbrev mWorks_PointsAt : Stmt := inClass (top 76) 11
abbrev mWorks_IsWorth : Stmt := inClass (top 76) 12
abbrev mWorks_HasPoint : Stmt := inClass (top 76) 13
abbrev mWorks_HasPlace : Stmt := inClass (top 76) 14
abbrev mWorks_HasRule : Stmt := inClass (top 76) 15
abbrev mWorks_HasCommand : Stmt := inClass (top 76) 16
abbrev mWorks_CausesOf : Stmt := inClass (top 76) 17
abbrev mPlace_Init : Stmt := inClass (top 84) 0
abbrev mPlace_Eq : Stmt := inClass (top 84) 1
abbrev mPlace_Len : Stmt := inClass (top 84) 2
abbrev mPlace_Change : Stmt := inClass (top 84) 3
abbrev mPlace_Send : Stmt := inClass (top 84) 4
abbrev mPlace_Letter : Stmt := inClass (top 84) 5
abbrev mPlace_Hears : Stmt := inClass (top 84) 6
abbrev mPlace_Name : Stmt := inClass (top 84) 7
abbrev mPlace_Time : Stmt := inClass (top 84) 8
abbrev mPlace_Term : Stmt := inClass (top 84) 9
abbrev mPlace_Worth : Stmt := inClass (top 84) 10
abbrev mPlace_Mark : Stmt := inClass (top 84) 11
abbrev mPlace_Waiting : Stmt := inClass (top 84) 12
abbrev mPlace_Met : Stmt := inClass (top 84) 13
abbrev mPlace_Done : Stmt := inClass (top 84) 14
abbrev mPlace_Copied : Stmt := inClass (top 84) 15
abbrev mPlace_Marks : Stmt := inClass (top 84) 16
abbrev mPlace_CheckHere : Stmt := inClass (top 84) 17
abbrev mPlace_ComeTo : Stmt := inClass (top 84) 18
abbrev mPlace_Note : Stmt := inClass (top 84) 19
abbrev mPlace_Meet : Stmt := inClass (top 84) 20
abbrev mPlace_MayDo : Stmt := inClass (top 84) 21
end V59

namespace Pw
open PySem PySem.Spec PyProof.Rows L2
abbrev Fb := PySem.W.Frag → Bool
def obsB (fb : List Fb) (fn : List He.DefD) (K : PySem.W.Frag) : He.AlD := ((fb.all fun f => f K) && fn.all fun d => d.ok K, fn.map fun d => He.fnW K d.at_)
def SaysB (fb : List Fb) (fn : List He.DefD) (K : PySem.W.Frag) : Prop := obsB fb fn K = He.valD fn
/-- what an object names: a def's code and defaults; a class's names, its methods, their code -/
def kids (g : Addr → Option Obj) (a : Addr) : List Addr := match g a with
  | some ⟨_, _, .dict es _, _⟩ => es.toList.flatMap fun e => He.refV e.val
  | _ => []
def kid1 (g : Addr → Option Obj) (a : Addr) : List Addr := match g a with
  | some ⟨_, _, .func fd, _⟩ => He.refV fd.code ++ (He.refV fd.defaults ++ (He.refV fd.kwdefaults ++ (He.refV fd.kwdefaults).flatMap (kids g)))
  | _ => []
def kid2 (g : Addr → Option Obj) (a : Addr) : List Addr := match g a with
  | some ⟨_, _, .cls cd, _⟩ => cd.ns :: (kids g cd.ns).flatMap fun f => f :: kid1 g f
  | _ => kid1 g a
/-- what the module's names reach -/
def reachB (g : Addr → Option Obj) : List Addr := PySem.cStatics :: mainGlobals :: (kids g mainGlobals).flatMap fun a => a :: kid2 g a
def obsBG (n : Nat) (fb : List Fb) (fn : List He.DefD) (g : Addr → Option Obj) : He.AlD := obsB fb fn (He.frG g (reachB g))
def hookB (n : Nat) (fb : List Fb) (fn : List He.DefD) : PySem.W.Hook where
  α := He.AlD
  obs := fun s => obsBG n fb fn s.heap.get?
  val := fun _ => He.valD fn
  says := fun _ h => ∃ K : PySem.W.Frag, K.In h ∧ SaysB fb fn K
  of := fun _ _ e => ⟨_, He.frG_in, e⟩
  keeps := fun _ _ _ ⟨K, hK, c⟩ k => ⟨K, PySem.W.Frag.In.keeps hK k, c⟩
theorem obsBG_eq {n : Nat} {fb : List Fb} {fn : List He.DefD} {g : Addr → Option Obj} {s : Shared} (h : ∀ a, g a = s.heap.get? a) : obsBG n fb fn g = (hookB n fb fn).obs s := by
  have e : g = s.heap.get? := funext h
  rw [e] <;> rfl
def hnB : Fb := fun K => He.eqO (PySem.W.specialIn K (.builtin "object.__class__") "__get__") (some (some (.builtin "getset_descriptor.__get__")))
def htB : Fb := fun K => decide (PySem.W.takesIn K (.builtin "object.__class__") = some true)
abbrev dfN (x : Str) (st : Stmt) : He.DefD := ⟨(x, none), x, x, defArgs st, defBody st, defScope st, [], []⟩
end Pw

namespace V59
open PySem PySem.Spec PyProof.Rows L2 Pw
abbrev dfK (x : Str) (st : Stmt) (kw : List (Str × He.Dv)) : He.DefD := ⟨(x, none), x, x, defArgs st, defBody st, defScope st, [], kw⟩
abbrev dfM (c m q : Str) (st : Stmt) : He.DefD := ⟨(c, some m), m, q, defArgs st, defBody st, defScope st, [], []⟩
abbrev dfMK (c m q : Str) (st : Stmt) (kw : List (Str × He.Dv)) : He.DefD := ⟨(c, some m), m, q, defArgs st, defBody st, defScope st, [], kw⟩
/-- where a keyword's default of Works.__init__ stands -/
def dAd (x : Str) (K : PySem.W.Frag) : Addr := match K.lookup (He.ma K (He.ga K "Works") "__init__") with
  | some ⟨_, _, .func fd, _⟩ => (match fd.kwdefaults with
    | .ref D => (match PySem.W.nsIn K D x with
      | some (some (.ref a)) => a
      | _ => 0)
    | _ => 0)
  | _ => 0
def dNo (x : Str) (K : PySem.W.Frag) : Bool := match K.lookup (dAd x K) with
  | some ⟨.type "tuple", _, .seq its _, _⟩ => its.toList.isEmpty
  | _ => false
theorem dNo_ok {x : Str} {K : PySem.W.Frag} (h : dNo x K = true) : ∀ H, SqT K H (dAd x K) [] := fun H => by
  unfold dNo at h
  split at h
  · rename_i dd its n sl ho
    have e : its.toList = [] := List.isEmpty_iff.mp h
    refine .inr ⟨_, its, n, ho, rfl, rfl, ?_, ?_⟩
    · have : its.size = 0 := by rw [← Array.length_toList, e]; rfl
      rw [this]
      exact Nat.zero_le _
    · rw [e]
      exact .nil
  · cases h

def fb : List Fb := ([(He.Fa.free "KeyError").ok, (He.Fa.free "LookupError").ok, (He.Fa.free "ValueError").ok, (He.Fa.free "all").ok, (He.Fa.free "bool").ok, (He.Fa.free "enumerate").ok, (He.Fa.free "int").ok, (He.Fa.free "isinstance").ok, (He.Fa.free "len").ok, (He.Fa.free "list").ok, (He.Fa.free "max").ok, (He.Fa.free "min").ok, (He.Fa.free "range").ok, (He.Fa.free "sorted").ok, (He.Fa.free "str").ok, (He.Fa.free "sum").ok, (He.Fa.free "tuple").ok, (He.Fa.int "MOST_TIME" 9999).ok, (He.Fa.int "MOST_LEVEL" 63).ok, (He.Fa.int "MOST_TERM" 999).ok, (He.Fa.int "_MOST_NAME" 8).ok, (He.Fa.int "_MOST_ID" 999).ok, (He.Fa.int "_MOST_LOCKS" 4).ok, (He.Fa.int "_MOST_PARTS" 3).ok, (He.Fa.int "_MOST_HOLD" 99).ok, (He.Fa.int "_MOST_RANK" 3).ok, (He.Fa.int "_MOST_WITHIN" 999).ok, (He.Fa.int "_MOST_PLACES" 3).ok, (He.Fa.int "_MOST_POINTS" 8).ok, (He.Fa.int "_MOST_RULES" 6).ok] : List Fb) ++ ([(He.Fa.int "_MOST_CAUSES" 8).ok, (He.Fa.int "_MOST_COMMANDS" 4).ok, (He.Fa.int "_MOST_RELATIONS" 5).ok, (He.Fa.glo "_is_number").ok, (He.Fa.glo "_check_number").ok, (He.Fa.glo "is_whole").ok, (He.Fa.glo "is_name").ok, (He.Fa.glo "is_time").ok, (He.Fa.glo "is_one_of").ok, (He.Fa.glo "is_tuple").ok, (He.Fa.glo "is_list").ok, (He.Fa.glo "is_list_of").ok, (He.Fa.glo "is_level").ok, (He.Fa.glo "is_term").ok, (He.Fa.glo "is_id").ok, (He.Fa.glo "is_order").ok, (He.Fa.glo "is_point_shape").ok, (He.Fa.glo "_check_each_once").ok, (He.Fa.glo "by_name").ok, (He.Fa.glo "check_points").ok, (He.Fa.glo "check_rules").ok, (He.Fa.glo "is_rule_shape").ok, (He.Fa.glo "check_causes").ok, (He.Fa.glo "is_cause_shape").ok, (He.Fa.glo "_leads_to_itself").ok, (He.Fa.glo "check_commands").ok, (He.Fa.glo "is_command_shape").ok, (He.Fa.glo "is_lock_shape").ok, (He.Fa.glo "is_worth_of").ok, (He.Fa.glo "_check_locks").ok] : List Fb) ++ ([(He.Fa.glo "check_relations").ok, (He.Fa.glo "is_relation_shape").ok, (He.Fa.glo "points_of_relation").ok, (He.Fa.glo "check_works").ok, (He.Fa.glo "check_place").ok, (He.Fa.glo "check_time").ok, (He.Fa.glo "is_beyond").ok, (He.Fa.glo "lock_holds").ok, (He.Fa.glo "_law_cell").ok, (He.Fa.glo "_law_box").ok, (He.Fa.glo "_law_take").ok, (He.Fa.glo "_law_names").ok, (He.Fa.glo "_law_points").ok, (He.Fa.glo "_law_mixed").ok, (He.Fa.glo "_law_letters").ok, (He.Fa.glo "_law_road").ok, (He.Fa.glo "_law_right").ok, (He.Fa.glo "law").ok, hnB, htB, (He.Fa.glo "Works").ok, (He.Fa.cls "Works").ok, (He.Fa.mkr "Works").ok, (He.Fa.noat "Works" "_points").ok, (He.Fa.noat "Works" "_point_by_name").ok, (He.Fa.noat "Works" "_rules").ok, (He.Fa.noat "Works" "_rule_by_name").ok, (He.Fa.noat "Works" "_causes").ok, (He.Fa.noat "Works" "_commands").ok, (He.Fa.noat "Works" "_command_by_name").ok] : List Fb) ++ ([(He.Fa.noat "Works" "_relations").ok, (He.Fa.meth "Works" "places").ok, (He.Fa.meth "Works" "points_at").ok, (He.Fa.meth "Works" "has_place").ok, (He.Fa.meth "Works" "has_command").ok, (He.Fa.meth "Works" "command").ok, (He.Fa.meth "Place" "_come_to").ok, (He.Fa.meth "Place" "_note").ok, (He.Fa.meth "Place" "send").ok, (He.Fa.meth "Place" "waiting").ok, (He.Fa.meth "Place" "done").ok, (He.Fa.meth "Place" "name").ok, (He.Fa.meth "Place" "term").ok, (He.Fa.meth "Place" "_may_do").ok, (He.Fa.meth "Place" "_meet").ok, (He.Fa.meth "Place" "hears").ok, (He.Fa.meth "Place" "met").ok, (He.Fa.noat "Place" "_works").ok, (He.Fa.noat "Place" "_name").ok, (He.Fa.noat "Place" "_time").ok, (He.Fa.noat "Place" "_term").ok, (He.Fa.noat "Place" "_worths").ok, (He.Fa.noat "Place" "_marks").ok, (He.Fa.noat "Place" "_waiting").ok, (He.Fa.noat "Place" "_sent").ok, (He.Fa.noat "Place" "_met").ok, (He.Fa.noat "Place" "_done").ok, (He.Fa.glo "Place").ok, (He.Fa.cls "Place").ok, (He.Fa.mkr "Place").ok] : List Fb) ++ ([(dNo "rules"), (dNo "causes"), (dNo "commands"), (dNo "relations"), (fun K => He.eqO (PySem.W.findIn K (.ref (He.ga K "Works")) "__class__") (some (some (.builtin "object.__class__")))), (fun K => decide (PySem.W.mroIn K (He.ga K "Works") (.type "object") = some true)), (fun K => decide (PySem.W.kitOne K (.ref (He.ga K "Works")) (.ref (He.ga K "Works")) = some true))] : List Fb)
def fn : List He.DefD := ([dfN "_is_number" sIsNumber, dfN "_check_number" sCheckNumber, dfN "is_whole" sIsWhole, dfN "is_name" sIsName, dfN "is_time" sIsTime, dfN "is_one_of" sIsOneOf, dfN "is_tuple" sIsTuple, dfN "is_list" sIsList, dfN "is_list_of" sIsListOf, dfN "is_level" sIsLevel, dfN "is_term" sIsTerm, dfN "is_id" sIsId, dfN "is_order" sIsOrder, dfN "is_point_shape" sIsPointShape, dfN "_check_each_once" sCheckEachOnce, dfN "by_name" sByName, dfN "check_points" sCheckPoints, dfN "check_rules" sCheckRules, dfN "is_rule_shape" sIsRuleShape, dfN "check_causes" sCheckCauses, dfN "is_cause_shape" sIsCauseShape, dfN "_leads_to_itself" sLeadsToItself, dfN "check_commands" sCheckCommands, dfN "is_command_shape" sIsCommandShape, dfN "is_lock_shape" sIsLockShape, dfN "is_worth_of" sIsWorthOf, dfN "_check_locks" sCheckLocks, dfN "check_relations" sCheckRelations, dfN "is_relation_shape" sIsRelationShape, dfN "points_of_relation" sPointsOfRelation] : List He.DefD) ++ ([dfN "check_works" sCheckWorks, dfN "check_place" sCheckPlace, dfN "check_time" sCheckTime, dfN "is_beyond" sIsBeyond, dfN "lock_holds" sLockHolds, dfN "_law_cell" sLawCell, dfN "_law_box" sLawBox, dfN "_law_take" sLawTake, dfN "_law_names" sLawNames, dfN "_law_points" sLawPoints, dfN "_law_mixed" sLawMixed, dfN "_law_letters" sLawLetters, dfN "_law_road" sLawRoad, dfN "_law_right" sLawRight, dfN "law" sLaw, dfM "Works" "places" "Works.places" mWorks_Places, dfM "Works" "points_at" "Works.points_at" mWorks_PointsAt, dfM "Works" "has_place" "Works.has_place" mWorks_HasPlace, dfM "Works" "has_command" "Works.has_command" mWorks_HasCommand, dfM "Works" "command" "Works.command" mWorks_Command, dfM "Place" "__init__" "Place.__init__" mPlace_Init, dfM "Place" "_come_to" "Place._come_to" mPlace_ComeTo, dfM "Place" "_note" "Place._note" mPlace_Note, dfM "Place" "send" "Place.send" mPlace_Send, dfM "Place" "waiting" "Place.waiting" mPlace_Waiting, dfM "Place" "done" "Place.done" mPlace_Done, dfM "Place" "name" "Place.name" mPlace_Name, dfM "Place" "term" "Place.term" mPlace_Term, dfM "Place" "_may_do" "Place._may_do" mPlace_MayDo, dfM "Place" "_meet" "Place._meet" mPlace_Meet] : List He.DefD) ++ ([dfM "Place" "hears" "Place.hears" mPlace_Hears, dfM "Place" "met" "Place.met" mPlace_Met, dfMK "Works" "__init__" "Works.__init__" mWorks_Init [("rules", .adr (dAd "rules")), ("causes", .adr (dAd "causes")), ("commands", .adr (dAd "commands")), ("relations", .adr (dAd "relations"))]] : List He.DefD)
def loose : List Str := (["_wall", "PanelError", "Absent", "Barred", "TooMany", "NoTime", "NoWorth", "NoMark", "NoNumber", "NoPoints", "NoRules", "NoCauses", "NoCommands", "NoRelations", "NoWorks", "NoLetter", "Twice", "Ring", "NoPoint", "NoPlace", "NoRule", "NoCommand", "NotThere", "NotNow", "MOST_TIME", "MOST_LEVEL", "MOST_TERM", "_MOST_NAME", "_MOST_ID", "_is_number"] : List Str) ++ (["_check_number", "is_whole", "is_name", "is_time", "is_mark", "is_term", "is_id", "is_one_of", "is_tuple", "is_list", "is_list_of", "check_time", "_MOST_LOCKS", "_MOST_PARTS", "_MOST_HOLD", "_MOST_RANK", "_MOST_WITHIN", "is_level", "is_point_shape", "is_rule_shape", "is_cause_shape", "is_lock_shape", "is_command_shape", "is_relation_shape", "points_of_relation", "_MOST_PLACES", "_MOST_POINTS", "_MOST_RULES", "_MOST_CAUSES", "_MOST_COMMANDS"] : List Str) ++ (["_MOST_RELATIONS", "by_name", "is_worth_of", "check_points", "_check_each_once", "check_rules", "check_causes", "_leads_to_itself", "check_commands", "_check_locks", "check_relations", "Works", "check_works", "check_place", "is_beyond", "lock_holds", "is_order", "Place", "_law_cell", "_law_box", "_law_take", "_law_names", "_law_mixed", "_law_points", "_law_bonds", "_law_most", "_law_in", "_law_holds", "_law_broken", "_law_picture"] : List Str) ++ (["_law_letters", "_law_road", "_law_right"] : List Str)
abbrev R : PySem.W.OpenRow := PySem.W.OpenLaw.row PySem.Challenge.rw_panelwatch_k59_whole_one_term_at_a_place
def hk : PySem.W.Hook := hookB 0 fb fn
def ob (s : PySem.W.SharedT) : He.AlD := obsBG 0 fb fn (HandSHeadRun.getT s)
theorem ob_eq (s : PySem.W.SharedT) : ob s = hk.obs s.abs := obsBG_eq (HandSHeadRun.getT_eq s)
end V59

set_option maxHeartbeats 0
namespace V59
open PySem PySem.Spec PyProof.Rows L2 Pw
theorem run (w : World) : HandSHeadRun.RunEq R (PySem.W.view R.prog [101]) hk ob 30000 loose w := by
  intro os
  kernel_rfl
end V59

/-! The layer of defs that are called where no display is under way (nothing is being shown around them). -/
namespace Pw
open PySem PySem.Spec PyProof.Rows L2

/-- a def's promise where nothing is being shown around its call -/
structure FnG (P : Program) (w : World) (K : PySem.W.Frag) (mg : Str → Option Value)
    (base : Heap) (CX : CXT) (k : Nat) (f : Addr) (fd : FuncData) (ps : List Str) (sp : Sp) : Prop where
  len : ∀ vs H Q E, sp vs H Q E →
    vs.length = ps.length
  run : ∀ (A : Around) (out : List Env) (s : Shared) (H : Hp) (ar : Args) (us : List Value)
    (vs : List V) (Q : VK) (E : XK), A.guards = some [] → Room k A →
    Env0 P w K mg base A out s H → BindsTo s fd ar (ps.zip us) → Vals vs us → sp vs H Q E →
    codeAny (model P w) A (.call (.ref f) ar) (CR CX out P w H s Q E) s

section
variable {P : Program} {w : World} {K : PySem.W.Frag} {mg : Str → Option Value} {base : Heap}

theorem FnG.of {CX : CXT} {k : Nat} {f : Addr} {fd : FuncData} {ps : List Str} {sp : Sp}
    (F : FnOk P w K mg base CX k f fd ps sp) : FnG P w K mg base CX k f fd ps sp :=
  ⟨F.len, fun A out s H ar us vs Q E _ hr e0 hb r hs => F.run A out s H ar us vs Q E hr e0 hb r hs⟩

theorem fnG_of {CX : CXT} {k : Nat} {f : Addr} {name qual : Str} {params : Arguments}
    {body : List Stmt} {scope : Scope} {dV kV doc pm cdv ct oc : Value} {an od : Option Addr}
    {osl : Array (Option Value)} {N ps : List Str} {sp : Sp}
    (lk : K.lookup f = some ⟨oc, od, .func (PySem.W.fnOf name qual params body scope dV kV doc pm an cdv ct), osl⟩)
    (hcd : PySem.W.codeIn K cdv qual = true) (S : FnScope N ps scope)
    (len : ∀ vs H Q E, sp vs H Q E → vs.length = ps.length)
    (hb0 : ∀ (A : Around) (out : List Env) (s : Shared) (H : Hp) (vs : List V) (Q : VK) (E : XK),
      A.guards = some [] → Room k (A.deeper (envOfC qual scope s.heap.objs.size f cdv)) → sp vs H Q E →
      ∃ t, PSs (cxOf CX P w K mg base N qual scope f cdv A out s H E) body t ∧
        t { nx := fun _ H' => Q .non H', rt := Q } (start N vs) H) :
    FnG P w K mg base CX (k + 1) f (PySem.W.fnOf name qual params body scope dV kV doc pm an cdv ct) ps sp := by
  refine ⟨len, fun A out s H ar us vs Q E gd hr e0 hbn r hs0 => ?_⟩
  have hlen := len _ _ _ _ hs0
  have old : ∀ b o, base.get? b = some o → s.heap.get? b = some o := fun b o e => (e0.bs b o e).1
  have KX : K.In s.heap := e0.mod.kin.keeps old
  have lim : s.heap.NoLimit := e0.mod.nolimit.keeps old
  have kinds : ∀ y ∈ ps.zip us, scope.names.lookup y.1 = some .local ∨
      (scope.names.lookup y.1 = some .cell ∧
        ((cellsFrom (s.heap.objs.size + 1) scope.names []).lookup y.1).isSome = true) := by
    intro ⟨n, v⟩ hy
    rcases S.par n (List.of_mem_zip hy).1 with z | z
    · exact .inl z
    · exact .inr ⟨z, PySem.W.cellsFrom_some _ _ _ (.inl z)⟩
  refine codeAny_call_function hr.depth (KX _ _ lk) rfl S.co S.gen rfl
    (PySem.W.codeRec_of KX hcd) (hbn _ _ _ _ ?_)
  refine wpAny_newFunctionEnv_cells S.kind kinds fun env he s1 x => ?_
  subst he
  refine ⟨lim.keeps x.toInCall.keep, codeAny_func ?_⟩
  obtain ⟨t, T, q0⟩ := hb0 A out s H vs Q E gd (hr.deeper _) hs0
  have J0 : Inv (cxOf CX P w K mg base N qual scope f cdv A out s H E) [] (start N vs) H s1 :=
    inv_start S hr.hd e0 hlen r x
  refine wpAny_mono (T.run [] s1 (start N vs) H _ J0 q0) (fun fl s' hs => ?_) fun e s' hs => hs
  have fin : ∀ {σ' : L2.St} {H' : Hp} {v : V} {u : Value},
      Inv (cxOf CX P w K mg base N qual scope f cdv A out s H E) [] σ' H' s' →
      RelV v u → Q v H' → CE out P w H s Q u s' :=
    fun {σ' H' v u} J rv q => ⟨v, H', J.os, J.bare, J.base, J.hok, rv, q⟩
  match fl, hs with
  | .ret u, ⟨v, σ', H', J, rv, q⟩ => exact fin J rv q
  | .next, ⟨σ', H', J, q⟩ => exact fin (v := V.non) (u := Value.none) J rfl q
  | .brk, ⟨_, _, _, q⟩ => exact False.elim q
  | .cont, ⟨_, _, _, q⟩ => exact False.elim q

/-- the rule for a def, where nothing is being shown around it -/
theorem okG {x qual : Str} {st : Stmt} {f : Addr} {fd : FuncData} {N ps : List Str} {k : Nat} {sp : Sp}
    (F : Fun K x qual st f fd) (S : FnScope N ps (defScope st))
    (len : ∀ vs H Q E, sp vs H Q E → vs.length = ps.length)
    (hb0 : ∀ (cdv : Value) (A : Around) (out : List Env) (s : Shared) (H : Hp) (vs : List V) (Q : VK) (E : XK),
      A.guards = some [] →
      Room k (A.deeper (envOfC qual (defScope st) s.heap.objs.size f cdv)) → sp vs H Q E →
      ∃ t, PSs (cxOf CX0 P w K mg base N qual (defScope st) f cdv A out s H E).nox (defBody st) t ∧
        t { nx := fun _ H' => Q .non H', rt := Q } (start N vs) H) :
    FnG P w K mg base CX0 (k + 1) f fd ps sp := by
  obtain ⟨oc, od, kV, doc, pm, an, cdv, ct, osl, rfl, lk, hcd⟩ := F.ex
  refine fnG_of lk hcd S len fun A out s H vs Q E gd hr hs0 => ?_
  obtain ⟨t, h, q⟩ := hb0 cdv A out s H vs Q E gd hr hs0
  exact ⟨t, h.nox, q⟩
end

section
variable {X : Cx} {CX : CXT} {k : Nat} {f : Addr} {fd : FuncData} {ps : List Str} {sp : Sp}
  {dvs : List V} {ds : List Value} {E : XK} {x : Str} {p pos : Pos} {e : Expr} {es : List Expr} {t : TA}

theorem run_fnG {pins : List (Addr × Obj)} {σ : L2.St} {H : Hp} {s : Shared} {Q : VK} {us : List Value} {vs : List V}
    (F : FnG X.prog X.w X.K X.mg X.base CX k f fd ps sp) (gd : X.A.guards = some []) (hr : Room k X.A)
    (hb : Binds X.K fd ps ds) (hd : Vals dvs ds) (hx : Passes CX X E)
    (I : Inv X pins σ H s) (r : Vals vs us) (h : sp (vs ++ dvs) H Q E) :
    wpAny (model X.prog X.w) X.A (call (.ref f) us) (EP X pins σ Q) X.xe s := by
  have r2 : Vals (vs ++ dvs) (us ++ ds) := r.append hd
  have hlen : (us ++ ds).length = ps.length := r2.length ▸ F.len _ _ _ _ h
  refine wpAny_call (codeAny_mono (F.run X.A X.stack s H ⟨us, []⟩ (us ++ ds) (vs ++ dvs) Q E gd hr
    I.env0 (hb s us I.kIn hlen) r2 h) fun r s' hq => ?_)
  match r, hq with
  | .error e, hq => exact hx pins σ H s e s' I hq
  | .ok (.ret u), hq => exact I.after hq
  | .ok .next, hq => exact False.elim hq
  | .ok .brk, hq => exact False.elim hq
  | .ok .cont, hq => exact False.elim hq

/-- f(..), f a def whose promise stands where nothing is being shown -/
theorem pe_callG (F : FnG X.prog X.w X.K X.mg X.base CX k f fd ps sp) (gd : X.A.guards = some []) (hr : Room k X.A)
    (hg : Gl X x) (hm : X.mg x = some (.ref f)) (hk : PySem.W.keepIn X.K (.ref f) = true)
    (hb : Binds X.K fd ps ds) (hd : Vals dvs ds) (hx : Passes CX X E) (ha : PA X (e :: es) t)
    (hdb : (x == ("__debug__" : Str)) = false := by decide)
    (he : starEach (e :: es) X.env = (false, eval e X.env) :: starEach es X.env := by rfl)
    (hpl : (backTo pos (starEach es X.env)).any (·.1) = false := by rfl) :
    PE X (.Call (.Name x p) (e :: es) [] pos) (tCall sp dvs E t) :=
  ⟨fun pins s σ H Q I h => wpAny_Call_Name_kw (ld_glob I hg hm (PySem.W.callWith_K (h₀ := X.base)
    I.ok.mod.kin hk (thn (ha.run pos pins s σ H _ I h) fun us s1 ⟨vs, H1, I1, r, q⟩ =>
      ⟨I1.kIn, run_fnG F gd hr hb hd hx I1 r q⟩) he hpl) hdb)⟩
end

/-- the end: the law's promise, at the heap behind the top, nothing being shown -/
theorem law_callG {P : Program} {w : World} {K : PySem.W.Frag} {mg mb : Str → Option Value} {CX : CXT} {k : Nat}
    {fa a : Addr} {fd : FuncData} {x : Str} {sp : Sp} {s₁ : Shared} {vs : List Value} {ns : List Int}
    (KX : K.In s₁.heap) (hns : s₁.heap.Ns mainGlobals mg) (hb : s₁.heap.Ns builtinsNs mb)
    (hbb : ∀ x : Str, x ≠ "__name__" → mb x = bootBuiltins x) (hlim : s₁.heap.NoLimit) (hg : s₁.gens = #[])
    (ha : s₁.heap.get? a = some { cls := .type "list", data := .seq vs.toArray }) (hi : IntsAre vs ns)
    (hl : ns.length ≤ sizeLine) (hr : Room k callerA)
    (F : ∀ base : Heap, K.In base → base.Ns mainGlobals mg → FnG P w K mg base CX k fa fd [x] sp)
    (hbind : ∀ (s : Shared) (u : Value), BindsTo s fd ⟨[u], []⟩ [(x, u)])
    (hsp : ∀ H : Hp, Only H → SqL K H a (ns.map V.int) → sp [.ref a] H (fun v _ => v = .bl true) fun _ _ _ => False)
    (hCX : ∀ H e s', CX [] H s₁ (fun _ _ _ => False) e s' → False) :
    codeAny (model P w) callerA (.call (.ref fa) ⟨[.ref a], []⟩)
      (fun r s' => r = .ok (.ret (.bool true)) ∧ OldK s₁.heap s'.heap ∧ s'.os = s₁.os ∧ AllBare s'.gens) s₁ := by
  have rv := vals_ints hi
  have lenV := hi.length
  have core : ∀ H : Hp, Only H → SqL K H a (ns.map V.int) → HOk P w H s₁.heap → (∀ b, H b ≠ none → b = a) →
      (H a ≠ none → K.lookup a = none) → codeAny (model P w) callerA (.call (.ref fa) ⟨[.ref a], []⟩)
      (fun r s' => r = .ok (.ret (.bool true)) ∧ OldK s₁.heap s'.heap ∧ s'.os = s₁.os ∧ AllBare s'.gens) s₁ := by
    intro H hO hS hok hA hK
    have loose : ∀ {b : Addr} {o : Obj} {es : Array DictEntry} {ep : Nat}, s₁.heap.get? b = some o →
        o.data = .dict es ep → H b = none := by
      intro b o es ep e d
      cases q : H b with
      | none => rfl
      | some u =>
        obtain rfl : b = a := hA b (fun z => nomatch q.symm.trans z)
        cases ha.symm.trans e
        exact nomatch (show Data.seq vs.toArray _ = Data.dict es ep from d)
    have nsK : ∀ {b : Addr} {m : Str → Option Value}, s₁.heap.Ns b m → (hidT s₁.heap H).Ns b m :=
      fun {b m} ⟨o, es, ep, e, d, r⟩ => ⟨o, es, ep, hidT_get e (loose e d), d, r⟩
    have hKb : K.In (hidT s₁.heap H) := by
      intro b o e
      refine hidT_get (KX b o e) ?_
      cases q : H b with
      | none => rfl
      | some u =>
        obtain rfl : b = a := hA b (fun z => nomatch q.symm.trans z)
        exact nomatch (hK (fun z => nomatch q.symm.trans z)).symm.trans e
    have hM : Mod K mg (hidT s₁.heap H) :=
      ⟨hKb, nsK hns, ⟨mb, nsK hb, hbb⟩, hlim.elim fun mc h => ⟨mc, nsK h.1, h.2⟩⟩
    have e0 : Env0 P w K mg (hidT s₁.heap H) callerA [] s₁ H :=
      ⟨rfl, hM, fun b o e => of_hidT e, Nat.le_of_eq (hidT_size _ _), trivial,
        fun b hb => (nomatch (show b ∈ ([] : List Addr) from hb)), hok, .of_eq hg⟩
    refine codeAny_mono ((F _ hKb (nsK hns)).run callerA [] s₁ H ⟨[.ref a], []⟩ [.ref a] [.ref a] _ _ rfl hr e0
      (hbind s₁ (.ref a)) (.cons rfl .nil) (hsp H hO hS)) fun r s' h => ?_
    match r, h with
    | .error e, h => exact (hCX H e s' h).elim
    | .ok .next, h => exact False.elim h
    | .ok .brk, h => exact False.elim h
    | .ok .cont, h => exact False.elim h
    | .ok (.ret u), ⟨v, H', os, bare, un, hok', r', q⟩ =>
      obtain rfl : v = .bl true := q
      obtain rfl : u = Value.bool true := r'
      refine ⟨rfl, OldK.of_keep fun b o e => ?_, os, bare⟩
      cases q : H b with
      | none => exact un.keep b o e q (fun z => (nomatch (show b ∈ ([] : List Addr) from z))) (by simp)
      | some u =>
        rcases hO b with z | ⟨ob, xs, z⟩
        · exact nomatch q.symm.trans z
        · have e1 := (hok b _ z).1
          have e2 := (hok' b _ (un.frzs b ob _ z)).1
          cases e.symm.trans e1
          exact e2
  cases hk : K.lookup a with
  | some o =>
    cases ha.symm.trans (KX a o hk)
    exact core (fun _ => none) (fun _ => .inl rfl)
      (.inr ⟨_, vs.toArray, _, hk, rfl, rfl, rfl, by rw [List.size_toArray, lenV]; exact hl, by simpa using rv⟩)
      (fun b u z => nomatch (show (none : Option HO) = some u from z)) (fun b z => absurd rfl z) fun z => absurd rfl z
  | none =>
    refine core (fun b => if b = a then
        some (.frz { cls := .type "list", data := .seq vs.toArray } (.lst (ns.map V.int))) else none) (fun b => ?_)
      (.inl (.inr ⟨{ cls := .type "list", data := .seq vs.toArray }, if_pos rfl⟩)) (fun b u z => ?_) (fun b z => ?_)
      fun _ => hk
    · by_cases hba : b = a
      · exact .inr ⟨_, _, if_pos hba⟩
      · exact .inl (if_neg hba)
    · by_cases hba : b = a
      · have z' := (if_pos hba).symm.trans z
        cases z'
        subst hba
        exact ⟨ha, by rw [List.length_map]; exact hl, vs, _, rv, ha⟩
      · exact nomatch (if_neg hba).symm.trans z
    · by_cases hba : b = a
      · exact hba
      · exact absurd (if_neg hba) z

theorem walkG {l : PySem.W.OpenLaw} {n k : Nat} {q : Program} {loose : List Str}
    {XP : (Str → Option Value) → Heap → Prop} {YP : World → Heap → Prop} {d : DefRec} {K : Params → PySem.W.Frag}
    {CX : World → CXT} {sp : World → Sp} {x : Str} (hn : l.most = some n) (hn2 : n ≤ sizeLine)
    (hdf : d.params.defaults = []) (hr : Room k callerA) (hY : ∀ (w : World) (h : Heap), YP w h → (K w.params).In h)
    (F : ∀ (w : World) (mg : Str → Option Value) (fa : Addr) (h : Heap), (K w.params).In h → h.Ns mainGlobals mg →
      mg d.name = some (.ref fa) → ∃ fd : FuncData, (∀ (s : Shared) (u : Value), BindsTo s fd ⟨[u], []⟩ [(x, u)]) ∧
        ∀ base : Heap, (K w.params).In base → base.Ns mainGlobals mg →
          FnG l.prog w (K w.params) mg base (CX w) k fa fd [x] (sp w))
    (hsp : ∀ (w : World) (H : Hp) (a : Addr) (ns : List Int), ns.length ≤ n → Only H →
      SqL (K w.params) H a (ns.map V.int) → sp w [.ref a] H (fun v _ => v = .bl true) fun _ _ _ => False)
    (hCX : ∀ (w : World) (H : Hp) (s : Shared) (e : Value) (s' : Shared), CX w [] H s (fun _ _ _ => False) e s' → False) :
    PySem.W.WalkO q loose XP YP l.row.toRowW d [] (fun f vs => PySem.call f vs) := by
  refine Att.attach_call hn hdf fun w s₀ s₁ mg mb fa o pm cd doc a vs ns G Y ho hd hcd hmg hobj hints hlen hg => ?_
  have KX := hY w _ Y
  obtain ⟨fd, hbn, hF⟩ := F w mg fa _ KX G.T.g hmg
  exact law_callG KX G.T.g G.T.b G.T.builtins G.T.nolimit hg hobj hints (Nat.le_trans hlen hn2) hr hF hbn
    (fun H hO hS => hsp w H a ns hlen hO hS) fun H e s' => hCX w H s₁ e s'
end Pw

/-! Exceptions of one's own as values: made by their own __init__, which calls that of the class above it by name; their args are tracked. -/
namespace Pw
open PySem PySem.Spec PyProof.Rows L2

/-- the object of an exception: its class, its dict, where its args lie -/
abbrev exOb (C : Addr) (d : Option Addr) (t : Addr) : Obj :=
  { cls := .ref C, dict := d, data := .fields #[.ref t, .none, .none, .none, .bool false, .none] }
/-- at e: an exception of the class at C; its args are the tuple at t -/
def exq (e C : Addr) (d : Option Addr) (t : Addr) : HO := .ext fun h => h.get? e = some (exOb C d t)
theorem exq_own {e C x t : Addr} {d : Option Addr} : exq e C d t ≠ .own x := fun z => by
  have z' : HO.ext _ = HO.own x := z
  cases z'
theorem exq_tup {e C t : Addr} {d : Option Addr} {xs : List V} : exq e C d t ≠ .tup xs := fun z => by
  have z' : HO.ext _ = HO.tup xs := z
  cases z'
theorem exq_lst {e C t : Addr} {d : Option Addr} {xs : List V} : exq e C d t ≠ .lst xs := fun z => by
  have z' : HO.ext _ = HO.lst xs := z
  cases z'
theorem exq_frz {e C t : Addr} {d : Option Addr} {o : Obj} {u : HO} : exq e C d t ≠ .frz o u := fun z => by
  have z' : HO.ext _ = HO.frz o u := z
  cases z'
theorem exq_tbl {e C t : Addr} {d : Option Addr} {ps : Array Value} : exq e C d t ≠ .tbl ps := fun z => by
  have z' : HO.ext _ = HO.tbl ps := z
  cases z'
theorem exq_ok {P : Program} {w : World} {H : Hp} {h : Heap} {e C t : Addr} {d : Option Addr}
    (he : h.get? e = some (exOb C d t)) : ObjOk P w H h e (exq e C d t) :=
  ⟨he, ⟨_, he⟩, fun _ _ z k => k _ z⟩
theorem exq_at {P : Program} {w : World} {H : Hp} {h : Heap} {e C t : Addr} {d : Option Addr} (hok : HOk P w H h)
    (he : H e = some (exq e C d t)) : h.get? e = some (exOb C d t) := by
  have x : ObjOk P w H h e (.ext fun h => h.get? e = some (exOb C d t)) := hok e _ he
  exact x.1

section
variable {X : Cx} {pins : List (Addr × Obj)} {σ : L2.St} {H : Hp} {s : Shared} {a C t1 : Addr} {f : Str} {y : V}
  {u : Value} {E : Value → Shared → Prop} {A : Around}

/-- self.f = y, the first attribute -/
theorem eq_new {Q : Unit → Shared → Prop} (T : OexC X.K C) (I : Inv X pins σ H s) (e : H a = some (exq a C none t1))
    (hno : PySem.W.findIn X.K (.ref C) f = some none) (ry : RelV y u)
    (h : ∀ dx s', H dx = none → dx ≠ a →
      Inv X pins σ (upd (upd H dx (exd dx [(f, y)])) a (exq a C (some dx) t1)) s' → Q () s') :
    wpAny (model X.prog X.w) A (setAttr (.ref a) f u) Q E s := by
  obtain ⟨nm, q, N, bs, bm, sn, sub, ab, col, dd, k0, k1, k2, k3, k5, hC, hbm⟩ := T.cls
  have hcl : PySem.W.clsIn X.K C = some { name := nm, bases := bs, mro := .ref C :: bm, ns := N, qualname := q, hasDict := true, slotNames := sn, subclasses := sub, abstract := ab, collection := col, hasDel := false } := by
    unfold PySem.W.clsIn
    rw [hC] <;> rfl
  have ho := exq_at I.hok e
  obtain ⟨hp, g, d, t, os⟩ := s
  refine PySem.W.set_plain I.kIn (ox := exOb C none t1) (od := none) ⟨ho, rfl, rfl, trivial⟩ T.sa ?_
  refine PySem.HandSPX.exc_osa I.kIn ho hcl
    (show PySem.HandSPX.refsVE (.ref C :: bm) = true from hbm) rfl hno (fun h' tk' dx k dn dne hx hn => ?_)
  have hnd : H dx = none := I.hok.fresh dn
  have nd : ∀ {b : Addr} {o : Obj}, hp.get? b = some o → b ≠ dx :=
    fun {b o} q => Nat.ne_of_lt (Nat.lt_of_lt_of_le (Heap.lt_size q) dn)
  have na : ∀ {b : Addr}, H b = none → b ≠ a := fun {b} n z => by rw [z, e] at n; cases n
  have Un1 : Un X.fs [] H (upd (upd H dx (exd dx [(f, y)])) a (exq a C (some dx) t1)) hp h' := {
    keep := fun b o q n _ _ => k b o (na n) q
    slot := fun b o q n _ _ => ⟨o.slots, k b o (na n) q⟩
    free := fun b o q n _ => ((upd_ne (na n)).trans (upd_ne (nd q))).trans n
    there := fun b o q _ => by
      by_cases hb : b = a
      · exact ⟨_, hb ▸ hx⟩
      · exact ⟨o, k b o hb q⟩
    tups := fun b xs q => ((upd_ne (at_ne e q exq_tup)).trans (upd_ne (ne_of_none q hnd))).trans q
    frzs := fun b o v q => ((upd_ne (at_ne e q exq_frz)).trans (upd_ne (ne_of_none q hnd))).trans q
    tbls := fun b ps q => ⟨#[], by rw [upd_ne (at_ne e q exq_tbl), upd_ne (ne_of_none q hnd), q]; simp⟩ }
  refine h dx _ hnd dne (I.un (t' := tk') Un1 fun b o q => ?_)
  by_cases hb : b = a
  · subst hb
    cases upd_same.symm.trans q
    exact exq_ok hx
  · rw [upd_ne hb] at q
    by_cases hd : b = dx
    · subst hd
      cases upd_same.symm.trans q
      exact exd_ok hn (relO_put (fs := []) ry fun g => True.intro)
    · rw [upd_ne hd] at q
      refine (I.hok b o q).stay (fun c v hc z => k c v ?_ z)
        (fun c hc => ((upd_ne (at_ne e hc exq_own)).trans (upd_ne (ne_of_none hc hnd))).trans hc)
        (fun c xs hc => ((upd_ne (at_ne e hc exq_tup)).trans (upd_ne (ne_of_none hc hnd))).trans hc)
      rcases hc with hc | hc
      · exact hc ▸ hb
      · exact at_ne e hc exq_own

/-- ValueError.__init__(e, ..): its args are laid anew, at a place of their own -/
theorem init_args {prog : Program} {w : World} {A : Around} {R : Result → Shared → Prop} {h : Heap}
    {g : Array GenState} {d : Drawn} {t : Nat} {os : OsState} {nm q : Str} {C N : Addr} {bs bm bmB : List Value}
    {hdct : Bool} {sn : List Str} {sub : List Value} {ab : Bool} {col : Option Bool} {dd : Option Addr}
    {k0 k1 k2 k3 k5 : Option Value} {B newId initId : String} (F : ExcBaseFacts B newId initId bmB)
    (hT : ∀ X : String, bm.contains (.type X) = bmB.contains (.type X)) {e t0 : Addr} {rest : List Value}
    (hC : h.get? C = some (excClassObj nm q C N bs bm hdct sn sub ab col dd k0 k1 k2 k3 k5 newId))
    (he : h.get? e = some (exOb C none t0)) (hrest : rest.length ≤ sizeLine)
    (hq : ∀ h' t1, h.objs.size ≤ t1 → (∀ b o, b ≠ e → h.get? b = some o → h'.get? b = some o) →
      h'.get? e = some (exOb C none t1) → h'.get? t1 = some (PySem.W.kdv_tup rest) →
      R (.ok (.ret .none)) ⟨h', g, d, t, os⟩) :
    codeAny (model prog w) A (.call (.builtin initId) ⟨.ref e :: rest, []⟩) R ⟨h, g, d, t, os⟩ := by
  refine codeAny_call_builtin F.init.plain F.initEntry (PySem.HandSPX.check_init_own F hT hC he rfl ?_)
  have hes : e ≠ h.objs.size := Nat.ne_of_lt (Heap.lt_size he)
  wp_walk
  refine hq _ h.objs.size (Nat.le_refl _) (fun b o hb ho => ?_) ?_ ?_
  · exact (Heap.get?_update_other _ _ (Ne.symm hb)).trans (Heap.get?_push_of_some _ ho)
  · exact (Heap.get?_update_self _ (Heap.get?_push_of_some _ he) rfl).trans rfl
  · exact (Heap.get?_update_other _ _ hes).trans (Heap.get?_push_size _ rfl)

theorem eq_init {us : List Value} {ws : List V} {Q : Value → Shared → Prop} (T : OexC X.K C) (I : Inv X pins σ H s)
    (e : H a = some (exq a C none t1)) (hl : us.length ≤ sizeLine) (rw' : Vals ws us)
    (h : ∀ t2 s', H t2 = none → t2 ≠ a → Inv X pins σ (upd (upd H t2 (.tup ws)) a (exq a C none t2)) s' → Q .none s') :
    wpAny (model X.prog X.w) A (call (.builtin "ValueError.__init__") (.ref a :: us)) Q E s := by
  obtain ⟨nm, q, N, bs, bm, sn, sub, ab, col, dd, k0, k1, k2, k3, k5, hC, hbm⟩ := T.cls
  have ho := exq_at I.hok e
  obtain ⟨hp, g, d, t, os⟩ := s
  refine wpAny_call (init_args F.excBase_ValueError (fun Y => PySem.HandSPX.refsVE_contains Y bm hbm)
    (I.kIn _ _ hC) ho hl fun h' t2 hsz k hx ht => ?_)
  have nt : H t2 = none := I.hok.fresh hsz
  have nea : t2 ≠ a := (ne_of_none e nt).symm
  have na : ∀ {b : Addr}, H b = none → b ≠ a := fun {b} n z => by rw [z, e] at n; cases n
  have nd : ∀ {b : Addr} {o : Obj}, hp.get? b = some o → b ≠ t2 :=
    fun {b o} q => Nat.ne_of_lt (Nat.lt_of_lt_of_le (Heap.lt_size q) hsz)
  have Un1 : Un X.fs [] H (upd (upd H t2 (.tup ws)) a (exq a C none t2)) hp h' := {
    keep := fun b o q n _ _ => k b o (na n) q
    slot := fun b o q n _ _ => ⟨o.slots, k b o (na n) q⟩
    free := fun b o q n _ => ((upd_ne (na n)).trans (upd_ne (nd q))).trans n
    there := fun b o q _ => by
      by_cases hb : b = a
      · exact ⟨_, hb ▸ hx⟩
      · exact ⟨o, k b o hb q⟩
    tups := fun b xs q => ((upd_ne (at_ne e q exq_tup)).trans (upd_ne (ne_of_none q nt))).trans q
    frzs := fun b o v q => ((upd_ne (at_ne e q exq_frz)).trans (upd_ne (ne_of_none q nt))).trans q
    tbls := fun b ps q => ⟨#[], by rw [upd_ne (at_ne e q exq_tbl), upd_ne (ne_of_none q nt), q]; simp⟩ }
  refine h t2 _ nt nea (I.un (t' := t) Un1 fun b o q => ?_)
  by_cases hb : b = a
  · subst hb
    cases upd_same.symm.trans q
    exact exq_ok hx
  · rw [upd_ne hb] at q
    by_cases hd : b = t2
    · subst hd
      cases upd_same.symm.trans q
      exact ⟨by rw [Paired.length rw']; exact hl, us, rw', _, ht, rfl, _, rfl⟩
    · rw [upd_ne hd] at q
      refine (I.hok b o q).stay (fun c v hc z => k c v ?_ z)
        (fun c hc => ((upd_ne (at_ne e hc exq_own)).trans (upd_ne (ne_of_none hc nt))).trans hc)
        (fun c xs hc => ((upd_ne (at_ne e hc exq_tup)).trans (upd_ne (ne_of_none hc nt))).trans hc)
      rcases hc with hc | hc
      · exact hc ▸ hb
      · exact at_ne e hc exq_own
end

/-! ### the rules -/
/-- ValueError.__init__(self, ..) -/
def tVeq (K : PySem.W.Frag) (ta : TA) : TE := fun σ H Q => ta σ H fun vs H1 =>
  ∃ (a C t0 : Addr) (ws : List V), vs = .ref a :: ws ∧ ws.length ≤ 1000 ∧ OexC K C ∧ H1 a = some (exq a C none t0) ∧
    ∀ t2, H1 t2 = none → t2 ≠ a → Q .non (upd (upd H1 t2 (.tup ws)) a (exq a C none t2))
/-- self.f = e, the first attribute -/
def tEst (K : PySem.W.Frag) (f : Str) (to te : TE) : TS := fun D σ H => te σ H fun y H1 => to σ H1 fun x H2 =>
  ∃ a C t1 : Addr, x = .ref a ∧ OexC K C ∧ PySem.W.findIn K (.ref C) f = some none ∧ H2 a = some (exq a C none t1) ∧
    ∀ dx, H2 dx = none → dx ≠ a → D.nx σ (upd (upd H2 dx (exd dx [(f, y)])) a (exq a C (some dx) t1))
/-- C(e, ..) as a value -/
def tMkq (C : Addr) (sp : Sp) (dvs : List V) (ta : TA) : TE := fun σ H Q => ta σ H fun vs H1 => vs.length ≤ 1000 ∧
  ∀ t0 a, H1 t0 = none → H1 a = none → t0 ≠ a →
    sp (.ref a :: (vs ++ dvs)) (upd (upd H1 t0 (.tup vs)) a (exq a C none t0))
      (fun v H2 => v = .non ∧ Q (.ref a) H2) (fun _ _ _ => False)

section
variable {X : Cx} {o e : Expr} {es : List Expr} {to te : TE} {ta : TA} {f : Str} {p p' p1 p2 pos : Pos}
theorem pe_veq {pl : Sem Bool} (hg : Gl X "ValueError") (hm : X.mg "ValueError" = none)
    (vV : PySem.W.findCls X.K (.type "ValueError") (.type "type") "__init__" = some (.val (.builtin "ValueError.__init__")))
    (ha : PA X (e :: es) ta)
    (hc : eval (.Call (.Attribute (.Name "ValueError" p1) "__init__" p2) (e :: es) [] pos) X.env = (do
      let ov ← eval (.Name "ValueError" p1) X.env
      standAt p2.atName
      let (f, first) ← holding [ov] (getMethod ov "__init__" pl)
      callWith pos f first (backTo pos (starEach (e :: es) X.env)) (backToKw pos (keywordEach [] X.env))) := by rfl)
    (he : starEach (e :: es) X.env = (false, eval e X.env) :: starEach es X.env := by rfl)
    (hpl : (backTo pos (starEach es X.env)).any (·.1) = false := by rfl) :
    PE X (.Call (.Attribute (.Name "ValueError" p1) "__init__" p2) (e :: es) [] pos) (tVeq X.K ta) := by
  refine ⟨fun pins s σ H Q I h => ?_⟩
  refine PySem.W.methodCall_KW (ld_blt I hg hm PyProof.Rows.Boot.«ValueError» ?_ (by decide) (by decide)) hc
  obtain ⟨m, fr⟩ := I.fr
  refine PySem.W.method_type fr I.ok.mod.kin PySem.OEX.typ_VE (by decide +kernel) vV (by decide +kernel) ?_
  refine PyProof.Rows.callWith_method1 (first := []) (thn (ha.run pos pins _ σ H _ (I.tok _) h)
    fun us s1 ⟨vs, H1, I1, r1, a, C, t0, ws, ev, hl, T, ea, q⟩ => ?_) he hpl
  subst ev
  cases r1 with
  | @cons _ u0 _ ur ra rw' =>
    obtain rfl : u0 = Value.ref a := ra
    have hlen : ur.length ≤ sizeLine := by
      rw [← Paired.length rw', sizeLine_eq]
      omega
    exact eq_init T I1 ea hlen rw' fun t2 s' n1 n2 J => ⟨.non, _, J, rfl, q t2 n1 n2⟩

theorem ps_est (ho : PE X o to) (he : PE X e te)
    (hs : swapsWith e (some (.Attribute o f p')) pos.line X.env = pure false := by rfl) :
    PS X (.Assign [.Attribute o f p'] e pos) (tEst X.K f to te) := by
  refine ⟨fun pins s σ H D I h => ?_⟩
  refine plainObj_wpAny_Assign_Attribute (thn (he.run pins s σ H _ I h) fun v s1 ⟨y, H1, I1, r1, q1⟩ =>
    thn (ho.run pins s1 σ H1 _ I1 q1) fun u s2 ⟨x, H2, I2, r2, a, C, t1, ex, T, hno, ea, q⟩ => ?_) hs
  subst ex
  obtain rfl : u = Value.ref a := r2
  exact eq_new T I2 ea hno r1 fun dx s' n ne J => ⟨σ, _, J, q dx n ne⟩

/-- C.m(e, ..), C an own class, m a def of it: read off the class -/
theorem pe_off {x m : Str} {CX : CXT} {k : Nat} {C g : Addr} {fd : FuncData} {ps : List Str} {sp : Sp} {E : XK}
    {dvs : List V} {ds : List Value} {pl : Sem Bool} (hg : Gl X x) (hm : X.mg x = some (.ref C))
    (sg : PySem.W.specialIn X.K (.ref C) "__getattribute__" = some (some (.builtin "type.__getattribute__")))
    (rd : PySem.W.readsIn X.K C (.type "type") = true)
    (at_ : PySem.W.findCls X.K (.ref C) (.type "type") m = some (.val (.ref g)))
    (kg : PySem.W.keepIn X.K (.ref g) = true)
    (F : FnOk X.prog X.w X.K X.mg X.base CX k g fd ps sp) (hr : Room k X.A) (hb : Binds X.K fd ps ds)
    (hd : Vals dvs ds) (hx : Passes CX X E) (ha : PA X (e :: es) ta)
    (hdb : (x == ("__debug__" : Str)) = false := by decide)
    (hc : eval (.Call (.Attribute (.Name x p1) m p2) (e :: es) [] pos) X.env = (do
      let ov ← eval (.Name x p1) X.env
      standAt p2.atName
      let (f, first) ← holding [ov] (getMethod ov m pl)
      callWith pos f first (backTo pos (starEach (e :: es) X.env)) (backToKw pos (keywordEach [] X.env))) := by rfl)
    (he : starEach (e :: es) X.env = (false, eval e X.env) :: starEach es X.env := by rfl)
    (hpl : (backTo pos (starEach es X.env)).any (·.1) = false := by rfl) :
    PE X (.Call (.Attribute (.Name x p1) m p2) (e :: es) [] pos) (tCall sp dvs E ta) := by
  refine ⟨fun pins s σ H Q I h => ?_⟩
  refine PySem.W.methodCall_KW (ld_glob I hg hm ?_ hdb) hc
  refine PySem.W.method_cls I.kIn sg (PySem.W.cls_value I.kIn rd at_ rfl ?_)
  refine PySem.W.callWith_K (first := []) (h₀ := X.base) I.ok.mod.kin kg
    (thn (ha.run pos pins _ σ H _ (I.tok _) h) fun us s1 ⟨vs, H1, I1, r, q⟩ => ⟨I1.kIn, ?_⟩) he hpl
  exact run_fn F hr hb hd hx I1 r q

theorem pe_mkq {x : Str} {C fI : Addr} {k : Nat} {CX : CXT} {fd : FuncData} {ps : List Str} {sp : Sp}
    {ds : List Value} {dvs : List V} (T : OexC X.K C)
    (iC : PySem.W.findIn X.K (.ref C) "__init__" = some (some (.ref fI)))
    (tI : PySem.W.typeIn X.K (.ref fI) = some (.type "function"))
    (F1 : FnOk X.prog X.w X.K X.mg X.base CX k fI fd ps sp) (hr : Room (k + 1) X.A) (hb : Binds X.K fd ps ds)
    (hd : Vals dvs ds) (hx : Passes CX X (fun _ _ _ => False)) (hg : Gl X x) (hm : X.mg x = some (.ref C))
    (ha : PA X (e :: es) ta) (hdb : (x == ("__debug__" : Str)) = false := by decide)
    (he : starEach (e :: es) X.env = (false, eval e X.env) :: starEach es X.env := by rfl)
    (hpl : (backTo pos (starEach es X.env)).any (·.1) = false := by rfl) :
    PE X (.Call (.Name x p) (e :: es) [] pos) (tMkq C sp dvs ta) := by
  refine ⟨fun pins s σ H Q I h => ?_⟩
  obtain ⟨nm, q, N, bs, bm, sn, sub, ab, col, dd, k0, k1, k2, k3, k5, hC, hbm⟩ := T.cls
  refine wpAny_Call_Name_kw (ld_glob I hg hm ?_ hdb)
  refine PySem.W.callWith_K (h₀ := X.base) I.ok.mod.kin T.kC
    (thn (ha.run pos pins s σ H _ I h) fun us s1 ⟨vs, H1, I1, r1, hz, q1⟩ => ⟨I1.kIn, ?_⟩) he hpl
  show wpAny _ _ (call (.ref C) us) _ _ _
  obtain ⟨hp, g, dr, tk, os⟩ := s1
  have n0 : H1 hp.objs.size = none := I1.hok.fresh (Nat.le_refl _)
  have n1 : H1 (hp.objs.size + 1) = none := I1.hok.fresh (Nat.le_succ _)
  have hne : hp.objs.size ≠ hp.objs.size + 1 := Nat.ne_of_lt (Nat.lt_succ_self _)
  have hq := q1 hp.objs.size (hp.objs.size + 1) n0 n1 hne
  have hus : us.length ≤ sizeLine := by
    rw [← Paired.length r1, sizeLine_eq]
    omega
  have I2 : Inv X pins σ (upd H1 hp.objs.size (.tup vs)) ⟨hp.push (PySem.W.kdv_tup us), g, dr, tk, os⟩ :=
    I1.laid (t' := tk) (a := hp.objs.size) (o := .tup vs) (h' := hp.push (PySem.W.kdv_tup us))
      (fun b o z => Heap.get?_push_of_some _ z) (Nat.le_refl _)
      ⟨by rw [Paired.length r1]; exact hus, us, r1, _, Heap.get?_push_size _ rfl, rfl, _, rfl⟩
  have hget : ((hp.push (PySem.W.kdv_tup us)).push (exOb C none hp.objs.size)).get? (hp.objs.size + 1) =
      some (exOb C none hp.objs.size) := by heap_get
  have hsz2 : (hp.push (PySem.W.kdv_tup us)).objs.size ≤ hp.objs.size + 1 := by
    simp [Heap.push]
  have I3 : Inv X pins σ (upd (upd H1 hp.objs.size (.tup vs)) (hp.objs.size + 1) (exq (hp.objs.size + 1) C none hp.objs.size))
      ⟨(hp.push (PySem.W.kdv_tup us)).push (exOb C none hp.objs.size), g, dr, tk, os⟩ :=
    I2.laid (t' := tk) (a := hp.objs.size + 1) (o := exq (hp.objs.size + 1) C none hp.objs.size)
      (h' := (hp.push (PySem.W.kdv_tup us)).push (exOb C none hp.objs.size))
      (fun b o z => Heap.get?_push_of_some _ z) hsz2 (exq_ok hget)
  have r2 : Vals (V.ref (hp.objs.size + 1) :: (vs ++ dvs)) (Value.ref (hp.objs.size + 1) :: (us ++ ds)) :=
    .cons rfl (r1.append hd)
  have hl : (Value.ref (hp.objs.size + 1) :: us ++ ds).length = ps.length :=
    r2.length.symm.trans (F1.len _ _ _ _ hq)
  refine wpAny_call (PySem.HandSPX.call_own F.excBase_ValueError (fun Y => PySem.HandSPX.refsVE_contains Y bm hbm)
    (I1.kIn _ _ hC) (PySem.W.looks_findIn I1.kIn iC) (fun self => PySem.W.bind_fn I1.kIn self tI) hus
    (codeAny_mono (F1.run _ X.stack _ _ ⟨Value.ref (hp.objs.size + 1) :: us, []⟩
      (Value.ref (hp.objs.size + 1) :: (us ++ ds)) _ _ (fun _ _ _ => False) (hr.make C us []) (I3.env0.make C us [])
      (hb _ (Value.ref (hp.objs.size + 1) :: us) I3.kIn hl) r2 hq) fun r s' hq' => ?_))
  match r, hq' with
  | .error er, hq' => exact hx pins σ _ _ er s' I3 hq'
  | .ok (.ret u), hq' =>
    obtain ⟨v, H', I4, rv, ev, q3⟩ := I3.after hq'
    subst ev
    exact ⟨rv, ⟨V.ref (hp.objs.size + 1), H', I4, rfl, q3⟩⟩
  | .ok .next, hq' => exact False.elim hq'
  | .ok .brk, hq' => exact False.elim hq'
  | .ok .cont, hq' => exact False.elim hq'
end
end Pw

/-! What repr tells of a value: of data that are tracked, with exceptions of one's own among them. -/
namespace Pw
open PySem PySem.Spec PyProof.Rows L2
open Sem (wp)
open Builtin Builtin.Str Builtin.BaseException Builtin.Exceptions

/-- how a class's name stands in what is shown -/
def clsHead (n : Str) : Str := Str.ofString ((n.toString.cutAt '.').getLastD "")
/-- what the class of an exception must say, so that it is shown by its name and its args -/
structure ExR (K : PySem.W.Frag) (C : Addr) (nm : Str) : Prop where
  rep : PySem.W.findIn K (.ref C) "__repr__" = some (some (.builtin "BaseException.__repr__"))
  sub : PySem.W.subIn K (.ref C) (.type "BaseException") = some true
  nam : ∃ cd, PySem.W.clsIn K C = some cd ∧ cd.name = nm

mutual
/-- repr of the value is the text; the first number: how deep it is; the second: no less than the text's length -/
inductive Shw (K : PySem.W.Frag) (H : Hp) : V → Nat → Nat → Str → Prop
  | non : Shw K H .non 0 5 "None"
  | bl (b : Bool) : Shw K H (.bl b) 0 5 (if b then "True" else "False")
  | int (i : Int) (h : i.natAbs.log2 < 1920) : Shw K H (.int i) 0 1921 (toString i)
  | str (x : Str) (m : Nat) (h : (reprText x).length ≤ m) : Shw K H (.str x) 0 m (reprText x)
  | lst {a : Addr} {xs : List V} {d n : Nat} {ts : List Str} (e : H a = some (.lst xs)) (h : ShwL K H xs d n ts) :
      Shw K H (.ref a) (d + 1) (n + 2) (listText ts)
  | tup {a : Addr} {xs : List V} {d n : Nat} {ts : List Str} (e : H a = some (.tup xs)) (h : ShwL K H xs d n ts) :
      Shw K H (.ref a) (d + 1) (n + 3) (tupleText ts)
  | dct {a : Addr} {kvs : List (Key × V)} {d1 d2 n1 n2 : Nat} {ks vs : List Str} (e : H a = some (.dK kvs))
      (h1 : ShwL K H (kvs.map fun p => kV p.1) d1 n1 ks) (h2 : ShwL K H (kvs.map fun p => p.2) d2 n2 vs) :
      Shw K H (.ref a) (max d1 d2 + 1) (n1 + n2 + 2) (dictText (List.zipWith (fun k v : Str => k ++ ": " ++ v) ks vs))
  | exc {a C t : Addr} {d : Option Addr} {x nm : Str} {n1 n2 : Nat} (e : H a = some (exq a C d t))
      (et : H t = some (.tup [.str x])) (c : ExR K C nm) (l1 : (clsHead nm).length ≤ n1) (l2 : (reprText x).length ≤ n2) :
      Shw K H (.ref a) 0 (n1 + n2 + 2) (clsHead nm ++ "(" ++ reprText x ++ ")")
inductive ShwL (K : PySem.W.Frag) (H : Hp) : List V → Nat → Nat → List Str → Prop
  | nil : ShwL K H [] 0 0 []
  | cons {v : V} {vs : List V} {d e n m : Nat} {t : Str} {ts : List Str} (h : Shw K H v d n t) (hs : ShwL K H vs e m ts) :
      ShwL K H (v :: vs) (max d e) (n + 2 + m) (t :: ts)
end

theorem dK_lst {kvs : List (Key × V)} {xs : List V} : HO.dK kvs ≠ HO.lst xs := fun z => nomatch z
theorem dK_exq {kvs : List (Key × V)} {e C t : Addr} {d : Option Addr} : HO.dK kvs ≠ exq e C d t := fun z => by
  have z' : HO.dK kvs = HO.ext _ := z
  cases z'
section
variable {K : PySem.W.Frag} {H : Hp}
mutual
/-- a value is as deep as it is -/
theorem Shw.one : ∀ {v : V} {d n d' n' : Nat} {t t' : Str}, Shw K H v d n t → Shw K H v d' n' t' → d = d'
  | _, _, _, _, _, _, _, .non, .non => rfl
  | _, _, _, _, _, _, _, .bl _, .bl _ => rfl
  | _, _, _, _, _, _, _, .int _ _, .int _ _ => rfl
  | _, _, _, _, _, _, _, .str _ _ _, .str _ _ _ => rfl
  | _, _, _, _, _, _, _, .lst e h, .lst e' h' => by
    cases e.symm.trans e'
    rw [ShwL.one h h']
  | _, _, _, _, _, _, _, .lst e h, .tup e' h' => nomatch e.symm.trans e'
  | _, _, _, _, _, _, _, .lst e h, .dct e' _ _ => nomatch e.symm.trans e'
  | _, _, _, _, _, _, _, .lst e h, .exc e' _ _ _ _ => absurd (Option.some.inj (e.symm.trans e')).symm exq_lst
  | _, _, _, _, _, _, _, .tup e h, .lst e' h' => nomatch e.symm.trans e'
  | _, _, _, _, _, _, _, .tup e h, .tup e' h' => by
    cases e.symm.trans e'
    rw [ShwL.one h h']
  | _, _, _, _, _, _, _, .tup e h, .dct e' _ _ => nomatch e.symm.trans e'
  | _, _, _, _, _, _, _, .tup e h, .exc e' _ _ _ _ => absurd (Option.some.inj (e.symm.trans e')).symm exq_tup
  | _, _, _, _, _, _, _, .dct e _ _, .lst e' h' => nomatch e.symm.trans e'
  | _, _, _, _, _, _, _, .dct e _ _, .tup e' h' => nomatch e.symm.trans e'
  | _, _, _, _, _, _, _, .dct e h1 h2, .dct e' h1' h2' => by
    cases e.symm.trans e'
    rw [ShwL.one h1 h1', ShwL.one h2 h2']
  | _, _, _, _, _, _, _, .dct e _ _, .exc e' _ _ _ _ => absurd (Option.some.inj (e.symm.trans e')) dK_exq
  | _, _, _, _, _, _, _, .exc e _ _ _ _, .lst e' h' => absurd (Option.some.inj (e.symm.trans e')) exq_lst
  | _, _, _, _, _, _, _, .exc e _ _ _ _, .tup e' h' => absurd (Option.some.inj (e.symm.trans e')) exq_tup
  | _, _, _, _, _, _, _, .exc e _ _ _ _, .dct e' _ _ => absurd (Option.some.inj (e.symm.trans e')).symm dK_exq
  | _, _, _, _, _, _, _, .exc e _ _ _ _, .exc e' _ _ _ _ => rfl
theorem ShwL.one : ∀ {vs : List V} {d n d' n' : Nat} {ts ts' : List Str}, ShwL K H vs d n ts → ShwL K H vs d' n' ts' → d = d'
  | _, _, _, _, _, _, _, .nil, .nil => rfl
  | _, _, _, _, _, _, _, .cons h hs, .cons h' hs' => by rw [Shw.one h h', ShwL.one hs hs']
end

/-- the length of a join of texts, each with two signs more -/
theorem join_le (sep : Str) (hsep : sep.length = 2) : ∀ ts : List Str, (Str.join sep ts).length ≤ (ts.map fun t => t.length + 2).sum
  | [] => by
    show (Str.join sep []).length ≤ 0
    exact Nat.le_of_eq rfl
  | [x] => by
    show x.length ≤ _
    simp only [List.map_cons, List.map_nil, List.sum_cons, List.sum_nil]
    omega
  | x :: y :: r => by
    have ih := join_le sep hsep (y :: r)
    show (x ++ sep ++ Str.join sep (y :: r)).length ≤ _
    rw [strLen_append, strLen_append, hsep]
    simp only [List.map_cons, List.sum_cons] at ih ⊢
    omega
theorem textFrom_le : ∀ (ts : List Str) (i : Nat) (b : Str), (textFrom i b ts).length ≤ b.length + (ts.map fun t => t.length + 2).sum := by
  intro ts
  induction ts with
  | nil =>
    intro i b
    exact Nat.le_add_right _ _
  | cons t r ih =>
    intro i b
    have h := ih (i + 1) (b ++ Str.ofString (if 0 < i then ", " else "") ++ t)
    have e : textFrom i b (t :: r) = textFrom (i + 1) (b ++ Str.ofString (if 0 < i then ", " else "") ++ t) r := rfl
    rw [e]
    refine Nat.le_trans h ?_
    rw [strLen_append, strLen_append]
    have h2 : (Str.ofString (if 0 < i then ", " else "")).length ≤ 2 := by
      split <;> decide +kernel
    simp only [List.map_cons, List.sum_cons]
    omega
mutual
theorem Shw.len : ∀ {v : V} {d n : Nat} {t : Str}, Shw K H v d n t → t.length ≤ n
  | _, _, _, _, .non => by decide +kernel
  | _, _, _, _, .bl b => by cases b <;> decide +kernel
  | _, _, _, _, .int i h => int_text_len_1921 h
  | _, _, _, _, .str x m h => h
  | _, _, _, _, .lst (ts := ts) e h => by
    have h1 := ShwL.len h
    have h2 := textFrom_le ts 0 "["
    have e1 : ("[" : Str).length = 1 := rfl
    have e2 : (listText ts).length = (textFrom 0 "[" ts).length + 1 := by
      show (textFrom 0 "[" ts ++ "]").length = _
      rw [strLen_append]; rfl
    omega
  | _, _, _, _, .tup (ts := ts) e h => by
    have h1 := ShwL.len h
    have h2 := join_le ", " rfl ts
    unfold tupleText
    rw [strLen_append, strLen_append]
    have e1 : ("(" : Str).length = 1 := rfl
    have e2 : (Str.ofString (if (ts.length == 1) = true then ",)" else ")")).length ≤ 2 := by split <;> decide +kernel
    omega
  | _, _, _, _, .dct (ks := ks) (vs := vs) e h1 h2 => by
    have q1 := ShwL.len h1
    have q2 := ShwL.len h2
    have q3 := join_le ", " rfl (List.zipWith (fun k v : Str => k ++ ": " ++ v) ks vs)
    have q4 : ∀ (ks vs : List Str), ((List.zipWith (fun k v : Str => k ++ ": " ++ v) ks vs).map fun t => t.length + 2).sum ≤ (ks.map fun t => t.length + 2).sum + (vs.map fun t => t.length + 2).sum := by
      intro ks
      induction ks with
      | nil => intro vs; simp
      | cons k r ih =>
        intro vs
        cases vs with
        | nil => simp
        | cons v r' =>
          have i1 := ih r'
          have i2 : (k ++ (": " : Str) ++ v).length = k.length + 2 + v.length := by
            rw [strLen_append, strLen_append]; rfl
          simp only [List.zipWith_cons_cons, List.map_cons, List.sum_cons] at i1 ⊢
          omega
    have q5 := q4 ks vs
    unfold dictText
    rw [strLen_append, strLen_append]
    have e1 : ("{" : Str).length = 1 := rfl
    have e2 : ("}" : Str).length = 1 := rfl
    omega
  | _, _, _, _, .exc e et c l1 l2 => by
    rw [strLen_append, strLen_append, strLen_append]
    have e1 : ("(" : Str).length = 1 := rfl
    have e2 : (")" : Str).length = 1 := rfl
    omega
theorem ShwL.len : ∀ {vs : List V} {d n : Nat} {ts : List Str}, ShwL K H vs d n ts → (ts.map fun t => t.length + 2).sum ≤ n
  | _, _, _, _, .nil => Nat.le_refl _
  | _, _, _, _, .cons h hs => by
    have h1 := Shw.len h
    have h2 := ShwL.len hs
    simp only [List.map_cons, List.sum_cons]
    omega
end
end

/-! ### an exception of one's own is shown -/
section
variable {prog : Program} {w : World} {h₀ : Heap} {K : PySem.W.Frag} {C : Addr} {nm : Str}
theorem typ_at {M : Model} {h : Heap} {e t : Addr} {d : Option Addr} (he : h.get? e = some (exOb C d t)) :
    PySem.W.Looks M h (typeOf (.ref e)) (.ref C) := by
  intro A' Q' E' s' k q
  unfold typeOf
  exact wpAny_bind (wpAny_loadPart (k _ _ he) (wpAny_pure q))
/-- the displayed class, by name -/
theorem name_of {M : Model} {A : Around} {E : Value → Shared → Prop} {s : Shared} {e t : Addr} {d : Option Addr}
    {cd : ClassData} {Q : String → Shared → Prop} (X : K.In s.heap) (he : s.heap.get? e = some (exOb C d t))
    (hc : PySem.W.clsIn K C = some cd) (hq : Q cd.name.toString s) : wpAny M A (typeNameOfWhole (.ref e)) Q E s := by
  unfold typeNameOfWhole shownTypeOf
  have L0 : PySem.W.Looks M s.heap (typeOf (.ref e)) (.ref C) := typ_at he
  refine wpAny_bind (wpAny_bind (L0.here ?_))
  have e0 : (Value.ref C == Value.type "builtin_function_or_method") = false := rfl
  simp only [e0, Bool.false_eq_true, if_false]
  refine wpAny_pure ?_
  unfold typeNameWhole
  exact wpAny_bind ((PySem.W.looks_clsIn X hc).here (wpAny_pure hq))

theorem exc_body {A : Around} {E : Value → Shared → Prop} {s : Shared} {e t : Addr} {d : Option Addr} {cd : ClassData}
    {x : Str} {tk : Tok} {Q : Fin → Shared → Prop} (b : Nat) (X : K.In s.heap) (he : s.heap.get? e = some (exOb C d t))
    (ht : s.heap.TupAt t [.str x tk]) (hc : PySem.W.clsIn K C = some cd)
    (hq : Q (.done (.ret (.str (clsHead cd.name ++ "(" ++ reprText x ++ ")") (s.toks + 1)))) { s with toks := s.toks + 1 + 1 })
    (hsz : b + (clsHead cd.name ++ "(" ++ reprText x ++ ")").length ≤ sizeLine) :
    wpAny (model prog w) A (Builtin.bexcReprAt b ⟨[.ref e], []⟩) Q E s := by
  have e1 : b + (clsHead cd.name ++ Str.ofString "(" ++ reprText x ++ Str.ofString ")").length ≤ sizeLine := hsz
  have hsz2 : (clsHead cd.name ++ Str.ofString "(" ++ reprText x ++ Str.ofString ")").length ≤ sizeLine := by omega
  have eP : (Str.ofString "(").length = 1 := rfl
  rw [strLen_append, strLen_append, strLen_append, eP] at e1
  have hsz1 : (reprText x).length ≤ sizeLine := by omega
  have hpile : b + ((clsHead cd.name).length + 1) ≤ sizeLine := by omega
  obtain ⟨ot, k, hto, _, htd⟩ := id ht
  have args : ∀ {A' : Around} {E' : Value → Shared → Prop} {Q' : Value × List Value → Shared → Prop},
      Q' (.ref t, [.str x tk]) s → wpAny (model prog w) A' (bexcArgs (.ref e)) Q' E' s := fun {A' E' Q'} q => by
    unfold bexcArgs
    exact wpAny_bind (wpAny_field he rfl rfl (wpAny_bind (wpAny_seqItems hto htd (wpAny_pure q))))
  unfold Builtin.bexcReprAt
  unfold clsHead at hpile hsz2
  repeat (first | with_reducible refine name_of X he hc ?_ | with_reducible refine args ?_ | rw [pyReprUnder_leaf (v := .str x tk) hpile (by intro a; nofun)] | with_reducible refine wpAny_pyRepr_str ?_ | wp_step)
  exact hq

theorem ReprK.exq {e t : Addr} {d : Option Addr} {x : Str} {tk : Tok} (X : K.In h₀) (he : h₀.get? e = some (exOb C d t))
    (ht : h₀.TupAt t [.str x tk]) (R : ExR K C nm) :
    ReprK prog w [] h₀ 0 (.ref e) (clsHead nm ++ "(" ++ reprText x ++ ")") := by
  intro base hb A g E s Q hg hcl hu hk0 hQ
  obtain ⟨cd, hc, rfl⟩ := R.nam
  have X' : K.In s.heap := fun a o z => hk0 a o (X a o z)
  have he' := hk0 _ _ he
  have ht' : s.heap.TupAt t [.str x tk] := let ⟨o, k, h1, h2⟩ := ht; ⟨o, k, hk0 _ _ h1, h2⟩
  have L0 : PySem.W.Looks (model prog w) s.heap (typeOf (.ref e)) (.ref C) := typ_at he'
  have L1 := PySem.W.looks_findIn (M := model prog w) X' R.rep
  have sub : PySem.W.Looks (model prog w) s.heap (isInstance (.ref e) (.type "BaseException")) true :=
    L0.andThen (PySem.W.looks_subIn X' R.sub)
  refine wpAny_pyReprUnder_ref (by omega) ?_
  unfold pyReprObjUnder pyReprObjBy
  refine wpAny_bind (wpAny_cRoomFor (by omega) ?_)
  refine wpAny_bind (wpAny_bind (L0.here (L1.here ?_)))
  have last : wpAny (model prog w) A (call (.builtin "BaseException.__repr__.under") [.ref e, rawInt base])
      (fun v s' => ∃ y u, v = .str y u ∧ Q y s') E s := by
    refine wpAny_call (codeAny_call_builtin F.plain_bexc_repr_under F.entry_bexc_repr_under ?_)
    rw [F.check_bexc_repr_under]
    refine wpAny_pure ?_
    show wpAny _ _ (reprTwin "BaseException.__repr__" Builtin.bexcReprAt ⟨[.ref e, rawInt base], []⟩) _ _ _
    rw [reprTwin_eq]
    refine wpAny_bind (PySem.W.check_slot (i := "BaseException.__repr__") (owner := "BaseException") (n := "__repr__")
      (by decide +kernel) (by decide +kernel) sub (F.args_bexc_repr _) ?_)
    refine exc_body base X' he' ht' hc ?_ hb
    exact ⟨_, _, rfl, hQ s.heap _ fun _ _ z => z⟩
  simp only [Option.isNone_some, Bool.false_eq_true, if_false, callSpecialIfBoundBy?, bindSpecialIfBound?]
  refine wpAny_bind (wpAny_holding (wpAny_bind (wpAny_bind (wpAny_bind (L0.here (L1.here ?_))))))
  have fin : wpAny (model prog w) A (call (.builtin "BaseException.__repr__.under") [.ref e, rawInt base] >>= fun v => pure (some v))
      (fun r s' => wpAny (model prog w) A (match r with
        | some r => do
          if (← isInstance r (.type "str")) = true then pure r else
            raiseError "TypeError" s!"__repr__ returned non-string (type {← typeNameOf r})"
        | none => unsupported "repr:special-get-raises") (fun v s' => ∃ y u, v = .str y u ∧ Q y s') E s') E s :=
    wpAny_bind (wpAny_mono last (fun v s' z => by
      obtain ⟨y, u, rfl, q⟩ := z
      exact wpAny_pure (wpAny_bind (wpAny_isInstance (T := "str") (b := true) rfl isSubtype_str_str (wpAny_pure ⟨y, u, rfl, q⟩))))
      fun _ _ z => z)
  have bd : bindSpecial (.builtin "BaseException.__repr__") (.ref e) = pure (.builtin "BaseException.__repr__", [.ref e]) :=
    F.excStr_ValueError.repr.bind _
  dsimp only
  simp only [bd]
  refine wpAny_bind (wpAny_askSetting (wpAny_ite ?_))
  split
  · exact wpAny_bind (wpAny_pure (wpAny_pure fin))
  · exact wpAny_tryCatch (wpAny_bind (wpAny_pure (wpAny_pure fin)))
end
end Pw

namespace Pw
open PySem PySem.Spec PyProof.Rows L2

/-- places that are shown no deeper than that -/
def AtM (K : PySem.W.Frag) (H : Hp) (n : Nat) (bs : List Addr) : Prop :=
  ∀ b ∈ bs, ∃ d m t, Shw K H (.ref b) d m t ∧ d ≤ n
theorem AtM.mono {K : PySem.W.Frag} {H : Hp} {n m : Nat} {bs : List Addr} (h : AtM K H n bs) (l : n ≤ m) : AtM K H m bs :=
  fun b hb => let ⟨d, k, t, s, z⟩ := h b hb; ⟨d, k, t, s, Nat.le_trans z l⟩
theorem AtM.app {K : PySem.W.Frag} {H : Hp} {n : Nat} {as bs : List Addr} (h : AtM K H n as) (g : AtM K H n bs) :
    AtM K H n (as ++ bs) := fun b hb => (List.mem_append.mp hb).elim (h b) (g b)
theorem AtM.out {K : PySem.W.Frag} {H : Hp} {n d m : Nat} {a : Addr} {t : Str} {bs : List Addr} (h : AtM K H n bs)
    (s : Shw K H (.ref a) d m t) (l : n < d) : a ∉ bs := fun hm => by
  obtain ⟨d', m', t', s', z⟩ := h a hm
  have e := Shw.one s s'
  omega
theorem AtM.con {K : PySem.W.Frag} {H : Hp} {n d m : Nat} {a : Addr} {t : Str} {bs : List Addr} (h : AtM K H n bs)
    (s : Shw K H (.ref a) d m t) (l : n ≤ d) : AtM K H d (a :: bs) := fun b hb => by
  rcases List.mem_cons.mp hb with e | hb
  · subst e
    exact ⟨d, m, t, s, Nat.le_refl _⟩
  · exact (h.mono l) b hb

theorem pairs_keys {P : Program} {w : World} : ∀ {kvs : List (Key × V)} {vs : List (Key × Value)} {es : List DictEntry},
    KV kvs vs → PySem.Pairs (mixKind P w) es vs →
    Vals (kvs.map fun p => kV p.1) (es.map (·.key)) ∧ Vals (kvs.map fun p => p.2) (es.map (·.val))
  | _, _, _, .nil, .nil => ⟨.nil, .nil⟩
  | _, _, _, .cons (a := p) (b := q) h hs, .cons (e := e) hk hv ps => by
    obtain ⟨h1, h2⟩ := pairs_keys hs ps
    refine ⟨.cons ?_ h1, .cons ?_ h2⟩
    · have hk' : keyIs q.1 e.key = true := hk
      show RelV (kV p.1) e.key
      rw [h.1]
      rcases keyIs_shape hk' with ⟨i, t, e1, e2⟩ | ⟨x, t, e1, e2⟩
      · rw [e1, e2]; exact ⟨t, rfl⟩
      · rw [e1, e2]; exact ⟨t, rfl⟩
    · show RelV p.2 e.val
      rw [hv]; exact h.2

section
variable {P : Program} {w : World} {K : PySem.W.Frag} {H : Hp} {h : Heap}
mutual
theorem Shw.run (hok : HOk P w H h) (X : K.In h) : ∀ {v : V} {d n : Nat} {t : Str}, Shw K H v d n t → n ≤ sizeLine →
    ∀ u, RelV v u → ∃ bs, AtM K H d bs ∧ ReprK P w bs h d u t
  | _, _, _, _, .non, _, u, r => by
    obtain rfl : u = Value.none := r
    exact ⟨[], (fun _ z => nomatch z), .of_is ReprIs.none _ _ _⟩
  | _, _, _, _, .bl b, _, u, r => by
    obtain rfl : u = Value.bool b := r
    exact ⟨[], (fun _ z => nomatch z), .of_is (ReprIs.bool b) _ _ _⟩
  | _, _, _, _, .int i hi, _, u, r => by
    obtain ⟨t, rfl⟩ := (show ∃ t, u = Value.int i t from r)
    exact ⟨[], (fun _ z => nomatch z), .of_is (ReprIs.int t hi) _ _ _⟩
  | _, _, _, _, .str x m hm, hl, u, r => by
    obtain ⟨t, rfl⟩ := (show ∃ t, u = Value.str x t from r)
    exact ⟨[], (fun _ z => nomatch z), .of_is (ReprIs.str x t (Nat.le_trans hm hl)) _ _ _⟩
  | _, _, _, _, .lst (a := a) (xs := xs) (d := d) (ts := ts) e hs, hl, u, r => by
    obtain rfl : u = Value.ref a := r
    obtain ⟨_, its, k, rv, h1⟩ := (show ObjOk P w H h a (.lst xs) from hok a _ e)
    obtain ⟨bs, hb, hk⟩ := ShwL.run hok X hs (by omega) its rv
    have sh := Shw.lst e hs
    have hna := hb.out sh (Nat.lt_succ_self _)
    refine ⟨a :: bs, hb.con sh (Nat.le_succ _), ?_⟩
    cases its with
    | nil =>
      cases hk
      rw [listText_nil]
      exact ReprK.listEmpty h1 rfl rfl
    | cons y l => exact ReprK.list h1 rfl rfl hna (by simpa using hk.length_eq) (fun i z q => hk.item i z (by simpa using q))
  | _, _, _, _, .tup (a := a) (xs := xs) (d := d) (ts := ts) e hs, hl, u, r => by
    obtain rfl : u = Value.ref a := r
    obtain ⟨_, its, rv, o, h1, h2, k, h3⟩ := (show ObjOk P w H h a (.tup xs) from hok a _ e)
    obtain ⟨bs, hb, hk⟩ := ShwL.run hok X hs (by omega) its rv
    have sh := Shw.tup e hs
    exact ⟨a :: bs, hb.con sh (Nat.le_succ _), ReprK.tuple h1 h2 h3 (hb.out sh (Nat.lt_succ_self _)) (by simpa using hk)⟩
  | _, _, _, _, .dct (a := a) (kvs := kvs) (ks := ks) (vs := vs) e hs1 hs2, hl, u, r => by
    obtain rfl : u = Value.ref a := r
    obtain ⟨_, hsys, us, hkv, o, es, ep, h1, h2, h3, _, h4, _⟩ := (show ObjOk P w H h a (.dK kvs) from hok a _ e)
    obtain ⟨r1, r2⟩ := pairs_keys hkv h4
    obtain ⟨b1, hb1, k1⟩ := ShwL.run hok X hs1 (by omega) _ r1
    obtain ⟨b2, hb2, k2⟩ := ShwL.run hok X hs2 (by omega) _ r2
    have sh := Shw.dct e hs1 hs2
    have hb := (hb1.mono (Nat.le_max_left _ _)).app (hb2.mono (Nat.le_max_right _ _))
    exact ⟨a :: (b1 ++ b2), hb.con sh (Nat.le_succ _), ReprK.dict h1 h2.1 h3 hsys (hb.out sh (Nat.lt_succ_self _))
      (ReprEntriesK.of_two es.toList _ _ (k1.more_le (fun b z => List.mem_append_left _ z) (Nat.le_max_left _ _))
        (k2.more_le (fun b z => List.mem_append_right _ z) (Nat.le_max_right _ _)))⟩
  | _, _, _, _, .exc (a := a) (C := C) (t := t) e et c l1 l2, hl, u, r => by
    obtain rfl : u = Value.ref a := r
    obtain ⟨_, its, rv, o, h1, h2, k, h3⟩ := (show ObjOk P w H h t (.tup _) from hok t _ et)
    cases rv with
    | cons rx rr =>
      cases rr
      obtain ⟨tk, rfl⟩ := (show ∃ tk, _ = Value.str _ tk from rx)
      exact ⟨[], (fun _ z => nomatch z), ReprK.exq X (exq_at hok e) ⟨o, k, h1, h2, h3⟩ c⟩
theorem ShwL.run (hok : HOk P w H h) (X : K.In h) : ∀ {vs : List V} {d n : Nat} {ts : List Str}, ShwL K H vs d n ts → n ≤ sizeLine →
    ∀ us, Vals vs us → ∃ bs, AtM K H d bs ∧ ReprAllK P w bs h d us ts
  | _, _, _, _, .nil, _, us, r => by
    cases r
    exact ⟨[], (fun _ z => nomatch z), .nil⟩
  | _, _, _, _, .cons s ss, hl, us, r => by
    cases r with
    | cons rx rr =>
      obtain ⟨b1, hb1, k1⟩ := Shw.run hok X s (by omega) _ rx
      obtain ⟨b2, hb2, k2⟩ := ShwL.run hok X ss (by omega) _ rr
      refine ⟨b1 ++ b2, (hb1.mono (Nat.le_max_left _ _)).app (hb2.mono (Nat.le_max_right _ _)), .cons ?_ ?_⟩
      · exact (k1.more fun b z => List.mem_append_left _ z).level_le (Nat.le_max_left _ _)
      · exact k2.more_le (fun b z => List.mem_append_right _ z) (Nat.le_max_right _ _)
end
end

/-- repr(x): its text -/
def rRepr (K : PySem.W.Frag) : List V → Hp → VK → Prop := fun xs H Q => ∃ (x : V) (d n : Nat) (t : Str),
  xs = [x] ∧ Shw K H x d n t ∧ (∀ a, x = .ref a → 0 < d) ∧ n ≤ sizeLine ∧ d ≤ 60 ∧ Q (.str t) H
theorem call_repr {X : Cx} (gd : X.A.guards = some []) (hu : X.A.units + 64 < cLine) : CallR X (.builtin "repr") (rRepr X.K) := by
  intro pins s σ H xs us Q I r h
  obtain ⟨x, d, n, t, rfl, sh, hpos, hl, hd, q⟩ := h
  have hlen := Shw.len sh
  cases r with
  | cons rx rr =>
    cases rr
    rename_i u
    have hback : ∀ h' uu tk, (∀ b o, s.heap.get? b = some o → h'.get? b = some o) →
        EP X pins σ Q (.str t uu) { s with heap := h', toks := tk } := fun h' uu tk k =>
      ⟨.str t, H, I.kept k, ⟨uu, rfl⟩, q⟩
    cases sh with
    | non =>
      obtain rfl : u = Value.none := rx
      exact PySem.P.repr_of_none (hback s.heap _ _ fun _ _ z => z)
    | bl b =>
      obtain rfl : u = Value.bool b := rx
      exact PySem.P.repr_of_bool (hback s.heap _ _ fun _ _ z => z)
    | int i hi =>
      obtain ⟨tk, rfl⟩ := (show ∃ tk, u = Value.int i tk from rx)
      exact PySem.P.repr_of_int hi (hback s.heap _ _ fun _ _ z => z)
    | str z m hm =>
      obtain ⟨tk, rfl⟩ := (show ∃ tk, u = Value.str z tk from rx)
      exact PySem.P.repr_of_str (hback s.heap _ _ fun _ _ z => z) (Nat.le_trans hm hl)
    | @lst a ys d0 n0 ts e hs =>
      obtain rfl : u = Value.ref a := rx
      obtain ⟨_, its, k, rv, h1⟩ := (show ObjOk X.prog X.w H s.heap a (.lst ys) from I.hok a _ e)
      obtain ⟨bs, hb, hk⟩ := ShwL.run I.hok I.kIn hs (by omega) its rv
      have hna := hb.out (Shw.lst e hs) (Nat.lt_succ_self _)
      refine call_repr_slot (by omega) ⟨_, h1, rfl⟩ F.slot_list_repr.toG ?_
      cases its with
      | nil =>
        cases hk
        rw [listText_nil] at hback
        exact call_list_repr_empty ⟨_, h1, rfl⟩ h1 rfl ⟨_, _, rfl, hback s.heap _ _ fun _ _ z => z⟩
      | cons y l =>
        exact call_list_reprK h1 rfl rfl hna (by simpa using hk.length_eq) (fun i z q => hk.item i z (by simpa using q))
          (g := []) gd (fun b _ => Clear.nil b) (by show X.A.units + 1 + _ < _; omega) (fun _ _ z => z)
          (fun h' uu tk k => ⟨_, _, rfl, hback h' uu tk k⟩) (Nat.le_trans hlen hl)
    | @tup a ys d0 n0 ts e hs =>
      obtain rfl : u = Value.ref a := rx
      obtain ⟨_, its, rv, o, h1, h2, k, h3⟩ := (show ObjOk X.prog X.w H s.heap a (.tup ys) from I.hok a _ e)
      obtain ⟨bs, hb, hk⟩ := ShwL.run I.hok I.kIn hs (by omega) its rv
      have hna := hb.out (Shw.tup e hs) (Nat.lt_succ_self _)
      refine call_repr_slot (by omega) ⟨_, h1, h2⟩ F.slot_tuple_repr ?_
      exact call_tuple_reprK h1 h2 h3 hna (by simpa using hk)
        (g := []) gd (fun b _ => Clear.nil b) (by show X.A.units + 1 + _ < _; omega) (fun _ _ z => z)
        (fun h' uu tk k => ⟨_, _, rfl, hback h' uu tk k⟩) (Nat.le_trans hlen hl)
    | @dct a kvs d1 d2 n1 n2 ks vs e hs1 hs2 =>
      obtain rfl : u = Value.ref a := rx
      obtain ⟨_, hsys, us, hkv, o, es, ep, h1, h2, h3, _, h4, _⟩ := (show ObjOk X.prog X.w H s.heap a (.dK kvs) from I.hok a _ e)
      obtain ⟨r1, r2⟩ := pairs_keys hkv h4
      obtain ⟨b1, hb1, k1⟩ := ShwL.run I.hok I.kIn hs1 (by omega) _ r1
      obtain ⟨b2, hb2, k2⟩ := ShwL.run I.hok I.kIn hs2 (by omega) _ r2
      have hb := (hb1.mono (Nat.le_max_left d1 d2)).app (hb2.mono (Nat.le_max_right d1 d2))
      have hna := hb.out (Shw.dct e hs1 hs2) (Nat.lt_succ_self _)
      refine call_repr_slot (by omega) ⟨_, h1, h2.1⟩ F.slot_dict_repr ?_
      exact call_dict_reprK h1 h2.1 h3 hsys hna
        (ReprEntriesK.of_two es.toList _ _ (k1.more_le (fun b z => List.mem_append_left _ z) (Nat.le_max_left _ _))
          (k2.more_le (fun b z => List.mem_append_right _ z) (Nat.le_max_right _ _)))
        (g := []) gd (fun b _ => Clear.nil b) (by show X.A.units + 1 + _ < _; omega) (fun _ _ z => z)
        (fun h' uu tk k => ⟨_, _, rfl, hback h' uu tk k⟩) (Nat.le_trans hlen hl)
    | exc e et c l1 l2 => exact absurd (hpos _ rfl) (Nat.lt_irrefl 0)

/-! ### what is shown stays while what is tracked stays -/
section
variable {K : PySem.W.Frag} {H H' : Hp}
mutual
theorem Shw.same (S : Same H H') : ∀ {v : V} {d n : Nat} {t : Str}, Shw K H v d n t → Shw K H' v d n t
  | _, _, _, _, .non => .non
  | _, _, _, _, .bl b => .bl b
  | _, _, _, _, .int i h => .int i h
  | _, _, _, _, .str x m h => .str x m h
  | _, _, _, _, .lst e h => .lst (S _ _ e) (ShwL.same S h)
  | _, _, _, _, .tup e h => .tup (S _ _ e) (ShwL.same S h)
  | _, _, _, _, .dct e h1 h2 => .dct (S _ _ e) (ShwL.same S h1) (ShwL.same S h2)
  | _, _, _, _, .exc e et c l1 l2 => .exc (S _ _ e) (S _ _ et) c l1 l2
theorem ShwL.same (S : Same H H') : ∀ {vs : List V} {d n : Nat} {ts : List Str}, ShwL K H vs d n ts → ShwL K H' vs d n ts
  | _, _, _, _, .nil => .nil
  | _, _, _, _, .cons h hs => .cons (Shw.same S h) (ShwL.same S hs)
end
end
end Pw

namespace PySem.W
open PySem PySem.Calls PyProof.Rows Builtin Builtin.ObjectAttr Builtin.Getset_descriptor
section
variable {prog : Program} {w : World} {A : Around} {E : Value → Shared → Prop} {s : Shared} {K : Frag} {D x : Addr}
  {ox oD : Obj}
/-- e.__class__, e an exception of one's own that has its dict -/
theorem pw_class {Q : Option Value → Shared → Prop}
    (hga : findIn K (.ref D) "__getattribute__" = some (some (.builtin "BaseException.__getattribute__")))
    (hgt : findIn K (.ref D) "__getattr__" = some none)
    (hsub : subIn K (.ref D) (.type "BaseException") = some true)
    (hf : findObj K D (some oD) "__class__" =
      some (.bind (.builtin "getset_descriptor.__get__") (.builtin "object.__class__")))
    (hm : mroIn K D (.type "object") = some true) (X : K.In s.heap) (I : InstAt s.heap x ox D (some oD))
    (h : Q (some (.ref D)) { s with toks := s.toks + 1 }) :
    wpAny (model prog w) A (getAttr? (.ref x) "__class__") Q E s := by
  obtain ⟨hp, g, d, t, os⟩ := s
  have T0 := I.type (M := model prog w)
  have T1 := looks_findIn (M := model prog w) X hga
  have T2 := looks_findIn (M := model prog w) X hgt
  have T3 := looks_find (M := model prog w) X I hf
  have isE : Looks (model prog w) hp (isInstance (.ref x) (.type "BaseException")) true :=
    T0.andThen (looks_subIn X hsub)
  have z0 : (false && onTheHeap (Value.builtin "BaseException.__getattribute__")) = false := rfl
  have z2 : (Value.builtin "BaseException.__getattribute__" ==
    Value.builtin "object.__getattribute__") = false := by decide +kernel
  have z1 : (onTheHeap (Value.ref D) && Value.builtin "BaseException.__getattribute__" ==
    Value.builtin "object.__getattribute__") = false := by rw [z2]; rfl
  unfold getAttr? getAttrBy? getAttrBy
  refine wpAny_bind (wpAny_mkText (wpAny_bind (wpAny_attempt (wpAny_holding (wpAny_bind
    (T0.at (wpAny_bind (T1.at ?_))))))))
  show wpAny _ _ (if (onTheHeap (Value.ref D) && Value.builtin "BaseException.__getattribute__" ==
    Value.builtin "object.__getattribute__") = true then _ else _) _ _ _
  rw [z1, if_neg Bool.false_ne_true]
  unfold getAttrByItsOwn hookBefore
  refine wpAny_bind ?_
  rw [if_pos (show onTheHeap (Value.ref D) = true from rfl)]
  refine T2.at (wpAny_bind (wpAny_attempt (wpAny_holding ?_)))
  unfold callGetattribute
  rw [z0, if_neg Bool.false_ne_true]
  unfold boundAndCalled
  rw [PySem.F.excAttr_ValueError.ga.bind (.ref x)]
  refine wpAny_bind (wpAny_pure ?_)
  show wpAny _ _ (call (.builtin "BaseException.__getattribute__")
    [.ref x, .str "__class__" t]) _ _ _
  refine wpAny_call (codeAny_call_builtin PySem.F.excAttr_ValueError.ga.plain
    PySem.F.entry_bexc_ga ?_)
  refine @check_slot (model prog w) _ _ ⟨hp, g, d, t + 1, os⟩ "BaseException.__getattribute__"
    "BaseException" "__getattribute__" (.ref x) [.str "__class__" t] [] _ (by decide +kernel)
    (by decide +kernel) isE (PySem.F.args_bexc_ga (.ref x) (.str "__class__" t)) ?_
  unfold Builtin.«object.__getattribute__»
  refine wpAny_bind (wpAny_of_eq (a := ((Value.ref x : Value), [Value.str "__class__" t]))
    (by first | rfl | (simp only [slotArgs]; rfl)) ?_)
  refine wpAny_bind (wpAny_pure (wpAny_bind (T0.at (wpAny_bind (T3.at ?_)))))
  show wpAny _ _ (holding [Value.builtin "object.__class__"] (call (.builtin "getset_descriptor.__get__")
    [.builtin "object.__class__", .ref x, .ref D]) >>= ret) _ _ _
  refine wpAny_bind (wpAny_holding (wpAny_call (class_get (s := ⟨hp, g, d, t + 1, os⟩)
    (ox := ox) (od := some oD) X I hm ?_)))
  refine wpAny_pure ?_
  show wpAny _ _ (handedOut (.ref D)) _ _ _
  rw [handedOut_of (v := .ref D) rfl]
  first
    | exact wpAny_pure (wpAny_pure h)
    | exact wpAny_pure h
    | exact wpAny_pure (wpAny_bind (wpAny_pure (wpAny_pure h)))
end
end PySem.W

namespace Pw
open PySem PySem.Spec PyProof.Rows L2

theorem cls_of_dict {K : PySem.W.Frag} {D : Addr} (hd : PySem.W.hasDictIn K D = true) :
    (PySem.W.clsIn K D).isSome = true := by
  cases e : PySem.W.clsIn K D with
  | some _ => rfl
  | none =>
    unfold PySem.W.hasDictIn at hd
    rw [e] at hd
    cases hd

theorem kit_exq {K : PySem.W.Frag} {x D t dx : Addr} {oD : Obj} (C : ExcC K D) :
    PySem.W.KitX K (.ref x) (.ref D) (fun h => PySem.W.InstAt h x (exOb D (some dx) t) D (some oD)) where
  ty := fun _ _ _ I => I.type
  it := fun M h X _ => by
    obtain ⟨cd, hc⟩ := Option.isSome_iff_exists.mp (cls_of_dict C.hd)
    unfold PySem.W.clsIn at hc
    split at hc
    · rename_i ho
      intro A' Q' E' s' k q
      unfold isType loadHead
      exact wpAny_bind (wpAny_loadPart (k _ _ (X _ _ ho)) (wpAny_pure q))
    · cases hc
  ne := fun h tp dd its n sl X htp => by
    obtain ⟨cd, hc⟩ := Option.isSome_iff_exists.mp (cls_of_dict C.hd)
    refine Bool.eq_false_iff.mpr fun q => ?_
    obtain rfl : D = tp := Value.ref.inj (beq_iff_eq.mp q)
    unfold PySem.W.clsIn at hc
    split at hc
    · rename_i ho
      cases (X _ _ ho).symm.trans htp
    · cases hc
  ca := fun X I k => PySem.W.pw_class C.hg C.hk C.hs
    (PySem.W.findObj_data (cls_of_dict C.hd) C.ha C.hn C.ht) C.hm X I k

/-- a value's type, exceptions of one's own too -/
inductive TyQ (K : PySem.W.Frag) (H : Hp) : V → Value → Prop where
  | base {x : V} {t : Value} (h : TyX K H x t) : TyQ K H x t
  | exc {a D t dx : Addr} {fs : List (Str × V)} (e : H a = some (exq a D (some dx) t)) (ed : H dx = some (exd dx fs))
      (c : ExcC K D) : TyQ K H (.ref a) (.ref D)

/-- isinstance(x, c): one class -/
def rIsA (K : PySem.W.Frag) : List V → Hp → VK → Prop := fun xs H Q => ∃ (x c : V) (t u : Value) (b : Bool),
  xs = [x, c] ∧ ClsV c u ∧ TyQ K H x t ∧ PySem.W.kitOne K t u = some b ∧ Q (.bl b) H
theorem call_isa {X : Cx} : CallR X (.builtin "isinstance") (rIsA X.K) := by
  intro pins s σ H xs us Q I r h
  obtain ⟨x, c, t, u, b, rfl, k, ty, e, q⟩ := h
  cases ty with
  | base ty => exact call_isi pins s σ H _ us Q I r ⟨x, c, t, u, b, rfl, k, ty, e, q⟩
  | exc ex ed C =>
    obtain ⟨u1, u2, rfl, r1, r2⟩ := vals2 r
    obtain rfl := k.eq r2
    obtain rfl : u1 = Value.ref _ := r1
    have ha := exq_at I.hok ex
    obtain ⟨mA, ⟨oD, es, ep, hd, hr⟩, _⟩ := exd_at I.hok ed
    refine PySem.W.kia_one (kit_exq (oD := oD) C) I.kIn ⟨ha, rfl, rfl, hd⟩ e (fun z => nomatch z)
      fun tk => ⟨.bl b, H, I.tok tk, rfl, q⟩
end Pw

/-! Kinds of things, and short words for defs. -/
namespace Pw
open PySem PySem.Spec PyProof.Rows L2

/-! ### the kinds of things -/
/-- what an exception's class must say, so that it is told from the built-in kinds -/
structure ExT (K : PySem.W.Frag) (D : Addr) : Prop where
  c : ExcC K D
  int : PySem.W.kitOne K (.ref D) (.type "int") = some false
  bool : PySem.W.kitOne K (.ref D) (.type "bool") = some false
  str : PySem.W.kitOne K (.ref D) (.type "str") = some false
  tuple : PySem.W.kitOne K (.ref D) (.type "tuple") = some false
/-- a thing and its type -/
inductive Ty (K : PySem.W.Frag) (H : Hp) : V → Value → Prop where
  | non : Ty K H .non (.type "NoneType")
  | bl (b : Bool) : Ty K H (.bl b) (.type "bool")
  | int (i : Int) : Ty K H (.int i) (.type "int")
  | str (s : Str) : Ty K H (.str s) (.type "str")
  | lst {a : Addr} {xs : List V} (e : H a = some (.lst xs)) : Ty K H (.ref a) (.type "list")
  | tup {a : Addr} {xs : List V} (e : H a = some (.tup xs)) : Ty K H (.ref a) (.type "tuple")
  | dct {a : Addr} {kvs : List (Key × V)} (e : H a = some (.dK kvs)) : Ty K H (.ref a) (.type "dict")
  | exc {a D t dx : Addr} {fs : List (Str × V)} (e : H a = some (exq a D (some dx) t)) (ed : H dx = some (exd dx fs))
      (c : ExT K D) : Ty K H (.ref a) (.ref D)
theorem Ty.q {K : PySem.W.Frag} {H : Hp} {x : V} {t : Value} (h : Ty K H x t) : TyQ K H x t := by
  cases h with
  | non => exact .base (.base .non)
  | bl b => exact .base (.base (.bl b))
  | int i => exact .base (.base (.int i))
  | str s => exact .base (.base (.str s))
  | lst e => exact .base (.base (.lst e))
  | tup e => exact .base (.base (.tup e))
  | dct e => exact .base (.base (.dK e))
  | exc e ed c => exact .exc e ed c.c
theorem Ty.same {K : PySem.W.Frag} {H H' : Hp} {x : V} {t : Value} (S : Same H H') (h : Ty K H x t) : Ty K H' x t := by
  cases h with
  | non => exact .non
  | bl b => exact .bl b
  | int i => exact .int i
  | str s => exact .str s
  | lst e => exact .lst (S _ _ e)
  | tup e => exact .tup (S _ _ e)
  | dct e => exact .dct (S _ _ e)
  | exc e ed c => exact .exc (S _ _ e) (S _ _ ed) c
def numB : V → Bool
  | .int _ => true
  | _ => false
def blB : V → Bool
  | .bl _ => true
  | _ => false
def strB : V → Bool
  | .str _ => true
  | _ => false
def tupB (H : Hp) : V → Bool
  | .ref a => match H a with
    | some (.tup _) => true
    | _ => false
  | _ => false
theorem Ty.isInt {K : PySem.W.Frag} {H : Hp} {x : V} {t : Value} (h : Ty K H x t) :
    PySem.W.kitOne K t (.type "int") = some (numB x || blB x) := by
  cases h with
  | non  => exact (kit_ty (a := "NoneType") (b := "int") (r := false) (by decide +kernel) : _ = some false)
  | bl b => exact (kit_ty (a := "bool") (b := "int") (r := true) (by decide +kernel) : _ = some true)
  | int i => exact (kit_ty (a := "int") (b := "int") (r := true) (by decide +kernel) : _ = some true)
  | str s => exact (kit_ty (a := "str") (b := "int") (r := false) (by decide +kernel) : _ = some false)
  | lst e => exact (kit_ty (a := "list") (b := "int") (r := false) (by decide +kernel) : _ = some false)
  | tup e => exact (kit_ty (a := "tuple") (b := "int") (r := false) (by decide +kernel) : _ = some false)
  | dct e => exact (kit_ty (a := "dict") (b := "int") (r := false) (by decide +kernel) : _ = some false)
  | exc e ed c => exact c.int
theorem Ty.isBool {K : PySem.W.Frag} {H : Hp} {x : V} {t : Value} (h : Ty K H x t) :
    PySem.W.kitOne K t (.type "bool") = some (blB x) := by
  cases h with
  | non  => exact (kit_ty (a := "NoneType") (b := "bool") (r := false) (by decide +kernel) : _ = some false)
  | bl b => exact (kit_ty (a := "bool") (b := "bool") (r := true) (by decide +kernel) : _ = some true)
  | int i => exact (kit_ty (a := "int") (b := "bool") (r := false) (by decide +kernel) : _ = some false)
  | str s => exact (kit_ty (a := "str") (b := "bool") (r := false) (by decide +kernel) : _ = some false)
  | lst e => exact (kit_ty (a := "list") (b := "bool") (r := false) (by decide +kernel) : _ = some false)
  | tup e => exact (kit_ty (a := "tuple") (b := "bool") (r := false) (by decide +kernel) : _ = some false)
  | dct e => exact (kit_ty (a := "dict") (b := "bool") (r := false) (by decide +kernel) : _ = some false)
  | exc e ed c => exact c.bool
theorem Ty.isStr {K : PySem.W.Frag} {H : Hp} {x : V} {t : Value} (h : Ty K H x t) :
    PySem.W.kitOne K t (.type "str") = some (strB x) := by
  cases h with
  | non  => exact (kit_ty (a := "NoneType") (b := "str") (r := false) (by decide +kernel) : _ = some false)
  | bl b => exact (kit_ty (a := "bool") (b := "str") (r := false) (by decide +kernel) : _ = some false)
  | int i => exact (kit_ty (a := "int") (b := "str") (r := false) (by decide +kernel) : _ = some false)
  | str s => exact (kit_ty (a := "str") (b := "str") (r := true) (by decide +kernel) : _ = some true)
  | lst e => exact (kit_ty (a := "list") (b := "str") (r := false) (by decide +kernel) : _ = some false)
  | tup e => exact (kit_ty (a := "tuple") (b := "str") (r := false) (by decide +kernel) : _ = some false)
  | dct e => exact (kit_ty (a := "dict") (b := "str") (r := false) (by decide +kernel) : _ = some false)
  | exc e ed c => exact c.str
theorem Ty.isTuple {K : PySem.W.Frag} {H : Hp} {x : V} {t : Value} (h : Ty K H x t) :
    PySem.W.kitOne K t (.type "tuple") = some (tupB H x) := by
  cases h with
  | non  => exact (kit_ty (a := "NoneType") (b := "tuple") (r := false) (by decide +kernel) : _ = some false)
  | bl b => exact (kit_ty (a := "bool") (b := "tuple") (r := false) (by decide +kernel) : _ = some false)
  | int i => exact (kit_ty (a := "int") (b := "tuple") (r := false) (by decide +kernel) : _ = some false)
  | str s => exact (kit_ty (a := "str") (b := "tuple") (r := false) (by decide +kernel) : _ = some false)
  | @lst ad xs e =>
    have z : tupB H (.ref ad) = false := by simp only [tupB, e]
    rw [z]
    exact kit_ty (a := "list") (b := "tuple") (r := false) (by decide +kernel)
  | @tup ad xs e =>
    have z : tupB H (.ref ad) = true := by simp only [tupB, e]
    rw [z]
    exact kit_ty (a := "tuple") (b := "tuple") (r := true) (by decide +kernel)
  | @dct ad xs e =>
    have z : tupB H (.ref ad) = false := by simp only [tupB, e]
    rw [z]
    exact kit_ty (a := "dict") (b := "tuple") (r := false) (by decide +kernel)
  | @exc ad D t dx fs e ed c =>
    have z : tupB H (.ref ad) = false := by simp only [tupB, e]; rfl
    rw [z]
    exact c.tuple

/-! ### defs by name -/
section
variable (P : Program) (w : World) (K : PySem.W.Frag) (mg : Str → Option Value) (base : Heap)
/-- the def st of the text stands under its name x -/
structure At (x : Str) (st : Stmt) : Prop where
  ex : ∃ f fd, Fun K x x st f fd ∧ mg x = some (.ref f)
/-- under its name x a def stands that keeps the promise sp -/
structure Def (x : Str) (k : Nat) (ps : List Str) (sp : Sp) : Prop where
  ex : ∃ f fd, mg x = some (.ref f) ∧ PySem.W.keepIn K (.ref f) = true ∧ Binds K fd ps [] ∧
    FnOk P w K mg base CX0 k f fd ps sp
structure DefG (x : Str) (k : Nat) (ps : List Str) (sp : Sp) : Prop where
  ex : ∃ f fd, mg x = some (.ref f) ∧ PySem.W.keepIn K (.ref f) = true ∧ Binds K fd ps [] ∧
    FnG P w K mg base CX0 k f fd ps sp
end
section
variable {P : Program} {w : World} {K : PySem.W.Frag} {mg : Str → Option Value} {base : Heap}
theorem Def.mono {x : Str} {k j : Nat} {ps : List Str} {sp : Sp} (d : Def P w K mg base x k ps sp) (h : k ≤ j) :
    Def P w K mg base x j ps sp :=
  let ⟨f, fd, a, b, c, F⟩ := d.ex
  ⟨f, fd, a, b, c, F.mono h⟩
theorem mkDef {x : Str} {st : Stmt} {N ps : List Str} {k : Nat} {sp : Sp} (A : At K mg x st)
    (S : FnScope N ps (defScope st))
    (hb : ∀ (kV doc pm : Value) (an : Option Addr) (cdv ct : Value) (us : List Value), us.length = ps.length →
      bindArgs (PySem.W.fnOf x x (defArgs st) (defBody st) (defScope st) .none kV doc pm an cdv ct) ⟨us, []⟩ = pure (ps.zip us))
    (len : ∀ vs H Q E, sp vs H Q E → vs.length = ps.length)
    (body : ∀ (f : Addr) (cdv : Value) (A : Around) (out : List Env) (s : Shared) (H : Hp) (vs : List V) (Q : VK) (E : XK),
      Room k (A.deeper (envOfC x (defScope st) s.heap.objs.size f cdv)) → sp vs H Q E →
      ∃ t, PSs (cxOf CX0 P w K mg base N x (defScope st) f cdv A out s H E).nox (defBody st) t ∧
        t { nx := fun _ H' => Q .non H', rt := Q } (start N vs) H) : Def P w K mg base x (k + 1) ps sp := by
  obtain ⟨f, fd, F, m⟩ := A.ex
  exact ⟨f, fd, m, F.kp, F.binds hb, F.ok S len (body f)⟩
theorem mkDefG {x : Str} {st : Stmt} {N ps : List Str} {k : Nat} {sp : Sp} (A : At K mg x st)
    (S : FnScope N ps (defScope st))
    (hb : ∀ (kV doc pm : Value) (an : Option Addr) (cdv ct : Value) (us : List Value), us.length = ps.length →
      bindArgs (PySem.W.fnOf x x (defArgs st) (defBody st) (defScope st) .none kV doc pm an cdv ct) ⟨us, []⟩ = pure (ps.zip us))
    (len : ∀ vs H Q E, sp vs H Q E → vs.length = ps.length)
    (body : ∀ (f : Addr) (cdv : Value) (A : Around) (out : List Env) (s : Shared) (H : Hp) (vs : List V) (Q : VK) (E : XK),
      A.guards = some [] → Room k (A.deeper (envOfC x (defScope st) s.heap.objs.size f cdv)) → sp vs H Q E →
      ∃ t, PSs (cxOf CX0 P w K mg base N x (defScope st) f cdv A out s H E).nox (defBody st) t ∧
        t { nx := fun _ H' => Q .non H', rt := Q } (start N vs) H) : DefG P w K mg base x (k + 1) ps sp := by
  obtain ⟨f, fd, F, m⟩ := A.ex
  exact ⟨f, fd, m, F.kp, F.binds hb, okG F S len (body f)⟩
end
section
variable {X : Cx} {x : Str} {k j : Nat} {ps : List Str} {sp : Sp} {p pos : Pos} {e : Expr} {es : List Expr} {t : TA}
/-- x(e, ..), by the promise of the def under that name -/
theorem pe_d (D : Def X.prog X.w X.K X.mg X.base x k ps sp) (hr : Room j X.A) (hk : k ≤ j) (hg : Gl X x) (ha : PA X (e :: es) t)
    (hdb : (x == ("__debug__" : Str)) = false := by decide)
    (he : starEach (e :: es) X.env = (false, eval e X.env) :: starEach es X.env := by rfl)
    (hpl : (backTo pos (starEach es X.env)).any (·.1) = false := by rfl) :
    PE X (.Call (.Name x p) (e :: es) [] pos) (tCall sp [] E0 t) := by
  obtain ⟨f, fd, m, kp, b, F⟩ := D.ex
  exact pe_call F (hr.mono hk) hg m kp b .nil pass0 ha hdb he hpl
theorem pe_dG (D : DefG X.prog X.w X.K X.mg X.base x k ps sp) (gd : X.A.guards = some []) (hr : Room j X.A) (hk : k ≤ j) (hg : Gl X x)
    (ha : PA X (e :: es) t) (hdb : (x == ("__debug__" : Str)) = false := by decide)
    (he : starEach (e :: es) X.env = (false, eval e X.env) :: starEach es X.env := by rfl)
    (hpl : (backTo pos (starEach es X.env)).any (·.1) = false := by rfl) :
    PE X (.Call (.Name x p) (e :: es) [] pos) (tCall sp [] E0 t) := by
  obtain ⟨f, fd, m, kp, b, F⟩ := D.ex
  exact pe_callG F gd (hr.mono hk) hg m kp b .nil pass0 ha hdb he hpl
end

/-! ### heaps: all but one place stays -/
/-- the heap without one place -/
def wo (H : Hp) (p : Addr) : Hp := fun b => if b = p then none else H b
theorem wo_ne {H : Hp} {p b : Addr} (h : b ≠ p) : wo H p b = H b := if_neg h
theorem wo_same {H : Hp} {p : Addr} : Same (wo H p) H := fun b o e => by
  unfold wo at e
  split at e
  · cases e
  · exact e
theorem wo_at {H : Hp} {p b : Addr} {o : HO} (e : wo H p b = some o) : b ≠ p ∧ H b = some o := by
  unfold wo at e
  split at e
  · cases e
  · rename_i n
    exact ⟨n, e⟩
theorem wo_of {H : Hp} {p b : Addr} {o : HO} (n : b ≠ p) (e : H b = some o) : wo H p b = some o := (wo_ne n).trans e
/-- all that is tracked, but at p, stays -/
def But (p : Addr) (H H' : Hp) : Prop := Same (wo H p) (wo H' p)
theorem But.refl {p : Addr} {H : Hp} : But p H H := fun _ _ e => e
theorem But.trans {p : Addr} {H H1 H2 : Hp} (a : But p H H1) (b : But p H1 H2) : But p H H2 := fun c o h => b c o (a c o h)
theorem But.of {p : Addr} {H H' : Hp} (h : ∀ b o, b ≠ p → H b = some o → H' b = some o) : But p H H' := fun b o e =>
  let ⟨n, z⟩ := wo_at e
  wo_of n (h b o n z)
theorem But.at {p : Addr} {H H' : Hp} (h : But p H H') {b : Addr} {o : HO} (n : b ≠ p) (e : H b = some o) : H' b = some o :=
  (wo_at (h b o (wo_of n e))).2
theorem Same.but {p : Addr} {H H' : Hp} (h : Same H H') : But p H H' := But.of fun b o _ e => h b o e
theorem Same.laid {H : Hp} {q : Addr} {o : HO} (n : H q = none) : Same H (upd H q o) := fun b u e =>
  (upd_ne (ne_of_none e n)).trans e
theorem But.laid {p : Addr} {H : Hp} {q : Addr} {o : HO} (n : H q = none) : But p H (upd H q o) := Same.but (Same.laid n)
theorem But.set {p : Addr} {H : Hp} {o : HO} : But p H (upd H p o) := But.of fun b u n e => (upd_ne n).trans e
end Pw

/-! Lists of tuples; comprehensions and loops that lay a new list, all else staying. -/
namespace Pw
open PySem PySem.Spec PyProof.Rows L2

/-! ### lists of tuples -/
/-- at each place of vs the tuple that f makes of the row -/
inductive Al {α : Type} (f : α → List V) (H : Hp) : List V → List α → Prop where
  | nil : Al f H [] []
  | cons {p : Addr} {vs : List V} {r : α} {rs : List α} (e : H p = some (.tup (f r))) (t : Al f H vs rs) : Al f H (.ref p :: vs) (r :: rs)
section
variable {α : Type} {f : α → List V} {H H' : Hp}
theorem Al.same {vs : List V} {rs : List α} (h : Al f H vs rs) (S : Same H H') : Al f H' vs rs := by
  induction h with
  | nil => exact .nil
  | cons e _ ih => exact .cons (S _ _ e) ih
theorem Al.imp {vs : List V} {rs : List α} (h : Al f H vs rs) (S : ∀ p xs, H p = some (.tup xs) → H' p = some (.tup xs)) : Al f H' vs rs := by
  induction h with
  | nil => exact .nil
  | cons e _ ih => exact .cons (S _ _ e) ih
theorem Al.length {vs : List V} {rs : List α} (h : Al f H vs rs) : vs.length = rs.length := by
  induction h with
  | nil => rfl
  | cons _ _ ih => simp only [List.length_cons, ih]
theorem Al.append {vs ws : List V} {rs ss : List α} (h : Al f H vs rs) (k : Al f H ws ss) : Al f H (vs ++ ws) (rs ++ ss) := by
  induction h with
  | nil => exact k
  | cons e _ ih => exact .cons e ih
theorem Al.one {p : Addr} {r : α} (e : H p = some (.tup (f r))) : Al f H [.ref p] [r] := .cons e .nil
theorem Al.snoc {vs : List V} {rs : List α} {p : Addr} {r : α} (h : Al f H vs rs) (e : H p = some (.tup (f r))) :
    Al f H (vs ++ [.ref p]) (rs ++ [r]) := h.append (.one e)
theorem Al.get {vs : List V} {rs : List α} (h : Al f H vs rs) : ∀ {i : Nat} {v : V}, vs[i]? = some v →
    ∃ p r, v = .ref p ∧ rs[i]? = some r ∧ H p = some (.tup (f r)) := by
  induction h with
  | nil => intro i v e; simp at e
  | @cons p _ r _ e _ ih =>
    intro i v z
    cases i with
    | zero =>
      simp only [List.getElem?_cons_zero, Option.some.injEq] at z
      exact ⟨p, r, z.symm, rfl, e⟩
    | succ i =>
      simp only [List.getElem?_cons_succ] at z
      obtain ⟨q, r', h1, h2, h3⟩ := ih z
      exact ⟨q, r', h1, by simpa using h2, h3⟩
theorem Al.at {vs : List V} {rs : List α} (h : Al f H vs rs) {i : Nat} {r : α} (e : rs[i]? = some r) :
    ∃ p, vs[i]? = some (.ref p) ∧ H p = some (.tup (f r)) := by
  have hi : i < vs.length := by
    rw [h.length]
    exact (List.getElem?_eq_some_iff.mp e).1
  have hv : vs[i]? = some vs[i] := List.getElem?_eq_getElem hi
  obtain ⟨p, r', h1, h2, h3⟩ := h.get hv
  rw [e] at h2
  cases h2
  exact ⟨p, by rw [hv, h1], h3⟩
theorem Al.mem {vs : List V} {rs : List α} (h : Al f H vs rs) {v : V} (m : v ∈ vs) : ∃ p r, v = .ref p ∧ r ∈ rs ∧ H p = some (.tup (f r)) := by
  obtain ⟨i, e⟩ := List.mem_iff_getElem?.mp m
  obtain ⟨p, r, h1, h2, h3⟩ := h.get e
  exact ⟨p, r, h1, List.mem_of_getElem? h2, h3⟩
theorem Al.take {vs : List V} {rs : List α} (h : Al f H vs rs) (n : Nat) : Al f H (vs.take n) (rs.take n) := by
  induction h generalizing n with
  | nil => simp; exact .nil
  | cons e _ ih =>
    cases n with
    | zero => exact .nil
    | succ n => exact .cons e (ih n)
end
/-- at a: a list of such tuples -/
structure LT {α : Type} (f : α → List V) (H : Hp) (a : Addr) (rs : List α) : Prop where
  ex : ∃ vs, H a = some (.lst vs) ∧ Al f H vs rs
section
variable {α : Type} {f : α → List V} {H H' : Hp}
theorem LT.same {a : Addr} {rs : List α} (h : LT f H a rs) (S : Same H H') : LT f H' a rs :=
  let ⟨vs, e, k⟩ := h.ex
  ⟨vs, S _ _ e, k.same S⟩
theorem LT.mk' {a : Addr} {vs : List V} {rs : List α} (e : H a = some (.lst vs)) (k : Al f H vs rs) : LT f H a rs := ⟨vs, e, k⟩
end

/-! ### data: rows of numbers and texts -/
mutual
theorem eqv_refl_ : ∀ d : PyData, d.canLay0 = true → PyData.eqv d d = true
  | .none, _ => rfl
  | .bool b, _ => by simp [PyData.eqv]
  | .int i, _ => by simp [PyData.eqv]
  | .str x, _ => by simp [PyData.eqv]
  | .list xs, h => by rw [PyData.eqv]; exact eqvAll_refl_ xs (by simpa [PyData.canLay0] using h)
  | .tuple xs, h => by rw [PyData.eqv]; exact eqvAll_refl_ xs (by simpa [PyData.canLay0] using h)
  | .dict _, h => by simp [PyData.canLay0] at h
theorem eqvAll_refl_ : ∀ xs : List PyData, PyData.canLayAll0 xs = true → PyData.eqvAll xs xs = true
  | [], _ => rfl
  | x :: xs, h => by
    have h' : x.canLay0 = true ∧ PyData.canLayAll0 xs = true := by simpa [PyData.canLayAll0] using h
    rw [PyData.eqvAll, eqv_refl_ x h'.1, eqvAll_refl_ xs h'.2]; rfl
end
/-- what a row's things are, as data, of rows that are ok -/
structure Dat {α : Type} (f : α → List V) (g : α → List PyData) (ok : α → Prop) : Prop where
  dp : ∀ (K : PySem.W.Frag) (H : Hp) (r : α), DpAll K H (f r) (g r)
  lay : ∀ r, ok r → PyData.canLayAll0 (g r) = true
  dep : ∀ r, PyData.depthAll (g r) = 0
section
variable {α : Type} {f : α → List V} {g : α → List PyData} {ok : α → Prop} {K : PySem.W.Frag} {H : Hp}
theorem Al.dp (D : Dat f g ok) {vs : List V} {rs : List α} (h : Al f H vs rs) : DpAll K H vs (rs.map fun r => .tuple (g r)) := by
  induction h with
  | nil => exact .nil
  | cons e _ ih => exact .cons (.tup (SqT.of e) (D.dp K H _)) ih
theorem lay_rows (D : Dat f g ok) : ∀ rs : List α, (∀ r ∈ rs, ok r) → PyData.canLayAll0 (rs.map fun r => .tuple (g r)) = true
  | [], _ => by simp only [List.map_nil, PyData.canLayAll0]
  | r :: t, h => by
    simp only [List.map_cons, PyData.canLayAll0, PyData.canLay0, lay_rows D t fun r' m => h r' (List.mem_cons_of_mem _ m), D.lay r (h r List.mem_cons_self), Bool.and_self]
theorem dep_rows (D : Dat f g ok) : ∀ rs : List α, PyData.depthAll (rs.map fun r => .tuple (g r)) ≤ 1
  | [] => by simp only [List.map_nil, PyData.depthAll]; exact Nat.zero_le _
  | r :: t => by
    have := dep_rows D t
    simp only [List.map_cons, PyData.depthAll, PyData.depth, D.dep r]
    omega
theorem shaped_rows (D : Dat f g ok) (rs : List α) (ho : ∀ r ∈ rs, ok r) : SeqAt.shaped (.list (rs.map fun r => .tuple (g r))) = true := by
  unfold SeqAt.shaped
  have h := dep_rows D rs
  have e1 : PyData.canLay0 (.list (rs.map fun r => .tuple (g r))) = true := by
    simp only [PyData.canLay0]
    exact lay_rows D rs ho
  have e2 : PyData.depth (.list (rs.map fun r => .tuple (g r))) ≤ 64 := by
    simp only [PyData.depth]
    omega
  rw [e1, decide_eq_true e2]
  rfl
theorem LT.dp (D : Dat f g ok) {a : Addr} {rs : List α} (h : LT f H a rs) : Dp K H (.ref a) (.list (rs.map fun r => .tuple (g r))) :=
  let ⟨_, e, k⟩ := h.ex
  .lst (SqL.of e) (k.dp D)
theorem eqv_rows (D : Dat f g ok) (rs : List α) (ho : ∀ r ∈ rs, ok r) : PyData.eqv (.list (rs.map fun r => .tuple (g r))) (.list (rs.map fun r => .tuple (g r))) = true :=
  eqv_refl_ _ (by simp only [PyData.canLay0]; exact lay_rows D rs ho)
/-- two lists of the same rows are equal -/
theorem eq_rows {Q : VK} (D : Dat f g ok) {a b : Addr} {rs : List α} (ho : ∀ r ∈ rs, ok r) (h : LT f H a rs) (k : LT f H b rs) (q : Q (.bl true) H) :
    rEqD K (.ref a) (.ref b) H Q :=
  ⟨_, _, h.dp D, k.dp D, shaped_rows D rs ho, shaped_rows D rs ho, by rw [eqv_rows D rs ho]; exact q⟩
theorem ne_rows {Q : VK} (D : Dat f g ok) {a b : Addr} {rs : List α} (ho : ∀ r ∈ rs, ok r) (h : LT f H a rs) (k : LT f H b rs) (q : Q (.bl false) H) :
    rNeD K (.ref a) (.ref b) H Q :=
  ⟨_, _, h.dp D, k.dp D, shaped_rows D rs ho, shaped_rows D rs ho, by rw [eqv_rows D rs ho]; exact q⟩
/-- such a list held against the empty one -/
theorem eqv_nil (g : α → List PyData) (rs : List α) : PyData.eqv (.list (rs.map fun r => PyData.tuple (g r))) (.list []) = rs.isEmpty := by
  cases rs <;> simp [PyData.eqv, PyData.eqvAll]
theorem ne_empty {Q : VK} (D : Dat f g ok) {a b : Addr} {rs : List α} (ho : ∀ r ∈ rs, ok r) (h : LT f H a rs) (k : H b = some (.lst [])) (q : Q (.bl !rs.isEmpty) H) :
    rNeD K (.ref a) (.ref b) H Q :=
  ⟨_, .list [], h.dp D, .lst (xs := []) (SqL.of k) .nil, shaped_rows D rs ho, rfl, by rw [eqv_nil]; exact q⟩
theorem eq_empty {Q : VK} (D : Dat f g ok) {a b : Addr} {rs : List α} (ho : ∀ r ∈ rs, ok r) (h : LT f H a rs) (k : H b = some (.lst [])) (q : Q (.bl rs.isEmpty) H) :
    rEqD K (.ref a) (.ref b) H Q :=
  ⟨_, .list [], h.dp D, .lst (xs := []) (SqL.of k) .nil, shaped_rows D rs ho, rfl, by rw [eqv_nil]; exact q⟩
/-- lists of numbers -/
theorem dp_ints {K : PySem.W.Frag} {H : Hp} : ∀ ns : List Int, DpAll K H (ns.map V.int) (ns.map .int)
  | [] => .nil
  | i :: r => .cons (.int i) (dp_ints r)
theorem lay_ints : ∀ ns : List Int, PyData.canLayAll0 (ns.map .int) = true
  | [] => by simp only [List.map_nil, PyData.canLayAll0]
  | r :: t => by simp only [List.map_cons, PyData.canLayAll0, PyData.canLay0, lay_ints t, Bool.and_self]
theorem dep_ints : ∀ ns : List Int, PyData.depthAll (ns.map .int) = 0
  | [] => by simp only [List.map_nil, PyData.depthAll]
  | r :: t => by simp only [List.map_cons, PyData.depthAll, PyData.depth, dep_ints t, Nat.max_self]
theorem shaped_ints (ns : List Int) : SeqAt.shaped (.list (ns.map .int)) = true := by
  unfold SeqAt.shaped
  simp only [PyData.canLay0, PyData.depth, lay_ints ns, dep_ints ns]
  rfl
theorem ne_ints {Q : VK} {a b : Addr} {ns : List Int} (h : H a = some (.lst (ns.map V.int))) (k : H b = some (.lst (ns.map V.int))) (q : Q (.bl false) H) :
    rNeD K (.ref a) (.ref b) H Q :=
  ⟨_, _, .lst (SqL.of h) (dp_ints ns), .lst (SqL.of k) (dp_ints ns), shaped_ints ns, shaped_ints ns, by
    rw [eqv_refl_ _ (by simp only [PyData.canLay0]; exact lay_ints ns)]; exact q⟩
end

/-- a number that the text's top keeps under a name -/
theorem pe_gi {X : Cx} {x : Str} {p : Pos} {n : Int} (h : ∃ t, X.mg x = some (.int n t)) (hg : Gl X x := by rfl)
    (hd : (x == ("__debug__" : Str)) = false := by decide) : PE X (.Name x p) (tC (.int n)) := by
  obtain ⟨t, h⟩ := h
  exact pe_glob (v := .int n) hg h ⟨_, rfl⟩ hd
/-- len(..) of a list or a tuple -/
def rLn (K : PySem.W.Frag) : List V → Hp → VK → Prop := fun xs H Q => ∃ p ys, xs = [V.ref p] ∧ (SqL K H p ys ∨ SqT K H p ys) ∧ Q (.int (ys.length : Int)) H
theorem kit_lt_list {K : PySem.W.Frag} : PySem.W.kitAny K (.type "list") [.type "list", .type "tuple"] = some true := by
  have e : PySem.W.kitOne K (.type "list") (.type "list") = some true := kit_ty (a := "list") (b := "list") (r := true) (by decide +kernel)
  simp only [PySem.W.kitAny, e]
theorem kit_lt_tuple {K : PySem.W.Frag} : PySem.W.kitAny K (.type "tuple") [.type "list", .type "tuple"] = some true := by
  have e : PySem.W.kitOne K (.type "tuple") (.type "list") = some false := kit_ty (a := "tuple") (b := "list") (r := false) (by decide +kernel)
  have e2 : PySem.W.kitOne K (.type "tuple") (.type "tuple") = some true := kit_ty (a := "tuple") (b := "tuple") (r := true) (by decide +kernel)
  simp only [PySem.W.kitAny, e, e2]

/-! ### a comprehension that lays a new list, all else staying -/
theorem Same.wo_upd {H H' : Hp} {D : Addr} {o : HO} (S : Same H H') (n : H D = none) : Same H (upd H' D o) := fun b u e =>
  (upd_ne (ne_of_none e n)).trans (S b u e)
theorem wo_upd {H : Hp} {D : Addr} {o : HO} : wo (upd H D o) D = wo H D := by
  funext b
  unfold wo
  split
  · rfl
  · rename_i h
    exact upd_ne h
theorem Same.wo {H H' : Hp} {p : Addr} (S : Same H H') : Same (wo H p) (wo H' p) := Same.but S
theorem wo_none {H : Hp} {D : Addr} (n : H D = none) : wo H D = H := by
  funext b
  unfold wo
  split
  · rename_i e
    rw [e, n]
  · rfl
theorem lc_acc {J : It} {n : Nat} {G : Hp → Prop} {Y : Nat → Hp → V → Hp → Prop} (w : Walk J n G Y) {g : TG} {tt : TT} {te : TE} {vs : List Nat} {σ : L2.St}
    {H1 : Hp} {D : Addr} {Qd : Hp → Prop} (hD : H1 D = none) (hn : n ≤ 1000000) (R : Nat → List V → Hp → Prop) (r0 : R 0 [] H1)
    (hG : ∀ H, Same H1 H → G H)
    (hs : ∀ i x H H' acc, i < n → Same H1 H → H D = some (.lst acc) → acc.length ≤ i → R i acc (wo H D) → Y i H x H' →
      ∀ (Fy : V → Hp → Prop) (Fn : Hp → Prop), (∀ y H4, Same H H4 → R (i + 1) (acc ++ [y]) (wo H4 D) → Fy y H4) →
        (∀ H3, Same H H3 → R (i + 1) acc (wo H3 D) → Fn H3) →
      g x (wipe σ vs) H' fun σ2 H2 => wipe σ2 vs = wipe σ vs ∧ tt σ2 H2 fun b H3 => if b = true then te σ2 H3 Fy else Fn H3)
    (hd : ∀ H acc, Same H1 H → H D = some (.lst acc) → R n acc (wo H D) → Qd H) :
    ∃ W : Nat → Nat → Hp → Prop, (∃ m, W 0 m (upd H1 D (.lst []))) ∧ ∀ i m H, W i m H →
      (J.stop i H ∧ Qd H) ∨ (J.go i H ∧ ∃ Nx : Hp → Prop, (∀ H', Nx H' → ∃ m', m' < m ∧ W (i + 1) m' H') ∧ ∀ x H', J.yld i H x H' → g x (wipe σ vs) H' fun σ2 H2 => wipe σ2 vs = wipe σ vs ∧ tt σ2 H2 fun b H3 =>
        if b = true then te σ2 H3 fun y H4 => ∃ acc, H4 D = some (.lst acc) ∧ acc.length < sizeLine ∧ Nx (upd H4 D (.lst (acc ++ [y]))) else Nx H3) := by
  have line : 1000000 < sizeLine := by decide
  refine lc_it w (fun i H => Same H1 H ∧ ∃ acc, H D = some (.lst acc) ∧ acc.length ≤ i ∧ R i acc (wo H D))
    ⟨Same.laid hD, [], upd_same, Nat.le_refl _, by rw [wo_upd, wo_none hD]; exact r0⟩ (fun i H _ h => hG H h.1) ?_ ?_
  · rintro i x H H' hi ⟨S, acc, e, hl, r⟩ y
    refine hs i x H H' acc hi S e hl r y _ _ (fun y H4 S4 r4 => ?_) fun H3 S3 r3 => ?_
    · refine ⟨acc, S4 _ _ e, Nat.lt_of_le_of_lt hl (Nat.lt_of_lt_of_le hi (Nat.le_trans hn (Nat.le_of_lt line))), Same.wo_upd (S.trans S4) hD, acc ++ [y], upd_same, ?_, ?_⟩
      · rw [List.length_append, List.length_singleton]
        omega
      · rw [wo_upd]
        exact r4
    · exact ⟨S.trans S3, acc, S3 _ _ e, by omega, r3⟩
  · rintro H ⟨S, acc, e, _, r⟩
    exact hd H acc S e r
/-- a while by a measure, its end told to the test -/
theorem while_m {c : TT} {tb : TS} {D : Ends} {σ : L2.St} {H : Hp} (Pv : Nat → L2.St → Hp → Prop) (m0 : Nat) (h0 : Pv m0 σ H)
    (hs : ∀ m σ H, Pv m σ H → ∀ F : Bool → Hp → Prop,
      (∀ H1, (∀ N : L2.St → Hp → Prop, (∀ m' σ' H', m' < m → Pv m' σ' H' → N σ' H') → tb { D with nx := N, ct := N, bk := D.nx } σ H1) → F true H1) →
      (∀ H1, D.nx σ H1 → F false H1) → c σ H F) : tWhile c tb D σ H := by
  refine ⟨Pv, ⟨m0, h0⟩, fun m σ H p => hs m σ H p _ (fun H1 h => ?_) fun H1 h => ?_⟩
  · rw [if_pos rfl]
    exact ⟨fun σ' H' => ∃ m', m' < m ∧ Pv m' σ' H', fun _ _ h => h, h _ fun m' σ' H' l p => ⟨m', l, p⟩⟩
  · rw [if_neg Bool.false_ne_true]
    exact h

/-- what is laid since then -/
def fre (H G : Hp) : Hp := fun b => match H b with
  | none => G b
  | some _ => none
theorem fre_at {H G : Hp} {b : Addr} {o : HO} (e : fre H G b = some o) : H b = none ∧ G b = some o := by
  unfold fre at e
  cases q : H b with
  | none => rw [q] at e; exact ⟨rfl, e⟩
  | some u => rw [q] at e; cases e
theorem fre_of {H G : Hp} {b : Addr} {o : HO} (n : H b = none) (e : G b = some o) : fre H G b = some o := by
  unfold fre
  rw [n]
  exact e
theorem Same.no {H G : Hp} {b : Addr} (S : Same H G) (n : G b = none) : H b = none := by
  cases q : H b with
  | none => rfl
  | some o => rw [S _ _ q] at n; cases n

/-! ### dicts with number keys -/
theorem valV_none_of {kvs : List (Key × V)} {k : Key} (h : ∀ kv ∈ kvs, kv.1 ≠ k) : valV kvs k = none := by
  induction kvs with
  | nil => rfl
  | cons p r ih =>
    rw [valV_neg (h p (by simp))]
    exact ih fun kv m => h kv (by simp [m])
theorem valV_last {kvs : List (Key × V)} {k : Key} {v : V} (h : ∀ kv ∈ kvs, kv.1 ≠ k) : valV (kvs ++ [(k, v)]) k = some v := by
  rw [valV_snoc k k v kvs (valV_none_of h), if_pos rfl]

/-! ### defs with keyword-only defaults -/
section
variable (P : Program) (w : World) (K : PySem.W.Frag) (mg : Str → Option Value) (base : Heap)
structure AtD (x : Str) (st : Stmt) (kws : List (Str × V)) : Prop where
  ex : ∃ f fd, FunD K x x (defArgs st) (defBody st) (defScope st) [] kws f fd ∧ mg x = some (.ref f)
/-- under its name x a def stands that keeps the promise sp; ds fill up what is left out -/
structure DefD (x : Str) (k : Nat) (ps : List Str) (ds : List V) (sp : Sp) : Prop where
  ex : ∃ f fd us, mg x = some (.ref f) ∧ PySem.W.keepIn K (.ref f) = true ∧ Vals ds us ∧ Binds K fd ps us ∧
    FnOk P w K mg base CX0 k f fd ps sp
/-- the same, the keywords ks told behind n things -/
structure DefK (x : Str) (k : Nat) (ps : List Str) (n : Nat) (ks : List Str) (gV : List V → List V → List V) (sp : Sp) : Prop where
  ex : ∃ f fd g, mg x = some (.ref f) ∧ PySem.W.keepIn K (.ref f) = true ∧ KBn K fd ps n ks g gV ∧
    FnOk P w K mg base CX0 k f fd ps sp
end
section
variable {P : Program} {w : World} {K : PySem.W.Frag} {mg : Str → Option Value} {base : Heap}
theorem mkFnD {x : Str} {st : Stmt} {kws : List (Str × V)} {f : Addr} {fd : FuncData} {N ps : List Str} {k : Nat} {sp : Sp}
    (F : FunD K x x (defArgs st) (defBody st) (defScope st) [] kws f fd) (S : FnScope N ps (defScope st))
    (len : ∀ vs H Q E, sp vs H Q E → vs.length = ps.length)
    (body : ∀ (f : Addr) (cdv : Value) (A : Around) (out : List Env) (s : Shared) (H : Hp) (vs : List V) (Q : VK) (E : XK),
      Room k (A.deeper (envOfC x (defScope st) s.heap.objs.size f cdv)) → sp vs H Q E →
      ∃ t, PSs (cxOf CX0 P w K mg base N x (defScope st) f cdv A out s H E).nox (defBody st) t ∧
        t { nx := fun _ H' => Q .non H', rt := Q } (start N vs) H) : FnOk P w K mg base CX0 (k + 1) f fd ps sp :=
  F.ok S len fun cdv A out s H vs Q E hr hs =>
    let ⟨t, h, q⟩ := body f cdv A out s H vs Q E hr hs
    ⟨t, h.nox, q⟩
theorem mkDefD {x : Str} {st : Stmt} {kws : List (Str × V)} {N ps : List Str} {k n : Nat} {sp : Sp} (A : AtD K mg x st kws)
    (S : FnScope N ps (defScope st)) (hk : kws ≠ []) (hn : n + kws.length = ps.length)
    (hb : ∀ (D : Addr) (doc pm : Value) (an : Option Addr) (cdv ct : Value) (us ks : List Value), us.length = n → ks.length = kws.length →
      KwChain D ((kws.map (·.1)).zip ks) (bindArgs (PySem.W.fnOf x x (defArgs st) (defBody st) (defScope st) .none (.ref D) doc pm an cdv ct) ⟨us, []⟩) (ps.zip (us ++ ks)))
    (len : ∀ vs H Q E, sp vs H Q E → vs.length = ps.length)
    (body : ∀ (f : Addr) (cdv : Value) (A : Around) (out : List Env) (s : Shared) (H : Hp) (vs : List V) (Q : VK) (E : XK),
      Room k (A.deeper (envOfC x (defScope st) s.heap.objs.size f cdv)) → sp vs H Q E →
      ∃ t, PSs (cxOf CX0 P w K mg base N x (defScope st) f cdv A out s H E).nox (defBody st) t ∧
        t { nx := fun _ H' => Q .non H', rt := Q } (start N vs) H) : DefD P w K mg base x (k + 1) ps (kws.map (·.2)) sp := by
  obtain ⟨f, fd, F, m⟩ := A.ex
  obtain ⟨us, hv, b⟩ := F.binds0 n hk hn hb
  exact ⟨f, fd, us, m, F.kp, hv, b, mkFnD F S len body⟩
/-- all keyword-only ones are told -/
theorem mkDefK {x : Str} {st : Stmt} {kws : List (Str × V)} {N ps ks : List Str} {k n : Nat} {sp : Sp} {g : {α : Type} → List α → List α → List α} (A : AtD K mg x st kws)
    (S : FnScope N ps (defScope st))
    (hb : ∀ (kV doc pm : Value) (an : Option Addr) (cdv ct : Value) (us ws : List Value), us.length = n → ws.length = ks.length →
      bindArgs (PySem.W.fnOf x x (defArgs st) (defBody st) (defScope st) .none kV doc pm an cdv ct) ⟨us, ks.zip ws⟩ = pure (ps.zip (g us ws)))
    (hg : ∀ {vs : List V} {us : List Value} {zs : List V} {ws : List Value}, Vals vs us → Vals zs ws → Vals (g vs zs) (g us ws))
    (len : ∀ vs H Q E, sp vs H Q E → vs.length = ps.length)
    (body : ∀ (f : Addr) (cdv : Value) (A : Around) (out : List Env) (s : Shared) (H : Hp) (vs : List V) (Q : VK) (E : XK),
      Room k (A.deeper (envOfC x (defScope st) s.heap.objs.size f cdv)) → sp vs H Q E →
      ∃ t, PSs (cxOf CX0 P w K mg base N x (defScope st) f cdv A out s H E).nox (defBody st) t ∧
        t { nx := fun _ H' => Q .non H', rt := Q } (start N vs) H) : DefK P w K mg base x (k + 1) ps n ks g sp := by
  obtain ⟨f, fd, F, m⟩ := A.ex
  have F' := F
  obtain ⟨oc, od, dV, kV, doc, pm, an, cdv, ct, osl, rfl, lk, hcd, hD, hK⟩ := F.ex
  rcases hD with ⟨_, rfl⟩ | ⟨e, _⟩
  · exact ⟨f, _, fun us ws => g us ws, m, F'.kp, ⟨fun s us ws X l1 l2 => .of_eq (hb kV doc pm an cdv ct us ws l1 l2), hg⟩, mkFnD F' S len body⟩
  · exact absurd rfl e
end
section
variable {X : Cx} {x : Str} {k j n : Nat} {ps ks : List Str} {ds : List V} {sp : Sp} {p pos : Pos} {e : Expr} {es : List Expr} {t tk : TA} {gV : List V → List V → List V}
  {kws : List Keyword}
theorem pe_dD (D : DefD X.prog X.w X.K X.mg X.base x k ps ds sp) (hr : Room j X.A) (hk : k ≤ j) (hg : Gl X x) (ha : PA X (e :: es) t)
    (hdb : (x == ("__debug__" : Str)) = false := by decide)
    (he : starEach (e :: es) X.env = (false, eval e X.env) :: starEach es X.env := by rfl)
    (hpl : (backTo pos (starEach es X.env)).any (·.1) = false := by rfl) :
    PE X (.Call (.Name x p) (e :: es) [] pos) (tCall sp ds E0 t) := by
  obtain ⟨f, fd, us, m, kp, hv, b, F⟩ := D.ex
  exact pe_call F (hr.mono hk) hg m kp b hv pass0 ha hdb he hpl
theorem pe_dK (D : DefK X.prog X.w X.K X.mg X.base x k ps n ks gV sp) (hr : Room j X.A) (hk : k ≤ j) (hg : Gl X x) (ha : PA X (e :: es) t) (hkw : PK X kws tk)
    (hall : (backToKw pos (keywordEach kws X.env)).all (·.1.isSome) = true := by rfl) (hks : (backToKw pos (keywordEach kws X.env)).filterMap (·.1) = ks := by rfl)
    (hdb : (x == ("__debug__" : Str)) = false := by decide)
    (he : starEach (e :: es) X.env = (false, eval e X.env) :: starEach es X.env := by rfl)
    (hpl : ((backTo pos (starEach (e :: es) X.env)).any (·.1) || (backToKw pos (keywordEach kws X.env)).any (·.1.isNone)) = false := by rfl) :
    PE X (.Call (.Name x p) (e :: es) kws pos) (tCallN n ks.length sp gV E0 t tk) := by
  obtain ⟨f, fd, g, m, kp, b, F⟩ := D.ex
  exact pe_callN F (hr.mono hk) hg m kp b pass0 ha hkw hall hks hdb he hpl
end
end Pw

/-! Classes: methods by name, objects made, their fields. -/
namespace Pw
open PySem PySem.Spec PyProof.Rows L2
section
variable (P : Program) (w : World) (K : PySem.W.Frag) (mg : Str → Option Value) (base : Heap)
/-- the method m of the class at C is the def st of the text -/
structure AtMt (C : Addr) (m q : Str) (st : Stmt) : Prop where
  ex : ∃ f fd, Fun K m q st f fd ∧ Meth K C m f
/-- the method m of the class at C keeps the promise sp -/
structure DefM (C : Addr) (m : Str) (k : Nat) (ps : List Str) (sp : Sp) : Prop where
  ex : ∃ f fd, Meth K C m f ∧ Binds K fd ps [] ∧ FnOk P w K mg base CX0 k f fd ps sp
/-- C(..) is made, its __init__ keeping the promise sp -/
structure DefI (x : Str) (C : Addr) (k : Nat) (ps : List Str) (sp : Sp) : Prop where
  ex : ∃ f fd, mg x = some (.ref C) ∧ Mk K C f ∧ Binds K fd ps [] ∧ FnOk P w K mg base CX0 k f fd ps sp
end
section
variable {P : Program} {w : World} {K : PySem.W.Frag} {mg : Str → Option Value} {base : Heap}
theorem DefM.mono {C : Addr} {m : Str} {k j : Nat} {ps : List Str} {sp : Sp} (d : DefM P w K mg base C m k ps sp) (h : k ≤ j) : DefM P w K mg base C m j ps sp :=
  let ⟨f, fd, a, b, F⟩ := d.ex
  ⟨f, fd, a, b, F.mono h⟩
theorem mkDefM {C : Addr} {m q : Str} {st : Stmt} {N ps : List Str} {k : Nat} {sp : Sp} (A : AtMt K C m q st)
    (S : FnScope N ps (defScope st))
    (hb : ∀ (kV doc pm : Value) (an : Option Addr) (cdv ct : Value) (us : List Value), us.length = ps.length →
      bindArgs (PySem.W.fnOf m q (defArgs st) (defBody st) (defScope st) .none kV doc pm an cdv ct) ⟨us, []⟩ = pure (ps.zip us))
    (len : ∀ vs H Q E, sp vs H Q E → vs.length = ps.length)
    (body : ∀ (f : Addr) (cdv : Value) (A : Around) (out : List Env) (s : Shared) (H : Hp) (vs : List V) (Q : VK) (E : XK),
      Room k (A.deeper (envOfC q (defScope st) s.heap.objs.size f cdv)) → sp vs H Q E →
      ∃ t, PSs (cxOf CX0 P w K mg base N q (defScope st) f cdv A out s H E).nox (defBody st) t ∧
        t { nx := fun _ H' => Q .non H', rt := Q } (start N vs) H) : DefM P w K mg base C m (k + 1) ps sp := by
  obtain ⟨f, fd, F, M⟩ := A.ex
  exact ⟨f, fd, M, F.binds hb, F.ok S len (body f)⟩
theorem mkDefI {x : Str} {C f : Addr} {fd : FuncData} {m q : Str} {st : Stmt} {N ps : List Str} {k : Nat} {sp : Sp} (hm : mg x = some (.ref C)) (M : Mk K C f) (F : Fun K m q st f fd)
    (S : FnScope N ps (defScope st))
    (hb : ∀ (kV doc pm : Value) (an : Option Addr) (cdv ct : Value) (us : List Value), us.length = ps.length →
      bindArgs (PySem.W.fnOf m q (defArgs st) (defBody st) (defScope st) .none kV doc pm an cdv ct) ⟨us, []⟩ = pure (ps.zip us))
    (len : ∀ vs H Q E, sp vs H Q E → vs.length = ps.length)
    (body : ∀ (f : Addr) (cdv : Value) (A : Around) (out : List Env) (s : Shared) (H : Hp) (vs : List V) (Q : VK) (E : XK),
      Room k (A.deeper (envOfC q (defScope st) s.heap.objs.size f cdv)) → sp vs H Q E →
      ∃ t, PSs (cxOf CX0 P w K mg base N q (defScope st) f cdv A out s H E).nox (defBody st) t ∧
        t { nx := fun _ H' => Q .non H', rt := Q } (start N vs) H) : DefI P w K mg base x C (k + 1) ps sp :=
  ⟨f, fd, hm, M, F.binds hb, F.ok S len (body f)⟩
/-- under its name x a def stands (nothing is promised of it) -/
theorem At.any {x : Str} {st : Stmt} {ps : List Str} (A : At K mg x st)
    (hb : ∀ (kV doc pm : Value) (an : Option Addr) (cdv ct : Value) (us : List Value), us.length = ps.length →
      bindArgs (PySem.W.fnOf x x (defArgs st) (defBody st) (defScope st) .none kV doc pm an cdv ct) ⟨us, []⟩ = pure (ps.zip us))
    (k : Nat) (sp : Sp) (no : ∀ vs H Q E, ¬ sp vs H Q E) : Def P w K mg base x k ps sp := by
  obtain ⟨f, fd, F, m⟩ := A.ex
  exact ⟨f, fd, m, F.kp, F.binds hb, ⟨fun vs H Q E h => absurd h (no vs H Q E), fun A out s H ar us vs Q E _ _ _ _ h => absurd h (no vs H Q E)⟩⟩
end
section
variable {X : Cx} {x m : Str} {C : Addr} {k j : Nat} {ps : List Str} {sp : Sp} {o : Expr} {p pos apos : Pos} {e : Expr} {es : List Expr} {ta : TE} {t : TA}
theorem pe_mm {pl : Sem Bool} (he : PE X o ta) (c : Cls X.K C) (D : DefM X.prog X.w X.K X.mg X.base C m k ps sp) (hr : Room j X.A) (hk : k ≤ j) (ha : PA X (e :: es) t)
    (hst : starEach (e :: es) X.env = (false, eval e X.env) :: starEach es X.env := by rfl) (hpl : (backTo pos (starEach es X.env)).any (·.1) = false := by rfl)
    (ht : eval (.Call (.Attribute o m apos) (e :: es) [] pos) X.env = (do
      let ov ← eval o X.env
      standAt apos.atName
      let (f, first) ← holding [ov] (getMethod ov m pl)
      callWith pos f first (backTo pos (starEach (e :: es) X.env)) (backToKw pos (keywordEach [] X.env))) := by rfl) :
    PE X (.Call (.Attribute o m apos) (e :: es) [] pos) (tMeth C m sp [] E0 ta t) := by
  obtain ⟨f, fd, M, b, F⟩ := D.ex
  exact pe_meth (pl := pl) he c M F (hr.mono hk) b .nil pass0 ha hst hpl ht
theorem pe_mm0 {pl : Sem Bool} (he : PE X o ta) (c : Cls X.K C) (D : DefM X.prog X.w X.K X.mg X.base C m k ps sp) (hr : Room j X.A) (hk : k ≤ j)
    (ht : eval (.Call (.Attribute o m apos) [] [] pos) X.env = (do
      let ov ← eval o X.env
      standAt apos.atName
      let (f, first) ← holding [ov] (getMethod ov m pl)
      callWith pos f first (backTo pos (starEach [] X.env)) (backToKw pos (keywordEach [] X.env))) := by rfl) :
    PE X (.Call (.Attribute o m apos) [] [] pos) (tMeth C m sp [] E0 ta tNil) := by
  obtain ⟨f, fd, M, b, F⟩ := D.ex
  exact pe_meth0 (pl := pl) he c M F (hr.mono hk) b .nil pass0 ht
theorem pe_mi (D : DefI X.prog X.w X.K X.mg X.base x C k ps sp) (hr : Room j X.A) (hk : k + 1 ≤ j) (hg : Gl X x) (ha : PA X (e :: es) t)
    (hdb : (x == ("__debug__" : Str)) = false := by decide) (he : starEach (e :: es) X.env = (false, eval e X.env) :: starEach es X.env := by rfl) (hpl : (backTo pos (starEach es X.env)).any (·.1) = false := by rfl) :
    PE X (.Call (.Name x p) (e :: es) [] pos) (tMake C sp [] E0 t) := by
  obtain ⟨f, fd, hm, M, b, F⟩ := D.ex
  exact pe_make M F (hr.mono hk) hg hm b .nil pass0 ha hdb he hpl
end
/-! ### fields by name -/
theorem lk_eq {f : Str} {v : V} {r : List (Str × V)} : List.lookup f ((f, v) :: r) = some v := by
  simp only [List.lookup, beq_self_eq_true]
theorem lk_ne {f g : Str} {v : V} {r : List (Str × V)} (h : (f == g) = false) : List.lookup f ((g, v) :: r) = List.lookup f r := by
  simp only [List.lookup, h]
theorem put_eq {f : Str} {v x : V} {r : List (Str × V)} : putF f v ((f, x) :: r) = (f, v) :: r := by
  show (if f = f then _ else _) = _
  rw [if_pos rfl]
theorem put_ne {f g : Str} {v x : V} {r : List (Str × V)} (h : (g == f) = false) : putF f v ((g, x) :: r) = (g, x) :: putF f v r := by
  show (if g = f then _ else _) = _
  rw [if_neg (by simpa using h)]
end Pw

/-! Calls by names alone. -/
namespace Pw
open PySem PySem.Spec PyProof.Rows L2
section
variable (P : Program) (w : World) (K : PySem.W.Frag) (mg : Str → Option Value) (base : Heap)
/-- called by the names ks alone, in this order -/
structure DefK0 (x : Str) (k : Nat) (ps ks : List Str) (g : {α : Type} → List α → List α) (sp : Sp) : Prop where
  ex : ∃ f fd, mg x = some (.ref f) ∧ PySem.W.keepIn K (.ref f) = true ∧
    (∀ (s : Shared) (ws : List Value), K.In s.heap → ws.length = ks.length → BindsTo s fd ⟨[], ks.zip ws⟩ (ps.zip (g ws))) ∧ FnOk P w K mg base CX0 k f fd ps sp
end
section
variable {P : Program} {w : World} {K : PySem.W.Frag} {mg : Str → Option Value} {base : Heap}
theorem mkDefK0 {x : Str} {st : Stmt} {N ps ks : List Str} {k : Nat} {sp : Sp} {g : {α : Type} → List α → List α} (A : At K mg x st)
    (S : FnScope N ps (defScope st))
    (hb : ∀ (kV doc pm : Value) (an : Option Addr) (cdv ct : Value) (ws : List Value), ws.length = ks.length →
      bindArgs (PySem.W.fnOf x x (defArgs st) (defBody st) (defScope st) .none kV doc pm an cdv ct) ⟨[], ks.zip ws⟩ = pure (ps.zip (g ws)))
    (len : ∀ vs H Q E, sp vs H Q E → vs.length = ps.length)
    (body : ∀ (f : Addr) (cdv : Value) (A : Around) (out : List Env) (s : Shared) (H : Hp) (vs : List V) (Q : VK) (E : XK),
      Room k (A.deeper (envOfC x (defScope st) s.heap.objs.size f cdv)) → sp vs H Q E →
      ∃ t, PSs (cxOf CX0 P w K mg base N x (defScope st) f cdv A out s H E).nox (defBody st) t ∧
        t { nx := fun _ H' => Q .non H', rt := Q } (start N vs) H) : DefK0 P w K mg base x (k + 1) ps ks g sp := by
  obtain ⟨f, fd, F, m⟩ := A.ex
  have F' := F
  obtain ⟨oc, od, kV, doc, pm, an, cdv, ct, osl, rfl, lk, hcd⟩ := F.ex
  exact ⟨f, _, m, F'.kp, fun s ws _ hl => .of_eq (hb kV doc pm an cdv ct ws hl), F'.ok S len (body f)⟩
end
section
variable {X : Cx} {x : Str} {k j : Nat} {ps ks : List Str} {sp : Sp} {p pos : Pos} {tk : TA} {kws : List Keyword}
def tCallK0 (n : Nat) (g : {α : Type} → List α → List α) (sp : Sp) (tk : TA) : TE := fun σ H Q => tk σ H fun zs H2 => zs.length = n ∧ sp (g zs) H2 Q E0
theorem pe_dK0 {g : {α : Type} → List α → List α} (D : DefK0 X.prog X.w X.K X.mg X.base x k ps ks g sp) (hgv : ∀ {vs : List V} {us : List Value}, Vals vs us → Vals (g vs) (g us)) (hr : Room j X.A) (hk : k ≤ j) (hg : Gl X x) (hkw : PK X kws tk)
    (hall : (backToKw pos (keywordEach kws X.env)).all (·.1.isSome) = true := by rfl) (hks : (backToKw pos (keywordEach kws X.env)).filterMap (·.1) = ks := by rfl)
    (hdb : (x == ("__debug__" : Str)) = false := by decide)
    (hpl : ((backTo pos (starEach [] X.env)).any (·.1) || (backToKw pos (keywordEach kws X.env)).any (·.1.isNone)) = false := by rfl) :
    PE X (.Call (.Name x p) [] kws pos) (tCallK0 ks.length g sp tk) := by
  obtain ⟨f, fd, m, kp, hb, F⟩ := D.ex
  refine ⟨fun pins s σ H Q I h => ?_⟩
  refine wpAny_Call_Name_kw (ld_glob I hg m ?_ hdb)
  refine PySem.W.callWith_KW0 (h₀ := X.base) I.ok.mod.kin kp hall ?_ hpl
  refine thn (hkw.run pos pins s σ H _ I h) fun ws s2 ⟨zs, H2, I2, rz, l, q2⟩ => ⟨I2.kIn, ?_⟩
  rw [hks]
  have r2 := hgv rz
  refine wpAny_call (codeAny_mono (F.run X.A X.stack s2 H2 ⟨[], ks.zip ws⟩ (g ws) (g zs) Q E0 (hr.mono hk) I2.env0 (hb s2 ws I2.kIn (rz.length.symm.trans l)) r2 q2) fun r s' hq => ?_)
  cases r with
  | error e => exact pass0 pins σ H2 s2 e s' I2 hq
  | ok fl =>
    cases fl with
    | ret u => exact I2.after hq
    | next => exact False.elim hq
    | brk => exact False.elim hq
    | cont => exact False.elim hq
end
/-- the third ahead -/
def g201 {α : Type} : List α → List α
  | [a, b, c] => [c, a, b]
  | _ => []
/-- the first behind -/
def g120 {α : Type} : List α → List α
  | [a, b, c] => [b, c, a]
  | _ => []
theorem g201_vals {vs : List V} {us : List Value} (r : Vals vs us) : Vals (g201 vs) (g201 us) := by
  cases r with
  | nil => exact .nil
  | cons r1 r =>
    cases r with
    | nil => exact .nil
    | cons r2 r =>
      cases r with
      | nil => exact .nil
      | cons r3 r =>
        cases r with
        | nil => exact .cons r3 (.cons r1 (.cons r2 .nil))
        | cons r4 r => exact .nil
theorem g120_vals {vs : List V} {us : List Value} (r : Vals vs us) : Vals (g120 vs) (g120 us) := by
  cases r with
  | nil => exact .nil
  | cons r1 r =>
    cases r with
    | nil => exact .nil
    | cons r2 r =>
      cases r with
      | nil => exact .nil
      | cons r3 r =>
        cases r with
        | nil => exact .cons r2 (.cons r3 (.cons r1 .nil))
        | cons r4 r => exact .nil
end Pw

/-! sorted(d.items()) of a dict whose keys are numbers that rise. -/
namespace Pw
open PySem PySem.Spec PyProof.Rows L2 L2.DX

/-- the number that stands first in the tuple at v -/
def fstI (h : Heap) : Value → Int
  | .ref a => match h.get? a with
    | some o => match o.data with
      | .seq xs _ => match (xs[0]? : Option Value) with
        | some (Value.int x _) => x
        | _ => 0
      | _ => 0
    | none => 0
  | _ => 0
/-- a pair of a number and any thing -/
def PairR (h : Heap) (v : Value) (x : Int) (u : Value) : Prop := ∃ a o t n, v = .ref a ∧ h.get? a = some o ∧ o.cls = .type "tuple" ∧ o.data = .seq #[.int x t, u] n
theorem PairR.fst {h : Heap} {v u : Value} {x : Int} (p : PairR h v x u) : fstI h v = x := by
  obtain ⟨a, o, t, n, rfl, ho, hc, hd⟩ := p
  simp only [fstI, ho, hd]
  rfl
theorem PairR.keeps {h h' : Heap} {v u : Value} {x : Int} (p : PairR h v x u) (k : ∀ b o, h.get? b = some o → o.cls = .type "tuple" → h'.get? b = some o) : PairR h' v x u := by
  obtain ⟨a, o, t, n, e, ho, hc, hd⟩ := p
  exact ⟨a, o, t, n, e, k _ _ ho hc, hc, hd⟩
theorem firsts_ofR {h : Heap} : ∀ {vs : List Value}, (∀ v ∈ vs, ∃ x u, PairR h v x u) → ∃ fs : List Value, PySem.W.KatTups h vs fs ∧ fs.length = vs.length ∧ ∀ f ∈ fs, ∃ x t, f = Value.int x t
  | [], _ => ⟨[], PySem.W.KatTups.nil, rfl, fun _ hm => by simp at hm⟩
  | v :: vs, hp => by
    obtain ⟨fs, h1, h2, h3⟩ := firsts_ofR (vs := vs) fun v' hm => hp v' (List.mem_cons_of_mem _ hm)
    obtain ⟨x, u, a, o, t, n, e, ho, hc, hd⟩ := hp v (List.mem_cons_self ..)
    subst e
    refine ⟨.int x t :: fs, PySem.W.KatTups.cons ho hc hd rfl h1, by rw [List.length_cons, List.length_cons, h2], fun f hm => ?_⟩
    rcases List.mem_cons.mp hm with rfl | hm
    · exact ⟨x, t, rfl⟩
    · exact h3 f hm
theorem swo_by (k : Value → Int) : SrtO.Swo fun v u => decide (k v < k u) := by
  refine ⟨fun x y h => ?_, fun x y z h1 h2 => ?_⟩
  · have := of_decide_eq_true h
    exact decide_eq_false (by omega)
  · have a := of_decide_eq_false h1
    have b := of_decide_eq_false h2
    exact decide_eq_false (by omega)
section
variable {prog : Program} {w : World} {A : Around} {s : Shared}
theorem pairR_cmp {vs : List Value} {k : Value → Int} (hp : ∀ v ∈ vs, ∃ u, PairR s.heap v (k v) u) (hi : ∀ v ∈ vs, ∀ u ∈ vs, k v = k u → v = u) :
    SrtO.Cmp prog w A s (tuples' true) (fun p => p.1 ∈ vs) (SrtO.lt2 fun v u => decide (k v < k u)) := by
  intro p q hm hm'
  obtain ⟨y, a, o, t, n, e, ho, hc, hd⟩ := hp _ hm
  obtain ⟨y', a', o', t', n', e', ho', hc', hd'⟩ := hp _ hm'
  have hinj := hi _ hm _ hm'
  show wpAny (model prog w) A (keyLt' (tuples' true) p.1 q.1) (fun r s' => s' = s ∧ r = decide (k p.1 < k q.1)) (fun _ _ => False) s
  generalize k p.1 = x at hd hinj ⊢
  generalize k q.1 = x' at hd' hinj ⊢
  rw [e, e'] at hinj ⊢
  refine PySem.W.kat_lt ho hd ho' hd' ?_
  show PySem.W.KatLex prog w A true (decide (2 < 2)) _ [(.int x t, .int x' t'), (y, y')] 0 s
  refine PySem.W.kat_cons (SeqAt.EqAt.int_int x t x' t' prog w _ _ ?_)
  refine PySem.W.kat_go (fun e1 => ?_) (fun e1 => ?_)
  · have ex : x = x' := by simpa using e1
    have ea := hinj ex
    cases ea
    rw [ho] at ho'
    cases ho'
    rw [hd] at hd'
    injection hd' with h1 h2
    have hy : y = y' := by
      have := congrArg (fun z : Array Value => z[1]?) h1
      simpa using this
    subst hy
    refine PySem.W.kat_yes (PySem.W.kat_cons (SeqAt.EqAt.same y prog w _ _ ?_))
    refine PySem.W.kat_yes (PySem.W.kat_nil ⟨rfl, ?_⟩)
    rw [ex]
    exact (decide_eq_false (Int.lt_irrefl _)).symm
  · exact PySem.W.kat_no (oneLt_int ⟨rfl, rfl⟩)
theorem pairsR_sortable {a : Addr} {vs : List Value} {k : Value → Int} (h0 : 0 < vs.length) (hp : ∀ v ∈ vs, ∃ u, PairR s.heap v (k v) u) (hi : ∀ v ∈ vs, ∀ u ∈ vs, k v = k u → v = u)
    (ha : ∀ o, s.heap.get? a = some o → o.cls ≠ .type "tuple") : SrtO.SortableO prog w A s a vs fun v u => decide (k v < k u) := by
  intro h' keep
  have hp' : ∀ v ∈ vs, ∃ u, PairR h' v (k v) u := fun v hm => let ⟨u, z⟩ := hp v hm; ⟨u, z.keeps fun b o e c => keep b o (fun z => by subst z; exact ha o e c) e⟩
  obtain ⟨fs, h1, h2, h3⟩ := firsts_ofR fun v hm => let ⟨u, z⟩ := hp' v hm; ⟨_, u, z⟩
  refine ⟨tuples' true, fun Q E hq => ?_, pairR_cmp hp' hi⟩
  refine PySem.W.kat_kind (T := .type "int") h1 (by omega) (fun f hm => ?_) (by rfl) ?_
  · obtain ⟨x, t, rfl⟩ := h3 f hm
    exact PySem.W.Looks.now
  · have e : (Value.type "int" != Value.type "tuple") = true := by first | decide +kernel | rfl | decide
    rw [e]
    exact hq
end
theorem perm_rise {α : Type} (f : α → Int) : ∀ (l m : List α), l.Perm m → l.Pairwise (fun a b => f a ≤ f b) → m.Pairwise (fun a b => f a < f b) → l = m
  | [], m, p, _, _ => p.nil_eq
  | y :: l, [], p, _, _ => by cases p.length_eq
  | y :: l, x :: m, p, h1, h2 => by
    have hy : y ∈ x :: m := p.mem_iff.mp (List.mem_cons_self ..)
    have hx : x ∈ y :: l := p.mem_iff.mpr (List.mem_cons_self ..)
    have e : y = x := by
      rcases List.mem_cons.mp hy with e | hy
      · exact e
      · rcases List.mem_cons.mp hx with e | hx
        · exact e.symm
        · have a := (List.pairwise_cons.mp h1).1 x hx
          have b := (List.pairwise_cons.mp h2).1 y hy
          omega
    subst e
    rw [perm_rise f l m p.cons_inv (List.pairwise_cons.mp h1).2 (List.pairwise_cons.mp h2).2]

section
variable {X : Cx}
/-- d.items(), d a dict with number or text keys -/
def rItemsK : V → List V → Hp → VK → Prop := fun x xs H Q => ∃ (a : Addr) (kvs : List (Key × V)), x = .ref a ∧ xs = [] ∧ H a = some (.dK kvs) ∧ ∀ p, H p = none → Q (.ref p) (upd H p (itemsO p a))
theorem mt_itemsK : MtR X "dict.items" rItemsK := by
  intro pins s σ H x xs v us Q I rx rxs h
  obtain ⟨a, kvs, rfl, rfl, ha, q⟩ := h
  cases rx
  cases rxs
  obtain ⟨_, hsys, us, hkv, o, es, ep, h1, h2, h3, _⟩ := (show ObjOk X.prog X.w H s.heap a (.dK kvs) from I.hok a _ ha)
  refine DT.callItems (es := es) (ep := ep) hsys ⟨o, h1, h2, h3⟩ ?_
  have hf : H s.heap.objs.size = none := I.hok.fresh (Nat.le_refl _)
  exact ⟨.ref s.heap.objs.size, upd H s.heap.objs.size (itemsO s.heap.objs.size a), I.laid (t' := s.toks) (fun b u e => Heap.get?_push_of_some _ e) (Nat.le_refl _) (itemsO_ok (Heap.get?_push_size _ rfl)), rfl, q _ hf⟩

/-- sorted(d.items()): the keys are numbers that rise -/
def rSortK : List V → Hp → VK → Prop := fun xs H Q => ∃ (p a : Addr) (kvs : List (Key × V)) (ks : List Int), xs = [.ref p] ∧ H p = some (itemsO p a) ∧ H a = some (.dK kvs) ∧
  kvs.map Prod.fst = ks.map Sum.inl ∧ ks.Pairwise (· < ·) ∧ kvs.length ≤ 1000000 ∧
  ∀ (H' : Hp) (l : Addr) (as : List Addr), Same H H' → H l = none → H' l = some (.lst (as.map V.ref)) → as.length = kvs.length →
    (∀ (j : Nat) (b : Addr) (k : Int) (v : V), as[j]? = some b → kvs[j]? = some (.inl k, v) → H b = none ∧ H' b = some (.tup [.int k, v])) → Q (.ref l) H'
theorem cr_sortK (hc : X.calm = true) : CallR X (.builtin "sorted") rSortK := by
  intro pins s σ H xs us Q I r h
  obtain ⟨p, a, kvs, ks, rfl, hp, ha, hk, hri, hl, q⟩ := h
  obtain rfl := Vals.ref1 r
  have view : s.heap.IsItemsView p a := (show ObjOk X.prog X.w H s.heap p (itemsO p a) from I.hok p _ hp).1
  obtain ⟨_, hsys, ws, hkv, o, es, ep, h1, h2, h3, _, h4, _⟩ := (show ObjOk X.prog X.w H s.heap a (.dK kvs) from I.hok a _ ha)
  obtain ⟨r1, r2⟩ := pairs_keys hkv h4
  have hh : X.A.handled = none := I.ok.hd hc
  have les : es.size = kvs.length := by
    have := r2.length
    simpa using this.symm
  have lks : ks.length = kvs.length := by
    have := congrArg List.length hk
    simpa using this.symm
  have big : (1000000 : Nat) < sizeLine := by decide
  refine DT.sortedI (es := es) (ep := ep) hh view ⟨o, h1, h2, h3⟩ (by omega) fun h' tk as hk' hlt hl' hG => ?_
  have lak : as.length = kvs.length := by omega
  have nd : as.Nodup := List.Pairwise.imp (fun h => Nat.ne_of_lt h) hG.rise
  have pr : ∀ (j : Nat) (b : Addr), as[j]? = some b → ∃ (k : Int) (v : V) (t : Tok) (u : Value), kvs[j]? = some (.inl k, v) ∧ ks[j]? = some k ∧ RelV v u ∧ h'.get? b = some { cls := .type "tuple", data := .seq #[.int k t, u] } := by
    intro j b hj
    obtain ⟨en, he, hg⟩ := hG.pairs j b hj
    have hj2 : j < kvs.length := by rw [← lak]; exact (List.getElem?_eq_some_iff.mp hj).1
    have he' : es.toList[j]? = some en := by rw [Array.getElem?_toList]; exact he
    obtain ⟨u1, hu1, rv1⟩ := r1.get (i := j) (x := kV (kvs[j]).1) (by rw [List.getElem?_map, List.getElem?_eq_getElem hj2]; rfl)
    obtain ⟨u2, hu2, rv2⟩ := r2.get (i := j) (x := (kvs[j]).2) (by rw [List.getElem?_map, List.getElem?_eq_getElem hj2]; rfl)
    rw [List.getElem?_map, he'] at hu1 hu2
    have hkj : ks[j]? = some ks[j] := List.getElem?_eq_getElem (by omega)
    have ek : (kvs[j]).1 = Sum.inl ks[j] := by
      have := congrArg (fun z => z[j]?) hk
      simp only [List.getElem?_map, List.getElem?_eq_getElem hj2, hkj, Option.map_some, Option.some.injEq] at this
      exact this
    cases hu1
    cases hu2
    rw [ek] at rv1
    obtain ⟨t, et⟩ := (show ∃ t, en.key = Value.int ks[j] t from rv1)
    rw [et] at hg
    refine ⟨ks[j], (kvs[j]).2, t, en.val, ?_, hkj, rv2, hg⟩
    rw [List.getElem?_eq_getElem hj2, ← ek]
  have hob : (h'.push { cls := .type "list", data := .seq (as.map Value.ref).toArray }).get? h'.objs.size = some (seqObj "list" (as.map Value.ref).toArray 0) := Heap.get?_push_size _ rfl
  have ne0 : ∀ b o, h'.get? b = some o → b ≠ h'.objs.size := fun b o e => Nat.ne_of_lt (Heap.lt_size e)
  generalize hh2 : h'.push { cls := .type "list", data := .seq (as.map Value.ref).toArray } = h2' at hob ⊢
  have ka : ∀ b o, h'.get? b = some o → h2'.get? b = some o := fun b o e => by rw [← hh2]; exact Heap.get?_push_of_some _ e
  have kb : ∀ b o, s.heap.get? b = some o → h2'.get? b = some o := fun b o e => ka _ _ (hk' _ _ e)
  have pin : ∀ (j : Nat) (b : Addr) (k : Int), as[j]? = some b → ks[j]? = some k → ∃ u, PairR h2' (.ref b) k u := by
    intro j b k hj hkj
    obtain ⟨k', v, t, u, _, e2, _, e4⟩ := pr j b hj
    rw [hkj] at e2
    cases e2
    exact ⟨u, b, _, t, 0, rfl, ka _ _ e4, rfl, rfl⟩
  have fk : ∀ (j : Nat) (b : Addr) (k : Int), as[j]? = some b → ks[j]? = some k → fstI h2' (.ref b) = k := fun j b k hj hkj =>
    let ⟨u, z⟩ := pin j b k hj hkj
    z.fst
  have at_ : ∀ v ∈ as.map Value.ref, ∃ (j : Nat) (b : Addr) (k : Int), v = .ref b ∧ as[j]? = some b ∧ ks[j]? = some k := by
    intro v hv'
    obtain ⟨b, hb, rfl⟩ := List.mem_map.mp hv'
    obtain ⟨j, hj⟩ := List.mem_iff_getElem?.mp hb
    obtain ⟨k, _, _, _, _, e2, _⟩ := pr j b hj
    exact ⟨j, b, k, rfl, hj, e2⟩
  have fits : (as.map Value.ref).length ≤ sizeLine := by rw [List.length_map]; omega
  have ndk : ks.Nodup := List.Pairwise.imp (fun h => Int.ne_of_lt h) hri
  have rise : (as.map Value.ref).Pairwise fun v u => fstI h2' v < fstI h2' u := by
    refine List.pairwise_iff_getElem.mpr fun i j hi hj hij => ?_
    rw [List.length_map] at hi hj
    have hi' : i < ks.length := by omega
    have hj' : j < ks.length := by omega
    rw [List.getElem_map, List.getElem_map, fk i _ ks[i] (List.getElem?_eq_getElem hi) (List.getElem?_eq_getElem hi'), fk j _ ks[j] (List.getElem?_eq_getElem hj) (List.getElem?_eq_getElem hj')]
    exact List.pairwise_iff_getElem.mp hri i j hi' hj' hij
  refine wpAny_call_entry PyProof.Rows.slot_list_sort ⟨_, hob, rfl⟩ PyProof.Rows.entry_list_sort
    (SrtO.list_sort_ord (s := { s with heap := h2', toks := tk }) (swo_by (fstI h2')) hob fits (fun h2 => ?_) fun out g1 g2 => ⟨.none, rfl, ?_⟩) (PyProof.Rows.args_list_sort _)
  · refine pairsR_sortable (s := { s with heap := h2', toks := tk }) (by omega) (fun v hv' => ?_) (fun v hv' u hu' e => ?_) (fun o e => ?_)
    · obtain ⟨j, b, k, rfl, hj, hkj⟩ := at_ v hv'
      rw [fk j b k hj hkj]
      exact pin j b k hj hkj
    · obtain ⟨j, b, k, rfl, hj, hkj⟩ := at_ v hv'
      obtain ⟨j2, b2, k2, rfl, hj2, hkj2⟩ := at_ u hu'
      rw [fk j b k hj hkj, fk j2 b2 k2 hj2 hkj2] at e
      subst e
      have := (List.getElem?_inj (List.getElem?_eq_some_iff.mp hkj).1 ndk).mp (hkj.trans hkj2.symm)
      subst this
      rw [hj] at hj2
      cases hj2
      rfl
    · have e' : some o = some (seqObj "list" (as.map Value.ref).toArray 0) := e.symm.trans hob
      cases e'
      intro c
      exact absurd (Value.type.inj c) (by decide)
  · show EP X pins σ Q (.ref h'.objs.size) { s with heap := sortedHeap h2' h'.objs.size (as.map Value.ref) out.toArray, toks := tk }
    have eo : out = as.map Value.ref := by
      refine perm_rise (fstI h2') _ _ g2.perm (g1.imp fun {x y} z => ?_) rise
      have := of_decide_eq_false z
      omega
    subst eo
    have kF : ∀ b o, b ≠ h'.objs.size → h2'.get? b = some o → (sortedHeap h2' h'.objs.size (as.map Value.ref) (as.map Value.ref).toArray).get? b = some o := fun b o hb e => (PyProof.Rows.sortedHeap_old hb (Heap.lt_size e)).trans e
    have kS : ∀ b o, s.heap.get? b = some o → (sortedHeap h2' h'.objs.size (as.map Value.ref) (as.map Value.ref).toArray).get? b = some o := fun b o e => kF b o (ne0 _ _ (hk' b o e)) (kb b o e)
    obtain ⟨eF, heF⟩ := PyProof.Rows.sortedHeap_at (vs := as.map Value.ref) (out := (as.map Value.ref).toArray) hob
    generalize sortedHeap h2' h'.objs.size (as.map Value.ref) (as.map Value.ref).toArray = h5 at kF kS heF ⊢
    have I1 : Inv X pins σ H { s with heap := h5, toks := tk } := I.kept (t' := tk) kS
    have hn0 : H h'.objs.size = none := I.hok.fresh (Nat.le_of_lt hlt)
    have hlen : (as.map V.ref).length ≤ sizeLine := by rw [List.length_map]; omega
    have rv : Vals (as.map V.ref) (as.map Value.ref) := vals_maps V.ref Value.ref as fun _ _ => rfl
    have I2 : Inv X pins σ (upd H h'.objs.size (.lst (as.map V.ref))) { s with heap := h5, toks := tk } :=
      I1.take (h' := h5) (t' := tk) (fun b ob _ e => e) (I.fpOk (Nat.le_of_lt hlt) hn0) ⟨hlen, as.map Value.ref, eF, rv, by simpa using heF⟩
    obtain ⟨H2, I3, g, qt⟩ := takeT (P := fun b vs => ∃ (j : Nat) (k : Int) (v : V), as[j]? = some b ∧ kvs[j]? = some (.inl k, v) ∧ vs = [.int k, v]) I as _ I2 nd fun b hb => by
      obtain ⟨j, hj⟩ := List.mem_iff_getElem?.mp hb
      obtain ⟨k, v, t, u, e1, _, e3, e4⟩ := pr j b hj
      have hbl : s.heap.objs.size ≤ b := Nat.le_of_lt (hG.above b hb)
      refine ⟨hbl, ?_, [.int k, v], ⟨j, k, v, hj, e1, rfl⟩, fun H3 => ⟨(by show 2 ≤ sizeLine; decide), [Value.int k t, u], .cons ⟨t, rfl⟩ (.cons e3 .nil), ⟨_, kF _ _ (ne0 _ _ e4) (ka _ _ e4), rfl, 0, rfl⟩⟩⟩
      rw [upd_ne (ne0 _ _ e4)]
      exact I.hok.fresh hbl
    have gr : ∀ b o, H b = some o → H2 b = some o := fun b o e => g b o (by rw [upd_ne (ne_of_none e hn0)]; exact e)
    refine ⟨.ref h'.objs.size, H2, I3, rfl, q H2 h'.objs.size as gr hn0 (g _ _ upd_same) lak fun j b k v hj hkv' => ?_⟩
    obtain ⟨vs, ⟨i, k', v', i1, i2, ev⟩, hH⟩ := qt b (List.mem_of_getElem? hj)
    have eij : i = j := (List.getElem?_inj (List.getElem?_eq_some_iff.mp i1).1 nd).mp (i1.trans hj.symm)
    subst eij
    rw [hkv'] at i2
    cases i2
    rw [ev] at hH
    exact ⟨I.hok.fresh (Nat.le_of_lt (hG.above b (List.mem_of_getElem? hj))), hH⟩
end
end Pw

/-! Rows in a list or in a tuple; how lists of rows are shown. -/
namespace Pw
open PySem PySem.Spec PyProof.Rows L2
/-- at a a tuple of tuples -/
def TT {α : Type} (f : α → List V) (H : Hp) (a : Addr) (rs : List α) : Prop := ∃ vs, H a = some (.tup vs) ∧ Al f H vs rs
/-- at a a list or a tuple of tuples -/
def LS {α : Type} (f : α → List V) (H : Hp) (a : Addr) (rs : List α) : Prop := LT f H a rs ∨ TT f H a rs
section
variable {α : Type} {f : α → List V} {H H' : Hp} {K : PySem.W.Frag}
theorem TT.same {a : Addr} {rs : List α} (h : TT f H a rs) (S : Same H H') : TT f H' a rs := let ⟨vs, e, al⟩ := h; ⟨vs, S _ _ e, al.same S⟩
theorem LS.same {a : Addr} {rs : List α} (h : LS f H a rs) (S : Same H H') : LS f H' a rs := h.imp (fun l => l.same S) fun t => t.same S
theorem LT.ls {a : Addr} {rs : List α} (h : LT f H a rs) : LS f H a rs := .inl h
theorem TT.ls {a : Addr} {rs : List α} (h : TT f H a rs) : LS f H a rs := .inr h
/-- rows are shown by their texts, none longer than N -/
def ShR (f : α → List V) (tx : α → Str) (ok : α → Prop) (N : Nat) : Prop :=
  ∀ (K : PySem.W.Frag) (H : Hp) (p : Addr) (r : α), ok r → H p = some (.tup (f r)) → Shw K H (.ref p) 1 N (tx r)
theorem shl_rows {tx : α → Str} {ok : α → Prop} {N : Nat} (S : ShR f tx ok N) {vs : List V} {rs : List α} (h : Al f H vs rs) (ho : ∀ r ∈ rs, ok r) :
    ∃ d, d ≤ 1 ∧ ShwL K H vs d (rs.length * (N + 2)) (rs.map tx) := by
  induction h with
  | nil => exact ⟨0, by decide, by simpa using ShwL.nil⟩
  | @cons p vs r rs e t ih =>
    obtain ⟨d, hd, s⟩ := ih fun r hr => ho r (by simp [hr])
    refine ⟨max 1 d, by omega, ?_⟩
    have := ShwL.cons (S K H p r (ho r (by simp)) e) s
    have e2 : N + 2 + rs.length * (N + 2) = (r :: rs).length * (N + 2) := by
      rw [List.length_cons, Nat.succ_mul]
      omega
    rw [e2] at this
    exact this
/-- a list of rows is shown -/
theorem shw_rows {tx : α → Str} {ok : α → Prop} {N : Nat} (K : PySem.W.Frag) (S : ShR f tx ok N) {a : Addr} {rs : List α} (h : LT f H a rs) (ho : ∀ r ∈ rs, ok r)
    (hl : rs.length * (N + 2) + 2 ≤ sizeLine) : ∃ d n, Shw K H (.ref a) (d + 1) n (listText (rs.map tx)) ∧ n ≤ sizeLine ∧ d + 1 ≤ 60 := by
  obtain ⟨vs, e, al⟩ := h.ex
  obtain ⟨d, hd, s⟩ := shl_rows (K := K) S al ho
  exact ⟨d, _, .lst e s, hl, by omega⟩
theorem sm60 {i : Int} (h : -1000000000000 ≤ i) (k : i ≤ 1000000000000) : i.natAbs.log2 < 1920 := by
  by_cases hz : i.natAbs = 0
  · rw [hz]
    decide
  · rw [Nat.log2_lt hz]
    exact Nat.lt_of_lt_of_le (show i.natAbs < 2 ^ 60 by omega) (Nat.pow_le_pow_right (by decide) (by decide))
/-- what follows two ways that meet -/
theorem seq_join {A B : TS} {D : Ends} {σ : L2.St} {H : Hp} (P : L2.St → Hp → Prop) (h2 : ∀ N' : L2.St → Hp → Prop, (∀ σ' H', P σ' H' → N' σ' H') → A { D with nx := N' } σ H)
    (h1 : ∀ σ' H', P σ' H' → B D σ' H') : tSeq A B D σ H := h2 _ h1
end
end Pw

/-! A list or a tuple, whichever it is: walked along, looked at, asked for its kind. -/
namespace Pw
open PySem PySem.Spec PyProof.Rows L2
theorem Rd_same {H H' : Hp} {a : Addr} {u : HO} (S : Same H H') (r : Rd H a u) : Rd H' a u := r.imp (S _ _) fun ⟨o, e⟩ => ⟨o, S _ _ e⟩
def Sq (K : PySem.W.Frag) (H : Hp) (a : Addr) (xs : List V) : Prop := SqL K H a xs ∨ SqT K H a xs
theorem Sq.same {K : PySem.W.Frag} {H H' : Hp} {a : Addr} {xs : List V} (h : Sq K H a xs) (S : Same H H') : Sq K H' a xs := h.imp (fun z => Same.seq S z) fun z => z.imp (fun r => Rd_same S r) id
/-- what a walk over a list or a tuple asks -/
def iSq (K : PySem.W.Frag) (tl : TE) : TI := fun σ H R => tl σ H fun x H1 => ∃ a xs, x = .ref a ∧ Sq K H1 a xs ∧
  ∀ (J : It) (G : Hp → Prop), (∀ H', Same H1 H' → G H') → Walk J xs.length G (YAt xs) → R J H1
theorem pi_sq {X : Cx} {tg l : Expr} {tl : TE} (hl : PE X l tl) : PI X tg l (iSq X.K tl) := by
  refine ⟨fun pins s σ H R I h => ?_⟩
  refine thn (hl.run pins s σ H _ I h) fun v s1 hv => ?_
  obtain ⟨x, H1, I1, r1, a, xs, rfl, hs, q⟩ := hv
  obtain rfl : v = Value.ref a := r1
  rcases hs with hq | hq
  · obtain ⟨its, rv, p, hz⟩ := I1.list hq
    refine wpAny_pyIter_list (PlainL.isList p) ⟨s1.heap.objs.size, [s1.heap.objs.size], fun i h => h.IsListIter s1.heap.objs.size a i, Itl X.K a, H1, rfl, I1.kept fun b o e => Heap.get?_push_of_some _ e, turn_list a _,
      ⟨_, Heap.get?_push_size _ rfl, rfl, rfl⟩, fun b hb => ?_, q _ (fun H => SqL X.K H a xs) (fun H' S => Same.seq S hq) walk_list⟩
    rw [List.mem_singleton.mp hb]
    exact I1.fpOk (Nat.le_refl _) (HOk.fresh I1.hok (Nat.le_refl _))
  · obtain ⟨its, rv, p, hz⟩ := I1.tuple hq
    refine wpAny_pyIter_tuple p ⟨s1.heap.objs.size, [s1.heap.objs.size], fun i h => h.IsTupleIter s1.heap.objs.size a i, Itt X.K a, H1, rfl, I1.kept fun b o e => Heap.get?_push_of_some _ e, turn_tuple a _,
      ⟨_, Heap.get?_push_size _ rfl, rfl, rfl⟩, fun b hb => ?_, q _ (fun H => SqT X.K H a xs) (fun H' S => hq.imp (fun r => Rd_same S r) id) walk_tup⟩
    rw [List.mem_singleton.mp hb]
    exact I1.fpOk (Nat.le_refl _) (HOk.fresh I1.hok (Nat.le_refl _))
/-- its kind -/
theorem Sq.ty {K : PySem.W.Frag} {H : Hp} {a : Addr} {xs : List V} (h : Sq K H a xs) : ∃ t, TyX K H (.ref a) t ∧ PySem.W.kitAny K t [.type "list", .type "tuple"] = some true := by
  rcases h with h | h
  · rcases h with h | ⟨o, its, n, e, c, _⟩
    · rcases h with e | ⟨o, e⟩
      · exact ⟨_, .base (.lst e), kit_lt_list⟩
      · exact ⟨_, .base (.frz e), kit_lt_list⟩
    · exact ⟨_, .kList e c, kit_lt_list⟩
  · rcases h with h | ⟨o, its, n, e, c, _⟩
    · rcases h with e | ⟨o, e⟩
      · exact ⟨_, .base (.tup e), kit_lt_tuple⟩
      · exact ⟨_, .fTuple e, kit_lt_tuple⟩
    · exact ⟨_, .kTuple e c, kit_lt_tuple⟩
end Pw

/-! Set comprehensions of texts and numbers; len of such a set. -/
namespace Pw
open PySem PySem.Spec PyProof.Rows L2
def tScK (P : Program) (w : World) (wi : TI) (g : TG) (tt : L2.TT) (te : TE) (vs : List Nat) : TE := fun σ H Q => wi σ H fun J H1 => ∀ D, H1 D = none →
  ∃ W : Nat → Nat → Hp → Prop, (∃ m, W 0 m (upd H1 D (SetK P w D (fun _ => false) 0))) ∧ ∀ i m H, W i m H → (J.stop i H ∧ Q (.ref D) H) ∨
    (J.go i H ∧ ∃ Nx : Hp → Prop, (∀ H', Nx H' → ∃ m', m' < m ∧ W (i + 1) m' H') ∧ ∀ x H', J.yld i H x H' → g x (wipe σ vs) H' fun σ2 H2 => wipe σ2 vs = wipe σ vs ∧ tt σ2 H2 fun b H3 =>
      if b = true then te σ2 H3 fun y H4 => ∃ (k : Key) (S : Key → Bool) (n : Nat), y = kV k ∧ H4 D = some (SetK P w D S n) ∧ n + 1 < scanBound ∧
        Nx (upd H4 D (SetK P w D (fun j => S j || decide (j = k)) (if S k = true then n else n + 1))) else Nx H3)
theorem setOf_fresh {P : Program} {w : World} {h : Heap} :
    Heap.SetOf (mixKind P w) (h.push { cls := Value.type "set", data := Data.set #[] 0 (SetTable.fresh 0 0 !w.params.followText "set-order") }) h.objs.size (fun _ => false) 0 := by
  refine ⟨_, #[], 0, _, Heap.get?_push_size _ rfl, ⟨rfl, rfl, rfl⟩, rfl, ?_, ?_, ?_, ?_, rfl⟩
  · intro e h
    cases h
  · intro k
    simp
  · decide
  · cases (!w.params.followText "set-order") <;> rfl
section
variable {X : Cx} {pins : List (Addr × Obj)} {s : Shared} {σ : L2.St} {H : Hp} {Q : VK} {elt tg iter : Expr}
  {ifs : List Expr} {scope : Scope} {own : List (Str × Nat)} {pos pos' : Pos} {wi : TI} {g : TG}
  {tt : L2.TT} {te : TE} {use : Option (Value → Sem Unit)} {Qf : Value → Shared → Prop}
theorem scK_core (hc : X.calm = true) (hN : X.N.Nodup) (I : Inv X pins σ H s) (hi : PI X tg iter wi) (ok : BlkOk X.N X.env.scope scope own)
    (hg : ∀ (s : Shared) (H : Hp) (C : Addr) (cl : List (Str × Addr)) (fp : List Addr), PG (X.blk s H scope (compEnvC scope cl C X.env) fp) tg g)
    (ht : ∀ (s : Shared) (H : Hp) (C : Addr) (cl : List (Str × Addr)) (fp : List Addr), PTs (X.blk s H scope (compEnvC scope cl C X.env) fp) ifs tt)
    (he : ∀ (s : Shared) (H : Hp) (C : Addr) (cl : List (Str × Addr)) (fp : List Addr), PE (X.blk s H scope (compEnvC scope cl C X.env) fp) elt te)
    (hs : ∀ x : Value, foldedSetIterable iter X.env x = pure x) (h : tScK X.prog X.w wi g tt te (own.map (·.2)) σ H Q)
    (hRR : ∀ (D C : Addr) (s' : Shared) (m : Str → Option Value) (H' : Hp), Inv X pins σ H' s' → Q (.ref D) H' → s'.heap.Ns C m → FpOk X pins H' C →
      compPost (model X.prog X.w) X.A X.xe use Qf (.ref D) C (.ok .next) s') :
    wpAny (model X.prog X.w) X.A (comprehension (elt.SetComp [{ target := tg, iter := iter, ifs := ifs, is_async := 0 }] scope pos) scope X.env pos' (newSet (.type "set")) false (eval iter X.env) use) Qf X.xe s := by
  have hfree : ∀ y ∈ scope.names, y.2 = NameKind.free → ∃ c, List.lookup y.1 X.env.cells = some c := fun y hy e => by
    rcases ok.free y hy e with k | k
    · exact I.ok.has y.1 (Or.inl k)
    · exact I.ok.has y.1 (Or.inr k)
  refine wpAny_comprehension_free rfl hs (closure_ok hfree) ok.kind (fun y hy e => by rw [ok.uniq y hy, e]) ?_
  refine thn (hi.run pins s σ H _ I h) fun xv s1 hx => thn hx fun itv s2 h2 => ?_
  obtain ⟨it, fp, tn, J, H2, rfl, I2, T, st2, f2, q⟩ := h2
  refine PpSet.newSet_ok (newEnv_comp ?_)
  have hDn := HOk.fresh I2.hok (Nat.le_of_eq (Eq.refl s2.heap.objs.size))
  obtain ⟨W, ⟨m0, w0⟩, turn⟩ := q s2.heap.objs.size hDn
  generalize es3 : ({ heap := s2.heap.push { cls := Value.type "set", data := Data.set #[] 0 (SetTable.fresh 0 0 !X.w.params.followText "set-order") }, gens := s2.gens, drawn := s2.drawn, toks := s2.toks, os := s2.os } : Shared) = s3
  have eh3 : s3.heap = s2.heap.push { cls := Value.type "set", data := Data.set #[] 0 (SetTable.fresh 0 0 !X.w.params.followText "set-order") } := by rw [← es3]
  have I3 : Inv X pins σ (upd H2 s2.heap.objs.size (SetK X.prog X.w s2.heap.objs.size (fun _ => false) 0)) s3 := by
    rw [← es3]
    exact I2.laid (fun b o e => Heap.get?_push_of_some _ e) (Nat.le_of_eq rfl) (setK_new setOf_fresh)
  generalize hH3 : upd H2 s2.heap.objs.size (SetK X.prog X.w s2.heap.objs.size (fun _ => false) 0) = H3 at *
  have sz : ∀ b ∈ fp, b < s2.heap.objs.size := fun b hb => by
    obtain ⟨o, e, _⟩ := T.obj 0 s2.heap st2 b hb
    exact Heap.lt_size e
  have f3 : ∀ b ∈ fp, FpOk X pins H3 b ∧ b < s3.heap.objs.size := fun b hb => by
    have hlt := sz b hb
    refine ⟨⟨?_, (f2 b hb).2⟩, ?_⟩
    · rw [← hH3, upd_ne (Nat.ne_of_lt hlt)]
      exact (f2 b hb).1
    · rw [eh3, Heap.size_push]
      exact Nat.lt_succ_of_lt hlt
  have st3 : tn 0 s3.heap := T.keep 0 s2.heap s3.heap st2 fun b _ o e => by
    rw [eh3]
    exact Heap.get?_push_of_some _ e
  have I4 := block_start I3 ok hN f3
  have pg := hg s3 H3 s3.heap.objs.size (cellsFrom (s3.heap.objs.size + 1) scope.names (cloFrom X.env.cells scope.names [])) fp
  have pt := ht s3 H3 s3.heap.objs.size (cellsFrom (s3.heap.objs.size + 1) scope.names (cloFrom X.env.cells scope.names [])) fp
  have pe := he s3 H3 s3.heap.objs.size (cellsFrom (s3.heap.objs.size + 1) scope.names (cloFrom X.env.cells scope.names [])) fp
  have nfp : ∀ b ∈ fp, H3 b = none := fun b hb => (f3 b hb).1.1
  generalize eCe : cellsFrom (s3.heap.objs.size + 1) scope.names (cloFrom X.env.cells scope.names []) = ce at *
  generalize eDN : s3.heap.objs.size = DN at *
  have stat : ∀ {σ' : L2.St} {H' : Hp} {s' : Shared}, Inv (X.blk s3 H3 scope (compEnvC scope ce DN X.env) fp) [] σ' H' s' → (∀ b ∈ fp, H' b = none) → ∀ b ∈ fp, FpOk (X.blk s3 H3 scope (compEnvC scope ce DN X.env) fp) [] H' b := fun {σ' H' s'} I' hn b hb =>
    ⟨hn b hb, (I'.ok.exf b hb).1, I'.ok.exfs b hb, .inl hb, fun x c e => (I'.ok.exf b hb).2 x c e, fun p hp => absurd hp (by simp)⟩
  have st4 : tn 0 (pushCells (s3.heap.push { cls := Value.type "dict", data := Data.dict #[] }) scope.names) := T.keep 0 s3.heap _ st3 fun b _ o e => pushCells_keeps _ _ _ _ (Heap.get?_push_of_some _ e)
  have loop : codeAny (model X.prog X.w) X.A (Code.compLoop (elt.SetComp [{ target := tg, iter := iter, ifs := ifs, is_async := 0 }] scope pos) 0 (.ref it) (.ref s2.heap.objs.size) (compEnvC scope ce DN X.env))
      (compPost (model X.prog X.w) X.A X.xe use Qf (.ref s2.heap.objs.size) DN)
      { heap := pushCells (s3.heap.push { cls := Value.type "dict", data := Data.dict #[] }) scope.names, gens := s3.gens, drawn := s3.drawn, toks := s3.toks, os := s3.os } := by
    refine PpSet.compLoopS_any (fun n s' => ∃ i H', Inv (X.blk s3 H3 scope (compEnvC scope ce DN X.env) fp) [] (wipe σ (own.map (·.2))) H' s' ∧ tn i s'.heap ∧ (∀ b ∈ fp, H' b = none) ∧ W i n H') ?_ m0 ⟨0, H3, I4, st4, nfp, w0⟩
    rintro n s5 ⟨i, H5, I5, st5, n5, w5⟩
    rcases turn i n H5 w5 with ⟨stop, qq⟩ | ⟨go, Nx, hNx, step⟩
    · have td := T.done (X.blk s3 H3 scope (compEnvC scope ce DN X.env) fp) rfl rfl rfl hc i [] s5 _ H5 (fun _ _ => False) I5 (stat I5 n5) st5 stop
      refine thnF td fun r s6 h6 => ?_
      obtain ⟨rfl, I6⟩ := h6
      have I7 := Inv.call' I3 I6.os I6.base I6.hok I6.bare fun b hb => ⟨(f3 b hb).1.2.2.2.1, (f3 b hb).1.2.1, (f3 b hb).1.2.2.2.2.1, (f3 b hb).1.2.2.2.2.2⟩
      have nC : H5 DN = none := I6.free
      obtain ⟨m, hn, _⟩ := I6.loc
      exact hRR s2.heap.objs.size DN s6 m H5 I7 qq hn (I3.fpOk (Nat.le_of_eq eDN) nC)
    · have ti := T.item (X.blk s3 H3 scope (compEnvC scope ce DN X.env) fp) rfl rfl rfl hc i [] s5 _ H5 (fun _ _ => False) I5 (stat I5 n5) st5 go
      refine thnF ti fun r s6 h6 => ?_
      obtain ⟨u, rfl, h6⟩ := h6
      refine thnF h6 fun _ s7 h7 => ?_
      obtain ⟨x, H7, I7, r7, y7, st7, n7⟩ := h7
      have I7' := Inv.pinned I7 (stat I7 n7) (T.obj (i + 1) s7.heap st7)
      refine thnF (pg.run ([] ++ pinsAt fp s7.heap) s7 _ H7 x u _ I7' r7 (step x H7 y7)) fun _ s8 h8 => ?_
      obtain ⟨σ8, H8, I8, hw8, q8⟩ := h8
      have fin : ∀ {H' : Hp} {s' : Shared}, Inv (X.blk s3 H3 scope (compEnvC scope ce DN X.env) fp) ([] ++ pinsAt fp s7.heap) σ8 H' s' → Nx H' → ∃ m, m < n ∧ ∃ i H', Inv (X.blk s3 H3 scope (compEnvC scope ce DN X.env) fp) [] (wipe σ (own.map (·.2))) H' s' ∧ tn i s'.heap ∧ (∀ b ∈ fp, H' b = none) ∧ W i m H' := fun {H' s'} I' nx => by
        obtain ⟨m', hm, w'⟩ := hNx H' nx
        have z : ∀ b ∈ fp, ∀ o, s7.heap.get? b = some o → s'.heap.get? b = some o ∧ H' b = none := fun b hb o e => by
          have z := I'.pin (b, o) (List.mem_append_right _ (mem_pinsAt hb e))
          exact ⟨z.1, z.2.1⟩
        have hl : (wipe σ (own.map (·.2))).length = σ8.length := by rw [← hw8, wipe_length]
        refine ⟨m', hm, i + 1, H', Inv.weak (Inv.unpinned I') hl (fun j v e => (wipe_some (by rw [hw8]; exact e)).1), T.keep (i + 1) s7.heap s'.heap st7 (fun b hb o e => (z b hb o e).1), fun b hb => ?_, w'⟩
        obtain ⟨o, e, _⟩ := T.obj (i + 1) s7.heap st7 b hb
        exact (z b hb o e).2
      refine thnF (pt.run ([] ++ pinsAt fp s7.heap) s8 σ8 H8 _ I8 q8) fun b s9 h9 => ?_
      obtain ⟨H9, I9, q9⟩ := h9
      cases b with
      | false => exact fin I9 q9
      | true =>
        refine thnF (pe.run ([] ++ pinsAt fp s7.heap) s9 σ8 H9 _ I9 q9) fun yv s10 h10 => ?_
        obtain ⟨y, H10, I10, r10, k, S, nn, rfl, hD10, hz10, nx⟩ := h10
        have ad := mt_saddK (X := (X.blk s3 H3 scope (compEnvC scope ce DN X.env) fp)) ([] ++ pinsAt fp s7.heap) s10 σ8 H10 (.ref s2.heap.objs.size) [kV k] (.ref s2.heap.objs.size) [yv] (fun _ H' => Nx H') I10 rfl (.cons r10 .nil) ⟨_, k, S, nn, rfl, rfl, hD10, hz10, nx⟩
        refine thnF ad fun _ s11 h11 => ?_
        obtain ⟨_, H11, I11, _, nx'⟩ := h11
        exact fin I11 nx'
  subst eCe
  subst eDN
  exact PpSet.codeAny_compStart_set loop (T.self X.A 0 _ _ _ st4 loop)
theorem pe_scK (hc : X.calm = true) (hN : X.N.Nodup) (hi : PI X tg iter wi) (ok : BlkOk X.N X.env.scope scope own)
    (hg : ∀ (s : Shared) (H : Hp) (C : Addr) (cl : List (Str × Addr)) (fp : List Addr), PG (X.blk s H scope (compEnvC scope cl C X.env) fp) tg g)
    (ht : ∀ (s : Shared) (H : Hp) (C : Addr) (cl : List (Str × Addr)) (fp : List Addr), PTs (X.blk s H scope (compEnvC scope cl C X.env) fp) ifs tt)
    (he : ∀ (s : Shared) (H : Hp) (C : Addr) (cl : List (Str × Addr)) (fp : List Addr), PE (X.blk s H scope (compEnvC scope cl C X.env) fp) elt te)
    (hs : ∀ x : Value, foldedSetIterable iter X.env x = pure x := by intro x; rfl) :
    PE X (.SetComp elt [⟨tg, iter, ifs, 0⟩] scope pos) (tScK X.prog X.w wi g tt te (own.map (·.2))) := by
  refine ⟨fun pins s σ H Q I h => ?_⟩
  rw [PpSet.eval_SetComp]
  refine scK_core hc hN I hi ok hg ht he hs h fun D C s' m H' I' q hn hf => ?_
  refine ⟨m, hn, fun h' hb => ⟨.ref D, H', ?_, rfl, q⟩⟩
  exact I'.turned (it := C) (fun b o n e => (hb.2 b n).trans e) hf.1 hf.2.1 hf.2.2.2.1 hf.2.2.2.2.1 hf.2.2.2.2.2
/-- len of a set of texts or numbers -/
def rLenSK (P : Program) (w : World) : List V → Hp → VK → Prop := fun xs H Q => ∃ (a : Addr) (S : Key → Bool) (n : Nat), xs = [V.ref a] ∧ H a = some (SetK P w a S n) ∧ Q (.int (n : Int)) H
theorem call_lenSK {X : Cx} : CallR X (.builtin "len") (rLenSK X.prog X.w) := by
  intro pins s σ H xs us Q I r h
  obtain ⟨a, S, n, rfl, e, q⟩ := h
  obtain ⟨u, rfl, ru⟩ := vals1 r
  obtain rfl : u = Value.ref a := ru
  obtain ⟨o, es, ep, t, ho, hx, hd, he, hS, hsz, hf, rfl⟩ := setK_get I e
  refine call_len_set ho hx hd hf ?_ ?_
  · exact Int.lt_of_lt_of_le (Int.ofNat_lt.mpr hsz) (by decide)
  · exact ⟨.int (es.size : Int), H, I.tok _, ⟨_, rfl⟩, q⟩
end
end Pw

namespace V59
open PySem PySem.Spec PyProof.Rows L2 Pw
theorem scWall : FnScope ["k"] ["k"] (defScope sWall) := ⟨rfl, rfl, rfl, by decide +kernel, rfl, by decide +kernel, by decide +kernel⟩
theorem scIsNumber : FnScope ["thing"] ["thing"] (defScope sIsNumber) := ⟨rfl, rfl, rfl, by decide +kernel, rfl, by decide +kernel, by decide +kernel⟩
theorem scCheckNumber : FnScope ["thing"] ["thing"] (defScope sCheckNumber) := ⟨rfl, rfl, rfl, by decide +kernel, rfl, by decide +kernel, by decide +kernel⟩
theorem scIsWhole : FnScope ["thing", "low", "high"] ["thing", "low", "high"] (defScope sIsWhole) := ⟨rfl, rfl, rfl, by decide +kernel, rfl, by decide +kernel, by decide +kernel⟩
theorem scIsName : FnScope ["thing", "sign"] ["thing"] (defScope sIsName) := ⟨rfl, rfl, rfl, by decide +kernel, rfl, by decide +kernel, by decide +kernel⟩
theorem scIsTime : FnScope ["thing"] ["thing"] (defScope sIsTime) := ⟨rfl, rfl, rfl, by decide +kernel, rfl, by decide +kernel, by decide +kernel⟩
theorem scIsMark : FnScope ["thing"] ["thing"] (defScope sIsMark) := ⟨rfl, rfl, rfl, by decide +kernel, rfl, by decide +kernel, by decide +kernel⟩
theorem scIsTerm : FnScope ["thing"] ["thing"] (defScope sIsTerm) := ⟨rfl, rfl, rfl, by decide +kernel, rfl, by decide +kernel, by decide +kernel⟩
theorem scIsId : FnScope ["thing"] ["thing"] (defScope sIsId) := ⟨rfl, rfl, rfl, by decide +kernel, rfl, by decide +kernel, by decide +kernel⟩
theorem scIsOneOf : FnScope ["thing", "words"] ["thing", "words"] (defScope sIsOneOf) := ⟨rfl, rfl, rfl, by decide +kernel, rfl, by decide +kernel, by decide +kernel⟩
theorem scIsTuple : FnScope ["thing", "many"] ["thing", "many"] (defScope sIsTuple) := ⟨rfl, rfl, rfl, by decide +kernel, rfl, by decide +kernel, by decide +kernel⟩
theorem scIsList : FnScope ["thing", "least", "most"] ["thing", "least", "most"] (defScope sIsList) := ⟨rfl, rfl, rfl, by decide +kernel, rfl, by decide +kernel, by decide +kernel⟩
theorem scIsListOf : FnScope ["fits", "thing", "least", "most", "part"] ["fits", "thing", "least", "most"] (defScope sIsListOf) := ⟨rfl, rfl, rfl, by decide +kernel, rfl, by decide +kernel, by decide +kernel⟩
theorem scCheckTime : FnScope ["thing"] ["thing"] (defScope sCheckTime) := ⟨rfl, rfl, rfl, by decide +kernel, rfl, by decide +kernel, by decide +kernel⟩
theorem scIsLevel : FnScope ["thing"] ["thing"] (defScope sIsLevel) := ⟨rfl, rfl, rfl, by decide +kernel, rfl, by decide +kernel, by decide +kernel⟩
theorem scIsPointShape : FnScope ["thing", "name", "place", "kind"] ["thing"] (defScope sIsPointShape) := ⟨rfl, rfl, rfl, by decide +kernel, rfl, by decide +kernel, by decide +kernel⟩
theorem scIsRuleShape : FnScope ["thing", "name", "point", "word", "limit", "back", "hold", "rank"] ["thing"] (defScope sIsRuleShape) := ⟨rfl, rfl, rfl, by decide +kernel, rfl, by decide +kernel, by decide +kernel⟩
theorem scIsCauseShape : FnScope ["thing", "cause", "effect", "within"] ["thing"] (defScope sIsCauseShape) := ⟨rfl, rfl, rfl, by decide +kernel, rfl, by decide +kernel, by decide +kernel⟩
theorem scIsLockShape : FnScope ["thing", "point", "word", "limit"] ["thing"] (defScope sIsLockShape) := ⟨rfl, rfl, rfl, by decide +kernel, rfl, by decide +kernel, by decide +kernel⟩
theorem scIsCommandShape : FnScope ["thing", "name", "point", "worth", "locks"] ["thing"] (defScope sIsCommandShape) := ⟨rfl, rfl, rfl, by decide +kernel, rfl, by decide +kernel, by decide +kernel⟩
theorem scIsRelationShape : FnScope ["thing", "word", "first", "rest"] ["thing"] (defScope sIsRelationShape) := ⟨rfl, rfl, rfl, by decide +kernel, rfl, by decide +kernel, by decide +kernel⟩
theorem scPointsOfRelation : FnScope ["relation", "word", "first", "rest"] ["relation"] (defScope sPointsOfRelation) := ⟨rfl, rfl, rfl, by decide +kernel, rfl, by decide +kernel, by decide +kernel⟩
theorem scByName : FnScope ["rows", "row"] ["rows"] (defScope sByName) := ⟨rfl, rfl, rfl, by decide +kernel, rfl, by decide +kernel, by decide +kernel⟩
theorem scIsWorthOf : FnScope ["point", "thing"] ["point", "thing"] (defScope sIsWorthOf) := ⟨rfl, rfl, rfl, by decide +kernel, rfl, by decide +kernel, by decide +kernel⟩
theorem scCheckPoints : FnScope ["points", "many", "name", "_", "place"] ["points"] (defScope sCheckPoints) := ⟨rfl, rfl, rfl, by decide +kernel, rfl, by decide +kernel, by decide +kernel⟩
theorem scCheckEachOnce : FnScope ["names", "at", "name"] ["names"] (defScope sCheckEachOnce) := ⟨rfl, rfl, rfl, by decide +kernel, rfl, by decide +kernel, by decide +kernel⟩
theorem scCheckRules : FnScope ["rules", "points", "ahead", "rule", "name", "point"] ["rules", "points"] (defScope sCheckRules) := ⟨rfl, rfl, rfl, by decide +kernel, rfl, by decide +kernel, by decide +kernel⟩
theorem scCheckCauses : FnScope ["causes", "rules", "ahead", "cause", "effect", "_", "name"] ["causes", "rules"] (defScope sCheckCauses) := ⟨rfl, rfl, rfl, by decide +kernel, rfl, by decide +kernel, by decide +kernel⟩
theorem scLeadsToItself : FnScope ["name", "causes", "reached", "steps", "step", "cause", "effect", "_"] ["name", "causes"] (defScope sLeadsToItself) := ⟨rfl, rfl, rfl, by decide +kernel, rfl, by decide +kernel, by decide +kernel⟩
theorem scCheckCommands : FnScope ["commands", "points", "ahead", "name", "point", "worth", "locks"] ["commands", "points"] (defScope sCheckCommands) := ⟨rfl, rfl, rfl, by decide +kernel, rfl, by decide +kernel, by decide +kernel⟩
theorem scCheckLocks : FnScope ["locks", "place", "points", "point", "_"] ["locks", "place", "points"] (defScope sCheckLocks) := ⟨rfl, rfl, rfl, by decide +kernel, rfl, by decide +kernel, by decide +kernel⟩
theorem scCheckRelations : FnScope ["relations", "points", "relation", "names", "name"] ["relations", "points"] (defScope sCheckRelations) := ⟨rfl, rfl, rfl, by decide +kernel, rfl, by decide +kernel, by decide +kernel⟩
theorem scCheckWorks : FnScope ["thing"] ["thing"] (defScope sCheckWorks) := ⟨rfl, rfl, rfl, by decide +kernel, rfl, by decide +kernel, by decide +kernel⟩
theorem scCheckPlace : FnScope ["works", "thing"] ["works", "thing"] (defScope sCheckPlace) := ⟨rfl, rfl, rfl, by decide +kernel, rfl, by decide +kernel, by decide +kernel⟩
theorem scIsBeyond : FnScope ["word", "limit", "worth"] ["word", "limit", "worth"] (defScope sIsBeyond) := ⟨rfl, rfl, rfl, by decide +kernel, rfl, by decide +kernel, by decide +kernel⟩
theorem scLockHolds : FnScope ["lock", "worths", "point", "word", "limit"] ["lock", "worths"] (defScope sLockHolds) := ⟨rfl, rfl, rfl, by decide +kernel, rfl, by decide +kernel, by decide +kernel⟩
theorem scIsOrder : FnScope ["works", "thing", "word", "ident", "command", "what"] ["works", "thing"] (defScope sIsOrder) := ⟨rfl, rfl, rfl, by decide +kernel, rfl, by decide +kernel, by decide +kernel⟩
theorem scLawCell : FnScope ["_law_script", "_law_k"] ["_law_script", "_law_k"] (defScope sLawCell) := ⟨rfl, rfl, rfl, by decide +kernel, rfl, by decide +kernel, by decide +kernel⟩
theorem scLawBox : FnScope ["_law_cell_here"] ["_law_cell_here"] (defScope sLawBox) := ⟨rfl, rfl, rfl, by decide +kernel, rfl, by decide +kernel, by decide +kernel⟩
theorem scLawTake : FnScope ["_law_box_here", "_law_many", "_law_digit", "_law_number"] ["_law_box_here", "_law_many"] (defScope sLawTake) := ⟨rfl, rfl, rfl, by decide +kernel, rfl, by decide +kernel, by decide +kernel⟩
theorem scLawNames : FnScope ["_law_box_here", "_law_many", "_law_letters_here", "_law_words", "_law_way", "_law_first", "_law_stem", "_law_at", "_law_heads", "_law_k", "_law_head"] ["_law_box_here", "_law_many"] (defScope sLawNames) := ⟨rfl, rfl, rfl, by decide +kernel, rfl, by decide +kernel, by decide +kernel⟩
theorem scLawMixed : FnScope ["_law_box_here", "_law_some", "_law_left", "_law_k"] ["_law_box_here", "_law_some"] (defScope sLawMixed) := ⟨rfl, rfl, rfl, by decide +kernel, rfl, by decide +kernel, by decide +kernel⟩
theorem scLawPoints : FnScope ["_law_box_here", "_law_names_here", "_law_levels", "_law_places", "_law_found", "_law_name", "_law_kind", "_law_one"] ["_law_box_here", "_law_names_here", "_law_levels"] (defScope sLawPoints) := ⟨rfl, rfl, rfl, by decide +kernel, rfl, by decide +kernel, by decide +kernel⟩
theorem scLawBonds : FnScope ["_law_box_here", "_law_points_here", "_law_found", "_law_lap", "_law_order", "_law_valves", "_law_way", "_law_point"] ["_law_box_here", "_law_points_here"] (defScope sLawBonds) := ⟨rfl, rfl, rfl, by decide +kernel, rfl, by decide +kernel, by decide +kernel⟩
theorem scLawMost : FnScope ["_law_points_here", "_law_name", "_law_point"] ["_law_points_here", "_law_name"] (defScope sLawMost) := ⟨rfl, rfl, rfl, by decide +kernel, rfl, by decide +kernel, by decide +kernel⟩
theorem scLawIn : FnScope ["_law_bond"] ["_law_bond"] (defScope sLawIn) := ⟨rfl, rfl, rfl, by decide +kernel, rfl, by decide +kernel, by decide +kernel⟩
theorem scLawHolds : FnScope ["_law_bond", "_law_worths", "_law_first", "_law_others", "_law_name"] ["_law_bond", "_law_worths"] (defScope sLawHolds) := ⟨rfl, rfl, rfl, by decide +kernel, rfl, by decide +kernel, by decide +kernel⟩
theorem scLawBroken : FnScope ["_law_bonds_here", "_law_worths", "_law_at", "_law_bond"] ["_law_bonds_here", "_law_worths"] (defScope sLawBroken) := ⟨rfl, rfl, rfl, by decide +kernel, rfl, by decide +kernel, by decide +kernel⟩
theorem scLawPicture : FnScope ["_law_box_here", "_law_points_here", "_law_bonds_here", "_law_found", "_law_name", "_law_place", "_law_kind", "_law_high", "_law_lap", "_law_bond", "_law_others", "_law_worth"] ["_law_box_here", "_law_points_here", "_law_bonds_here"] (defScope sLawPicture) := ⟨rfl, rfl, rfl, by decide +kernel, rfl, by decide +kernel, by decide +kernel⟩
theorem scLawLetters : FnScope ["_law_box_here", "_law_orders", "_law_found", "_law_terms", "_law_numbers", "_law_lap", "_law_room", "_law_way"] ["_law_box_here", "_law_orders"] (defScope sLawLetters) := ⟨rfl, rfl, rfl, by decide +kernel, rfl, by decide +kernel, by decide +kernel⟩
theorem scLawRoad : FnScope ["_law_box_here", "_law_rows", "_law_some", "_law_left", "_law_found", "_law_row"] ["_law_box_here", "_law_rows"] (defScope sLawRoad) := ⟨rfl, rfl, rfl, by decide +kernel, rfl, by decide +kernel, by decide +kernel⟩
theorem scLawRight : FnScope ["_law_place", "_law_letters_here", "_law_term", "_law_met", "_law_done", "_law_at", "_law_letter", "_law_answer", "_law_ident", "_law_terms", "_law_row"] ["_law_place", "_law_letters_here"] (defScope sLawRight) := ⟨rfl, rfl, rfl, by decide +kernel, rfl, by decide +kernel, by decide +kernel⟩
theorem scLaw : FnScope ["_law_script", "_law_k", "_law_box_here", "_law_points_here", "_law_name", "_law_place", "_law_kind", "_law_orders", "_law_works", "_law_rows", "_law_far", "_law_letters_here"] ["_law_script"] (defScope sLaw) := ⟨rfl, rfl, rfl, by decide +kernel, rfl, by decide +kernel, by decide +kernel⟩
theorem scmPanelError_Init : FnScope ["self", "text"] ["self", "text"] (defScope mPanelError_Init) := ⟨rfl, rfl, rfl, by decide +kernel, rfl, by decide +kernel, by decide +kernel⟩
theorem scmAbsent_Init : FnScope ["self", "text"] ["self", "text"] (defScope mAbsent_Init) := ⟨rfl, rfl, rfl, by decide +kernel, rfl, by decide +kernel, by decide +kernel⟩
theorem scmBarred_Init : FnScope ["self", "text"] ["self", "text"] (defScope mBarred_Init) := ⟨rfl, rfl, rfl, by decide +kernel, rfl, by decide +kernel, by decide +kernel⟩
theorem scmTooMany_Init : FnScope ["self", "many"] ["self", "many"] (defScope mTooMany_Init) := ⟨rfl, rfl, rfl, by decide +kernel, rfl, by decide +kernel, by decide +kernel⟩
theorem scmNoTime_Init : FnScope ["self", "found"] ["self", "found"] (defScope mNoTime_Init) := ⟨rfl, rfl, rfl, by decide +kernel, rfl, by decide +kernel, by decide +kernel⟩
theorem scmNoWorth_Init : FnScope ["self", "found"] ["self", "found"] (defScope mNoWorth_Init) := ⟨rfl, rfl, rfl, by decide +kernel, rfl, by decide +kernel, by decide +kernel⟩
theorem scmNoMark_Init : FnScope ["self", "found"] ["self", "found"] (defScope mNoMark_Init) := ⟨rfl, rfl, rfl, by decide +kernel, rfl, by decide +kernel, by decide +kernel⟩
theorem scmNoNumber_Init : FnScope ["self", "found"] ["self", "found"] (defScope mNoNumber_Init) := ⟨rfl, rfl, rfl, by decide +kernel, rfl, by decide +kernel, by decide +kernel⟩
theorem scmNoPoints_Init : FnScope ["self", "found"] ["self", "found"] (defScope mNoPoints_Init) := ⟨rfl, rfl, rfl, by decide +kernel, rfl, by decide +kernel, by decide +kernel⟩
theorem scmNoRules_Init : FnScope ["self", "found"] ["self", "found"] (defScope mNoRules_Init) := ⟨rfl, rfl, rfl, by decide +kernel, rfl, by decide +kernel, by decide +kernel⟩
theorem scmNoCauses_Init : FnScope ["self", "found"] ["self", "found"] (defScope mNoCauses_Init) := ⟨rfl, rfl, rfl, by decide +kernel, rfl, by decide +kernel, by decide +kernel⟩
theorem scmNoCommands_Init : FnScope ["self", "found"] ["self", "found"] (defScope mNoCommands_Init) := ⟨rfl, rfl, rfl, by decide +kernel, rfl, by decide +kernel, by decide +kernel⟩
theorem scmNoRelations_Init : FnScope ["self", "found"] ["self", "found"] (defScope mNoRelations_Init) := ⟨rfl, rfl, rfl, by decide +kernel, rfl, by decide +kernel, by decide +kernel⟩
theorem scmNoWorks_Init : FnScope ["self", "found"] ["self", "found"] (defScope mNoWorks_Init) := ⟨rfl, rfl, rfl, by decide +kernel, rfl, by decide +kernel, by decide +kernel⟩
theorem scmNoLetter_Init : FnScope ["self", "found"] ["self", "found"] (defScope mNoLetter_Init) := ⟨rfl, rfl, rfl, by decide +kernel, rfl, by decide +kernel, by decide +kernel⟩
theorem scmTwice_Init : FnScope ["self", "found"] ["self", "found"] (defScope mTwice_Init) := ⟨rfl, rfl, rfl, by decide +kernel, rfl, by decide +kernel, by decide +kernel⟩
theorem scmRing_Init : FnScope ["self", "found"] ["self", "found"] (defScope mRing_Init) := ⟨rfl, rfl, rfl, by decide +kernel, rfl, by decide +kernel, by decide +kernel⟩
theorem scmNoPoint_Init : FnScope ["self", "found"] ["self", "found"] (defScope mNoPoint_Init) := ⟨rfl, rfl, rfl, by decide +kernel, rfl, by decide +kernel, by decide +kernel⟩
theorem scmNoPlace_Init : FnScope ["self", "found"] ["self", "found"] (defScope mNoPlace_Init) := ⟨rfl, rfl, rfl, by decide +kernel, rfl, by decide +kernel, by decide +kernel⟩
theorem scmNoRule_Init : FnScope ["self", "found"] ["self", "found"] (defScope mNoRule_Init) := ⟨rfl, rfl, rfl, by decide +kernel, rfl, by decide +kernel, by decide +kernel⟩
theorem scmNoCommand_Init : FnScope ["self", "found"] ["self", "found"] (defScope mNoCommand_Init) := ⟨rfl, rfl, rfl, by decide +kernel, rfl, by decide +kernel, by decide +kernel⟩
theorem scmNotThere_Init : FnScope ["self", "found"] ["self", "found"] (defScope mNotThere_Init) := ⟨rfl, rfl, rfl, by decide +kernel, rfl, by decide +kernel, by decide +kernel⟩
theorem scmNotNow_Init : FnScope ["self", "found"] ["self", "found"] (defScope mNotNow_Init) := ⟨rfl, rfl, rfl, by decide +kernel, rfl, by decide +kernel, by decide +kernel⟩
theorem scmWorks_Init : FnScope ["self", "points", "rules", "causes", "commands", "relations"] ["self", "points", "rules", "causes", "commands", "relations"] (defScope mWorks_Init) := ⟨rfl, rfl, rfl, by decide +kernel, rfl, by decide +kernel, by decide +kernel⟩
theorem scmWorks_Eq : FnScope ["self", "other"] ["self", "other"] (defScope mWorks_Eq) := ⟨rfl, rfl, rfl, by decide +kernel, rfl, by decide +kernel, by decide +kernel⟩
theorem scmWorks_Points : FnScope ["self"] ["self"] (defScope mWorks_Points) := ⟨rfl, rfl, rfl, by decide +kernel, rfl, by decide +kernel, by decide +kernel⟩
theorem scmWorks_Rules : FnScope ["self"] ["self"] (defScope mWorks_Rules) := ⟨rfl, rfl, rfl, by decide +kernel, rfl, by decide +kernel, by decide +kernel⟩
theorem scmWorks_Causes : FnScope ["self"] ["self"] (defScope mWorks_Causes) := ⟨rfl, rfl, rfl, by decide +kernel, rfl, by decide +kernel, by decide +kernel⟩
theorem scmWorks_Commands : FnScope ["self"] ["self"] (defScope mWorks_Commands) := ⟨rfl, rfl, rfl, by decide +kernel, rfl, by decide +kernel, by decide +kernel⟩
theorem scmWorks_Relations : FnScope ["self"] ["self"] (defScope mWorks_Relations) := ⟨rfl, rfl, rfl, by decide +kernel, rfl, by decide +kernel, by decide +kernel⟩
theorem scmWorks_Places : FnScope ["self", "_", "place"] ["self"] (defScope mWorks_Places) := ⟨rfl, rfl, rfl, by decide +kernel, rfl, by decide +kernel, by decide +kernel⟩
theorem scmWorks_Point : FnScope ["self", "name"] ["self", "name"] (defScope mWorks_Point) := ⟨rfl, rfl, rfl, by decide +kernel, rfl, by decide +kernel, by decide +kernel⟩
theorem scmWorks_Rule : FnScope ["self", "name"] ["self", "name"] (defScope mWorks_Rule) := ⟨rfl, rfl, rfl, by decide +kernel, rfl, by decide +kernel, by decide +kernel⟩
theorem scmWorks_Command : FnScope ["self", "name"] ["self", "name"] (defScope mWorks_Command) := ⟨rfl, rfl, rfl, by decide +kernel, rfl, by decide +kernel, by decide +kernel⟩
theorem scmWorks_PointsAt : FnScope ["self", "place", "name", "where", "_"] ["self", "place"] (defScope mWorks_PointsAt) := ⟨rfl, rfl, rfl, by decide +kernel, rfl, by decide +kernel, by decide +kernel⟩
theorem scmWorks_IsWorth : FnScope ["self", "point", "thing"] ["self", "point", "thing"] (defScope mWorks_IsWorth) := ⟨rfl, rfl, rfl, by decide +kernel, rfl, by decide +kernel, by decide +kernel⟩
theorem scmWorks_HasPoint : FnScope ["self", "thing"] ["self", "thing"] (defScope mWorks_HasPoint) := ⟨rfl, rfl, rfl, by decide +kernel, rfl, by decide +kernel, by decide +kernel⟩
theorem scmWorks_HasPlace : FnScope ["self", "thing"] ["self", "thing"] (defScope mWorks_HasPlace) := ⟨rfl, rfl, rfl, by decide +kernel, rfl, by decide +kernel, by decide +kernel⟩
theorem scmWorks_HasRule : FnScope ["self", "thing"] ["self", "thing"] (defScope mWorks_HasRule) := ⟨rfl, rfl, rfl, by decide +kernel, rfl, by decide +kernel, by decide +kernel⟩
theorem scmWorks_HasCommand : FnScope ["self", "thing"] ["self", "thing"] (defScope mWorks_HasCommand) := ⟨rfl, rfl, rfl, by decide +kernel, rfl, by decide +kernel, by decide +kernel⟩
theorem scmWorks_CausesOf : FnScope ["self", "rule"] ["self", "rule"] (defScope mWorks_CausesOf) := ⟨rfl, rfl, rfl, by decide +kernel, rfl, by decide +kernel, by decide +kernel⟩
theorem scmPlace_Init : FnScope ["self", "works", "name", "point"] ["self", "works", "name"] (defScope mPlace_Init) := ⟨rfl, rfl, rfl, by decide +kernel, rfl, by decide +kernel, by decide +kernel⟩
theorem scmPlace_Eq : FnScope ["self", "other"] ["self", "other"] (defScope mPlace_Eq) := ⟨rfl, rfl, rfl, by decide +kernel, rfl, by decide +kernel, by decide +kernel⟩
theorem scmPlace_Len : FnScope ["self"] ["self"] (defScope mPlace_Len) := ⟨rfl, rfl, rfl, by decide +kernel, rfl, by decide +kernel, by decide +kernel⟩
theorem scmPlace_Change : FnScope ["self", "point", "worth", "time", "mark"] ["self", "point", "worth", "time", "mark"] (defScope mPlace_Change) := ⟨rfl, rfl, rfl, by decide +kernel, rfl, by decide +kernel, by decide +kernel⟩
theorem scmPlace_Send : FnScope ["self", "time", "letter"] ["self", "time"] (defScope mPlace_Send) := ⟨rfl, rfl, rfl, by decide +kernel, rfl, by decide +kernel, by decide +kernel⟩
theorem scmPlace_Letter : FnScope ["self", "number"] ["self", "number"] (defScope mPlace_Letter) := ⟨rfl, rfl, rfl, by decide +kernel, rfl, by decide +kernel, by decide +kernel⟩
theorem scmPlace_Hears : FnScope ["self", "letter", "time", "ident"] ["self", "letter", "time"] (defScope mPlace_Hears) := ⟨rfl, rfl, rfl, by decide +kernel, rfl, by decide +kernel, by decide +kernel⟩
theorem scmPlace_Name : FnScope ["self"] ["self"] (defScope mPlace_Name) := ⟨rfl, rfl, rfl, by decide +kernel, rfl, by decide +kernel, by decide +kernel⟩
theorem scmPlace_Time : FnScope ["self"] ["self"] (defScope mPlace_Time) := ⟨rfl, rfl, rfl, by decide +kernel, rfl, by decide +kernel, by decide +kernel⟩
theorem scmPlace_Term : FnScope ["self"] ["self"] (defScope mPlace_Term) := ⟨rfl, rfl, rfl, by decide +kernel, rfl, by decide +kernel, by decide +kernel⟩
theorem scmPlace_Worth : FnScope ["self", "point"] ["self", "point"] (defScope mPlace_Worth) := ⟨rfl, rfl, rfl, by decide +kernel, rfl, by decide +kernel, by decide +kernel⟩
theorem scmPlace_Mark : FnScope ["self", "point"] ["self", "point"] (defScope mPlace_Mark) := ⟨rfl, rfl, rfl, by decide +kernel, rfl, by decide +kernel, by decide +kernel⟩
theorem scmPlace_Waiting : FnScope ["self"] ["self"] (defScope mPlace_Waiting) := ⟨rfl, rfl, rfl, by decide +kernel, rfl, by decide +kernel, by decide +kernel⟩
theorem scmPlace_Met : FnScope ["self", "ident"] ["self"] (defScope mPlace_Met) := ⟨rfl, rfl, rfl, by decide +kernel, rfl, by decide +kernel, by decide +kernel⟩
theorem scmPlace_Done : FnScope ["self"] ["self"] (defScope mPlace_Done) := ⟨rfl, rfl, rfl, by decide +kernel, rfl, by decide +kernel, by decide +kernel⟩
theorem scmPlace_Copied : FnScope ["self"] ["self"] (defScope mPlace_Copied) := ⟨rfl, rfl, rfl, by decide +kernel, rfl, by decide +kernel, by decide +kernel⟩
theorem scmPlace_Marks : FnScope ["self", "points", "met", "point", "ident", "word"] ["self"] (defScope mPlace_Marks) := ⟨rfl, rfl, rfl, by decide +kernel, rfl, by decide +kernel, by decide +kernel⟩
theorem scmPlace_CheckHere : FnScope ["self", "point"] ["self", "point"] (defScope mPlace_CheckHere) := ⟨rfl, rfl, rfl, by decide +kernel, rfl, by decide +kernel, by decide +kernel⟩
theorem scmPlace_ComeTo : FnScope ["self", "time"] ["self", "time"] (defScope mPlace_ComeTo) := ⟨rfl, rfl, rfl, by decide +kernel, rfl, by decide +kernel, by decide +kernel⟩
theorem scmPlace_Note : FnScope ["self", "point", "worth", "mark"] ["self", "point", "worth", "mark"] (defScope mPlace_Note) := ⟨rfl, rfl, rfl, by decide +kernel, rfl, by decide +kernel, by decide +kernel⟩
theorem scmPlace_Meet : FnScope ["self", "letter", "_", "ident", "command", "point", "worth"] ["self", "letter"] (defScope mPlace_Meet) := ⟨rfl, rfl, rfl, by decide +kernel, rfl, by decide +kernel, by decide +kernel⟩
theorem scmPlace_MayDo : FnScope ["self", "command", "_", "point", "locks", "lock"] ["self", "command"] (defScope mPlace_MayDo) := ⟨rfl, rfl, rfl, by decide +kernel, rfl, by decide +kernel, by decide +kernel⟩
/-- the built-in names that the text calls, and its constants -/
structure Txt (mg : Str → Option Value) : Prop where
  KeyError : mg "KeyError" = none
  LookupError : mg "LookupError" = none
  ValueError : mg "ValueError" = none
  all : mg "all" = none
  bool : mg "bool" = none
  enumerate : mg "enumerate" = none
  int : mg "int" = none
  isinstance : mg "isinstance" = none
  len : mg "len" = none
  list : mg "list" = none
  max : mg "max" = none
  min : mg "min" = none
  range : mg "range" = none
  sorted : mg "sorted" = none
  str : mg "str" = none
  sum : mg "sum" = none
  tuple : mg "tuple" = none
  cMOST_TIME : ∃ t, mg "MOST_TIME" = some (.int 9999 t)
  cMOST_LEVEL : ∃ t, mg "MOST_LEVEL" = some (.int 63 t)
  cMOST_TERM : ∃ t, mg "MOST_TERM" = some (.int 999 t)
  c_MOST_NAME : ∃ t, mg "_MOST_NAME" = some (.int 8 t)
  c_MOST_ID : ∃ t, mg "_MOST_ID" = some (.int 999 t)
  c_MOST_LOCKS : ∃ t, mg "_MOST_LOCKS" = some (.int 4 t)
  c_MOST_PARTS : ∃ t, mg "_MOST_PARTS" = some (.int 3 t)
  c_MOST_HOLD : ∃ t, mg "_MOST_HOLD" = some (.int 99 t)
  c_MOST_RANK : ∃ t, mg "_MOST_RANK" = some (.int 3 t)
  c_MOST_WITHIN : ∃ t, mg "_MOST_WITHIN" = some (.int 999 t)
  c_MOST_PLACES : ∃ t, mg "_MOST_PLACES" = some (.int 3 t)
  c_MOST_POINTS : ∃ t, mg "_MOST_POINTS" = some (.int 8 t)
  c_MOST_RULES : ∃ t, mg "_MOST_RULES" = some (.int 6 t)
  c_MOST_CAUSES : ∃ t, mg "_MOST_CAUSES" = some (.int 8 t)
  c_MOST_COMMANDS : ∃ t, mg "_MOST_COMMANDS" = some (.int 4 t)
  c_MOST_RELATIONS : ∃ t, mg "_MOST_RELATIONS" = some (.int 5 t)
end V59

namespace V59
open PySem PySem.Spec PyProof.Rows L2 Pw
/-! ### what is told of a thing -/
def wholeB (x : V) (lo hi : Int) : Bool := match x with
  | .int i => decide (lo ≤ i) && decide (i ≤ hi)
  | _ => false
def oneB (x : V) (ws : List Str) : Bool := match x with
  | .str s => ws.any fun y => y == s
  | _ => false
/-- is it a tuple of so many things -/
def tupNB (H : Hp) (x : V) (n : Int) : Bool := match x with
  | .ref a => match H a with
    | some (.tup xs) => decide ((xs.length : Int) = n)
    | _ => false
  | _ => false
def nameB (x : V) : Bool := match x with
  | .str s => decide (1 ≤ s.length ∧ s.length ≤ 8) && s.cps.toList.all fun c => decide (97 ≤ c ∧ c ≤ 122)
  | _ => false
/-- texts are short, and of plain signs -/
def Short (x : V) : Prop := ∀ s, x = .str s → s.length ≤ 1000 ∧ ∀ c ∈ s.cps.toList, c < 128

theorem let_lt (c k : Nat) : (!decide ([c] < [k])) = decide (k ≤ c) := by
  by_cases h : k ≤ c
  · have n : ¬ [c] < [k] := by
      intro q
      cases q with
      | rel q => omega
      | cons q => cases q
    rw [decide_eq_true h, decide_eq_false n]
    rfl
  · have y : [c] < [k] := List.Lex.rel (by omega)
    rw [decide_eq_false h, decide_eq_true y]
    rfl

section
variable {P : Program} {w : World} {K : PySem.W.Frag} {mg : Str → Option Value} {base : Heap}
/-- isinstance(slot i, T) -/
theorem pe_is {X : Cx} {i : Nat} {x T : Str} {Tn : String} {p p1 p2 p3 : Pos} (hm : X.mg "isinstance" = none) (hg : Gl X "isinstance")
    (hx : PE X (.Name x p2) (tVar i)) (hT : X.mg T = none) (hgT : Gl X T) (hv : bootBuiltins T = some (.type Tn))
    (hn : T ≠ "__name__" := by decide) (hd : (T == ("__debug__" : Str)) = false := by decide)
    (he : starEach [.Name x p2, .Name T p3] X.env = (false, eval (.Name x p2) X.env) :: starEach [.Name T p3] X.env := by rfl)
    (he2 : starEach [.Name T p3] X.env = (false, eval (.Name T p3) X.env) :: starEach [] X.env := by rfl)
    (hpl : (backTo p (starEach [.Name T p3] X.env)).any (·.1) = false := by rfl) :
    PE X (.Call (.Name "isinstance" p1) [.Name x p2, .Name T p3] [] p)
      (tCB (rIsA X.K) (tCons (tVar i) (tCons (tC (.ty Tn)) tNil))) :=
  pe_callB call_isa hg hm PyProof.Rows.boot_isinstance
    (pa_cons hx (pa_cons (pe_bltn hgT hT hv rfl hn hd) pa_nil he2) he) (by decide) (by decide) he hpl

def spNumber (K : PySem.W.Frag) : Sp := fun vs H Q _ => ∃ x t, vs = [x] ∧ Ty K H x t ∧ Q (.bl (numB x)) H
theorem d_number (T : Txt mg) (A : At K mg "_is_number" sIsNumber) :
    Def P w K mg base "_is_number" 1 ["thing"] (spNumber K) := by
  refine mkDef A scIsNumber (fun _ _ _ _ _ _ us hl => match us, hl with | [_], _ => rfl) (fun vs H Q E h => ?_)
    (fun f cdv A out s H vs Q E hr h => ?_)
  · obtain ⟨x, t, rfl, _⟩ := h
    rfl
  · obtain ⟨x, t, rfl, ty, k⟩ := h
    refine ⟨_, pss_one (ps_ret (pe_and (pe_is T.isinstance (by rfl) (pv 0) T.int (by rfl) (Tn := "int") (by decide +kernel))
      (pe_one (pe_not (pe_is T.isinstance (by rfl) (pv 0) T.bool (by rfl) (Tn := "bool") (by decide +kernel)))))), ?_⟩
    refine ⟨_, rfl, x, .ty "int", t, .type "int", _, rfl, .ty "int", ty.q, ty.isInt, _, rfl, ?_⟩
    have e : numB x = ((numB x || blB x) && !blB x) := by cases x <;> rfl
    cases hb : numB x || blB x with
    | false =>
      refine iteF ?_
      rw [hb] at e
      rw [e] at k
      exact k
    | true =>
      refine iteT ?_
      refine ⟨_, rfl, x, .ty "bool", t, .type "bool", _, rfl, .ty "bool", ty.q, ty.isBool, _, rfl, ?_⟩
      rw [hb, Bool.true_and] at e
      rw [e] at k
      exact k

def spCheck (K : PySem.W.Frag) : Sp := fun vs H Q _ => ∃ i, vs = [.int i] ∧ Q .non H
theorem d_check (A : At K mg "_check_number" sCheckNumber) (dn : Def P w K mg base "_is_number" 1 ["thing"] (spNumber K)) :
    Def P w K mg base "_check_number" 2 ["thing"] (spCheck K) := by
  refine mkDef A scCheckNumber (fun _ _ _ _ _ _ us hl => match us, hl with | [_], _ => rfl) (fun vs H Q E h => ?_)
    (fun f cdv A out s H vs Q E hr h => ?_)
  · obtain ⟨x, rfl, _⟩ := h
    rfl
  · obtain ⟨i, rfl, k⟩ := h
    refine ⟨_, pss_one (ps_if (pt_not (pt_val (pe_d dn hr (by decide) (by rfl) (pa_cons (pv 0) pa_nil))))
      (pss_one ps_never) pss_nil), ?_⟩
    refine ⟨_, rfl, _, _, rfl, .int i, true, rfl, ?_⟩
    exact iteF k

def spWhole (K : PySem.W.Frag) : Sp := fun vs H Q _ => ∃ x t lo hi, vs = [x, .int lo, .int hi] ∧ Ty K H x t ∧
  Q (.bl (wholeB x lo hi)) H
theorem d_whole (A : At K mg "is_whole" sIsWhole) (dn : Def P w K mg base "_is_number" 1 ["thing"] (spNumber K))
    (dc : Def P w K mg base "_check_number" 2 ["thing"] (spCheck K)) :
    Def P w K mg base "is_whole" 3 ["thing", "low", "high"] (spWhole K) := by
  refine mkDef A scIsWhole (fun _ _ _ _ _ _ us hl => match us, hl with | [_, _, _], _ => rfl) (fun vs H Q E h => ?_)
    (fun f cdv A out s H vs Q E hr h => ?_)
  · obtain ⟨x, t, lo, hi, rfl, _⟩ := h
    rfl
  · obtain ⟨x, t, lo, hi, rfl, ty, k⟩ := h
    refine ⟨_, pss_cons (ps_expr (pe_d dc hr (by decide) (by rfl) (pa_cons (pv 1) pa_nil)))
      (pss_cons (ps_expr (pe_d dc hr (by decide) (by rfl) (pa_cons (pv 2) pa_nil)))
      (pss_one (ps_ret (pe_and (pe_d dn hr (by decide) (by rfl) (pa_cons (pv 0) pa_nil))
        (pe_one (pe_chain op_le op_le (pv 1) (pv 0) (pv 2))))))), ?_⟩
    refine ⟨_, rfl, lo, rfl, _, rfl, hi, rfl, _, rfl, x, t, rfl, ty, _, rfl, ?_⟩
    cases x with
    | int i =>
      refine iteT ⟨_, rfl, _, rfl, lo, i, rfl, rfl, _, rfl, ?_⟩
      by_cases hlo : lo ≤ i
      · rw [decide_eq_true hlo]
        refine iteT ⟨_, rfl, i, hi, rfl, rfl, ?_⟩
        have e : wholeB (.int i) lo hi = decide (i ≤ hi) := by
          show (decide (lo ≤ i) && decide (i ≤ hi)) = _
          rw [decide_eq_true hlo, Bool.true_and]
        rw [e] at k
        exact k
      · rw [decide_eq_false hlo]
        refine iteF ?_
        have e : wholeB (.int i) lo hi = false := by
          show (decide (lo ≤ i) && decide (i ≤ hi)) = _
          rw [decide_eq_false hlo, Bool.false_and]
        rw [e] at k
        exact k
    | _ => exact iteF k
def spRange (K : PySem.W.Frag) (lo hi : Int) : Sp := fun vs H Q _ => ∃ x t, vs = [x] ∧ Ty K H x t ∧ Q (.bl (wholeB x lo hi)) H
theorem d_time (T : Txt mg) (A : At K mg "is_time" sIsTime) (dw : Def P w K mg base "is_whole" 3 ["thing", "low", "high"] (spWhole K)) :
    Def P w K mg base "is_time" 4 ["thing"] (spRange K 0 9999) := by
  refine mkDef A scIsTime (fun _ _ _ _ _ _ us hl => match us, hl with | [_], _ => rfl) (fun vs H Q E ⟨x, t, e, _⟩ => by rw [e]; rfl)
    (fun f cdv A out s H vs Q E hr h => ?_)
  obtain ⟨x, t, rfl, ty, k⟩ := h
  exact ⟨_, pss_one (ps_ret (pe_d dw hr (by decide) (by rfl) (pa_cons (pv 0) (pa_cons pe_int
    (pa_cons (pe_gi T.cMOST_TIME) pa_nil))))), _, rfl, x, t, 0, 9999, rfl, ty, k⟩
def spOne (K : PySem.W.Frag) : Sp := fun vs H Q _ => ∃ x t p ws, vs = [x, .ref p] ∧ Ty K H x t ∧
  H p = some (.tup (ws.map V.str)) ∧ Q (.bl (oneB x ws)) H
theorem d_oneof (T : Txt mg) (A : At K mg "is_one_of" sIsOneOf) : Def P w K mg base "is_one_of" 1 ["thing", "words"] (spOne K) := by
  refine mkDef A scIsOneOf (fun _ _ _ _ _ _ us hl => match us, hl with | [_, _], _ => rfl) (fun vs H Q E ⟨x, t, p, ws, e, _⟩ => by rw [e]; rfl)
    (fun f cdv A out s H vs Q E hr h => ?_)
  obtain ⟨x, t, p, ws, rfl, ty, hp, k⟩ := h
  refine ⟨_, pss_one (ps_ret (pe_and (pe_is T.isinstance (by rfl) (pv 0) T.str (by rfl) (Tn := "str") (by decide +kernel))
    (pe_one (pe_cmpR op_in_seq (pv 0) (pv 1) (by rfl))))), ?_⟩
  refine ⟨_, rfl, x, .ty "str", t, .type "str", _, rfl, .ty "str", ty.q, ty.isStr, _, rfl, ?_⟩
  cases x with
  | str z =>
    refine iteT ?_
    refine ⟨_, rfl, _, rfl, p, ws.map V.str, rfl, .inr (SqT.of hp), rfl, ?_, ?_⟩
    · rw [List.all_eq_true]
      intro y hy
      obtain ⟨z', _, rfl⟩ := List.mem_map.mp hy
      rfl
    · have e : inV (.str z) (ws.map V.str) = oneB (.str z) ws := by
        show (ws.map V.str).any (fun y => eqV y (.str z)) = ws.any fun y => y == z
        rw [List.any_map]
        rfl
      show Q (.bl (inV (.str z) (ws.map V.str))) H
      rw [e]
      exact k
  | _ => exact iteF k

def spMark (K : PySem.W.Frag) : Sp := fun vs H Q _ => ∃ x t, vs = [x] ∧ Ty K H x t ∧ ∀ H', Same H H' → Q (.bl (oneB x ["good", "odd"])) H'
theorem d_mark (A : At K mg "is_mark" sIsMark) (d1 : Def P w K mg base "is_one_of" 1 ["thing", "words"] (spOne K)) :
    Def P w K mg base "is_mark" 2 ["thing"] (spMark K) := by
  refine mkDef A scIsMark (fun _ _ _ _ _ _ us hl => match us, hl with | [_], _ => rfl) (fun vs H Q E ⟨x, t, e, _⟩ => by rw [e]; rfl)
    (fun f cdv A out s H vs Q E hr h => ?_)
  obtain ⟨x, t, rfl, ty, k⟩ := h
  refine ⟨_, pss_one (ps_ret (pe_d d1 hr (by decide) (by rfl) (pa_cons (pv 0) (pa_cons (pe_tup (pa_cons pe_str (pa_cons pe_str pa_nil))) pa_nil)))), ?_⟩
  refine ⟨_, rfl, by show 2 ≤ sizeLine; decide, fun q hq => ?_⟩
  exact ⟨x, t, q, ["good", "odd"], rfl, ty.same (Same.laid hq), upd_same, k _ (Same.laid hq)⟩

def spTupN (K : PySem.W.Frag) : Sp := fun vs H Q _ => ∃ x t n, vs = [x, .int n] ∧ Ty K H x t ∧ Q (.bl (tupNB H x n)) H
theorem d_tuple (T : Txt mg) (A : At K mg "is_tuple" sIsTuple) : Def P w K mg base "is_tuple" 1 ["thing", "many"] (spTupN K) := by
  refine mkDef A scIsTuple (fun _ _ _ _ _ _ us hl => match us, hl with | [_, _], _ => rfl) (fun vs H Q E ⟨x, t, n, e, _⟩ => by rw [e]; rfl)
    (fun f cdv A out s H vs Q E hr h => ?_)
  obtain ⟨x, t, n, rfl, ty, k⟩ := h
  refine ⟨_, pss_one (ps_ret (pe_and (pe_is T.isinstance (by rfl) (pv 0) T.tuple (by rfl) (Tn := "tuple") (by decide +kernel))
    (pe_one (pe_cmpR op_eq (pe_callB call_len_seq (by rfl) T.len PySem.boot_len (pa_cons (pv 0) pa_nil)) (pv 1) (nomark _))))), ?_⟩
  refine ⟨_, rfl, x, .ty "tuple", t, .type "tuple", _, rfl, .ty "tuple", ty.q, ty.isTuple, _, rfl, ?_⟩
  cases ty with
  | @tup a xs e =>
    have e1 : tupB H (.ref a) = true := by simp only [tupB, e]
    have e2 : tupNB H (.ref a) n = decide ((xs.length : Int) = n) := by simp only [tupNB, e]
    rw [e1]
    rw [e2] at k
    refine iteT ?_
    refine ⟨_, rfl, a, xs, rfl, .inr (SqT.of e), _, rfl, ?_⟩
    have e3 : decide (V.int (xs.length : Int) = V.int n) = decide ((xs.length : Int) = n) :=
      decide_eq_decide.mpr ⟨V.int.inj, congrArg V.int⟩
    refine ⟨rfl, ?_⟩
    show Q (V.bl (decide (V.int (xs.length : Int) = V.int n))) H
    rw [e3]
    exact k
  | @lst a xs e =>
    have e1 : tupB H (.ref a) = false := by simp only [tupB, e]
    have e2 : tupNB H (.ref a) n = false := by simp only [tupNB, e]
    rw [e1]
    rw [e2] at k
    exact iteF k
  | @dct a xs e =>
    have e1 : tupB H (.ref a) = false := by simp only [tupB, e]
    have e2 : tupNB H (.ref a) n = false := by simp only [tupNB, e]
    rw [e1]
    rw [e2] at k
    exact iteF k
  | @exc a D t dx fs e ed c =>
    have e1 : tupB H (.ref a) = false := by simp only [tupB, e]; rfl
    have e2 : tupNB H (.ref a) n = false := by simp only [tupNB, e]; rfl
    rw [e1]
    rw [e2] at k
    exact iteF k
  | _ => exact iteF k

def spName (K : PySem.W.Frag) : Sp := fun vs H Q _ => ∃ x t, vs = [x] ∧ Ty K H x t ∧ Short x ∧
  ∀ H', Same H H' → Q (.bl (nameB x)) H'
def letB (c : Nat) : Bool := decide (97 ≤ c) && decide (c ≤ 122)
theorem d_name (T : Txt mg) (A : At K mg "is_name" sIsName) : Def P w K mg base "is_name" 1 ["thing"] (spName K) := by
  refine mkDef A scIsName (fun _ _ _ _ _ _ us hl => match us, hl with | [_], _ => rfl) (fun vs H Q E h => ?_)
    (fun f cdv A out s H vs Q E hr h => ?_)
  · obtain ⟨x, t, rfl, _⟩ := h
    rfl
  · obtain ⟨x, t, rfl, ty, sh, k⟩ := h
    obtain ⟨tk, hmn⟩ := T.c_MOST_NAME
    refine ⟨_, pss_cons (ps_if (PW.pt (pw_or (pt_not (pt_val (pe_is T.isinstance (by rfl) (pv 0) T.str (by rfl) (Tn := "str") (by decide +kernel))))
        (pw_or1 (pt_not (pt_chain op_le op_le pe_int (pe_callB call_len_str (by rfl) T.len PySem.boot_len (pa_cons (pv 0) pa_nil))
          (pe_glob (v := .int 8) (by rfl) hmn ⟨_, rfl⟩))))))
        (pss_one (ps_ret pe_bl)) pss_nil)
      (pss_one (ps_ret (pe_callB (cr_all rfl) (by rfl) T.all PyProof.Rows.boot_all (pa_cons
        (pe_lc (own := [("sign", 1)]) (g := gName 1) (tt := tYes) rfl scIsName.nd (pi_str (pv 0))
          (blkOk_by (own := [("sign", 1)]) (N := ["thing", "sign"]) (sc := defScope sIsName) (by decide +kernel))
          (fun _ _ _ _ _ => pg_name (i := 1) scIsName.nd rfl (Or.inl rfl)) (fun _ _ _ _ _ => pts_nil)
          (fun _ _ _ _ _ => pe_chain op_le_str op_le_str pe_str (pv 1) pe_str)) pa_nil)))), ?_⟩
    refine ⟨_, rfl, x, .ty "str", t, .type "str", _, rfl, .ty "str", ty.q, ty.isStr, _, rfl, ?_⟩
    cases x with
    | str z =>
      have hz := (sh z rfl).1
      have hzl : z.length ≤ sizeLine := Nat.le_trans hz (by decide)
      refine iteF ⟨_, rfl, z, rfl, hzl, 1, (z.length : Int), rfl, rfl, _, rfl, ?_⟩
      by_cases h1 : (1 : Int) ≤ (z.length : Int)
      · rw [decide_eq_true h1]
        refine iteT ⟨(z.length : Int), 8, rfl, rfl, _, rfl, ?_⟩
        by_cases h2 : (z.length : Int) ≤ 8
        · rw [decide_eq_true h2]
          refine iteF ⟨_, rfl, z, rfl, fun D hD => ?_⟩
          have nm : nameB (.str z) = ((z.cps.toList.map letB).all id) := by
            have e1 : decide (1 ≤ z.length ∧ z.length ≤ 8) = true := decide_eq_true ⟨by omega, by omega⟩
            show (decide (1 ≤ z.length ∧ z.length ≤ 8) && z.cps.toList.all fun c => decide (97 ≤ c ∧ c ≤ 122)) = _
            rw [e1, Bool.true_and, List.all_map]
            congr 1
            funext c
            show decide (97 ≤ c ∧ c ≤ 122) = (decide (97 ≤ c) && decide (c ≤ 122))
            exact Bool.decide_and _ _
          refine lc_it walk_str (fun i H' => Same H H' ∧ H' D = some (.lst (((z.cps.toList.take i).map letB).map V.bl)))
            ⟨Same.laid hD, upd_same⟩ (fun _ _ _ _ => trivial) ?_ ?_
          · rintro i v H1 H2 hi ⟨S1, e1⟩ ⟨rfl, c, hc, rfl⟩
            have hc' : z.cps.toList[i]? = some c := by rw [Array.getElem?_toList]; exact hc
            refine ⟨rfl, ?_⟩
            unfold tYes
            refine iteT ?_
            refine ⟨_, rfl, "a", ⟨#[c]⟩, rfl, rfl, !decide ([c] < [97]), rfl, ?_⟩
            have fin : ∀ b : Bool, b = letB c → ∃ acc, H2 D = some (.lst acc) ∧ acc.length < sizeLine ∧
                Same H (upd H2 D (.lst (acc ++ [V.bl b]))) ∧ upd H2 D (.lst (acc ++ [V.bl b])) D =
                  some (.lst (((z.cps.toList.take (i + 1)).map letB).map V.bl)) := by
              rintro b rfl
              refine ⟨_, e1, ?_, ?_, ?_⟩
              · have h4 : z.cps.size ≤ 1000 := hz
                simp only [List.length_map, List.length_take]
                exact Nat.lt_of_le_of_lt (Nat.min_le_left _ _) (Nat.lt_of_lt_of_le hi (Nat.le_trans h4 (by decide)))
              · exact fun b o e => (upd_ne (ne_of_none e hD)).trans (S1 b o e)
              · rw [upd_same, List.take_add_one, hc']
                simp
            rw [let_lt]
            by_cases ha : 97 ≤ c
            · rw [decide_eq_true ha]
              refine iteT ?_
              refine ⟨⟨#[c]⟩, "z", rfl, rfl, ?_⟩
              refine fin _ ?_
              show (!decide ([122] < [c])) = (decide (97 ≤ c) && decide (c ≤ 122))
              rw [decide_eq_true ha, Bool.true_and]
              have q := let_lt 122 c
              exact q
            · rw [decide_eq_false ha]
              refine iteF ?_
              refine fin false ?_
              show false = (decide (97 ≤ c) && decide (c ≤ 122))
              rw [decide_eq_false ha, Bool.false_and]
          · rintro H2 ⟨S1, e1⟩
            refine ⟨D, z.cps.toList.map letB, rfl, SqL.of ?_, ?_⟩
            · rw [e1, List.take_of_length_le (by simp)]
            · rw [← nm]
              exact k H2 S1
        · rw [decide_eq_false h2]
          refine iteT ?_
          have e1 : nameB (.str z) = false := by
            have e1 : decide (1 ≤ z.length ∧ z.length ≤ 8) = false := decide_eq_false (fun q => h2 (by omega))
            show (decide (1 ≤ z.length ∧ z.length ≤ 8) && _) = _
            rw [e1, Bool.false_and]
          rw [e1] at k
          exact k H (Same.refl H)
      · rw [decide_eq_false h1]
        refine iteF ⟨_, rfl, ?_⟩
        refine iteT ?_
        have e1 : nameB (.str z) = false := by
          have e1 : decide (1 ≤ z.length ∧ z.length ≤ 8) = false := decide_eq_false (fun q => h1 (by omega))
          show (decide (1 ≤ z.length ∧ z.length ≤ 8) && _) = _
          rw [e1, Bool.false_and]
        rw [e1] at k
        exact k H (Same.refl H)
    | _ => exact iteT (k H (Same.refl H))
end
end V59

namespace V59
open PySem PySem.Spec PyProof.Rows L2 Pw
abbrev R3 := Int × Int × Str
def f3 (r : R3) : List V := [.int r.1, .int r.2.1, .str r.2.2]
def f2 (r : Int × Int) : List V := [.int r.1, .int r.2]
structure GoodR (r : R3) : Prop where
  t0 : 0 ≤ r.1
  t1 : r.1 ≤ 9999
  w0 : 0 ≤ r.2.1
  w1 : r.2.1 ≤ 63
  m : r.2.2 = "good" ∨ r.2.2 = "odd"
structure GoodH (rs : List R3) : Prop where
  all : ∀ r ∈ rs, GoodR r
  rise : rs.Pairwise fun a b => a.1 < b.1
  len : rs.length ≤ 1000
theorem whole_in {i lo hi : Int} (h : lo ≤ i) (k : i ≤ hi) : wholeB (.int i) lo hi = true := by
  show (decide (lo ≤ i) && decide (i ≤ hi)) = true
  rw [decide_eq_true h, decide_eq_true k]
  rfl
theorem cut1 (xs : List V) : cutV xs (some 1) none = xs.drop 1 := by
  unfold cutV
  rw [HT.sIx_none, show (1 : Int) = ((1 : Nat) : Int) from rfl, HT.sIx_nat]
  cases xs with
  | nil => rfl
  | cons x r =>
    have e : min 1 (x :: r).length = 1 := by
      rw [List.length_cons]
      omega
    rw [e, List.take_of_length_le]
    rw [List.length_drop]
    exact Nat.le_refl _
theorem reps_all (n : Nat) : (List.replicate n true).all id = true := by
  rw [List.all_eq_true]
  intro x hx
  rw [List.eq_of_mem_replicate hx]
  rfl
theorem reps_succ (n : Nat) : (List.replicate n true).map V.bl ++ [V.bl true] = (List.replicate (n + 1) true).map V.bl := by
  rw [List.replicate_succ', List.map_append]
  rfl
section
variable {P : Program} {w : World} {K : PySem.W.Frag} {mg : Str → Option Value} {base : Heap}
theorem d_level (T : Txt mg) (A : At K mg "is_level" sIsLevel) (dw : Def P w K mg base "is_whole" 3 ["thing", "low", "high"] (spWhole K)) :
    Def P w K mg base "is_level" 4 ["thing"] (spRange K 0 63) := by
  refine mkDef A scIsLevel (fun _ _ _ _ _ _ us hl => match us, hl with | [_], _ => rfl) (fun vs H Q E ⟨x, t, e, _⟩ => by rw [e]; rfl)
    (fun f cdv A out s H vs Q E hr h => ?_)
  obtain ⟨x, t, rfl, ty, k⟩ := h
  exact ⟨_, pss_one (ps_ret (pe_d dw hr (by decide) (by rfl) (pa_cons (pv 0) (pa_cons pe_int (pa_cons (pe_gi T.cMOST_LEVEL) pa_nil))))),
    _, rfl, x, t, 0, 63, rfl, ty, k⟩

def spRow : Sp := fun vs H Q _ => ∃ p r, vs = [.ref p] ∧ H p = some (.tup (f3 r)) ∧ GoodR r ∧ ∀ H', Same H H' → Q (.bl true) H'
def spRis (K : PySem.W.Frag) : Sp := fun vs H Q _ => ∃ (a : Addr) (ns : List Int), vs = [.ref a] ∧ SqL K H a (ns.map V.int) ∧ ns.length ≤ 2000 ∧ ns.Pairwise (· < ·) ∧
  ∀ H', Same H H' → Q (.bl true) H'
/-- a history, as a list or a tuple -/
def Hs (H : Hp) (a : Addr) (rs : List R3) : Prop := LT f3 H a rs ∨ ∃ vs, H a = some (.tup vs) ∧ Al f3 H vs rs
theorem Hs.same {H H' : Hp} {a : Addr} {rs : List R3} (h : Hs H a rs) (S : Same H H') : Hs H' a rs := h.imp (fun l => l.same S) fun ⟨vs, e, al⟩ => ⟨vs, S _ _ e, al.same S⟩
def spHist : Sp := fun vs H Q _ => ∃ (a : Addr) (rs : List R3), vs = [.ref a] ∧ Hs H a rs ∧ GoodH rs ∧ ∀ H', Same H H' → Q (.bl true) H'
def spHistC : Sp := fun vs H Q _ => ∃ (a : Addr) (rs : List R3), vs = [.ref a] ∧ Hs H a rs ∧ GoodH rs ∧ ∀ H', Same H H' → Q .non H'
def spIn (lo hi : Int) : Sp := fun vs H Q _ => ∃ i, vs = [.int i] ∧ lo ≤ i ∧ i ≤ hi ∧ Q .non H
end
end V59

namespace V59
open PySem PySem.Spec PyProof.Rows L2 Pw
/-! ### points -/
structure Pt where
  nm : Str
  pl : Str
  sw : Bool
def kd (b : Bool) : Str := if b = true then "switch" else "level"
def fP (p : Pt) : List V := [.str p.nm, .str p.pl, .str (kd p.sw)]
structure OkName (s : Str) : Prop where
  b : nameB (.str s) = true
  sh : Short (.str s)
structure GoodP (p : Pt) : Prop where
  nm : OkName p.nm
  pl : OkName p.pl
structure GoodPs (ps : List Pt) : Prop where
  all : ∀ p ∈ ps, GoodP p
  nd : (ps.map (·.nm)).Nodup
  few : ∃ ws : List Str, ws.length ≤ 3 ∧ ∀ p ∈ ps, p.pl ∈ ws
  pos : 1 ≤ ps.length
  len : ps.length ≤ 8
theorem kd_one (b : Bool) : oneB (.str (kd b)) ["level", "switch"] = true := by cases b <;> decide +kernel
theorem kd_level (b : Bool) : decide (V.str (kd b) = V.str "level") = !b := by cases b <;> decide +kernel
theorem LS.sq {α : Type} {f : α → List V} {K : PySem.W.Frag} {H : Hp} {a : Addr} {rs : List α} (h : LS f H a rs) : ∃ vs, Sq K H a vs ∧ Al f H vs rs := by
  rcases h with h | ⟨vs, e, al⟩
  · obtain ⟨vs, e, al⟩ := h.ex
    exact ⟨vs, .inl (SqL.of e), al⟩
  · exact ⟨vs, .inr (SqT.of e), al⟩
section
variable {P : Program} {w : World} {K : PySem.W.Frag} {mg : Str → Option Value} {base : Heap}
/-- a list or a tuple of so many -/
def spList (K : PySem.W.Frag) : Sp := fun vs H Q _ => ∃ (a : Addr) (xs : List V) (lo hi : Int), vs = [.ref a, .int lo, .int hi] ∧ Sq K H a xs ∧ lo ≤ (xs.length : Int) ∧ (xs.length : Int) ≤ hi ∧
  ∀ H', Same H H' → Q (.bl true) H'
theorem d_list (T : Txt mg) (A : At K mg "is_list" sIsList) : Def P w K mg base "is_list" 1 ["thing", "least", "most"] (spList K) := by
  refine mkDef A scIsList (fun _ _ _ _ _ _ us hl => match us, hl with | [_, _, _], _ => rfl) (fun vs H Q E ⟨_, _, _, _, e, _⟩ => by rw [e]; rfl)
    (fun f cdv A out s H vs Q E hr h => ?_)
  obtain ⟨a, xs, lo, hi, rfl, hs, h1, h2, k⟩ := h
  refine ⟨_, (pss_one (ps_ret (pe_and (pe_callB call_isiT (by rfl) T.isinstance PyProof.Rows.boot_isinstance (pa_cons (pv 0) (pa_cons (pe_tup (pa_cons (pe_bltn (v := .ty "list") (u := .type "list") (by rfl) T.list (by decide +kernel) rfl) (pa_cons (pe_bltn (v := .ty "tuple") (u := .type "tuple") (by rfl) T.tuple (by decide +kernel) rfl) pa_nil))) pa_nil)))
    (pe_one (pe_chain op_le op_le (pv 1) (pe_callB call_len_seq (by rfl) T.len PySem.boot_len (pa_cons (pv 0) pa_nil)) (pv 2)))))), ?_⟩
  refine ⟨_, rfl, by show 2 ≤ sizeLine; decide, fun q hq => ?_⟩
  have S1 := Same.laid (o := HO.tup [.ty "list", .ty "tuple"]) hq
  have e1 : upd H q (.tup [.ty "list", .ty "tuple"]) q = some (.tup [.ty "list", .ty "tuple"]) := upd_same
  generalize upd H q (.tup [.ty "list", .ty "tuple"]) = H1 at *
  obtain ⟨t, ty, kit⟩ := (hs.same S1).ty
  refine ⟨.ref a, q, [.ty "list", .ty "tuple"], t, [.type "list", .type "tuple"], true, rfl, e1, .cons (.ty _) (.cons (.ty _) .nil), ty, kit, _, rfl, iteT ?_⟩
  refine ⟨_, rfl, _, rfl, a, xs, rfl, hs.same S1, lo, (xs.length : Int), rfl, rfl, _, rfl, ?_⟩
  rw [decide_eq_true h1]
  refine iteT ⟨_, rfl, (xs.length : Int), hi, rfl, rfl, ?_⟩
  show Q (.bl (decide ((xs.length : Int) ≤ hi))) H1
  rw [decide_eq_true h2]
  exact k _ S1
/-- a list or a tuple of so many things that all fit -/
def spListOf (K : PySem.W.Frag) (f0 : Addr) (spf : Sp) : Sp := fun vs H Q _ => ∃ (a : Addr) (xs : List V) (lo hi : Int), vs = [.ref f0, .ref a, .int lo, .int hi] ∧ Sq K H a xs ∧ lo ≤ (xs.length : Int) ∧ (xs.length : Int) ≤ hi ∧ xs.length ≤ 1000 ∧
  (∀ v ∈ xs, ∀ (H1 : Hp) (Q1 : VK), Same H H1 → (∀ H2, Same H1 H2 → Q1 (.bl true) H2) → spf [v] H1 Q1 E0) ∧ ∀ H', Same H H' → Q (.bl true) H'
theorem d_listOf {f0 : Addr} {spf : Sp} {kf : Nat} (T : Txt mg) (A : At K mg "is_list_of" sIsListOf) (dl : Def P w K mg base "is_list" 1 ["thing", "least", "most"] (spList K))
    (F : FnR P w K mg base CX0 kf f0 spf) (hk : PySem.W.keepIn K (.ref f0) = true) : Def P w K mg base "is_list_of" (kf + 2) ["fits", "thing", "least", "most"] (spListOf K f0 spf) := by
  refine mkDef A scIsListOf (fun _ _ _ _ _ _ us hl => match us, hl with | [_, _, _, _], _ => rfl) (fun vs H Q E ⟨_, _, _, _, e, _⟩ => by rw [e]; rfl)
    (fun f cdv A out s H vs Q E hr h => ?_)
  obtain ⟨a, xs, lo, hi, rfl, hs, h1, h2, hn, hf, k⟩ := h
  refine ⟨_, (pss_one (ps_ret (pe_and (pe_d dl hr (by omega) (by rfl) (pa_cons (pv 1) (pa_cons (pv 2) (pa_cons (pv 3) pa_nil)))) (pe_one (pe_callB (cr_all rfl) (by rfl) T.all PyProof.Rows.boot_all (pa_cons (pe_lc (own := [("part", 4)]) (g := gName 4) (tt := tYes) rfl scIsListOf.nd (pi_sq (pv 1))
        (blkOk_by (own := [("part", 4)]) (N := ["fits", "thing", "least", "most", "part"]) (sc := defScope sIsListOf) (by decide +kernel))
        (fun _ _ _ _ _ => (pg_name (i := 4) scIsListOf.nd rfl (.inl rfl))) (fun _ _ _ _ _ => pts_nil)
        (fun _ _ _ _ _ => (ItX.pe_callV (i := 0) F (hr.mono (by omega)) hk pass0 (by rfl) (by first | exact Or.inr (Or.inl rfl) | exact Or.inr (Or.inr rfl)) (pa_cons (pv 4) pa_nil)))) pa_nil)))))), ?_⟩
  refine ⟨_, rfl, _, rfl, _, rfl, a, xs, lo, hi, rfl, hs, h1, h2, fun H1 S1 => ?_⟩
  refine ⟨_, rfl, iteT ?_⟩
  refine ⟨_, rfl, a, xs, rfl, hs.same S1, fun J G hG wk D hD => ?_⟩
  refine lc_acc wk hD (by omega) (fun i acc H => acc = (List.replicate i true).map V.bl) rfl hG ?_ ?_
  · rintro i v H2 H3 acc hi S2 eD hl2 rfl ⟨rfl, hx⟩ Fy Fn hy1 _
    refine ⟨rfl, ?_⟩
    unfold tYes
    refine iteT ?_
    refine ⟨rfl, _, rfl, hf v (List.mem_of_getElem? hx) _ _ (S1.trans S2) fun H4 S4 => hy1 _ _ S4 (reps_succ i)⟩
  rintro H2 acc S2 eD rfl
  refine ⟨D, _, rfl, SqL.of eD, ?_⟩
  rw [reps_all]
  exact k _ (S1.trans S2)
end
end V59

/-! Dict and set comprehensions over any walk, all else staying. -/
namespace Pw
open PySem PySem.Spec PyProof.Rows L2
section
variable {J : It} {n : Nat} {G : Hp → Prop} {Y : Nat → Hp → V → Hp → Prop} {g : TG} {tt : L2.TT} {tk tv te : TE} {vs : List Nat} {σ : L2.St} {H1 : Hp} {D : Addr} {Qd : Hp → Prop}
theorem dc_it (w : Walk J n G Y) (Pv : Nat → Hp → Prop) (h0 : Pv 0 (upd H1 D (.dK []))) (hG : ∀ i H, i ≤ n → Pv i H → G H)
    (hs : ∀ i x H H', i < n → Pv i H → Y i H x H' → g x (wipe σ vs) H' fun σ2 H2 => wipe σ2 vs = wipe σ vs ∧ tt σ2 H2 fun b H3 => if b = true then tk σ2 H3 fun y H4 => tv σ2 H4 fun z H5 =>
      ∃ kvs k, y = kV k ∧ H5 D = some (.dK kvs) ∧ kvs.length < sizeLine ∧ Pv (i + 1) (upd H5 D (.dK (putK kvs k z))) else Pv (i + 1) H3)
    (hd : ∀ H, Pv n H → Qd H) : ∃ W : Nat → Nat → Hp → Prop, (∃ m, W 0 m (upd H1 D (.dK []))) ∧ ∀ i m H, W i m H → (J.stop i H ∧ Qd H) ∨ (J.go i H ∧ ∃ Nx : Hp → Prop, (∀ H', Nx H' → ∃ m', m' < m ∧ W (i + 1) m' H') ∧
      ∀ x H', J.yld i H x H' → g x (wipe σ vs) H' fun σ2 H2 => wipe σ2 vs = wipe σ vs ∧ tt σ2 H2 fun b H3 => if b = true then tk σ2 H3 fun y H4 => tv σ2 H4 fun z H5 =>
        ∃ kvs k, y = kV k ∧ H5 D = some (.dK kvs) ∧ kvs.length < sizeLine ∧ Nx (upd H5 D (.dK (putK kvs k z))) else Nx H3) := by
  refine ⟨fun i m H => i ≤ n ∧ m = n - i ∧ Pv i H, ⟨n, Nat.zero_le _, rfl, h0⟩, ?_⟩
  rintro i m H ⟨hi, rfl, p⟩
  by_cases h : i = n
  · subst h
    exact .inl ⟨w.stops H (hG _ _ (Nat.le_refl _) p), hd H p⟩
  · exact .inr ⟨w.goes i H (by omega) (hG i H hi p), Pv (i + 1), fun H' p' => ⟨n - (i + 1), by omega, by omega, rfl, p'⟩, fun x H' y => hs i x H H' (by omega) p (w.yields i H x H' (by omega) (hG i H hi p) y)⟩
theorem putK_len (l : List (Key × V)) (k : Key) (z : V) : (putK l k z).length ≤ l.length + 1 := by
  unfold putK
  split <;> simp
theorem dc_acc (w : Walk J n G Y) (hD : H1 D = none) (hn : n ≤ 1000000) (R : Nat → List (Key × V) → Hp → Prop) (r0 : R 0 [] H1) (hG : ∀ H, Same H1 H → G H)
    (hs : ∀ i x H H' acc, i < n → Same H1 H → H D = some (.dK acc) → acc.length ≤ i → R i acc (wo H D) → Y i H x H' → ∀ (Fy : V → V → Hp → Prop) (Fn : Hp → Prop),
      (∀ k z H5, Same H H5 → R (i + 1) (putK acc k z) (wo H5 D) → Fy (kV k) z H5) → (∀ H3, Same H H3 → R (i + 1) acc (wo H3 D) → Fn H3) →
      g x (wipe σ vs) H' fun σ2 H2 => wipe σ2 vs = wipe σ vs ∧ tt σ2 H2 fun b H3 => if b = true then tk σ2 H3 fun y H4 => tv σ2 H4 fun z H5 => Fy y z H5 else Fn H3)
    (hd : ∀ H acc, Same H1 H → H D = some (.dK acc) → R n acc (wo H D) → Qd H) :
    ∃ W : Nat → Nat → Hp → Prop, (∃ m, W 0 m (upd H1 D (.dK []))) ∧ ∀ i m H, W i m H → (J.stop i H ∧ Qd H) ∨ (J.go i H ∧ ∃ Nx : Hp → Prop, (∀ H', Nx H' → ∃ m', m' < m ∧ W (i + 1) m' H') ∧
      ∀ x H', J.yld i H x H' → g x (wipe σ vs) H' fun σ2 H2 => wipe σ2 vs = wipe σ vs ∧ tt σ2 H2 fun b H3 => if b = true then tk σ2 H3 fun y H4 => tv σ2 H4 fun z H5 =>
        ∃ kvs k, y = kV k ∧ H5 D = some (.dK kvs) ∧ kvs.length < sizeLine ∧ Nx (upd H5 D (.dK (putK kvs k z))) else Nx H3) := by
  have line : 1000000 < sizeLine := by decide
  refine dc_it w (fun i H => Same H1 H ∧ ∃ acc, H D = some (.dK acc) ∧ acc.length ≤ i ∧ R i acc (wo H D))
    ⟨Same.laid hD, [], upd_same, Nat.le_refl _, by rw [wo_upd, wo_none hD]; exact r0⟩ (fun i H _ h => hG H h.1) ?_ ?_
  · rintro i x H H' hi ⟨S, acc, e, hl, r⟩ y
    refine hs i x H H' acc hi S e hl r y (fun y z H5 => ∃ kvs k, y = kV k ∧ H5 D = some (.dK kvs) ∧ kvs.length < sizeLine ∧ (Same H1 (upd H5 D (.dK (putK kvs k z))) ∧ ∃ acc, upd H5 D (.dK (putK kvs k z)) D = some (.dK acc) ∧ acc.length ≤ i + 1 ∧ R (i + 1) acc (wo (upd H5 D (.dK (putK kvs k z))) D))) _ (fun k z H5 S5 r5 => ?_) fun H3 S3 r3 => ?_
    · refine ⟨acc, k, rfl, S5 _ _ e, Nat.lt_of_le_of_lt hl (Nat.lt_of_lt_of_le hi (Nat.le_trans hn (Nat.le_of_lt line))), Same.wo_upd (S.trans S5) hD, _, upd_same, ?_, ?_⟩
      · have := putK_len acc k z
        omega
      · rw [wo_upd]
        exact r5
    · exact ⟨S.trans S3, acc, S3 _ _ e, by omega, r3⟩
  · rintro H ⟨S, acc, e, _, r⟩
    exact hd H acc S e r
theorem sc_it {P : Program} {wd : World} (w : Walk J n G Y) (Pv : Nat → Hp → Prop) (h0 : Pv 0 (upd H1 D (SetK P wd D (fun _ => false) 0))) (hG : ∀ i H, i ≤ n → Pv i H → G H)
    (hs : ∀ i x H H', i < n → Pv i H → Y i H x H' → g x (wipe σ vs) H' fun σ2 H2 => wipe σ2 vs = wipe σ vs ∧ tt σ2 H2 fun b H3 => if b = true then te σ2 H3 fun y H4 =>
      ∃ (k : Key) (S : Key → Bool) (n : Nat), y = kV k ∧ H4 D = some (SetK P wd D S n) ∧ n + 1 < scanBound ∧ Pv (i + 1) (upd H4 D (SetK P wd D (fun j => S j || decide (j = k)) (if S k = true then n else n + 1))) else Pv (i + 1) H3)
    (hd : ∀ H, Pv n H → Qd H) : ∃ W : Nat → Nat → Hp → Prop, (∃ m, W 0 m (upd H1 D (SetK P wd D (fun _ => false) 0))) ∧ ∀ i m H, W i m H → (J.stop i H ∧ Qd H) ∨ (J.go i H ∧ ∃ Nx : Hp → Prop, (∀ H', Nx H' → ∃ m', m' < m ∧ W (i + 1) m' H') ∧
      ∀ x H', J.yld i H x H' → g x (wipe σ vs) H' fun σ2 H2 => wipe σ2 vs = wipe σ vs ∧ tt σ2 H2 fun b H3 => if b = true then te σ2 H3 fun y H4 =>
        ∃ (k : Key) (S : Key → Bool) (n : Nat), y = kV k ∧ H4 D = some (SetK P wd D S n) ∧ n + 1 < scanBound ∧ Nx (upd H4 D (SetK P wd D (fun j => S j || decide (j = k)) (if S k = true then n else n + 1))) else Nx H3) := by
  refine ⟨fun i m H => i ≤ n ∧ m = n - i ∧ Pv i H, ⟨n, Nat.zero_le _, rfl, h0⟩, ?_⟩
  rintro i m H ⟨hi, rfl, p⟩
  by_cases h : i = n
  · subst h
    exact .inl ⟨w.stops H (hG _ _ (Nat.le_refl _) p), hd H p⟩
  · exact .inr ⟨w.goes i H (by omega) (hG i H hi p), Pv (i + 1), fun H' p' => ⟨n - (i + 1), by omega, by omega, rfl, p'⟩, fun x H' y => hs i x H H' (by omega) p (w.yields i H x H' (by omega) (hG i H hi p) y)⟩
end
end Pw

namespace V59
open PySem PySem.Spec PyProof.Rows L2 Pw
theorem inV_str (x : Str) : ∀ ns : List Str, inV (.str x) (ns.map V.str) = decide (x ∈ ns)
  | [] => rfl
  | n :: ns => by
    have ih := inV_str x ns
    unfold inV at ih ⊢
    rw [List.map_cons, List.any_cons, ih]
    by_cases h : n = x
    · subst h
      simp [eqV]
    · simp [eqV, h, Ne.symm h]
theorem flat_strs (ns : List Str) : (ns.map V.str).all flatV = true := List.all_eq_true.mpr fun y hy => by
  simp only [List.mem_map] at hy
  obtain ⟨z, _, rfl⟩ := hy
  rfl
theorem cut_to (xs : List V) (i : Nat) : cutV xs none (some (i : Int)) = xs.take i := by
  unfold cutV
  have e1 : HT.sIx xs.length 0 none = 0 := rfl
  rw [e1, HT.sIx_nat, List.drop_zero, Nat.sub_zero]
  by_cases h : i ≤ xs.length
  · rw [Nat.min_eq_left h]
  · rw [Nat.min_eq_right (by omega), List.take_length, List.take_of_length_le (by omega)]
theorem nodup_take {ns : List Str} (nd : ns.Nodup) {i : Nat} {x : Str} (e : ns[i]? = some x) : x ∉ ns.take i := by
  intro h
  obtain ⟨j, hj, e'⟩ := List.getElem_of_mem h
  rw [List.getElem_take] at e'
  obtain ⟨hi, ei⟩ := List.getElem?_eq_some_iff.mp e
  rw [List.length_take] at hj
  exact (List.pairwise_iff_getElem.mp nd) j i (by omega) hi (by omega) (by rw [e', ei])
/-- the entries of a dict by name -/
def kvs {α : Type} (nm : α → Str) : List α → List V → List (Key × V)
  | r :: rs, v :: vs => (.inr (nm r), v) :: kvs nm rs vs
  | _, _ => []
theorem kvs_append {α : Type} (nm : α → Str) : ∀ {rs : List α} {vs : List V} {rs' : List α} {vs' : List V}, rs.length = vs.length → kvs nm (rs ++ rs') (vs ++ vs') = kvs nm rs vs ++ kvs nm rs' vs'
  | [], [], _, _, _ => rfl
  | [], _ :: _, _, _, h => by cases h
  | _ :: _, [], _, _, h => by cases h
  | r :: rs, v :: vs, rs', vs', h => by
    show _ :: kvs nm (rs ++ rs') (vs ++ vs') = _ :: (kvs nm rs vs ++ kvs nm rs' vs')
    rw [kvs_append nm (by simpa using h)]
theorem kvs_keys {α : Type} (nm : α → Str) : ∀ {rs : List α} {vs : List V}, rs.length = vs.length → (kvs nm rs vs).map Prod.fst = rs.map fun r => Sum.inr (nm r)
  | [], [], _ => rfl
  | [], _ :: _, h => by cases h
  | _ :: _, [], h => by cases h
  | r :: rs, v :: vs, h => by
    show _ :: (kvs nm rs vs).map Prod.fst = _ :: _
    rw [kvs_keys nm (by simpa using h)]
theorem putK_new {kvs : List (Key × V)} {k : Key} {v : V} (h : k ∉ kvs.map Prod.fst) : putK kvs k v = kvs ++ [(k, v)] := by
  unfold putK
  rw [if_neg]
  intro z
  obtain ⟨p, hp, e⟩ := List.any_eq_true.mp z
  exact h (List.mem_map.mpr ⟨p, hp, of_decide_eq_true e⟩)
section
variable {P : Program} {w : World} {K : PySem.W.Frag} {mg : Str → Option Value} {base : Heap}
def spPointS : Sp := fun vs H Q _ => ∃ p pt, vs = [.ref p] ∧ H p = some (.tup (fP pt)) ∧ GoodP pt ∧ ∀ H', Same H H' → Q (.bl true) H'
theorem d_pointS (A : At K mg "is_point_shape" sIsPointShape) (dt : Def P w K mg base "is_tuple" 1 ["thing", "many"] (spTupN K)) (dn : Def P w K mg base "is_name" 1 ["thing"] (spName K))
    (d1 : Def P w K mg base "is_one_of" 1 ["thing", "words"] (spOne K)) : Def P w K mg base "is_point_shape" 2 ["thing"] spPointS := by
  refine mkDef A scIsPointShape (fun _ _ _ _ _ _ us hl => match us, hl with | [_], _ => rfl) (fun vs H Q E ⟨_, _, e, _⟩ => by rw [e]; rfl)
    (fun f cdv A out s H vs Q E hr h => ?_)
  obtain ⟨q, pt, rfl, e, g, k⟩ := h
  refine ⟨_, (pss_cons (ps_if (pt_not (pt_val (pe_d dt hr (by decide) (by rfl) (pa_cons (pv 0) (pa_cons pe_int pa_nil)))))
      (pss_one (ps_ret pe_bl))
      pss_nil)
    (pss_cons (ps_asg (pv 0) (pg_tup (by rfl) (pgs_cons (pg_name (i := 1) scIsPointShape.nd rfl (.inl rfl)) (pgs_cons (pg_name (i := 2) scIsPointShape.nd rfl (.inl rfl)) (pgs_cons (pg_name (i := 3) scIsPointShape.nd rfl (.inl rfl)) pgs_nil)))))
    (pss_one (ps_ret (pe_and (pe_d dn hr (by decide) (by rfl) (pa_cons (pv 1) pa_nil)) (pe_and (pe_d dn hr (by decide) (by rfl) (pa_cons (pv 2) pa_nil)) (pe_one (pe_d d1 hr (by decide) (by rfl) (pa_cons (pv 3) (pa_cons (pe_tup (pa_cons pe_str (pa_cons pe_str pa_nil))) pa_nil)))))))))), ?_⟩
  have eT : tupNB H (.ref q) 3 = true := by simp only [tupNB, e]; rfl
  refine ⟨_, rfl, .ref q, _, 3, rfl, .tup e, true, congrArg V.bl eT, iteF ?_⟩
  refine ⟨_, rfl, q, _, rfl, SqT.of e, rfl, _, _, rfl, _, _, rfl, _, _, rfl, rfl, ?_⟩
  refine ⟨_, rfl, .str pt.nm, _, rfl, .str _, g.nm.sh, fun H1 S1 => ⟨true, congrArg V.bl g.nm.b, iteT ?_⟩⟩
  refine ⟨_, rfl, .str pt.pl, _, rfl, .str _, g.pl.sh, fun H2 S2 => ⟨true, congrArg V.bl g.pl.b, iteT ?_⟩⟩
  refine ⟨_, rfl, by show 2 ≤ sizeLine; decide, fun p np => ?_⟩
  refine ⟨.str (kd pt.sw), _, p, ["level", "switch"], rfl, .str _, upd_same, ?_⟩
  rw [kd_one]
  exact k _ (S1.trans (S2.trans (Same.laid np)))
/-- names, each once -/
def spOnce (K : PySem.W.Frag) : Sp := fun vs H Q _ => ∃ (a : Addr) (ns : List Str), vs = [.ref a] ∧ SqL K H a (ns.map V.str) ∧ ns.Nodup ∧ ns.length ≤ 1000 ∧ ∀ H', Same H H' → Q .non H'
theorem d_once (T : Txt mg) (A : At K mg "_check_each_once" sCheckEachOnce) : Def P w K mg base "_check_each_once" 1 ["names"] (spOnce K) := by
  refine mkDef A scCheckEachOnce (fun _ _ _ _ _ _ us hl => match us, hl with | [_], _ => rfl) (fun vs H Q E ⟨_, _, e, _⟩ => by rw [e]; rfl)
    (fun f cdv A out s H vs Q E hr h => ?_)
  obtain ⟨a, ns, rfl, hs, nd, hl, k⟩ := h
  refine ⟨_, (pss_one (ps_for PassesOwn.never rfl (pi_enum (by rfl) T.enumerate (pa_cons (pv 0) pa_nil)) (pg_tup (by rfl) (pgs_cons (pg_name (i := 1) scCheckEachOnce.nd rfl (.inl rfl)) (pgs_cons (pg_name (i := 2) scCheckEachOnce.nd rfl (.inl rfl)) pgs_nil)))
      (pss_one (ps_if (pt_cmpR op_in_seq (pv 2) (pe_slice sl_list (pv 0) po_none (po_some (pv 1))) (by rfl))
        (pss_one ps_never)
        pss_nil)))), ?_⟩
  refine ⟨_, rfl, a, _, rfl, hs, ?_⟩
  refine for_it (walk_enum (K := K) (a := a) (xs := ns.map V.str)) (fun i σ G => ∃ v1 v2 : Option V, σ = [some (.ref a), v1, v2] ∧ Same H G) ⟨none, none, rfl, Same.refl _⟩
    (fun i σ G _ ⟨_, _, _, S⟩ => Same.seq S hs) ?_ (fun σ G ⟨_, _, _, S⟩ => k G S)
  rintro i v σ G0 G hi ⟨v1, v2, rfl, S⟩ hy
  rw [List.length_map] at hi
  obtain ⟨q, x, y, rfl, nq, rfl, ex, ey⟩ := hy
  cases ex
  replace ey : (ns.map V.str)[i]? = some y := ey
  rw [List.getElem?_map] at ey
  obtain ⟨nm, en, rfl⟩ := Option.map_eq_some_iff.mp ey
  have S1 := S.trans (Same.laid (o := HO.tup [V.int (i : Int), .str nm]) nq)
  refine ⟨q, _, rfl, SqT.of upd_same, rfl, _, _, rfl, _, _, rfl, rfl, ?_⟩
  generalize upd G0 q (.tup [V.int (i : Int), .str nm]) = G at *
  refine ⟨_, rfl, _, rfl, _, rfl, (i : Int), rfl, a, _, rfl, Same.seq S1 hs, fun p np => ?_⟩
  rw [cut_to, ← List.map_take]
  refine ⟨p, _, rfl, .inl (SqL.of upd_same), rfl, flat_strs _, _, rfl, ?_⟩
  rw [inV_str, decide_eq_false (nodup_take nd en)]
  exact iteF ⟨_, _, rfl, S1.trans (Same.laid np)⟩
/-- things by their names -/
def spByName {α : Type} (K : PySem.W.Frag) (f : α → List V) (nm : α → Str) : Sp := fun vs H Q _ => ∃ (a : Addr) (xs : List V) (rs : List α), vs = [.ref a] ∧ Sq K H a xs ∧ Al f H xs rs ∧ (∀ r, ∃ tl, f r = .str (nm r) :: tl) ∧ (rs.map nm).Nodup ∧ rs.length ≤ 1000 ∧
  ∀ D H', Same H H' → H D = none → H' D = some (.dK (kvs nm rs xs)) → Q (.ref D) H'
theorem d_byName {α : Type} {f : α → List V} {nm : α → Str} (A : At K mg "by_name" sByName) : Def P w K mg base "by_name" 1 ["rows"] (spByName K f nm) := by
  refine mkDef A scByName (fun _ _ _ _ _ _ us hl => match us, hl with | [_], _ => rfl) (fun vs H Q E ⟨_, _, _, e, _⟩ => by rw [e]; rfl)
    (fun f' cdv A out s H vs Q E hr h => ?_)
  obtain ⟨a, xs, rs, rfl, hs, al, hf, nd, hl, k⟩ := h
  refine ⟨_, (pss_one (ps_ret (pe_dc (own := [("row", 1)]) (g := gName 1) (tt := tYes) rfl scByName.nd (pi_sq (pv 0))
        (blkOk_by (own := [("row", 1)]) (N := ["rows", "row"]) (sc := defScope sByName) (by decide +kernel))
        (fun _ _ _ _ _ => (pg_name (i := 1) scByName.nd rfl (.inl rfl))) (fun _ _ _ _ _ => pts_nil)
        (fun _ _ _ _ _ => (pe_ix (r := rIxT K) ix_tup (pv 1) pe_int (fun _ _ => rfl))) (fun _ _ _ _ _ => (pv 1))))), ?_⟩
  refine ⟨_, rfl, a, xs, rfl, hs, fun J G hG wk D hD => ?_⟩
  have hlen := al.length
  refine dc_acc wk hD (by omega) (fun i acc H => acc = kvs nm (rs.take i) (xs.take i)) rfl hG ?_ ?_
  · rintro i v H2 H3 acc hi S2 eD hl2 rfl ⟨rfl, hx⟩ Fy Fn hy1 _
    obtain ⟨p, r, rfl, hr', ep⟩ := (al.same S2).get hx
    refine ⟨rfl, ?_⟩
    unfold tYes
    refine iteT ?_
    obtain ⟨tl, ef⟩ := hf r
    rw [ef] at ep
    refine ⟨_, rfl, p, _, 0, .str (nm r), rfl, rfl, SqT.of ep, (by show atI _ ((0 : Nat) : Int) = _; exact atI_nat (by rfl)), ?_⟩
    refine ⟨_, rfl, hy1 (.inr (nm r)) _ _ (Same.refl _) ?_⟩
    have e1 : rs.take (i + 1) = rs.take i ++ [r] := by rw [List.take_add_one, hr']; rfl
    have e2 : xs.take (i + 1) = xs.take i ++ [.ref p] := by rw [List.take_add_one, hx]; rfl
    have e3 : (rs.take i).length = (xs.take i).length := by rw [List.length_take, List.length_take, hlen]
    rw [e1, e2, kvs_append nm e3, putK_new]
    · rfl
    · rw [kvs_keys nm e3]
      intro z
      obtain ⟨r', hr2, er⟩ := List.mem_map.mp z
      have en : (rs.map nm)[i]? = some (nm r) := by rw [List.getElem?_map, hr']; rfl
      refine nodup_take nd en ?_
      rw [← List.map_take]
      exact List.mem_map.mpr ⟨r', hr2, Sum.inr.inj er⟩
  · rintro H2 acc S2 eD rfl
    rw [List.take_of_length_le (by omega), List.take_length] at eD
    exact k D H2 S2 hD eD
end
end V59

namespace V59
open PySem PySem.Spec PyProof.Rows L2 Pw
section
variable {P : Program} {w : World} {K : PySem.W.Frag} {mg : Str → Option Value} {base : Heap}
def spPoints (K : PySem.W.Frag) : Sp := fun vs H Q _ => ∃ (a : Addr) (xs : List V) (ps : List Pt), vs = [.ref a] ∧ Sq K H a xs ∧ Al fP H xs ps ∧ GoodPs ps ∧ ∀ H', Same H H' → Q .non H'
theorem d_points (T : Txt mg) (A : At K mg "check_points" sCheckPoints) (aLO : At K mg "is_list_of" sIsListOf) (dl : Def P w K mg base "is_list" 1 ["thing", "least", "most"] (spList K))
    (dP : Def P w K mg base "is_point_shape" 2 ["thing"] spPointS) (dO : Def P w K mg base "_check_each_once" 1 ["names"] (spOnce K)) :
    Def P w K mg base "check_points" 5 ["points"] (spPoints K) := by
  obtain ⟨f0, fd0, hm0, hk0, hb0, F0⟩ := dP.ex
  have dLO := d_listOf T aLO dl (F0.raw hb0 .nil) hk0
  refine mkDef A scCheckPoints (fun _ _ _ _ _ _ us hl => match us, hl with | [_], _ => rfl) (fun vs H Q E ⟨_, _, _, e, _⟩ => by rw [e]; rfl)
    (fun f cdv A out s H vs Q E hr h => ?_)
  obtain ⟨a, xs, ps, rfl, hs, al, g, k⟩ := h
  refine ⟨_, (pss_cons (ps_if (pt_not (pt_val (pe_d dLO hr (by decide) (by rfl) (pa_cons (pe_glob (v := V.ref f0) (by rfl) hm0 rfl) (pa_cons (pv 0) (pa_cons pe_int (pa_cons (pe_gi T.c_MOST_POINTS) pa_nil)))))))
      (pss_one ps_never)
      pss_nil)
    (pss_cons (ps_expr (pe_d dO hr (by decide) (by rfl) (pa_cons (pe_lc (own := [("name", 2), ("_", 3)]) (g := (gTup K 3 (gCons (gName 2) (gCons (gName 3) (gCons (gName 3) gNil))))) (tt := tYes) rfl scCheckPoints.nd (pi_sq (pv 0))
        (blkOk_by (own := [("name", 2), ("_", 3)]) (N := ["points", "many", "name", "_", "place"]) (sc := defScope sCheckPoints) (by decide +kernel))
        (fun _ _ _ _ _ => (pg_tup (by rfl) (pgs_cons (pg_name (i := 2) scCheckPoints.nd rfl (.inl rfl)) (pgs_cons (pg_name (i := 3) scCheckPoints.nd rfl (.inl rfl)) (pgs_cons (pg_name (i := 3) scCheckPoints.nd rfl (.inl rfl)) pgs_nil))))) (fun _ _ _ _ _ => pts_nil)
        (fun _ _ _ _ _ => (pv 2))) pa_nil)))
    (pss_cons (ps_set (i := 1) scCheckPoints.nd rfl (.inl rfl) (pe_callB call_lenSK (by rfl) T.len PySem.boot_len (pa_cons (pe_scK (own := [("_", 3), ("place", 4)]) (g := (gTup K 3 (gCons (gName 3) (gCons (gName 4) (gCons (gName 3) gNil))))) (tt := tYes) rfl scCheckPoints.nd (pi_sq (pv 0))
        (blkOk_by (own := [("_", 3), ("place", 4)]) (N := ["points", "many", "name", "_", "place"]) (sc := defScope sCheckPoints) (by decide +kernel))
        (fun _ _ _ _ _ => (pg_tup (by rfl) (pgs_cons (pg_name (i := 3) scCheckPoints.nd rfl (.inl rfl)) (pgs_cons (pg_name (i := 4) scCheckPoints.nd rfl (.inl rfl)) (pgs_cons (pg_name (i := 3) scCheckPoints.nd rfl (.inl rfl)) pgs_nil))))) (fun _ _ _ _ _ => pts_nil)
        (fun _ _ _ _ _ => (pv 4))) pa_nil)))
    (pss_one (ps_if (pt_cmpR op_gt (pv 1) (pe_gi T.c_MOST_PLACES) (nomark _))
      (pss_one ps_never)
      pss_nil))))), ?_⟩
  have hlen := al.length
  have h1 := g.pos
  have h8 := g.len
  refine ⟨_, rfl, a, xs, 1, 8, rfl, hs, by omega, by omega, by omega, fun v hv H1 Q1 S1 q1 => ?_, fun H1 S1 => ?_⟩
  · obtain ⟨i, hi, ei⟩ := List.getElem_of_mem hv
    obtain ⟨p, pt, rfl, hpt, ep⟩ := (al.same S1).get (List.getElem?_eq_some_iff.mpr ⟨hi, ei⟩)
    exact ⟨p, pt, rfl, ep, g.all pt (List.mem_of_getElem? hpt), q1⟩
  refine ⟨_, rfl, iteF ?_⟩
  -- the names
  refine ⟨_, rfl, a, xs, rfl, hs.same S1, fun J G hG wk D hD => ?_⟩
  refine lc_acc wk hD (by omega) (fun i acc H => acc = ((ps.take i).map (·.nm)).map V.str) rfl hG ?_ ?_
  · rintro i v H2 H3 acc hi S2 eD hl2 rfl ⟨rfl, hx⟩ Fy Fn hy1 _
    obtain ⟨p, pt, rfl, hpt, ep⟩ := (al.same (S1.trans S2)).get hx
    refine ⟨p, _, rfl, SqT.of ep, rfl, _, _, rfl, _, _, rfl, _, _, rfl, rfl, ?_⟩
    refine ⟨rfl, ?_⟩
    unfold tYes
    refine iteT ⟨_, rfl, hy1 _ _ (Same.refl _) ?_⟩
    rw [List.take_add_one, hpt, List.map_append, List.map_append]
    rfl
  rintro H2 acc S2 eD rfl
  rw [List.take_of_length_le (by omega)] at eD
  refine ⟨D, _, rfl, SqL.of eD, g.nd, by rw [List.length_map]; omega, fun H3 S3 => ?_⟩
  have S13 := S1.trans (S2.trans S3)
  -- the places
  obtain ⟨ws, hws, hin⟩ := g.few
  refine ⟨_, rfl, a, xs, rfl, hs.same S13, fun J G hG wk D2 hD2 => ?_⟩
  refine sc_it wk (fun i H => Same H3 H ∧ ∃ (S : Key → Bool) (us : List Str), H D2 = some (SetK P w D2 S us.length) ∧ us.Nodup ∧ (∀ u, S (.inr u) = true ↔ u ∈ us) ∧ ∀ u ∈ us, u ∈ ws) ?_ (fun i H _ h => hG H h.1) ?_ ?_
  · exact ⟨Same.laid hD2, _, [], upd_same, List.nodup_nil, fun u => by simp, fun u h => by cases h⟩
  · rintro i v H4 H5 hi ⟨S4, S, us, eD2, nd, hS, hu⟩ ⟨rfl, hx⟩
    obtain ⟨p, pt, rfl, hpt, ep⟩ := (al.same (S13.trans S4)).get hx
    refine ⟨p, _, rfl, SqT.of ep, rfl, _, _, rfl, _, _, rfl, _, _, rfl, rfl, ?_⟩
    refine ⟨rfl, ?_⟩
    unfold tYes
    have hus : us.length ≤ 3 := Nat.le_trans (List.Nodup.length_le_of_subset nd hu) hws
    have hsb : us.length + 1 < scanBound := by show us.length + 1 < 4096; omega
    refine iteT ⟨_, rfl, .inr pt.pl, S, us.length, rfl, eD2, hsb, Same.wo_upd S4 hD2, (fun j => S j || decide (j = .inr pt.pl)), if S (.inr pt.pl) = true then us else us ++ [pt.pl], ?_, ?_, ?_, ?_⟩
    · have en : (if S (.inr pt.pl) = true then us.length else us.length + 1) = (if S (.inr pt.pl) = true then us else us ++ [pt.pl]).length := by split <;> simp
      rw [upd_same]
      exact congrArg (fun n => some (SetK P w D2 (fun j => S j || decide (j = .inr pt.pl)) n)) en
    · split
      · exact nd
      · rename_i hn
        have : pt.pl ∉ us := fun z => hn ((hS _).mpr z)
        exact List.nodup_append.mpr ⟨nd, by simp, fun a ha b hb => by
          rw [List.mem_singleton.mp hb]
          intro z
          rw [z] at ha
          exact this ha⟩
    · intro u
      show (S (.inr u) || decide ((Sum.inr u : Key) = .inr pt.pl)) = true ↔ _
      rw [Bool.or_eq_true, decide_eq_true_eq, hS]
      split
      · rename_i hy
        refine ⟨fun z => z.elim id fun z => ?_, .inl⟩
        rw [Sum.inr.inj z]
        exact (hS _).mp hy
      · rw [List.mem_append, List.mem_singleton]
        exact or_congr Iff.rfl ⟨fun z => Sum.inr.inj z, fun z => by rw [z]⟩
    · intro u h
      have hp := hin pt (List.mem_of_getElem? hpt)
      split at h
      · exact hu u h
      · rcases List.mem_append.mp h with z | z
        · exact hu u z
        · rw [List.mem_singleton.mp z]; exact hp
  rintro H4 ⟨S4, S, us, eD2, nd, hS, hu⟩
  refine ⟨D2, S, us.length, rfl, eD2, ?_⟩
  have hus : us.length ≤ 3 := Nat.le_trans (List.Nodup.length_le_of_subset nd hu) hws
  refine ⟨_, rfl, (us.length : Int), 3, rfl, rfl, _, rfl, ?_⟩
  rw [decide_eq_false (show ¬ (us.length : Int) > 3 by omega)]
  exact iteF (k _ (S13.trans S4))
end
end V59

/-! Exceptions over ValueError, LookupError and KeyError: as values, and raised. -/
namespace Pw
open PySem
/-- what __init__ of a built-in error must be -/
structure IniF (B initId : String) : Prop where
  split : splitId initId = some (B, "__init__")
  kind : builtinKind initId = some .slot
  row : Manifest.signature? initId =
    some ⟨.positional, "*", B, .self, [⟨"args", .varPos, false⟩]⟩
  plain : plainId initId = true
  star : (B != "*") = true
  entry : entryFor table initId = some Builtin.«BaseException.__init__»
theorem iniV : IniF "ValueError" "ValueError.__init__" :=
  ⟨F.excBase_ValueError.initSplit, F.excBase_ValueError.initKind, F.excBase_ValueError.initRow, F.excBase_ValueError.init.plain, by decide, F.excBase_ValueError.initEntry⟩
theorem iniL : IniF "LookupError" "LookupError.__init__" :=
  ⟨F.excBase_LookupError.initSplit, F.excBase_LookupError.initKind, F.excBase_LookupError.initRow, F.excBase_LookupError.init.plain, by decide, F.excBase_LookupError.initEntry⟩
theorem iniK : IniF "KeyError" "KeyError.__init__" where
  split := by kernel_rfl
  kind := by kernel_rfl
  row := by kernel_rfl
  plain := by decide +kernel
  star := by decide
  entry := entryFor_alias (id' := "BaseException.__init__") (by rw [fastTable_eq_tree]; kernel_rfl)
    (by first | rfl | decide +kernel) (by decide +kernel)
    (by rw [fastTable_eq_tree]; kernel_rfl)
abbrev veT : List Value := [.type "ValueError", .type "Exception", .type "BaseException", .type "object"]
abbrev leT : List Value := [.type "LookupError", .type "Exception", .type "BaseException", .type "object"]
abbrev keT : List Value := [.type "KeyError", .type "LookupError", .type "Exception", .type "BaseException", .type "object"]
/-- the classes behind an own one, and the maker of its instances -/
structure Fit (newId : String) (bm : List Value) : Prop where
  maker : ∃ B i bmB, ExcBaseFacts B newId i bmB ∧ bm.contains (.type B) = true
  noA : bm.contains (.type "AttributeError") = false
  noN : bm.contains (.type "NameError") = false
  obj : bm.contains (.type "object") = true
  pass : ∀ self, refuseLoop self "__setattr__" bm = pure ()
theorem fitV : Fit "ValueError.__new__" veT :=
  ⟨⟨_, _, _, F.excBase_ValueError, by decide +kernel⟩, by decide +kernel, by decide +kernel, by decide +kernel, F.store_ValueError.passes⟩
theorem fitL : Fit "LookupError.__new__" leT :=
  ⟨⟨_, _, _, F.excBase_LookupError, by decide +kernel⟩, by decide +kernel, by decide +kernel, by decide +kernel, F.store_LookupError.passes⟩
theorem fitK : Fit "LookupError.__new__" keT :=
  ⟨⟨_, _, _, F.excBase_LookupError, by decide +kernel⟩, by decide +kernel, by decide +kernel, by decide +kernel, fun self => by kernel_rfl⟩
theorem Fit.up {newId : String} {bm : List Value} (c : Addr) (h : Fit newId bm) : Fit newId (.ref c :: bm) := by
  obtain ⟨B, i, bmB, F, hB⟩ := h.maker
  have e : ∀ X : String, (Value.ref c :: bm).contains (.type X) = bm.contains (.type X) := fun X => by
    rw [List.contains_cons]; rfl
  exact ⟨⟨B, i, bmB, F, (e B).trans hB⟩, (e _).trans h.noA, (e _).trans h.noN, (e _).trans h.obj, fun self => by
    rw [refuseLoop_ref]
    exact h.pass self⟩
end Pw

namespace Pw
open PySem PySem.Spec PyProof.Rows L2

/-! ### such a class is called -/
section
variable {prog : Program} {w : World} {A : Around} {R : Result → Shared → Prop} {h : Heap} {g : Array GenState}
  {d : Drawn} {t : Nat} {os : OsState} {nm q : Str} {C N : Addr} {bs bm bmB : List Value} {hdct : Bool} {sn : List Str}
  {sub : List Value} {ab : Bool} {col : Option Bool} {dd : Option Addr} {k0 k1 k2 k3 k5 : Option Value} {B newId initId : String} {kw : List (Str × Value)}

theorem new_checkF {M : Model} {E : Value → Shared → Prop} (F : ExcBaseFacts B newId initId bmB)
    (hB : (Value.ref C :: bm).contains (.type B) = true) {rest : List Value} {Q : Unit → Shared → Prop}
    (hC : h.get? C = some (excClassObj nm q C N bs bm hdct sn sub ab col dd k0 k1 k2 k3 k5 newId)) (hq : Q () ⟨h, g, d, t, os⟩) :
    wpAny M A (checkBuiltinCall newId ⟨.ref C :: rest, kw⟩) Q E ⟨h, g, d, t, os⟩ := by
  have star := F.noStar
  simp only [checkBuiltinCall, F.newKind, F.newSplit, F.newRow]
  repeat (first
    | refine wpAny_loadPart_at hC ?_
    | (refine wpAny_isSubtype_exc hC ?_; rw [hB])
    | refine wpAny_staticBase_exc hC ?_
    | refine wpAny_madeBy_exc hC ?_
    | simp only [bne_self_eq_false, Bool.false_eq_true, if_false]
    | wp_step)
  exact hq

theorem newF (F : ExcBaseFacts B newId initId bmB) (hB : (Value.ref C :: bm).contains (.type B) = true)
    (hA : (Value.ref C :: bm).contains (.type "AttributeError") = false)
    (hN : (Value.ref C :: bm).contains (.type "NameError") = false) {rest : List Value}
    (hC : h.get? C = some (excClassObj nm q C N bs bm hdct sn sub ab col dd k0 k1 k2 k3 k5 newId))
    (hq : R (.ok (.ret (.ref (h.objs.size + 1)))) ⟨(h.push (PySem.W.kdv_tup rest)).push (exOb C none h.objs.size), g, d, t, os⟩)
    (hrest : rest.length ≤ sizeLine) :
    codeAny (model prog w) A (.builtin newId ⟨.ref C :: rest, kw⟩) R ⟨h, g, d, t, os⟩ := by
  have ends := F.ends
  refine codeAny_builtinAt F.entry ?_
  unfold Builtin.«BaseException.__new__»
  refine PySem.wpAt_bind ?_
  show PySem.wpAt _ _ _ (stack >>= _) _ _ _
  refine PySem.wpAt_bind (PySem.wpAt_stack fun p below => PySem.wpAt_of_wpAny ?_)
  wp_walk
  refine PySem.wpAt_of_wpAny ?_
  rw [F.owner]
  repeat (first
    | with_reducible refine wpAny_madeHere_exc F.canon hC ?_
    | with_reducible refine wpAny_loadPart_at hC ?_
    | (with_reducible refine wpAny_isSubtype_exc hC ?_; first | rw [hB] | rw [hA] | rw [hN])
    | wp_step)
  show R _ _
  rw [Heap.size_push]
  exact hq

theorem type_callF {E : Value → Shared → Prop} (F : ExcBaseFacts B newId initId bmB) (hB : (Value.ref C :: bm).contains (.type B) = true)
    (hA : (Value.ref C :: bm).contains (.type "AttributeError") = false)
    (hN : (Value.ref C :: bm).contains (.type "NameError") = false) {rest : List Value} {fI : Addr} {Q : Fin → Shared → Prop}
    (hC : h.get? C = some (excClassObj nm q C N bs bm hdct sn sub ab col dd k0 k1 k2 k3 k5 newId))
    (hi : PySem.W.Looks (model prog w) h (typeLookup (.ref C) "__init__") (some (.ref fI)))
    (hb : ∀ self, PySem.W.Looks (model prog w) h (bindSpecial (.ref fI) self) (.ref fI, [self])) (hrest : rest.length ≤ sizeLine)
    (hq : codeAny (model prog w) A (.call (.ref fI) ⟨.ref (h.objs.size + 1) :: rest, kw⟩)
      (fun r s' => match r with
        | .ok (.ret v) => v = .none ∧ Q (.done (.ret (.ref (h.objs.size + 1)))) s'
        | .ok _ => False
        | .error e => E e s')
      ⟨(h.push (PySem.W.kdv_tup rest)).push (exOb C none h.objs.size), g, d, t, os⟩) :
    wpAny (model prog w) A (Builtin.«type.__call__» ⟨.ref C :: rest, kw⟩) Q E ⟨h, g, d, t, os⟩ := by
  repeat (first
    | with_reducible refine wpAny_loadPart_at hC ?_
    | with_reducible refine wpAny_madeBy_exc hC ?_
    | wp_step)
  refine codeAny_call_builtin_code (Code.quiet_builtin _ F.quiet) (new_checkF F hB hC ?_)
  refine newF F hB hA hN hC ?_ hrest
  show wpAny _ _ _ _ _ _
  have k : ∀ b o, h.get? b = some o → ((h.push (PySem.W.kdv_tup rest)).push (exOb C none h.objs.size)).get? b = some o :=
    fun b o e => Heap.get?_push_of_some _ (Heap.get?_push_of_some _ e)
  have hC1 := k _ _ hC
  have hget : ((h.push (PySem.W.kdv_tup rest)).push (exOb C none h.objs.size)).get? (h.objs.size + 1) =
    some (exOb C none h.objs.size) := by heap_get
  have hcC : (Value.ref C :: bm).contains (.ref C) = true := by simp
  have i1 := hi.keeps k
  have b1 := (hb (.ref (h.objs.size + 1))).keeps k
  unfold isInstance
  repeat (first
    | with_reducible refine wpAny_loadPart_at hget ?_
    | (with_reducible refine wpAny_isSubtype_exc hC1 ?_; rw [hcC])
    | wp_step)
  show wpAny _ _ (typeLookup (.ref C) _) _ _ _
  refine i1.at (wpAny_holding (wpAny_bind (b1.at ?_)))
  refine wpAny_bind (wpAny_call (codeAny_mono hq fun r s' z => ?_))
  match r, z with
  | .error e, z => exact z
  | .ok (.ret v), ⟨hv, z⟩ =>
    subst hv
    first
      | exact wpAny_pure (wpAny_pure z)
      | (wp_walk; exact z)
  | .ok .next, z => exact z.elim
  | .ok .brk, z => exact z.elim
  | .ok .cont, z => exact z.elim

theorem call_ownF (F : ExcBaseFacts B newId initId bmB) (hB : (Value.ref C :: bm).contains (.type B) = true)
    (hA : (Value.ref C :: bm).contains (.type "AttributeError") = false)
    (hN : (Value.ref C :: bm).contains (.type "NameError") = false) {rest : List Value} {fI : Addr}
    (hC : h.get? C = some (excClassObj nm q C N bs bm hdct sn sub ab col dd k0 k1 k2 k3 k5 newId))
    (hi : PySem.W.Looks (model prog w) h (typeLookup (.ref C) "__init__") (some (.ref fI)))
    (hb : ∀ self, PySem.W.Looks (model prog w) h (bindSpecial (.ref fI) self) (.ref fI, [self])) (hrest : rest.length ≤ sizeLine)
    (hq : codeAny (model prog w) (A.under (.builtin "type.__call__" ⟨.ref C :: rest, kw⟩))
      (.call (.ref fI) ⟨.ref (h.objs.size + 1) :: rest, kw⟩) (PySem.W.InitBack (h.objs.size + 1) R)
      ⟨(h.push (PySem.W.kdv_tup rest)).push (exOb C none h.objs.size), g, d, t, os⟩) :
    codeAny (model prog w) A (.call (.ref C) ⟨rest, kw⟩) R ⟨h, g, d, t, os⟩ := by
  have f1 := tc_lookup
  have f2 := tc_bind (.ref C)
  have hTy : (⟨h, g, d, t, os⟩ : Shared).TypeIs (.ref C) "type" := ⟨_, hC, rfl⟩
  refine codeAny_of_tree ?_
  show wpAny _ _ (callAny (.ref C) _) _ _ _
  repeat (any_goals (first
    | assumption
    | with_reducible refine wpAny_loadPart_at hC ?_
    | wp_step))
  refine ⟨rfl, ?_⟩
  refine codeAny_call_builtin_at (Code.quiet_builtin _ (by decide +kernel)) entry_typeCall
    (wpAny_check_type_call_sub hC (type_callF F hB hA hN hC hi hb hrest ?_))
  refine codeAny_mono hq fun r s' z => ?_
  match r, z with
  | .error e, z => exact z
  | .ok (.ret v), z => exact z
  | .ok .next, z => exact z
  | .ok .brk, z => exact z
  | .ok .cont, z => exact z

/-- B.__init__(e, ..): the args are laid anew -/
theorem init_argsF (I : IniF B initId) (hB : (Value.ref C :: bm).contains (.type B) = true) {e t0 : Addr} {rest : List Value}
    (hC : h.get? C = some (excClassObj nm q C N bs bm hdct sn sub ab col dd k0 k1 k2 k3 k5 newId))
    (he : h.get? e = some (exOb C none t0)) (hrest : rest.length ≤ sizeLine)
    (hq : ∀ h' t1, h.objs.size ≤ t1 → (∀ b o, b ≠ e → h.get? b = some o → h'.get? b = some o) →
      h'.get? e = some (exOb C none t1) → h'.get? t1 = some (PySem.W.kdv_tup rest) →
      R (.ok (.ret .none)) ⟨h', g, d, t, os⟩) :
    codeAny (model prog w) A (.call (.builtin initId) ⟨.ref e :: rest, []⟩) R ⟨h, g, d, t, os⟩ := by
  refine codeAny_call_builtin I.plain I.entry ?_
  simp only [checkBuiltinCall, I.kind, I.split, I.row]
  have star := I.star
  repeat (first
    | with_reducible refine wpAny_loadPart_at he ?_
    | with_reducible refine wpAny_loadPart_at hC ?_
    | (with_reducible refine wpAny_isSubtype_exc hC ?_; rw [hB])
    | wp_step)
  refine wpAny_onRaise ?_
  have chk : ∀ (a b : String) (n : Nat), Bind.check ⟨.positional, "*", B, .self, [⟨"args", .varPos, false⟩]⟩ a b n
      (List.map (fun x => x.fst) ({ pos := Value.ref e :: rest } : Args).kw) = pure () :=
    fun a b n => check_star_args _ _ _ _ _ _
  rw [chk]
  refine wpAny_pure ?_
  have hes : e ≠ h.objs.size := Nat.ne_of_lt (Heap.lt_size he)
  wp_walk
  refine hq _ h.objs.size (Nat.le_refl _) (fun b o hb ho => ?_) ?_ ?_
  · exact (Heap.get?_update_other _ _ (Ne.symm hb)).trans (Heap.get?_push_of_some _ ho)
  · exact (Heap.get?_update_self _ (Heap.get?_push_of_some _ he) rfl).trans rfl
  · exact (Heap.get?_update_other _ _ hes).trans (Heap.get?_push_size _ rfl)
end
end Pw

/-! Exceptions of one's own over any of the three bases: stored in, made, read. -/
namespace Pw
open PySem PySem.Spec PyProof.Rows L2

/-- what the written part says of the class at C -/
structure OexF (K : PySem.W.Frag) (C : Addr) : Prop where
  cls : ∃ newId nm q N bs bm sn sub ab col dd k0 k1 k2 k3 k5,
    K.lookup C = some (excClassObj nm q C N bs bm true sn sub ab col dd k0 k1 k2 k3 k5 newId) ∧ Fit newId (.ref C :: bm)
  sa : PySem.W.findIn K (.ref C) "__setattr__" = some (some (.builtin "object.__setattr__"))
  exC : PySem.W.subIn K (.ref C) (.type "BaseException") = some true
  tyC : PySem.W.typeIn K (.ref C) = some (.type "type")
  kC : PySem.W.keepIn K (.ref C) = true

section
variable {prog : Program} {w : World} {A : Around} {R : Result → Shared → Prop} {hp : Heap} {g : Array GenState}
  {d : Drawn} {t : Nat} {os : OsState}
open PySem.Builtin PySem.Builtin.ObjectAttr in
/-- object.__setattr__ on an exception that has no dict yet -/
theorem osaF {K : PySem.W.Frag} {name : Str} {tk : Tok} {v : Value} {x C : Addr} {fv : Array Value} {cd : ClassData}
    (X : K.In hp) (hx : hp.get? x = some { cls := .ref C, data := .fields fv })
    (hcd : PySem.W.clsIn K C = some cd) (hne : cd.mro.isEmpty = false) (hob : cd.mro.contains (.type "object") = true)
    (hps : ∀ self, refuseLoop self "__setattr__" cd.mro = pure ()) (hh : cd.hasDict = true)
    (ha : PySem.W.findIn K (.ref C) name = some none)
    (hq : ∀ h' tk' dx, (∀ b o, b ≠ x → hp.get? b = some o → h'.get? b = some o) → hp.objs.size ≤ dx → dx ≠ x →
      h'.get? x = some { cls := .ref C, dict := some dx, data := .fields fv } →
      h'.Ns1 dx (fun y => if y = name then some v else none) → R (.ok (.ret .none)) ⟨h', g, d, tk', os⟩) :
    codeAny (model prog w) A (.call (.builtin "object.__setattr__") ⟨[.ref x, .str name tk, v], []⟩) R ⟨hp, g, d, t, os⟩ := by
  have I : PySem.W.InstAt hp x { cls := .ref C, data := .fields fv } C none := ⟨hx, rfl, rfl, trivial⟩
  have SF := F.store_object
  have hxs : x ≠ hp.objs.size := Nat.ne_of_lt (Heap.lt_size hx)
  have mo : PySem.W.mroIn K C (.type "object") = some true := by
    unfold PySem.W.mroIn
    rw [hcd, Option.bind_some, if_neg (by rw [hne]; decide), hob]
  have sub : PySem.W.Looks (model prog w) hp (isInstance (.ref x) (.type "object")) true :=
    I.type.andThen (PySem.W.looks_mroIn X mo)
  refine codeAny_call_builtin SF.slot.plain SF.entry ?_
  refine @PySem.W.check_slot (model prog w) _ _ ⟨hp, g, d, t, os⟩ "object.__setattr__" "object" "__setattr__" (.ref x)
    [.str name tk, v] [] _ SF.kind SF.split sub (SF.args (.ref x) (.str name tk) v) ?_
  have hmr : PySem.W.Looks (model prog w) hp (mroOf (.ref C)) cd.mro := (PySem.W.looks_clsIn X hcd).andThen .now
  have nt : PySem.W.Looks (model prog w) hp (storeTaker? none) none := .now
  have lc : PySem.W.Looks (model prog w) hp (classData C) cd := PySem.W.looks_clsIn X hcd
  rw [PySem.W.osa_eq, refuse_eq]
  refine wpAny_bind (wpAny_bind (I.type.at (wpAny_bind (hmr.at ?_))))
  rw [hps]
  refine wpAny_pure (wpAny_bind (I.type.at (wpAny_bind ((PySem.W.looks_findIn X ha).at (wpAny_bind (nt.at ?_))))))
  show wpAny _ _ (storeInOwnDict (.ref x) (.ref C) (.str name tk) name v false) _ _ _
  obtain ⟨nm, bs, mro, ns, qn, hd, sn, sb, ab, col, del⟩ := cd
  dsimp only at hh
  subst hh
  unfold storeInOwnDict ownDictForStores
  repeat (first
    | with_reducible refine PySem.HandSPX.store_in_new ?_ ?_
    | with_reducible refine wpAny_loadPart_at hx ?_
    | with_reducible refine lc.at ?_
    | wp_step)
  · exact ⟨_, #[], _, (Heap.get?_update_ne _ _ _ _ hxs.symm).trans (Heap.get?_push_at rfl rfl), rfl,
      fun e he => absurd he (by simp), fun _ => rfl⟩
  · intro h' tk' hn' hs
    have hx₁ : (hp.push { cls := .type "dict", data := .dict #[] }).get? x = some { cls := .ref C, data := .fields fv } :=
      Heap.get?_push_of_some _ hx
    refine hq h' tk' hp.objs.size (fun b o hb ho => ?_) (Nat.le_refl _) hxs.symm ?_ hn'
    · exact (hs.2 b (Nat.ne_of_lt (Heap.lt_size ho))).trans
        ((Heap.get?_update_ne _ _ _ _ hb).trans (Heap.get?_push_of_some _ ho))
    · exact (hs.2 x hxs).trans (Heap.get?_update_self _ hx₁ rfl)
end

section
variable {X : Cx} {pins : List (Addr × Obj)} {σ : L2.St} {H : Hp} {s : Shared} {a C t1 : Addr} {f : Str} {y : V}
  {u : Value} {E : Value → Shared → Prop} {A : Around}

/-- self.f = y, the first attribute -/
theorem eq_newF {Q : Unit → Shared → Prop} (T : OexF X.K C) (I : Inv X pins σ H s) (e : H a = some (exq a C none t1))
    (hno : PySem.W.findIn X.K (.ref C) f = some none) (ry : RelV y u)
    (h : ∀ dx s', H dx = none → dx ≠ a →
      Inv X pins σ (upd (upd H dx (exd dx [(f, y)])) a (exq a C (some dx) t1)) s' → Q () s') :
    wpAny (model X.prog X.w) A (setAttr (.ref a) f u) Q E s := by
  obtain ⟨newId, nm, q, N, bs, bm, sn, sub, ab, col, dd, k0, k1, k2, k3, k5, hC, ft⟩ := T.cls
  have hcl : PySem.W.clsIn X.K C = some { name := nm, bases := bs, mro := .ref C :: bm, ns := N, qualname := q, hasDict := true, slotNames := sn, subclasses := sub, abstract := ab, collection := col, hasDel := false } := by
    unfold PySem.W.clsIn
    rw [hC] <;> rfl
  have ho := exq_at I.hok e
  obtain ⟨hp, g, d, t, os⟩ := s
  refine PySem.W.set_plain I.kIn (ox := exOb C none t1) (od := none) ⟨ho, rfl, rfl, trivial⟩ T.sa ?_
  refine osaF I.kIn ho hcl rfl ft.obj ft.pass rfl hno (fun h' tk' dx k dn dne hx hn => ?_)
  have hnd : H dx = none := I.hok.fresh dn
  have nd : ∀ {b : Addr} {o : Obj}, hp.get? b = some o → b ≠ dx :=
    fun {b o} q => Nat.ne_of_lt (Nat.lt_of_lt_of_le (Heap.lt_size q) dn)
  have na : ∀ {b : Addr}, H b = none → b ≠ a := fun {b} n z => by rw [z, e] at n; cases n
  have Un1 : Un X.fs [] H (upd (upd H dx (exd dx [(f, y)])) a (exq a C (some dx) t1)) hp h' := {
    keep := fun b o q n _ _ => k b o (na n) q
    slot := fun b o q n _ _ => ⟨o.slots, k b o (na n) q⟩
    free := fun b o q n _ => ((upd_ne (na n)).trans (upd_ne (nd q))).trans n
    there := fun b o q _ => by
      by_cases hb : b = a
      · exact ⟨_, hb ▸ hx⟩
      · exact ⟨o, k b o hb q⟩
    tups := fun b xs q => ((upd_ne (at_ne e q exq_tup)).trans (upd_ne (ne_of_none q hnd))).trans q
    frzs := fun b o v q => ((upd_ne (at_ne e q exq_frz)).trans (upd_ne (ne_of_none q hnd))).trans q
    tbls := fun b ps q => ⟨#[], by rw [upd_ne (at_ne e q exq_tbl), upd_ne (ne_of_none q hnd), q]; simp⟩ }
  refine h dx _ hnd dne (I.un (t' := tk') Un1 fun b o q => ?_)
  by_cases hb : b = a
  · subst hb
    cases upd_same.symm.trans q
    exact exq_ok hx
  · rw [upd_ne hb] at q
    by_cases hd : b = dx
    · subst hd
      cases upd_same.symm.trans q
      exact exd_ok hn (relO_put (fs := []) ry fun g => True.intro)
    · rw [upd_ne hd] at q
      refine (I.hok b o q).stay (fun c v hc z => k c v ?_ z)
        (fun c hc => ((upd_ne (at_ne e hc exq_own)).trans (upd_ne (ne_of_none hc hnd))).trans hc)
        (fun c xs hc => ((upd_ne (at_ne e hc exq_tup)).trans (upd_ne (ne_of_none hc hnd))).trans hc)
      rcases hc with hc | hc
      · exact hc ▸ hb
      · exact at_ne e hc exq_own

/-- what the class stands above, from its own list -/
theorem has_of {K : PySem.W.Frag} {newId : String} {nm q : Str} {N : Addr} {bs bm : List Value} {sn : List Str}
    {sub : List Value} {ab : Bool} {col : Option Bool} {dd : Option Addr} {k0 k1 k2 k3 k5 : Option Value} {T : Value}
    (hC : K.lookup C = some (excClassObj nm q C N bs bm true sn sub ab col dd k0 k1 k2 k3 k5 newId))
    (m : PySem.W.mroIn K C T = some true) : (Value.ref C :: bm).contains T = true := by
  have hcl : PySem.W.clsIn K C = some { name := nm, bases := bs, mro := .ref C :: bm, ns := N, qualname := q, hasDict := true, slotNames := sn, subclasses := sub, abstract := ab, collection := col, hasDel := false } := by
    unfold PySem.W.clsIn
    rw [hC] <;> rfl
  unfold PySem.W.mroIn at m
  rw [hcl, Option.bind_some, if_neg (by show ¬ (false = true); decide)] at m
  exact Option.some.inj m

theorem eq_initF {B initId : String} {us : List Value} {ws : List V} {Q : Value → Shared → Prop} (J : IniF B initId)
    (T : OexF X.K C) (hB : PySem.W.mroIn X.K C (.type B) = some true) (I : Inv X pins σ H s)
    (e : H a = some (exq a C none t1)) (hl : us.length ≤ sizeLine) (rw' : Vals ws us)
    (h : ∀ t2 s', H t2 = none → t2 ≠ a → Inv X pins σ (upd (upd H t2 (.tup ws)) a (exq a C none t2)) s' → Q .none s') :
    wpAny (model X.prog X.w) A (call (.builtin initId) (.ref a :: us)) Q E s := by
  obtain ⟨newId, nm, q, N, bs, bm, sn, sub, ab, col, dd, k0, k1, k2, k3, k5, hC, ft⟩ := T.cls
  have ho := exq_at I.hok e
  obtain ⟨hp, g, d, t, os⟩ := s
  refine wpAny_call (init_argsF J (has_of hC hB) (I.kIn _ _ hC) ho hl fun h' t2 hsz k hx ht => ?_)
  have nt : H t2 = none := I.hok.fresh hsz
  have nea : t2 ≠ a := (ne_of_none e nt).symm
  have na : ∀ {b : Addr}, H b = none → b ≠ a := fun {b} n z => by rw [z, e] at n; cases n
  have nd : ∀ {b : Addr} {o : Obj}, hp.get? b = some o → b ≠ t2 :=
    fun {b o} q => Nat.ne_of_lt (Nat.lt_of_lt_of_le (Heap.lt_size q) hsz)
  have Un1 : Un X.fs [] H (upd (upd H t2 (.tup ws)) a (exq a C none t2)) hp h' := {
    keep := fun b o q n _ _ => k b o (na n) q
    slot := fun b o q n _ _ => ⟨o.slots, k b o (na n) q⟩
    free := fun b o q n _ => ((upd_ne (na n)).trans (upd_ne (nd q))).trans n
    there := fun b o q _ => by
      by_cases hb : b = a
      · exact ⟨_, hb ▸ hx⟩
      · exact ⟨o, k b o hb q⟩
    tups := fun b xs q => ((upd_ne (at_ne e q exq_tup)).trans (upd_ne (ne_of_none q nt))).trans q
    frzs := fun b o v q => ((upd_ne (at_ne e q exq_frz)).trans (upd_ne (ne_of_none q nt))).trans q
    tbls := fun b ps q => ⟨#[], by rw [upd_ne (at_ne e q exq_tbl), upd_ne (ne_of_none q nt), q]; simp⟩ }
  refine h t2 _ nt nea (I.un (t' := t) Un1 fun b o q => ?_)
  by_cases hb : b = a
  · subst hb
    cases upd_same.symm.trans q
    exact exq_ok hx
  · rw [upd_ne hb] at q
    by_cases hd : b = t2
    · subst hd
      cases upd_same.symm.trans q
      exact ⟨by rw [Paired.length rw']; exact hl, us, rw', _, ht, rfl, _, rfl⟩
    · rw [upd_ne hd] at q
      refine (I.hok b o q).stay (fun c v hc z => k c v ?_ z)
        (fun c hc => ((upd_ne (at_ne e hc exq_own)).trans (upd_ne (ne_of_none hc nt))).trans hc)
        (fun c xs hc => ((upd_ne (at_ne e hc exq_tup)).trans (upd_ne (ne_of_none hc nt))).trans hc)
      rcases hc with hc | hc
      · exact hc ▸ hb
      · exact at_ne e hc exq_own
end

/-! ### the rules -/
/-- B.__init__(self, ..) -/
def tBeq (K : PySem.W.Frag) (B : String) (ta : TA) : TE := fun σ H Q => ta σ H fun vs H1 =>
  ∃ (a C t0 : Addr) (ws : List V), vs = .ref a :: ws ∧ ws.length ≤ 1000 ∧ OexF K C ∧
    PySem.W.mroIn K C (.type B) = some true ∧ H1 a = some (exq a C none t0) ∧
    ∀ t2, H1 t2 = none → t2 ≠ a → Q .non (upd (upd H1 t2 (.tup ws)) a (exq a C none t2))
/-- self.f = e, the first attribute -/
def tEstF (K : PySem.W.Frag) (f : Str) (to te : TE) : TS := fun D σ H => te σ H fun y H1 => to σ H1 fun x H2 =>
  ∃ a C t1 : Addr, x = .ref a ∧ OexF K C ∧ PySem.W.findIn K (.ref C) f = some none ∧ H2 a = some (exq a C none t1) ∧
    ∀ dx, H2 dx = none → dx ≠ a → D.nx σ (upd (upd H2 dx (exd dx [(f, y)])) a (exq a C (some dx) t1))
/-- the names of the three bases as the text reads them -/
structure BaseNm (B : String) (x : Str) (initId : String) : Prop where
  ini : IniF B initId
  boot : bootBuiltins x = some (.type B)
  typ : typeOf (.type B) = pure (.type "type")
  stub : Manifest.isStub B = false
  hand : PySem.W.handedIn (.builtin initId) = true
  dbg : (x == ("__debug__" : Str)) = false
  nme : x ≠ "__name__"
theorem nmV : BaseNm "ValueError" "ValueError" "ValueError.__init__" :=
  ⟨iniV, PyProof.Rows.Boot.«ValueError», by kernel_rfl, by decide +kernel, by decide +kernel, by decide, by decide⟩
theorem nmL : BaseNm "LookupError" "LookupError" "LookupError.__init__" :=
  ⟨iniL, by kernel_rfl, by kernel_rfl, by decide +kernel, by decide +kernel, by decide, by decide⟩
theorem nmK : BaseNm "KeyError" "KeyError" "KeyError.__init__" :=
  ⟨iniK, by kernel_rfl, by kernel_rfl, by decide +kernel, by decide +kernel, by decide, by decide⟩

section
variable {X : Cx} {o e : Expr} {es : List Expr} {to te : TE} {ta : TA} {f : Str} {p p' p1 p2 pos : Pos}
theorem pe_beq {B initId : String} {x : Str} {pl : Sem Bool} (N : BaseNm B x initId) (hg : Gl X x) (hm : X.mg x = none)
    (vV : PySem.W.findCls X.K (.type B) (.type "type") "__init__" = some (.val (.builtin initId)))
    (ha : PA X (e :: es) ta)
    (hc : eval (.Call (.Attribute (.Name x p1) "__init__" p2) (e :: es) [] pos) X.env = (do
      let ov ← eval (.Name x p1) X.env
      standAt p2.atName
      let (f, first) ← holding [ov] (getMethod ov "__init__" pl)
      callWith pos f first (backTo pos (starEach (e :: es) X.env)) (backToKw pos (keywordEach [] X.env))) := by rfl)
    (he : starEach (e :: es) X.env = (false, eval e X.env) :: starEach es X.env := by rfl)
    (hpl : (backTo pos (starEach es X.env)).any (·.1) = false := by rfl) :
    PE X (.Call (.Attribute (.Name x p1) "__init__" p2) (e :: es) [] pos) (tBeq X.K B ta) := by
  refine ⟨fun pins s σ H Q I h => ?_⟩
  refine PySem.W.methodCall_KW (ld_blt I hg hm N.boot ?_ N.nme N.dbg) hc
  obtain ⟨m, fr⟩ := I.fr
  refine PySem.W.method_type fr I.ok.mod.kin N.typ N.stub vV N.hand ?_
  refine PyProof.Rows.callWith_method1 (first := []) (thn (ha.run pos pins _ σ H _ (I.tok _) h)
    fun us s1 ⟨vs, H1, I1, r1, a, C, t0, ws, ev, hl, T, hB, ea, q⟩ => ?_) he hpl
  subst ev
  cases r1 with
  | @cons _ u0 _ ur ra rw' =>
    obtain rfl : u0 = Value.ref a := ra
    have hlen : ur.length ≤ sizeLine := by
      rw [← Paired.length rw', sizeLine_eq]
      omega
    exact eq_initF N.ini T hB I1 ea hlen rw' fun t2 s' n1 n2 J => ⟨.non, _, J, rfl, q t2 n1 n2⟩

theorem ps_estF (ho : PE X o to) (he : PE X e te)
    (hs : swapsWith e (some (.Attribute o f p')) pos.line X.env = pure false := by rfl) :
    PS X (.Assign [.Attribute o f p'] e pos) (tEstF X.K f to te) := by
  refine ⟨fun pins s σ H D I h => ?_⟩
  refine plainObj_wpAny_Assign_Attribute (thn (he.run pins s σ H _ I h) fun v s1 ⟨y, H1, I1, r1, q1⟩ =>
    thn (ho.run pins s1 σ H1 _ I1 q1) fun u s2 ⟨x, H2, I2, r2, a, C, t1, ex, T, hno, ea, q⟩ => ?_) hs
  subst ex
  obtain rfl : u = Value.ref a := r2
  exact eq_newF T I2 ea hno r1 fun dx s' n ne J => ⟨σ, _, J, q dx n ne⟩

/-- the class called, its own __init__ keeping sp: us by place, kw by name; as: what its __init__ binds behind self -/
theorem own_call {pins : List (Addr × Obj)} {σ : L2.St} {H1 : Hp} {s1 : Shared} {C fI : Addr} {k : Nat} {CX : CXT} {fd : FuncData}
    {ps : List Str} {sp : Sp} {us as : List Value} {kw : List (Str × Value)} {vs avs : List V} {Q : VK} (T : OexF X.K C)
    (iC : PySem.W.findIn X.K (.ref C) "__init__" = some (some (.ref fI)))
    (tI : PySem.W.typeIn X.K (.ref fI) = some (.type "function"))
    (F1 : FnOk X.prog X.w X.K X.mg X.base CX k fI fd ps sp) (hr : Room (k + 1) X.A)
    (hb : ∀ (s : Shared) (self : Value), X.K.In s.heap → (self :: as).length = ps.length →
      BindsTo s fd ⟨self :: us, kw⟩ (ps.zip (self :: as)))
    (hx : Passes CX X (fun _ _ _ => False)) (I1 : Inv X pins σ H1 s1) (r1 : Vals vs us) (r2 : Vals avs as)
    (hz : vs.length ≤ 1000)
    (q1 : ∀ t0 a, H1 t0 = none → H1 a = none → t0 ≠ a →
      sp (.ref a :: avs) (upd (upd H1 t0 (.tup vs)) a (exq a C none t0))
        (fun v H2 => v = .non ∧ Q (.ref a) H2) (fun _ _ _ => False)) :
    wpAny (model X.prog X.w) X.A (call (.ref C) us kw) (EP X pins σ Q) X.xe s1 := by
  obtain ⟨newId, nm, q, N, bs, bm, sn, sub, ab, col, dd, k0, k1, k2, k3, k5, hC, ft⟩ := T.cls
  obtain ⟨B, i, bmB, EF, hB⟩ := ft.maker
  obtain ⟨hp, g, dr, tk, os⟩ := s1
  have n0 : H1 hp.objs.size = none := I1.hok.fresh (Nat.le_refl _)
  have n1 : H1 (hp.objs.size + 1) = none := I1.hok.fresh (Nat.le_succ _)
  have hne : hp.objs.size ≠ hp.objs.size + 1 := Nat.ne_of_lt (Nat.lt_succ_self _)
  have hq := q1 hp.objs.size (hp.objs.size + 1) n0 n1 hne
  have hus : us.length ≤ sizeLine := by
    rw [← Paired.length r1, sizeLine_eq]
    omega
  have I2 : Inv X pins σ (upd H1 hp.objs.size (.tup vs)) ⟨hp.push (PySem.W.kdv_tup us), g, dr, tk, os⟩ :=
    I1.laid (t' := tk) (a := hp.objs.size) (o := .tup vs) (h' := hp.push (PySem.W.kdv_tup us))
      (fun b o z => Heap.get?_push_of_some _ z) (Nat.le_refl _)
      ⟨by rw [Paired.length r1]; exact hus, us, r1, _, Heap.get?_push_size _ rfl, rfl, _, rfl⟩
  have hget : ((hp.push (PySem.W.kdv_tup us)).push (exOb C none hp.objs.size)).get? (hp.objs.size + 1) =
      some (exOb C none hp.objs.size) := by heap_get
  have hsz2 : (hp.push (PySem.W.kdv_tup us)).objs.size ≤ hp.objs.size + 1 := by
    simp [Heap.push]
  have I3 : Inv X pins σ (upd (upd H1 hp.objs.size (.tup vs)) (hp.objs.size + 1) (exq (hp.objs.size + 1) C none hp.objs.size))
      ⟨(hp.push (PySem.W.kdv_tup us)).push (exOb C none hp.objs.size), g, dr, tk, os⟩ :=
    I2.laid (t' := tk) (a := hp.objs.size + 1) (o := exq (hp.objs.size + 1) C none hp.objs.size)
      (h' := (hp.push (PySem.W.kdv_tup us)).push (exOb C none hp.objs.size))
      (fun b o z => Heap.get?_push_of_some _ z) hsz2 (exq_ok hget)
  have r3 : Vals (V.ref (hp.objs.size + 1) :: avs) (Value.ref (hp.objs.size + 1) :: as) := .cons rfl r2
  have hl : (Value.ref (hp.objs.size + 1) :: as).length = ps.length :=
    r3.length.symm.trans (F1.len _ _ _ _ hq)
  refine wpAny_call (call_ownF EF hB ft.noA ft.noN (I1.kIn _ _ hC) (PySem.W.looks_findIn I1.kIn iC)
    (fun self => PySem.W.bind_fn I1.kIn self tI) hus
    (codeAny_mono (F1.run _ X.stack _ _ ⟨Value.ref (hp.objs.size + 1) :: us, kw⟩
      (Value.ref (hp.objs.size + 1) :: as) _ _ (fun _ _ _ => False) (hr.make C us kw) (I3.env0.make C us kw)
      (hb _ (Value.ref (hp.objs.size + 1)) I3.kIn hl) r3 hq) fun r s' hq' => ?_))
  match r, hq' with
  | .error er, hq' => exact hx pins σ _ _ er s' I3 hq'
  | .ok (.ret u), hq' =>
    obtain ⟨v, H', I4, rv, ev, q3⟩ := I3.after hq'
    subst ev
    exact ⟨rv, ⟨V.ref (hp.objs.size + 1), H', I4, rfl, q3⟩⟩
  | .ok .next, hq' => exact False.elim hq'
  | .ok .brk, hq' => exact False.elim hq'
  | .ok .cont, hq' => exact False.elim hq'

/-- C(e, ..) -/
theorem pe_mkqF {x : Str} {C fI : Addr} {k : Nat} {CX : CXT} {fd : FuncData} {ps : List Str} {sp : Sp}
    {ds : List Value} {dvs : List V} (T : OexF X.K C)
    (iC : PySem.W.findIn X.K (.ref C) "__init__" = some (some (.ref fI)))
    (tI : PySem.W.typeIn X.K (.ref fI) = some (.type "function"))
    (F1 : FnOk X.prog X.w X.K X.mg X.base CX k fI fd ps sp) (hr : Room (k + 1) X.A) (hb : Binds X.K fd ps ds)
    (hd : Vals dvs ds) (hx : Passes CX X (fun _ _ _ => False)) (hg : Gl X x) (hm : X.mg x = some (.ref C))
    (ha : PA X (e :: es) ta) (hdb : (x == ("__debug__" : Str)) = false := by decide)
    (he : starEach (e :: es) X.env = (false, eval e X.env) :: starEach es X.env := by rfl)
    (hpl : (backTo pos (starEach es X.env)).any (·.1) = false := by rfl) :
    PE X (.Call (.Name x p) (e :: es) [] pos) (tMkq C sp dvs ta) := by
  refine ⟨fun pins s σ H Q I h => ?_⟩
  refine wpAny_Call_Name_kw (ld_glob I hg hm ?_ hdb)
  exact PySem.W.callWith_K (h₀ := X.base) I.ok.mod.kin T.kC
    (thn (ha.run pos pins s σ H _ I h) fun us s1 ⟨vs, H1, I1, r1, hz, q1⟩ =>
      ⟨I1.kIn, own_call T iC tI F1 hr (fun s self X hl => hb s (self :: us) X hl) hx I1 r1 (r1.append hd) hz q1⟩) he hpl

/-- C(f = e): by the name of its field -/
def tMkqK (C : Addr) (sp : Sp) (te : TE) : TE := fun σ H Q => tCons te tNil σ H fun zs H1 => ∃ v, zs = [v] ∧
  ∀ t0 a, H1 t0 = none → H1 a = none → t0 ≠ a →
    sp [.ref a, v] (upd (upd H1 t0 (.tup [])) a (exq a C none t0)) (fun v H2 => v = .non ∧ Q (.ref a) H2) (fun _ _ _ => False)
theorem pe_mkqK {x n self : Str} {C fI : Addr} {k : Nat} {CX : CXT} {fd : FuncData} {sp : Sp} {kp : Pos} (T : OexF X.K C)
    (iC : PySem.W.findIn X.K (.ref C) "__init__" = some (some (.ref fI)))
    (tI : PySem.W.typeIn X.K (.ref fI) = some (.type "function"))
    (F1 : FnOk X.prog X.w X.K X.mg X.base CX k fI fd [self, n] sp) (hr : Room (k + 1) X.A)
    (hb : ∀ (s : Shared) (a b : Value), X.K.In s.heap → BindsTo s fd ⟨[a], [(n, b)]⟩ [(self, a), (n, b)])
    (hx : Passes CX X (fun _ _ _ => False)) (hg : Gl X x) (hm : X.mg x = some (.ref C))
    (he : PE X e te) (hdb : (x == ("__debug__" : Str)) = false := by decide)
    (hall : (backToKw pos (keywordEach [⟨some n, e, kp⟩] X.env)).all (·.1.isSome) = true := by rfl)
    (hks : (backToKw pos (keywordEach [⟨some n, e, kp⟩] X.env)).filterMap (·.1) = [n] := by rfl)
    (hpl : ((backTo pos (starEach [] X.env)).any (·.1) || (backToKw pos (keywordEach [⟨some n, e, kp⟩] X.env)).any (·.1.isNone)) = false := by rfl) :
    PE X (.Call (.Name x p) [] [⟨some n, e, kp⟩] pos) (tMkqK C sp te) := by
  refine ⟨fun pins s σ H Q I h => ?_⟩
  refine wpAny_Call_Name_kw (ld_glob I hg hm ?_ hdb)
  refine PySem.W.callWith_KW0 (h₀ := X.base) I.ok.mod.kin T.kC hall ?_ hpl
  have P : PK X [⟨some n, e, kp⟩] (tCons te tNil) := pk_cons he pk_nil
  refine thn (P.run pos pins s σ H _ I h) fun ws s2 ⟨zs, H2, I2, rz, v, ev, q2⟩ => ⟨I2.kIn, ?_⟩
  subst ev
  obtain ⟨u, rfl, ru⟩ : ∃ u, ws = [u] ∧ RelV v u := by
    cases rz with
    | cons r1 r2 => cases r2; exact ⟨_, rfl, r1⟩
  rw [hks]
  exact own_call (us := []) (as := [u]) T iC tI F1 hr (fun s a X _ => hb s a u X) hx I2 .nil (.cons ru .nil) (Nat.zero_le _) q2

/-- e.f, the error at e with its dict -/
def tQget (K : PySem.W.Frag) (f : Str) (te : TE) : TE := fun σ H Q => te σ H fun x H1 =>
  ∃ (a C d t : Addr) (fs : List (Str × V)) (v : V), x = .ref a ∧ XfC K C ∧ PySem.W.findIn K (.ref C) f = some none ∧
    H1 a = some (exq a C (some d) t) ∧ H1 d = some (exd d fs) ∧ fs.lookup f = some v ∧ Q v H1
theorem pe_qget {te : TE} (he : PE X e te)
    (hb : attributeBase e f X.env (eval e X.env) = eval e X.env := by rfl) :
    PE X (.Attribute e f pos) (tQget X.K f te) := by
  refine ⟨fun pins s σ H Q I h => ?_⟩
  refine attr_of hb (thn (he.run pins s σ H _ I h) fun u s1 hh => ?_)
  obtain ⟨x, H1, I1, rx, a, C, dd, t, fs, v, rfl, T, hno, ea, ed, l, q⟩ := hh
  obtain rfl : u = Value.ref a := rx
  obtain ⟨mA, hns, hr⟩ := exd_at I1.hok ed
  obtain ⟨od, ho, hl⟩ := lookIn_ns hns
  obtain ⟨u, hu, ru⟩ := RelO.some_of (v := v) (o := mA f) (by rw [← l]; exact hr f)
  have J : PySem.W.InstAt s1.heap a (exOb C (some dd) t) C (some od) := ⟨exq_at I1.hok ea, rfl, rfl, ho⟩
  exact PySem.HandSPX.exc_get I1.kIn J T.ga T.gg T.exC (PySem.W.findObj_own T.hdC hno rfl (by rw [hl, hu])) (handed_of ru)
    ⟨v, H1, I1.tok _, ru, q⟩
end

/-! ### isinstance, the error may be without a dict -/
inductive TyE (K : PySem.W.Frag) (H : Hp) : V → Value → Prop where
  | base {x : V} {t : Value} (h : TyQ K H x t) : TyE K H x t
  | bare {a D t : Addr} (e : H a = some (exq a D none t)) (c : ExcC K D) : TyE K H (.ref a) (.ref D)
def rIsE2 (K : PySem.W.Frag) : List V → Hp → VK → Prop := fun xs H Q => ∃ (x c : V) (t u : Value) (b : Bool),
  xs = [x, c] ∧ ClsV c u ∧ TyE K H x t ∧ PySem.W.kitOne K t u = some b ∧ Q (.bl b) H
theorem call_ise {X : Cx} : CallR X (.builtin "isinstance") (rIsE2 X.K) := by
  intro pins s σ H xs us Q I r h
  obtain ⟨x, c, t, u, b, rfl, k, ty, e, q⟩ := h
  cases ty with
  | base ty => exact call_isa pins s σ H _ us Q I r ⟨x, c, t, u, b, rfl, k, ty, e, q⟩
  | bare ex C =>
    obtain ⟨u1, u2, rfl, r1, r2⟩ := vals2 r
    obtain rfl := k.eq r2
    obtain rfl : u1 = Value.ref _ := r1
    have ha := exq_at I.hok ex
    refine PySem.W.kia_one (PySem.W.handS_kitx_exc C.hg C.hk C.hs C.hd C.ha C.hn C.ht C.hm) I.kIn ⟨ha, rfl, rfl, trivial⟩ e (fun z => nomatch z)
      fun tk => ⟨.bl b, H, I.tok tk, rfl, q⟩
end Pw

/-! Such an error is raised: what was known of it as a value is let go, its dict stands as an error's dict. -/
namespace Pw
open PySem PySem.Spec PyProof.Rows L2
theorem exd_frz' {e : Addr} {fs : List (Str × V)} {o : Obj} {u : HO} : exd e fs ≠ .frz o u := fun z => by
  have z' : HO.ext _ = HO.frz o u := z
  cases z'
theorem exd_tbl' {e : Addr} {fs : List (Str × V)} {ps : Array Value} : exd e fs ≠ .tbl ps := fun z => by
  have z' : HO.ext _ = HO.tbl ps := z
  cases z'
section
variable {X : Cx} {pins : List (Addr × Obj)} {σ : L2.St} {H : Hp} {s : Shared}
theorem toXd {d : Addr} {fs : List (Str × V)} (I : Inv X pins σ H s) (ed : H d = some (exd d fs)) :
    Inv X pins σ (upd H d (.xd fs)) s := by
  have nd : ∀ {b : Addr}, H b = none → b ≠ d := fun {b} n z => by rw [z, ed] at n; cases n
  have U : Un X.fs [] H (upd H d (.xd fs)) s.heap s.heap := {
    keep := fun b o q n _ _ => q
    slot := fun b o q n _ _ => ⟨o.slots, q⟩
    free := fun b o q n _ => (upd_ne (nd n)).trans n
    there := fun b o q _ => ⟨o, q⟩
    tups := fun b xs q => (upd_ne (at_ne ed q exd_tup)).trans q
    frzs := fun b o v q => (upd_ne (at_ne ed q exd_frz')).trans q
    tbls := fun b ps q => ⟨#[], by rw [upd_ne (at_ne ed q exd_tbl'), q]; simp⟩ }
  have hk : HOk X.prog X.w (upd H d (.xd fs)) s.heap := fun b o q => by
    by_cases hb : b = d
    · subst hb
      cases upd_same.symm.trans q
      exact exd_at I.hok ed
    · rw [upd_ne hb] at q
      exact (I.hok b o q).stay (fun c v _ z => z) (fun c hc => (upd_ne (at_ne ed hc exd_own)).trans hc)
        (fun c xs hc => (upd_ne (at_ne ed hc exd_tup)).trans hc)
  exact I.un (t' := s.toks) U hk
/-- what is asked where such an error is raised -/
def tRq (H0 : Hp) (K0 : PySem.W.Frag) (te : TE) : L2.St → Hp → XK → Prop := fun σ H Q => te σ H fun x H1 => ∃ a C t : Addr, x = .ref a ∧ Fr0 H0 a ∧
  PySem.W.subIn K0 (.ref C) (.type "BaseException") = some true ∧ PySem.W.typeIn K0 (.ref C) = some (.type "type") ∧ ((H1 a = some (exq a C none t) ∧ Q (.ref C) none (delH H1 a)) ∨
    ∃ (d : Addr) (fs : List (Str × V)), d ≠ a ∧ H1 a = some (exq a C (some d) t) ∧ H1 d = some (exd d fs) ∧
      Q (.ref C) (some d) (upd (delH H1 a) d (.xd fs)))
theorem pmk_q {e : Expr} {te : TE} {H0 : Hp} {K0 : PySem.W.Frag} (hH : X.H_0 = H0) (hK : X.K = K0) (hx : X.ex = []) (he : PE X e te) : PMk X e (tRq H0 K0 te) := by
  subst hH
  subst hK
  intro pins s σ H Q I h
  refine wpAny_mono (he.run pins s σ H _ I h) (fun u s1 hu => ?_) fun _ _ x => x
  obtain ⟨v, H1, I1, r1, a, C, t, rfl, h0, r2, r3, q | ⟨d, fs, hda, ea, ed, q⟩⟩ := hu
  · have hr : Raises X (.ref C) := raises_own r2 r3
    obtain ⟨ea, q⟩ := q
    cases r1
    have ho := exq_at I1.hok ea
    obtain ⟨G, gs, ga, J⟩ := I1.untrack ea h0 hx
    exact ⟨a, _, _, { s1 with heap := G }, delH H1 a, .ref C, none, rfl, J, gs, ga, ho, ⟨rfl, rfl⟩, rfl, rfl, delH_same, rfl, I1.bare, hr, q⟩
  · have hr : Raises X (.ref C) := raises_own r2 r3
    cases r1
    have ho := exq_at I1.hok ea
    obtain ⟨G, gs, ga, J⟩ := I1.untrack ea h0 hx
    have J2 := toXd (d := d) (fs := fs) J ((delH_ne hda).trans ed)
    exact ⟨a, _, _, { s1 with heap := G }, upd (delH H1 a) d (.xd fs), .ref C, some d, rfl, J2, gs, ga, ho, ⟨rfl, rfl⟩, rfl, rfl,
      (upd_ne hda.symm).trans delH_same, rfl, I1.bare, hr, q⟩
end
end Pw

/-! A head of which nothing is written out: facts of one's own, each told by a truth over the part of the heap that the names reach. -/
namespace Pw
open PySem PySem.Spec PyProof.Rows L2

section
variable {fb : List Fb} {fn : List He.DefD} {K : PySem.W.Frag}
theorem SaysB.fact (c : SaysB fb fn K) {f : Fb} (i : Nat) (h : fb[i]? = some f) : f K = true := by
  have c1 := (He.ba (show ((fb.all fun f => f K) && fn.all fun d => d.ok K) = true from congrArg (fun z : He.AlD => z.1) c)).1
  exact List.all_eq_true.mp c1 f (List.mem_of_getElem? h)
theorem SaysB.def_ (c : SaysB fb fn K) {d : He.DefD} (i : Nat) (h : fn[i]? = some d) : ∃ fd, FunD K d.name d.qual d.params d.body d.scope (d.dvs K) (d.kws K) (He.fAd K d.at_) fd := by
  have c2 := (He.ba (show ((fb.all fun f => f K) && fn.all fun d => d.ok K) = true from congrArg (fun z : He.AlD => z.1) c)).2
  have e : fn.map (fun d => He.fnW K d.at_) = fn.map He.DefD.val := congrArg (fun z : He.AlD => z.2) c
  have e2 : (fn.map fun d => He.fnW K d.at_)[i]? = (fn.map He.DefD.val)[i]? := by rw [e]
  rw [List.getElem?_map, List.getElem?_map, h] at e2
  exact He.DefD.funD (Option.some.inj e2) (List.all_eq_true.mp c2 d (List.mem_of_getElem? h))
end
/-- a def without defaults, as the layer has it -/
theorem funOf {K : PySem.W.Frag} {x q : Str} {st : Stmt} {f : Addr} {fd : FuncData} (F : FunD K x q (defArgs st) (defBody st) (defScope st) [] [] f fd) : Fun K x q st f fd := by
  obtain ⟨oc, od, dV, kV, doc, pm, an, cdv, ct, osl, e, lk, hcd, hD, _⟩ := F.ex
  rcases hD with ⟨_, rfl⟩ | ⟨h, _⟩
  · subst e
    exact ⟨⟨oc, od, kV, doc, pm, an, cdv, ct, osl, rfl, lk, hcd⟩, F.kp⟩
  · exact absurd rfl h
theorem atOf {K : PySem.W.Frag} {h : Heap} {mg : Str → Option Value} {x : Str} {st : Stmt} (X : K.In h) (G : h.Ns mainGlobals mg) (g : (He.Fa.glo x).ok K = true)
    (F : ∃ fd, FunD K x x (defArgs st) (defBody st) (defScope st) [] [] (He.ga K x) fd) : At K mg x st :=
  let ⟨fd, F⟩ := F
  ⟨_, fd, funOf F, He.glo_ok X G g⟩
/-- a class that is an exception, as it stands -/
def xcB (K : PySem.W.Frag) (C : Addr) (bm : List Value) (newId : String) (x : Str) : Bool := match K.lookup C with
  | some ⟨.type "type", _, .cls cd, sl⟩ => (match sl.toList with
    | [_, _, _, _, some (.builtin n), _] => decide (cd.mro = .ref C :: bm) && (decide (n = newId) && (!cd.hasDel && (cd.hasDict && decide (cd.name = x))))
    | _ => false)
  | _ => false
theorem xcB_ok {K : PySem.W.Frag} {C : Addr} {bm : List Value} {newId : String} {x : Str} (q : xcB K C bm newId x = true) :
    ∃ qn N bs sn sub ab col dd m0 m1 m2 m3 m5, K.lookup C = some (excClassObj x qn C N bs bm true sn sub ab col dd m0 m1 m2 m3 m5 newId) := by
  unfold xcB at q
  split at q
  · rename_i dd cd sl ho
    split at q
    · rename_i k0 k1 k2 k3 n k5 hs
      obtain ⟨nm, bs, mro, ns, qn, hd, sn, sub, ab, col, del⟩ := cd
      simp only [Bool.and_eq_true, decide_eq_true_eq, Bool.not_eq_true'] at q
      obtain ⟨rfl, rfl, rfl, rfl, rfl⟩ := q
      have hsl : sl = #[k0, k1, k2, k3, some (.builtin n), k5] := by
        obtain ⟨l⟩ := sl
        simp only at hs
        rw [hs]
      subst hsl
      exact ⟨qn, ns, bs, sn, sub, ab, col, dd, k0, k1, k2, k3, k5, ho⟩
    · cases q
  · cases q
/-- a law: F gives the written part, the function object, the promise over every base, where nothing is being shown -/
theorem walkE {l : PySem.W.OpenLaw} {n k : Nat} {q : Program} {loose : List Str} {XP : (Str → Option Value) → Heap → Prop} {YP : World → Heap → Prop} {d : DefRec} {CX : CXT} {x : Str}
    (hn : l.most = some n) (hn2 : n ≤ sizeLine) (hdf : d.params.defaults = []) (hr : Room k callerA)
    (F : ∀ (w : World) (mg : Str → Option Value) (fa : Addr) (h : Heap), YP w h → h.Ns mainGlobals mg → mg d.name = some (.ref fa) →
      ∃ (K : PySem.W.Frag) (fd : FuncData) (sp : Sp), K.In h ∧ (∀ (s : Shared) (u : Value), BindsTo s fd ⟨[u], []⟩ [(x, u)]) ∧
        (∀ (H : Hp) (a : Addr) (ns : List Int), ns.length ≤ n → Only H → SqL K H a (ns.map V.int) → sp [.ref a] H (fun v _ => v = .bl true) fun _ _ _ => False) ∧
        ∀ base : Heap, K.In base → base.Ns mainGlobals mg → FnG l.prog w K mg base CX k fa fd [x] sp)
    (hCX : ∀ (H : Hp) (s : Shared) (e : Value) (s' : Shared), CX [] H s (fun _ _ _ => False) e s' → False) :
    PySem.W.WalkO q loose XP YP l.row.toRowW d [] (fun f vs => PySem.call f vs) := by
  refine Att.attach_call hn hdf fun w s₀ s₁ mg mb fa o pm cd doc a vs ns G Y ho hd hcd hmg hobj hints hlen hg => ?_
  obtain ⟨K, fd, sp, KX, hb, hsp, hF⟩ := F w mg fa _ Y G.T.g hmg
  exact law_callG KX G.T.g G.T.b G.T.builtins G.T.nolimit hg hobj hints (Nat.le_trans hlen hn2) hr hF hb (fun H hO hS => hsp H a ns hlen hO hS) fun H e s' => hCX H s₁ e s'
end Pw

/-! Own errors raised, let through, and held by a suite. -/
namespace Pw
open PySem PySem.Spec PyProof.Rows L2
theorem kit_xd {K : PySem.W.Frag} {x D : Addr} {ox oD : Obj} (C : ExcC K D) :
    PySem.W.KitX K (.ref x) (.ref D) (fun h => PySem.W.InstAt h x ox D (some oD)) where
  ty := fun _ _ _ I => I.type
  it := fun M h X _ => by
    obtain ⟨cd, hc⟩ := Option.isSome_iff_exists.mp (cls_of_dict C.hd)
    unfold PySem.W.clsIn at hc
    split at hc
    · rename_i ho
      intro A' Q' E' s' k q
      unfold isType loadHead
      exact wpAny_bind (wpAny_loadPart (k _ _ (X _ _ ho)) (wpAny_pure q))
    · cases hc
  ne := fun h tp dd its n sl X htp => by
    obtain ⟨cd, hc⟩ := Option.isSome_iff_exists.mp (cls_of_dict C.hd)
    refine Bool.eq_false_iff.mpr fun q => ?_
    obtain rfl : D = tp := Value.ref.inj (beq_iff_eq.mp q)
    unfold PySem.W.clsIn at hc
    split at hc
    · rename_i ho
      cases (X _ _ ho).symm.trans htp
    · cases hc
  ca := fun X I k => PySem.W.pw_class C.hg C.hk C.hs
    (PySem.W.findObj_data (cls_of_dict C.hd) C.ha C.hn C.ht) C.hm X I k
/-- isinstance(e, c), e the error that the suite holds, with its dict -/
def rIsD (K : PySem.W.Frag) (a : Addr) (cls : Value) (d : Option Addr) : List V → Hp → VK → Prop := fun xs H Q => ∃ (D dd : Addr) (fs : List (Str × V)) (c : V) (cv : Value) (b : Bool),
  cls = .ref D ∧ d = some dd ∧ ExcC K D ∧ xs = [.ref a, c] ∧ (∀ u, RelV c u → u = cv) ∧ PySem.W.kitOne K (.ref D) cv = some b ∧ H dd = some (.xd fs) ∧ Q (.bl b) H
theorem call_isD {X : Cx} {a : Addr} {oe : Obj} {cls : Value} {d : Option Addr} {pn : List (Addr × Obj)} (hz : Zc cls d oe) (hf : ∃ vs, oe.data = .fields vs) :
    CallR (X.suite a ((a, oe) :: pn)) (.builtin "isinstance") (rIsD X.K a cls d) := by
  intro pins s σ H xs us Q I r h
  obtain ⟨D, dd, fs, c, cv, b, rfl, rfl, C, rfl, hcv, e, ed, q⟩ := h
  cases r with
  | cons rx rr =>
    cases rr with
    | cons rt rr =>
      cases rr
      cases rx
      have ec := hcv _ rt
      subst ec
      obtain ⟨hget, _⟩ := I.pin (a, oe) (List.mem_append.mpr (.inl List.mem_cons_self))
      obtain ⟨vs, hv⟩ := hf
      have hx : ObjOk X.prog X.w H s.heap dd (.xd fs) := I.hok dd _ ed
      obtain ⟨mA, hns, hr⟩ := hx
      obtain ⟨od, ho, hl⟩ := lookIn_ns hns
      have J : PySem.W.InstAt s.heap a oe D (some od) := ⟨hget, hz.1, by unfold PySem.W.notCls; rw [hv] <;> rfl, by rw [hz.2]; exact ho⟩
      exact PySem.W.kia_one (kit_xd C) I.kIn J e (fun z => nomatch z) fun tk => ⟨.bl b, H, I.kept (t' := tk) fun _ _ z => z, rfl, q⟩
/-- a family of refusals, by its name: read as a class, and made -/
structure Fam (K : PySem.W.Frag) (mg : Str → Option Value) (x : Str) (q : Str) (B : String) (st : Stmt) (C f : Addr) : Prop where
  mgC : mg x = some (.ref C)
  oex : OexF K C
  hB : PySem.W.mroIn K C (.type B) = some true
  sg : PySem.W.specialIn K (.ref C) "__getattribute__" = some (some (.builtin "type.__getattribute__"))
  rd : PySem.W.readsIn K C (.type "type") = true
  at_ : PySem.W.findCls K (.ref C) (.type "type") "__init__" = some (.val (.ref f))
  iC : PySem.W.findIn K (.ref C) "__init__" = some (some (.ref f))
  tI : PySem.W.typeIn K (.ref f) = some (.type "function")
  fn : ∃ fd, Fun K "__init__" q st f fd
/-- how a built-in base's __init__ is read -/
structure Bas (K : PySem.W.Frag) (mg : Str → Option Value) (B : String) (x : Str) (initId : String) : Prop where
  nm : BaseNm B x initId
  free : mg x = none
  vV : PySem.W.findCls K (.type B) (.type "type") "__init__" = some (.val (.builtin initId))
/-- a refusal's class as it stands -/
structure Cl (K : PySem.W.Frag) (mg : Str → Option Value) (x q field : Str) (B : String) (st : Stmt) (C : Addr) : Prop where
  mgC : mg x = some (.ref C)
  oex : OexF K C
  hB : PySem.W.mroIn K C (.type B) = some true
  nF : PySem.W.findIn K (.ref C) field = some none
  fn : ∃ f fd, PySem.W.findIn K (.ref C) "__init__" = some (some (.ref f)) ∧
    PySem.W.typeIn K (.ref f) = some (.type "function") ∧ Fun K "__init__" q st f fd

section
variable {P : Program} {w : World} {K : PySem.W.Frag} {mg : Str → Option Value} {base : Heap}
/-- a family's __init__(self, text) -/
def spFam (K : PySem.W.Frag) (B : String) : Sp := fun vs H Q _ => ∃ a C t0 x, vs = [.ref a, .str x] ∧ OexF K C ∧
  PySem.W.mroIn K C (.type B) = some true ∧ H a = some (exq a C none t0) ∧
  ∀ t2, H t2 = none → t2 ≠ a → Q .non (upd (upd H t2 (.tup [.str x])) a (exq a C none t2))
/-- a refusal's __init__(self, field): the text x0 becomes its args -/
def spX (K : PySem.W.Frag) (B : String) (field x0 : Str) : Sp := fun vs H Q _ => ∃ a C t0 y, vs = [.ref a, y] ∧ OexF K C ∧
  PySem.W.mroIn K C (.type B) = some true ∧ H a = some (exq a C none t0) ∧
  PySem.W.findIn K (.ref C) field = some none ∧
  ∀ t2 dx, H t2 = none → t2 ≠ a → H dx = none → dx ≠ a → dx ≠ t2 →
    Q .non (upd (upd (upd (upd H t2 (.tup [.str x0])) a (exq a C none t2)) dx (exd dx [(field, y)])) a (exq a C (some dx) t2))
theorem fin_x {field x0 : Str} {H : Hp} {a C : Addr} {y : V} {Q : V → Hp → Prop} {σ : L2.St}
    {D : Ends} (hD : ∀ H', Q .non H' → D.nx σ H')
    (k : ∀ t2 dx, H t2 = none → t2 ≠ a → H dx = none → dx ≠ a → dx ≠ t2 →
      Q .non (upd (upd (upd (upd H t2 (.tup [.str x0])) a (exq a C none t2)) dx (exd dx [(field, y)])) a (exq a C (some dx) t2)))
    {t2 : Addr} (n2 : H t2 = none) (ne : t2 ≠ a) {dx : Addr}
    (nx : upd (upd H t2 (.tup [.str x0])) a (exq a C none t2) dx = none) (nxa : dx ≠ a) :
    D.nx σ (upd (upd (upd (upd H t2 (.tup [.str x0])) a (exq a C none t2)) dx (exd dx [(field, y)])) a (exq a C (some dx) t2)) := by
  have e1 : dx ≠ t2 := fun z => by
    rw [z, upd_ne ne, upd_same] at nx
    cases nx
  have e2 : H dx = none := by
    rw [upd_ne nxa, upd_ne e1] at nx
    exact nx
  exact hD _ (k t2 dx n2 ne e2 nxa e1)
end
/-- the same, K told -/
theorem call_isDK {X : Cx} {K : PySem.W.Frag} {a : Addr} {oe : Obj} {cls : Value} {d : Option Addr} {pn : List (Addr × Obj)} (hK : X.K = K) (hz : Zc cls d oe) (hf : ∃ vs, oe.data = .fields vs) :
    CallR (X.suite a ((a, oe) :: pn)) (.builtin "isinstance") (rIsD K a cls d) := by
  subst hK
  exact call_isD hz hf
theorem call_reprK {X : Cx} {K : PySem.W.Frag} (hK : X.K = K) (gd : X.A.guards = some []) (hu : X.A.units + 64 < cLine) : CallR X (.builtin "repr") (rRepr K) := by
  subst hK
  exact call_repr gd hu
/-! ### defs that let errors out -/
section
variable (P : Program) (w : World) (K : PySem.W.Frag) (mg : Str → Option Value) (base : Heap)
/-- under its name x a def stands that keeps the promise sp, errors too; ds fill up what is left out -/
structure DefE (x : Str) (k : Nat) (ps : List Str) (ds : List V) (sp : Sp) : Prop where
  ex : ∃ f fd us, mg x = some (.ref f) ∧ PySem.W.keepIn K (.ref f) = true ∧ Vals ds us ∧ Binds K fd ps us ∧
    FnOk P w K mg base (L2.CX P w) k f fd ps sp
end
section
variable {P : Program} {w : World} {K : PySem.W.Frag} {mg : Str → Option Value} {base : Heap}
theorem mkDefE {x : Str} {st : Stmt} {N ps : List Str} {k : Nat} {sp : Sp} (A : At K mg x st)
    (S : FnScope N ps (defScope st))
    (hb : ∀ (kV doc pm : Value) (an : Option Addr) (cdv ct : Value) (us : List Value), us.length = ps.length →
      bindArgs (PySem.W.fnOf x x (defArgs st) (defBody st) (defScope st) .none kV doc pm an cdv ct) ⟨us, []⟩ = pure (ps.zip us))
    (len : ∀ vs H Q E, sp vs H Q E → vs.length = ps.length)
    (body : ∀ (f : Addr) (cdv : Value) (A : Around) (out : List Env) (s : Shared) (H : Hp) (vs : List V) (Q : VK) (E : XK),
      Room k (A.deeper (envOfC x (defScope st) s.heap.objs.size f cdv)) → sp vs H Q E →
      ∃ t, PSs (cxOf (L2.CX P w) P w K mg base N x (defScope st) f cdv A out s H E) (defBody st) t ∧
        t { nx := fun _ H' => Q .non H', rt := Q } (start N vs) H) : DefE P w K mg base x (k + 1) ps [] sp := by
  obtain ⟨f, fd, F, m⟩ := A.ex
  exact ⟨f, fd, [], m, F.kp, .nil, F.binds hb, F.okX S len (body f)⟩
theorem mkDefED {x : Str} {st : Stmt} {kws : List (Str × V)} {N ps : List Str} {k n : Nat} {sp : Sp} (A : AtD K mg x st kws)
    (S : FnScope N ps (defScope st)) (hk : kws ≠ []) (hn : n + kws.length = ps.length)
    (hb : ∀ (D : Addr) (doc pm : Value) (an : Option Addr) (cdv ct : Value) (us ks : List Value), us.length = n → ks.length = kws.length →
      KwChain D ((kws.map (·.1)).zip ks) (bindArgs (PySem.W.fnOf x x (defArgs st) (defBody st) (defScope st) .none (.ref D) doc pm an cdv ct) ⟨us, []⟩) (ps.zip (us ++ ks)))
    (len : ∀ vs H Q E, sp vs H Q E → vs.length = ps.length)
    (body : ∀ (f : Addr) (cdv : Value) (A : Around) (out : List Env) (s : Shared) (H : Hp) (vs : List V) (Q : VK) (E : XK),
      Room k (A.deeper (envOfC x (defScope st) s.heap.objs.size f cdv)) → sp vs H Q E →
      ∃ t, PSs (cxOf (L2.CX P w) P w K mg base N x (defScope st) f cdv A out s H E) (defBody st) t ∧
        t { nx := fun _ H' => Q .non H', rt := Q } (start N vs) H) : DefE P w K mg base x (k + 1) ps (kws.map (·.2)) sp := by
  obtain ⟨f, fd, F, m⟩ := A.ex
  obtain ⟨us, hv, b⟩ := F.binds0 n hk hn hb
  exact ⟨f, fd, us, m, F.kp, hv, b, F.ok S len fun cdv A out s H vs Q E hr hs => body f cdv A out s H vs Q E hr hs⟩
end
theorem pe_dE {X : Cx} {x : Str} {k j : Nat} {ps : List Str} {ds : List V} {sp : Sp} {W : WX} {p pos : Pos} {e : Expr} {es : List Expr} {t : TA}
    (D : DefE X.prog X.w X.K X.mg X.base x k ps ds sp) (tk : Takes X W) (hr : Room j X.A) (hk : k ≤ j) (hg : Gl X x) (ha : PA X (e :: es) t)
    (hdb : (x == ("__debug__" : Str)) = false := by decide)
    (he : starEach (e :: es) X.env = (false, eval e X.env) :: starEach es X.env := by rfl)
    (hpl : (backTo pos (starEach es X.env)).any (·.1) = false := by rfl) :
    PE X (.Call (.Name x p) (e :: es) [] pos) (tCallSD sp ds (WE W) t) := by
  obtain ⟨f, fd, us, m, kp, hv, b, F⟩ := D.ex
  exact pe_callSD F (hr.mono hk) hg m kp b hv (passAt tk) ha hdb he hpl
end Pw

/-! What a head by facts tells of own errors. -/
namespace Pw
open PySem PySem.Spec PyProof.Rows L2
/-- a class as it stands: what it stands above -/
structure Look (K : PySem.W.Frag) (C : Addr) (m : List Value) : Prop where
  cls : ∃ cd, PySem.W.clsIn K C = some cd ∧ cd.mro = .ref C :: m
  tyC : PySem.W.typeIn K (.ref C) = some (.type "type")
section
variable {K : PySem.W.Frag} {C D : Addr} {m m' : List Value}
theorem Look.mro (h : Look K C m) (v : Value) : PySem.W.mroIn K C v = some ((Value.ref C :: m).contains v) := by
  obtain ⟨cd, h1, h2⟩ := h.cls
  unfold PySem.W.mroIn
  rw [h1, Option.bind_some, h2]
  rfl
theorem Look.kit (h : Look K C m) (g : Look K D m') :
    PySem.W.kitOne K (.ref C) (.ref D) = some ((Value.ref C :: m).contains (.ref D)) := by
  obtain ⟨cd, h1, h2⟩ := g.cls
  unfold PySem.W.kitOne PySem.W.kitCls
  by_cases e : (Value.ref C == Value.ref D) = true
  · rw [if_pos e]
    obtain rfl := Value.ref.inj (beq_iff_eq.mp e)
    simp
  · rw [if_neg e]
    have e2 : ((PySem.W.clsIn K D).isSome && PySem.W.typeIn K (.ref D) == some (.type "type")) = true := by
      rw [h1, g.tyC]
      rfl
    simp only [e2, if_true]
    exact h.mro _
theorem Look.exm (h : Look K C m) (g : Look K D m') (hb : m'.contains (.type "BaseException") = true) (hne : C ≠ D) :
    PySem.W.exmOne K (.ref C) (.ref D) = some ((Value.ref C :: m).contains (.ref D)) := by
  obtain ⟨cd, h1, h2⟩ := g.cls
  have e2 : ((PySem.W.clsIn K D).isSome && PySem.W.typeIn K (.ref D) == some (.type "type")) = true := by
    rw [h1, g.tyC]
    rfl
  have e1 : PySem.W.subIn K (.ref D) (.type "BaseException") = some true := by
    show PySem.W.mroIn K D _ = _
    rw [g.mro, List.contains_cons, hb, Bool.or_true]
  unfold PySem.W.exmOne PySem.W.kitCls
  rw [e1, if_pos (by decide)]
  simp only [e2, if_true]
  exact h.mro _
theorem Look.exs (g : Look K D m') (hb : m'.contains (.type "BaseException") = true) :
    PySem.W.exmOne K (.ref D) (.ref D) = some true := by
  obtain ⟨cd, h1, h2⟩ := g.cls
  have e2 : ((PySem.W.clsIn K D).isSome && PySem.W.typeIn K (.ref D) == some (.type "type")) = true := by
    rw [h1, g.tyC]
    rfl
  have e1 : PySem.W.subIn K (.ref D) (.type "BaseException") = some true := by
    show PySem.W.mroIn K D _ = _
    rw [g.mro, List.contains_cons, hb, Bool.or_true]
  unfold PySem.W.exmOne PySem.W.kitCls
  rw [e1, if_pos (by decide)]
  simp only [e2, if_true]
  show PySem.W.mroIn K D _ = _
  rw [g.mro]
  simp
theorem Look.kitT (h : Look K C m) {T : String} (hk : PySem.W.kitMeta T = true) :
    PySem.W.kitOne K (.ref C) (.type T) = some (m.contains (.type T)) := by
  have e : (Value.ref C == Value.type T) = false := rfl
  unfold PySem.W.kitOne PySem.W.kitCls
  rw [e, if_neg Bool.false_ne_true]
  simp only [hk, if_true]
  show PySem.W.mroIn K C _ = _
  have e' : (Value.type T == Value.ref C) = false := rfl
  rw [h.mro, List.contains_cons, e', Bool.false_or]
end

section
variable {K : PySem.W.Frag} {mg : Str → Option Value} {h : Heap}
/-- what is the same of all errors -/
structure MethO (K : PySem.W.Frag) : Prop where
  hn : PySem.W.specialIn K (.builtin "object.__class__") "__get__" = some (some (.builtin "getset_descriptor.__get__"))
  ht : PySem.W.takesIn K (.builtin "object.__class__") = some true
theorem look_mk {x qn : Str} {C N : Addr} {bs bm : List Value} {sn : List Str} {sub : List Value} {ab : Bool} {col : Option Bool} {dd : Option Addr} {m0 m1 m2 m3 m5 : Option Value} {newId : String}
    (xL : K.lookup C = some (excClassObj x qn C N bs bm true sn sub ab col dd m0 m1 m2 m3 m5 newId))
    (tC : PySem.W.typeIn K (.ref C) = some (.type "type")) : Look K C bm :=
  ⟨⟨{ name := x, bases := bs, mro := .ref C :: bm, ns := N, qualname := qn, hasDict := true, slotNames := sn, subclasses := sub, abstract := ab, collection := col, hasDel := false },
    by unfold PySem.W.clsIn; rw [xL] <;> rfl, rfl⟩, tC⟩
theorem cl_mk {x q field qn : Str} {B newId : String} {st : Stmt} {C CB f N : Addr} {bs tl : List Value} {sn : List Str} {sub : List Value} {ab : Bool} {col : Option Bool} {dd : Option Addr} {m0 m1 m2 m3 m5 : Option Value}
    {oc : Value} {od an : Option Addr} {osl : Array (Option Value)} {kV doc pm cdv ct : Value} (X : K.In h) (G : h.Ns mainGlobals mg) (F : Fit newId tl) (hBt : tl.contains (.type B) = true) (hOb : tl.contains (.type "object") = true) (M : MethO K)
    (aC : PySem.W.nsIn K mainGlobals x = some (some (.ref C)))
    (xL : K.lookup C = some (excClassObj x qn C N bs (.ref CB :: tl) true sn sub ab col dd m0 m1 m2 m3 m5 newId))
    (sa : PySem.W.findIn K (.ref C) "__setattr__" = some (some (.builtin "object.__setattr__")))
    (eC : PySem.W.subIn K (.ref C) (.type "BaseException") = some true) (tC : PySem.W.typeIn K (.ref C) = some (.type "type"))
    (kC : PySem.W.keepIn K (.ref C) = true) (i1 : PySem.W.findIn K (.ref C) "__init__" = some (some (.ref f)))
    (t1 : PySem.W.typeIn K (.ref f) = some (.type "function"))
    (l1 : K.lookup f = some ⟨oc, od, .func (PySem.W.fnOf "__init__" q (defArgs st) (defBody st) (defScope st) .none kV doc pm an cdv ct), osl⟩)
    (c1 : PySem.W.codeIn K cdv q = true) (k1 : PySem.W.keepIn K (.ref f) = true)
    (hg : PySem.W.findIn K (.ref C) "__getattribute__" = some (some (.builtin "BaseException.__getattribute__")))
    (hk : PySem.W.findIn K (.ref C) "__getattr__" = some none) (hd : PySem.W.hasDictIn K C = true)
    (ha : PySem.W.findIn K (.ref C) "__class__" = some (some (.builtin "object.__class__")))
    (nF : PySem.W.findIn K (.ref C) field = some none) : Cl K mg x q field B st C ∧ Look K C (.ref CB :: tl) ∧ ExcC K C := by
  have L := look_mk xL tC
  refine ⟨⟨PySem.W.mg_of X G aC, ⟨⟨newId, x, qn, N, bs, _, sn, sub, ab, col, dd, m0, m1, m2, m3, m5, xL, (F.up CB).up C⟩, sa, eC, tC, kC⟩, ?_, nF, f, _, i1, t1, fun_mk (st := st) l1 c1 k1⟩,
    L, ⟨hg, hk, eC, hd, ha, M.hn, M.ht, ?_⟩⟩
  · rw [L.mro, List.contains_cons, List.contains_cons, hBt, Bool.or_true, Bool.or_true]
  · rw [L.mro, List.contains_cons, List.contains_cons, hOb, Bool.or_true, Bool.or_true]
theorem fam_mk {x q qn : Str} {B newId : String} {st : Stmt} {C f N : Addr} {bs tl : List Value} {sn : List Str} {sub : List Value} {ab : Bool} {col : Option Bool} {dd : Option Addr} {m0 m1 m2 m3 m5 : Option Value}
    {oc : Value} {od an : Option Addr} {osl : Array (Option Value)} {kV doc pm cdv ct : Value} (X : K.In h) (G : h.Ns mainGlobals mg) (F : Fit newId tl) (hBt : tl.contains (.type B) = true) (hOb : tl.contains (.type "object") = true) (M : MethO K)
    (aC : PySem.W.nsIn K mainGlobals x = some (some (.ref C)))
    (xL : K.lookup C = some (excClassObj x qn C N bs tl true sn sub ab col dd m0 m1 m2 m3 m5 newId))
    (sa : PySem.W.findIn K (.ref C) "__setattr__" = some (some (.builtin "object.__setattr__")))
    (eC : PySem.W.subIn K (.ref C) (.type "BaseException") = some true) (tC : PySem.W.typeIn K (.ref C) = some (.type "type"))
    (kC : PySem.W.keepIn K (.ref C) = true) (i1 : PySem.W.findIn K (.ref C) "__init__" = some (some (.ref f)))
    (t1 : PySem.W.typeIn K (.ref f) = some (.type "function"))
    (l1 : K.lookup f = some ⟨oc, od, .func (PySem.W.fnOf "__init__" q (defArgs st) (defBody st) (defScope st) .none kV doc pm an cdv ct), osl⟩)
    (c1 : PySem.W.codeIn K cdv q = true) (k1 : PySem.W.keepIn K (.ref f) = true)
    (hg : PySem.W.findIn K (.ref C) "__getattribute__" = some (some (.builtin "BaseException.__getattribute__")))
    (hk : PySem.W.findIn K (.ref C) "__getattr__" = some none) (hd : PySem.W.hasDictIn K C = true)
    (ha : PySem.W.findIn K (.ref C) "__class__" = some (some (.builtin "object.__class__")))
    (sg : PySem.W.specialIn K (.ref C) "__getattribute__" = some (some (.builtin "type.__getattribute__")))
    (rd : PySem.W.readsIn K C (.type "type") = true)
    (at_ : PySem.W.findCls K (.ref C) (.type "type") "__init__" = some (.val (.ref f))) : Fam K mg x q B st C f ∧ Look K C tl ∧ ExcC K C := by
  have L := look_mk xL tC
  refine ⟨⟨PySem.W.mg_of X G aC, ⟨⟨newId, x, qn, N, bs, _, sn, sub, ab, col, dd, m0, m1, m2, m3, m5, xL, F.up C⟩, sa, eC, tC, kC⟩, ?_, sg, rd, at_, i1, t1, _, fun_mk (st := st) l1 c1 k1⟩,
    L, ⟨hg, hk, eC, hd, ha, M.hn, M.ht, ?_⟩⟩
  · rw [L.mro, List.contains_cons, hBt, Bool.or_true]
  · rw [L.mro, List.contains_cons, hOb, Bool.or_true]
end
def iniB (B initId : String) : Fb := fun K => match PySem.W.findCls K (.type B) (.type "type") "__init__" with
  | some (.val v) => decide (v = .builtin initId)
  | _ => false
def clC (x : Str) : Fb := fun K => He.eqO (PySem.W.findIn K (.ref (He.ga K x)) "__setattr__") (some (some (.builtin "object.__setattr__"))) &&
  (decide (PySem.W.subIn K (.ref (He.ga K x)) (.type "BaseException") = some true) && (decide (PySem.W.typeIn K (.ref (He.ga K x)) = some (.type "type")) && (PySem.W.keepIn K (.ref (He.ga K x)) &&
  (He.eqO (PySem.W.findIn K (.ref (He.ga K x)) "__init__") (some (some (.ref (He.ma K (He.ga K x) "__init__")))) && (decide (PySem.W.typeIn K (.ref (He.ma K (He.ga K x) "__init__")) = some (.type "function")) &&
  (He.eqO (PySem.W.findIn K (.ref (He.ga K x)) "__getattribute__") (some (some (.builtin "BaseException.__getattribute__"))) && (He.eqO (PySem.W.findIn K (.ref (He.ga K x)) "__getattr__") (some none) &&
  (PySem.W.hasDictIn K (He.ga K x) && He.eqO (PySem.W.findIn K (.ref (He.ga K x)) "__class__") (some (some (.builtin "object.__class__")))))))))))
def clB (x fam field : Str) (tl : List Value) (newId : String) : Fb := fun K => (He.Fa.glo x).ok K && (xcB K (He.ga K x) (.ref (He.ga K fam) :: tl) newId x && (clC x K &&
  He.eqO (PySem.W.findIn K (.ref (He.ga K x)) field) (some none)))
def fmB (x : Str) (tl : List Value) (newId : String) : Fb := fun K => (He.Fa.glo x).ok K && (xcB K (He.ga K x) tl newId x && (clC x K &&
  (He.eqO (PySem.W.specialIn K (.ref (He.ga K x)) "__getattribute__") (some (some (.builtin "type.__getattribute__"))) && (PySem.W.readsIn K (He.ga K x) (.type "type") &&
  (match PySem.W.findCls K (.ref (He.ga K x)) (.type "type") "__init__" with
  | some (.val v) => decide (v = .ref (He.ma K (He.ga K x) "__init__"))
  | _ => false)))))
abbrev dfI (x q : Str) (st : Stmt) : He.DefD := ⟨(x, some "__init__"), "__init__", q, defArgs st, defBody st, defScope st, [], []⟩
section
variable {K : PySem.W.Frag} {h : Heap} {mg : Str → Option Value}
theorem iniB_ok {B initId : String} (c : iniB B initId K = true) : PySem.W.findCls K (.type B) (.type "type") "__init__" = some (.val (.builtin initId)) := by
  unfold iniB at c
  split at c
  · rename_i v e
    rw [e, of_decide_eq_true c]
  · cases c
theorem clB_ok {x q field fam : Str} {B newId : String} {st : Stmt} {tl : List Value} (X : K.In h) (G : h.Ns mainGlobals mg) (F : Fit newId tl) (hBt : tl.contains (.type B) = true) (hOb : tl.contains (.type "object") = true) (M : MethO K)
    (c : clB x fam field tl newId K = true) (D : ∃ fd, FunD K "__init__" q (defArgs st) (defBody st) (defScope st) [] [] (He.ma K (He.ga K x) "__init__") fd) :
    Cl K mg x q field B st (He.ga K x) ∧ Look K (He.ga K x) (.ref (He.ga K fam) :: tl) ∧ ExcC K (He.ga K x) := by
  obtain ⟨c1, c⟩ := He.ba c
  obtain ⟨c2, c⟩ := He.ba c
  obtain ⟨c3, c4⟩ := He.ba c
  obtain ⟨e1, c3⟩ := He.ba c3
  obtain ⟨e2, c3⟩ := He.ba c3
  obtain ⟨e3, c3⟩ := He.ba c3
  obtain ⟨e4, c3⟩ := He.ba c3
  obtain ⟨e5, c3⟩ := He.ba c3
  obtain ⟨e6, c3⟩ := He.ba c3
  obtain ⟨e7, c3⟩ := He.ba c3
  obtain ⟨e8, c3⟩ := He.ba c3
  obtain ⟨e9, e10⟩ := He.ba c3
  obtain ⟨qn, N, bs, sn, sub, ab, col, dd, m0, m1, m2, m3, m5, xL⟩ := xcB_ok c2
  obtain ⟨fd, DF⟩ := D
  obtain ⟨oc, od, dV, kV, doc, pm, an, cdv, ct, osl, rfl, lk, hcd, hD, _⟩ := DF.ex
  rcases hD with ⟨_, rfl⟩ | ⟨z, _⟩
  · exact cl_mk X G F hBt hOb M (He.eqO_ok c1) xL (He.eqO_ok e1) (of_decide_eq_true e2) (of_decide_eq_true e3) e4 (He.eqO_ok e5) (of_decide_eq_true e6) lk hcd DF.kp (He.eqO_ok e7) (He.eqO_ok e8) e9 (He.eqO_ok e10) (He.eqO_ok c4)
  · exact absurd rfl z
theorem fmB_ok {x q : Str} {B newId : String} {st : Stmt} {tl : List Value} (X : K.In h) (G : h.Ns mainGlobals mg) (F : Fit newId tl) (hBt : tl.contains (.type B) = true) (hOb : tl.contains (.type "object") = true) (M : MethO K)
    (c : fmB x tl newId K = true) (D : ∃ fd, FunD K "__init__" q (defArgs st) (defBody st) (defScope st) [] [] (He.ma K (He.ga K x) "__init__") fd) :
    Fam K mg x q B st (He.ga K x) (He.ma K (He.ga K x) "__init__") ∧ Look K (He.ga K x) tl ∧ ExcC K (He.ga K x) := by
  obtain ⟨c1, c⟩ := He.ba c
  obtain ⟨c2, c⟩ := He.ba c
  obtain ⟨c3, c⟩ := He.ba c
  obtain ⟨s1, c⟩ := He.ba c
  obtain ⟨s2, s3⟩ := He.ba c
  obtain ⟨e1, c3⟩ := He.ba c3
  obtain ⟨e2, c3⟩ := He.ba c3
  obtain ⟨e3, c3⟩ := He.ba c3
  obtain ⟨e4, c3⟩ := He.ba c3
  obtain ⟨e5, c3⟩ := He.ba c3
  obtain ⟨e6, c3⟩ := He.ba c3
  obtain ⟨e7, c3⟩ := He.ba c3
  obtain ⟨e8, c3⟩ := He.ba c3
  obtain ⟨e9, e10⟩ := He.ba c3
  obtain ⟨qn, N, bs, sn, sub, ab, col, dd, m0, m1, m2, m3, m5, xL⟩ := xcB_ok c2
  obtain ⟨fd, DF⟩ := D
  obtain ⟨oc, od, dV, kV, doc, pm, an, cdv, ct, osl, rfl, lk, hcd, hD, _⟩ := DF.ex
  have at_ : PySem.W.findCls K (.ref (He.ga K x)) (.type "type") "__init__" = some (.val (.ref (He.ma K (He.ga K x) "__init__"))) := by
    split at s3
    · rename_i v e
      rw [e, of_decide_eq_true s3]
    · cases s3
  rcases hD with ⟨_, rfl⟩ | ⟨z, _⟩
  · exact fam_mk X G F hBt hOb M (He.eqO_ok c1) xL (He.eqO_ok e1) (of_decide_eq_true e2) (of_decide_eq_true e3) e4 (He.eqO_ok e5) (of_decide_eq_true e6) lk hcd DF.kp (He.eqO_ok e7) (He.eqO_ok e8) e9 (He.eqO_ok e10) (He.eqO_ok s1) s2 at_
  · exact absurd rfl z
end
theorem typ_of_cl {x fam field : Str} {tl : List Value} {newId : String} {K : PySem.W.Frag} (c : clB x fam field tl newId K = true) : PySem.W.typeIn K (.ref (He.ga K x)) = some (.type "type") := by
  obtain ⟨_, c⟩ := He.ba c
  obtain ⟨_, c⟩ := He.ba c
  obtain ⟨c3, _⟩ := He.ba c
  obtain ⟨_, c3⟩ := He.ba c3
  obtain ⟨_, c3⟩ := He.ba c3
  obtain ⟨e3, _⟩ := He.ba c3
  exact of_decide_eq_true e3
/-- what the head finds of a def with keyword-only defaults -/
theorem atDOf {K : PySem.W.Frag} {h : Heap} {mg : Str → Option Value} {x : Str} {st : Stmt} {kws : List (Str × V)} (X : K.In h) (G : h.Ns mainGlobals mg) (g : (He.Fa.glo x).ok K = true)
    (F : ∃ fd, FunD K x x (defArgs st) (defBody st) (defScope st) [] kws (He.ga K x) fd) : AtD K mg x st kws :=
  let ⟨fd, F⟩ := F
  ⟨_, fd, F, He.glo_ok X G g⟩
end Pw

/-! Methods that let own errors out. -/
namespace Pw
open PySem PySem.Spec PyProof.Rows L2
section
variable (P : Program) (w : World) (K : PySem.W.Frag) (mg : Str → Option Value) (base : Heap)
/-- the method m of the class at C keeps the promise sp, errors too -/
structure DefME (C : Addr) (m : Str) (k : Nat) (ps : List Str) (sp : Sp) : Prop where
  ex : ∃ f fd, Meth K C m f ∧ Binds K fd ps [] ∧ FnOk P w K mg base (L2.CX P w) k f fd ps sp
end
section
variable {P : Program} {w : World} {K : PySem.W.Frag} {mg : Str → Option Value} {base : Heap}
theorem mkDefME {C : Addr} {m q : Str} {st : Stmt} {N ps : List Str} {k : Nat} {sp : Sp} (A : AtMt K C m q st) (S : FnScope N ps (defScope st))
    (hb : ∀ (kV doc pm : Value) (an : Option Addr) (cdv ct : Value) (us : List Value), us.length = ps.length →
      bindArgs (PySem.W.fnOf m q (defArgs st) (defBody st) (defScope st) .none kV doc pm an cdv ct) ⟨us, []⟩ = pure (ps.zip us))
    (len : ∀ vs H Q E, sp vs H Q E → vs.length = ps.length)
    (body : ∀ (f : Addr) (cdv : Value) (A : Around) (out : List Env) (s : Shared) (H : Hp) (vs : List V) (Q : VK) (E : XK),
      Room k (A.deeper (envOfC q (defScope st) s.heap.objs.size f cdv)) → sp vs H Q E →
      ∃ t, PSs (cxOf (L2.CX P w) P w K mg base N q (defScope st) f cdv A out s H E) (defBody st) t ∧
        t { nx := fun _ H' => Q .non H', rt := Q } (start N vs) H) : DefME P w K mg base C m (k + 1) ps sp := by
  obtain ⟨f, fd, F, M⟩ := A.ex
  exact ⟨f, fd, M, F.binds hb, F.okX S len (body f)⟩
end
section
variable {X : Cx} {m : Str} {C : Addr} {k j : Nat} {ps : List Str} {sp : Sp} {W : WX} {o : Expr} {pos apos : Pos} {e : Expr} {es : List Expr} {ta : TE} {t : TA}
/-- x.m(..), errors let out -/
def tMethE (C : Addr) (m : Str) (sp : Sp) (W : WX) (ta : TE) (t : TA) : TE := fun σ H Q => ta σ H fun x H1 => ∃ a dx fs, x = .ref a ∧ H1 a = some (.ins C dx fs) ∧ fs.lookup m = none ∧
  t σ H1 fun vs H2 => sp (x :: vs) H2 Q (WE W σ)
theorem pe_mmE {pl : Sem Bool} (he : PE X o ta) (c : Cls X.K C) (D : DefME X.prog X.w X.K X.mg X.base C m k ps sp) (tk : Takes X W) (hr : Room j X.A) (hk : k ≤ j) (ha : PA X (e :: es) t)
    (hst : starEach (e :: es) X.env = (false, eval e X.env) :: starEach es X.env := by rfl) (hpl : (backTo pos (starEach es X.env)).any (·.1) = false := by rfl)
    (ht : eval (.Call (.Attribute o m apos) (e :: es) [] pos) X.env = (do
      let ov ← eval o X.env
      standAt apos.atName
      let (f, first) ← holding [ov] (getMethod ov m pl)
      callWith pos f first (backTo pos (starEach (e :: es) X.env)) (backToKw pos (keywordEach [] X.env))) := by rfl) :
    PE X (.Call (.Attribute o m apos) (e :: es) [] pos) (tMethE C m sp W ta t) := by
  obtain ⟨f, fd, M, b, F⟩ := D.ex
  refine ⟨fun pins s σ H Q I h => PySem.W.methodCall_KW (pl := pl) (thn (he.run pins s σ H _ I h) fun u s1 ⟨x, H1, I1, rx, a, dx, fs, ex, ea, l, q⟩ => ?_) ht⟩
  subst ex
  obtain rfl : u = Value.ref a := rx
  exact getmeth_ok I1 ea c M l (PySem.W.callWith_K (first := [.ref a]) (h₀ := X.base) I.ok.mod.kin M.kp
    (thn (ha.run pos pins s1 σ H1 _ I1 q) fun us s2 ⟨vs, H2, I2, r, q2⟩ => ⟨I2.kIn, run_fnSD (us := .ref a :: us) (vs := .ref a :: vs) F (hr.mono hk) b .nil (passAt tk σ) I2 (.cons rfl r) (by
      rw [List.append_nil]
      exact q2)⟩) hst hpl)
end
end Pw

/-! What the head finds of a class's methods. -/
namespace Pw
open PySem PySem.Spec PyProof.Rows L2
section
variable {K : PySem.W.Frag}
theorem atMtOf {x m q : Str} {st : Stmt} (g : (He.Fa.meth x m).ok K = true) (F : ∃ fd, FunD K m q (defArgs st) (defBody st) (defScope st) [] [] (He.ma K (He.ga K x) m) fd) : AtMt K (He.ga K x) m q st :=
  let ⟨fd, F⟩ := F
  ⟨_, fd, funOf F, He.meth_ok g⟩
theorem iniOf {x q : Str} {st : Stmt} (F : ∃ fd, FunD K "__init__" q (defArgs st) (defBody st) (defScope st) [] [] (He.ma K (He.ga K x) "__init__") fd) : ∃ fd, Fun K "__init__" q st (He.ma K (He.ga K x) "__init__") fd :=
  let ⟨fd, F⟩ := F
  ⟨fd, funOf F⟩
end
end Pw

/-! Making an instance by an own __init__ with keyword-only defaults: some told, the rest left out. -/
namespace Pw
open PySem PySem.Spec PyProof.Rows L2
theorem kw_vals {K : PySem.W.Frag} {D : Addr} : ∀ {ms : List (Str × V)}, (∀ q ∈ ms, ∃ u, PySem.W.nsIn K D q.1 = some (some u) ∧ RelV q.2 u) →
    ∃ mv, Vals (ms.map (·.2)) mv ∧ mv.length = ms.length ∧ ∀ q ∈ (ms.map (·.1)).zip mv, PySem.W.nsIn K D q.1 = some (some q.2)
  | [], _ => ⟨[], .nil, rfl, fun q h => by cases h⟩
  | m :: ms, h => by
    obtain ⟨u, e, r⟩ := h m (by simp)
    obtain ⟨mv, v, l, k⟩ := kw_vals (ms := ms) fun q hq => h q (by simp [hq])
    refine ⟨u :: mv, .cons r v, by simp [l], fun q hq => ?_⟩
    simp only [List.map_cons, List.zip_cons_cons, List.mem_cons] at hq
    rcases hq with rfl | hq
    · exact e
    · exact k q hq
theorem kbn_of {K : PySem.W.Frag} {x qual : Str} {params : Arguments} {body : List Stmt} {scope : Scope} {kws ms : List (Str × V)} {f : Addr} {fd : FuncData} {ps ks : List Str} {n : Nat}
    (F : FunD K x qual params body scope [] kws f fd) (g : {α : Type} → List α → List α → List α → List α) (hk : kws ≠ []) (hms : ∀ q ∈ ms, q ∈ kws)
    (hg : ∀ {vs mz zs : List V} {us mv ws : List Value}, Vals vs us → Vals mz mv → Vals zs ws → Vals (g vs mz zs) (g us mv ws))
    (hb : ∀ (D : Addr) (doc pm : Value) (an : Option Addr) (cdv ct : Value) (us mv ws : List Value), us.length = n → mv.length = ms.length → ws.length = ks.length →
      KwChain D ((ms.map (·.1)).zip mv) (bindArgs (PySem.W.fnOf x qual params body scope .none (.ref D) doc pm an cdv ct) ⟨us, ks.zip ws⟩) (ps.zip (g us mv ws))) :
    ∃ mv, KBn K fd ps n ks (fun us ws => g us mv ws) (fun vs zs => g vs (ms.map (·.2)) zs) := by
  obtain ⟨oc, od, dV, kV, doc, pm, an, cdv, ct, osl, rfl, lk, hcd, hD, hK⟩ := F.ex
  rcases hD with ⟨_, rfl⟩ | ⟨e, _⟩
  · rcases hK with e | ⟨D, rfl, hK⟩
    · exact absurd e hk
    · obtain ⟨mv, v, l, h⟩ := kw_vals (K := K) (D := D) (ms := ms) fun q hq => hK q (hms q hq)
      refine ⟨mv, ⟨fun s us ws X l1 l2 => ?_, fun hv hz => hg hv v hz⟩⟩
      intro M A E Q q
      exact KwChain.looks X (fun q hq => h q hq) (hb D doc pm an cdv ct us mv ws l1 l l2) A Q E s (fun _ _ e => e) q
  · exact absurd rfl e
section
variable (P : Program) (w : World) (K : PySem.W.Frag) (mg : Str → Option Value) (base : Heap)
/-- under its name x the class at C stands; made of n things and the keywords ks by an __init__ that keeps sp -/
structure MadeK (x : Str) (C : Addr) (k : Nat) (ps : List Str) (n : Nat) (ks : List Str) (gV : List V → List V → List V) (sp : Sp) : Prop where
  ex : ∃ f fd g, mg x = some (.ref C) ∧ Mk K C f ∧ KBn K fd ps (n + 1) ks g gV ∧ FnOk P w K mg base CX0 k f fd ps sp
end
section
variable {P : Program} {w : World} {K : PySem.W.Frag} {mg : Str → Option Value} {base : Heap}
theorem mkFnI {m q : Str} {st : Stmt} {kws : List (Str × V)} {f : Addr} {fd : FuncData} {N ps : List Str} {k : Nat} {sp : Sp}
    (F : FunD K m q (defArgs st) (defBody st) (defScope st) [] kws f fd) (S : FnScope N ps (defScope st))
    (len : ∀ vs H Q E, sp vs H Q E → vs.length = ps.length)
    (body : ∀ (f : Addr) (cdv : Value) (A : Around) (out : List Env) (s : Shared) (H : Hp) (vs : List V) (Q : VK) (E : XK),
      Room k (A.deeper (envOfC q (defScope st) s.heap.objs.size f cdv)) → sp vs H Q E →
      ∃ t, PSs (cxOf CX0 P w K mg base N q (defScope st) f cdv A out s H E).nox (defBody st) t ∧
        t { nx := fun _ H' => Q .non H', rt := Q } (start N vs) H) : FnOk P w K mg base CX0 (k + 1) f fd ps sp :=
  F.ok S len fun cdv A out s H vs Q E hr hs =>
    let ⟨t, h, q⟩ := body f cdv A out s H vs Q E hr hs
    ⟨t, h.nox, q⟩
end
section
variable {X : Cx} {x : Str} {C : Addr} {k j n : Nat} {ps ks : List Str} {sp : Sp} {p pos : Pos} {e : Expr} {es : List Expr} {t tk : TA} {gV : List V → List V → List V} {kws : List Keyword}
theorem pe_mk (D : MadeK X.prog X.w X.K X.mg X.base x C k ps n ks gV sp) (hr : Room j X.A) (hk : k + 1 ≤ j) (hg : Gl X x) (ha : PA X (e :: es) t) (hkw : PK X kws tk)
    (hall : (backToKw pos (keywordEach kws X.env)).all (·.1.isSome) = true := by rfl) (hks : (backToKw pos (keywordEach kws X.env)).filterMap (·.1) = ks := by rfl)
    (hdb : (x == ("__debug__" : Str)) = false := by decide)
    (he : starEach (e :: es) X.env = (false, eval e X.env) :: starEach es X.env := by rfl)
    (hpl : ((backTo pos (starEach (e :: es) X.env)).any (·.1) || (backToKw pos (keywordEach kws X.env)).any (·.1.isNone)) = false := by rfl) :
    PE X (.Call (.Name x p) (e :: es) kws pos) (tMakeK C n ks.length sp gV E0 t tk) := by
  obtain ⟨f, fd, g, m, M, b, F⟩ := D.ex
  exact pe_makeK M F (hr.mono hk) hg m b pass0 ha hkw hall hks hdb he hpl
end
end Pw

namespace V59
open PySem PySem.Spec PyProof.Rows L2 Pw
/-- a walk over nothing -/
theorem for_none {J : It} {n : Nat} {G : Hp → Prop} {Y : Nat → Hp → V → Hp → Prop} (w : Walk J n G Y) (hn : n = 0) {g : TG} {tb : TS} {D : Ends} {σ : L2.St} {H : Hp} (hG : G H) (k : D.nx σ H) :
    ∃ W : Nat → Nat → L2.St → Hp → Prop, (∃ m, W 0 m σ H) ∧ ∀ i m σ H, W i m σ H → J.stop i H ∧ D.nx σ H ∨ J.go i H ∧ ∃ N : L2.St → Hp → Prop, (∀ σ' H', N σ' H' → ∃ m', m' < m ∧ W (i + 1) m' σ' H') ∧
      ∀ x H', J.yld i H x H' → g x σ H' fun σ2 H2 => tb { nx := N, rt := D.rt, bk := D.nx, ct := N } σ2 H2 := by
  subst hn
  refine for_it w (fun i σ' H' => σ' = σ ∧ H' = H) ⟨rfl, rfl⟩ (fun i σ' H' _ h => h.2 ▸ hG) (fun i x σ' H' H'' hi => absurd hi (by omega)) fun σ' H' h => ?_
  rw [h.1, h.2]
  exact k
section
variable {P : Program} {w : World} {K : PySem.W.Frag} {mg : Str → Option Value} {base : Heap}
def no : Sp := fun _ _ _ _ => False
theorem At.fnr {x : Str} {st : Stmt} (A : At K mg x st) : ∃ f, mg x = some (.ref f) ∧ PySem.W.keepIn K (.ref f) = true ∧ FnR P w K mg base CX0 1 f no := by
  obtain ⟨f, fd, F, m⟩ := A.ex
  exact ⟨f, m, F.kp, fun A out s H us vs Q E _ _ _ h => h.elim⟩
/-- nothing at all, and something else -/
def spNone (K : PySem.W.Frag) : Sp := fun vs H Q _ => ∃ (a : Addr) (x : V), vs = [.ref a, x] ∧ Sq K H a [] ∧ ∀ H', Same H H' → Q .non H'
def spNone2 (K : PySem.W.Frag) : Sp := fun vs H Q _ => ∃ (a d : Addr), vs = [.ref a, .ref d] ∧ Sq K H a [] ∧ H d = some (.dK []) ∧ ∀ H', Same H H' → Q .non H'
theorem d_rules0 (T : Txt mg) (A : At K mg "check_rules" sCheckRules) (aS : At K mg "is_rule_shape" sIsRuleShape) (aLO : At K mg "is_list_of" sIsListOf) (dl : Def P w K mg base "is_list" 1 ["thing", "least", "most"] (spList K)) :
    Def P w K mg base "check_rules" 5 ["rules", "points"] (spNone K) := by
  obtain ⟨f0, hm0, hk0, F0⟩ := At.fnr (P := P) (w := w) (base := base) aS
  have dLO := d_listOf T aLO dl F0 hk0
  refine mkDef A scCheckRules (fun _ _ _ _ _ _ us hl => match us, hl with | [_, _], _ => rfl) (fun vs H Q E ⟨_, _, e, _⟩ => by rw [e]; rfl)
    (fun f cdv A out s H vs Q E hr h => ?_)
  obtain ⟨a, x, rfl, hs, k⟩ := h
  have hu : (A.deeper (envOfC "check_rules" (defScope sCheckRules) s.heap.objs.size f cdv)).units + 1 < cLine := hu_of hr
  refine ⟨_, (pss_cons (ps_if (pt_not (pt_val (pe_d dLO hr (by decide) (by rfl) (pa_cons (pe_glob (v := V.ref f0) (by rfl) hm0 rfl) (pa_cons (pv 0) (pa_cons pe_int (pa_cons (pe_gi T.c_MOST_RULES) pa_nil)))))))
      (pss_one ps_never)
      pss_nil)
    (pss_cons (ps_set (i := 2) scCheckRules.nd rfl (.inl rfl) (pe_lst pa_nil))
    (pss_one (ps_for PassesOwn.never rfl (pi_sq (pv 0)) (pg_name (i := 3) scCheckRules.nd rfl (.inl rfl))
      (pss_cons (ps_par (i := 4) (j := 5) rfl scCheckRules.nd rfl rfl (by decide) rfl rfl (pa_cons (pe_ix (r := rIxT K) ix_tup (pv 3) pe_int (fun _ _ => rfl)) (pa_cons (pe_ix (r := rIxT K) ix_tup (pv 3) pe_int (fun _ _ => rfl)) pa_nil)) rfl)
      (pss_cons (ps_if (pt_cmpR op_in_seq (pv 4) (pv 2) (by rfl))
        (pss_one ps_never)
        pss_nil)
      (pss_cons (ps_if (pt_cmp (pc_dnotin hu (pv 5) (pv 1)))
        (pss_one ps_never)
        pss_nil)
      (pss_one (ps_expr (pe_bm PySem.F.plainAttrs_list PySem.F.slot_list_append PySem.F.type_list_append mt_append (pv 2) (pa_cons (pv 4) pa_nil))))))))))), ?_⟩
  refine ⟨_, rfl, a, [], 0, 6, rfl, hs, by decide, by decide, by decide, (fun v hv => by cases hv), fun H1 S1 => ?_⟩
  refine ⟨_, rfl, iteF ?_⟩
  refine ⟨by show 0 ≤ sizeLine; decide, fun L nL => ?_⟩
  have S2 := S1.trans (Same.laid (o := HO.lst []) nL)
  generalize upd H1 L (.lst []) = H2 at *
  refine ⟨_, rfl, a, [], rfl, hs.same S2, fun J G hG wk => ?_⟩
  exact for_none wk rfl (hG _ (Same.refl _)) (k _ S2)
theorem d_causes0 (T : Txt mg) (A : At K mg "check_causes" sCheckCauses) (aS : At K mg "is_cause_shape" sIsCauseShape) (aL : At K mg "_leads_to_itself" sLeadsToItself) (aLO : At K mg "is_list_of" sIsListOf) (dl : Def P w K mg base "is_list" 1 ["thing", "least", "most"] (spList K)) :
    Def P w K mg base "check_causes" 5 ["causes", "rules"] (spNone2 K) := by
  obtain ⟨f0, hm0, hk0, F0⟩ := At.fnr (P := P) (w := w) (base := base) aS
  have dLO := d_listOf T aLO dl F0 hk0
  have dLd : Def P w K mg base "_leads_to_itself" 1 ["name", "causes"] no := At.any aL (fun _ _ _ _ _ _ us hl => match us, hl with | [_, _], _ => rfl) 1 no fun _ _ _ _ h => h
  refine mkDef A scCheckCauses (fun _ _ _ _ _ _ us hl => match us, hl with | [_, _], _ => rfl) (fun vs H Q E ⟨_, _, e, _⟩ => by rw [e]; rfl)
    (fun f cdv A out s H vs Q E hr h => ?_)
  obtain ⟨a, d, rfl, hs, ed, k⟩ := h
  have hu : (A.deeper (envOfC "check_causes" (defScope sCheckCauses) s.heap.objs.size f cdv)).units + 1 < cLine := hu_of hr
  refine ⟨_, (pss_cons (ps_if (pt_not (pt_val (pe_d dLO hr (by decide) (by rfl) (pa_cons (pe_glob (v := V.ref f0) (by rfl) hm0 rfl) (pa_cons (pv 0) (pa_cons pe_int (pa_cons (pe_gi T.c_MOST_CAUSES) pa_nil)))))))
      (pss_one ps_never)
      pss_nil)
    (pss_cons (ps_set (i := 2) scCheckCauses.nd rfl (.inl rfl) (pe_lst pa_nil))
    (pss_cons (ps_for PassesOwn.never rfl (pi_sq (pv 0)) (pg_tup (by rfl) (pgs_cons (pg_name (i := 3) scCheckCauses.nd rfl (.inl rfl)) (pgs_cons (pg_name (i := 4) scCheckCauses.nd rfl (.inl rfl)) (pgs_cons (pg_name (i := 5) scCheckCauses.nd rfl (.inl rfl)) pgs_nil))))
      (pss_cons (ps_for PassesOwn.never rfl (pi_tup (pe_tup (pa_cons (pv 3) (pa_cons (pv 4) pa_nil)))) (pg_name (i := 6) scCheckCauses.nd rfl (.inl rfl))
        (pss_one (ps_if (pt_cmp (pc_dnotin hu (pv 6) (pv 1)))
          (pss_one ps_never)
          pss_nil)))
      (pss_cons (ps_if (pt_cmpR op_in_seq (pe_tup (pa_cons (pv 3) (pa_cons (pv 4) pa_nil))) (pv 2) (by rfl))
        (pss_one ps_never)
        pss_nil)
      (pss_one (ps_expr (pe_bm PySem.F.plainAttrs_list PySem.F.slot_list_append PySem.F.type_list_append mt_append (pv 2) (pa_cons (pe_tup (pa_cons (pv 3) (pa_cons (pv 4) pa_nil))) pa_nil)))))))
    (pss_one (ps_lock (ps_for PassesOwn.never rfl (pi_keys (pv 1)) (pg_name (i := 6) scCheckCauses.nd rfl (.inl rfl))
      (pss_one (ps_if (pt_val (pe_d dLd hr (by decide) (by rfl) (pa_cons (pv 6) (pa_cons (pv 0) pa_nil))))
        (pss_one ps_never)
        pss_nil)))))))), ?_⟩
  refine ⟨_, rfl, a, [], 0, 8, rfl, hs, by decide, by decide, by decide, (fun v hv => by cases hv), fun H1 S1 => ?_⟩
  refine ⟨_, rfl, iteF ?_⟩
  refine ⟨by show 0 ≤ sizeLine; decide, fun L nL => ?_⟩
  have S2 := S1.trans (Same.laid (o := HO.lst []) nL)
  generalize upd H1 L (.lst []) = H2 at *
  refine ⟨_, rfl, a, [], rfl, hs.same S2, fun J G hG wk => ?_⟩
  refine for_none wk rfl (hG _ (Same.refl _)) ?_
  dsimp only [gName]
  have ed2 := S2 _ _ ed
  refine ⟨d, _, ed2, trivial, fun od => ?_⟩
  have ed3 : upd H2 d (.frz od (.dK [])) d = some (.frz od (.dK [])) := upd_same
  have Sr : ∀ G, G = upd H2 d (.frz od (.dK [])) → Same H (upd G d (.dK [])) := by
    rintro G rfl
    rw [upd_upd]
    intro c o e
    by_cases hc : c = d
    · subst hc
      rw [upd_same]
      have := S2 _ _ e
      rw [ed2] at this
      exact this
    · rw [upd_ne hc]
      exact S2 _ _ e
  generalize eH3 : upd H2 d (.frz od (.dK [])) = H3 at *
  refine ⟨_, rfl, d, od, rfl, .inl ⟨[], ed3, ?_⟩⟩
  exact for_none walk_keys rfl ed3 ⟨ed3, k _ (Sr _ rfl)⟩
theorem d_commands0 (T : Txt mg) (A : At K mg "check_commands" sCheckCommands) (aS : At K mg "is_command_shape" sIsCommandShape) (aW : At K mg "is_worth_of" sIsWorthOf) (aC : At K mg "_check_locks" sCheckLocks) (aLO : At K mg "is_list_of" sIsListOf) (dl : Def P w K mg base "is_list" 1 ["thing", "least", "most"] (spList K)) :
    Def P w K mg base "check_commands" 5 ["commands", "points"] (spNone K) := by
  obtain ⟨f0, hm0, hk0, F0⟩ := At.fnr (P := P) (w := w) (base := base) aS
  have dLO := d_listOf T aLO dl F0 hk0
  have dWo : Def P w K mg base "is_worth_of" 1 ["point", "thing"] no := At.any aW (fun _ _ _ _ _ _ us hl => match us, hl with | [_, _], _ => rfl) 1 no fun _ _ _ _ h => h
  have dCl : Def P w K mg base "_check_locks" 1 ["locks", "place", "points"] no := At.any aC (fun _ _ _ _ _ _ us hl => match us, hl with | [_, _, _], _ => rfl) 1 no fun _ _ _ _ h => h
  refine mkDef A scCheckCommands (fun _ _ _ _ _ _ us hl => match us, hl with | [_, _], _ => rfl) (fun vs H Q E ⟨_, _, e, _⟩ => by rw [e]; rfl)
    (fun f cdv A out s H vs Q E hr h => ?_)
  obtain ⟨a, x, rfl, hs, k⟩ := h
  have hu : (A.deeper (envOfC "check_commands" (defScope sCheckCommands) s.heap.objs.size f cdv)).units + 1 < cLine := hu_of hr
  refine ⟨_, (pss_cons (ps_if (pt_not (pt_val (pe_d dLO hr (by decide) (by rfl) (pa_cons (pe_glob (v := V.ref f0) (by rfl) hm0 rfl) (pa_cons (pv 0) (pa_cons pe_int (pa_cons (pe_gi T.c_MOST_COMMANDS) pa_nil)))))))
      (pss_one ps_never)
      pss_nil)
    (pss_cons (ps_set (i := 2) scCheckCommands.nd rfl (.inl rfl) (pe_lst pa_nil))
    (pss_one (ps_for PassesOwn.never rfl (pi_sq (pv 0)) (pg_tup (by rfl) (pgs_cons (pg_name (i := 3) scCheckCommands.nd rfl (.inl rfl)) (pgs_cons (pg_name (i := 4) scCheckCommands.nd rfl (.inl rfl)) (pgs_cons (pg_name (i := 5) scCheckCommands.nd rfl (.inl rfl)) (pgs_cons (pg_name (i := 6) scCheckCommands.nd rfl (.inl rfl)) pgs_nil)))))
      (pss_cons (ps_if (pt_cmpR op_in_seq (pv 3) (pv 2) (by rfl))
        (pss_one ps_never)
        pss_nil)
      (pss_cons (ps_if (pt_cmp (pc_dnotin hu (pv 4) (pv 1)))
        (pss_one ps_never)
        pss_nil)
      (pss_cons (ps_if (pt_not (pt_val (pe_d dWo hr (by decide) (by rfl) (pa_cons (pe_dget hu (pv 1) (pv 4) (fun _ _ => rfl)) (pa_cons (pv 5) pa_nil)))))
        (pss_one ps_never)
        pss_nil)
      (pss_cons (ps_expr (pe_d dCl hr (by decide) (by rfl) (pa_cons (pv 6) (pa_cons (pe_ix (r := rIxT K) ix_tup (pe_dget hu (pv 1) (pv 4) (fun _ _ => rfl)) pe_int (fun _ _ => rfl)) (pa_cons (pv 1) pa_nil)))))
      (pss_one (ps_expr (pe_bm PySem.F.plainAttrs_list PySem.F.slot_list_append PySem.F.type_list_append mt_append (pv 2) (pa_cons (pv 3) pa_nil)))))))))))), ?_⟩
  refine ⟨_, rfl, a, [], 0, 4, rfl, hs, by decide, by decide, by decide, (fun v hv => by cases hv), fun H1 S1 => ?_⟩
  refine ⟨_, rfl, iteF ?_⟩
  refine ⟨by show 0 ≤ sizeLine; decide, fun L nL => ?_⟩
  have S2 := S1.trans (Same.laid (o := HO.lst []) nL)
  generalize upd H1 L (.lst []) = H2 at *
  refine ⟨_, rfl, a, [], rfl, hs.same S2, fun J G hG wk => ?_⟩
  exact for_none wk rfl (hG _ (Same.refl _)) (k _ S2)
theorem d_relations0 (T : Txt mg) (A : At K mg "check_relations" sCheckRelations) (aS : At K mg "is_relation_shape" sIsRelationShape) (aR : At K mg "points_of_relation" sPointsOfRelation) (aO : At K mg "_check_each_once" sCheckEachOnce) (aLO : At K mg "is_list_of" sIsListOf) (dl : Def P w K mg base "is_list" 1 ["thing", "least", "most"] (spList K)) :
    Def P w K mg base "check_relations" 5 ["relations", "points"] (spNone K) := by
  obtain ⟨f0, hm0, hk0, F0⟩ := At.fnr (P := P) (w := w) (base := base) aS
  have dLO := d_listOf T aLO dl F0 hk0
  have dPr : Def P w K mg base "points_of_relation" 1 ["relation"] no := At.any aR (fun _ _ _ _ _ _ us hl => match us, hl with | [_], _ => rfl) 1 no fun _ _ _ _ h => h
  have dO : Def P w K mg base "_check_each_once" 1 ["names"] no := At.any aO (fun _ _ _ _ _ _ us hl => match us, hl with | [_], _ => rfl) 1 no fun _ _ _ _ h => h
  refine mkDef A scCheckRelations (fun _ _ _ _ _ _ us hl => match us, hl with | [_, _], _ => rfl) (fun vs H Q E ⟨_, _, e, _⟩ => by rw [e]; rfl)
    (fun f cdv A out s H vs Q E hr h => ?_)
  obtain ⟨a, x, rfl, hs, k⟩ := h
  have hu : (A.deeper (envOfC "check_relations" (defScope sCheckRelations) s.heap.objs.size f cdv)).units + 1 < cLine := hu_of hr
  refine ⟨_, (pss_cons (ps_if (pt_not (pt_val (pe_d dLO hr (by decide) (by rfl) (pa_cons (pe_glob (v := V.ref f0) (by rfl) hm0 rfl) (pa_cons (pv 0) (pa_cons pe_int (pa_cons (pe_gi T.c_MOST_RELATIONS) pa_nil)))))))
      (pss_one ps_never)
      pss_nil)
    (pss_one (ps_for PassesOwn.never rfl (pi_sq (pv 0)) (pg_name (i := 2) scCheckRelations.nd rfl (.inl rfl))
      (pss_cons (ps_set (i := 3) scCheckRelations.nd rfl (.inl rfl) (pe_d dPr hr (by decide) (by rfl) (pa_cons (pv 2) pa_nil)))
      (pss_cons (ps_for PassesOwn.never rfl (pi_list (pv 3)) (pg_name (i := 4) scCheckRelations.nd rfl (.inl rfl))
        (pss_one (ps_if (pt_cmp (pc_dnotin hu (pv 4) (pv 1)))
          (pss_one ps_never)
          pss_nil)))
      (pss_cons (ps_expr (pe_d dO hr (by decide) (by rfl) (pa_cons (pv 3) pa_nil)))
      (pss_one (ps_if (PW.pt (pw_and (pt_cmpR op_eq (pe_ix (r := rIxT K) ix_tup (pv 2) pe_int (fun _ _ => rfl)) pe_str (nomark _)) (pw_and1 (pt_cmpR op_ne (pe_ix (r := rIxT K) ix_tup (pe_dget hu (pv 1) (pe_ix ix_list (pv 3) pe_int (fun _ _ => rfl)) (fun _ _ => rfl)) pe_int (fun _ _ => rfl)) pe_str (nomark _)))))
        (pss_one ps_never)
        pss_nil)))))))), ?_⟩
  refine ⟨_, rfl, a, [], 0, 5, rfl, hs, by decide, by decide, by decide, (fun v hv => by cases hv), fun H1 S1 => ?_⟩
  refine ⟨_, rfl, iteF ?_⟩
  refine ⟨_, rfl, a, [], rfl, hs.same S1, fun J G hG wk => ?_⟩
  exact for_none wk rfl (hG _ (Same.refl _)) (k _ S1)
end
end V59

namespace V59
open PySem PySem.Spec PyProof.Rows L2 Pw
/-- all stays but at p -/
def FrX (p : Addr) (H H' : Hp) : Prop := ∀ b o, b ≠ p → H b = some o → H' b = some o
section
variable {p : Addr} {H H' H2 : Hp} {C dx : Addr} {fs : List (Str × V)} {K : PySem.W.Frag} {a : Addr} {xs : List V}
theorem FrX.refl : FrX p H H := fun _ _ _ e => e
theorem FrX.of (S : Same H H') : FrX p H H' := fun b o _ e => S b o e
theorem FrX.trans (a : FrX p H H') (b : FrX p H' H2) : FrX p H H2 := fun c o n e => b c o n (a c o n e)
theorem FrX.put {o : HO} : FrX p H (upd H p o) := fun b u n e => (upd_ne n).trans e
theorem FrX.rd (F : FrX p H H') (ep : H p = some (.ins C dx fs)) {u : HO} (hu : ∀ o, u ≠ .ins C dx fs ∧ (HO.frz o u) ≠ .ins C dx fs) (h : Rd H a u) : Rd H' a u := by
  rcases h with e | ⟨o, e⟩
  · exact .inl (F a _ (fun z => by rw [z, ep] at e; exact (hu ⟨.none, .none, .dict #[] , #[]⟩).1 (Option.some.inj e).symm) e)
  · exact .inr ⟨o, F a _ (fun z => by rw [z, ep] at e; exact (hu o).2 (Option.some.inj e).symm) e⟩
theorem FrX.sqT (F : FrX p H H') (ep : H p = some (.ins C dx fs)) (h : SqT K H a xs) : SqT K H' a xs :=
  h.imp (fun r => F.rd ep (fun o => ⟨(fun z => by cases z), (fun z => by cases z)⟩) r) id
theorem FrX.sqL (F : FrX p H H') (ep : H p = some (.ins C dx fs)) (h : SqL K H a xs) : SqL K H' a xs :=
  h.imp (fun r => F.rd ep (fun o => ⟨(fun z => by cases z), (fun z => by cases z)⟩) r) id
theorem FrX.sq (F : FrX p H H') (ep : H p = some (.ins C dx fs)) (h : Sq K H a xs) : Sq K H' a xs := h.imp (F.sqL ep) (F.sqT ep)
theorem FrX.al {α : Type} {f : α → List V} {rs : List α} (F : FrX p H H') (ep : H p = some (.ins C dx fs)) (h : Al f H xs rs) : Al f H' xs rs :=
  h.imp fun q ys e => F q _ (fun z => by rw [z, ep] at e; cases e) e
theorem FrX.dk (F : FrX p H H') (ep : H p = some (.ins C dx fs)) {d : Addr} {kvs : List (Key × V)} (h : H d = some (.dK kvs)) : H' d = some (.dK kvs) :=
  F d _ (fun z => by rw [z, ep] at h; cases h) h
end
/-- tuple() of a list or a tuple -/
theorem tup_of {K : PySem.W.Frag} {H : Hp} {a : Addr} {xs : List V} {Q : VK} (h : Sq K H a xs) (k : ∀ t H', Same H H' → SqT K H' t xs → Q (.ref t) H') :
    ∃ p ys, [V.ref a] = [V.ref p] ∧ ((SqL K H p ys ∧ ∀ l, H l = none → Q (.ref l) (upd H l (.tup ys))) ∨ (SqT K H p ys ∧ Q (.ref p) H)) := by
  rcases h with h | h
  · exact ⟨a, xs, rfl, .inl ⟨h, fun l nl => k l _ (Same.laid nl) (SqT.of upd_same)⟩⟩
  · exact ⟨a, xs, rfl, .inr ⟨h, k a _ (Same.refl _) h⟩⟩
def rTupOf (K : PySem.W.Frag) : List V → Hp → VK → Prop := fun xs H Q => ∃ a ys, xs = [V.ref a] ∧ Sq K H a ys ∧ ∀ t H', Same H H' → SqT K H' t ys → Q (.ref t) H'
theorem call_tupOf {X : Cx} : CallR X (.type "tuple") (rTupOf X.K) := by
  intro pins s σ H xs us Q I r h
  obtain ⟨a, ys, rfl, h, k⟩ := h
  exact call_tuple_of pins s σ H _ us Q I r (tup_of (Q := Q) h k)
def wof (tp dp tr dr tc tm dm tl : Addr) : List (Str × V) := [("_points", .ref tp), ("_point_by_name", .ref dp), ("_rules", .ref tr), ("_rule_by_name", .ref dr), ("_causes", .ref tc), ("_commands", .ref tm), ("_command_by_name", .ref dm), ("_relations", .ref tl)]
/-- works: what they are made of -/
structure Wks where
  xs : List V
  ks : List (Key × V)
  xr : List V
  kr : List (Key × V)
  xc : List V
  xm : List V
  km : List (Key × V)
  xl : List V
structure WoAt (K : PySem.W.Frag) (C : Addr) (H : Hp) (p : Addr) (W : Wks) : Prop where
  ex : ∃ dx tp dp tr dr tc tm dm tl, H p = some (.ins C dx (wof tp dp tr dr tc tm dm tl)) ∧ SqT K H tp W.xs ∧ H dp = some (.dK W.ks) ∧ SqT K H tr W.xr ∧ H dr = some (.dK W.kr) ∧
    SqT K H tc W.xc ∧ SqT K H tm W.xm ∧ H dm = some (.dK W.km) ∧ SqT K H tl W.xl
theorem WoAt.same {K : PySem.W.Frag} {C : Addr} {H H' : Hp} {p : Addr} {W : Wks} (h : WoAt K C H p W) (S : Same H H') : WoAt K C H' p W :=
  let ⟨dx, tp, dp, tr, dr, tc, tm, dm, tl, e0, e1, e2, e3, e4, e5, e6, e7, e8⟩ := h.ex
  have sq : ∀ {a xs}, SqT K H a xs → SqT K H' a xs := fun h => h.imp (fun r => Rd_same S r) id
  ⟨dx, tp, dp, tr, dr, tc, tm, dm, tl, S _ _ e0, sq e1, S _ _ e2, sq e3, S _ _ e4, sq e5, sq e6, S _ _ e7, sq e8⟩
/-- of the class -/
structure WoC (K : PySem.W.Frag) (C : Addr) : Prop where
  cl : Cls K C
  nPo : NoAttr K C "_points"
  nPd : NoAttr K C "_point_by_name"
  nRu : NoAttr K C "_rules"
  nRd : NoAttr K C "_rule_by_name"
  nCa : NoAttr K C "_causes"
  nCo : NoAttr K C "_commands"
  nCd : NoAttr K C "_command_by_name"
  nRe : NoAttr K C "_relations"
section
variable {P : Program} {w : World} {K : PySem.W.Frag} {mg : Str → Option Value} {base : Heap} {C : Addr}
/-- a check asked of a and d at any heap behind H -/
def Chk (p : Addr) (H : Hp) (sp : Sp) (a : Addr) (ks : List (Key × V)) : Prop := ∀ (d : Addr) (H1 : Hp) (Q1 : VK), FrX p H H1 → H1 d = some (.dK ks) → (∀ H2, Same H1 H2 → Q1 .non H2) → sp [.ref a, .ref d] H1 Q1 E0
def spInitW {αR αM : Type} (K : PySem.W.Frag) (C : Addr) (fR : αR → List V) (nR : αR → Str) (fM : αM → List V) (nM : αM → Str) (spR spC spM spL : Sp) : Sp := fun vs H Q _ =>
  ∃ (p a r c m l dx : Addr) (xs xr xc xm xl : List V) (ps : List Pt) (rr : List αR) (rm : List αM), vs = [.ref p, .ref a, .ref r, .ref c, .ref m, .ref l] ∧ H p = some (.ins C dx []) ∧
  Sq K H a xs ∧ Al fP H xs ps ∧ GoodPs ps ∧ Sq K H r xr ∧ Al fR H xr rr ∧ (rr.map nR).Nodup ∧ rr.length ≤ 1000 ∧ Sq K H c xc ∧ Sq K H m xm ∧ Al fM H xm rm ∧ (rm.map nM).Nodup ∧ rm.length ≤ 1000 ∧ Sq K H l xl ∧
  Chk p H spR r (kvs Pt.nm ps xs) ∧ Chk p H spC c (kvs nR rr xr) ∧ Chk p H spM m (kvs Pt.nm ps xs) ∧ Chk p H spL l (kvs Pt.nm ps xs) ∧
  ∀ H', WoAt K C H' p ⟨xs, kvs Pt.nm ps xs, xr, kvs nR rr xr, xc, xm, kvs nM rm xm, xl⟩ → FrX p H H' → Q .non H'
end
end V59

set_option maxHeartbeats 8000000
namespace V59
open PySem PySem.Spec PyProof.Rows L2 Pw
section
variable {P : Program} {w : World} {K : PySem.W.Frag} {mg : Str → Option Value} {base : Heap} {C : Addr}
theorem ok_initW {αR αM : Type} {fR : αR → List V} {nR : αR → Str} {fM : αM → List V} {nM : αM → Str} {spR spC spM spL : Sp} {f0 : Addr} {fd : FuncData} {kws : List (Str × V)} (T : Txt mg) (W : WoC K C)
    (F : FunD K "__init__" "Works.__init__" (defArgs mWorks_Init) (defBody mWorks_Init) (defScope mWorks_Init) [] kws f0 fd)
    (dP : Def P w K mg base "check_points" 5 ["points"] (spPoints K)) (dN : ∀ {α : Type} (f : α → List V) (nm : α → Str), Def P w K mg base "by_name" 1 ["rows"] (spByName K f nm))
    (dR : Def P w K mg base "check_rules" 5 ["rules", "points"] spR) (dC : Def P w K mg base "check_causes" 5 ["causes", "rules"] spC)
    {km : Nat} (hkm : km ≤ 13) (dM : Def P w K mg base "check_commands" km ["commands", "points"] spM) {kl : Nat} (hkl : kl ≤ 13) (dL : Def P w K mg base "check_relations" kl ["relations", "points"] spL)
    (hR : ∀ r, ∃ tl, fR r = .str (nR r) :: tl) (hM : ∀ r, ∃ tl, fM r = .str (nM r) :: tl) :
    FnOk P w K mg base CX0 14 f0 fd ["self", "points", "rules", "causes", "commands", "relations"] (spInitW K C fR nR fM nM spR spC spM spL) := by
  refine mkFnI F scmWorks_Init (fun vs H Q E ⟨_, _, _, _, _, _, _, _, _, _, _, _, _, _, _, e, _⟩ => by rw [e]; rfl)
    (fun f cdv A out s H vs Q E hr h => ?_)
  obtain ⟨p, a, r, c, m, l, dx, xs, xr, xc, xm, xl, ps, rr, rm, rfl, ep, hs, al, g, hr1, alr, ndr, lnr, hc, hm, alm, ndm, lnm, hl, cR, cC, cM, cL, k⟩ := h
  refine ⟨_, (pss_cons (ps_expr (pe_d dP hr (by decide) (by rfl) (pa_cons (pv 1) pa_nil)))
    (pss_cons (ps_fld (pv 0) (pe_callTy call_tupOf (by rfl) T.tuple (by decide +kernel) (pa_cons (pv 1) pa_nil)) rfl)
    (pss_cons (ps_fld (pv 0) (pe_d (dN fP Pt.nm) hr (by decide) (by rfl) (pa_cons (pv 1) pa_nil)) rfl)
    (pss_cons (ps_expr (pe_d dR hr (by decide) (by rfl) (pa_cons (pv 2) (pa_cons (pe_fld (pv 0) rfl) pa_nil))))
    (pss_cons (ps_fld (pv 0) (pe_callTy call_tupOf (by rfl) T.tuple (by decide +kernel) (pa_cons (pv 2) pa_nil)) rfl)
    (pss_cons (ps_fld (pv 0) (pe_d (dN fR nR) hr (by decide) (by rfl) (pa_cons (pv 2) pa_nil)) rfl)
    (pss_cons (ps_expr (pe_d dC hr (by decide) (by rfl) (pa_cons (pv 3) (pa_cons (pe_fld (pv 0) rfl) pa_nil))))
    (pss_cons (ps_fld (pv 0) (pe_callTy call_tupOf (by rfl) T.tuple (by decide +kernel) (pa_cons (pv 3) pa_nil)) rfl)
    (pss_cons (ps_expr (pe_d dM hr hkm (by rfl) (pa_cons (pv 4) (pa_cons (pe_fld (pv 0) rfl) pa_nil))))
    (pss_cons (ps_fld (pv 0) (pe_callTy call_tupOf (by rfl) T.tuple (by decide +kernel) (pa_cons (pv 4) pa_nil)) rfl)
    (pss_cons (ps_fld (pv 0) (pe_d (dN fM nM) hr (by decide) (by rfl) (pa_cons (pv 4) pa_nil)) rfl)
    (pss_cons (ps_expr (pe_d dL hr hkl (by rfl) (pa_cons (pv 5) (pa_cons (pe_fld (pv 0) rfl) pa_nil))))
    (pss_one (ps_fld (pv 0) (pe_callTy call_tupOf (by rfl) T.tuple (by decide +kernel) (pa_cons (pv 5) pa_nil)) rfl)))))))))))))), ?_⟩
  -- a store
  have put : ∀ {G : Hp} {fs fs' : List (Str × V)} {y : Str} {v : V}, G p = some (.ins C dx fs) → putF y v fs = fs' → ∀ G', G' = upd G p (.ins C dx (putF y v fs)) → G' p = some (.ins C dx fs') ∧ FrX p G G' := by
    rintro G fs fs' y v e e2 G' rfl
    exact ⟨by rw [upd_same, e2], FrX.put⟩
  refine ⟨_, rfl, a, xs, ps, rfl, hs, al, g, fun G1 S1 => ?_⟩
  have E1 := S1 _ _ ep
  have F1 : FrX p H G1 := .of S1
  -- _points
  refine ⟨_, rfl, a, xs, rfl, F1.sq ep hs, fun tp G2 S2 h1 => ?_⟩
  have E2 := S2 _ _ E1
  refine ⟨_, rfl, p, C, dx, _, rfl, E2, W.cl, W.nPo, by show 0 < 1000; decide, ?_⟩
  obtain ⟨E3, X3⟩ := put E2 (y := "_points") (v := .ref tp) (fs' := [("_points", .ref tp)]) rfl _ rfl
  generalize upd G2 p (.ins C dx (putF "_points" (.ref tp) [])) = G3 at *
  have F3 : FrX p H G3 := F1.trans ((FrX.of S2).trans X3)
  have h1 := X3.sqT E2 h1
  -- _point_by_name
  refine ⟨_, rfl, a, xs, ps, rfl, F3.sq ep hs, F3.al ep al, (fun r => ⟨_, rfl⟩), g.nd, (by have := g.len; omega), fun dp G4 S4 _ h2 => ?_⟩
  have E4 := S4 _ _ E3
  refine ⟨_, rfl, p, C, dx, _, rfl, E4, W.cl, W.nPd, by show 1 < 1000; decide, ?_⟩
  obtain ⟨E5, X5⟩ := put E4 (y := "_point_by_name") (v := .ref dp) (fs' := [("_points", .ref tp), ("_point_by_name", .ref dp)]) (by rw [put_ne (by decide +kernel)]; rfl) _ rfl
  generalize upd G4 p (.ins C dx (putF "_point_by_name" (.ref dp) [("_points", .ref tp)])) = G5 at *
  have Y5 : FrX p G3 G5 := (FrX.of S4).trans X5
  have F5 := F3.trans Y5
  have h1 := Y5.sqT E3 h1
  have h2 := X5.dk E4 h2
  -- rules
  refine ⟨_, rfl, _, rfl, p, C, dx, _, _, rfl, E5, W.cl, W.nPd, (lk_ne (by decide +kernel)).trans lk_eq, ?_⟩
  refine cR dp G5 _ F5 h2 fun G6 S6 => ?_
  have E6 := S6 _ _ E5
  have F6 := F5.trans (FrX.of S6)
  refine ⟨_, rfl, r, xr, rfl, F6.sq ep hr1, fun tr G7 S7 h3 => ?_⟩
  have E7 := S7 _ _ E6
  refine ⟨_, rfl, p, C, dx, _, rfl, E7, W.cl, W.nRu, by show 2 < 1000; decide, ?_⟩
  obtain ⟨E8, X8⟩ := put E7 (y := "_rules") (v := .ref tr) (fs' := [("_points", .ref tp), ("_point_by_name", .ref dp), ("_rules", .ref tr)]) (by rw [put_ne (by decide +kernel), put_ne (by decide +kernel)]; rfl) _ rfl
  generalize upd G7 p (.ins C dx (putF "_rules" (.ref tr) [("_points", .ref tp), ("_point_by_name", .ref dp)])) = G8 at *
  have Y8 : FrX p G5 G8 := (FrX.of (S6.trans S7)).trans X8
  have F8 := F5.trans Y8
  have h1 := Y8.sqT E5 h1
  have h2 := Y8.dk E5 h2
  have h3 := X8.sqT E7 h3
  refine ⟨_, rfl, r, xr, rr, rfl, F8.sq ep hr1, F8.al ep alr, hR, ndr, lnr, fun dr G9 S9 _ h4 => ?_⟩
  have E9 := S9 _ _ E8
  refine ⟨_, rfl, p, C, dx, _, rfl, E9, W.cl, W.nRd, by show 3 < 1000; decide, ?_⟩
  obtain ⟨E10, X10⟩ := put E9 (y := "_rule_by_name") (v := .ref dr) (fs' := [("_points", .ref tp), ("_point_by_name", .ref dp), ("_rules", .ref tr), ("_rule_by_name", .ref dr)]) (by rw [put_ne (by decide +kernel), put_ne (by decide +kernel), put_ne (by decide +kernel)]; rfl) _ rfl
  generalize upd G9 p (.ins C dx (putF "_rule_by_name" (.ref dr) [("_points", .ref tp), ("_point_by_name", .ref dp), ("_rules", .ref tr)])) = G10 at *
  have Y10 : FrX p G8 G10 := (FrX.of S9).trans X10
  have F10 := F8.trans Y10
  have h1 := Y10.sqT E8 h1
  have h2 := Y10.dk E8 h2
  have h3 := Y10.sqT E8 h3
  have h4 := X10.dk E9 h4
  -- causes
  refine ⟨_, rfl, _, rfl, p, C, dx, _, _, rfl, E10, W.cl, W.nRd, (lk_ne (by decide +kernel)).trans ((lk_ne (by decide +kernel)).trans ((lk_ne (by decide +kernel)).trans lk_eq)), ?_⟩
  refine cC dr G10 _ F10 h4 fun G11 S11 => ?_
  have E11 := S11 _ _ E10
  have F11 := F10.trans (FrX.of S11)
  refine ⟨_, rfl, c, xc, rfl, F11.sq ep hc, fun tc G12 S12 h5 => ?_⟩
  have E12 := S12 _ _ E11
  refine ⟨_, rfl, p, C, dx, _, rfl, E12, W.cl, W.nCa, by show 4 < 1000; decide, ?_⟩
  obtain ⟨E13, X13⟩ := put E12 (y := "_causes") (v := .ref tc) (fs' := [("_points", .ref tp), ("_point_by_name", .ref dp), ("_rules", .ref tr), ("_rule_by_name", .ref dr), ("_causes", .ref tc)]) (by rw [put_ne (by decide +kernel), put_ne (by decide +kernel), put_ne (by decide +kernel), put_ne (by decide +kernel)]; rfl) _ rfl
  generalize upd G12 p (.ins C dx (putF "_causes" (.ref tc) [("_points", .ref tp), ("_point_by_name", .ref dp), ("_rules", .ref tr), ("_rule_by_name", .ref dr)])) = G13 at *
  have Y13 : FrX p G10 G13 := (FrX.of (S11.trans S12)).trans X13
  have F13 := F10.trans Y13
  have h1 := Y13.sqT E10 h1
  have h2 := Y13.dk E10 h2
  have h3 := Y13.sqT E10 h3
  have h4 := Y13.dk E10 h4
  have h5 := X13.sqT E12 h5
  -- commands
  refine ⟨_, rfl, _, rfl, p, C, dx, _, _, rfl, E13, W.cl, W.nPd, (lk_ne (by decide +kernel)).trans lk_eq, ?_⟩
  refine cM dp G13 _ F13 h2 fun G14 S14 => ?_
  have E14 := S14 _ _ E13
  have F14 := F13.trans (FrX.of S14)
  refine ⟨_, rfl, m, xm, rfl, F14.sq ep hm, fun tm G15 S15 h6 => ?_⟩
  have E15 := S15 _ _ E14
  refine ⟨_, rfl, p, C, dx, _, rfl, E15, W.cl, W.nCo, by show 5 < 1000; decide, ?_⟩
  obtain ⟨E16, X16⟩ := put E15 (y := "_commands") (v := .ref tm) (fs' := [("_points", .ref tp), ("_point_by_name", .ref dp), ("_rules", .ref tr), ("_rule_by_name", .ref dr), ("_causes", .ref tc), ("_commands", .ref tm)]) (by rw [put_ne (by decide +kernel), put_ne (by decide +kernel), put_ne (by decide +kernel), put_ne (by decide +kernel), put_ne (by decide +kernel)]; rfl) _ rfl
  generalize upd G15 p (.ins C dx (putF "_commands" (.ref tm) [("_points", .ref tp), ("_point_by_name", .ref dp), ("_rules", .ref tr), ("_rule_by_name", .ref dr), ("_causes", .ref tc)])) = G16 at *
  have Y16 : FrX p G13 G16 := (FrX.of (S14.trans S15)).trans X16
  have F16 := F13.trans Y16
  have h1 := Y16.sqT E13 h1
  have h2 := Y16.dk E13 h2
  have h3 := Y16.sqT E13 h3
  have h4 := Y16.dk E13 h4
  have h5 := Y16.sqT E13 h5
  have h6 := X16.sqT E15 h6
  refine ⟨_, rfl, m, xm, rm, rfl, F16.sq ep hm, F16.al ep alm, hM, ndm, lnm, fun dm G17 S17 _ h7 => ?_⟩
  have E17 := S17 _ _ E16
  refine ⟨_, rfl, p, C, dx, _, rfl, E17, W.cl, W.nCd, by show 6 < 1000; decide, ?_⟩
  obtain ⟨E18, X18⟩ := put E17 (y := "_command_by_name") (v := .ref dm) (fs' := [("_points", .ref tp), ("_point_by_name", .ref dp), ("_rules", .ref tr), ("_rule_by_name", .ref dr), ("_causes", .ref tc), ("_commands", .ref tm), ("_command_by_name", .ref dm)]) (by rw [put_ne (by decide +kernel), put_ne (by decide +kernel), put_ne (by decide +kernel), put_ne (by decide +kernel), put_ne (by decide +kernel), put_ne (by decide +kernel)]; rfl) _ rfl
  generalize upd G17 p (.ins C dx (putF "_command_by_name" (.ref dm) [("_points", .ref tp), ("_point_by_name", .ref dp), ("_rules", .ref tr), ("_rule_by_name", .ref dr), ("_causes", .ref tc), ("_commands", .ref tm)])) = G18 at *
  have Y18 : FrX p G16 G18 := (FrX.of S17).trans X18
  have F18 := F16.trans Y18
  have h1 := Y18.sqT E16 h1
  have h2 := Y18.dk E16 h2
  have h3 := Y18.sqT E16 h3
  have h4 := Y18.dk E16 h4
  have h5 := Y18.sqT E16 h5
  have h6 := Y18.sqT E16 h6
  have h7 := X18.dk E17 h7
  -- relations
  refine ⟨_, rfl, _, rfl, p, C, dx, _, _, rfl, E18, W.cl, W.nPd, (lk_ne (by decide +kernel)).trans lk_eq, ?_⟩
  refine cL dp G18 _ F18 h2 fun G19 S19 => ?_
  have E19 := S19 _ _ E18
  have F19 := F18.trans (FrX.of S19)
  refine ⟨_, rfl, l, xl, rfl, F19.sq ep hl, fun tl G20 S20 h8 => ?_⟩
  have E20 := S20 _ _ E19
  refine ⟨_, rfl, p, C, dx, _, rfl, E20, W.cl, W.nRe, by show 7 < 1000; decide, ?_⟩
  obtain ⟨E21, X21⟩ := put E20 (y := "_relations") (v := .ref tl) (fs' := wof tp dp tr dr tc tm dm tl) (by rw [put_ne (by decide +kernel), put_ne (by decide +kernel), put_ne (by decide +kernel), put_ne (by decide +kernel), put_ne (by decide +kernel), put_ne (by decide +kernel), put_ne (by decide +kernel)]; rfl) _ rfl
  generalize upd G20 p _ = G21 at *
  have Y21 : FrX p G18 G21 := (FrX.of (S19.trans S20)).trans X21
  have F21 := F18.trans Y21
  exact k _ ⟨dx, tp, dp, tr, dr, tc, tm, dm, tl, E21, Y21.sqT E18 h1, Y21.dk E18 h2, Y21.sqT E18 h3, Y21.dk E18 h4, Y21.sqT E18 h5, Y21.sqT E18 h6, Y21.dk E18 h7, X21.sqT E20 h8⟩ F21
end
end V59

namespace V59
open PySem PySem.Spec PyProof.Rows L2 Pw
theorem kvs_get {α : Type} (nm : α → Str) : ∀ {rs : List α} {vs : List V} {i : Nat} {r : α} {v : V}, (rs.map nm).Nodup → rs[i]? = some r → vs[i]? = some v → valV (kvs nm rs vs) (.inr (nm r)) = some v
  | [], _, _, _, _, _, h, _ => by simp at h
  | _ :: _, [], _, _, _, _, _, h => by simp at h
  | a :: rs, x :: vs, 0, r, v, nd, h1, h2 => by
    simp only [List.getElem?_cons_zero, Option.some.injEq] at h1 h2
    subst h1 h2
    show valV ((Sum.inr (nm a), x) :: kvs nm rs vs) _ = _
    unfold valV
    rw [List.find?_cons, decide_eq_true rfl]
    rfl
  | a :: rs, x :: vs, i + 1, r, v, nd, h1, h2 => by
    simp only [List.getElem?_cons_succ] at h1 h2
    have nd' := List.nodup_cons.mp nd
    have ne : (Sum.inr (nm a) : Key) ≠ .inr (nm r) := fun z => nd'.1 (by rw [Sum.inr.inj z]; exact List.mem_map.mpr ⟨r, List.mem_of_getElem? h1, rfl⟩)
    have ih := kvs_get nm nd'.2 h1 h2
    show valV ((Sum.inr (nm a), x) :: kvs nm rs vs) _ = _
    unfold valV at ih ⊢
    rw [List.find?_cons, decide_eq_false ne]
    exact ih
theorem kvs_no {α : Type} (nm : α → Str) {rs : List α} {vs : List V} {x : Str} (hl : rs.length = vs.length) (h : x ∉ rs.map nm) : valV (kvs nm rs vs) (.inr x) = none := by
  unfold valV
  rw [Option.map_eq_none_iff, List.find?_eq_none]
  intro p hp e
  have e' : p.1 = .inr x := of_decide_eq_true e
  have : p.1 ∈ (kvs nm rs vs).map Prod.fst := List.mem_map.mpr ⟨p, hp, rfl⟩
  rw [kvs_keys nm hl, e'] at this
  obtain ⟨r, hr, er⟩ := List.mem_map.mp this
  exact h (List.mem_map.mpr ⟨r, hr, Sum.inr.inj er⟩)
theorem wof_no {m : Str} {tp dp tr dr tc tm dm tl : Addr} (h1 : (m == ("_points" : Str)) = false) (h2 : (m == ("_point_by_name" : Str)) = false) (h3 : (m == ("_rules" : Str)) = false) (h4 : (m == ("_rule_by_name" : Str)) = false)
    (h5 : (m == ("_causes" : Str)) = false) (h6 : (m == ("_commands" : Str)) = false) (h7 : (m == ("_command_by_name" : Str)) = false) (h8 : (m == ("_relations" : Str)) = false) : (wof tp dp tr dr tc tm dm tl).lookup m = none := by
  unfold wof
  rw [lk_ne h1, lk_ne h2, lk_ne h3, lk_ne h4, lk_ne h5, lk_ne h6, lk_ne h7, lk_ne h8]
  rfl
/-- works of such points -/
structure WoP (K : PySem.W.Frag) (C : Addr) (H : Hp) (p : Addr) (W : Wks) (ps : List Pt) : Prop where
  wo : WoAt K C H p W
  ks : W.ks = kvs Pt.nm ps W.xs
  al : Al fP H W.xs ps
  g : GoodPs ps
theorem WoP.same {K : PySem.W.Frag} {C : Addr} {H H' : Hp} {p : Addr} {W : Wks} {ps : List Pt} (h : WoP K C H p W ps) (S : Same H H') : WoP K C H' p W ps := ⟨h.wo.same S, h.ks, h.al.same S, h.g⟩
/-- of the class: what isinstance asks -/
structure WoQ (K : PySem.W.Frag) (C : Addr) : Prop where
  c1 : PySem.W.findIn K (.ref C) "__class__" = some (some (.builtin "object.__class__"))
  c2 : PySem.W.specialIn K (.builtin "object.__class__") "__get__" = some (some (.builtin "getset_descriptor.__get__"))
  c3 : PySem.W.takesIn K (.builtin "object.__class__") = some true
  mo : PySem.W.mroIn K C (.type "object") = some true
  kit : PySem.W.kitOne K (.ref C) (.ref C) = some true
def hiP (pt : Pt) : Int := if pt.sw = true then 1 else 63
section
variable {P : Program} {w : World} {K : PySem.W.Frag} {mg : Str → Option Value} {base : Heap} {C : Addr}
def spWorthOf (K : PySem.W.Frag) : Sp := fun vs H Q _ => ∃ (q : Addr) (pt : Pt) (x : V) (t : Value), vs = [.ref q, x] ∧ H q = some (.tup (fP pt)) ∧ Ty K H x t ∧ Q (.bl (wholeB x 0 (hiP pt))) H
theorem d_worthOf (T : Txt mg) (A : At K mg "is_worth_of" sIsWorthOf) (dw : Def P w K mg base "is_whole" 3 ["thing", "low", "high"] (spWhole K)) : Def P w K mg base "is_worth_of" 4 ["point", "thing"] (spWorthOf K) := by
  refine mkDef A scIsWorthOf (fun _ _ _ _ _ _ us hl => match us, hl with | [_, _], _ => rfl) (fun vs H Q E ⟨_, _, _, _, e, _⟩ => by rw [e]; rfl)
    (fun f cdv A out s H vs Q E hr h => ?_)
  obtain ⟨q, pt, x, t, rfl, e, ty, k⟩ := h
  refine ⟨_, (pss_one (ps_ret (pe_d dw hr (by decide) (by rfl) (pa_cons (pv 1) (pa_cons pe_int (pa_cons (pe_ifExp (pt_cmpR op_eq (pe_ix (r := rIxT K) ix_tup (pv 0) pe_int (fun _ _ => rfl)) pe_str (nomark _)) (pe_gi T.cMOST_LEVEL) pe_int) pa_nil)))))), ?_⟩
  refine ⟨_, rfl, _, rfl, q, _, 2, .str (kd pt.sw), rfl, rfl, SqT.of e, rfl, rfl, _, rfl, ?_⟩
  rw [kd_level]
  unfold hiP at k
  cases hsw : pt.sw with
  | true =>
    rw [hsw] at k
    exact iteF ⟨x, t, 0, 1, rfl, ty, k⟩
  | false =>
    rw [hsw] at k
    exact iteT ⟨x, t, 0, 63, rfl, ty, k⟩
def spPts (C : Addr) (K : PySem.W.Frag) : Sp := fun vs H Q _ => ∃ p W ps, vs = [.ref p] ∧ WoP K C H p W ps ∧ ∀ l H', Same H H' → H l = none → H' l = some (.lst W.xs) → Q (.ref l) H'
theorem d_pts (T : Txt mg) (Wc : WoC K C) (A : AtMt K C "points" "Works.points" mWorks_Points) : DefM P w K mg base C "points" 1 ["self"] (spPts C K) := by
  refine mkDefM A scmWorks_Points (fun _ _ _ _ _ _ us hl => match us, hl with | [_], _ => rfl) (fun vs H Q E ⟨_, _, _, e, _⟩ => by rw [e]; rfl)
    (fun f cdv A out s H vs Q E hr h => ?_)
  obtain ⟨p, W, ps, rfl, hw, k⟩ := h
  obtain ⟨dx, tp, dp, tr, dr, tc, tm, dm, tl, e0, e1, e2, _⟩ := hw.wo.ex
  refine ⟨_, (pss_one (ps_ret (pe_callTy call_list_of (by rfl) T.list (by decide +kernel) (pa_cons (pe_fld (pv 0) rfl) pa_nil)))), ?_⟩
  refine ⟨_, rfl, p, C, dx, _, _, rfl, e0, Wc.cl, Wc.nPo, lk_eq, tp, W.xs, rfl, .inr e1, fun l nl => ?_⟩
  exact k l _ (Same.laid nl) nl upd_same
def spHasP (C : Addr) (K : PySem.W.Frag) : Sp := fun vs H Q _ => ∃ p W ps nm, vs = [.ref p, .str nm] ∧ WoP K C H p W ps ∧ OkName nm ∧ ∀ H', Same H H' → Q (.bl (decide (nm ∈ ps.map Pt.nm))) H'
theorem d_hasP (Wc : WoC K C) (A : AtMt K C "has_point" "Works.has_point" mWorks_HasPoint) (dn : Def P w K mg base "is_name" 1 ["thing"] (spName K)) :
    DefM P w K mg base C "has_point" 2 ["self", "thing"] (spHasP C K) := by
  refine mkDefM A scmWorks_HasPoint (fun _ _ _ _ _ _ us hl => match us, hl with | [_, _], _ => rfl) (fun vs H Q E ⟨_, _, _, _, e, _⟩ => by rw [e]; rfl)
    (fun f cdv A out s H vs Q E hr h => ?_)
  obtain ⟨p, W, ps, nm, rfl, hw, on, k⟩ := h
  have hu : (A.deeper (envOfC "Works.has_point" (defScope mWorks_HasPoint) s.heap.objs.size f cdv)).units + 1 < cLine := hu_of hr
  refine ⟨_, (pss_one (ps_ret (pe_and (pe_d dn hr (by decide) (by rfl) (pa_cons (pv 1) pa_nil)) (pe_one (pe_cmp (pc_din hu (pv 1) (pe_fld (pv 0) rfl)) rfl))))), ?_⟩
  refine ⟨_, rfl, .str nm, _, rfl, .str _, on.sh, fun H1 S1 => ⟨true, congrArg V.bl on.b, iteT ?_⟩⟩
  have hw1 := hw.same S1
  obtain ⟨dx, tp, dp, tr, dr, tc, tm, dm, tl, e0, e1, e2, _⟩ := hw1.wo.ex
  have hl := hw.al.length.symm
  rw [hw.ks] at e2
  refine ⟨_, rfl, _, rfl, p, C, dx, _, _, rfl, e0, Wc.cl, Wc.nPd, (lk_ne (by decide +kernel)).trans lk_eq, dp, _, rfl, .inl ⟨_, .inr nm, .inl e2, rfl, rfl⟩, ?_⟩
  by_cases hm : nm ∈ ps.map Pt.nm
  · obtain ⟨pt, hpt, rfl⟩ := List.mem_map.mp hm
    obtain ⟨i, hi, ei⟩ := List.getElem_of_mem hpt
    obtain ⟨q, hq, _⟩ := hw1.al.at (List.getElem?_eq_some_iff.mpr ⟨hi, ei⟩)
    rw [kvs_get Pt.nm hw.g.nd (List.getElem?_eq_some_iff.mpr ⟨hi, ei⟩) hq]
    rw [decide_eq_true hm] at k
    exact k _ S1
  · rw [kvs_no Pt.nm hl hm]
    rw [decide_eq_false hm] at k
    exact k _ S1
def spPoint (C : Addr) (K : PySem.W.Frag) : Sp := fun vs H Q _ => ∃ p W ps pt, vs = [.ref p, .str (Pt.nm pt)] ∧ WoP K C H p W ps ∧ pt ∈ ps ∧ ∀ q H', Same H H' → H' q = some (.tup (fP pt)) → Q (.ref q) H'
theorem d_point (Wc : WoC K C) (A : AtMt K C "point" "Works.point" mWorks_Point) (dh : DefM P w K mg base C "has_point" 2 ["self", "thing"] (spHasP C K)) :
    DefM P w K mg base C "point" 3 ["self", "name"] (spPoint C K) := by
  refine mkDefM A scmWorks_Point (fun _ _ _ _ _ _ us hl => match us, hl with | [_, _], _ => rfl) (fun vs H Q E ⟨_, _, _, _, e, _⟩ => by rw [e]; rfl)
    (fun f cdv A out s H vs Q E hr h => ?_)
  obtain ⟨p, W, ps, pt, rfl, hw, hpt, k⟩ := h
  have hu : (A.deeper (envOfC "Works.point" (defScope mWorks_Point) s.heap.objs.size f cdv)).units + 1 < cLine := hu_of hr
  refine ⟨_, (pss_cons (ps_if (pt_not (pt_val (pe_mm (pv 0) Wc.cl dh hr (by decide) (pa_cons (pv 1) pa_nil))))
      (pss_one ps_never)
      pss_nil)
    (pss_one (ps_ret (pe_dget hu (pe_fld (pv 0) rfl) (pv 1) (fun _ _ => rfl))))), ?_⟩
  obtain ⟨dx, tp, dp, tr, dr, tc, tm, dm, tl, e0, _⟩ := hw.wo.ex
  refine ⟨_, rfl, p, dx, _, rfl, e0, wof_no (by decide +kernel) (by decide +kernel) (by decide +kernel) (by decide +kernel) (by decide +kernel) (by decide +kernel) (by decide +kernel) (by decide +kernel), _, rfl, p, W, ps, pt.nm, rfl, hw, (hw.g.all pt hpt).nm, fun H1 S1 => ?_⟩
  rw [decide_eq_true (List.mem_map.mpr ⟨pt, hpt, rfl⟩)]
  refine ⟨_, rfl, iteF ?_⟩
  have hw1 := hw.same S1
  obtain ⟨dx, tp, dp, tr, dr, tc, tm, dm, tl, e0, e1, e2, _⟩ := hw1.wo.ex
  rw [hw.ks] at e2
  obtain ⟨i, hi, ei⟩ := List.getElem_of_mem hpt
  have ei' := List.getElem?_eq_some_iff.mpr ⟨hi, ei⟩
  obtain ⟨q, hq, eq⟩ := hw1.al.at ei'
  refine ⟨_, rfl, p, C, dx, _, _, rfl, e0, Wc.cl, Wc.nPd, (lk_ne (by decide +kernel)).trans lk_eq, _, rfl, dp, .ref q, rfl, .inl ⟨_, .inr pt.nm, .inl e2, rfl, (kvs_get Pt.nm hw.g.nd ei' hq).symm⟩, ?_⟩
  exact k q _ S1 eq
def spIsWorth (C : Addr) (K : PySem.W.Frag) : Sp := fun vs H Q _ => ∃ p W ps pt x t, vs = [.ref p, .str (Pt.nm pt), x] ∧ WoP K C H p W ps ∧ pt ∈ ps ∧ (∀ H', Ty K H' x t) ∧ ∀ H', Same H H' → Q (.bl (wholeB x 0 (hiP pt))) H'
theorem d_isWorth (Wc : WoC K C) (A : AtMt K C "is_worth" "Works.is_worth" mWorks_IsWorth) (dp : DefM P w K mg base C "point" 3 ["self", "name"] (spPoint C K)) (dw : Def P w K mg base "is_worth_of" 4 ["point", "thing"] (spWorthOf K)) :
    DefM P w K mg base C "is_worth" 5 ["self", "point", "thing"] (spIsWorth C K) := by
  refine mkDefM A scmWorks_IsWorth (fun _ _ _ _ _ _ us hl => match us, hl with | [_, _, _], _ => rfl) (fun vs H Q E ⟨_, _, _, _, _, _, e, _⟩ => by rw [e]; rfl)
    (fun f cdv A out s H vs Q E hr h => ?_)
  obtain ⟨p, W, ps, pt, x, t, rfl, hw, hpt, ty, k⟩ := h
  refine ⟨_, (pss_one (ps_ret (pe_d dw hr (by decide) (by rfl) (pa_cons (pe_mm (pv 0) Wc.cl dp hr (by decide) (pa_cons (pv 1) pa_nil)) (pa_cons (pv 2) pa_nil))))), ?_⟩
  obtain ⟨dx, tp, dp', tr, dr, tc, tm, dm, tl, e0, _⟩ := hw.wo.ex
  refine ⟨_, rfl, p, dx, _, rfl, e0, wof_no (by decide +kernel) (by decide +kernel) (by decide +kernel) (by decide +kernel) (by decide +kernel) (by decide +kernel) (by decide +kernel) (by decide +kernel), _, rfl, p, W, ps, pt, rfl, hw, hpt, fun q H1 S1 eq => ?_⟩
  exact ⟨_, rfl, q, pt, x, t, rfl, eq, ty H1, k H1 S1⟩
def spWorksC (C : Addr) (K : PySem.W.Frag) : Sp := fun vs H Q _ => ∃ p W, vs = [.ref p] ∧ WoAt K C H p W ∧ Q .non H
theorem d_worksC (T : Txt mg) (Wc : WoC K C) (Wq : WoQ K C) (hC : mg "Works" = some (.ref C)) (A : At K mg "check_works" sCheckWorks) : Def P w K mg base "check_works" 1 ["thing"] (spWorksC C K) := by
  refine mkDef A scCheckWorks (fun _ _ _ _ _ _ us hl => match us, hl with | [_], _ => rfl) (fun vs H Q E ⟨_, _, e, _⟩ => by rw [e]; rfl)
    (fun f cdv A out s H vs Q E hr h => ?_)
  obtain ⟨p, W, rfl, hw, k⟩ := h
  obtain ⟨dx, tp, dp, tr, dr, tc, tm, dm, tl, e0, _⟩ := hw.ex
  refine ⟨_, (pss_one (ps_if (pt_not (pt_val (pe_callB call_isa (by rfl) T.isinstance PyProof.Rows.boot_isinstance (pa_cons (pv 0) (pa_cons (pe_glob (v := V.ref C) (by rfl) hC rfl) pa_nil)))))
      (pss_one ps_never)
      pss_nil)), ?_⟩
  exact ⟨_, rfl, .ref p, .ref C, .ref C, .ref C, true, rfl, .own C, .base (.base (.ins e0 Wc.cl Wq.c1 Wq.c2 Wq.c3 Wq.mo)), Wq.kit, _, rfl, iteF k⟩
end
end V59

namespace Pw
open PySem PySem.Spec PyProof.Rows L2
/-- a list or a tuple, by a word of one's own that keeps it -/
def iSqG (K : PySem.W.Frag) (tl : TE) : TI := fun σ H R => tl σ H fun x H1 => ∃ a xs, ∃ g : Hp → Prop, x = .ref a ∧ g H1 ∧ ((∀ H', g H' → SqL K H' a xs) ∨ (∀ H', g H' → SqT K H' a xs)) ∧
  ∀ (J : It) (G : Hp → Prop), (∀ H', g H' → G H') → Walk J xs.length G (YAt xs) → R J H1
theorem pi_sqG {X : Cx} {tg l : Expr} {tl : TE} (hl : PE X l tl) : PI X tg l (iSqG X.K tl) := by
  refine ⟨fun pins s σ H R I h => ?_⟩
  refine thn (hl.run pins s σ H _ I h) fun v s1 hv => ?_
  obtain ⟨x, H1, I1, r1, a, xs, g, rfl, g1, hs, q⟩ := hv
  obtain rfl : v = Value.ref a := r1
  rcases hs with hq | hq
  · obtain ⟨its, rv, p, hz⟩ := I1.list (hq _ g1)
    refine wpAny_pyIter_list (PlainL.isList p) ⟨s1.heap.objs.size, [s1.heap.objs.size], fun i h => h.IsListIter s1.heap.objs.size a i, Itl X.K a, H1, rfl, I1.kept fun b o e => Heap.get?_push_of_some _ e, turn_list a _,
      ⟨_, Heap.get?_push_size _ rfl, rfl, rfl⟩, fun b hb => ?_, q _ (fun H => SqL X.K H a xs) hq walk_list⟩
    rw [List.mem_singleton.mp hb]
    exact I1.fpOk (Nat.le_refl _) (HOk.fresh I1.hok (Nat.le_refl _))
  · obtain ⟨its, rv, p, hz⟩ := I1.tuple (hq _ g1)
    refine wpAny_pyIter_tuple p ⟨s1.heap.objs.size, [s1.heap.objs.size], fun i h => h.IsTupleIter s1.heap.objs.size a i, Itt X.K a, H1, rfl, I1.kept fun b o e => Heap.get?_push_of_some _ e, turn_tuple a _,
      ⟨_, Heap.get?_push_size _ rfl, rfl, rfl⟩, fun b hb => ?_, q _ (fun H => SqT X.K H a xs) hq walk_tup⟩
    rw [List.mem_singleton.mp hb]
    exact I1.fpOk (Nat.le_refl _) (HOk.fresh I1.hok (Nat.le_refl _))
theorem Sq.ok {K : PySem.W.Frag} {H : Hp} {a : Addr} {xs : List V} (h : Sq K H a xs) : (∀ H', Same H H' → SqL K H' a xs) ∨ (∀ H', Same H H' → SqT K H' a xs) :=
  h.imp (fun z H' S => Same.seq S z) fun z H' S => z.imp (fun r => Rd_same S r) id
end Pw

set_option maxHeartbeats 8000000
namespace V59
open PySem PySem.Spec PyProof.Rows L2 Pw
theorem pt_in {K : PySem.W.Frag} {H : Hp} {d : Addr} {xp : List V} {ps : List Pt} {nm : Str} (ed : H d = some (.dK (kvs Pt.nm ps xp))) (al : Al fP H xp ps) (nd : (ps.map Pt.nm).Nodup) (h : nm ∈ ps.map Pt.nm) :
    ∃ pt q, pt ∈ ps ∧ pt.nm = nm ∧ H q = some (.tup (fP pt)) ∧ valV (kvs Pt.nm ps xp) (.inr nm) = some (.ref q) := by
  obtain ⟨pt, hpt, rfl⟩ := List.mem_map.mp h
  obtain ⟨i, hi, ei⟩ := List.getElem_of_mem hpt
  have ei' := List.getElem?_eq_some_iff.mpr ⟨hi, ei⟩
  obtain ⟨q, hq, eq⟩ := al.at ei'
  exact ⟨pt, q, hpt, rfl, eq, kvs_get Pt.nm nd ei' hq⟩
theorem name_one {ps : List Pt} (nd : (ps.map Pt.nm).Nodup) {p q : Pt} (hp : p ∈ ps) (hq : q ∈ ps) (e : p.nm = q.nm) : p = q := by
  obtain ⟨i, hi, rfl⟩ := List.getElem_of_mem hp
  obtain ⟨j, hj, rfl⟩ := List.getElem_of_mem hq
  have : i = j := by
    rcases Nat.lt_trichotomy i j with h | h | h
    · have := (List.pairwise_iff_getElem.mp nd) i j (by simpa using hi) (by simpa using hj) h
      simp only [List.getElem_map] at this
      exact absurd e this
    · exact h
    · have := (List.pairwise_iff_getElem.mp nd) j i (by simpa using hj) (by simpa using hi) h
      simp only [List.getElem_map] at this
      exact absurd e.symm this
  subst this
  rfl
/-! ### locks and commands -/
structure Lk where
  pt : Str
  up : Bool
  lim : Int
def ud (b : Bool) : Str := if b = true then "above" else "below"
def fL (l : Lk) : List V := [.str l.pt, .str (ud l.up), .int l.lim]
structure Cm where
  nm : Str
  pt : Str
  wo : Int
  lks : List Lk
  t : Addr
def fC (c : Cm) : List V := [.str c.nm, .str c.pt, .int c.wo, .ref c.t]
def LkT (H : Hp) (c : Cm) : Prop := ∃ vs, H c.t = some (.tup vs) ∧ Al fL H vs c.lks
theorem LkT.same {H H' : Hp} {c : Cm} (h : LkT H c) (S : Same H H') : LkT H' c := let ⟨vs, e, al⟩ := h; ⟨vs, S _ _ e, al.same S⟩
structure GoodL (ps : List Pt) (pl : Str) (l : Lk) : Prop where
  inn : ∃ pt ∈ ps, pt.nm = l.pt ∧ pt.pl = pl
  l0 : 0 ≤ l.lim
  l1 : l.lim ≤ 63
structure GoodC (ps : List Pt) (c : Cm) : Prop where
  nm : OkName c.nm
  few : c.lks.length ≤ 4
  inn : ∃ pt ∈ ps, pt.nm = c.pt ∧ 0 ≤ c.wo ∧ c.wo ≤ hiP pt ∧ ∀ l ∈ c.lks, GoodL ps pt.pl l
theorem GoodL.ok {ps : List Pt} {pl : Str} {l : Lk} (g : GoodL ps pl l) (gp : GoodPs ps) : OkName l.pt := by
  obtain ⟨pt, h, e, _⟩ := g.inn
  exact e ▸ (gp.all pt h).nm
theorem ud_one (b : Bool) : oneB (.str (ud b)) ["above", "below"] = true := by cases b <;> decide +kernel
theorem ud_above (b : Bool) : decide (V.str (ud b) = V.str "above") = b := by cases b <;> decide +kernel
theorem hiP_le (pt : Pt) : hiP pt ≤ 63 := by unfold hiP; split <;> decide
section
variable {P : Program} {w : World} {K : PySem.W.Frag} {mg : Str → Option Value} {base : Heap} {C : Addr}
def spLockS : Sp := fun vs H Q _ => ∃ q l ps pl, vs = [.ref q] ∧ H q = some (.tup (fL l)) ∧ GoodL ps pl l ∧ GoodPs ps ∧ ∀ H', Same H H' → Q (.bl true) H'
theorem d_lockS (A : At K mg "is_lock_shape" sIsLockShape) (dt : Def P w K mg base "is_tuple" 1 ["thing", "many"] (spTupN K)) (dn : Def P w K mg base "is_name" 1 ["thing"] (spName K))
    (d1 : Def P w K mg base "is_one_of" 1 ["thing", "words"] (spOne K)) (dl : Def P w K mg base "is_level" 4 ["thing"] (spRange K 0 63)) : Def P w K mg base "is_lock_shape" 5 ["thing"] spLockS := by
  refine mkDef A scIsLockShape (fun _ _ _ _ _ _ us hl => match us, hl with | [_], _ => rfl) (fun vs H Q E ⟨_, _, _, _, e, _⟩ => by rw [e]; rfl)
    (fun f cdv A out s H vs Q E hr h => ?_)
  obtain ⟨q, l, ps, pl, rfl, e, g, gp, k⟩ := h
  refine ⟨_, (pss_cons (ps_if (pt_not (pt_val (pe_d dt hr (by decide) (by rfl) (pa_cons (pv 0) (pa_cons pe_int pa_nil)))))
      (pss_one (ps_ret pe_bl))
      pss_nil)
    (pss_cons (ps_asg (pv 0) (pg_tup (by rfl) (pgs_cons (pg_name (i := 1) scIsLockShape.nd rfl (.inl rfl)) (pgs_cons (pg_name (i := 2) scIsLockShape.nd rfl (.inl rfl)) (pgs_cons (pg_name (i := 3) scIsLockShape.nd rfl (.inl rfl)) pgs_nil)))))
    (pss_one (ps_ret (pe_and (pe_d dn hr (by decide) (by rfl) (pa_cons (pv 1) pa_nil)) (pe_and (pe_d d1 hr (by decide) (by rfl) (pa_cons (pv 2) (pa_cons (pe_tup (pa_cons pe_str (pa_cons pe_str pa_nil))) pa_nil))) (pe_one (pe_d dl hr (by decide) (by rfl) (pa_cons (pv 3) pa_nil))))))))), ?_⟩
  have on := g.ok gp
  have eT : tupNB H (.ref q) 3 = true := by simp only [tupNB, e]; rfl
  refine ⟨_, rfl, .ref q, _, 3, rfl, .tup e, true, congrArg V.bl eT, iteF ?_⟩
  refine ⟨_, rfl, q, _, rfl, SqT.of e, rfl, _, _, rfl, _, _, rfl, _, _, rfl, rfl, ?_⟩
  refine ⟨_, rfl, .str l.pt, _, rfl, .str _, on.sh, fun H1 S1 => ⟨true, congrArg V.bl on.b, iteT ?_⟩⟩
  refine ⟨_, rfl, by show 2 ≤ sizeLine; decide, fun p np => ?_⟩
  refine ⟨.str (ud l.up), _, p, ["above", "below"], rfl, .str _, upd_same, ?_⟩
  refine ⟨true, congrArg V.bl (ud_one _), iteT ?_⟩
  refine ⟨_, rfl, .int l.lim, _, rfl, .int _, ?_⟩
  rw [whole_in g.l0 g.l1]
  exact k _ (S1.trans (Same.laid np))
def spCmdS : Sp := fun vs H Q _ => ∃ q c ps, vs = [.ref q] ∧ H q = some (.tup (fC c)) ∧ LkT H c ∧ GoodC ps c ∧ GoodPs ps ∧ ∀ H', Same H H' → Q (.bl true) H'
theorem d_cmdS (T : Txt mg) (A : At K mg "is_command_shape" sIsCommandShape) (dt : Def P w K mg base "is_tuple" 1 ["thing", "many"] (spTupN K)) (dn : Def P w K mg base "is_name" 1 ["thing"] (spName K))
    (dl : Def P w K mg base "is_level" 4 ["thing"] (spRange K 0 63)) (aLO : At K mg "is_list_of" sIsListOf) (dli : Def P w K mg base "is_list" 1 ["thing", "least", "most"] (spList K)) (dS : Def P w K mg base "is_lock_shape" 5 ["thing"] spLockS) :
    Def P w K mg base "is_command_shape" 8 ["thing"] spCmdS := by
  obtain ⟨f0, fd0, hm0, hk0, hb0, F0⟩ := dS.ex
  have dLO := d_listOf T aLO dli (F0.raw hb0 .nil) hk0
  refine mkDef A scIsCommandShape (fun _ _ _ _ _ _ us hl => match us, hl with | [_], _ => rfl) (fun vs H Q E ⟨_, _, _, e, _⟩ => by rw [e]; rfl)
    (fun f cdv A out s H vs Q E hr h => ?_)
  obtain ⟨q, c, ps, rfl, e, ht, g, gp, k⟩ := h
  refine ⟨_, (pss_cons (ps_if (pt_not (pt_val (pe_d dt hr (by decide) (by rfl) (pa_cons (pv 0) (pa_cons pe_int pa_nil)))))
      (pss_one (ps_ret pe_bl))
      pss_nil)
    (pss_cons (ps_asg (pv 0) (pg_tup (by rfl) (pgs_cons (pg_name (i := 1) scIsCommandShape.nd rfl (.inl rfl)) (pgs_cons (pg_name (i := 2) scIsCommandShape.nd rfl (.inl rfl)) (pgs_cons (pg_name (i := 3) scIsCommandShape.nd rfl (.inl rfl)) (pgs_cons (pg_name (i := 4) scIsCommandShape.nd rfl (.inl rfl)) pgs_nil))))))
    (pss_cons (ps_if (pt_not (PW.pt (pw_and (pt_val (pe_d dn hr (by decide) (by rfl) (pa_cons (pv 1) pa_nil))) (pw_and (pt_val (pe_d dn hr (by decide) (by rfl) (pa_cons (pv 2) pa_nil))) (pw_and1 (pt_val (pe_d dl hr (by decide) (by rfl) (pa_cons (pv 3) pa_nil))))))))
      (pss_one (ps_ret pe_bl))
      pss_nil)
    (pss_one (ps_ret (pe_and (pe_is T.isinstance (by rfl) (pv 4) T.tuple (by rfl) (Tn := "tuple") (by decide +kernel)) (pe_one (pe_d dLO hr (by decide) (by rfl) (pa_cons (pe_glob (v := V.ref f0) (by rfl) hm0 rfl) (pa_cons (pv 4) (pa_cons pe_int (pa_cons (pe_gi T.c_MOST_LOCKS) pa_nil)))))))))))), ?_⟩
  obtain ⟨pt, hpt, en, w0, w1, gl⟩ := g.inn
  have op : OkName c.pt := en ▸ (gp.all pt hpt).nm
  have eT : tupNB H (.ref q) 4 = true := by simp only [tupNB, e]; rfl
  obtain ⟨lv, et, al⟩ := ht
  have hlen := al.length
  have few := g.few
  refine ⟨_, rfl, .ref q, _, 4, rfl, .tup e, true, congrArg V.bl eT, iteF ?_⟩
  refine ⟨_, rfl, q, _, rfl, SqT.of e, rfl, _, _, rfl, _, _, rfl, _, _, rfl, _, _, rfl, rfl, ?_⟩
  refine ⟨_, rfl, .str c.nm, _, rfl, .str _, g.nm.sh, fun H1 S1 => ⟨true, congrArg V.bl g.nm.b, iteT ?_⟩⟩
  refine ⟨_, rfl, .str c.pt, _, rfl, .str _, op.sh, fun H2 S2 => ⟨true, congrArg V.bl op.b, iteT ?_⟩⟩
  refine ⟨_, rfl, .int c.wo, _, rfl, .int _, true, congrArg V.bl (whole_in w0 (Int.le_trans w1 (hiP_le pt))), iteF ?_⟩
  have S12 := S1.trans S2
  have et2 := S12 _ _ et
  refine ⟨_, rfl, .ref c.t, .ty "tuple", .type "tuple", .type "tuple", true, rfl, .ty _, .base (.base (.tup et2)), kit_ty (by decide +kernel), true, rfl, iteT ?_⟩
  refine ⟨_, rfl, c.t, lv, 0, 4, rfl, .inr (SqT.of et2), by omega, by omega, by omega, fun v hv H3 Q1 S3 q1 => ?_, fun H3 S3 => k _ (S12.trans S3)⟩
  obtain ⟨i, hi, ei⟩ := List.getElem_of_mem hv
  obtain ⟨q2, l, rfl, hl, eq⟩ := (al.same (S12.trans S3)).get (List.getElem?_eq_some_iff.mpr ⟨hi, ei⟩)
  exact ⟨q2, l, ps, pt.pl, rfl, eq, gl l (List.mem_of_getElem? hl), gp, q1⟩
def spCLocks (K : PySem.W.Frag) : Sp := fun vs H Q _ => ∃ a pl d xs ls ps xp, vs = [.ref a, .str pl, .ref d] ∧ SqT K H a xs ∧ Al fL H xs ls ∧ (∀ l ∈ ls, GoodL ps pl l) ∧ GoodPs ps ∧ ls.length ≤ 4 ∧ H d = some (.dK (kvs Pt.nm ps xp)) ∧ Al fP H xp ps ∧ Q .non H
theorem d_cLocks (T : Txt mg) (A : At K mg "_check_locks" sCheckLocks) : Def P w K mg base "_check_locks" 1 ["locks", "place", "points"] (spCLocks K) := by
  refine mkDef A scCheckLocks (fun _ _ _ _ _ _ us hl => match us, hl with | [_, _, _], _ => rfl) (fun vs H Q E ⟨_, _, _, _, _, _, _, e, _⟩ => by rw [e]; rfl)
    (fun f cdv A out s H vs Q E hr h => ?_)
  obtain ⟨a, pl, d, xs, ls, ps, xp, rfl, hs, al, g, gp, l4, ed, alp, k⟩ := h
  have hu : (A.deeper (envOfC "_check_locks" (defScope sCheckLocks) s.heap.objs.size f cdv)).units + 1 < cLine := hu_of hr
  refine ⟨_, (pss_one (ps_for PassesOwn.never rfl (pi_sq (pv 0)) (pg_tup (by rfl) (pgs_cons (pg_name (i := 3) scCheckLocks.nd rfl (.inl rfl)) (pgs_cons (pg_name (i := 4) scCheckLocks.nd rfl (.inl rfl)) (pgs_cons (pg_name (i := 4) scCheckLocks.nd rfl (.inl rfl)) pgs_nil))))
      (pss_one (ps_if (PW.pt (pw_or (pt_cmp (pc_dnotin hu (pv 3) (pv 2)) rfl) (pw_or1 (pt_cmpR op_ne (pe_ix (r := rIxT K) ix_tup (pe_dget hu (pv 2) (pv 3) (fun _ _ => rfl)) pe_int (fun _ _ => rfl)) (pv 1) (nomark _)))))
        (pss_one ps_never)
        pss_nil)))), ?_⟩
  refine ⟨_, rfl, a, xs, rfl, .inr hs, fun J Gd hG wk => ?_⟩
  refine for_it wk (fun i σ G => (∃ v3 v4 : Option V, σ = [some (.ref a), some (.str pl), some (.ref d), v3, v4]) ∧ G = H) ⟨⟨_, _, rfl⟩, rfl⟩ (fun i σ G _ h => by rw [h.2]; exact hG _ (Same.refl _)) ?_ (fun σ G h => by rw [h.2]; exact k)
  rintro i v σ G0 G hi ⟨⟨v3, v4, rfl⟩, rfl⟩ ⟨rfl, hx⟩
  obtain ⟨q, l, rfl, hl, eq⟩ := al.get hx
  have gl := g l (List.mem_of_getElem? hl)
  obtain ⟨pt0, hp0, e0, e1⟩ := gl.inn
  obtain ⟨pt, q2, hpt, en, ept, ev⟩ := pt_in (K := K) ed alp gp.nd (List.mem_map.mpr ⟨pt0, hp0, e0⟩)
  obtain rfl : pt = pt0 := name_one gp.nd hpt hp0 (en.trans e0.symm)
  refine ⟨q, _, rfl, SqT.of eq, rfl, _, _, rfl, _, _, rfl, _, _, rfl, rfl, ?_⟩
  refine ⟨_, rfl, _, rfl, d, some (.ref q2), rfl, .inl ⟨_, .inr l.pt, .inl ed, rfl, ev.symm⟩, _, rfl, iteF ?_⟩
  refine ⟨_, rfl, _, rfl, d, .ref q2, rfl, .inl ⟨_, .inr l.pt, .inl ed, rfl, ev.symm⟩, q2, _, 1, .str pt.pl, rfl, rfl, SqT.of ept, rfl, _, rfl, rfl, _, rfl, ?_⟩
  rw [e1, decide_eq_true rfl]
  exact iteF ⟨⟨_, _, rfl⟩, rfl⟩
def spCmds (K : PySem.W.Frag) : Sp := fun vs H Q _ => ∃ a d xs cs ps xp, vs = [.ref a, .ref d] ∧ Sq K H a xs ∧ Al fC H xs cs ∧ (∀ c ∈ cs, LkT H c) ∧ (∀ c ∈ cs, GoodC ps c) ∧ (cs.map Cm.nm).Nodup ∧ GoodPs ps ∧ cs.length ≤ 4 ∧ H d = some (.dK (kvs Pt.nm ps xp)) ∧ Al fP H xp ps ∧
  ∀ H', Same H H' → Q .non H'
theorem d_cmds (T : Txt mg) (A : At K mg "check_commands" sCheckCommands) (aLO : At K mg "is_list_of" sIsListOf) (dl : Def P w K mg base "is_list" 1 ["thing", "least", "most"] (spList K))
    (dS : Def P w K mg base "is_command_shape" 8 ["thing"] spCmdS) (dw : Def P w K mg base "is_worth_of" 4 ["point", "thing"] (spWorthOf K)) (dC : Def P w K mg base "_check_locks" 1 ["locks", "place", "points"] (spCLocks K)) :
    Def P w K mg base "check_commands" 11 ["commands", "points"] (spCmds K) := by
  obtain ⟨f0, fd0, hm0, hk0, hb0, F0⟩ := dS.ex
  have dLO := d_listOf T aLO dl (F0.raw hb0 .nil) hk0
  refine mkDef A scCheckCommands (fun _ _ _ _ _ _ us hl => match us, hl with | [_, _], _ => rfl) (fun vs H Q E ⟨_, _, _, _, _, _, e, _⟩ => by rw [e]; rfl)
    (fun f cdv A out s H vs Q E hr h => ?_)
  obtain ⟨a, d, xs, cs, ps, xp, rfl, hs, al, ht, g, nd, gp, l4, ed, alp, k⟩ := h
  have hu : (A.deeper (envOfC "check_commands" (defScope sCheckCommands) s.heap.objs.size f cdv)).units + 1 < cLine := hu_of hr
  refine ⟨_, (pss_cons (ps_if (pt_not (pt_val (pe_d dLO hr (by decide) (by rfl) (pa_cons (pe_glob (v := V.ref f0) (by rfl) hm0 rfl) (pa_cons (pv 0) (pa_cons pe_int (pa_cons (pe_gi T.c_MOST_COMMANDS) pa_nil)))))))
      (pss_one ps_never)
      pss_nil)
    (pss_cons (ps_set (i := 2) scCheckCommands.nd rfl (.inl rfl) (pe_lst pa_nil))
    (pss_one (ps_for PassesOwn.never rfl (pi_sqG (pv 0)) (pg_tup (by rfl) (pgs_cons (pg_name (i := 3) scCheckCommands.nd rfl (.inl rfl)) (pgs_cons (pg_name (i := 4) scCheckCommands.nd rfl (.inl rfl)) (pgs_cons (pg_name (i := 5) scCheckCommands.nd rfl (.inl rfl)) (pgs_cons (pg_name (i := 6) scCheckCommands.nd rfl (.inl rfl)) pgs_nil)))))
      (pss_cons (ps_if (pt_cmpR op_in_seq (pv 3) (pv 2) (by rfl))
        (pss_one ps_never)
        pss_nil)
      (pss_cons (ps_if (pt_cmp (pc_dnotin hu (pv 4) (pv 1)) rfl)
        (pss_one ps_never)
        pss_nil)
      (pss_cons (ps_if (pt_not (pt_val (pe_d dw hr (by decide) (by rfl) (pa_cons (pe_dget hu (pv 1) (pv 4) (fun _ _ => rfl)) (pa_cons (pv 5) pa_nil)))))
        (pss_one ps_never)
        pss_nil)
      (pss_cons (ps_expr (pe_d dC hr (by decide) (by rfl) (pa_cons (pv 6) (pa_cons (pe_ix (r := rIxT K) ix_tup (pe_dget hu (pv 1) (pv 4) (fun _ _ => rfl)) pe_int (fun _ _ => rfl)) (pa_cons (pv 1) pa_nil)))))
      (pss_one (ps_expr (pe_bm PySem.F.plainAttrs_list PySem.F.slot_list_append PySem.F.type_list_append mt_append (pv 2) (pa_cons (pv 3) pa_nil)))))))))))), ?_⟩
  have hlen := al.length
  refine ⟨_, rfl, a, xs, 0, 4, rfl, hs, by omega, by omega, by omega, fun v hv H1 Q1 S1 q1 => ?_, fun H1 S1 => ?_⟩
  · obtain ⟨i, hi, ei⟩ := List.getElem_of_mem hv
    obtain ⟨q, c, rfl, hc, eq⟩ := (al.same S1).get (List.getElem?_eq_some_iff.mpr ⟨hi, ei⟩)
    have hm := List.mem_of_getElem? hc
    exact ⟨q, c, ps, rfl, eq, (ht c hm).same S1, g c hm, gp, q1⟩
  refine ⟨_, rfl, iteF ?_⟩
  refine ⟨by show 0 ≤ sizeLine; decide, fun L nL => ?_⟩
  have nLH : H L = none := Same.no S1 nL
  have eL : upd H1 L (.lst []) L = some (.lst []) := upd_same
  have S2 : Same H (upd H1 L (.lst [])) := Same.wo_upd S1 nLH
  generalize upd H1 L (.lst []) = H2 at *
  dsimp only [gName]
  refine ⟨_, rfl, a, xs, fun H' => Same H H', rfl, S2, hs.ok, fun J Gd hG wk => ?_⟩
  have nmE : ∀ i, (cs.map Cm.nm).take i = ((cs.take i).map Cm.nm) := fun i => (List.map_take ..).symm
  refine for_it wk (fun i σ G => (∃ v3 v4 v5 v6 : Option V, σ = [some (.ref a), some (.ref d), some (.ref L), v3, v4, v5, v6]) ∧ Same H G ∧ G L = some (.lst (((cs.take i).map Cm.nm).map V.str))) ⟨⟨_, _, _, _, rfl⟩, S2, eL⟩ (fun i σ G _ h => hG _ h.2.1) ?_ (fun σ G h => k G h.2.1)
  rintro i v σ G0 G hi ⟨⟨v3, v4, v5, v6, rfl⟩, S, eG⟩ ⟨rfl, hx⟩
  have SG := S
  obtain ⟨q, c, rfl, hc, eq⟩ := (al.same SG).get hx
  have hm := List.mem_of_getElem? hc
  have gc := g c hm
  obtain ⟨lv, et, all⟩ := (ht c hm).same SG
  obtain ⟨pt0, hp0, e0, w0, w1, gl⟩ := gc.inn
  have ed' := SG _ _ ed
  obtain ⟨pt, q2, hpt, en, ept, ev⟩ := pt_in (K := K) ed' (alp.same SG) gp.nd (List.mem_map.mpr ⟨pt0, hp0, e0⟩)
  obtain rfl : pt = pt0 := name_one gp.nd hpt hp0 (en.trans e0.symm)
  have get : DGet G d (.str c.pt) (some (.ref q2)) := .inl ⟨_, .inr c.pt, .inl ed', rfl, ev.symm⟩
  refine ⟨q, _, rfl, SqT.of eq, rfl, _, _, rfl, _, _, rfl, _, _, rfl, _, _, rfl, rfl, ?_⟩
  refine ⟨_, rfl, _, rfl, L, _, rfl, .inl (SqL.of eG), rfl, flat_strs _, _, rfl, ?_⟩
  have en1 : (cs.map Cm.nm)[i]? = some c.nm := by rw [List.getElem?_map, hc]; rfl
  have nin : c.nm ∉ (cs.take i).map Cm.nm := by rw [List.map_take]; exact nodup_take nd en1
  rw [inV_str, decide_eq_false nin]
  refine iteF ?_
  refine ⟨_, rfl, _, rfl, d, some (.ref q2), rfl, get, _, rfl, iteF ?_⟩
  refine ⟨_, rfl, _, rfl, d, .ref q2, rfl, get, _, rfl, q2, pt, .int c.wo, _, rfl, ept, .int _, true, congrArg V.bl (whole_in w0 w1), iteF ?_⟩
  refine ⟨_, rfl, _, rfl, _, rfl, d, .ref q2, rfl, get, q2, _, 1, .str pt.pl, rfl, rfl, SqT.of ept, rfl, _, rfl, c.t, pt.pl, d, lv, c.lks, ps, xp, rfl, SqT.of et, all, gl, gp, gc.few, ed', alp.same SG, ?_⟩
  refine ⟨_, rfl, .inl ⟨rfl, _, SqL.of eG⟩, _, rfl, L, _, .str c.nm, rfl, rfl, eG, ?_, ⟨⟨_, _, _, _, rfl⟩, ?_, ?_⟩⟩
  · rw [List.length_map, List.length_map, List.length_take]
    exact Nat.lt_of_le_of_lt (show min i cs.length ≤ 4 by omega) (by decide)
  · exact Same.wo_upd S nLH
  · rw [upd_same, List.take_add_one, hc, List.map_append, List.map_append]
    rfl
def spCm (C : Addr) (K : PySem.W.Frag) : Sp := fun vs H Q _ => ∃ p W, vs = [.ref p] ∧ WoAt K C H p W ∧ ∀ l H', Same H H' → H l = none → H' l = some (.lst W.xm) → Q (.ref l) H'
theorem d_cm (T : Txt mg) (Wc : WoC K C) (A : AtMt K C "commands" "Works.commands" mWorks_Commands) : DefM P w K mg base C "commands" 1 ["self"] (spCm C K) := by
  refine mkDefM A scmWorks_Commands (fun _ _ _ _ _ _ us hl => match us, hl with | [_], _ => rfl) (fun vs H Q E ⟨_, _, e, _⟩ => by rw [e]; rfl)
    (fun f cdv A out s H vs Q E hr h => ?_)
  obtain ⟨p, W, rfl, hw, k⟩ := h
  obtain ⟨dx, tp, dp, tr, dr, tc, tm, dm, tl, e0, e1, e2, e3, e4, e5, e6, e7, e8⟩ := hw.ex
  refine ⟨_, (pss_one (ps_ret (pe_callTy call_list_of (by rfl) T.list (by decide +kernel) (pa_cons (pe_fld (pv 0) rfl) pa_nil)))), ?_⟩
  refine ⟨_, rfl, p, C, dx, _, _, rfl, e0, Wc.cl, Wc.nCo, (lk_ne (by decide +kernel)).trans ((lk_ne (by decide +kernel)).trans ((lk_ne (by decide +kernel)).trans ((lk_ne (by decide +kernel)).trans ((lk_ne (by decide +kernel)).trans lk_eq)))), tm, W.xm, rfl, .inr e6, fun l nl => ?_⟩
  exact k l _ (Same.laid nl) nl upd_same
end
end V59

/-! Sets of texts and numbers that can be gone through: made by a comprehension, sorted. -/
namespace Pw
open PySem PySem.Spec PyProof.Rows L2
def keyM : Value → Key
  | .int i _ => .inl i
  | .str x _ => .inr x
  | _ => .inl 0
def keysM (l : List (Int × Value)) : List Key := l.map fun e => keyM e.2
/-- what a table tells: each key once, its places rise, it is led -/
structure TabOk (w : World) (l : List (Int × Value)) (t : SetTable) : Prop where
  nd : (keysM l).Nodup
  ri : Ris t.place.toList
  le : w.params.followText "set-order" = true ∨ t.led = true
def SetQ (P : Program) (w : World) (h : Heap) (a : Addr) (S : Key → Bool) (n : Nat) : Prop :=
  ∃ o es ep t, h.get? a = some o ∧ o.ExactSet ∧ o.data = .set es ep t ∧ ElemsOf (mixKind P w) es.toList ∧ (∀ k, S k = true ↔ k ∈ keysM es.toList) ∧ es.size < scanBound ∧ t.fits es.size = true ∧ es.size = n ∧ TabOk w es.toList t
section
variable {P : Program} {w : World} {h h' : Heap} {a : Addr} {S : Key → Bool} {n : Nat}
theorem keyM_is {k : Key} {v : Value} (h : (mixKind P w).is k v = true) : keyM v = k := by
  rcases keyIs_shape h with ⟨i, t, rfl, rfl⟩ | ⟨x, t, rfl, rfl⟩ <;> rfl
theorem is_keyM {l : List (Int × Value)} (g : ElemsOf (mixKind P w) l) {e : Int × Value} (he : e ∈ l) {k : Key} : (mixKind P w).is k e.2 = true ↔ keyM e.2 = k := by
  refine ⟨keyM_is, fun q => ?_⟩
  obtain ⟨⟨k', h1, _⟩, _⟩ := g e he
  have := keyM_is h1
  rw [← q, this]
  exact h1
theorem mem_keysM {l : List (Int × Value)} (g : ElemsOf (mixKind P w) l) (k : Key) : k ∈ keysM l ↔ ∃ e ∈ l, (mixKind P w).is k e.2 = true := by
  unfold keysM
  rw [List.mem_map]
  exact ⟨fun ⟨e, he, q⟩ => ⟨e, he, (is_keyM g he).mpr q⟩, fun ⟨e, he, q⟩ => ⟨e, he, (is_keyM g he).mp q⟩⟩
theorem SetQ.of (R : SetQ P w h a S n) : h.SetOf (mixKind P w) a S n := by
  obtain ⟨o, es, ep, t, c1, c2, c3, c4, c5, c6, c7, c8, _⟩ := R
  exact ⟨o, es, ep, t, c1, c2, c3, c4, fun k => (c5 k).trans (mem_keysM c4 k), c6, c7, c8⟩
theorem SetQ.keep (R : SetQ P w h a S n) (k : ∀ o, h.get? a = some o → h'.get? a = some o) : SetQ P w h' a S n := by
  obtain ⟨o, es, ep, t, c1, r⟩ := R
  exact ⟨o, es, ep, t, k o c1, r⟩
theorem TabOk.move {l l' : List (Int × Value)} {t t' : SetTable} (T : TabOk w l t) (p : List.Perm l' l) (r : Ris t'.place.toList) (e : t'.led = t.led) : TabOk w l' t' :=
  ⟨(p.map fun e : Int × Value => keyM e.2).nodup_iff.mpr T.nd, r, T.le.imp id fun z => e.trans z⟩
theorem setQ_fresh {P : Program} {h : Heap} : SetQ P w (h.push { cls := Value.type "set", data := Data.set #[] 0 (SetTable.fresh 0 0 !w.params.followText "set-order") }) h.objs.size (fun _ => false) 0 := by
  refine ⟨_, #[], 0, _, Heap.get?_push_size _ rfl, ⟨rfl, rfl, rfl⟩, rfl, (fun e he => by cases he), (fun k => by simp [keysM]), by decide, ?_, rfl, ⟨List.nodup_nil, List.Pairwise.nil, ?_⟩⟩
  · cases (!w.params.followText "set-order") <;> rfl
  · show _ ∨ (!w.params.followText "set-order") = true
    cases w.params.followText "set-order" <;> simp
end
section
variable {P : Program} {w : World} {A : Around} {E : Value → Shared → Prop} {s : Shared} {a : Addr} {S : Key → Bool} {n : Nat}
/-- a table stored, laid anew where it is too full -/
theorem tail_setQ {gv : Bool → Sem Unit} (hg : ∀ (b : Bool) (z : Shared) (Qu : Unit → Shared → Prop), Qu () z → wpAny (model P w) A (gv b) Qu E z) {o : Obj} {es es1 : Array (Int × Value)} {ep : Nat} {t t2 : SetTable} {S' : Key → Bool} {wd : Bool} {R : Option Bool → Shared → Prop}
    (at0 : s.heap.get? a = some o) (xs : o.ExactSet) (dt : o.data = .set es ep t) (el : ElemsOf (mixKind P w) es1.toList) (mm : ∀ k, S' k = true ↔ k ∈ keysM es1.toList) (sz : es1.size < scanBound) (ft : t2.fits es1.size = true) (T : TabOk w es1.toList t2)
    (kk : ∀ h', Heap.SameBut a s.heap h' → SetQ P w h' a S' es1.size → R (some true) { s with heap := h' }) :
    wpAny (model P w) A (storeSet a es1 t2 >>= fun _ => if (!wd && t2.tooFull) = true then (gv (relayAll t2 es1 (SetTable.grown es1.size)).2.2 >>= fun _ => storeSet a (relayAll t2 es1 (SetTable.grown es1.size)).1 (relayAll t2 es1 (SetTable.grown es1.size)).2.1 >>= fun _ => pure (some true)) else pure (some true)) R E s := by
  have at1 := store_at (es' := es1) (t' := t2) at0 dt
  have b1 := Heap.SameBut.update s.heap a (Obj.putSet es1 t2)
  refine wpAny_bind (wpAny_storeSet_of at0 dt ?_ (fits_of_scanBound sz))
  by_cases tf : (!wd && t2.tooFull) = true
  · rw [if_pos tf]
    have q1 := relayAll_perm t2 es1 (SetTable.grown es1.size)
    have q2 := relayAll_fits t2 es1 (SetTable.grown es1.size)
    have q3 := T.move q1 (relayAll_ris t2 es1 (SetTable.grown es1.size)) (relayAll_led t2 es1 (SetTable.grown es1.size))
    generalize relayAll t2 es1 (SetTable.grown es1.size) = Y at q1 q2 q3 ⊢
    obtain ⟨es2, t3, gave⟩ := Y
    dsimp only at q1 q2 q3 ⊢
    have z2 : es2.size = es1.size := by rw [← Array.length_toList, q1.length_eq, Array.length_toList]
    refine wpAny_bind (hg _ _ _ (wpAny_bind (wpAny_storeSet_of at1 rfl ?_ (fits_of_scanBound (z2 ▸ sz)))))
    refine wpAny_pure (kk _ (b1.trans (Heap.SameBut.update _ a _)) ⟨_, es2, _, t3, store_at (es' := es2) (t' := t3) at1 rfl, xs, rfl, el.perm q1, fun k => (mm k).trans (q1.map fun e : Int × Value => keyM e.2).mem_iff.symm, z2 ▸ sz, q2, z2, q3⟩)
  · rw [if_neg tf]
    exact wpAny_pure (kk _ b1 ⟨_, es1, _, t2, at1, xs, rfl, el, mm, sz, ft, rfl, T⟩)
theorem hashed_setQ {k : Key} {x : Value} {Q : Bool → Shared → Prop} (hk : (mixKind P w).is k x = true) (hx : x.scannable = true) (R : SetQ P w s.heap a S n) (room : n + 1 < scanBound)
    (kk : ∀ h', Heap.SameBut a s.heap h' → SetQ P w h' a (fun j => S j || decide (j = k)) (if S k = true then n else n + 1) → Q (!S k) { s with heap := h' }) :
    wpAny (model P w) A (setAddHashed a x ((mixKind P w).hash k)) Q E s := by
  obtain ⟨o, es, ep, t, at0, xs, dt, el, mm, sz, ft, rfl, T⟩ := R
  unfold setAddHashed setAddHashedIn
  refine wpAny_holding (wpAny_bind (wpAny_setState_of at0 dt ft ?_))
  dsimp only
  rw [byScan_of hx sz el, if_pos rfl]
  unfold setAddByScan
  refine wpAny_bind (wpAny_bind (wpAny_rule (wpAny_bind (wpAny_setScan_of hk at0 dt ft el ?_))))
  cases fi : List.findIdx? (fun e => (mixKind P w).is k e.2) es.toList with
  | some j =>
    obtain ⟨jl, jp, _⟩ := List.findIdx?_eq_some_iff_getElem.mp fi
    have sk : S k = true := (mm k).mpr ((mem_keysM el k).mpr ⟨_, List.getElem_mem jl, jp⟩)
    have fin := kk s.heap (.refl a s.heap) ⟨o, es, ep, t, at0, xs, dt, el, fun i => by
      rw [Bool.or_eq_true, decide_eq_true_eq, ← mm i]
      exact ⟨fun z => z.elim id fun e => e ▸ sk, .inl⟩, sz, ft, by rw [if_pos sk], T⟩
    rw [sk] at fin
    exact wpAny_pure (wpAny_pure fin)
  | none =>
    dsimp only
    have nk : k ∉ keysM es.toList := fun z => by
      obtain ⟨e, he, q⟩ := (mem_keysM el k).mp z
      exact absurd q (by rw [List.findIdx?_eq_none_iff.mp fi e he]; decide)
    have sk : S k = false := by
      cases q : S k with
      | false => rfl
      | true => exact absurd ((mm k).mp q) nk
    have p1 := layNew_perm t es ((mixKind P w).hash k) x
    have p2 := layNew_fits t es ((mixKind P w).hash k) x
    have p3 := layNew_ris t es ((mixKind P w).hash k) x T.ri
    have p4 := layNew_led t es ((mixKind P w).hash k) x
    generalize layNew t es ((mixKind P w).hash k) x = Y at p1 p2 p3 p4 ⊢
    obtain ⟨es1, t1, wd, gave⟩ := Y
    dsimp only at p1 p2 p3 p4 ⊢
    rw [Array.toList_push] at p1
    have pc : (keysM es1.toList).Perm (k :: keysM es.toList) := by
      have q := (p1.trans (List.perm_append_singleton _ _)).map fun e : Int × Value => keyM e.2
      rw [List.map_cons, keyM_is hk] at q
      exact q
    have el1 : ElemsOf (mixKind P w) es1.toList := (el.push hk hx).perm p1
    have T1 : ∀ t', t'.place = t1.place → t'.led = t1.led → TabOk w es1.toList t' := fun t' e1 e2 => ⟨pc.nodup_iff.mpr (List.nodup_cons.mpr ⟨nk, T.nd⟩), by rw [e1]; exact p3, T.le.imp id fun z => by rw [e2, p4]; exact z⟩
    have m1 : ∀ i, (S i || decide (i = k)) = true ↔ i ∈ keysM es1.toList := fun i => by
      rw [Bool.or_eq_true, decide_eq_true_eq, mm i, pc.mem_iff, List.mem_cons]
      exact Or.comm
    have z1 : es1.size = es.size + 1 := by rw [← Array.length_toList, p1.length_eq, List.length_append, Array.length_toList]; rfl
    have fin : ∀ h', Heap.SameBut a s.heap h' → SetQ P w h' a (fun j => S j || decide (j = k)) es1.size → Q true { s with heap := h' } := fun h' sb r => by
      have q := kk h' sb
      rw [sk, if_neg (by decide), ← z1] at q
      exact q r
    have gw : ∀ (b : Bool) (Qu : Unit → Shared → Prop), Qu () s → wpAny (model P w) A (match b with | true => rule "set.scan.the-table-gave-way" | false => pure ()) Qu E s := fun b Qu q => by
      cases b
      · exact wpAny_pure q
      · exact wpAny_rule q
    refine wpAny_bind (gw gave _ ?_)
    · split
      · refine wpAny_bind ?_
        rw [hashByValue_scannable 8 hx]
        refine wpAny_pure (tail_setQ (fun b z Qu q => by cases b <;> first | exact wpAny_pure q | exact wpAny_rule q) at0 xs dt el1 m1 (z1 ▸ room) ?_ ?_ fun h' sb r => wpAny_pure (fin h' sb r))
        · split
          · exact p2
          · exact SetTable.fits_plain_off p2
        · split
          · exact T1 _ rfl rfl
          · exact T1 _ rfl rfl
      · refine wpAny_bind (wpAny_pure ?_)
        rw [if_pos rfl]
        exact tail_setQ (fun b z Qu q => by cases b <;> first | exact wpAny_pure q | exact wpAny_rule q) at0 xs dt el1 m1 (z1 ▸ room) p2 (T1 _ rfl rfl) fun h' sb r => wpAny_pure (fin h' sb r)
end
/-! ### the set as it stands in the tracked part -/
def SetQO (P : Program) (w : World) (a : Addr) (S : Key → Bool) (n : Nat) : HO := .ext fun h => SetQ P w h a S n
theorem setQ_new {w : World} {P : Program} {H : Hp} {h : Heap} {a : Addr} {S : Key → Bool} {n : Nat} (R : SetQ P w h a S n) : ObjOk P w H h a (SetQO P w a S n) := by
  have ⟨o, _, _, _, ho, _⟩ := R
  exact ⟨R, ⟨o, ho⟩, fun h1 h2 p k => SetQ.keep p k⟩
theorem setQ_get {X : Cx} {pins : List (Addr × Obj)} {σ : L2.St} {H : Hp} {s : Shared} {a : Addr} {S : Key → Bool} {n : Nat} (I : Inv X pins σ H s) (ha : H a = some (SetQO X.prog X.w a S n)) : SetQ X.prog X.w s.heap a S n := (I.hok a _ ha).1
def rSAddQ (P : Program) (w : World) : V → List V → Hp → VK → Prop := fun x xs H Q => ∃ (a : Addr) (k : Key) (S : Key → Bool) (n : Nat), x = V.ref a ∧ xs = [kV k] ∧ H a = some (SetQO P w a S n) ∧ n + 1 < scanBound ∧
  Q .non (upd H a (SetQO P w a (fun j => S j || decide (j = k)) (if S k = true then n else n + 1)))
theorem mt_saddQ {X : Cx} : MtR X "set.add" (rSAddQ X.prog X.w) := by
  intro pins s σ H x xs v us Q I rx rxs h
  obtain ⟨a, k, S, n, rfl, rfl, ha, room, q⟩ := h
  cases rx
  cases rxs with
  | cons ry rt =>
    rename_i y _
    cases rt
    have R := setQ_get I ha
    refine wpAny_call_entry F.slot_set_add R.of.typeIs F.entry_set_add ?_ (F.args_set_add_2 _ _)
    unfold Builtin.«set.add» Builtin.Frozenset.oneOther
    simp only [List.isEmpty_nil, bind_assoc]
    unfold Builtin.Frozenset.addrOf setAdd
    refine wpAny_bind (wpAny_pure ?_)
    try dsimp only
    refine wpAny_bind (wpAny_pure ?_)
    try dsimp only
    refine wpAny_bind (wpAny_holding (wpAny_bind ((mixKind X.prog X.w).pyHash (kV_is ry) ?_)))
    refine hashed_setQ (s := { s with toks := s.toks + 1 }) (kV_is ry) (key_scan ry) R room fun h' sb new => ?_
    have he : ∃ u, h'.get? a = some u := by
      have ⟨o, _, _, _, ho, _⟩ := new
      exact ⟨o, ho⟩
    show wpAny _ _ (ret Value.none) _ _ _
    exact wpAny_pure ⟨_, rfl, .non, upd H a (SetQO X.prog X.w a (fun j => S j || decide (j = k)) (if S k = true then n else n + 1)), I.write (e := a) (t' := s.toks + 1) (by rw [ha]; trivial) (.inl rfl) (fun b u hb hu => (sb.2 b hb).trans hu) he (setQ_new new), rfl, q⟩
def tScQ (P : Program) (w : World) (wi : TI) (g : TG) (tt : L2.TT) (te : TE) (vs : List Nat) : TE := fun σ H Q => wi σ H fun J H1 => ∀ D, H1 D = none →
  ∃ W : Nat → Nat → Hp → Prop, (∃ m, W 0 m (upd H1 D (SetQO P w D (fun _ => false) 0))) ∧ ∀ i m H, W i m H → (J.stop i H ∧ Q (.ref D) H) ∨
    (J.go i H ∧ ∃ Nx : Hp → Prop, (∀ H', Nx H' → ∃ m', m' < m ∧ W (i + 1) m' H') ∧ ∀ x H', J.yld i H x H' → g x (wipe σ vs) H' fun σ2 H2 => wipe σ2 vs = wipe σ vs ∧ tt σ2 H2 fun b H3 =>
      if b = true then te σ2 H3 fun y H4 => ∃ (k : Key) (S : Key → Bool) (n : Nat), y = kV k ∧ H4 D = some (SetQO P w D S n) ∧ n + 1 < scanBound ∧
        Nx (upd H4 D (SetQO P w D (fun j => S j || decide (j = k)) (if S k = true then n else n + 1))) else Nx H3)
section
variable {X : Cx} {pins : List (Addr × Obj)} {s : Shared} {σ : L2.St} {H : Hp} {Q : VK} {elt tg iter : Expr}
  {ifs : List Expr} {scope : Scope} {own : List (Str × Nat)} {pos pos' : Pos} {wi : TI} {g : TG}
  {tt : L2.TT} {te : TE} {use : Option (Value → Sem Unit)} {Qf : Value → Shared → Prop}
theorem scQ_core (hc : X.calm = true) (hN : X.N.Nodup) (I : Inv X pins σ H s) (hi : PI X tg iter wi) (ok : BlkOk X.N X.env.scope scope own)
    (hg : ∀ (s : Shared) (H : Hp) (C : Addr) (cl : List (Str × Addr)) (fp : List Addr), PG (X.blk s H scope (compEnvC scope cl C X.env) fp) tg g)
    (ht : ∀ (s : Shared) (H : Hp) (C : Addr) (cl : List (Str × Addr)) (fp : List Addr), PTs (X.blk s H scope (compEnvC scope cl C X.env) fp) ifs tt)
    (he : ∀ (s : Shared) (H : Hp) (C : Addr) (cl : List (Str × Addr)) (fp : List Addr), PE (X.blk s H scope (compEnvC scope cl C X.env) fp) elt te)
    (hs : ∀ x : Value, foldedSetIterable iter X.env x = pure x) (h : tScQ X.prog X.w wi g tt te (own.map (·.2)) σ H Q)
    (hRR : ∀ (D C : Addr) (s' : Shared) (m : Str → Option Value) (H' : Hp), Inv X pins σ H' s' → Q (.ref D) H' → s'.heap.Ns C m → FpOk X pins H' C →
      compPost (model X.prog X.w) X.A X.xe use Qf (.ref D) C (.ok .next) s') :
    wpAny (model X.prog X.w) X.A (comprehension (elt.SetComp [{ target := tg, iter := iter, ifs := ifs, is_async := 0 }] scope pos) scope X.env pos' (newSet (.type "set")) false (eval iter X.env) use) Qf X.xe s := by
  have hfree : ∀ y ∈ scope.names, y.2 = NameKind.free → ∃ c, List.lookup y.1 X.env.cells = some c := fun y hy e => by
    rcases ok.free y hy e with k | k
    · exact I.ok.has y.1 (Or.inl k)
    · exact I.ok.has y.1 (Or.inr k)
  refine wpAny_comprehension_free rfl hs (closure_ok hfree) ok.kind (fun y hy e => by rw [ok.uniq y hy, e]) ?_
  refine thn (hi.run pins s σ H _ I h) fun xv s1 hx => thn hx fun itv s2 h2 => ?_
  obtain ⟨it, fp, tn, J, H2, rfl, I2, T, st2, f2, q⟩ := h2
  refine PpSet.newSet_ok (newEnv_comp ?_)
  have hDn := HOk.fresh I2.hok (Nat.le_of_eq (Eq.refl s2.heap.objs.size))
  obtain ⟨W, ⟨m0, w0⟩, turn⟩ := q s2.heap.objs.size hDn
  generalize es3 : ({ heap := s2.heap.push { cls := Value.type "set", data := Data.set #[] 0 (SetTable.fresh 0 0 !X.w.params.followText "set-order") }, gens := s2.gens, drawn := s2.drawn, toks := s2.toks, os := s2.os } : Shared) = s3
  have eh3 : s3.heap = s2.heap.push { cls := Value.type "set", data := Data.set #[] 0 (SetTable.fresh 0 0 !X.w.params.followText "set-order") } := by rw [← es3]
  have I3 : Inv X pins σ (upd H2 s2.heap.objs.size (SetQO X.prog X.w s2.heap.objs.size (fun _ => false) 0)) s3 := by
    rw [← es3]
    exact I2.laid (fun b o e => Heap.get?_push_of_some _ e) (Nat.le_of_eq rfl) (setQ_new setQ_fresh)
  generalize hH3 : upd H2 s2.heap.objs.size (SetQO X.prog X.w s2.heap.objs.size (fun _ => false) 0) = H3 at *
  have sz : ∀ b ∈ fp, b < s2.heap.objs.size := fun b hb => by
    obtain ⟨o, e, _⟩ := T.obj 0 s2.heap st2 b hb
    exact Heap.lt_size e
  have f3 : ∀ b ∈ fp, FpOk X pins H3 b ∧ b < s3.heap.objs.size := fun b hb => by
    have hlt := sz b hb
    refine ⟨⟨?_, (f2 b hb).2⟩, ?_⟩
    · rw [← hH3, upd_ne (Nat.ne_of_lt hlt)]
      exact (f2 b hb).1
    · rw [eh3, Heap.size_push]
      exact Nat.lt_succ_of_lt hlt
  have st3 : tn 0 s3.heap := T.keep 0 s2.heap s3.heap st2 fun b _ o e => by
    rw [eh3]
    exact Heap.get?_push_of_some _ e
  have I4 := block_start I3 ok hN f3
  have pg := hg s3 H3 s3.heap.objs.size (cellsFrom (s3.heap.objs.size + 1) scope.names (cloFrom X.env.cells scope.names [])) fp
  have pt := ht s3 H3 s3.heap.objs.size (cellsFrom (s3.heap.objs.size + 1) scope.names (cloFrom X.env.cells scope.names [])) fp
  have pe := he s3 H3 s3.heap.objs.size (cellsFrom (s3.heap.objs.size + 1) scope.names (cloFrom X.env.cells scope.names [])) fp
  have nfp : ∀ b ∈ fp, H3 b = none := fun b hb => (f3 b hb).1.1
  generalize eCe : cellsFrom (s3.heap.objs.size + 1) scope.names (cloFrom X.env.cells scope.names []) = ce at *
  generalize eDN : s3.heap.objs.size = DN at *
  have stat : ∀ {σ' : L2.St} {H' : Hp} {s' : Shared}, Inv (X.blk s3 H3 scope (compEnvC scope ce DN X.env) fp) [] σ' H' s' → (∀ b ∈ fp, H' b = none) → ∀ b ∈ fp, FpOk (X.blk s3 H3 scope (compEnvC scope ce DN X.env) fp) [] H' b := fun {σ' H' s'} I' hn b hb =>
    ⟨hn b hb, (I'.ok.exf b hb).1, I'.ok.exfs b hb, .inl hb, fun x c e => (I'.ok.exf b hb).2 x c e, fun p hp => absurd hp (by simp)⟩
  have st4 : tn 0 (pushCells (s3.heap.push { cls := Value.type "dict", data := Data.dict #[] }) scope.names) := T.keep 0 s3.heap _ st3 fun b _ o e => pushCells_keeps _ _ _ _ (Heap.get?_push_of_some _ e)
  have loop : codeAny (model X.prog X.w) X.A (Code.compLoop (elt.SetComp [{ target := tg, iter := iter, ifs := ifs, is_async := 0 }] scope pos) 0 (.ref it) (.ref s2.heap.objs.size) (compEnvC scope ce DN X.env))
      (compPost (model X.prog X.w) X.A X.xe use Qf (.ref s2.heap.objs.size) DN)
      { heap := pushCells (s3.heap.push { cls := Value.type "dict", data := Data.dict #[] }) scope.names, gens := s3.gens, drawn := s3.drawn, toks := s3.toks, os := s3.os } := by
    refine PpSet.compLoopS_any (fun n s' => ∃ i H', Inv (X.blk s3 H3 scope (compEnvC scope ce DN X.env) fp) [] (wipe σ (own.map (·.2))) H' s' ∧ tn i s'.heap ∧ (∀ b ∈ fp, H' b = none) ∧ W i n H') ?_ m0 ⟨0, H3, I4, st4, nfp, w0⟩
    rintro n s5 ⟨i, H5, I5, st5, n5, w5⟩
    rcases turn i n H5 w5 with ⟨stop, qq⟩ | ⟨go, Nx, hNx, step⟩
    · have td := T.done (X.blk s3 H3 scope (compEnvC scope ce DN X.env) fp) rfl rfl rfl hc i [] s5 _ H5 (fun _ _ => False) I5 (stat I5 n5) st5 stop
      refine thnF td fun r s6 h6 => ?_
      obtain ⟨rfl, I6⟩ := h6
      have I7 := Inv.call' I3 I6.os I6.base I6.hok I6.bare fun b hb => ⟨(f3 b hb).1.2.2.2.1, (f3 b hb).1.2.1, (f3 b hb).1.2.2.2.2.1, (f3 b hb).1.2.2.2.2.2⟩
      have nC : H5 DN = none := I6.free
      obtain ⟨m, hn, _⟩ := I6.loc
      exact hRR s2.heap.objs.size DN s6 m H5 I7 qq hn (I3.fpOk (Nat.le_of_eq eDN) nC)
    · have ti := T.item (X.blk s3 H3 scope (compEnvC scope ce DN X.env) fp) rfl rfl rfl hc i [] s5 _ H5 (fun _ _ => False) I5 (stat I5 n5) st5 go
      refine thnF ti fun r s6 h6 => ?_
      obtain ⟨u, rfl, h6⟩ := h6
      refine thnF h6 fun _ s7 h7 => ?_
      obtain ⟨x, H7, I7, r7, y7, st7, n7⟩ := h7
      have I7' := Inv.pinned I7 (stat I7 n7) (T.obj (i + 1) s7.heap st7)
      refine thnF (pg.run ([] ++ pinsAt fp s7.heap) s7 _ H7 x u _ I7' r7 (step x H7 y7)) fun _ s8 h8 => ?_
      obtain ⟨σ8, H8, I8, hw8, q8⟩ := h8
      have fin : ∀ {H' : Hp} {s' : Shared}, Inv (X.blk s3 H3 scope (compEnvC scope ce DN X.env) fp) ([] ++ pinsAt fp s7.heap) σ8 H' s' → Nx H' → ∃ m, m < n ∧ ∃ i H', Inv (X.blk s3 H3 scope (compEnvC scope ce DN X.env) fp) [] (wipe σ (own.map (·.2))) H' s' ∧ tn i s'.heap ∧ (∀ b ∈ fp, H' b = none) ∧ W i m H' := fun {H' s'} I' nx => by
        obtain ⟨m', hm, w'⟩ := hNx H' nx
        have z : ∀ b ∈ fp, ∀ o, s7.heap.get? b = some o → s'.heap.get? b = some o ∧ H' b = none := fun b hb o e => by
          have z := I'.pin (b, o) (List.mem_append_right _ (mem_pinsAt hb e))
          exact ⟨z.1, z.2.1⟩
        have hl : (wipe σ (own.map (·.2))).length = σ8.length := by rw [← hw8, wipe_length]
        refine ⟨m', hm, i + 1, H', Inv.weak (Inv.unpinned I') hl (fun j v e => (wipe_some (by rw [hw8]; exact e)).1), T.keep (i + 1) s7.heap s'.heap st7 (fun b hb o e => (z b hb o e).1), fun b hb => ?_, w'⟩
        obtain ⟨o, e, _⟩ := T.obj (i + 1) s7.heap st7 b hb
        exact (z b hb o e).2
      refine thnF (pt.run ([] ++ pinsAt fp s7.heap) s8 σ8 H8 _ I8 q8) fun b s9 h9 => ?_
      obtain ⟨H9, I9, q9⟩ := h9
      cases b with
      | false => exact fin I9 q9
      | true =>
        refine thnF (pe.run ([] ++ pinsAt fp s7.heap) s9 σ8 H9 _ I9 q9) fun yv s10 h10 => ?_
        obtain ⟨y, H10, I10, r10, k, S, nn, rfl, hD10, hz10, nx⟩ := h10
        have ad := mt_saddQ (X := (X.blk s3 H3 scope (compEnvC scope ce DN X.env) fp)) ([] ++ pinsAt fp s7.heap) s10 σ8 H10 (.ref s2.heap.objs.size) [kV k] (.ref s2.heap.objs.size) [yv] (fun _ H' => Nx H') I10 rfl (.cons r10 .nil) ⟨_, k, S, nn, rfl, rfl, hD10, hz10, nx⟩
        refine thnF ad fun _ s11 h11 => ?_
        obtain ⟨_, H11, I11, _, nx'⟩ := h11
        exact fin I11 nx'
  subst eCe
  subst eDN
  exact PpSet.codeAny_compStart_set loop (T.self X.A 0 _ _ _ st4 loop)
theorem pe_scQ (hc : X.calm = true) (hN : X.N.Nodup) (hi : PI X tg iter wi) (ok : BlkOk X.N X.env.scope scope own)
    (hg : ∀ (s : Shared) (H : Hp) (C : Addr) (cl : List (Str × Addr)) (fp : List Addr), PG (X.blk s H scope (compEnvC scope cl C X.env) fp) tg g)
    (ht : ∀ (s : Shared) (H : Hp) (C : Addr) (cl : List (Str × Addr)) (fp : List Addr), PTs (X.blk s H scope (compEnvC scope cl C X.env) fp) ifs tt)
    (he : ∀ (s : Shared) (H : Hp) (C : Addr) (cl : List (Str × Addr)) (fp : List Addr), PE (X.blk s H scope (compEnvC scope cl C X.env) fp) elt te)
    (hs : ∀ x : Value, foldedSetIterable iter X.env x = pure x := by intro x; rfl) :
    PE X (.SetComp elt [⟨tg, iter, ifs, 0⟩] scope pos) (tScQ X.prog X.w wi g tt te (own.map (·.2))) := by
  refine ⟨fun pins s σ H Q I h => ?_⟩
  rw [PpSet.eval_SetComp]
  refine scQ_core hc hN I hi ok hg ht he hs h fun D C s' m H' I' q hn hf => ?_
  refine ⟨m, hn, fun h' hb => ⟨.ref D, H', ?_, rfl, q⟩⟩
  exact I'.turned (it := C) (fun b o n e => (hb.2 b n).trans e) hf.1 hf.2.1 hf.2.2.2.1 hf.2.2.2.2.1 hf.2.2.2.2.2
end
/-! ### sorted -/
def strM : Value → Str
  | .str x _ => x
  | _ => ""
def intM : Value → Int
  | .int i _ => i
  | _ => 0
theorem strs_all : ∀ l : List Value, (∀ v ∈ l, ∃ x t, v = Value.str x t) → StrsAre l (l.map strM)
  | [], _ => .nil
  | v :: l, h => by
    obtain ⟨x, t, rfl⟩ := h v List.mem_cons_self
    exact .cons x t (strs_all l fun u hu => h u (List.mem_cons_of_mem _ hu))
theorem ints_all : ∀ l : List Value, (∀ v ∈ l, ∃ x t, v = Value.int x t) → IntsAre l (l.map intM)
  | [], _ => .nil
  | v :: l, h => by
    obtain ⟨x, t, rfl⟩ := h v List.mem_cons_self
    exact .cons x t (ints_all l fun u hu => h u (List.mem_cons_of_mem _ hu))
section
variable {P : Program} {w : World} {A : Around} {E : Value → Shared → Prop} {s : Shared} {a : Addr} {S : Key → Bool} {n : Nat}
/-- the members gathered into a list that is sorted: what the sort may leave is told by Ok -/
theorem sort_setQ {Q : Value → Shared → Prop} (Ok : List Value → List Value → Prop) (R : SetQ P w s.heap a S n) (calm : A.handled = none)
    (srt : ∀ (z : Shared) (l : Addr) (vs : List Value) (Qz : PySem.Fin → Shared → Prop), z.heap.get? l = some (seqObj "list" vs.toArray 0) → (∀ v ∈ vs, ∃ k, (mixKind P w).is k v = true ∧ S k = true) → vs.length ≤ sizeLine →
      (∀ out : Array Value, Ok vs out.toList → Qz (.done (.ret .none)) { z with heap := sortedHeap z.heap l vs out }) → wpAny (model P w) A.in1.in1 (Builtin.«list.sort» ⟨[.ref l], []⟩) Qz E z)
    (kk : ∀ s' p (vs : List Value) (out : Array Value) (c : Nat), (∀ b o, s.heap.get? b = some o → s'.heap.get? b = some o) → s'.gens = s.gens → s'.os = s.os → s.heap.objs.size ≤ p → s'.heap.get? p = some (seqObj "list" out c) →
      (∀ v ∈ vs, ∃ k, (mixKind P w).is k v = true ∧ S k = true) → (vs.map keyM).Nodup → (∀ k, S k = true ↔ k ∈ vs.map keyM) → vs.length = n → Ok vs out.toList → Q (.ref p) s') :
    wpAny (model P w) A (call (.builtin "sorted") [.ref a]) Q E s := by
  obtain ⟨o, es, ep, t, at0, xs, dt, el, mm, sz, ft, rfl, T⟩ := R
  refine Calls.call_function_entry kind_sorted plain_sorted entry_sorted (args_sorted1 _) ?_
  unfold Builtin.«sorted»
  refine wpAny_bind (m := checkCount "sorted" 1 1 _) (wpAny_pure ?_)
  refine wpAny_bind (collect_set (A := A.in1) calm ⟨o, at0, xs.1, dt⟩ ft sz T.ri T.le fun s1 vs k1 hz g1 o1 pm => ?_)
  have vl : vs.length = es.size := by rw [pm.length_eq, List.length_map, Array.length_toList]
  have pk : (vs.map keyM).Perm (keysM es.toList) := by
    have q := pm.map keyM
    rw [List.map_map] at q
    exact q
  have mk : ∀ k, S k = true ↔ k ∈ vs.map keyM := fun k => (mm k).trans pk.mem_iff.symm
  have each : ∀ v ∈ vs, ∃ k, (mixKind P w).is k v = true ∧ S k = true := fun v hv => by
    obtain ⟨e, he, q⟩ := List.mem_map.mp (pm.mem_iff.mp hv)
    obtain ⟨⟨k, h1, _⟩, _⟩ := el e he
    exact ⟨k, q ▸ h1, (mm k).mpr ((mem_keysM el k).mpr ⟨e, he, h1⟩)⟩
  have big : vs.length ≤ sizeLine := by rw [vl]; exact fits_of_scanBound sz
  refine wpAny_bind (wpAny_newList ?_ (by exact big))
  have atL : (s1.heap.push (seqObj "list" vs.toArray 0)).get? s1.heap.objs.size = some (seqObj "list" vs.toArray 0) := Heap.get?_push_size _ rfl
  refine wpAny_bind (wpAny_holding (wpAny_call_entry slot_list_sort ⟨_, atL, rfl⟩ entry_list_sort (srt _ _ _ _ atL each big fun out ok => ⟨_, rfl, ?_⟩) (args_list_sort _)))
  obtain ⟨c, hc⟩ := sortedHeap_at (vs := vs) (out := out) atL
  refine wpAny_pure ⟨_, rfl, kk _ s1.heap.objs.size vs out c (fun b u e => ?_) g1 o1 hz hc each (pk.nodup_iff.mpr T.nd) mk vl ok⟩
  have q := k1 b u e
  have lt := Heap.lt_size q
  exact (sortedHeap_old (Nat.ne_of_lt lt) (by rw [size_push']; exact Nat.lt_succ_of_lt lt)).trans (Heap.get?_push_of_some _ q)
end
/-- sorted(a set of texts) -/
def rSortedQS (P : Program) (w : World) : List V → Hp → VK → Prop := fun xs H Q => ∃ (a : Addr) (S : Key → Bool) (n : Nat), xs = [V.ref a] ∧ H a = some (SetQO P w a S n) ∧ (∀ i, S (.inl i) = false) ∧
  ∀ (ys : List Str) (p : Addr), ys.Nodup → (∀ x, x ∈ ys ↔ S (.inr x) = true) → ys.length = n → sortedS ys = true → H p = none → Q (.ref p) (upd H p (.lst (ys.map V.str)))
/-- sorted(a set of numbers) -/
def rSortedQI (P : Program) (w : World) : List V → Hp → VK → Prop := fun xs H Q => ∃ (a : Addr) (S : Key → Bool) (n : Nat), xs = [V.ref a] ∧ H a = some (SetQO P w a S n) ∧ (∀ x, S (.inr x) = false) ∧
  ∀ (ns : List Int) (p : Addr), ns.Pairwise (· < ·) → (∀ i, i ∈ ns ↔ S (.inl i) = true) → ns.length = n → H p = none → Q (.ref p) (upd H p (.lst (ns.map V.int)))
theorem cr_sortedQS {X : Cx} (hc : X.calm = true) : CallR X (.builtin "sorted") (rSortedQS X.prog X.w) := by
  intro pins s σ H vs us Q I r h
  obtain ⟨a, S, n, rfl, ha, hS, q⟩ := h
  rw [Vals.ref1 r]
  have allS : ∀ ws : List Value, (∀ v ∈ ws, ∃ k, (mixKind X.prog X.w).is k v = true ∧ S k = true) → StrsAre ws (ws.map strM) := fun ws h => strs_all ws fun v hv => by
    obtain ⟨k, h1, h2⟩ := h v hv
    rcases keyIs_shape h1 with ⟨i, t, rfl, rfl⟩ | ⟨x, t, rfl, rfl⟩
    · rw [hS] at h2; cases h2
    · exact ⟨x, t, rfl⟩
  refine sort_setQ (fun ws out => ∃ ss', StrsAre out ss' ∧ ss'.Perm (ws.map strM) ∧ sortedS ss' = true) (setQ_get I ha) (I.ok.hd hc) (fun z l ws Qz hl each big fin => ?_) fun s' p ws out c k g o hp hg each nd mk wl ok => ?_
  · have A1 := allS ws each
    refine list_sort_treeKAny strKind_oneLt hl A1.keysOf (fun v₁ v₂ rest e => keyKind_strs (by rw [← e]; exact A1)) big fun st' h1 h2 => ?_
    exact fin _ (sorted_out_str A1 h1 h2)
  obtain ⟨ss', b1, b2, b3⟩ := ok
  have A1 := allS ws each
  have km : ws.map keyM = (ws.map strM).map Sum.inr := by
    rw [List.map_map]
    refine List.map_congr_left fun v hv => ?_
    obtain ⟨k', h1, h2⟩ := each v hv
    rcases keyIs_shape h1 with ⟨i, t, rfl, rfl⟩ | ⟨x, t, rfl, rfl⟩
    · rw [hS] at h2; cases h2
    · rfl
  have n1 : (ws.map strM).Nodup := by
    rw [km] at nd
    exact (List.pairwise_map.mp nd).imp fun z e => z (congrArg Sum.inr e)
  have len : (ss'.map V.str).length ≤ sizeLine := by
    rw [List.length_map, b2.length_eq, List.length_map, wl]
    obtain ⟨_, _, _, _, _, _, _, _, _, sz, _, rfl, _⟩ := setQ_get I ha
    exact fits_of_scanBound sz
  have hn : H p = none := I.hok.fresh hp
  have J : Inv X pins σ (upd H p (.lst (ss'.map V.str))) { s with heap := s'.heap, gens := s'.gens, drawn := s'.drawn, toks := s'.toks } :=
    I.call (ch := []) (Un.laid k hp hn) (I.hok.laid k hp ⟨len, out.toList, c, vals_of_strs b1, hg⟩) (by rw [g]; exact I.bare) (fun _ z => nomatch z)
  have e : s' = { s with heap := s'.heap, gens := s'.gens, drawn := s'.drawn, toks := s'.toks } := by
    cases s'; cases s; cases o; rfl
  rw [e]
  refine ⟨.ref p, _, J, rfl, q ss' p (b2.nodup_iff.mpr n1) (fun x => ?_) (by rw [b2.length_eq, List.length_map, wl]) b3 hn⟩
  rw [b2.mem_iff, mk (.inr x), km]
  exact ⟨fun z => List.mem_map.mpr ⟨x, z, rfl⟩, fun z => by
    obtain ⟨y, hy, e⟩ := List.mem_map.mp z
    exact Sum.inr.inj e ▸ hy⟩
theorem cr_sortedQI {X : Cx} (hc : X.calm = true) : CallR X (.builtin "sorted") (rSortedQI X.prog X.w) := by
  intro pins s σ H vs us Q I r h
  obtain ⟨a, S, n, rfl, ha, hS, q⟩ := h
  rw [Vals.ref1 r]
  have allI : ∀ ws : List Value, (∀ v ∈ ws, ∃ k, (mixKind X.prog X.w).is k v = true ∧ S k = true) → IntsAre ws (ws.map intM) := fun ws h => ints_all ws fun v hv => by
    obtain ⟨k, h1, h2⟩ := h v hv
    rcases keyIs_shape h1 with ⟨i, t, rfl, rfl⟩ | ⟨x, t, rfl, rfl⟩
    · exact ⟨i, t, rfl⟩
    · rw [hS] at h2; cases h2
  refine sort_setQ (fun ws out => ∃ ns', IntsAre out ns' ∧ ns'.Perm (ws.map intM) ∧ ns'.Pairwise (· ≤ ·)) (setQ_get I ha) (I.ok.hd hc) (fun z l ws Qz hl each big fin => ?_) fun s' p ws out c k g o hp hg each nd mk wl ok => ?_
  · exact list_sort_treeAny hl (allI ws each) big fun out ns' h1 h2 h3 => fin _ ⟨ns', h1, h2, h3⟩
  obtain ⟨ns', b1, b2, b3⟩ := ok
  have km : ws.map keyM = (ws.map intM).map Sum.inl := by
    rw [List.map_map]
    refine List.map_congr_left fun v hv => ?_
    obtain ⟨k', h1, h2⟩ := each v hv
    rcases keyIs_shape h1 with ⟨i, t, rfl, rfl⟩ | ⟨x, t, rfl, rfl⟩
    · rfl
    · rw [hS] at h2; cases h2
  have n1 : (ws.map intM).Nodup := by
    rw [km] at nd
    exact (List.pairwise_map.mp nd).imp fun z e => z (congrArg Sum.inl e)
  have len : (ns'.map V.int).length ≤ sizeLine := by
    rw [List.length_map, b2.length_eq, List.length_map, wl]
    obtain ⟨_, _, _, _, _, _, _, _, _, sz, _, rfl, _⟩ := setQ_get I ha
    exact fits_of_scanBound sz
  have hn : H p = none := I.hok.fresh hp
  have J : Inv X pins σ (upd H p (.lst (ns'.map V.int))) { s with heap := s'.heap, gens := s'.gens, drawn := s'.drawn, toks := s'.toks } :=
    I.call (ch := []) (Un.laid k hp hn) (I.hok.laid k hp ⟨len, out.toList, c, vals_of_ints b1, hg⟩) (by rw [g]; exact I.bare) (fun _ z => nomatch z)
  have e : s' = { s with heap := s'.heap, gens := s'.gens, drawn := s'.drawn, toks := s'.toks } := by
    cases s'; cases s; cases o; rfl
  rw [e]
  have nd2 := b2.nodup_iff.mpr n1
  refine ⟨.ref p, _, J, rfl, q ns' p (lt_of_le_nodup ns' b3 nd2) (fun x => ?_) (by rw [b2.length_eq, List.length_map, wl]) hn⟩
  rw [b2.mem_iff, mk (.inl x), km]
  exact ⟨fun z => List.mem_map.mpr ⟨x, z, rfl⟩, fun z => by
    obtain ⟨y, hy, e⟩ := List.mem_map.mp z
    exact Sum.inl.inj e ▸ hy⟩
end Pw

namespace Pw
open PySem PySem.Spec PyProof.Rows L2
section
variable {J : It} {n : Nat} {G : Hp → Prop} {Y : Nat → Hp → V → Hp → Prop} {g : TG} {tt : L2.TT} {tk tv te : TE} {vs : List Nat} {σ : L2.St} {H1 : Hp} {D : Addr} {Qd : Hp → Prop}
theorem sq_it {P : Program} {wd : World} (w : Walk J n G Y) (Pv : Nat → Hp → Prop) (h0 : Pv 0 (upd H1 D (SetQO P wd D (fun _ => false) 0))) (hG : ∀ i H, i ≤ n → Pv i H → G H)
    (hs : ∀ i x H H', i < n → Pv i H → Y i H x H' → g x (wipe σ vs) H' fun σ2 H2 => wipe σ2 vs = wipe σ vs ∧ tt σ2 H2 fun b H3 => if b = true then te σ2 H3 fun y H4 =>
      ∃ (k : Key) (S : Key → Bool) (n : Nat), y = kV k ∧ H4 D = some (SetQO P wd D S n) ∧ n + 1 < scanBound ∧ Pv (i + 1) (upd H4 D (SetQO P wd D (fun j => S j || decide (j = k)) (if S k = true then n else n + 1))) else Pv (i + 1) H3)
    (hd : ∀ H, Pv n H → Qd H) : ∃ W : Nat → Nat → Hp → Prop, (∃ m, W 0 m (upd H1 D (SetQO P wd D (fun _ => false) 0))) ∧ ∀ i m H, W i m H → (J.stop i H ∧ Qd H) ∨ (J.go i H ∧ ∃ Nx : Hp → Prop, (∀ H', Nx H' → ∃ m', m' < m ∧ W (i + 1) m' H') ∧
      ∀ x H', J.yld i H x H' → g x (wipe σ vs) H' fun σ2 H2 => wipe σ2 vs = wipe σ vs ∧ tt σ2 H2 fun b H3 => if b = true then te σ2 H3 fun y H4 =>
        ∃ (k : Key) (S : Key → Bool) (n : Nat), y = kV k ∧ H4 D = some (SetQO P wd D S n) ∧ n + 1 < scanBound ∧ Nx (upd H4 D (SetQO P wd D (fun j => S j || decide (j = k)) (if S k = true then n else n + 1))) else Nx H3) := by
  refine ⟨fun i m H => i ≤ n ∧ m = n - i ∧ Pv i H, ⟨n, Nat.zero_le _, rfl, h0⟩, ?_⟩
  rintro i m H ⟨hi, rfl, p⟩
  by_cases h : i = n
  · subst h
    exact .inl ⟨w.stops H (hG _ _ (Nat.le_refl _) p), hd H p⟩
  · exact .inr ⟨w.goes i H (by omega) (hG i H hi p), Pv (i + 1), fun H' p' => ⟨n - (i + 1), by omega, by omega, rfl, p'⟩, fun x H' y => hs i x H H' (by omega) p (w.yields i H x H' (by omega) (hG i H hi p) y)⟩
end
end Pw

set_option maxHeartbeats 8000000
namespace V59
open PySem PySem.Spec PyProof.Rows L2 Pw
theorem str_dec (a b : Str) : decide (V.str a = V.str b) = decide (a = b) := by
  by_cases h : a = b
  · rw [decide_eq_true h, decide_eq_true (congrArg V.str h)]
  · rw [decide_eq_false h, decide_eq_false fun z => h (V.str.inj z)]
/-! ### the places of works -/
section
variable {P : Program} {w : World} {K : PySem.W.Frag} {mg : Str → Option Value} {base : Heap} {C : Addr}
def spPlaces (C : Addr) (K : PySem.W.Frag) : Sp := fun vs H Q _ => ∃ p W ps, vs = [.ref p] ∧ WoP K C H p W ps ∧ ∀ (ys : List Str) l H', Same H H' → H l = none → H' l = some (.lst (ys.map V.str)) → (∀ x, x ∈ ys ↔ x ∈ ps.map Pt.pl) → ys.Nodup → Q (.ref l) H'
theorem d_places (T : Txt mg) (Wc : WoC K C) (A : AtMt K C "places" "Works.places" mWorks_Places) : DefM P w K mg base C "places" 1 ["self"] (spPlaces C K) := by
  refine mkDefM A scmWorks_Places (fun _ _ _ _ _ _ us hl => match us, hl with | [_], _ => rfl) (fun vs H Q E ⟨_, _, _, e, _⟩ => by rw [e]; rfl)
    (fun f cdv A out s H vs Q E hr h => ?_)
  obtain ⟨p, W, ps, rfl, hw, k⟩ := h
  obtain ⟨dx, tp, dp, tr, dr, tc, tm, dm, tl, e0, e1, _⟩ := hw.wo.ex
  refine ⟨_, (pss_one (ps_ret (pe_callB (cr_sortedQS rfl) (by rfl) T.sorted (by decide +kernel) (pa_cons (pe_scQ (own := [("_", 1), ("place", 2)]) (g := (gTup K 3 (gCons (gName 1) (gCons (gName 2) (gCons (gName 1) gNil))))) (tt := tYes) rfl scmWorks_Places.nd (pi_sq (pe_fld (pv 0) rfl))
        (blkOk_by (own := [("_", 1), ("place", 2)]) (N := ["self", "_", "place"]) (sc := defScope mWorks_Places) (by decide +kernel))
        (fun _ _ _ _ _ => (pg_tup (by rfl) (pgs_cons (pg_name (i := 1) scmWorks_Places.nd rfl (.inl rfl)) (pgs_cons (pg_name (i := 2) scmWorks_Places.nd rfl (.inl rfl)) (pgs_cons (pg_name (i := 1) scmWorks_Places.nd rfl (.inl rfl)) pgs_nil))))) (fun _ _ _ _ _ => pts_nil)
        (fun _ _ _ _ _ => (pv 2))) pa_nil)))), ?_⟩
  refine ⟨_, rfl, p, C, dx, _, _, rfl, e0, Wc.cl, Wc.nPo, lk_eq, tp, W.xs, rfl, .inr e1, fun J G hG wk D nD => ?_⟩
  have p8 := hw.g.len
  have hlen := hw.al.length
  refine sq_it wk (fun i X => Same H X ∧ ∃ (S : Key → Bool) (n : Nat), X D = some (SetQO P w D S n) ∧ n ≤ i ∧ (∀ j, S (.inl j) = false) ∧ ∀ u, S (.inr u) = true ↔ u ∈ (ps.take i).map Pt.pl) ?_ (fun i X _ h => hG X h.1) ?_ ?_
  · exact ⟨Same.laid nD, _, 0, upd_same, Nat.le_refl _, fun _ => rfl, fun u => by simp⟩
  · rintro i v H4 H5 hi ⟨S4, S, n, eD, nl, h1, h2⟩ ⟨rfl, hx⟩
    obtain ⟨q, pt, rfl, hpt, ep⟩ := (hw.al.same S4).get hx
    refine ⟨q, _, rfl, SqT.of ep, rfl, _, _, rfl, _, _, rfl, _, _, rfl, rfl, ?_⟩
    refine ⟨rfl, ?_⟩
    unfold tYes
    refine iteT ⟨_, rfl, .inr pt.pl, S, n, rfl, eD, Nat.lt_of_le_of_lt (show n + 1 ≤ 9 by omega) (by decide), Same.wo_upd S4 nD, _, _, upd_same, by split <;> omega, fun j => ?_, fun u => ?_⟩
    · show (S (.inl j) || decide ((Sum.inl j : Key) = .inr pt.pl)) = false
      rw [h1, decide_eq_false (fun z => nomatch z)]
      rfl
    · show (S (.inr u) || decide ((Sum.inr u : Key) = .inr pt.pl)) = true ↔ _
      rw [List.take_add_one, hpt, List.map_append, List.mem_append, Bool.or_eq_true, decide_eq_true_eq, h2]
      refine or_congr Iff.rfl ⟨fun z => ?_, fun z => ?_⟩
      · rw [Sum.inr.inj z]; simp
      · simp at z; rw [z]
  rintro H4 ⟨S4, S, n, eD, nl, h1, h2⟩
  refine ⟨D, S, n, rfl, eD, h1, fun ys l nd hm _ _ nl' => ?_⟩
  rw [List.take_of_length_le (by omega)] at h2
  exact k ys l _ (S4.trans (Same.laid nl')) (Same.no S4 nl') upd_same (fun x => (hm x).trans (h2 x)) nd
def spHasPl (C : Addr) (K : PySem.W.Frag) : Sp := fun vs H Q _ => ∃ p W ps s, vs = [.ref p, .str s] ∧ WoP K C H p W ps ∧ OkName s ∧ ∀ H', Same H H' → Q (.bl (decide (s ∈ ps.map Pt.pl))) H'
theorem d_hasPl (Wc : WoC K C) (A : AtMt K C "has_place" "Works.has_place" mWorks_HasPlace) (dn : Def P w K mg base "is_name" 1 ["thing"] (spName K)) (dp : DefM P w K mg base C "places" 1 ["self"] (spPlaces C K)) :
    DefM P w K mg base C "has_place" 2 ["self", "thing"] (spHasPl C K) := by
  refine mkDefM A scmWorks_HasPlace (fun _ _ _ _ _ _ us hl => match us, hl with | [_, _], _ => rfl) (fun vs H Q E ⟨_, _, _, _, e, _⟩ => by rw [e]; rfl)
    (fun f cdv A out s H vs Q E hr h => ?_)
  obtain ⟨p, W, ps, s0, rfl, hw, on, k⟩ := h
  refine ⟨_, (pss_one (ps_ret (pe_and (pe_d dn hr (by decide) (by rfl) (pa_cons (pv 1) pa_nil)) (pe_one (pe_cmpR op_in_seq (pv 1) (pe_mm0 (pv 0) Wc.cl dp hr (by decide)) (by rfl)))))), ?_⟩
  refine ⟨_, rfl, .str s0, _, rfl, .str _, on.sh, fun H1 S1 => ⟨true, congrArg V.bl on.b, iteT ?_⟩⟩
  have hw1 := hw.same S1
  obtain ⟨dx, tp, dp', tr, dr, tc, tm, dm, tl, e0, _⟩ := hw1.wo.ex
  refine ⟨_, rfl, _, rfl, p, dx, _, rfl, e0, wof_no (by decide +kernel) (by decide +kernel) (by decide +kernel) (by decide +kernel) (by decide +kernel) (by decide +kernel) (by decide +kernel) (by decide +kernel), p, W, ps, rfl, hw1, fun ys l H2 S2 nl el hm _ => ?_⟩
  refine ⟨l, _, rfl, .inl (SqL.of el), rfl, flat_strs _, ?_⟩
  rw [inV_str]
  have : decide (s0 ∈ ys) = decide (s0 ∈ ps.map Pt.pl) := by
    by_cases h : s0 ∈ ps.map Pt.pl
    · rw [decide_eq_true h, decide_eq_true ((hm s0).mpr h)]
    · rw [decide_eq_false h, decide_eq_false fun z => h ((hm s0).mp z)]
  rw [this]
  exact k _ (S1.trans S2)
def spPtsAt (C : Addr) (K : PySem.W.Frag) : Sp := fun vs H Q _ => ∃ p W ps s, vs = [.ref p, .str s] ∧ WoP K C H p W ps ∧ s ∈ ps.map Pt.pl ∧ ∀ l H', Same H H' → H l = none → H' l = some (.lst (((ps.filter fun x => decide (x.pl = s)).map Pt.nm).map V.str)) → Q (.ref l) H'
theorem d_ptsAt (Wc : WoC K C) (A : AtMt K C "points_at" "Works.points_at" mWorks_PointsAt) (dh : DefM P w K mg base C "has_place" 2 ["self", "thing"] (spHasPl C K)) :
    DefM P w K mg base C "points_at" 3 ["self", "place"] (spPtsAt C K) := by
  refine mkDefM A scmWorks_PointsAt (fun _ _ _ _ _ _ us hl => match us, hl with | [_, _], _ => rfl) (fun vs H Q E ⟨_, _, _, _, e, _⟩ => by rw [e]; rfl)
    (fun f cdv A out s H vs Q E hr h => ?_)
  obtain ⟨p, W, ps, s0, rfl, hw, hin, k⟩ := h
  refine ⟨_, (pss_cons (ps_if (pt_not (pt_val (pe_mm (pv 0) Wc.cl dh hr (by decide) (pa_cons (pv 1) pa_nil))))
      (pss_one ps_never)
      pss_nil)
    (pss_one (ps_ret (pe_lc (own := [("name", 2), ("where", 3), ("_", 4)]) (g := (gTup K 3 (gCons (gName 2) (gCons (gName 3) (gCons (gName 4) gNil))))) rfl scmWorks_PointsAt.nd (pi_sq (pe_fld (pv 0) rfl))
        (blkOk_by (own := [("name", 2), ("where", 3), ("_", 4)]) (N := ["self", "place", "name", "where", "_"]) (sc := defScope mWorks_PointsAt) (by decide +kernel))
        (fun _ _ _ _ _ => (pg_tup (by rfl) (pgs_cons (pg_name (i := 2) scmWorks_PointsAt.nd rfl (.inl rfl)) (pgs_cons (pg_name (i := 3) scmWorks_PointsAt.nd rfl (.inl rfl)) (pgs_cons (pg_name (i := 4) scmWorks_PointsAt.nd rfl (.inl rfl)) pgs_nil))))) (fun _ _ _ _ _ => (pts_one (pt_cmpR op_eq (pv 3) (pv 1) (nomark _))))
        (fun _ _ _ _ _ => (pv 2)))))), ?_⟩
  obtain ⟨pt0, hpt0, rfl⟩ := List.mem_map.mp hin
  obtain ⟨dx, tp, dp', tr, dr, tc, tm, dm, tl, e0, _⟩ := hw.wo.ex
  refine ⟨_, rfl, p, dx, _, rfl, e0, wof_no (by decide +kernel) (by decide +kernel) (by decide +kernel) (by decide +kernel) (by decide +kernel) (by decide +kernel) (by decide +kernel) (by decide +kernel), _, rfl, p, W, ps, pt0.pl, rfl, hw, (hw.g.all pt0 hpt0).pl, fun H1 S1 => ?_⟩
  rw [decide_eq_true hin]
  refine ⟨_, rfl, iteF ?_⟩
  have hw1 := hw.same S1
  obtain ⟨dx, tp, dp', tr, dr, tc, tm, dm, tl, e0, e1, _⟩ := hw1.wo.ex
  have p8 := hw.g.len
  have hlen := hw.al.length
  refine ⟨_, rfl, p, C, dx, _, _, rfl, e0, Wc.cl, Wc.nPo, lk_eq, tp, W.xs, rfl, .inr e1, fun J G hG wk D nD => ?_⟩
  refine lc_acc wk nD (by omega) (fun i acc _ => acc = (((ps.take i).filter fun x => decide (x.pl = pt0.pl)).map Pt.nm).map V.str) rfl hG ?_ ?_
  · rintro i v G0 G acc hi S eD hl rfl ⟨rfl, hx⟩ Fy Fn hy1 hy2
    obtain ⟨q, x, rfl, hx', eq⟩ := (hw1.al.same S).get hx
    have et : ps.take (i + 1) = ps.take i ++ [x] := by rw [List.take_add_one, hx']; rfl
    rw [et, List.filter_append, List.map_append, List.map_append] at hy1 hy2
    refine ⟨q, _, rfl, SqT.of eq, rfl, _, _, rfl, _, _, rfl, _, _, rfl, rfl, ?_⟩
    refine ⟨rfl, ?_⟩
    refine ⟨_, rfl, _, rfl, rfl, _, rfl, ?_⟩
    rw [str_dec]
    by_cases h : x.pl = pt0.pl
    · rw [decide_eq_true h]
      refine iteT ⟨_, rfl, hy1 _ _ (Same.refl _) ?_⟩
      simp [h]
    · rw [decide_eq_false h]
      refine iteF (hy2 _ (Same.refl _) ?_)
      simp [h]
  rintro X acc S eD rfl
  rw [List.take_of_length_le (by omega)] at eD
  exact k D X (S1.trans S) (Same.no S1 nD) eD
end
/-! ### signs and letters -/
structure Sg where
  t : Int
  nm : Str
  w : Int
  m : Str
def f4 (r : Sg) : List V := [.int r.t, .str r.nm, .int r.w, .str r.m]
structure GoodS (ps : List Pt) (pl : Str) (r : Sg) : Prop where
  t0 : 0 ≤ r.t
  t1 : r.t ≤ 9999
  inn : ∃ pt ∈ ps, pt.nm = r.nm ∧ pt.pl = pl ∧ 0 ≤ r.w ∧ r.w ≤ hiP pt
  m : r.m = "good" ∨ r.m = "odd"
structure Lt where
  pl : Str
  no : Int
  tm : Int
  rs : List Sg
structure GoodLt (ps : List Pt) (L : Lt) : Prop where
  pl : L.pl ∈ ps.map Pt.pl
  n0 : 1 ≤ L.no
  n1 : L.no ≤ 40
  t0 : 0 ≤ L.tm
  t1 : L.tm ≤ 9999
  few : L.rs.length ≤ 12
  all : ∀ r ∈ L.rs, GoodS ps L.pl r
  up : (L.rs.map Sg.t ++ [L.tm]).Pairwise (· ≤ ·)
def LtAt (H : Hp) (q : Addr) (L : Lt) : Prop := ∃ rt vs, H q = some (.tup [.str "signs", .str L.pl, .int L.no, .int L.tm, .ref rt]) ∧ H rt = some (.tup vs) ∧ Al f4 H vs L.rs
theorem LtAt.same {H H' : Hp} {q : Addr} {L : Lt} (h : LtAt H q L) (S : Same H H') : LtAt H' q L := let ⟨rt, vs, e, et, al⟩ := h; ⟨rt, vs, S _ _ e, S _ _ et, al.same S⟩
theorem mark_one {s : Str} (h : s = "good" ∨ s = "odd") : oneB (.str s) ["good", "odd"] = true := by rcases h with rfl | rfl <;> decide +kernel
section
variable {P : Program} {w : World} {K : PySem.W.Frag} {mg : Str → Option Value} {base : Heap} {C : Addr}
def spSign (C : Addr) (K : PySem.W.Frag) : Sp := fun vs H Q _ => ∃ p q W ps pl r, vs = [.ref p, .ref q] ∧ WoP K C H p W ps ∧ H q = some (.tup (f4 r)) ∧ GoodS ps pl r ∧ ∀ H', Same H H' → Q (.bl true) H'
def spSignAt (C : Addr) (K : PySem.W.Frag) : Sp := fun vs H Q _ => ∃ p q W ps pl r, vs = [.ref p, .str pl, .ref q] ∧ WoP K C H p W ps ∧ H q = some (.tup (f4 r)) ∧ GoodS ps pl r ∧ ∀ H', Same H H' → Q (.bl true) H'
end
theorem sorted_eq : ∀ {xs ys : List Int}, xs.Perm ys → xs.Pairwise (· ≤ ·) → ys.Pairwise (· ≤ ·) → xs = ys
  | [], ys, p, _, _ => (List.Perm.nil_eq p)
  | x :: xs, [], p, _, _ => by have := p.length_eq; simp at this
  | x :: xs, y :: ys, p, h1, h2 => by
    obtain ⟨a1, a2⟩ := List.pairwise_cons.mp h1
    obtain ⟨b1, b2⟩ := List.pairwise_cons.mp h2
    have e : x = y := by
      have m1 : x ∈ y :: ys := p.mem_iff.mp List.mem_cons_self
      have m2 : y ∈ x :: xs := p.mem_iff.mpr List.mem_cons_self
      rcases List.mem_cons.mp m1 with h | h
      · exact h
      · rcases List.mem_cons.mp m2 with h' | h'
        · exact h'.symm
        · have := b1 x h; have := a1 y h'; omega
    subst e
    rw [sorted_eq ((List.perm_cons x).mp p) a2 b2]
theorem dp_intsL {K : PySem.W.Frag} {H : Hp} : ∀ ys : List Int, DpAll K H (ys.map V.int) (ys.map .int)
  | [] => .nil
  | y :: r => .cons (.int y) (dp_intsL r)
theorem eqvAll_ints : ∀ ys : List Int, PyData.eqvAll (ys.map .int) (ys.map .int) = true
  | [] => by simp only [List.map_nil, PyData.eqvAll]
  | y :: r => by simp [PyData.eqvAll, PyData.eqv, eqvAll_ints r]
theorem shaped_ints (ys : List Int) : SeqAt.shaped (.list (ys.map .int)) = true := by
  have h1 : ∀ ys : List Int, PyData.canLayAll0 (ys.map .int) = true := fun ys => by
    induction ys with
    | nil => simp only [List.map_nil, PyData.canLayAll0]
    | cons y r ih => simp only [List.map_cons, PyData.canLayAll0, PyData.canLay0, ih, Bool.and_self]
  have h2 : ∀ ys : List Int, PyData.depthAll (ys.map .int) = 0 := fun ys => by
    induction ys with
    | nil => simp only [List.map_nil, PyData.depthAll]
    | cons y r ih => simp only [List.map_cons, PyData.depthAll, PyData.depth, ih, Nat.max_self]
  unfold SeqAt.shaped
  simp only [PyData.canLay0, PyData.depth, h1, h2]
  rfl
section
variable {P : Program} {w : World} {K : PySem.W.Frag} {mg : Str → Option Value} {base : Heap} {C : Addr}
def spSigns (C : Addr) (K : PySem.W.Frag) : Sp := fun vs H Q _ => ∃ p q W ps L, vs = [.ref p, .ref q] ∧ WoP K C H p W ps ∧ LtAt H q L ∧ GoodLt ps L ∧ ∀ H', Same H H' → Q (.bl true) H'
/-- the rows of a point -/
def f3s (r : Sg) : List V := [.int r.t, .int r.w, .str r.m]
def rowsM (L : Lt) (nm : Str) : List Sg := L.rs.filter fun r => decide (r.nm = nm)
def spRowsIn : Sp := fun vs H Q _ => ∃ q L nm, vs = [.ref q, .str nm] ∧ LtAt H q L ∧ L.rs.length ≤ 12 ∧ ∀ l vs' H', Same H H' → H l = none → H' l = some (.lst vs') → Al f3s H' vs' (rowsM L nm) → Q (.ref l) H'
end
end V59

set_option maxHeartbeats 8000000
namespace V59
open PySem PySem.Spec PyProof.Rows L2 Pw
section
variable {P : Program} {w : World} {K : PySem.W.Frag} {mg : Str → Option Value} {base : Heap} {C : Addr}
/-- check_signs: of a good letter -/
def spChkS (C : Addr) (K : PySem.W.Frag) : Sp := fun vs H Q _ => ∃ p q W ps L, vs = [.ref p, .ref q] ∧ WoP K C H p W ps ∧ LtAt H q L ∧ GoodLt ps L ∧ ∀ H', Same H H' → Q .non H'
def spChkP (C : Addr) (K : PySem.W.Frag) : Sp := fun vs H Q _ => ∃ p W ps nm, vs = [.ref p, .str nm] ∧ WoP K C H p W ps ∧ OkName nm ∧ nm ∈ ps.map Pt.nm ∧ ∀ H', Same H H' → Q .non H'
def spChkT (K : PySem.W.Frag) : Sp := fun vs H Q _ => ∃ n : Int, vs = [.int n] ∧ 0 ≤ n ∧ n ≤ 9999 ∧ Q .non H
theorem d_chkT (A : At K mg "check_time" sCheckTime) (dti : Def P w K mg base "is_time" 4 ["thing"] (spRange K 0 9999)) : Def P w K mg base "check_time" 5 ["thing"] (spChkT K) := by
  refine mkDef A scCheckTime (fun _ _ _ _ _ _ us hl => match us, hl with | [_], _ => rfl) (fun vs H Q E ⟨_, e, _⟩ => by rw [e]; rfl)
    (fun f cdv A out s H vs Q E hr h => ?_)
  obtain ⟨n, rfl, h0, h1, k⟩ := h
  refine ⟨_, (pss_one (ps_if (pt_not (pt_val (pe_d dti hr (by decide) (by rfl) (pa_cons (pv 0) pa_nil))))
      (pss_one ps_never)
      pss_nil)), ?_⟩
  exact ⟨_, rfl, .int n, _, rfl, .int _, true, congrArg V.bl (whole_in h0 h1), iteF k⟩
def spChkPl (C : Addr) (K : PySem.W.Frag) : Sp := fun vs H Q _ => ∃ p W ps s, vs = [.ref p, .str s] ∧ WoP K C H p W ps ∧ OkName s ∧ s ∈ ps.map Pt.pl ∧ ∀ H', Same H H' → Q .non H'
theorem d_chkPl (Wc : WoC K C) (A : At K mg "check_place" sCheckPlace) (dh : DefM P w K mg base C "has_place" 2 ["self", "thing"] (spHasPl C K)) : Def P w K mg base "check_place" 3 ["works", "thing"] (spChkPl C K) := by
  refine mkDef A scCheckPlace (fun _ _ _ _ _ _ us hl => match us, hl with | [_, _], _ => rfl) (fun vs H Q E ⟨_, _, _, _, e, _⟩ => by rw [e]; rfl)
    (fun f cdv A out s H vs Q E hr h => ?_)
  obtain ⟨p, W, ps, nm, rfl, hw, on, hm, k⟩ := h
  refine ⟨_, (pss_one (ps_if (pt_not (pt_val (pe_mm (pv 0) Wc.cl dh hr (by decide) (pa_cons (pv 1) pa_nil))))
      (pss_one ps_never)
      pss_nil)), ?_⟩
  obtain ⟨dx, tp, dp, tr, dr, tc, tm, dm, tl, e0, _⟩ := hw.wo.ex
  refine ⟨_, rfl, p, dx, _, rfl, e0, wof_no (by decide +kernel) (by decide +kernel) (by decide +kernel) (by decide +kernel) (by decide +kernel) (by decide +kernel) (by decide +kernel) (by decide +kernel), _, rfl, p, W, ps, nm, rfl, hw, on, fun H1 S1 => ?_⟩
  rw [decide_eq_true hm]
  exact ⟨_, rfl, iteF (k H1 S1)⟩
end
end V59

namespace V59
open PySem PySem.Spec PyProof.Rows L2 Pw
/-- a box of draws -/
def BoxAt (H : Hp) (p : Addr) (n : Nat) : Prop := ∃ b0 b1 b2 : Int, H p = some (.lst [.int b0, .int b1, .int b2]) ∧
  0 ≤ b1 ∧ b1 < 2147483629 ∧ 0 ≤ b2 ∧ b2 ≤ n
theorem BoxAt.up {H : Hp} {p : Addr} {n m : Nat} (h : BoxAt H p n) (l : n ≤ m) : BoxAt H p m := by
  obtain ⟨b0, b1, b2, e, h1, h2, h3, h4⟩ := h
  exact ⟨b0, b1, b2, e, h1, h2, h3, by omega⟩
theorem BoxAt.keep {H H' : Hp} {p : Addr} {n : Nat} (h : BoxAt H p n) (S : Same H H') : BoxAt H' p n := by
  obtain ⟨b0, b1, b2, e, r⟩ := h
  exact ⟨b0, b1, b2, S _ _ e, r⟩
theorem BoxAt.laid {H : Hp} {p q : Addr} {n : Nat} {o : HO} (h : BoxAt H p n) (nq : H q = none) : BoxAt (upd H q o) p n := h.keep (Same.laid nq)
theorem BoxAt.ne {H : Hp} {p q : Addr} {n : Nat} (h : BoxAt H p n) (nq : H q = none) : q ≠ p := by
  obtain ⟨b0, b1, b2, e, r⟩ := h
  exact (ne_of_none e nq).symm
theorem menu {xs : List V} {i : Int} (h0 : 0 ≤ i) (h1 : i < (xs.length : Int)) : ∃ v, v ∈ xs ∧ atI xs i = some v := by
  obtain ⟨j, rfl⟩ := Int.eq_ofNat_of_zero_le h0
  have hj : j < xs.length := by omega
  exact ⟨xs[j], List.getElem_mem hj, atI_nat (by simp [hj])⟩

section
variable {P : Program} {w : World} {K : PySem.W.Frag} {mg : Str → Option Value} {base : Heap}
def spCell (K : PySem.W.Frag) : Sp := fun vs H Q _ => ∃ (a : Addr) (ns : List Int) (k : Int), vs = [.ref a, .int k] ∧ SqL K H a (ns.map V.int) ∧ ns.length ≤ 63 ∧
  0 ≤ k ∧ k ≤ 100 ∧ ∀ c, Q (.int c) H
theorem d_cell (T : Txt mg) (A : At K mg "_law_cell" sLawCell) : Def P w K mg base "_law_cell" 1 ["_law_script", "_law_k"] (spCell K) := by
  refine mkDef A scLawCell (fun _ _ _ _ _ _ us hl => match us, hl with | [_, _], _ => rfl) (fun vs H Q E ⟨a, ns, k, e, _⟩ => by rw [e]; rfl)
    (fun f cdv A out s H vs Q E hr h => ?_)
  obtain ⟨a, ns, i, rfl, hS, hl, h0, h1, k⟩ := h
  refine ⟨_, (pss_cons (ps_if (pt_cmpR op_lt (pv 1) (pe_callB call_len_seq (by rfl) T.len PySem.boot_len (pa_cons (pv 0) pa_nil)) (nomark _))
      (pss_one (ps_ret (pe_ix ix_list (pv 0) (pv 1) (fun _ _ => rfl))))
      pss_nil)
    (pss_one (ps_ret (pe_op op_add (pe_op op_mul pe_int (pv 1)) pe_int)))), ?_⟩
  refine ⟨_, rfl, _, rfl, a, ns.map V.int, rfl, .inl hS, i, _, rfl, rfl, _, rfl, ?_⟩
  refine ite2 (fun hlt => ?_) (fun _ => ?_)
  · have hlt' : i < ((ns.map V.int).length : Int) := of_decide_eq_true hlt
    rw [List.length_map] at hlt'
    obtain ⟨j, rfl⟩ := Int.eq_ofNat_of_zero_le h0
    have hj : j < ns.length := by omega
    refine ⟨_, rfl, _, rfl, a, ns.map V.int, (j : Int), .int ns[j], rfl, rfl, hS, ?_, k _⟩
    exact atI_nat (by simp [hj])
  · exact ⟨_, rfl, _, _, rfl, rfl, .inl ⟨by decide, by decide⟩, _, _, rfl, rfl, k _⟩

def spBox (K : PySem.W.Frag) : Sp := fun vs H Q _ => ∃ c, vs = [.int c] ∧
  ∀ p H', H p = none → Same H H' → BoxAt H' p 0 → Q (.ref p) H'
theorem d_box (T : Txt mg) (A : At K mg "_law_box" sLawBox) : Def P w K mg base "_law_box" 1 ["_law_cell_here"] (spBox K) := by
  refine mkDef A scLawBox (fun _ _ _ _ _ _ us hl => match us, hl with | [_], _ => rfl) (fun vs H Q E ⟨c, e, _⟩ => by rw [e]; rfl)
    (fun f cdv A out s H vs Q E hr h => ?_)
  obtain ⟨c, rfl, k⟩ := h
  refine ⟨_, (pss_one (ps_ret (pe_lst (pa_cons (pe_callB (call_max2 rfl) (by rfl) T.max PyProof.Rows.boot_max (pa_cons pe_int (pa_cons (pe_op op_sub (pv 0) (pe_op op_pow pe_int pe_int)) pa_nil))) (pa_cons (pe_op op_mod (pv 0) pe_int) (pa_cons pe_int pa_nil)))))), ?_⟩
  refine ⟨_, rfl, 10, 18, rfl, rfl, ⟨by decide, by decide, by decide⟩, _, _, rfl, rfl, 0, _, rfl, _, rfl, _, _, rfl, rfl, (by decide : (0 : Int) < 2147483629), (by show 3 ≤ sizeLine; decide), fun p hp => ?_⟩
  refine k p _ hp (Same.laid hp) ⟨_, _, _, upd_same, ?_, ?_, by decide, by decide⟩
  · exact Int.emod_nonneg _ (by decide)
  · have := Int.emod_lt_of_pos c (by decide : (0 : Int) < 2147483629)
    omega

def spTake (K : PySem.W.Frag) : Sp := fun vs H Q _ => ∃ p m n, vs = [.ref p, .int m] ∧ BoxAt H p n ∧ n ≤ 1000000 ∧ 0 < m ∧ m < 2 ^ 200 ∧
  ∀ i H', 0 ≤ i → i < m → BoxAt H' p (n + 1) → But p H H' → Q (.int i) H'
theorem d_take (A : At K mg "_law_take" sLawTake) : Def P w K mg base "_law_take" 1 ["_law_box_here", "_law_many"] (spTake K) := by
  refine mkDef A scLawTake (fun _ _ _ _ _ _ us hl => match us, hl with | [_, _], _ => rfl) (fun vs H Q E ⟨p, m, n, e, _⟩ => by rw [e]; rfl)
    (fun f cdv A out s H vs Q E hr h => ?_)
  obtain ⟨p, m, n, rfl, ⟨b0, b1, b2, hp, h1, h2, h3, h4⟩, hn, m0, mb, k⟩ := h
  have mb' : m.natAbs < 2 ^ 200 := by omega
  have at0 : atI [V.int b0, .int b1, .int b2] 0 = some (.int b0) := rfl
  have at1 : atI [V.int b0, .int b1, .int b2] 1 = some (.int b1) := rfl
  have at2 : atI [V.int b0, .int b1, .int b2] 2 = some (.int b2) := rfl
  refine ⟨_, (pss_cons (ps_if (pt_cmpR op_gt (pe_ix ix_list (pv 0) pe_int (fun _ _ => rfl)) pe_int (nomark _))
      (pss_cons (ps_set (i := 2) scLawTake.nd rfl (.inl rfl) (pe_op op_mod (pe_ix ix_list (pv 0) pe_int (fun _ _ => rfl)) (pv 1)))
      (pss_cons (ps_asg (pe_op op_fdivW (pe_ix ix_list (pv 0) pe_int (fun _ _ => rfl)) (pv 1)) (pg_sub (pv 0) pe_int set_list))
      (pss_one (ps_ret (pv 2)))))
      pss_nil)
    (pss_cons (ps_asg (pe_op op_add (pe_ix ix_list (pv 0) pe_int (fun _ _ => rfl)) pe_int) (pg_sub (pv 0) pe_int set_list))
    (pss_cons (ps_set (i := 3) scLawTake.nd rfl (.inl rfl) (pe_op op_mod (pe_op op_pow (pe_op op_add (pe_op op_add (pe_ix ix_list (pv 0) pe_int (fun _ _ => rfl)) (pe_op op_mul pe_int (pe_ix ix_list (pv 0) pe_int (fun _ _ => rfl)))) pe_int) pe_int) pe_int))
    (pss_cons (ps_set (i := 3) scLawTake.nd rfl (.inl rfl) (pe_op op_mod (pe_op op_pow (pe_op op_add (pv 3) (pe_op op_mul pe_int (pe_ix ix_list (pv 0) pe_int (fun _ _ => rfl)))) pe_int) pe_int))
    (pss_one (ps_ret (pe_op op_mod (pe_op op_fdiv (pv 3) pe_int) (pv 1)))))))), ?_⟩
  refine ⟨_, rfl, p, _, 0, _, rfl, rfl, SqL.of hp, at0, b0, 0, rfl, rfl, _, rfl, ?_⟩
  refine ite2 (fun hgt => ?_) (fun _ => ?_)
  · refine ⟨_, rfl, p, _, 0, _, rfl, rfl, SqL.of hp, at0, _, rfl, b0, m, rfl, rfl, m0, ?_⟩
    refine ⟨_, rfl, p, _, 0, _, rfl, rfl, SqL.of hp, at0, _, rfl, b0, m, rfl, rfl, wide_div m0 mb' (by decide) (by decide), ?_⟩
    refine ⟨_, rfl, p, _, 0, 0, rfl, rfl, hp, rfl, ?_⟩
    refine ⟨_, rfl, ?_⟩
    exact k _ _ (Int.emod_nonneg _ (by omega)) (Int.emod_lt_of_pos _ m0) ⟨_, b1, b2, upd_same, h1, h2, h3, by omega⟩ But.set
  · refine ⟨_, rfl, p, _, 2, _, rfl, rfl, SqL.of hp, at2, _, _, rfl, rfl, ?_⟩
    refine ⟨_, rfl, p, _, 2, 2, rfl, rfl, hp, rfl, ?_⟩
    have hp2 : upd H p (.lst [V.int b0, .int b1, .int (b2 + 1)]) p = some (.lst [V.int b0, .int b1, .int (b2 + 1)]) := upd_same
    have bt1 : atI [V.int b0, .int b1, .int (b2 + 1)] 1 = some (.int b1) := rfl
    have bt2 : atI [V.int b0, .int b1, .int (b2 + 1)] 2 = some (.int (b2 + 1)) := rfl
    refine ⟨_, rfl, p, _, 1, _, rfl, rfl, SqL.of hp2, bt1, _, rfl, p, _, 2, _, rfl, rfl, SqL.of hp2, bt2, _, _, rfl, rfl, .inl ⟨by decide, by decide⟩, _, _, rfl, rfl, _, _, rfl, rfl, 
      _, _, rfl, rfl, ⟨by decide, by decide, by omega⟩, _, _, rfl, rfl, (by decide : (0 : Int) < 2147483647), ?_⟩
    have e1 := Int.emod_nonneg ((b1 + 67867967 * (b2 + 1) + 53) ^ (5 : Int).toNat) (by decide : (2147483647 : Int) ≠ 0)
    have e2 := Int.emod_lt_of_pos ((b1 + 67867967 * (b2 + 1) + 53) ^ (5 : Int).toNat) (by decide : (0 : Int) < 2147483647)
    refine ⟨_, rfl, _, rfl, p, _, 2, _, rfl, rfl, SqL.of hp2, bt2, _, _, rfl, rfl, .inl ⟨by decide, by decide⟩, _, _, rfl, rfl, 
      _, _, rfl, rfl, ⟨by decide, by decide, ?_⟩, _, _, rfl, rfl, (by decide : (0 : Int) < 2147483587), ?_⟩
    · generalize (b1 + 67867967 * (b2 + 1) + 53) ^ (5 : Int).toNat % 2147483647 = z at e1 e2
      omega
    · refine ⟨_, rfl, _, _, rfl, rfl, ⟨by decide, by decide⟩, _, rfl, _, _, rfl, rfl, m0, ?_⟩
      exact k _ _ (Int.emod_nonneg _ (by omega)) (Int.emod_lt_of_pos _ m0) ⟨b0, b1, b2 + 1, upd_same, h1, h2, by omega, by omega⟩ But.set
end
end V59

/-! Texts by the list of their signs. -/
namespace Pw
open PySem PySem.Spec PyProof.Rows L2
def tx (cs : List Nat) : Str := ⟨cs.toArray⟩
theorem tx_cps (cs : List Nat) : (tx cs).cps.toList = cs := by simp [tx]
theorem tx_inj {a b : List Nat} (h : tx a = tx b) : a = b := by
  have := congrArg (fun s : Str => s.cps.toList) h
  simpa [tx] using this
theorem tx_of (s : Str) : s = tx s.cps.toList := by
  cases s
  simp [tx]
theorem tx_len (cs : List Nat) : (tx cs).length = cs.length := by
  show cs.toArray.size = _
  simp
theorem tx_add (a b : List Nat) : tx a ++ tx b = tx (a ++ b) := by
  show Str.mk (a.toArray ++ b.toArray) = Str.mk (a ++ b).toArray
  simp
theorem cut_tx (cs : List Nat) (lo hi : Option Int) : cutS (tx cs) lo hi = tx ((cs.drop (HT.sIx cs.length 0 lo)).take (HT.sIx cs.length cs.length hi - HT.sIx cs.length 0 lo)) := by
  unfold cutS
  rw [tx_len, tx_cps]
  rfl
theorem cut_tx_to (cs : List Nat) (i : Nat) : cutS (tx cs) none (some (i : Int)) = tx (cs.take i) := by
  rw [cut_tx]
  have e1 : HT.sIx cs.length 0 none = 0 := rfl
  rw [e1, HT.sIx_nat, List.drop_zero, Nat.sub_zero]
  by_cases h : i ≤ cs.length
  · rw [Nat.min_eq_left h]
  · rw [Nat.min_eq_right (by omega), List.take_length, List.take_of_length_le (by omega)]
theorem cut_tx_in (cs : List Nat) (i j : Nat) (hi : i ≤ cs.length) : cutS (tx cs) (some (i : Int)) (some (j : Int)) = tx ((cs.take j).drop i) := by
  rw [cut_tx, HT.sIx_nat, HT.sIx_nat, Nat.min_eq_left hi]
  congr 1
  rw [List.drop_take]
  by_cases h : j ≤ cs.length
  · rw [Nat.min_eq_left h]
  · rw [Nat.min_eq_right (by omega), List.take_of_length_le (by rw [List.length_drop]; omega), List.take_of_length_le (by rw [List.length_drop]; omega)]
theorem join_go : ∀ (css : List (List Nat)) (acc : Array Nat), List.foldl (fun (acc : Array Nat) (p : Str) => acc ++ (tx []).cps ++ p.cps) acc (css.map tx) = acc ++ css.flatten.toArray
  | [], acc => by simp
  | c :: css, acc => by
    rw [List.map_cons, List.foldl_cons, join_go css]
    simp [tx]
theorem join_tx (css : List (List Nat)) : Txt.join (tx []) (css.map tx) = tx css.flatten := by
  show Str.mk _ = Str.mk _
  cases css with
  | nil => rfl
  | cons c css =>
    show Str.mk (List.foldl _ (tx c).cps (css.map tx)) = _
    rw [join_go css]
    simp [tx]
theorem flat_ones : ∀ cs : List Nat, (cs.map fun c => [c]).flatten = cs
  | [] => rfl
  | c :: cs => by rw [List.map_cons, List.flatten_cons, flat_ones cs]; rfl
theorem join_ones (cs : List Nat) : Txt.join (tx []) (cs.map fun c => tx [c]) = tx cs := by
  rw [show (cs.map fun c => tx [c]) = (cs.map fun c => [c]).map tx by rw [List.map_map]; rfl, join_tx, flat_ones]
theorem sum_ones (cs : List Nat) : ((cs.map fun c => tx [c]).map fun s : Str => s.length).sum = cs.length := by
  induction cs with
  | nil => rfl
  | cons c cs ih =>
    simp only [List.map_cons, List.sum_cons, ih, tx_len, List.length_cons, List.length_nil]
    omega
def GoodN (cs : List Nat) : Prop := (1 ≤ cs.length ∧ cs.length ≤ 8) ∧ ∀ c ∈ cs, 97 ≤ c ∧ c ≤ 122
theorem nodup_map_range {α : Type} {m : Nat} {g : Nat → α} (h : ∀ i j, i < j → j < m → g i ≠ g j) : ((List.range m).map g).Nodup := by
  refine List.pairwise_map.mpr ?_
  have h2 : (List.range m).Pairwise (fun a b => a < b ∧ b < m) := by
    refine List.Pairwise.imp_of_mem (fun {a b} ha hb hab => ⟨hab, List.mem_range.mp hb⟩) List.pairwise_lt_range
  exact h2.imp fun {a b} h' => h a b h'.1 h'.2
theorem take_range_succ {α : Type} (g : Nat → α) (i : Nat) : (List.range (i + 1)).map g = (List.range i).map g ++ [g i] := by
  rw [List.range_succ, List.map_append]
  rfl
end Pw

set_option maxHeartbeats 8000000
namespace V59
open PySem PySem.Spec PyProof.Rows L2 Pw
def wds : List (List Nat) := [[104, 101, 114, 101], [115, 105, 108, 101, 110, 116], [103, 111, 110, 101], [99, 97, 114, 100], [112, 105, 101, 99, 101], [119, 111, 114, 100], [115, 97, 119], [116, 117, 114, 110], [108, 101, 102, 116], [98, 97, 99, 107], [98, 111, 114, 110], [108, 101, 115, 115], [97]]
theorem wds_split : Txt.split "here silent gone card piece word saw turn left back born less a" " " = wds.map tx := by decide +kernel
theorem wds_nodup : wds.Nodup := by decide
theorem wds_good : ∀ c ∈ wds, GoodN c := by
  have : wds.all (fun cs => decide (1 ≤ cs.length ∧ cs.length ≤ 8) && cs.all fun c => decide (97 ≤ c ∧ c ≤ 122)) = true := by decide
  intro c hc
  have h := List.all_eq_true.mp this c hc
  simp only [Bool.and_eq_true, decide_eq_true_eq, List.all_eq_true] at h
  exact ⟨h.1, h.2⟩
def abc : Str := "abcdefghijklmnopqrstuvwxyz"
theorem abc_at : ∀ i : Nat, i < 26 → abc.cps[i]? = some (97 + i) := by decide +kernel
theorem abc_len : abc.length = 26 := by decide +kernel
theorem emp : ("" : Str) = tx [] := by decide +kernel
theorem okN {cs : List Nat} (h : GoodN cs) : OkName (tx cs) := by
  refine ⟨?_, fun z e => ?_⟩
  · show (decide (1 ≤ (tx cs).length ∧ (tx cs).length ≤ 8) && (tx cs).cps.toList.all fun c => decide (97 ≤ c ∧ c ≤ 122)) = true
    rw [tx_len, tx_cps, decide_eq_true h.1, Bool.true_and, List.all_eq_true]
    exact fun c hc => decide_eq_true (h.2 c hc)
  · cases e
    rw [tx_len, tx_cps]
    exact ⟨by have := h.1.2; omega, fun c hc => by have := h.2 c hc; omega⟩
theorem But.ne_new {p q : Addr} {H : Hp} {n : Nat} (h : BoxAt H p n) (nq : H q = none) : q ≠ p := h.ne nq
theorem But.none_of {p q : Addr} {H H' : Hp} (B : But p H H') (n : H' q = none) (hq : q ≠ p) : H q = none := by
  cases z : H q with
  | none => rfl
  | some o => rw [B.at hq z] at n; cases n
theorem But.wo_upd {p D : Addr} {H H' : Hp} {o : HO} (B : But p H H') (n : H D = none) : But p H (upd H' D o) := But.of fun b u nb e => (upd_ne (ne_of_none e n)).trans (B.at nb e)
theorem BoxAt.set {p D : Addr} {H : Hp} {n : Nat} {o : HO} (h : BoxAt H p n) (ne : D ≠ p) : BoxAt (upd H D o) p n := by
  obtain ⟨b0, b1, b2, e, r⟩ := h
  exact ⟨b0, b1, b2, (upd_ne (Ne.symm ne)).trans e, r⟩
theorem tx_inj_map {css : List (List Nat)} (h : css.Nodup) : (css.map tx).Nodup := List.pairwise_map.mpr (h.imp fun n z => n (tx_inj z))
section
variable {P : Program} {w : World} {K : PySem.W.Frag} {mg : Str → Option Value} {base : Heap}
def spNames (K : PySem.W.Frag) : Sp := fun vs H Q _ => ∃ p m n, vs = [.ref p, .int m] ∧ 0 ≤ m ∧ m ≤ 8 ∧ BoxAt H p n ∧ n ≤ 900000 ∧
  ∀ a H' (css : List (List Nat)), H a = none → a ≠ p → BoxAt H' p (n + 20) → But p H H' → H' a = some (.lst ((css.map tx).map V.str)) → (css.length : Int) = m → css.Nodup → (∀ c ∈ css, GoodN c) → Q (.ref a) H'
theorem d_names (T : Txt mg) (A : At K mg "_law_names" sLawNames) (dt : Def P w K mg base "_law_take" 1 ["_law_box_here", "_law_many"] (spTake K)) :
    Def P w K mg base "_law_names" 2 ["_law_box_here", "_law_many"] (spNames K) := by
  refine mkDef A scLawNames (fun _ _ _ _ _ _ us hl => match us, hl with | [_, _], _ => rfl) (fun vs H Q E ⟨_, _, _, e, _⟩ => by rw [e]; rfl)
    (fun f cdv A out s H vs Q E hr h => ?_)
  obtain ⟨p, m, n, rfl, m0, m8, hb, hn, k⟩ := h
  refine ⟨_, (pss_cons (ps_set (i := 2) scLawNames.nd rfl (.inr rfl) pe_str)
    (pss_cons (ps_set (i := 3) scLawNames.nd rfl (.inr rfl) (pe_split pe_str pe_str))
    (pss_cons (ps_set (i := 4) scLawNames.nd rfl (.inl rfl) (pe_d dt hr (by decide) (by rfl) (pa_cons (pv 0) (pa_cons pe_int pa_nil))))
    (pss_cons (ps_set (i := 5) scLawNames.nd rfl (.inr rfl) (pe_d dt hr (by decide) (by rfl) (pa_cons (pv 0) (pa_cons pe_int pa_nil))))
    (pss_cons (ps_if (pt_cmpR op_eq (pv 4) pe_int (nomark _))
      (pss_one (ps_ret (pe_lc (own := [("_law_k", 9)]) (g := gName 9) (tt := tYes) rfl scLawNames.nd (pi_range1 (by rfl) T.range (pa_cons (pv 1) pa_nil))
        (blkOk_by (own := [("_law_k", 9)]) (N := ["_law_box_here", "_law_many", "_law_letters_here", "_law_words", "_law_way", "_law_first", "_law_stem", "_law_at", "_law_heads", "_law_k", "_law_head"]) (sc := defScope sLawNames) (by decide +kernel))
        (fun _ _ _ _ _ => (pg_name (i := 9) scLawNames.nd rfl (.inl rfl))) (fun _ _ _ _ _ => pts_nil)
        (fun _ _ _ _ _ => (pe_ix (r := rIxL K) ix_list (pv 3) (pe_op op_mod (pe_op op_add (pv 5) (pe_op op_mul pe_int (pv 9))) pe_int) (fun _ _ => rfl))))))
      pss_nil)
    (pss_cons (ps_set (i := 6) scLawNames.nd rfl (.inr rfl) (pe_join pe_str (pe_lc (own := [("_law_k", 9)]) (g := gName 9) (tt := tYes) rfl scLawNames.nd (pi_range1 (by rfl) T.range (pa_cons pe_int pa_nil))
        (blkOk_by (own := [("_law_k", 9)]) (N := ["_law_box_here", "_law_many", "_law_letters_here", "_law_words", "_law_way", "_law_first", "_law_stem", "_law_at", "_law_heads", "_law_k", "_law_head"]) (sc := defScope sLawNames) (by decide +kernel))
        (fun _ _ _ _ _ => (pg_name (i := 9) scLawNames.nd rfl (.inl rfl))) (fun _ _ _ _ _ => pts_nil)
        (fun _ _ _ _ _ => (pe_item_str (pv 2) (pe_d dt hr (by decide) (by rfl) (pa_cons (pv 0) (pa_cons pe_int pa_nil))) (fun _ _ => rfl))))))
    (pss_cons (ps_if (PW.pt (pw_and (pt_cmpR op_eq (pv 4) pe_int (nomark _)) (pw_and1 (pt_cmpR op_lt (pv 1) pe_int (nomark _)))))
      (pss_one (ps_ret (pe_lc (own := [("_law_k", 9)]) (g := gName 9) (tt := tYes) rfl scLawNames.nd (pi_range1 (by rfl) T.range (pa_cons (pv 1) pa_nil))
        (blkOk_by (own := [("_law_k", 9)]) (N := ["_law_box_here", "_law_many", "_law_letters_here", "_law_words", "_law_way", "_law_first", "_law_stem", "_law_at", "_law_heads", "_law_k", "_law_head"]) (sc := defScope sLawNames) (by decide +kernel))
        (fun _ _ _ _ _ => (pg_name (i := 9) scLawNames.nd rfl (.inl rfl))) (fun _ _ _ _ _ => pts_nil)
        (fun _ _ _ _ _ => (pe_slice sl_str (pv 6) po_none (po_some (pe_op op_add pe_int (pe_op op_mod (pe_op op_add (pv 5) (pe_op op_mul pe_int (pv 9))) pe_int))))))))
      pss_nil)
    (pss_cons (ps_set (i := 7) scLawNames.nd rfl (.inr rfl) (pe_d dt hr (by decide) (by rfl) (pa_cons (pv 0) (pa_cons pe_int pa_nil))))
    (pss_cons (ps_setLc (i := 8) (own := [("_law_k", 9)]) (g := gName 9) (tt := tYes) rfl scLawNames.nd rfl rfl (sw_true rfl rfl rfl (by decide +kernel)) (pi_range1 (by rfl) T.range (pa_cons (pv 1) pa_nil))
        (blkOk_by (own := [("_law_k", 9)]) (N := ["_law_box_here", "_law_many", "_law_letters_here", "_law_words", "_law_way", "_law_first", "_law_stem", "_law_at", "_law_heads", "_law_k", "_law_head"]) (sc := defScope sLawNames) (by decide +kernel))
        (fun _ _ _ _ _ => (pg_name (i := 9) scLawNames.nd rfl (.inl rfl))) (fun _ _ _ _ _ => pts_nil)
        (fun _ _ _ _ _ => (pe_item_str (pv 2) (pe_op op_mod (pe_op op_add (pv 5) (pe_op op_mul pe_int (pv 9))) pe_int) (fun _ _ => rfl))))
    (pss_one (ps_ret (pe_lc (own := [("_law_k", 9), ("_law_head", 10)]) (g := (gTup K 2 (gCons (gName 9) (gCons (gName 10) gNil)))) (tt := tYes) rfl scLawNames.nd (pi_enum (by rfl) T.enumerate (pa_cons (pv 8) pa_nil))
        (blkOk_by (own := [("_law_k", 9), ("_law_head", 10)]) (N := ["_law_box_here", "_law_many", "_law_letters_here", "_law_words", "_law_way", "_law_first", "_law_stem", "_law_at", "_law_heads", "_law_k", "_law_head"]) (sc := defScope sLawNames) (by decide +kernel))
        (fun _ _ _ _ _ => (pg_tup (by rfl) (pgs_cons (pg_name (i := 9) scLawNames.nd rfl (.inl rfl)) (pgs_cons (pg_name (i := 10) scLawNames.nd rfl (.inl rfl)) pgs_nil)))) (fun _ _ _ _ _ => pts_nil)
        (fun _ _ _ _ _ => (pe_op op_add_str (pe_op op_add_str (pe_slice sl_str (pv 6) po_none (po_some (pv 7))) (pv 10)) (pe_slice sl_str (pv 6) (po_some (pv 7)) (po_some (pe_op op_sub pe_int (pe_op op_mod (pv 9) pe_int)))))))))))))))))), ?_⟩
  have md : ∀ (x m : Int), 0 < m → 0 ≤ x % m ∧ x % m < m := fun x m hm => ⟨Int.emod_nonneg _ (by omega), Int.emod_lt_of_pos _ hm⟩
  -- the words
  dsimp only [gName]
  refine ⟨⟨_, rfl⟩, _, _, rfl, rfl, by decide +kernel, by decide +kernel, fun W nW => ?_⟩
  have WP := hb.ne nW
  have S1 := Same.laid (o := HO.lst ((wds.map tx).map V.str)) nW
  rw [wds_split]
  have eW : upd H W (.lst ((wds.map tx).map V.str)) W = some (.lst ((wds.map tx).map V.str)) := upd_same
  have hb1 := hb.laid (o := HO.lst ((wds.map tx).map V.str)) nW
  generalize upd H W (.lst ((wds.map tx).map V.str)) = H1 at *
  refine ⟨_, rfl, p, 4, n, rfl, hb1, by omega, by decide, by decide, fun way H2 a2 b2 hb2 B2 => ?_⟩
  refine ⟨_, rfl, p, 26, n + 1, rfl, hb2, by omega, by decide, by decide, fun fi H3 a3 b3 hb3 B3 => ?_⟩
  have B13 := B2.trans B3
  have BH3 : But p H H3 := (Same.but S1).trans B13
  have eW3 := B13.at WP eW
  dsimp only [gName]
  obtain ⟨mm, rfl⟩ := Int.eq_ofNat_of_zero_le m0
  refine ⟨_, rfl, rfl, _, rfl, ?_⟩
  refine ite2 (fun _ => ?_) (fun _ => ?_)
  · -- words
    refine ⟨_, rfl, (mm : Int), rfl, by omega, by omega, fun D nD => ?_⟩
    have DP := hb3.ne nD
    refine lc_acc (walk_range (lo := 0) (n := mm)) nD (by omega) (fun i acc G => acc = (((List.range i).map fun j : Nat => wds.getD ((fi + 5 * (j : Int)) % 13).toNat []).map tx).map V.str) rfl (fun _ _ => trivial) ?_ ?_
    · rintro i v G0 G acc hi S eD hl rfl ⟨rfl, rfl⟩ Fy Fn hy1 _
      refine ⟨rfl, ?_⟩
      unfold tYes
      refine iteT ?_
      have hm := md (fi + 5 * (0 + (i : Int))) 13 (by decide)
      refine ⟨_, rfl, _, rfl, _, rfl, 5, 0 + (i : Int), rfl, rfl, .inl ⟨by decide, by decide⟩, fi, 5 * (0 + (i : Int)), rfl, rfl, fi + 5 * (0 + (i : Int)), 13, rfl, rfl, (by decide : (0 : Int) < 13), ?_⟩
      obtain ⟨j, hj⟩ := Int.eq_ofNat_of_zero_le hm.1
      have hj13 : j < 13 := by omega
      refine ⟨W, _, _, .str (tx (wds.getD j [])), rfl, rfl, SqL.of (S _ _ eW3), by rw [hj]; exact atI_nat (by rw [List.getElem?_map, List.getElem?_map, List.getElem?_eq_getElem (show j < wds.length from hj13)]; simp [List.getD_eq_getElem?_getD, List.getElem?_eq_getElem (show j < wds.length from hj13)]), ?_⟩
      refine hy1 _ _ (Same.refl _) ?_
      rw [take_range_succ, List.map_append, List.map_append]
      have : ((fi + 5 * (i : Int)) % 13).toNat = j := by
        rw [Int.zero_add] at hj
        omega
      rw [List.map_cons, List.map_cons, this]
      rfl
    · rintro G acc S eD rfl
      have hg : ∀ j : Nat, ∃ i : Nat, i < 13 ∧ ((fi + 5 * (j : Int)) % 13).toNat = i ∧ ((i : Int)) = (fi + 5 * (j : Int)) % 13 := fun j => by
        have hm := md (fi + 5 * (j : Int)) 13 (by decide)
        exact ⟨((fi + 5 * (j : Int)) % 13).toNat, by omega, rfl, by omega⟩
      refine k D G _ (But.none_of BH3 nD DP) DP (hb3.keep S |>.up (by omega)) (BH3.trans (Same.but S)) eD (by simp) (nodup_map_range fun i j hij hj => ?_) (fun c hc => ?_)
      · obtain ⟨i1, l1, e1, q1⟩ := hg i
        obtain ⟨j1, l2, e2, q2⟩ := hg j
        rw [e1, e2, List.getD_eq_getElem?_getD, List.getD_eq_getElem?_getD, List.getElem?_eq_getElem (show i1 < wds.length from l1), List.getElem?_eq_getElem (show j1 < wds.length from l2)]
        intro z
        have hne : i1 ≠ j1 := by omega
        rcases Nat.lt_or_gt_of_ne hne with h | h
        · exact (List.pairwise_iff_getElem.mp wds_nodup) i1 j1 l1 l2 h z
        · exact (List.pairwise_iff_getElem.mp wds_nodup) j1 i1 l2 l1 h z.symm
      · obtain ⟨j, _, rfl⟩ := List.mem_map.mp hc
        obtain ⟨j1, l2, e2, _⟩ := hg j
        rw [e2, List.getD_eq_getElem?_getD, List.getElem?_eq_getElem (show j1 < wds.length from l2)]
        exact wds_good _ (List.getElem_mem _)
  -- the stem
  refine ⟨⟨_, rfl⟩, 7, rfl, by decide, by decide, fun D nD => ?_⟩
  have DP := hb3.ne nD
  refine lc_it (walk_range (lo := 0) (n := 7)) (fun i G => But p H3 G ∧ BoxAt G p (n + 2 + i) ∧ ∃ cs : List Nat, G D = some (.lst ((cs.map fun c => tx [c]).map V.str)) ∧ cs.length = i ∧ ∀ c ∈ cs, 97 ≤ c ∧ c ≤ 122) ?_ (fun _ _ _ _ => trivial) ?_ ?_
  · exact ⟨But.laid nD, hb3.laid nD, [], upd_same, rfl, fun c h => by cases h⟩
  · rintro i v G0 G hi ⟨BG, hbG, cs, eD, hcl, hcs⟩ ⟨rfl, rfl⟩
    refine ⟨rfl, ?_⟩
    unfold tYes
    refine iteT ?_
    refine ⟨_, rfl, _, rfl, p, 26, _, rfl, hbG, by omega, by decide, by decide, fun j G1 a4 b4 hb4 B4 => ?_⟩
    obtain ⟨jj, rfl⟩ := Int.eq_ofNat_of_zero_le a4
    have hj : jj < 26 := by omega
    refine ⟨abc, (jj : Int), 97 + jj, rfl, rfl, a4, by omega, by rw [abc_len]; omega, by rw [Int.toNat_natCast]; exact abc_at jj hj, ?_⟩
    have eD4 := B4.at DP eD
    have lt := (show cs.length ≤ 7 by omega)
    refine ⟨_, eD4, by rw [List.length_map, List.length_map]; exact Nat.lt_of_le_of_lt lt (by decide), But.wo_upd (BG.trans B4) nD, (BoxAt.set hb4 DP).up (by omega), cs ++ [97 + jj], ?_, by rw [List.length_append, hcl]; rfl, fun c hc => ?_⟩
    · rw [upd_same, List.map_append, List.map_append]
      rfl
    · rcases List.mem_append.mp hc with h | h
      · exact hcs c h
      · rw [List.mem_singleton.mp h]
        exact ⟨by omega, by omega⟩
  rintro G ⟨BG, hbG, cs, eD, hcl, hcs⟩
  have B4 := BH3.trans BG
  have eWG := BG.at WP eW3
  refine ⟨_, D, cs.map fun c => tx [c], rfl, rfl, .inl (SqL.of eD), ?_, ?_⟩
  · rw [sum_ones, List.length_map, hcl]
    exact Nat.le_trans (show 7 + 7 * ("" : Str).length ≤ 7 by decide +kernel) (by decide)
  have ej : Txt.join "" (cs.map fun c => tx [c]) = tx cs := by
    rw [emp, Pw.join_ones]
  rw [ej]
  dsimp only [gName]
  -- prefixes
  refine seq_join (A := tIfS _ _ _) (fun σ' Y => σ' = [some (.ref p), some (.int (mm : Int)), some (.str abc), some (.ref W), some (.int way), some (.int fi), some (.str (tx cs)), none, none, none, none] ∧ Y = G) (fun N' hN => ?_) ?_
  · refine ⟨_, rfl, rfl, _, rfl, ?_⟩
    refine ite2 (fun _ => ?_) (fun _ => hN _ _ ⟨rfl, rfl⟩)
    refine ⟨_, rfl, (mm : Int), 7 + 1, rfl, rfl, _, rfl, ?_⟩
    refine ite2 (fun h8 => ?_) (fun _ => hN _ _ ⟨rfl, rfl⟩)
    have h8' : mm < 8 := by have := of_decide_eq_true h8; omega
    clear hN
    refine ⟨_, rfl, (mm : Int), rfl, by omega, by omega, fun D2 nD2 => ?_⟩
    have DP2 := hbG.ne nD2
    have hk : ∀ j : Nat, ∃ l : Nat, l ≤ 7 ∧ 1 ≤ l ∧ (1 + (fi + 3 * (j : Int)) % 7).toNat = l ∧ (l : Int) = 1 + (fi + 3 * (j : Int)) % 7 := fun j => by
      have hm := md (fi + 3 * (j : Int)) 7 (by decide)
      exact ⟨(1 + (fi + 3 * (j : Int)) % 7).toNat, by omega, by omega, rfl, by omega⟩
    refine lc_acc (walk_range (lo := 0) (n := mm)) nD2 (by omega) (fun i acc G => acc = (((List.range i).map fun j : Nat => cs.take (1 + (fi + 3 * (j : Int)) % 7).toNat).map tx).map V.str) rfl (fun _ _ => trivial) ?_ ?_
    · rintro i v G0 G1 acc hi S eD hl rfl ⟨rfl, rfl⟩ Fy Fn hy1 _
      refine ⟨rfl, ?_⟩
      unfold tYes
      refine iteT ?_
      obtain ⟨l, l7, l1, e1, e2⟩ := hk i
      refine ⟨_, rfl, _, rfl, _, rfl, 3, 0 + (i : Int), rfl, rfl, .inl ⟨by decide, by decide⟩, fi, 3 * (0 + (i : Int)), rfl, rfl, fi + 3 * (0 + (i : Int)), 7, rfl, rfl, (by decide : (0 : Int) < 7), 1, (fi + 3 * (0 + (i : Int))) % 7, rfl, rfl, _, rfl, tx cs, rfl, by rw [tx_len, hcl]; decide, ?_⟩
      rw [Int.zero_add, ← e2, cut_tx_to]
      refine hy1 _ _ (Same.refl _) ?_
      rw [take_range_succ, List.map_append, List.map_append, List.map_cons, List.map_cons, e1]
      rfl
    · rintro G1 acc S eD rfl
      refine k D2 G1 _ (But.none_of B4 nD2 DP2) DP2 (hbG.keep S |>.up (by omega)) (B4.trans (Same.but S)) eD (by simp) (nodup_map_range fun i j hij hj => ?_) (fun c hc => ?_)
      · obtain ⟨l, l7, l1, e1, e2⟩ := hk i
        obtain ⟨l', l7', l1', e1', e2'⟩ := hk j
        rw [e1, e1']
        intro z
        have := congrArg List.length z
        rw [List.length_take, List.length_take, hcl] at this
        omega
      · obtain ⟨j, _, rfl⟩ := List.mem_map.mp hc
        obtain ⟨l, l7, l1, e1, e2⟩ := hk j
        rw [e1]
        refine ⟨⟨?_, ?_⟩, fun c hc => hcs c (List.mem_of_mem_take hc)⟩
        · rw [List.length_take, hcl]; omega
        · rw [List.length_take, hcl]; omega
  rintro σ' Y ⟨rfl, rfl⟩
  -- the place
  refine ⟨_, rfl, p, 7, _, rfl, hbG, by omega, by decide, by decide, fun at_ H5 a5 b5 hb5 B5 => ?_⟩
  dsimp only [gName]
  obtain ⟨ai, rfl⟩ := Int.eq_ofNat_of_zero_le a5
  have ha6 : ai ≤ 6 := by omega
  have BH5 := B4.trans B5
  -- the heads
  refine ⟨_, rfl, (mm : Int), rfl, by omega, by omega, fun D2 nD2 => ?_⟩
  have DP2 := hb5.ne nD2
  have hk : ∀ j : Nat, ∃ l : Nat, l < 26 ∧ ((fi + 7 * (j : Int)) % 26).toNat = l ∧ (l : Int) = (fi + 7 * (j : Int)) % 26 := fun j => by
    have hm := md (fi + 7 * (j : Int)) 26 (by decide)
    exact ⟨((fi + 7 * (j : Int)) % 26).toNat, by omega, rfl, by omega⟩
  refine lc_acc (walk_range (lo := 0) (n := mm)) nD2 (by omega) (fun i acc G => acc = ((List.range i).map fun j : Nat => tx [97 + ((fi + 7 * (j : Int)) % 26).toNat]).map V.str) rfl (fun _ _ => trivial) ?_ ?_
  · rintro i v G0 G1 acc hi S eD hl rfl ⟨rfl, rfl⟩ Fy Fn hy1 _
    refine ⟨rfl, ?_⟩
    unfold tYes
    refine iteT ?_
    obtain ⟨l, l26, e1, e2⟩ := hk i
    refine ⟨_, rfl, _, rfl, _, rfl, 7, 0 + (i : Int), rfl, rfl, .inl ⟨by decide, by decide⟩, fi, 7 * (0 + (i : Int)), rfl, rfl, fi + 7 * (0 + (i : Int)), 26, rfl, rfl, (by decide : (0 : Int) < 26), ?_⟩
    have e3 : (fi + 7 * (0 + (i : Int))) % 26 = (l : Int) := by rw [Int.zero_add]; exact e2.symm
    refine ⟨abc, (fi + 7 * (0 + (i : Int))) % 26, 97 + l, rfl, rfl, by rw [e3]; omega, by rw [e3]; omega, by rw [e3, abc_len]; omega, by rw [e3, Int.toNat_natCast]; exact abc_at l l26, ?_⟩
    refine hy1 _ _ (Same.refl _) ?_
    rw [take_range_succ, List.map_append, List.map_cons, e1]
    rfl
  rintro H6 acc S6 eD2 rfl
  dsimp only [gName]
  have hb6 := hb5.keep S6
  have BH6 := BH5.trans (Same.but S6 (p := p))
  have lh : (((List.range mm).map fun j : Nat => tx [97 + ((fi + 7 * (j : Int)) % 26).toNat]).map V.str).length = mm := by simp
  -- together
  refine ⟨_, rfl, D2, _, rfl, SqL.of eD2, fun D3 nD3 => ?_⟩
  have DP3 := hb6.ne nD3
  refine lc_acc (walk_enum (K := K) (a := D2) (xs := ((List.range mm).map fun j : Nat => tx [97 + ((fi + 7 * (j : Int)) % 26).toNat]).map V.str)) nD3 (by omega)
    (fun i acc G => acc = (((List.range i).map fun j : Nat => cs.take ai ++ [97 + ((fi + 7 * (j : Int)) % 26).toNat] ++ (cs.take (6 - j % 3)).drop ai).map tx).map V.str) rfl (fun H' S => SqL.of (S _ _ eD2)) ?_ ?_
  · rintro i v G0 G1 acc hi S eD hl rfl hy Fy Fn hy1 _
    rw [lh] at hi
    obtain ⟨q, x, y, rfl, nq, rfl, ex, ey⟩ := hy
    cases ex
    replace ey : (((List.range mm).map fun j : Nat => tx [97 + ((fi + 7 * (j : Int)) % 26).toNat]).map V.str)[i]? = some y := ey
    rw [List.getElem?_map, List.getElem?_map, List.getElem?_range hi] at ey
    cases ey
    have Sq1 := Same.laid (o := HO.tup [V.int (i : Int), .str (tx [97 + ((fi + 7 * (i : Int)) % 26).toNat])]) nq
    refine ⟨q, _, rfl, SqT.of upd_same, rfl, _, _, rfl, _, _, rfl, rfl, ?_⟩
    generalize upd G0 q (.tup [V.int (i : Int), .str (tx [97 + ((fi + 7 * (i : Int)) % 26).toNat])]) = G2 at *
    refine ⟨rfl, ?_⟩
    unfold tYes
    refine iteT ?_
    have z1 : (tx cs).length ≤ sizeLine := by rw [tx_len, hcl]; decide
    refine ⟨_, rfl, _, rfl, (ai : Int), rfl, tx cs, rfl, z1, ?_⟩
    rw [cut_tx_to]
    refine ⟨_, rfl, _, _, rfl, rfl, ?_, ?_⟩
    · rw [tx_len, tx_len, List.length_take]
      exact Nat.le_trans (show min ai cs.length + 1 ≤ 100 by omega) (by decide)
    rw [tx_add]
    refine ⟨_, rfl, _, rfl, (ai : Int), rfl, _, rfl, (i : Int), 3, rfl, rfl, (by decide : (0 : Int) < 3), 6, (i : Int) % 3, rfl, rfl, 6 - (i : Int) % 3, rfl, tx cs, rfl, z1, ?_⟩
    have e63 : (6 : Int) - (i : Int) % 3 = ((6 - i % 3 : Nat) : Int) := by omega
    rw [e63, cut_tx_in cs ai _ (by omega)]
    refine ⟨_, _, rfl, rfl, ?_, ?_⟩
    · rw [tx_len, tx_len, List.length_append, List.length_take, List.length_drop, List.length_take]
      exact Nat.le_trans (show min ai cs.length + [97 + ((fi + 7 * (i : Int)) % 26).toNat].length + (min (6 - i % 3) cs.length - ai) ≤ 100 by simp only [List.length_cons, List.length_nil]; omega) (by decide)
    rw [tx_add]
    refine hy1 _ _ Sq1 ?_
    rw [take_range_succ, List.map_append, List.map_append, List.map_cons, List.map_cons]
    rfl
  · rintro H7 acc S7 eD3 rfl
    rw [lh] at eD3
    have lt : (cs.take ai).length = ai := by rw [List.length_take]; omega
    refine k D3 H7 _ (But.none_of BH6 nD3 DP3) DP3 (hb6.keep S7 |>.up (by omega)) (BH6.trans (Same.but S7)) eD3 (by simp) (nodup_map_range fun i j hij hj => ?_) (fun c hc => ?_)
    · obtain ⟨l, l26, e1, e2⟩ := hk i
      obtain ⟨l', l26', e1', e2'⟩ := hk j
      rw [e1, e1']
      intro z
      have hh : ∀ l : Nat, ∀ r : List Nat, (cs.take ai ++ [97 + l] ++ r)[ai]? = some (97 + l) := fun l r => by
        rw [List.append_assoc, List.getElem?_append_right (by omega), lt, Nat.sub_self]
        rfl
      have := congrArg (fun x : List Nat => x[ai]?) z
      simp only [hh, Option.some.injEq] at this
      omega
    · obtain ⟨j, _, rfl⟩ := List.mem_map.mp hc
      obtain ⟨l, l26, e1, e2⟩ := hk j
      rw [e1]
      refine ⟨?_, fun c hc => ?_⟩
      · rw [List.length_append, List.length_append, lt, List.length_drop, List.length_take, List.length_singleton]
        omega
      · rcases List.mem_append.mp hc with hc | hc
        · rcases List.mem_append.mp hc with hc | hc
          · exact hcs c (List.mem_of_mem_take hc)
          · rw [List.mem_singleton.mp hc]
            omega
        · exact hcs c (List.mem_of_mem_take (List.mem_of_mem_drop hc))
end
end V59

set_option maxHeartbeats 8000000
namespace V59
open PySem PySem.Spec PyProof.Rows L2 Pw
theorem BoxAt.lst {H : Hp} {p : Addr} {n : Nat} (h : BoxAt H p n) : ∃ vs, H p = some (.lst vs) := by
  obtain ⟨b0, b1, b2, e, _⟩ := h
  exact ⟨_, e⟩
theorem Al.but {α : Type} {f : α → List V} {H H' : Hp} {p : Addr} {n : Nat} {vs : List V} {rs : List α} (h : Al f H vs rs) (hb : BoxAt H p n) (B : But p H H') : Al f H' vs rs := by
  obtain ⟨ws, e⟩ := hb.lst
  exact h.imp fun q xs eq => B.at (fun z => by rw [z, e] at eq; cases eq) eq
theorem Al.off {α : Type} {f : α → List V} {H : Hp} {D : Addr} {o : HO} {us vs : List V} {rs : List α} (h : Al f H vs rs) (e : H D = some (.lst us)) : Al f (upd H D o) vs rs :=
  h.imp fun q xs eq => (upd_ne (fun z => by rw [z, e] at eq; cases eq)).trans eq
theorem LT.but {α : Type} {f : α → List V} {H H' : Hp} {p a : Addr} {n : Nat} {rs : List α} (h : LT f H a rs) (hb : BoxAt H p n) (na : a ≠ p) (B : But p H H') : LT f H' a rs := by
  obtain ⟨vs, e, al⟩ := h.ex
  exact ⟨vs, B.at na e, Al.but al hb B⟩
theorem menuM {xs : List V} {i : Int} (h0 : 0 ≤ i) (h1 : i < (xs.length : Int)) : ∃ v, v ∈ xs ∧ atI xs i = some v := menu h0 h1
def p3 : List Str := ["pa", "place", "q"]
theorem p3_ok : ∀ s ∈ p3, OkName s := by
  intro s hs
  simp only [p3, List.mem_cons, List.not_mem_nil, or_false] at hs
  rcases hs with rfl | rfl | rfl
  · exact ⟨by decide +kernel, fun z e => by cases e; decide +kernel⟩
  · exact ⟨by decide +kernel, fun z e => by cases e; decide +kernel⟩
  · exact ⟨by decide +kernel, fun z e => by cases e; decide +kernel⟩
theorem lt_push {α : Type} {f : α → List V} {G : Hp} {D q : Addr} {vs : List V} {l : List α} {x : α} (eD : G D = some (.lst vs)) (al : Al f G vs l) (nq : G q = none) :
    LT f (upd (upd G q (.tup (f x))) D (.lst (vs ++ [.ref q]))) D (l ++ [x]) := by
  have qD : q ≠ D := fun z => by rw [z, eD] at nq; cases nq
  refine ⟨_, upd_same, ?_⟩
  refine Al.snoc (al.imp fun p xs e => ?_) ((upd_ne qD).trans upd_same)
  have pD : p ≠ D := fun z => by rw [z, eD] at e; cases e
  exact (upd_ne pD).trans ((upd_ne (ne_of_none e nq)).trans e)
section
variable {P : Program} {w : World} {K : PySem.W.Frag} {mg : Str → Option Value} {base : Heap}
def spPtsL (K : PySem.W.Frag) : Sp := fun vs H Q _ => ∃ p a lv n css, vs = [.ref p, .ref a, .int lv] ∧ BoxAt H p n ∧ n ≤ 900000 ∧ a ≠ p ∧ H a = some (.lst (((css : List (List Nat)).map tx).map V.str)) ∧ css.Nodup ∧ (∀ c ∈ css, GoodN c) ∧ 1 ≤ css.length ∧ css.length ≤ 8 ∧
  ∀ b H' ps, H b = none → b ≠ p → BoxAt H' p (n + 50) → But p H H' → LT fP H' b ps → GoodPs ps → ps.length = css.length → Q (.ref b) H'
theorem d_ptsL (T : Txt mg) (A : At K mg "_law_points" sLawPoints) (dt : Def P w K mg base "_law_take" 1 ["_law_box_here", "_law_many"] (spTake K)) :
    Def P w K mg base "_law_points" 2 ["_law_box_here", "_law_names_here", "_law_levels"] (spPtsL K) := by
  refine mkDef A scLawPoints (fun _ _ _ _ _ _ us hl => match us, hl with | [_, _, _], _ => rfl) (fun vs H Q E ⟨_, _, _, _, _, e, _⟩ => by rw [e]; rfl)
    (fun f cdv A out s H vs Q E hr h => ?_)
  obtain ⟨p, a, lv, n, css, rfl, hb, hn, ap, ea, nd, good, l1, l8, k⟩ := h
  refine ⟨_, (pss_cons (ps_set (i := 3) scLawPoints.nd rfl (.inl rfl) (pe_slice sl_list (pe_lst (pa_cons pe_str (pa_cons pe_str (pa_cons pe_str pa_nil)))) po_none (po_some (pe_op op_add pe_int (pe_d dt hr (by decide) (by rfl) (pa_cons (pv 0) (pa_cons pe_int pa_nil)))))))
    (pss_cons (ps_set (i := 4) scLawPoints.nd rfl (.inl rfl) (pe_lst pa_nil))
    (pss_cons (ps_for PassesOwn.never rfl (pi_list (pv 1)) (pg_name (i := 5) scLawPoints.nd rfl (.inl rfl))
      (pss_cons (ps_set (i := 6) scLawPoints.nd rfl (.inl rfl) (pe_ix ix_list (pe_lst (pa_cons pe_str (pa_cons pe_str (pa_cons pe_str pa_nil)))) (pe_d dt hr (by decide) (by rfl) (pa_cons (pv 0) (pa_cons pe_int pa_nil))) (fun _ _ => rfl)))
      (pss_cons (ps_if (pt_cmpR op_ge (pe_callB call_len_seq (by rfl) T.len PySem.boot_len (pa_cons (pe_lc (own := [("_law_one", 7)]) (g := gName 7) rfl scLawPoints.nd (pi_list (pv 4))
        (blkOk_by (own := [("_law_one", 7)]) (N := ["_law_box_here", "_law_names_here", "_law_levels", "_law_places", "_law_found", "_law_name", "_law_kind", "_law_one"]) (sc := defScope sLawPoints) (by decide +kernel))
        (fun _ _ _ _ _ => (pg_name (i := 7) scLawPoints.nd rfl (.inl rfl))) (fun _ _ _ _ _ => (pts_one (pt_cmpR op_eq (pe_ix (r := rIxT K) ix_tup (pv 7) pe_int (fun _ _ => rfl)) pe_str (nomark _))))
        (fun _ _ _ _ _ => (pv 7))) pa_nil)) (pv 2) (nomark _))
        (pss_one (ps_set (i := 6) scLawPoints.nd rfl (.inl rfl) pe_str))
        pss_nil)
      (pss_one (ps_expr (pe_bm PySem.F.plainAttrs_list PySem.F.slot_list_append PySem.F.type_list_append mt_append (pv 4) (pa_cons (pe_tup (pa_cons (pv 5) (pa_cons (pe_ix ix_list (pv 3) (pe_d dt hr (by decide) (by rfl) (pa_cons (pv 0) (pa_cons (pe_callB call_len_seq (by rfl) T.len PySem.boot_len (pa_cons (pv 3) pa_nil)) pa_nil))) (fun _ _ => rfl)) (pa_cons (pv 6) pa_nil)))) pa_nil)))))))
    (pss_one (ps_ret (pv 4)))))), ?_⟩
  -- the places
  refine ⟨by show 3 ≤ sizeLine; decide, fun L0 n0 => ?_⟩
  have L0p := hb.ne n0
  have e0 : upd H L0 (.lst [.str "pa", .str "place", .str "q"]) L0 = some (.lst (p3.map V.str)) := upd_same
  have S0 := Same.laid (o := HO.lst [.str "pa", .str "place", .str "q"]) n0
  generalize upd H L0 (.lst [.str "pa", .str "place", .str "q"]) = H0 at *
  refine ⟨_, rfl, p, 3, n, rfl, hb.keep S0, by omega, by decide, by decide, fun j1 H1 a1 b1 hb1 B1 => ?_⟩
  have e1 := B1.at L0p e0
  refine ⟨1, j1, rfl, rfl, 1 + j1, rfl, L0, _, rfl, SqL.of e1, fun L2 n2 => ?_⟩
  have L2p := hb1.ne n2
  obtain ⟨jj, ejj⟩ := Int.eq_ofNat_of_zero_le (show 0 ≤ 1 + j1 by omega)
  rw [ejj, cut_to]
  have e2 : upd H1 L2 (.lst ((p3.map V.str).take jj)) L2 = some (.lst ((p3.take jj).map V.str)) := by rw [upd_same, List.map_take]
  have S2 := Same.laid (o := HO.lst ((p3.map V.str).take jj)) n2
  generalize upd H1 L2 (.lst ((p3.map V.str).take jj)) = H2 at *
  have pl1 : 1 ≤ (p3.take jj).length := by rw [List.length_take]; show 1 ≤ min jj 3; omega
  have pl3 : (p3.take jj).length ≤ 3 := by rw [List.length_take]; show min jj 3 ≤ 3; omega
  refine ⟨by show 0 ≤ sizeLine; decide, fun F nF => ?_⟩
  have hb2 := hb1.keep S2
  have Fp := hb2.ne nF
  have BH2 : But p H H2 := (Same.but S0).trans (B1.trans (Same.but S2))
  have nFH := But.none_of BH2 nF Fp
  have S3 := Same.laid (o := HO.lst []) nF
  have FL2 : L2 ≠ F := ne_of_none e2 nF
  have ea2 := BH2.at ap ea
  refine ⟨_, rfl, a, rfl, ⟨_, SqL.of (S3 _ _ ea2)⟩, ?_⟩
  have aF : a ≠ F := ne_of_none ea2 nF
  refine for_it (walk_list (K := K) (a := a) (xs := (css.map tx).map V.str)) (fun i σ X => ∃ (v5 v6 v7 : Option V) (ps : List Pt), σ = [some (.ref p), some (.ref a), some (.int lv), some (.ref L2), some (.ref F), v5, v6, v7] ∧
      BoxAt X p (n + 1 + 2 * i) ∧ But p H X ∧ X L2 = some (.lst ((p3.take jj).map V.str)) ∧ LT fP X F ps ∧ ps.map (·.nm) = (css.take i).map tx ∧ ∀ q ∈ ps, q.pl ∈ p3.take jj) ?_
    (fun i σ X _ ⟨_, _, _, _, _, _, B, _⟩ => SqL.of (B.at ap ea)) ?_ ?_
  · exact ⟨none, none, none, [], rfl, (hb2.keep S3).up (by omega), BH2.trans (Same.but S3), S3 _ _ e2, ⟨[], upd_same, .nil⟩, rfl, fun q h => by cases h⟩
  · rintro i v σ X0 X hi ⟨v5, v6, v7, ps, rfl, hbX, BX, eX2, hF, enm, hpl⟩ ⟨rfl, hx⟩
    rw [List.length_map, List.length_map] at hi
    rw [List.getElem?_map, List.getElem?_map, List.getElem?_eq_getElem hi] at hx
    cases hx
    have pl : ps.length = i := by
      have := congrArg List.length enm
      simpa [Nat.min_eq_left (Nat.le_of_lt hi)] using this
    dsimp only [gName]
    refine ⟨by show 3 ≤ sizeLine; decide, fun q nq => ?_⟩
    have Sq1 := Same.laid (o := HO.lst [.str "level", .str "level", .str "switch"]) nq
    have eq1 : upd X q (.lst [.str "level", .str "level", .str "switch"]) q = some (.lst [.str "level", .str "level", .str "switch"]) := upd_same
    have qp := hbX.ne nq
    generalize upd X q (.lst [.str "level", .str "level", .str "switch"]) = X1 at *
    refine ⟨_, rfl, p, 3, _, rfl, hbX.keep Sq1, by omega, by decide, by decide, fun j X2 ja jb hbX2 BX2 => ?_⟩
    have eq2 := BX2.at qp eq1
    obtain ⟨y0, hy0, aty⟩ := menu (xs := [V.str "level", .str "level", .str "switch"]) ja (by simpa using jb)
    refine ⟨q, _, j, y0, rfl, rfl, SqL.of eq2, aty, ?_⟩
    dsimp only [gName]
    have BX2' := (Same.but Sq1 (p := p)).trans BX2
    have hF2 : LT fP X2 F ps := LT.but hF hbX Fp BX2'
    have eL2 := BX2'.at L2p eX2
    obtain ⟨sw, ey⟩ : ∃ sw, y0 = .str (kd sw) := by
      simp only [List.mem_cons, List.not_mem_nil, or_false] at hy0
      rcases hy0 with rfl | rfl | rfl
      · exact ⟨false, rfl⟩
      · exact ⟨false, rfl⟩
      · exact ⟨true, rfl⟩
    subst ey
    -- the levels so far
    refine seq_join (A := tIfS _ _ _) (fun σ' Y => ∃ (v7 : Option V) (sw : Bool), σ' = [some (.ref p), some (.ref a), some (.int lv), some (.ref L2), some (.ref F), some (.str (tx css[i])), some (.str (kd sw)), v7] ∧ Same X2 Y) (fun N' hN => ?_) ?_
    · obtain ⟨vF, eF, alF⟩ := hF2.ex
      refine ⟨_, rfl, F, rfl, ⟨_, SqL.of eF⟩, fun D nD => ?_⟩
      refine lc_acc (walk_list (K := K) (a := F) (xs := vF)) nD (by rw [alF.length]; omega) (fun i acc _ => True) trivial (fun H' S => SqL.of (S _ _ eF)) ?_ ?_
      · rintro i1 v Y2 Y3 acc hi S2 eD2 hl2 _ ⟨rfl, hx⟩ Fy Fn hy1 hy2
        obtain ⟨q3, x, rfl, hx', eq3⟩ := (alF.same S2).get hx
        refine ⟨rfl, ?_⟩
        refine ⟨_, rfl, q3, fP x, 2, .str (kd x.sw), rfl, rfl, SqT.of eq3, rfl, rfl, _, rfl, ?_⟩
        refine ite2 (fun _ => ?_) (fun _ => ?_)
        · exact ⟨_, rfl, hy1 _ _ (Same.refl _) trivial⟩
        · exact hy2 _ (Same.refl _) trivial
      rintro Y2 acc S2 eD2' _
      refine ⟨D, acc, rfl, .inl (SqL.of eD2'), _, rfl, _, _, rfl, rfl, _, rfl, ?_⟩
      refine ite2 (fun _ => ?_) (fun _ => ?_)
      · exact hN _ _ ⟨_, true, rfl, S2⟩
      · exact hN _ _ ⟨_, sw, rfl, S2⟩
    clear sw aty hy0
    rintro σ' Y ⟨v7', sw, rfl, SY⟩
    have hbY := hbX2.keep SY
    have hFY := hF2.same SY
    have eLY := SY _ _ eL2
    obtain ⟨vF, eF, alF⟩ := hFY.ex
    have BHY : But p H Y := BX.trans (BX2'.trans (Same.but SY))
    have bud : n + 1 + 2 * i + 1 ≤ 1000000 := by omega
    refine ⟨_, rfl, .inl ⟨rfl, _, SqL.of eF⟩, _, rfl, _, rfl, _, rfl, _, rfl, L2, _, rfl, .inl (SqL.of eLY), p, _, _, rfl, hbX2.keep SY, bud, ?_, ?_, fun c Z ca cb hbZ BZ => ?_⟩
    · rw [List.length_map]
      omega
    · rw [List.length_map]
      exact Int.lt_of_le_of_lt (show ((p3.take jj).length : Int) ≤ 3 by omega) (by decide)
    rw [List.length_map] at cb
    obtain ⟨ci, rfl⟩ := Int.eq_ofNat_of_zero_le ca
    have hci : ci < (p3.take jj).length := by omega
    refine ⟨L2, _, (ci : Int), .str (p3.take jj)[ci], rfl, rfl, SqL.of (BZ.at L2p eLY), atI_nat (by rw [List.getElem?_map, List.getElem?_eq_getElem hci]; rfl), _, rfl, by show 3 ≤ sizeLine; decide, fun r nr => ?_⟩
    have eFZ := BZ.at Fp eF
    have rF : r ≠ F := fun z => by rw [z, eFZ] at nr; cases nr
    have hbY := hbX2.keep SY
    refine ⟨F, vF, .ref r, rfl, rfl, (upd_ne rF.symm).trans eFZ, by rw [alF.length]; exact Nat.lt_of_le_of_lt (show ps.length ≤ 8 by omega) (by decide), ?_⟩
    have BZ' := BHY.trans (BZ.trans (But.laid (o := HO.tup (fP ⟨tx css[i], (p3.take jj)[ci], sw⟩)) nr))
    have tk : css.take (i + 1) = css.take i ++ [css[i]] := by rw [List.take_add_one, List.getElem?_eq_getElem hi]; rfl
    refine ⟨_, _, _, ps ++ [(⟨tx css[i], (p3.take jj)[ci], sw⟩ : Pt)], rfl, ((hbZ.laid nr).set Fp).up (by omega), But.wo_upd BZ' nFH, ?_, lt_push (f := fP) (x := (⟨tx css[i], (p3.take jj)[ci], sw⟩ : Pt)) eFZ (Al.but alF hbY BZ) nr, ?_, fun q hq => ?_⟩
    · exact (upd_ne FL2).trans (Same.laid nr _ _ (BZ.at L2p eLY))
    · rw [List.map_append, enm, tk, List.map_append]
      rfl
    · rcases List.mem_append.mp hq with h | h
      · exact hpl q h
      · rw [List.mem_singleton.mp h]
        exact List.getElem_mem hci
  · rintro σ X ⟨v5, v6, v7, ps, rfl, hbX, BX, eX2, hF, enm, hpl⟩
    rw [List.length_map, List.length_map, List.take_length] at enm
    have pl : ps.length = css.length := by
      have := congrArg List.length enm
      simpa using this
    refine ⟨_, rfl, k F X ps nFH Fp ((hbX.up (by rw [List.length_map, List.length_map]; omega))) BX hF ?_ pl⟩
    refine ⟨fun q hq => ⟨?_, p3_ok _ (List.mem_of_mem_take (hpl q hq))⟩, by rw [enm]; exact tx_inj_map nd, ⟨p3.take jj, pl3, hpl⟩, by omega, by omega⟩
    have : q.nm ∈ css.map tx := enm ▸ List.mem_map.mpr ⟨q, hq, rfl⟩
    obtain ⟨c, hc, e⟩ := List.mem_map.mp this
    exact e ▸ okN (good c hc)
end
end V59

set_option maxHeartbeats 8000000
namespace V59
open PySem PySem.Spec PyProof.Rows L2 Pw
/-- methods of built-in types within a comprehension -/
theorem pe_toK {X : Cx} {K : PySem.W.Frag} {e : Expr} {to : TE} {t : TA} {T : String} {r : V → List V → Hp → VK → Prop} (hK : X.K = K) (h : PE X e (tBM X.K T r to t)) : PE X e (tBM K T r to t) := hK ▸ h
theorem erase_perm {l : List V} : ∀ {i : Nat} (h : i < l.length), (l[i] :: l.eraseIdx i).Perm l := by
  induction l with
  | nil => intro i h; cases h
  | cons x l ih =>
    intro i h
    cases i with
    | zero => exact .refl _
    | succ i =>
      have h' : i < l.length := Nat.lt_of_succ_lt_succ h
      exact (List.Perm.swap _ _ _).trans ((ih h').cons x)
theorem pop_perm {ys ls xs : List V} {j : Nat} {y : V} (h : (ys ++ ls).Perm xs) (e : ls[j]? = some y) : ((ys ++ [y]) ++ ls.eraseIdx j).Perm xs := by
  obtain ⟨hj, rfl⟩ := List.getElem?_eq_some_iff.mp e
  refine List.Perm.trans ?_ h
  rw [List.append_assoc]
  exact List.Perm.append_left ys (erase_perm hj)
section
variable {P : Program} {w : World} {K : PySem.W.Frag} {mg : Str → Option Value} {base : Heap}
def spMixed (K : PySem.W.Frag) : Sp := fun vs H Q _ => ∃ p a n xs, vs = [.ref p, .ref a] ∧ BoxAt H p n ∧ n ≤ 900000 ∧ a ≠ p ∧ H a = some (.lst xs) ∧ xs.length ≤ 50 ∧
  ∀ b H' ys, H b = none → b ≠ p → BoxAt H' p (n + xs.length) → But p H H' → H' b = some (.lst ys) → ys.Perm xs → Q (.ref b) H'
theorem d_mixed (T : Txt mg) (A : At K mg "_law_mixed" sLawMixed) (dt : Def P w K mg base "_law_take" 1 ["_law_box_here", "_law_many"] (spTake K)) :
    Def P w K mg base "_law_mixed" 2 ["_law_box_here", "_law_some"] (spMixed K) := by
  refine mkDef A scLawMixed (fun _ _ _ _ _ _ us hl => match us, hl with | [_, _], _ => rfl) (fun vs H Q E ⟨_, _, _, _, e, _⟩ => by rw [e]; rfl)
    (fun f cdv A out s H vs Q E hr h => ?_)
  obtain ⟨p, a, n, xs, rfl, hb, hn, ap, ea, l50, k⟩ := h
  refine ⟨_, (pss_cons (ps_set (i := 2) scLawMixed.nd rfl (.inr rfl) (pe_callTy call_list_of (by rfl) T.list (by decide +kernel) (pa_cons (pv 1) pa_nil)))
    (pss_one (ps_ret (pe_lc (own := [("_law_k", 3)]) (g := gName 3) (tt := tYes) rfl scLawMixed.nd (pi_range1 (by rfl) T.range (pa_cons (pe_callB (r := rLn K) call_len_seq (by rfl) T.len PySem.boot_len (pa_cons (pv 1) pa_nil)) pa_nil))
        (blkOk_by (own := [("_law_k", 3)]) (N := ["_law_box_here", "_law_some", "_law_left", "_law_k"]) (sc := defScope sLawMixed) (by decide +kernel))
        (fun _ _ _ _ _ => (pg_name (i := 3) scLawMixed.nd rfl (.inl rfl))) (fun _ _ _ _ _ => pts_nil)
        (fun _ _ _ _ _ => (pe_toK (K := K) rfl (pe_bm PySem.F.plainAttrs_list PySem.F.slot_list_pop PySem.F.type_list_pop mt_popAt (pv 2) (pa_cons (pe_d dt hr (by decide) (by rfl) (pa_cons (pv 0) (pa_cons (pe_callB (r := rLn K) call_len_seq (by rfl) T.len PySem.boot_len (pa_cons (pv 2) pa_nil)) pa_nil))) pa_nil)))))))), ?_⟩
  refine ⟨_, rfl, a, xs, rfl, .inl (SqL.of ea), fun F nF => ?_⟩
  have Fp := hb.ne nF
  have aF : a ≠ F := ne_of_none ea nF
  have S1 := Same.laid (o := HO.lst xs) nF
  have eF : upd H F (.lst xs) F = some (.lst xs) := upd_same
  have hb1 := hb.keep S1
  have ea1 := S1 _ _ ea
  generalize upd H F (.lst xs) = H1 at *
  dsimp only [gName]
  refine ⟨_, rfl, a, xs, rfl, .inl (SqL.of ea1), (xs.length : Int), rfl, by omega, by omega, fun D nD => ?_⟩
  have DP := hb1.ne nD
  have FD : F ≠ D := ne_of_none eF nD
  have nDH : H D = none := Same.no S1 nD
  refine lc_it (walk_range (lo := 0) (n := xs.length)) (fun i G => But p H G ∧ BoxAt G p (n + i) ∧ ∃ ys ls : List V, G D = some (.lst ys) ∧ G F = some (.lst ls) ∧ ys.length = i ∧ (ys ++ ls).Perm xs) ?_ (fun _ _ _ _ => trivial) ?_ ?_
  · exact ⟨(Same.but S1).trans (But.laid nD), hb1.laid nD, [], xs, upd_same, (upd_ne FD).trans eF, rfl, .refl _⟩
  · rintro i v G0 G hi ⟨BG, hbG, ys, ls, eD, eFG, hl, hp⟩ ⟨rfl, rfl⟩
    refine ⟨rfl, ?_⟩
    unfold tYes
    refine iteT ?_
    have hll : ys.length + ls.length = xs.length := by rw [← List.length_append]; exact hp.length_eq
    refine ⟨_, rfl, .inl ⟨rfl, _, SqL.of eFG⟩, _, rfl, _, rfl, F, ls, rfl, .inl (SqL.of eFG), p, _, _, rfl, hbG, by omega, by omega, Int.lt_of_le_of_lt (show (ls.length : Int) ≤ 50 by omega) (by decide), fun j G1 a4 b4 hb4 B4 => ?_⟩
    obtain ⟨jj, rfl⟩ := Int.eq_ofNat_of_zero_le a4
    have hj : jj < ls.length := by omega
    have eF4 := B4.at Fp eFG
    have eD4 := B4.at DP eD
    refine ⟨F, ls, (jj : Int), jj, ls[jj], rfl, rfl, eF4, by omega, by omega, ?_, List.getElem?_eq_getElem hj, ?_⟩
    · unfold seqIndex?
      have h0 : ¬ ((jj : Int) < 0) := by omega
      simp only [if_neg h0]
      rw [if_pos (by simp; omega)]
      simp
    have l : ys.length < 50 := by omega
    refine ⟨ys, (upd_ne FD.symm).trans eD4, Nat.lt_of_lt_of_le l (by decide), But.wo_upd (But.wo_upd (BG.trans B4) nF) nDH, ((hb4.set Fp).set DP).up (by omega), ys ++ [ls[jj]], ls.eraseIdx jj, upd_same, (upd_ne FD).trans upd_same, by rw [List.length_append, hl]; rfl, pop_perm hp (List.getElem?_eq_getElem hj)⟩
  rintro G ⟨BG, hbG, ys, ls, eD, eFG, hl, hp⟩
  have hll : ys.length + ls.length = xs.length := by rw [← List.length_append]; exact hp.length_eq
  have l0 : ls = [] := List.eq_nil_of_length_eq_zero (by omega)
  subst l0
  rw [List.append_nil] at hp
  exact k D G ys nDH DP hbG BG eD hp
end
end V59

set_option maxHeartbeats 8000000
/-! Dicts whose keys are tuples: made of a list of pairs, and by a comprehension. -/
namespace Pw
open PySem PySem.Spec PyProof.Rows L2
abbrev TK := List (List Key × V)
/-- put one after another -/
def mergeT (acc : TK) (more : TK) : TK := more.foldl (fun d kv => putK d kv.1 kv.2) acc
theorem mergeT_len : ∀ (more acc : TK), (mergeT acc more).length ≤ acc.length + more.length
  | [], acc => Nat.le_refl _
  | kv :: more, acc => by
    have h1 := mergeT_len more (putK acc kv.1 kv.2)
    have h2 := length_putK acc kv.1 kv.2
    show (mergeT (putK acc kv.1 kv.2) more).length ≤ _
    rw [List.length_cons]
    omega
/-- a pair (key, value) of the list: where the key's tuple lies -/
structure PrT (K : PySem.W.Frag) (H : Hp) (p : Addr) (b : Addr) (kv : List Key × V) : Prop where
  pr : SqT K H p [.ref b, kv.2]
  key : H b = some (.tup (kv.1.map kV))
section
variable {X : Cx}
theorem prT_rows {pins : List (Addr × Obj)} {σ : L2.St} {H : Hp} {s : Shared} (I : Inv X pins σ H s) : ∀ {ps bs : List Addr} {kvs : TK}, ps.length = kvs.length → bs.length = kvs.length → (∀ (j : Nat) (p b : Addr) (kv : List Key × V), ps[j]? = some p → bs[j]? = some b → kvs[j]? = some kv → PrT X.K H p b kv) →
    ∃ xs : List (List Key × Addr × Value), KT H kvs xs ∧ xs.length = ps.length ∧ ∀ (j : Nat) (x : List Key × Addr × Value), xs[j]? = some x → ∃ p, ps[j]? = some p ∧ IsTup s.heap p #[.ref x.2.1, x.2.2]
  | [], _, [], _, _, _ => ⟨[], .nil, rfl, fun j x e => by simp at e⟩
  | [], _, _ :: _, h, _, _ => by simp at h
  | _ :: _, _, [], h, _, _ => by simp at h
  | _ :: _, [], _ :: _, _, h, _ => by simp at h
  | p :: ps, b :: bs, kv :: kvs, h1, h2, h => by
    obtain ⟨xs, r1, r2, r3⟩ := prT_rows I (ps := ps) (bs := bs) (kvs := kvs) (by simpa using h1) (by simpa using h2) (fun j p b kv e1 e2 e3 => h (j + 1) p b kv (by simpa using e1) (by simpa using e2) (by simpa using e3))
    have hp := h 0 p b kv rfl rfl rfl
    obtain ⟨its, rv, ht, _⟩ := I.tuple hp.pr
    obtain ⟨u, y, rfl, ru, ry⟩ := vals2 rv
    obtain rfl : u = Value.ref b := ru
    refine ⟨(kv.1, b, y) :: xs, .cons ⟨rfl, hp.key, ry⟩ r1, by rw [List.length_cons, List.length_cons, r2], fun j x e => ?_⟩
    cases j with
    | zero => cases (show some (kv.1, b, y) = some x from e); exact ⟨p, rfl, ht⟩
    | succ j =>
      obtain ⟨q, e1, e2⟩ := r3 j x (by simpa using e)
      exact ⟨q, by simpa using e1, e2⟩
theorem KT.all {H : Hp} : ∀ {more acc : TK} {xs ys : List (List Key × Addr × Value)}, KT H acc xs → KT H more ys → KT H (mergeT acc more) (PySem.storedAllH xs ys)
  | _, _, _, _, r, .nil => r
  | _, _, _, _, r, .cons (a := kv) (b := q) h t => by
    obtain ⟨e1, e2, e3⟩ := h
    have := KT.all (KT.put r kv.1 e2 e3) t
    show KT H (mergeT (putK _ kv.1 kv.2) _) (List.foldl _ (PySem.storedH _ q.1 q.2.1 q.2.2) _)
    rw [← e1]
    exact this
/-- dict(xs), xs a list of pairs whose keys are tuples -/
theorem call_dictT (hc : X.calm = true) (hu : X.A.units + 64 < cLine) : CallR X (.type "dict") (fun vs H Q => ∃ (a : Addr) (ps bs : List Addr) (kvs : TK), vs = [.ref a] ∧ SqL X.K H a (ps.map V.ref) ∧ ps.length = kvs.length ∧ bs.length = kvs.length ∧
    (∀ (j : Nat) (p b : Addr) (kv : List Key × V), ps[j]? = some p → bs[j]? = some b → kvs[j]? = some kv → PrT X.K H p b kv) ∧ ∀ d, H d = none → Q (.ref d) (upd H d (.dT (mergeT [] kvs)))) := by
  intro pins s σ H vs us Q I r h
  obtain ⟨a, ps, bs, kvs, rfl, hq, l1, l2, hp, q⟩ := h
  obtain ⟨u, rfl, ru⟩ := vals1 r
  obtain rfl : u = Value.ref a := ru
  obtain ⟨its, rv, pl, hz⟩ := I.list hq
  obtain rfl := refs_at rv
  rw [List.length_map] at hz
  obtain ⟨xs, rel, lx, hx⟩ := prT_rows I l1 l2 hp
  have keyOk : ∀ x ∈ xs, H x.2.1 = some (.tup (x.1.map kV)) := by
    have g : ∀ {kvs : TK} {xs : List (List Key × Addr × Value)}, KT H kvs xs → ∀ x ∈ xs, H x.2.1 = some (.tup (x.1.map kV)) := by
      intro kvs xs r
      induction r with
      | nil => intro x hx; cases hx
      | cons h _ ih =>
        intro x hx
        rcases List.mem_cons.mp hx with rfl | hx
        · rw [← h.1]; exact h.2.1
        · exact ih x hx
    exact g rel
  generalize hpp : xs.map (fun x => (Value.ref x.2.1, x.2.2)) = pp
  have lp : pp.length = ps.length := by rw [← hpp, List.length_map, lx]
  have ok : PySem.PlainSeq "list" s.heap a (ps.map Value.ref).toArray ∧ PySem.PairItems s.heap (ps.map Value.ref).toArray (fun j => ps.getD j 0) pp := by
    refine ⟨?_, by simp [lp], fun j k v hj => ?_⟩
    · obtain ⟨o, n, ho, hcl, hd, hdat⟩ := pl
      exact ⟨o, n, ho, hcl, hd, hdat⟩
    · rw [← hpp, List.getElem?_map] at hj
      cases hxj : xs[j]? with
      | none => rw [hxj] at hj; cases hj
      | some x =>
        rw [hxj] at hj
        cases hj
        obtain ⟨p, e1, e2⟩ := hx j x hxj
        have ed : ps.getD j 0 = p := by rw [List.getD_eq_getElem?_getD, e1]; rfl
        show (List.map Value.ref ps).toArray[j]? = some (Value.ref (ps.getD j 0)) ∧ PySem.PairAt s.heap (ps.getD j 0) (Value.ref x.2.1) x.2.2
        rw [ed]
        refine ⟨by simp [e1], .inl ?_⟩
        obtain ⟨o, ho, hcl, n, hdat⟩ := e2
        exact ⟨o, ho, hcl, n, hdat⟩
  refine PySem.call_dict_pairsH (knd := tupleKind (mixKind X.prog X.w)) (ps := xs) (PySem.PairArg.list a (ps.map Value.ref).toArray (fun j => ps.getD j 0) pp) (I.ok.hd hc) ?_ ok ⟨by rw [lp, lx], fun i key v e => ?_⟩ (fun h' hk x hxm => ?_) (by rw [lp]; exact hz) fun h' tk hd' hk => ?_
  · exact tupleKind_room_in1 (A := X.A.in1) (by show X.A.units + 1 + 1 < cLine; omega)
  · have e' : pp[i]? = some (key, v) := e
    rw [← hpp, List.getElem?_map] at e'
    cases hxj : xs[i]? with
    | none => rw [hxj] at e'; cases e'
    | some x =>
      rw [hxj] at e'
      cases e'
      exact ⟨x.1, x.2.1, rfl, rfl⟩
  · have I' := I.kept (t' := s.toks) (h' := h') fun b o e => hk b o (Nat.ne_of_lt (Heap.lt_size e)) (fun z => nomatch z) e
    exact key_of I'.hok (keyOk x hxm)
  · have hd0 : (s.heap.objs.size == sysModules) = false := beq_eq_false_iff_ne.mpr (Nat.ne_of_gt I.big)
    have hl : (mergeT [] kvs).length ≤ sizeLine := by
      have := mergeT_len kvs []
      rw [List.length_nil, Nat.zero_add, ← l1] at this
      omega
    have nD : H s.heap.objs.size = none := I.hok.fresh (Nat.le_refl _)
    obtain ⟨q', es, ep, g1, g2, g3, g4, _, g5⟩ := hd'
    refine ⟨.ref s.heap.objs.size, upd H s.heap.objs.size (.dT (mergeT [] kvs)), I.laid (t' := tk) (fun b o e => hk b o (fun z => nomatch z) e) (Nat.le_refl _) ?_, rfl, q _ nD⟩
    refine ⟨hl, hd0, _, (KT.all .nil rel).keeps fun b ys e => ?_, q', es, ep, g1, g2, g3, g4, g5⟩
    rw [upd_ne (ne_of_none e nD)]
    exact e
end
end Pw

/-! Tuples of nothing multiplied, tuples turned round, (x,) == (text,), list(d.values()). -/
namespace Pw
open PySem PySem.Spec PyProof.Rows L2

/-! ### () * n -/
theorem tuple_mul0 (l : Addr) (n : Nat) (dd : Option Addr) (sl : Array (Option Value)) (x : Int) (u : Tok) (c0 : (decide (x < -(2 ^ 63)) || decide (x ≥ 2 ^ 63)) = false) :
    Meets (Builtin.«tuple.__mul__» ⟨[.ref l, .int x u], []⟩) (fun _ R s => s.heap.get? l = some { cls := .type "tuple", dict := dd, data := .seq #[] n, slots := sl } ∧ R (.ok (.ret (Value.ref l))) s) :=
  .of_wp fun prog w A R s h => by
    obtain ⟨hp, g, d, tk, os⟩ := s
    obtain ⟨hl, h⟩ := h
    have f1 := AutoSeq1.idx_int
    wp_walk using wpAny_loadPart' hl
    repeat (first
      | (refine wpAny_ite_false (decide_eq_false (by rw [c0]; exact Bool.false_ne_true)) ?_; wp_walk using wpAny_loadPart' hl)
      | (refine wpAny_ite_true (by simp) ?_; wp_walk using wpAny_loadPart' hl))
    exact ⟨_, rfl, h⟩
section
variable {X : Cx}
def rRep0 (K : PySem.W.Frag) : R2 := fun x y H Q => ∃ l k, x = .ref l ∧ y = .int k ∧ SqT K H l [] ∧ 2 ≤ k ∧ k ≤ 1000 ∧ Q (.ref l) H
theorem op_rep0 : OpR X (binaryOp .Mult) (rRep0 X.K) := by
  intro pins s σ H x y v u Q I rx ry h
  obtain ⟨l, k, rfl, rfl, hT, h1, h2, q⟩ := h
  cases rx
  obtain ⟨t, rfl⟩ := ry
  obtain ⟨its, r, ⟨⟨cls, dd, data, sl⟩, ho, hc, n, hd⟩, hs⟩ := I.tuple hT
  simp only at hc hd
  subst hc hd
  cases r
  have c0 : (decide (k < -(2 ^ 63)) || decide (k ≥ 2 ^ 63)) = false := by
    rw [decide_eq_false (by omega), decide_eq_false (by omega)] <;> rfl
  exact wpAny_binaryOp_repeat_ref (T := "tuple") (U := "int") (by decide) ⟨_, ho, rfl⟩ (fun s' => typeIs_int s' k t) noFill_tuple_mul F.fills_int_mul F.slot_int_rmul repeat_tuple F.slot_int_index.lookup
    (call_meets F.slot_int_rmul (typeIs_int s k t) F.entry_int_rmul (F.args_int_rmul_2 _ _) (int_rmul_tuple k t l #[] n dd sl)
      ⟨ho, rfl, ⟨_, ho, rfl⟩, call_meets F.slot_tuple_mul ⟨_, ho, rfl⟩ F.entry_tuple_mul (F.args_tuple_mul_2 _ _) (tuple_mul0 l n dd sl k t c0) ⟨ho, ⟨.ref l, H, I, rfl, q⟩⟩⟩)
end

/-! ### t[::-1] -/
section
variable {prog : Program} {w : World} {A : Around} {E : Value → Shared → Prop} {s : Shared}
theorem sliceApplied_rev {sl : Addr} {u : Tok} {n : Nat} {Q : Int × Int × Nat → Shared → Prop} (hs : s.heap.IsSliceOf sl .none .none (.int (-1) u))
    (h : Q ((n : Int) - 1, -1, n) s) : wpAny (model prog w) A (Builtin.Slice.sliceApplied (.ref sl) (pure (n : Int))) Q E s := by
  obtain ⟨os, hos, hcs, hds⟩ := id hs
  unfold Builtin.Slice.sliceApplied Builtin.Slice.sliceFields
  refine wpAny_bind (wpAny_bind (wpAny_field hos hds (x := .none) rfl (wpAny_bind (wpAny_field hos hds (x := .none) rfl (wpAny_bind (wpAny_field hos hds (x := .int (-1) u) rfl (wpAny_pure ?_)))))))
  refine wpAny_bind (HT.slicePart_ (IsPart.int _ _) ?_)
  show wpAny _ _ (if ((-1 : Int) == 0) = true then _ else _) _ _ s
  rw [if_neg (by decide)]
  refine wpAny_bind (HT.slicePart_ IsPart.none (wpAny_bind (HT.slicePart_ IsPart.none (wpAny_bind (wpAny_pure ?_)))))
  have e1 : Builtin.Slice.sliceAdjust none none (-1) (n : Int) = ((n : Int) - 1, -1) := by
    unfold Builtin.Slice.sliceAdjust
    rfl
  have e2 : Builtin.Slice.slicePlaces ((n : Int) - 1) (-1) (-1) = n := by
    unfold Builtin.Slice.slicePlaces
    have h1 : ¬ ((-1 : Int) > 0) := by decide
    rw [if_neg h1]
    by_cases hn : (n : Int) - 1 > -1
    · rw [if_pos hn, show (- -1 : Int) = 1 by decide, Int.ediv_one]
      omega
    · rw [if_neg hn]
      omega
  show wpAny _ _ (match Builtin.Slice.sliceAdjust none none (-1) (n : Int) with | (lo, hi) => pure (lo, (-1 : Int), Builtin.Slice.slicePlaces lo hi (-1))) _ _ s
  rw [e1]
  show wpAny _ _ (pure ((n : Int) - 1, (-1 : Int), Builtin.Slice.slicePlaces ((n : Int) - 1) (-1) (-1))) _ _ s
  rw [e2]
  exact wpAny_pure h
theorem filterMap_same {α β : Type} {f g : α → Option β} : ∀ l : List α, (∀ m ∈ l, f m = g m) → l.filterMap f = l.filterMap g
  | [], _ => rfl
  | a :: l, h => by
    rw [List.filterMap_cons, List.filterMap_cons, h a (by simp), filterMap_same l fun m hm => h m (by simp [hm])]
theorem pick_rev (xs : Array Value) : ((List.range xs.size).filterMap fun (m : Nat) => xs[(((xs.size : Nat) : Int) - 1 + (m : Int) * -1).toNat]?).toArray = xs.toList.reverse.toArray := by
  have e : (List.range xs.size).filterMap (fun (m : Nat) => xs[(((xs.size : Nat) : Int) - 1 + (m : Int) * -1).toNat]?) = ((List.range xs.size).map fun k => xs.size - 1 - k).filterMap (xs[·]?) := by
    rw [List.filterMap_map]
    refine filterMap_same _ fun m hm => ?_
    have := List.mem_range.mp hm
    show xs[(((xs.size : Nat) : Int) - 1 + (m : Int) * -1).toNat]? = xs[xs.size - 1 - m]?
    have : (((xs.size : Nat) : Int) - 1 + (m : Int) * -1).toNat = xs.size - 1 - m := by omega
    rw [this]
  rw [e, PySem.W.krv_range, List.filterMap_reverse, PySem.W.krv_all]
theorem getItem_tuple_rev {t sl : Addr} {items : Array Value} {u : Tok} {Q : Value → Shared → Prop} (ht : IsTup s.heap t items) (hs : s.heap.IsSliceOf sl .none .none (.int (-1) u))
    (h : Q (.ref s.heap.objs.size) { s with heap := s.heap.push { cls := .type "tuple", data := .seq items.toList.reverse.toArray } })
    (hsz : items.size ≤ sizeLine) : wpAny (model prog w) A (getItem (.ref t) (.ref sl)) Q E s := by
  have htake : sizeOk (.seq items.toList.reverse.toArray) := by
    show items.toList.reverse.toArray.size ≤ sizeLine
    rw [List.size_toArray, List.length_reverse, Array.length_toList]
    omega
  obtain ⟨os, hos, hcs, hds⟩ := id hs
  have hTs : s.TypeIs (.ref sl) "slice" := ⟨os, hos, hcs⟩
  unfold getItem
  try with_reducible refine wpAny_holding ?_
  first | refine wpAny_bind (wpAny_pure ?_) | skip
  refine wpAny_bind (wpAny_sequenceKey ht.typeIs (by decide) ?_)
  refine wpAny_bind (wpAny_callSpecial?_slot (name := Str.ofString "__getitem__") ht.typeIs PyProof.Rows.slot_tuple_getitem
    (wpAny_call_entry PyProof.Rows.slot_tuple_getitem ht.typeIs entry_tuple_getitem ?_ (args_tuple_getitem _ _)))
  show wpAny _ _ (Builtin.Tuple.tupleItemsOf (.ref t) >>= _) _ _ s
  refine wpAny_bind (tupleItemsOf_ ht ?_)
  refine wpAny_bind (wpAny_typeOf hTs ?_)
  rw [if_pos (by decide)]
  refine wpAny_bind (sliceApplied_rev hs ?_)
  have hno : ¬ ((((items.size : Nat) : Int) - 1 == 0 && (-1 : Int) == 1 && items.size == items.size) = true) := by
    intro q
    rw [Bool.and_eq_true, Bool.and_eq_true] at q
    exact absurd q.1.2 (by decide)
  show wpAny _ _ (if (((items.size : Nat) : Int) - 1 == 0 && (-1 : Int) == 1 && items.size == items.size) = true then _ else _) _ _ s
  rw [if_neg hno, pick_rev]
  first
    | exact wpAny_bind (m := Builtin.Tuple.tupleExact _) (wpAny_newObj_type (wpAny_pure ⟨_, rfl, wpAny_pure h⟩) htake)
    | exact wpAny_bind (m := Builtin.Tuple.tupleExact _) (wpAny_newObj_type (wpAny_bind (wpAny_pure (wpAny_pure ⟨_, rfl, wpAny_pure h⟩))) htake)
    | exact wpAny_bind (wpAny_bind (m := Builtin.Tuple.tupleExact _) (wpAny_newObj_type (wpAny_pure (wpAny_pure ⟨_, rfl, wpAny_pure h⟩)) htake))
    | exact wpAny_bind (wpAny_bind (m := Builtin.Tuple.tupleExact _) (wpAny_newObj_type (wpAny_pure ⟨_, rfl, wpAny_pure h⟩) htake))
end
section
variable {X : Cx}
def tRevT (K : PySem.W.Frag) (te : TE) : TE := fun σ H Q => te σ H fun x H1 => ∃ a xs, x = .ref a ∧ SqT K H1 a xs ∧ ∀ p, H1 p = none → Q (.ref p) (upd H1 p (.tup xs.reverse))
theorem pe_revT {e : Expr} {te : TE} {k : Nat} {p1 p2 p3 pos : Pos} (he : PE X e te) : PE X (.Subscript e (.Slice none none (some (.UnaryOp .USub (.Constant (.int 1) k p1) p2)) p3) pos) (tRevT X.K te) := by
  refine ⟨fun pins s σ H Q I h => ?_⟩
  refine Subscript_ (thn (he.run pins s σ H _ I h) fun v s1 ⟨x, H1, I1, r1, q1⟩ => ?_)
  obtain ⟨a, xs, ex, hx, q⟩ := q1
  subst ex
  cases r1
  have hst : PO X (some (.UnaryOp .USub (.Constant (.int 1) k p1) p2)) (tPart (tUn (rU fun i => .int (-i)) (tC (.int 1)))) := po_some (pe_un un_neg pe_int)
  refine wpAny_Slice (thn (po_none.run pins s1 σ H1 (fun o H2 => o = none ∧ H2 = H1) I1 ⟨rfl, rfl⟩) fun vl s2 ⟨l, H2, I2, pl, el, e2⟩ => ?_)
  subst el e2
  refine thn (po_none.run pins s2 σ H2 (fun o H3 => o = none ∧ H3 = H2) I2 ⟨rfl, rfl⟩) fun vu s3 ⟨u, H3, I3, pu, eu, e3⟩ => ?_
  subst eu e3
  refine thn (hst.run pins s3 σ H3 (fun o H4 => o = some (-1) ∧ H4 = H3) I3 ⟨1, rfl, -1, rfl, rfl, rfl⟩) fun vs s4 ⟨o, H4, I4, ps, eo, e4⟩ => ?_
  subst eo e4
  cases pl
  cases pu
  cases ps with
  | int i tk =>
  have I5 : Inv X pins σ H4 { s4 with heap := s4.heap.push { cls := .type "slice", data := .fields #[.none, .none, .int (-1) tk] } } := I4.kept (t' := s4.toks) fun b ob q => Heap.get?_push_of_some _ q
  obtain ⟨its, r, ht, hz⟩ := I5.tuple hx
  have hlen := r.length
  show wpAny (model X.prog X.w) X.A (subscriptTail e (.Slice none none (some (.UnaryOp .USub (.Constant (.int 1) k p1) p2)) p3) (.ref a) (.ref s4.heap.objs.size)) (EP X pins σ Q) X.xe { s4 with heap := s4.heap.push { cls := .type "slice", data := .fields #[.none, .none, .int (-1) tk] } }
  refine tail_any (ops := [.ref a, .ref s4.heap.objs.size]) ht.typeIs PyProof.Rows.slot_tuple_getitem.lookup ?_ (by with_unfolding_all rfl)
  refine getItem_tuple_rev ht (Heap.IsSliceOf.new _ _ _ _) ?_ (by rw [List.size_toArray]; omega)
  refine ⟨.ref _, _, I5.laid (t' := s4.toks) (o := .tup xs.reverse) (fun b ob q => Heap.get?_push_of_some _ q) (Nat.le_refl _) ?_, rfl, q _ (I5.hok.fresh (Nat.le_refl _))⟩
  exact ⟨by rw [List.length_reverse]; exact hz, _, r.reverse, IsTup.new _ _⟩
end

/-! ### (x,) == (text,) -/
section
variable {prog : Program} {w : World} {A : Around} {E : Value → Shared → Prop} {s : Shared}
theorem dict_eq_declines_str (l : Addr) (dat : Data) (dd : Option Addr) (sl : Array (Option Value)) (b : Str) (u : Tok) :
    Meets (Builtin.«dict.__eq__» ⟨[.ref l, .str b u], []⟩) (fun _ R s => s.heap.get? l = some { cls := .type "dict", dict := dd, data := dat, slots := sl } ∧ R (.ok (.ret .notImplemented)) s) :=
  .of_wp fun prog w A R s h => by
    obtain ⟨hl, h⟩ := h
    have hT : s.TypeIs (.ref l) "dict" := ⟨_, hl, rfl⟩
    show wpAny _ _ (Builtin.Dict.dictSlotArgs "__eq__" ⟨[.ref l, .str b u], []⟩ >>= _) _ _ s
    refine wpAny_bind ?_
    unfold Builtin.Dict.dictSlotArgs
    refine wpAny_bind (wpAny_notOrdered_dict hT ?_)
    show wpAny _ _ (pure (Value.ref l, Value.str b u)) _ _ s
    refine wpAny_pure ?_
    refine wpAny_bind (wpAny_isInstance (T := "str") (typeIs_str s b u) F.sub_str_dict ?_)
    simp only [Bool.not_false, if_true]
    exact wpAny_bind (wpAny_rule (wpAny_pure ⟨_, rfl, h⟩))
theorem str_eq_declines_dict (b : Str) (u : Tok) (l : Addr) (c : Value) (es : Array DictEntry) (ep : Nat) (dd : Option Addr) (sl : Array (Option Value)) :
    Meets (Builtin.«str.__eq__» ⟨[.str b u, .ref l], []⟩) (fun _ R s => s.heap.get? l = some { cls := c, dict := dd, data := .dict es ep, slots := sl } ∧ R (.ok (.ret .notImplemented)) s) :=
  .of_wp fun prog w A R s h => by obtain ⟨hp, g, d, tk, os⟩ := s; obtain ⟨hl, h⟩ := h; wp_walk using wpAny_loadPart' hl, wpAny_load hl; exact ⟨_, rfl, h⟩
theorem rc_dict_str {l : Addr} {es : Array DictEntry} {ep : Nat} {dd : Option Addr} {sl : Array (Option Value)} (b : Str) (u : Tok) (ho : s.heap.get? l = some { cls := .type "dict", dict := dd, data := .dict es ep, slots := sl }) (hu : A.units < cLine) : SeqAt.RcAt A s (.ref l) (.str b u) false := fun prog w E Q h => by
  exact SeqAt.rc_eq_decline_or (k := false) ⟨_, ho, rfl⟩ (typeIs_str s b u) (by decide) F.sub_str_dict F.slot_dict_eq F.slot_str_eq_refl
    (fun _ hq => call_meets F.slot_dict_eq ⟨_, ho, rfl⟩ F.entry_dict_eq (F.args_dict_eq_2 _ _) (dict_eq_declines_str l _ dd sl b u) ⟨ho, hq⟩)
    (fun _ hq => call_meets F.slot_str_eq_refl (typeIs_str s b u) F.entry_str_eq (F.args_str_eq_2 _ _) (str_eq_declines_dict b u l (.type "dict") es ep dd sl) ⟨ho, hq⟩)
    (fun _ hq => wpAny_of_eq (rfl : isSame (.ref l) (.str b u) = pure false) hq) (.inr hu) h
theorem eq_dict_str {l : Addr} {es : Array DictEntry} {ep : Nat} {dd : Option Addr} {sl : Array (Option Value)} (b : Str) (u : Tok) (ho : s.heap.get? l = some { cls := .type "dict", dict := dd, data := .dict es ep, slots := sl }) (hu : A.units < cLine) : SeqAt.EqAt A s (.ref l) (.str b u) false := fun prog w E Q h => by
  unfold eqBool
  refine wpAny_holding ?_
  refine wpAny_ite_split (fun hab => absurd (eq_of_beq hab) nofun) (fun _ => ?_)
  exact wpAny_bind (rc_dict_str b u ho hu prog w E _ (wpAny_truthy_bool h))
end
/-- (x,) == (text,): no error as x -/
def rEqH (K : PySem.W.Frag) : R2 := fun x y H Q => ∃ a b z t st, x = .ref a ∧ y = .ref b ∧ SqT K H a [z] ∧ SqT K H b [.str st] ∧ Ty K H z t ∧ (∀ D, t ≠ .ref D) ∧ Q (.bl (decide (z = .str st))) H
theorem op_eqH {X : Cx} (hu : X.A.units + 64 < cLine) : OpR X (compareOp .Eq) (rEqH X.K) := by
  intro pins s σ H x y v u Q I rx ry h
  obtain ⟨a, b, z, t, st, rfl, rfl, ha, hb, ty, nt, q⟩ := h
  cases rx
  cases ry
  obtain ⟨us, r1, p1, _⟩ := I.tuple ha
  obtain ⟨ws, r2, p2, _⟩ := I.tuple hb
  obtain ⟨u1, rfl, q1⟩ := vals1 r1
  obtain ⟨u2, rfl, q2⟩ := vals1 r2
  obtain ⟨k2, rfl⟩ := q2
  have he : SeqAt.EqAt X.A.in1 s u1 (.str st k2) (decide (z = .str st)) := by
    have hu1 : X.A.in1.units < cLine := by
      show X.A.units + 1 < cLine
      omega
    cases ty with
    | non =>
      cases q1
      exact SeqAt.EqAt.none_str _ _
    | bl c =>
      cases q1
      exact SeqAt.EqAt.bool_str _ _ _
    | int i =>
      obtain ⟨k1, rfl⟩ := q1
      exact SeqAt.EqAt.int_str _ _ _ _
    | str s1 =>
      obtain ⟨k1, rfl⟩ := q1
      have e : decide (V.str s1 = V.str st) = (s1 == st) := by
        by_cases h : s1 = st <;> simp [h]
      rw [e]
      exact SeqAt.EqAt.str_str _ _ _ _
    | lst e =>
      cases q1
      obtain ⟨its, r, ht, hz⟩ := I.list (SqL.of e)
      exact SeqAt.EqAt.list_str _ _ ht.isList hu1
    | tup e =>
      cases q1
      obtain ⟨its, r, ht, hz⟩ := I.tuple (SqT.of e)
      exact SeqAt.EqAt.tuple_str _ _ ht hu1
    | dct e =>
      cases q1
      obtain ⟨hz, hs0, vs, kv, ob, es, ep, ho, hc, hd, _⟩ := I.hok _ _ e
      obtain ⟨cls, dd, data, sl⟩ := ob
      simp only at hd
      have hcc : cls = .type "dict" := hc.1
      subst hcc hd
      exact eq_dict_str _ _ ho hu1
    | exc e ed c => exact absurd rfl (nt _)
  have e : ((List.range (min [u1].toArray.size [Value.str st k2].toArray.size)).all (fun _ => decide (z = .str st)) && [u1].toArray.size == [Value.str st k2].toArray.size) = decide (z = .str st) := by
    simp
  refine SeqAt.RcAt.tuples (e := fun _ => decide (z = .str st)) p1 p2 (by omega) (fun j h1 h2 => ?_) X.prog X.w X.xe _ ?_
  · have : j = 0 := by simp at h1; omega
    subst this
    exact he
  · rw [e]
    exact ⟨.bl _, H, I, rfl, q⟩
/-- () == (text,) -/
def rEqHE (K : PySem.W.Frag) : R2 := fun x y H Q => ∃ a b st, x = .ref a ∧ y = .ref b ∧ SqT K H a [] ∧ SqT K H b [.str st] ∧ Q (.bl false) H
theorem op_eqHE {X : Cx} (hu : X.A.units + 64 < cLine) : OpR X (compareOp .Eq) (rEqHE X.K) := by
  intro pins s σ H x y v u Q I rx ry h
  obtain ⟨a, b, st, rfl, rfl, ha, hb, q⟩ := h
  cases rx
  cases ry
  obtain ⟨us, r1, p1, _⟩ := I.tuple ha
  obtain ⟨ws, r2, p2, _⟩ := I.tuple hb
  cases r1
  obtain ⟨u2, rfl, q2⟩ := vals1 r2
  refine SeqAt.RcAt.tuples (e := fun _ => true) p1 p2 (by omega) (fun j h1 h2 => absurd h1 (by simp)) X.prog X.w X.xe _ ?_
  exact ⟨.bl _, H, I, rfl, q⟩
/-- (x,) or () == (text,) -/
theorem op_or {X : Cx} {o : Value → Value → Sem Value} {r1 r2 : R2} (h1 : OpR X o r1) (h2 : OpR X o r2) : OpR X o fun x y H Q => r1 x y H Q ∨ r2 x y H Q := by
  intro pins s σ H x y v u Q I rx ry h
  rcases h with h | h
  · exact h1 pins s σ H x y v u Q I rx ry h
  · exact h2 pins s σ H x y v u Q I rx ry h

/-! ### list(d.values()) -/
section
variable {X : Cx} {e : Expr} {te : TE} {p apos cpos pos : Pos}
def tListVals (te : TE) : TE := fun σ H Q => te σ H fun x H1 => ∃ (d : Addr) (kvs : List (Key × V)), x = .ref d ∧ H1 d = some (.dK kvs) ∧ ∀ q, H1 q = none → Q (.ref q) (upd H1 q (.lst (kvs.map fun kv => kv.2)))
theorem pe_listVals (hc : X.calm = true) (he : PE X e te) (hg : Gl X "list") (hm : X.mg "list" = none) (hv : bootBuiltins "list" = some (.type "list")) (hbase : attributeBase e "values" X.env (eval e X.env) = eval e X.env := by rfl) (hline : (apos.endLine == cpos.line) = true := by rfl)
    (hs : starEach [.Call (.Attribute e "values" apos) [] [] cpos] X.env = (false, eval (.Call (.Attribute e "values" apos) [] [] cpos) X.env) :: starEach [] X.env := by rfl) :
    PE X (.Call (.Name "list" p) [.Call (.Attribute e "values" apos) [] [] cpos] [] pos) (tListVals te) := by
  refine ⟨fun pins s σ H Q I hq => ?_⟩
  refine wpAny_Call_Name_kw (ld_blt I hg hm hv ?_)
  refine PyProof.Rows.callWith_type1 ?_ hs rfl
  rw [hs]
  show wpAny _ _ (spliced ((false, eval (.Call (.Attribute e "values" apos) [] [] cpos) X.env) :: backTo pos (starEach [] X.env))) _ _ s
  refine Calls.spliced_cons ?_
  refine wpAny_Call_method (T := "dict") (id := "dict.values") hbase rfl hline F.plainAttrs_dict F.slot_dict_values F.type_dict_values (thn (he.run pins s σ H _ I hq) fun u s1 ⟨x, H1, I1, rx, d, kvs, ex, hd, q⟩ => ?_)
  subst ex
  obtain rfl : u = Value.ref d := rx
  obtain ⟨hz, hs0, vs, kv, hdo⟩ := I1.hok d _ hd
  obtain ⟨ep, hat⟩ := hdo.dictAt
  have lk : kvs.length = vs.length := Paired.length kv
  have I2 : Inv X pins σ H1 { s1 with heap := s1.heap.push { cls := .type "dict_values", data := .fields #[.ref d] } } := I1.kept (t' := s1.toks) fun b ob q => Heap.get?_push_of_some _ q
  refine ⟨hdo.typeIs, hdo.mapOf.noDict, ?_⟩
  show wpAny _ _ (callWith cpos (.builtin "dict.values") [.ref d] [] []) _ X.xe s1
  refine method_meetsIn F.slot_dict_values F.entry_dict_values rfl (PySem.evalArgs_none ⟨rfl, hdo.typeIs, F.args_dict_values_1 _, _, meets_dict_values (mixKind X.prog X.w) d hs0, ⟨vs, hdo⟩, ?_⟩)
  refine Calls.spliced_nil ?_
  refine PySem.W.kdl_call (PySem.W.kdl_values (knd := mixKind X.prog X.w) (kvs := vs) (ep := ep)) (I1.ok.hd hc) ⟨⟨_, Heap.get?_push_size _ rfl, rfl, rfl⟩, hat.push _⟩ (by omega) fun h' tk acc' c' hkeep hS hacc => ?_
  refine ⟨.ref _, _, I2.laid (o := .lst (kvs.map fun kv => kv.2)) hkeep (Nat.le_refl _) (show ObjOk X.prog X.w _ _ _ (.lst (kvs.map fun kv => kv.2)) from ⟨?_, acc'.toList, c', ?_, ?_⟩), rfl, q _ (I1.hok.fresh (by
    show s1.heap.objs.size ≤ _
    simp [Heap.push]))⟩
  · rw [List.length_map]; exact hz
  · have el : acc'.toList.length = acc'.size := by simp
    refine vals_of_at (by rw [List.length_map, el, hacc.1]; omega) fun j x w h1 h2 => ?_
    obtain ⟨k, hky⟩ := hacc.2 j w (by rw [← Array.getElem?_toList]; exact h2)
    rw [List.getElem?_map] at h1
    obtain ⟨pk, e1, rfl⟩ := Option.map_eq_some_iff.mp h1
    obtain ⟨qv, g1, g2, g3⟩ := LiI.paired_get kv e1
    rw [hky] at g1
    cases g1
    exact g3
  · rw [Array.toArray_toList]; exact hS
end
end Pw

/-! Tuples cut, joined and multiplied, whether the outcome is new or one of those. -/
namespace Pw
open PySem PySem.Spec PyProof.Rows L2
section
variable {X : Cx}
def rCatS : R2 := fun x y H Q => ∃ a b xs ys, x = .ref a ∧ y = .ref b ∧ H a = some (.tup xs) ∧ H b = some (.tup ys) ∧ xs.length + ys.length ≤ sizeLine ∧ ∀ c H', Same H H' → H' c = some (.tup (xs ++ ys)) → Q (.ref c) H'
theorem op_catS : OpR X (binaryOp .Add) rCatS := by
  intro pins s σ H x y v u Q I rx ry h
  obtain ⟨a, b, xs, ys, rfl, rfl, ha, hb, hz, q⟩ := h
  refine op_catA pins s σ H _ _ v u Q I rx ry ⟨a, b, xs, ys, rfl, rfl, SqT.of ha, SqT.of hb, hz, fun e => ?_, fun _ e => ?_, fun _ _ c nc => q c _ (Same.laid nc) upd_same⟩
  · subst e
    exact q b H (Same.refl _) hb
  · subst e
    exact q a H (Same.refl _) (by rw [List.append_nil]; exact ha)
def rSlS : V → Option Int → Option Int → Hp → VK → Prop := fun x lo hi H Q => ∃ a xs, x = .ref a ∧ H a = some (.tup xs) ∧ ∀ c H', Same H H' → H' c = some (.tup (cutV xs lo hi)) → Q (.ref c) H'
theorem sl_tupS : SlR X rSlS := by
  intro pins s σ H x v vl vu lo hi sl Q I rx hs pl pu h
  obtain ⟨a, xs, rfl, ha, q⟩ := h
  refine sl_tupA pins s σ H _ v vl vu lo hi sl Q I rx hs pl pu ⟨a, xs, rfl, SqT.of ha, fun e => ?_, fun _ c nc => q c _ (Same.laid nc) upd_same⟩
  refine q a H (Same.refl _) ?_
  have : cutV xs lo hi = xs := by
    unfold cutV
    rw [e.1, e.2, List.drop_zero, Nat.sub_zero, List.take_of_length_le (Nat.le_refl _)]
  rw [this]
  exact ha
def rRepS : R2 := fun x y H Q => ∃ a xs k, x = .ref a ∧ y = .int k ∧ H a = some (.tup xs) ∧ 2 ≤ k ∧ k ≤ 1000 ∧ xs.length ≤ 1000 ∧ ∀ c H', Same H H' → H' c = some (.tup (List.replicate k.toNat xs).flatten) → Q (.ref c) H'
theorem op_repS : OpR X (binaryOp .Mult) rRepS := by
  intro pins s σ H x y v u Q I rx ry h
  obtain ⟨a, xs, k, rfl, rfl, ha, h1, h2, hz, q⟩ := h
  by_cases hx : xs = []
  · subst hx
    refine op_rep0 pins s σ H _ _ v u Q I rx ry ⟨a, k, rfl, rfl, SqT.of ha, h1, h2, q a H (Same.refl _) ?_⟩
    have : (List.replicate k.toNat ([] : List V)).flatten = [] := by
      rw [List.flatten_eq_nil_iff]
      exact fun l hl => (List.mem_replicate.mp hl).2
    rw [this]
    exact ha
  · exact op_repT pins s σ H _ _ v u Q I rx ry ⟨a, k, xs, rfl, rfl, SqT.of ha, hx, h1, h2, hz, fun c nc => q c _ (Same.laid nc) upd_same⟩
end
theorem cut_upto (xs : List V) (j : Nat) : cutV xs none (some (j : Int)) = xs.take j := by
  unfold cutV
  have e1 : HT.sIx xs.length 0 none = 0 := rfl
  rw [e1, HT.sIx_nat, List.drop_zero, Nat.sub_zero]
  by_cases h : j ≤ xs.length
  · rw [Nat.min_eq_left h]
  · rw [Nat.min_eq_right (by omega), List.take_of_length_le (Nat.le_refl _), List.take_of_length_le (by omega)]
theorem cut_behind (xs : List V) (i : Nat) : cutV xs (some (i : Int)) none = xs.drop i := by
  unfold cutV
  have e2 : HT.sIx xs.length xs.length none = xs.length := rfl
  rw [HT.sIx_nat, e2]
  by_cases h : i ≤ xs.length
  · rw [Nat.min_eq_left h, List.take_of_length_le (by rw [List.length_drop]; omega)]
  · rw [Nat.min_eq_right (by omega), Nat.sub_self, List.take_zero, List.drop_of_length_le (by omega)]
theorem cut_two (xs : List V) (i j : Nat) : cutV xs (some (i : Int)) (some (j : Int)) = (xs.take j).drop i := by
  unfold cutV
  rw [HT.sIx_nat, HT.sIx_nat]
  by_cases h : i ≤ xs.length
  · rw [Nat.min_eq_left h, List.drop_take]
    by_cases h2 : j ≤ xs.length
    · rw [Nat.min_eq_left h2]
    · rw [Nat.min_eq_right (by omega), List.take_of_length_le (by rw [List.length_drop]; omega), List.take_of_length_le (by rw [List.length_drop]; omega)]
  · rw [Nat.min_eq_right (a := i) (by omega), List.drop_of_length_le (Nat.le_refl _), List.take_nil, List.drop_of_length_le (by rw [List.length_take]; omega)]
end Pw

/-! A try with several clauses 'except X as e', met one after the other; what stands behind the last that may be met is never looked at. -/
namespace Pw
open PySem PySem.Spec PyProof.Rows L2
abbrev SuiteT := Addr → Value → Option Addr → TS
/-- the wishes of such clauses -/
def wAll (K : PySem.W.Frag) (i : Nat) (D : Ends) : List (Value × SuiteT) → WX
  | [] => fun _ _ _ _ => False
  | (c, ts) :: r => wAs K c i ts (wAll K i D r) D
inductive AsOk (X : Cx) (n : Str) : List ExceptHandler → List (Value × SuiteT) → Prop
  | rest {hds : List ExceptHandler} : AsOk X n hds []
  | cons {x : Str} {c : Value} {ts : SuiteT} {b₀ : Stmt} {suite : List Stmt} {np pos' : Pos} {hds : List ExceptHandler} {l : List (Value × SuiteT)} (nm : Names X x c)
      (sui : ∀ (a : Addr) (oe : Obj) (cls : Value) (d : Option Addr) (pn : List (Addr × Obj)), Zc cls d oe → (∃ vs, oe.data = .fields vs) → PSs (X.suite a ((a, oe) :: pn)) (b₀ :: suite) (ts a cls d)) (more : AsOk X n hds l) :
      AsOk X n (.ExceptHandler (some (.Name x np)) (some n) (b₀ :: suite) pos' :: hds) ((c, ts) :: l)
section
variable {X : Cx} {n : Str} {i : Nat}
/-- a landed exception is no frame of ours -/
theorem no_frame {B h : Heap} {l : List Env} {a : Addr} {o : Obj} {vs : Array Value} (ff : h.FunFrames B l) (e : h.get? a = some o) (dd : o.data = .fields vs) : a ∉ frs l := fun hm => by
  obtain ⟨_, o', e', hnf⟩ := ff.mem hm
  rw [e] at e'
  cases e'
  exact hnf _ dd
/-- the clauses, one behind the other, over a landed exception -/
theorem clauses_as {pins : List (Addr × Obj)} {D : Ends} {B : Heap} {a : Addr} {cls : Value} {d : Option Addr} {σ : L2.St} {H : Hp} {s : Shared} (ok : X.Ok) (hs : X.stack = X.env :: X.outer) (hf : X.env.frame = some X.env.locals)
    (hN : X.N.Nodup) (hi : X.N[i]? = some n) (hln : X.env.kindOf n = some .local) (na : H a = none)
    (fl : HandSPX.FlyingZ B (X.env :: X.outer) a (Zc cls d) s.heap)
    (at_ : ∀ h, HandSPX.FlyingZ B (X.env :: X.outer) a (Zc cls d) h → s.heap.UpToSlots h → Inv X pins σ H { s with heap := h }) :
    ∀ {hds : List ExceptHandler} {l : List (Value × SuiteT)}, AsOk X n hds l → wAll X.K i D l cls d σ H → wpAny (model X.prog X.w) X.A (handleBy (.ref a) X.env hds) (SP X pins D) X.xe s
  | _, _, .rest, w => w.elim
  | _, _, .cons (x := x) (c := c) (ts := ts) (np := np) (pos' := pos') nm sui more, w => by
    obtain ⟨b, eb, yes, no⟩ := w
    have J : Inv X pins σ H s := at_ _ fl (Heap.UpToSlots.refl _)
    obtain ⟨o1, v1, g1, z1, f1⟩ := fl.there
    have nfr := no_frame fl.2.2.1 g1 f1
    have nL : a ≠ X.env.locals := fun z => nfr (List.mem_filterMap.mpr ⟨X.env, List.mem_cons_self, by rw [hf, z]⟩)
    have nF : a ∉ X.fs := fun hm => by
      obtain ⟨e, he, q⟩ := List.mem_filterMap.mp hm
      exact nfr (List.mem_filterMap.mpr ⟨e, List.mem_cons_of_mem _ he, q⟩)
    have kind : PySem.W.Looks (model X.prog X.w) s.heap (typeOf (.ref a)) cls := fun _ _ _ _ k q => wpAny_typeOf_ref (k _ _ g1) (by rw [z1.1]; exact q)
    have I1 := J.suite g1 f1 na nL nF
    refine wpAny_handleBy_cons (codeAny_handlers_test ?_) (by intro q; cases q)
    have read : ∀ {Q E : Value → Shared → Prop}, Q c s → wpAny (model X.prog X.w) (X.A.mark (some (.ref a))) (eval (.Name x np) X.env) Q E s := fun {Q E} q => by
      rcases nm with ⟨hg, hd, hm | ⟨hm, hv, hn⟩⟩
      · exact ld_glob (X := X.suite a ((a, o1) :: (X.pn ++ pins))) I1 hg hm q hd
      · exact ld_blt (X := X.suite a ((a, o1) :: (X.pn ++ pins))) I1 hg hm hv q hn hd
    refine read ((PySem.W.exm_one (M := model X.prog X.w) J.kIn kind eb).here ?_)
    match b, yes, no with
    | false, _, no => exact clauses_as ok hs hf hN hi hln na fl at_ more (no rfl)
    | true, yes, _ =>
      refine codeAny_handlers_suite_as (HandSPX.lands_againZ fl fun h2 fl2 up2 => ?_)
      obtain ⟨o2, v2, g2, z2, f2⟩ := fl2.there
      have I2 := (at_ h2 fl2 up2).suite g2 f2 na nL nF
      refine store_ok (X := X.suite a ((a, o2) :: (X.pn ++ pins))) (v := .ref a) I2 hN hi (.inl hln) rfl (fun s3 I3 => ?_) (.inr hln)
      refine wpAny_mono ((sui a o2 cls d (X.pn ++ pins) z2 ⟨_, f2⟩).run [] s3 _ H _ I3 (yes rfl a na)) (fun way s4 at4 => ?_) fun _ _ z => False.elim z
      have off : ∀ {σ4 : L2.St} {H4 : Hp} {Q : Shared → Prop}, Inv (X.suite a ((a, o2) :: (X.pn ++ pins))) [] σ4 H4 s4 → (∀ s5, Inv X pins (σ4.set i none) H4 s5 → Q s5) →
          wpAny (model X.prog X.w) X.A (do bindName X.env n .none; unbindBehindTheSuite X.env n pos') (fun _ s5 => Q s5) X.xe s4 := fun I4 k => gone_ok (I4.unsuite ok) hN hi hln k
      match way, at4 with
      | .next, ⟨_, _, I4, q⟩ => exact off I4 fun _ I5 => ⟨_, _, I5, q⟩
      | .brk, ⟨_, _, I4, q⟩ => exact off I4 fun _ I5 => ⟨_, _, I5, q⟩
      | .cont, ⟨_, _, I4, q⟩ => exact off I4 fun _ I5 => ⟨_, _, I5, q⟩
      | .ret u, ⟨_, _, _, I4, r, q⟩ => exact off I4 fun _ I5 => ⟨_, _, _, I5, r, q⟩
theorem ps_try_ass {body : List Stmt} {h₀ : ExceptHandler} {hds : List ExceptHandler} {l : List (Value × SuiteT)} {pos : Pos} {tb : WX → TS} (hs : X.stack = X.env :: X.outer) (hf : X.env.frame = some X.env.locals)
    (hN : X.N.Nodup) (hi : X.N[i]? = some n) (hln : X.env.kindOf n = some .local)
    (hb : ∀ (W : WX) (pn : List (Addr × Obj)) (xe : Value → Shared → Prop), Takes (X.tr pn xe) W → PassesOwn (model X.prog X.w) X.A X.env xe → PSs (X.tr pn xe) body (tb W)) (hh : AsOk X n (h₀ :: hds) l) :
    PS X (.Try body (h₀ :: hds) [] [] pos) (fun D σ H => tb (wAll X.K i D l) D σ H) := by
  refine ⟨fun pins s σ H D I h => ?_⟩
  have fr : X.A.frames = some (X.env :: X.outer) := by rw [I.ok.frames, hs]
  refine wpAny_Try_except (wpAny_mono ((hb (wAll X.K i D l) (X.pn ++ pins) (fun e s1 => wpAny (model X.prog X.w) X.A (noteFrame e X.env) (fun _ s2 => wpAny (model X.prog X.w) X.A (setFlight e none)
    (fun _ s3 => wpAny (model X.prog X.w) X.A (handleBy e X.env (h₀ :: hds)) (SP X pins D) X.xe s3) X.xe s2) X.xe s1) (fun u s' xx => ?_) PassesOwn.looking).run [] s σ H D (I.toTry _) h) (fun way s1 at1 => ?_) fun _ _ z => z)
  · obtain ⟨a, B, sI, pins', σ', H', cls, d, rfl, J', nb, up, sky, na, os, ag, w⟩ := xx
    have J : Inv X pins σ' H' sI := J'.ofTry I.ok
    show wpAny (model X.prog X.w) X.A (noteFrame (.ref a) X.env) _ _ _
    refine Sky.land Zc.steady fr hf (by rw [← hs]; exact sky) fun h3 fl3 up3 => ?_
    exact clauses_as (s := { s' with heap := h3 }) I.ok hs hf hN hi hln na fl3 (fun h fl u4 => J.landed nb fl.1 ((up.trans up3).trans u4) os ag) hh w
  · match way, at1 with
    | .next, ⟨_, _, I1, q⟩ => exact wpAny_execs_nil ⟨_, _, I1.ofTry I.ok, q⟩
    | .brk, ⟨_, _, I1, q⟩ => exact ⟨_, _, I1.ofTry I.ok, q⟩
    | .cont, ⟨_, _, I1, q⟩ => exact ⟨_, _, I1.ofTry I.ok, q⟩
    | .ret u, ⟨_, _, _, I1, r, q⟩ => exact ⟨_, _, _, I1.ofTry I.ok, r, q⟩
end
end Pw

/-! except (A, B, C, D) as e; any thing in a list of texts; tuples of the very same things. -/
namespace Pw
open PySem PySem.Spec PyProof.Rows L2
/-! ### a clause that names four classes -/
theorem flyz_keeps {base h h' : Heap} {l : List Env} {e : Addr} {Z : Obj → Prop} (R : HandSPX.FlyingZ base l e Z h) (k : ∀ b o, h.get? b = some o → h'.get? b = some o) : HandSPX.FlyingZ base l e Z h' := by
  obtain ⟨f1, f2, f3, oe, vs, T, oT, ts, he, hz, hd, h1, hb, hne, hT, hdT, h3⟩ := R
  exact ⟨fun b o q => k b o (f1 b o q), f2, f3.of_keeps fun b o q _ => ⟨o, k b o q, rfl⟩, oe, vs, T, oT, ts, k _ _ he, hz, hd, h1, hb, hne, k _ _ hT, hdT, h3⟩
/-- what such a clause wishes: it is met -/
def wTup (K : PySem.W.Frag) (cs : List Value) (i : Nat) (ts : SuiteT) (D : Ends) : WX := fun cls d σ H =>
  PySem.W.exmAny K cls cs = some true ∧ ∀ a, H a = none → ts a cls d { nx := fun σ' H' => D.nx (σ'.set i none) H', rt := D.rt, bk := fun σ' H' => D.bk (σ'.set i none) H', ct := fun σ' H' => D.ct (σ'.set i none) H' } (σ.set i (some (.ref a))) H
def tTryT (K : PySem.W.Frag) (i : Nat) (cs : List Value) (ts : SuiteT) (tb : WX → TS) : TS := fun D σ H => tb (wTup K cs i ts D) D σ H
theorem ps_try_tup4 {X : Cx} {n x1 x2 x3 x4 : Str} {c1 c2 c3 c4 : Value} {i : Nat} {body suite : List Stmt} {b₀ : Stmt} {hds : List ExceptHandler} {p1 p2 p3 p4 tpos pos' pos : Pos} {kk : Nat} {tb : WX → TS} {ts : SuiteT} (hs : X.stack = X.env :: X.outer) (hf : X.env.frame = some X.env.locals)
    (hN : X.N.Nodup) (hi : X.N[i]? = some n) (hln : X.env.kindOf n = some .local)
    (hb : ∀ (W : WX) (pn : List (Addr × Obj)) (xe : Value → Shared → Prop), Takes (X.tr pn xe) W → PassesOwn (model X.prog X.w) X.A X.env xe → PSs (X.tr pn xe) body (tb W)) (n1 : Names X x1 c1) (n2 : Names X x2 c2) (n3 : Names X x3 c3) (n4 : Names X x4 c4)
    (sui : ∀ (a : Addr) (oe : Obj) (cls : Value) (d : Option Addr) (pn : List (Addr × Obj)), Zc cls d oe → (∃ vs, oe.data = .fields vs) → PSs (X.suite a ((a, oe) :: pn)) (b₀ :: suite) (ts a cls d)) :
    PS X (.Try body (.ExceptHandler (some (.Tuple [.Name x1 p1, .Name x2 p2, .Name x3 p3, .Name x4 p4] kk tpos)) (some n) (b₀ :: suite) pos' :: hds) [] [] pos) (tTryT X.K i [c1, c2, c3, c4] ts tb) := by
  refine ⟨fun pins s σ H D I h => ?_⟩
  have fr : X.A.frames = some (X.env :: X.outer) := by rw [I.ok.frames, hs]
  refine wpAny_Try_except (wpAny_mono ((hb (wTup X.K [c1, c2, c3, c4] i ts D) (X.pn ++ pins) (fun e s1 => wpAny (model X.prog X.w) X.A (noteFrame e X.env) (fun _ s2 => wpAny (model X.prog X.w) X.A (setFlight e none)
    (fun _ s3 => wpAny (model X.prog X.w) X.A (handleBy e X.env (.ExceptHandler (some (.Tuple [.Name x1 p1, .Name x2 p2, .Name x3 p3, .Name x4 p4] kk tpos)) (some n) (b₀ :: suite) pos' :: hds)) (SP X pins D) X.xe s3) X.xe s2) X.xe s1) (fun u s' xx => ?_) PassesOwn.looking).run [] s σ H D (I.toTry _) h) (fun way s1 at1 => ?_) fun _ _ z => z)
  · obtain ⟨a, B, sI, pins', σ', H', cls, d, rfl, J', nb, up, sky, na, os, ag, w⟩ := xx
    have J : Inv X pins σ' H' sI := J'.ofTry I.ok
    show wpAny (model X.prog X.w) X.A (noteFrame (.ref a) X.env) _ _ _
    refine Sky.land Zc.steady fr hf (by rw [← hs]; exact sky) fun h3 fl3 up3 => ?_
    have at_ : ∀ h, HandSPX.FlyingZ B (X.env :: X.outer) a (Zc cls d) h → h3.UpToSlots h → Inv X pins σ' H' { s' with heap := h } := fun h fl u4 => J.landed nb fl.1 ((up.trans up3).trans u4) os ag
    obtain ⟨eb, yes⟩ := w
    have J3 : Inv X pins σ' H' { s' with heap := h3 } := at_ _ fl3 (Heap.UpToSlots.refl _)
    obtain ⟨o1, v1, g1, z1, f1⟩ := fl3.there
    have nfr := no_frame fl3.2.2.1 g1 f1
    have nL : a ≠ X.env.locals := fun z => nfr (List.mem_filterMap.mpr ⟨X.env, List.mem_cons_self, by rw [hf, z]⟩)
    have nF : a ∉ X.fs := fun hm => by
      obtain ⟨e, he, q⟩ := List.mem_filterMap.mp hm
      exact nfr (List.mem_filterMap.mpr ⟨e, List.mem_cons_of_mem _ he, q⟩)
    have I1 := J3.suite g1 f1 na nL nF
    refine wpAny_handleBy_cons (codeAny_handlers_test ?_) (by intro q; cases q)
    have read : ∀ {x : Str} {c : Value} {np : Pos} {Q E : Value → Shared → Prop}, Names X x c → Q c { s' with heap := h3 } → wpAny (model X.prog X.w) (X.A.mark (some (.ref a))) (eval (.Name x np) X.env) Q E { s' with heap := h3 } := fun {x c np Q E} nm q => by
      rcases nm with ⟨hg, hd, hm | ⟨hm, hv, hn⟩⟩
      · exact ld_glob (X := X.suite a ((a, o1) :: (X.pn ++ pins))) I1 hg hm q hd
      · exact ld_blt (X := X.suite a ((a, o1) :: (X.pn ++ pins))) I1 hg hm hv q hn hd
    refine wpAny_Tuple ?_
    refine wpAny_items_cons (read n1 ?_)
    refine wpAny_items_cons (read n2 ?_)
    refine wpAny_items_cons (read n3 ?_)
    refine wpAny_items_cons (read n4 ?_)
    refine wpAny_items_nil ⟨by size_fits, ?_⟩
    have kp : ∀ q o, h3.get? q = some o → (h3.push { cls := .type "tuple", data := .seq [c1, c2, c3, c4].toArray }).get? q = some o := fun _ _ z => Heap.get?_push_of_some _ z
    have fl4 := flyz_keeps fl3 kp
    have up4 : h3.UpToSlots (h3.push { cls := .type "tuple", data := .seq [c1, c2, c3, c4].toArray }) := Heap.UpToSlots.of_keeps kp
    have J4 := at_ _ fl4 up4
    have g4 := kp _ _ g1
    have kind : PySem.W.Looks (model X.prog X.w) (h3.push { cls := .type "tuple", data := .seq [c1, c2, c3, c4].toArray }) (typeOf (.ref a)) cls := fun _ _ _ _ k q => wpAny_typeOf_ref (k _ _ g4) (by rw [z1.1]; exact q)
    refine ((PySem.W.exm_tup4 (M := model X.prog X.w) J4.kIn kind (Heap.get?_push_size h3 rfl) eb).here ?_)
    refine codeAny_handlers_suite_as (HandSPX.lands_againZ fl4 fun h2 fl2 up2 => ?_)
    obtain ⟨o2, v2, g2, z2, f2⟩ := fl2.there
    have I2 := (at_ h2 fl2 (up4.trans up2)).suite g2 f2 na nL nF
    refine store_ok (X := X.suite a ((a, o2) :: (X.pn ++ pins))) (v := .ref a) I2 hN hi (.inl hln) rfl (fun s3 I3 => ?_) (.inr hln)
    refine wpAny_mono ((sui a o2 cls d (X.pn ++ pins) z2 ⟨_, f2⟩).run [] s3 _ H' _ I3 (yes a na)) (fun way s4 at4 => ?_) fun _ _ z => False.elim z
    have off : ∀ {σ4 : L2.St} {H4 : Hp} {Q : Shared → Prop}, Inv (X.suite a ((a, o2) :: (X.pn ++ pins))) [] σ4 H4 s4 → (∀ s5, Inv X pins (σ4.set i none) H4 s5 → Q s5) →
        wpAny (model X.prog X.w) X.A (do bindName X.env n .none; unbindBehindTheSuite X.env n pos') (fun _ s5 => Q s5) X.xe s4 := fun I4 k => gone_ok (I4.unsuite I.ok) hN hi hln k
    match way, at4 with
    | .next, ⟨_, _, I4, q⟩ => exact off I4 fun _ I5 => ⟨_, _, I5, q⟩
    | .brk, ⟨_, _, I4, q⟩ => exact off I4 fun _ I5 => ⟨_, _, I5, q⟩
    | .cont, ⟨_, _, I4, q⟩ => exact off I4 fun _ I5 => ⟨_, _, I5, q⟩
    | .ret u, ⟨_, _, _, I4, r, q⟩ => exact off I4 fun _ I5 => ⟨_, _, _, I5, r, q⟩
  · match way, at1 with
    | .next, ⟨_, _, I1, q⟩ => exact wpAny_execs_nil ⟨_, _, I1.ofTry I.ok, q⟩
    | .brk, ⟨_, _, I1, q⟩ => exact ⟨_, _, I1.ofTry I.ok, q⟩
    | .cont, ⟨_, _, I1, q⟩ => exact ⟨_, _, I1.ofTry I.ok, q⟩
    | .ret u, ⟨_, _, _, I1, r, q⟩ => exact ⟨_, _, _, I1.ofTry I.ok, r, q⟩
/-! ### x in texts, whatever x is -/
section
variable {prog : Program} {w : World} {A : Around} {E : Value → Shared → Prop} {s : Shared}
theorem rc_str_dict {l : Addr} {es : Array DictEntry} {ep : Nat} {dd : Option Addr} {sl : Array (Option Value)} (b : Str) (u : Tok) (ho : s.heap.get? l = some { cls := .type "dict", dict := dd, data := .dict es ep, slots := sl }) (hu : A.units < cLine) : SeqAt.RcAt A s (.str b u) (.ref l) false := fun prog w E Q h => by
  exact SeqAt.rc_eq_decline_or (k := false) (typeIs_str s b u) ⟨_, ho, rfl⟩ (by decide) F.sub_dict_str F.slot_str_eq F.slot_dict_eq_refl
    (fun _ hq => call_meets F.slot_str_eq (typeIs_str s b u) F.entry_str_eq (F.args_str_eq_2 _ _) (str_eq_declines_dict b u l (.type "dict") es ep dd sl) ⟨ho, hq⟩)
    (fun _ hq => call_meets F.slot_dict_eq_refl ⟨_, ho, rfl⟩ F.entry_dict_eq (F.args_dict_eq_2 _ _) (dict_eq_declines_str l _ dd sl b u) ⟨ho, hq⟩)
    (fun _ hq => wpAny_of_eq (rfl : isSame (.str b u) (.ref l) = pure false) hq) (.inr hu) h
theorem eq_str_dict {l : Addr} {es : Array DictEntry} {ep : Nat} {dd : Option Addr} {sl : Array (Option Value)} (b : Str) (u : Tok) (ho : s.heap.get? l = some { cls := .type "dict", dict := dd, data := .dict es ep, slots := sl }) (hu : A.units < cLine) : SeqAt.EqAt A s (.str b u) (.ref l) false := fun prog w E Q h => by
  unfold eqBool
  refine wpAny_holding ?_
  refine wpAny_ite_split (fun hab => absurd (eq_of_beq hab) nofun) (fun _ => ?_)
  exact wpAny_bind (rc_str_dict b u ho hu prog w E _ (wpAny_truthy_bool h))
end
def inStrs (x : V) (ns : List Str) : Bool := match x with
  | .str s => decide (s ∈ ns)
  | _ => false
def rInS (K : PySem.W.Frag) : R2 := fun x y H Q => ∃ b ns t, y = .ref b ∧ SqL K H b ((ns : List Str).map V.str) ∧ Ty K H x t ∧ (∀ D, t ≠ .ref D) ∧ Q (.bl (inStrs x ns)) H
theorem strs_vals : ∀ {ns : List Str} {us : List Value}, Vals (ns.map V.str) us → ∀ u ∈ us, ∃ s k, u = .str s k
  | [], us, r, u, hu => by cases r; cases hu
  | n :: ns, us, r, u, hu => by
    cases r with
    | cons r1 r2 =>
      rcases List.mem_cons.mp hu with rfl | hu
      · obtain ⟨k, e⟩ := r1
        exact ⟨n, k, e⟩
      · exact strs_vals r2 u hu
def txt (v : Value) (s0 : Str) : Bool := match v with
  | .str s _ => s == s0
  | _ => false
theorem any_strs (s0 : Str) : ∀ {ns : List Str} {us : List Value}, Vals (ns.map V.str) us → us.any (fun v => txt v s0) = decide (s0 ∈ ns)
  | [], us, r => by cases r; rfl
  | n :: ns, us, r => by
    cases r with
    | cons r1 r2 =>
      obtain ⟨k, rfl⟩ := r1
      rw [List.any_cons, any_strs s0 r2]
      show (n == s0 || decide (s0 ∈ ns)) = decide (s0 ∈ n :: ns)
      by_cases h : n = s0
      · subst h
        simp
      · have h2 : ¬ s0 = n := fun z => h z.symm
        simp [h, h2]
theorem op_inS {X : Cx} (hu : X.A.units + 64 < cLine) : OpR X (compareOp .In) (rInS X.K) := by
  intro pins s σ H x y v u Q I rx ry h
  obtain ⟨b, ns, t, rfl, hb, ty, nt, q⟩ := h
  cases ry
  obtain ⟨its, r, p, _⟩ := I.list hb
  have hu1 : X.A.in1.units < cLine := by
    show X.A.units + 1 < cLine
    omega
  have go : ∀ e : Value → Bool, (∀ y ∈ its, SeqAt.EqAt X.A.in1 s y v (e y)) → its.any e = inStrs x ns → wpAny (model X.prog X.w) X.A (compareOp .In v (.ref b)) (fun v s' => ∃ x H', Inv X pins σ H' s' ∧ RelV x v ∧ Q x H') X.xe s := fun e he ea => by
    refine SeqAt.in_listAt e p.isList (fun y hy => he y (by simpa using hy)) ?_
    rw [List.any_toArray, ea]
    exact ⟨.bl _, H, I, rfl, q⟩
  have no : (∀ y ∈ its, SeqAt.EqAt X.A.in1 s y v false) → inStrs x ns = false → _ := fun he ei => go (fun _ => false) he (by rw [ei]; simp)
  cases ty with
  | non =>
    cases rx
    exact no (fun y hy => by obtain ⟨z, k, rfl⟩ := strs_vals r y hy; exact SeqAt.EqAt.str_none _ _) rfl
  | bl c =>
    cases rx
    exact no (fun y hy => by obtain ⟨z, k, rfl⟩ := strs_vals r y hy; exact SeqAt.EqAt.str_bool _ _ _) rfl
  | int i =>
    obtain ⟨k1, rfl⟩ := rx
    exact no (fun y hy => by obtain ⟨z, k, rfl⟩ := strs_vals r y hy; exact SeqAt.EqAt.str_int _ _ _ _) rfl
  | str s1 =>
    obtain ⟨k1, rfl⟩ := rx
    refine go (fun v => txt v s1) (fun y hy => ?_) (any_strs s1 r)
    obtain ⟨z, k, rfl⟩ := strs_vals r y hy
    exact SeqAt.EqAt.str_str _ _ _ _
  | lst e =>
    cases rx
    obtain ⟨ws, r2, ht, hz⟩ := I.list (SqL.of e)
    exact no (fun y hy => by obtain ⟨z, k, rfl⟩ := strs_vals r y hy; exact SeqAt.EqAt.str_list _ _ ht.isList hu1) rfl
  | tup e =>
    cases rx
    obtain ⟨ws, r2, ht, hz⟩ := I.tuple (SqT.of e)
    exact no (fun y hy => by obtain ⟨z, k, rfl⟩ := strs_vals r y hy; exact SeqAt.EqAt.str_tuple _ _ ht hu1) rfl
  | dct e =>
    cases rx
    obtain ⟨hz, hs0, vs, kv, ob, es, ep, ho, hc, hd, _⟩ := I.hok _ _ e
    obtain ⟨cls, dd, data, sl⟩ := ob
    simp only at hd
    have hcc : cls = .type "dict" := hc.1
    subst hcc hd
    exact no (fun y hy => by obtain ⟨z, k, rfl⟩ := strs_vals r y hy; exact eq_str_dict _ _ ho hu1) rfl
  | exc e ed c => exact absurd rfl (nt _)
/-! ### tuples of the very same things -/
def rEqI (K : PySem.W.Frag) : R2 := fun x y H Q => ∃ a b xs, x = .ref a ∧ y = .ref b ∧ SqT K H a xs ∧ SqT K H b xs ∧ (∀ v ∈ xs, ∃ q, v = .ref q) ∧ Q (.bl true) H
theorem refs_vals : ∀ {xs : List V} {us ws : List Value}, Vals xs us → Vals xs ws → (∀ v ∈ xs, ∃ q, v = .ref q) → us = ws
  | [], us, ws, r1, r2, _ => by cases r1; cases r2; rfl
  | x :: xs, us, ws, r1, r2, h => by
    cases r1 with
    | cons a1 b1 =>
      cases r2 with
      | cons a2 b2 =>
        obtain ⟨q, rfl⟩ := h x (by simp)
        cases a1
        cases a2
        rw [refs_vals b1 b2 fun v hv => h v (by simp [hv])]
theorem op_eqI {X : Cx} (hu : X.A.units + 64 < cLine) : OpR X (compareOp .Eq) (rEqI X.K) := by
  intro pins s σ H x y v u Q I rx ry h
  obtain ⟨a, b, xs, rfl, rfl, ha, hb, hr, q⟩ := h
  cases rx
  cases ry
  obtain ⟨us, r1, p1, _⟩ := I.tuple ha
  obtain ⟨ws, r2, p2, _⟩ := I.tuple hb
  obtain rfl := refs_vals r1 r2 hr
  refine SeqAt.RcAt.tuples (e := fun _ => true) p1 p2 (by omega) (fun j h1 h2 => SeqAt.EqAt.same _) X.prog X.w X.xe _ ?_
  have e : ((List.range (min us.toArray.size us.toArray.size)).all (fun _ => true) && us.toArray.size == us.toArray.size) = true := by simp
  rw [e]
  exact ⟨.bl _, H, I, rfl, q⟩
end Pw

/-! sorted of a list of tuples (int, int, text). -/
namespace Pw
open PySem PySem.Spec PyProof.Rows L2 SrtO
abbrev T3 := Int × Int × Str
def fT3 (r : T3) : List V := [.int r.1, .int r.2.1, .str r.2.2]
def lt3 (p q : T3) : Bool := if p.1 = q.1 then (if p.2.1 = q.2.1 then decide (p.2.2.cps.toList < q.2.2.cps.toList) else decide (p.2.1 < q.2.1)) else decide (p.1 < q.1)
theorem lt3_iff {p q : T3} : lt3 p q = true ↔ p.1 < q.1 ∨ (p.1 = q.1 ∧ (p.2.1 < q.2.1 ∨ (p.2.1 = q.2.1 ∧ p.2.2.cps.toList < q.2.2.cps.toList))) := by
  unfold lt3
  by_cases e : p.1 = q.1
  · rw [if_pos e]
    by_cases e2 : p.2.1 = q.2.1
    · rw [if_pos e2, decide_eq_true_eq]
      constructor
      · intro h
        exact .inr ⟨e, .inr ⟨e2, h⟩⟩
      · rintro (h | ⟨_, h | ⟨_, h⟩⟩)
        · omega
        · omega
        · exact h
    · rw [if_neg e2, decide_eq_true_eq]
      constructor
      · intro h
        exact .inr ⟨e, .inl h⟩
      · rintro (h | ⟨_, h | ⟨h, _⟩⟩)
        · omega
        · exact h
        · exact absurd h e2
  · rw [if_neg e, decide_eq_true_eq]
    constructor
    · intro h
      exact .inl h
    · rintro (h | ⟨h, _⟩)
      · exact h
      · exact absurd h e
theorem lt3_no {p q : T3} : lt3 p q = false ↔ ¬ (p.1 < q.1 ∨ (p.1 = q.1 ∧ (p.2.1 < q.2.1 ∨ (p.2.1 = q.2.1 ∧ p.2.2.cps.toList < q.2.2.cps.toList)))) := by
  rw [← lt3_iff]
  cases lt3 p q <;> simp
theorem swo3 {α : Type} (k : α → T3) : Swo fun v u => lt3 (k v) (k u) := by
  refine ⟨fun x y h => ?_, fun x y z h1 h2 => ?_⟩
  · have a := lt3_iff.mp h
    refine lt3_no.mpr ?_
    rintro (h | ⟨h0, h | ⟨h1, h⟩⟩)
    · omega
    · omega
    · rcases a with a | ⟨_, a | ⟨_, a⟩⟩
      · omega
      · omega
      · exact List.lt_asymm a h
  · have a := lt3_no.mp h1
    have b := lt3_no.mp h2
    refine lt3_no.mpr ?_
    have a1 : ¬ (k y).1 < (k x).1 := fun q => a (.inl q)
    have b1 : ¬ (k z).1 < (k y).1 := fun q => b (.inl q)
    have a2 : (k y).1 = (k x).1 → ¬ (k y).2.1 < (k x).2.1 := fun e q => a (.inr ⟨e, .inl q⟩)
    have b2 : (k z).1 = (k y).1 → ¬ (k z).2.1 < (k y).2.1 := fun e q => b (.inr ⟨e, .inl q⟩)
    have a3 : (k y).1 = (k x).1 → (k y).2.1 = (k x).2.1 → ¬ (k y).2.2.cps.toList < (k x).2.2.cps.toList := fun e e2 q => a (.inr ⟨e, .inr ⟨e2, q⟩⟩)
    have b3 : (k z).1 = (k y).1 → (k z).2.1 = (k y).2.1 → ¬ (k z).2.2.cps.toList < (k y).2.2.cps.toList := fun e e2 q => b (.inr ⟨e, .inr ⟨e2, q⟩⟩)
    rintro (h | ⟨h0, h | ⟨h1, h⟩⟩)
    · omega
    · have := a2 (by omega)
      have := b2 (by omega)
      omega
    · have := a2 (by omega)
      have := b2 (by omega)
      exact List.le_trans (List.not_lt.mp (a3 (by omega) (by omega))) (List.not_lt.mp (b3 (by omega) (by omega))) h
section
variable {prog : Program} {w : World} {A : Around} {E : Value → Shared → Prop} {s : Shared}
def IsTri (h : Heap) (v : Value) (k : T3) : Prop := ∃ a o t u z n, v = .ref a ∧ h.get? a = some o ∧ o.cls = .type "tuple" ∧ o.data = .seq #[.int k.1 t, .int k.2.1 u, .str k.2.2 z] n
theorem IsTri.keeps {h h' : Heap} {v : Value} {k : T3} (p : IsTri h v k) (kp : ∀ b o, h.get? b = some o → o.cls = .type "tuple" → h'.get? b = some o) : IsTri h' v k := by
  obtain ⟨a, o, t, u, z, n, e, ho, hc, hd⟩ := p
  exact ⟨a, o, t, u, z, n, e, kp _ _ ho hc, hc, hd⟩
theorem tri_cmp {vs : List Value} {k : Value → T3} (hp : ∀ v ∈ vs, IsTri s.heap v (k v)) : Cmp prog w A s (tuples' true) (fun p => p.1 ∈ vs) (lt2 fun v u => lt3 (k v) (k u)) := by
  intro p q hm hm'
  have h1 := hp _ hm
  have h2 := hp _ hm'
  show wpAny (model prog w) A (keyLt' (tuples' true) p.1 q.1) (fun r s' => s' = s ∧ r = lt3 (k p.1) (k q.1)) (fun _ _ => False) s
  generalize k p.1 = kp at h1 ⊢
  generalize k q.1 = kq at h2 ⊢
  obtain ⟨x, y, c⟩ := kp
  obtain ⟨x', y', c'⟩ := kq
  obtain ⟨a, o, t, u, z, n, e, ho, hc, hd⟩ := h1
  obtain ⟨a', o', t', u', z', n', e', ho', hc', hd'⟩ := h2
  rw [e, e']
  refine PySem.W.kat_lt ho hd ho' hd' ?_
  show PySem.W.KatLex prog w A true (decide (3 < 3)) _ [(.int x t, .int x' t'), (.int y u, .int y' u'), (.str c z, .str c' z')] 0 s
  have e0 : lt3 (x, y, c) (x', y', c') = if x = x' then (if y = y' then decide (c.cps.toList < c'.cps.toList) else decide (y < y')) else decide (x < x') := rfl
  rw [e0]
  refine PySem.W.kat_cons (SeqAt.EqAt.int_int x t x' t' prog w _ _ ?_)
  refine PySem.W.kat_go (fun e1 => ?_) (fun e1 => ?_)
  · have ex : x = x' := by simpa using e1
    rw [if_pos ex]
    refine PySem.W.kat_yes (PySem.W.kat_cons (SeqAt.EqAt.int_int y u y' u' prog w _ _ ?_))
    refine PySem.W.kat_go (fun e2 => ?_) (fun e2 => ?_)
    · have ey : y = y' := by simpa using e2
      rw [if_pos ey]
      refine PySem.W.kat_yes (PySem.W.kat_cons (SeqAt.EqAt.str_str c z c' z' prog w _ _ ?_))
      refine PySem.W.kat_go (fun e3 => ?_) (fun e3 => ?_)
      · have ec : c = c' := by simpa using e3
        refine PySem.W.kat_yes (PySem.W.kat_nil ⟨rfl, ?_⟩)
        rw [ec]
        exact (decide_eq_false (List.lt_irrefl _)).symm
      · exact PySem.W.kat_no (PySem.W.kat_one _ _ (PyProof.Rows.lt_str ⟨rfl, rfl⟩))
    · have ey : ¬ y = y' := by simpa using e2
      rw [if_neg ey]
      exact PySem.W.kat_no (PySem.W.kat_one _ _ (PyProof.Rows.lt_int ⟨rfl, rfl⟩))
  · have ex : ¬ x = x' := by simpa using e1
    rw [if_neg ex]
    exact PySem.W.kat_no (oneLt_int ⟨rfl, rfl⟩)
theorem firsts3 {h : Heap} {k : Value → T3} : ∀ {vs : List Value}, (∀ v ∈ vs, IsTri h v (k v)) → ∃ fs : List Value, PySem.W.KatTups h vs fs ∧ fs.length = vs.length ∧ ∀ f ∈ fs, ∃ x t, f = Value.int x t
  | [], _ => ⟨[], PySem.W.KatTups.nil, rfl, fun _ hm => by simp at hm⟩
  | v :: vs, hp => by
    obtain ⟨fs, h1, h2, h3⟩ := firsts3 (vs := vs) fun v' hm => hp v' (List.mem_cons_of_mem _ hm)
    obtain ⟨a, o, t, u, z, n, e, ho, hc, hd⟩ := hp v (List.mem_cons_self ..)
    generalize k v = kv at hd
    subst e
    refine ⟨.int kv.1 t :: fs, PySem.W.KatTups.cons ho hc hd rfl h1, by rw [List.length_cons, List.length_cons, h2], fun f hm => ?_⟩
    rcases List.mem_cons.mp hm with rfl | hm
    · exact ⟨_, t, rfl⟩
    · exact h3 f hm
theorem tris_sortable {a : Addr} {vs : List Value} {k : Value → T3} (h0 : 0 < vs.length) (hp : ∀ v ∈ vs, IsTri s.heap v (k v)) (ha : ∀ o, s.heap.get? a = some o → o.cls ≠ .type "tuple") : SortableO prog w A s a vs fun v u => lt3 (k v) (k u) := by
  intro h' keep
  have hp' : ∀ v ∈ vs, IsTri h' v (k v) := fun v hm => (hp v hm).keeps fun b o e c => keep b o (fun z => by subst z; exact ha o e c) e
  obtain ⟨fs, h1, h2, h3⟩ := firsts3 hp'
  refine ⟨tuples' true, fun Q E hq => ?_, tri_cmp hp'⟩
  refine PySem.W.kat_kind (T := .type "int") h1 (by omega) (fun f hm => ?_) (by rfl) ?_
  · obtain ⟨x, t, rfl⟩ := h3 f hm
    exact PySem.W.Looks.now
  · have e : (Value.type "int" != Value.type "tuple") = true := by first | decide +kernel | rfl | decide
    rw [e]
    exact hq
theorem sorted_tris {l : Addr} {vs : List Value} {k : Value → T3} {Q : Value → Shared → Prop} (hl : s.heap.IsList l vs.toArray) (hz : vs.length ≤ sizeLine) (hp : ∀ v ∈ vs, IsTri s.heap v (k v))
    (h : ∀ (h' : Heap) (d : Addr) (out : List Value), Srtd (fun v u => lt3 (k v) (k u)) out → Stb (fun v u => lt3 (k v) (k u)) out vs → (∀ b o, s.heap.get? b = some o → h'.get? b = some o) → s.heap.objs.size ≤ d → (∃ n, h'.get? d = some (seqObj "list" out.toArray n)) → Q (.ref d) { s with heap := h' }) :
    wpAny (model prog w) A (call (.builtin "sorted") [.ref l]) Q E s := by
  refine sorted_ord (swo3 k) hl hz (fun h2 h₁ a ha kk => ?_) fun out hs hb => ?_
  · refine tris_sortable (s := { s with heap := h₁ }) (by omega) (fun v hm => (hp v hm).keeps fun b o e _ => (kk b o e).2) fun o e => ?_
    have e' : some o = some (seqObj "list" vs.toArray 0) := e.symm.trans ha
    cases e'
    intro c
    exact absurd (Value.type.inj c) (by decide)
  · exact h _ _ out hs hb (fun b o e => sortedAll_old e) (Nat.le_succ _) (sortedAll_at s.heap vs out.toArray)
end
/-! ### the rule -/
/-- m is l in order -/
def Ord3 (l m : List T3) : Prop := Srtd lt3 m ∧ Stb lt3 m l
theorem ord3_uniq {l m1 m2 : List T3} (h1 : Ord3 l m1) (h2 : Ord3 l m2) : m1 = m2 :=
  stb_uniq (swo3 fun x : T3 => x) h1.1 h2.1 ⟨h1.2.perm.trans h2.2.perm.symm, fun x => (h1.2.cls x).trans (h2.2.cls x).symm⟩
/-- what stands at a tuple -/
def key3 (H : Hp) (v : V) : T3 := match v with
  | .ref t => (match H t with
    | some (.tup [.int a, .int b, .str c]) => (a, b, c)
    | _ => (0, 0, ""))
  | _ => (0, 0, "")
theorem key3_at {H : Hp} {t : Addr} {r : T3} (e : H t = some (.tup (fT3 r))) : key3 H (.ref t) = r := by
  unfold key3
  simp only [e, fT3]
theorem al_key {H : Hp} {xs : List V} {l : List T3} (h : Al fT3 H xs l) : xs.map (key3 H) = l := by
  induction h with
  | nil => rfl
  | cons e t ih => rw [List.map_cons, ih, key3_at e]
theorem al_of_key {H : Hp} : ∀ {ys : List V}, (∀ v ∈ ys, ∃ t r, v = .ref t ∧ H t = some (.tup (fT3 r))) → Al fT3 H ys (ys.map (key3 H))
  | [], _ => .nil
  | v :: ys, h => by
    obtain ⟨t, r, rfl, e⟩ := h v List.mem_cons_self
    rw [List.map_cons, key3_at e]
    exact .cons e (al_of_key fun u hu => h u (List.mem_cons_of_mem _ hu))
/-- sorted(xs), xs a list of tuples (int, int, text) -/
def rSort3 (K : PySem.W.Frag) : List V → Hp → VK → Prop := fun vs H Q => ∃ (a : Addr) (xs : List V) (l : List T3), vs = [V.ref a] ∧ SqL K H a xs ∧ Al fT3 H xs l ∧
  ∀ ys m p, Ord3 l m → Al fT3 H ys m → H p = none → Q (.ref p) (upd H p (.lst ys))
theorem cr_sorted3 {X : Cx} : CallR X (.builtin "sorted") (rSort3 X.K) := by
  intro pins s σ H vs us Q I r h
  obtain ⟨a, xs, l, rfl, hs, al, q⟩ := h
  obtain ⟨its, rv, hl, hz⟩ := I.list hs
  obtain ⟨u, rfl, ru⟩ := vals1 r
  obtain rfl : u = Value.ref a := ru
  have ats : ∀ x ∈ xs, ∃ t r, x = V.ref t ∧ H t = some (.tup (fT3 r)) := fun x hx => by
    obtain ⟨i, hi, e⟩ := List.getElem_of_mem hx
    obtain ⟨t, r, e1, _, e2⟩ := al.get (List.getElem?_eq_some_iff.mpr ⟨hi, e⟩)
    exact ⟨t, r, e1, e2⟩
  obtain ⟨e1, e2⟩ := refs_back rv fun x m => by
    obtain ⟨t, _, e, _⟩ := ats x m
    exact ⟨t, e⟩
  refine sorted_tris (k := fun u => key3 H (backV u)) hl.isList (by rw [← rv.length]; exact hz) (fun v hv => ?_) fun h' d out h1 h2 kp hd hn => ?_
  · obtain ⟨t, rfl⟩ := e2 v hv
    have hm : V.ref t ∈ xs := by rw [e1]; exact List.mem_map.mpr ⟨_, hv, rfl⟩
    obtain ⟨t', r, e, ht⟩ := ats _ hm
    cases e
    obtain ⟨_, its2, r2, o, ho, hc, n, hd⟩ := I.hok _ _ ht
    have ek : key3 H (backV (Value.ref t)) = r := key3_at ht
    cases r2 with
    | cons ra r2 =>
      cases r2 with
      | cons rb r2 =>
        cases r2 with
        | cons rc r2 =>
          cases r2
          obtain ⟨t1, rfl⟩ := ra
          obtain ⟨t2, rfl⟩ := rb
          obtain ⟨t3, rfl⟩ := rc
          show IsTri s.heap (.ref t) (key3 H (backV (Value.ref t)))
          rw [ek]
          exact ⟨t, o, t1, t2, t3, n, rfl, ho, hc, hd⟩
  · have h3 : ∀ u ∈ out, ∃ a, u = Value.ref a := fun u hu => e2 u (h2.perm.mem_iff.mp hu)
    obtain ⟨n, hn⟩ := hn
    have hb : Stb (fun x y => lt3 (key3 H x) (key3 H y)) (out.map backV) xs := by
      rw [e1]
      exact Stb.map (swo3 (key3 H)) backV h2
    have hsd : Srtd (fun x y => lt3 (key3 H x) (key3 H y)) (out.map backV) := srtd_map h1
    have al2 : Al fT3 H (out.map backV) ((out.map backV).map (key3 H)) := al_of_key fun v hv => ats v (hb.perm.mem_iff.mp hv)
    have ord : Ord3 l ((out.map backV).map (key3 H)) := by
      refine ⟨srtd_map hsd, ?_⟩
      have := Stb.map (swo3 fun x : T3 => x) (key3 H) hb
      rw [al_key al] at this
      exact this
    refine ⟨.ref d, upd H d (.lst (out.map backV)), I.laid (t' := s.toks) kp hd ⟨?_, out, n, vals_back h3, hn⟩, rfl, q _ _ d ord al2 (I.hok.fresh hd)⟩
    rw [hb.len]
    exact hz
end Pw

/-! sorted of a list of tuples (text, int). -/
namespace Pw
open PySem PySem.Spec PyProof.Rows L2 SrtO
abbrev TP := Str × Int
def fTP (r : TP) : List V := [.str r.1, .int r.2]
def ltp (p q : TP) : Bool := if p.1 = q.1 then decide (p.2 < q.2) else decide (p.1.cps.toList < q.1.cps.toList)
theorem str_of_cps {a b : Str} (h : a.cps.toList = b.cps.toList) : a = b := by
  cases a; cases b
  simp only [Str.mk.injEq]
  exact Array.toList_inj.mp h
theorem str_tri (a b : Str) : a.cps.toList < b.cps.toList ∨ a = b ∨ b.cps.toList < a.cps.toList := by
  by_cases h1 : a.cps.toList < b.cps.toList
  · exact .inl h1
  · by_cases h2 : b.cps.toList < a.cps.toList
    · exact .inr (.inr h2)
    · exact .inr (.inl (str_of_cps (List.le_antisymm (List.not_lt.mp h2) (List.not_lt.mp h1))))
theorem ltp_iff {p q : TP} : ltp p q = true ↔ p.1.cps.toList < q.1.cps.toList ∨ (p.1 = q.1 ∧ p.2 < q.2) := by
  unfold ltp
  by_cases e : p.1 = q.1
  · rw [if_pos e, decide_eq_true_eq, e]
    exact ⟨fun h => .inr ⟨rfl, h⟩, fun h => h.elim (fun z => absurd z (List.lt_irrefl _)) fun z => z.2⟩
  · rw [if_neg e, decide_eq_true_eq]
    exact ⟨fun h => .inl h, fun h => h.elim id fun z => absurd z.1 e⟩
theorem ltp_no {p q : TP} : ltp p q = false ↔ ¬ (p.1.cps.toList < q.1.cps.toList ∨ (p.1 = q.1 ∧ p.2 < q.2)) := by
  rw [← ltp_iff]
  cases ltp p q <;> simp
theorem swop {α : Type} (k : α → TP) : Swo fun v u => ltp (k v) (k u) := by
  refine ⟨fun x y h => ?_, fun x y z h1 h2 => ?_⟩
  · refine ltp_no.mpr ?_
    rcases ltp_iff.mp h with a | ⟨e, a⟩
    · rintro (b | ⟨e, _⟩)
      · exact List.lt_asymm a b
      · rw [e] at a; exact List.lt_irrefl _ a
    · rintro (b | ⟨_, b⟩)
      · rw [e] at b; exact List.lt_irrefl _ b
      · omega
  · have a := ltp_no.mp h1
    have b := ltp_no.mp h2
    refine ltp_no.mpr ?_
    have a1 : ¬ (k y).1.cps.toList < (k x).1.cps.toList := fun q => a (.inl q)
    have b1 : ¬ (k z).1.cps.toList < (k y).1.cps.toList := fun q => b (.inl q)
    rintro (c | ⟨e, c⟩)
    · exact List.le_trans (List.not_lt.mp a1) (List.not_lt.mp b1) c
    · rw [e] at b1
      have exy : (k x).1 = (k y).1 := str_of_cps (List.le_antisymm (List.not_lt.mp a1) (List.not_lt.mp b1))
      have a2 : ¬ (k y).2 < (k x).2 := fun q => a (.inr ⟨exy.symm, q⟩)
      have b2 : ¬ (k z).2 < (k y).2 := fun q => b (.inr ⟨e.trans exy, q⟩)
      omega
theorem eqvp {x y : TP} : eqv ltp x y = true ↔ x = y := by
  rw [eqv_iff]
  constructor
  · rintro ⟨h1, h2⟩
    have a := ltp_no.mp h1
    have b := ltp_no.mp h2
    have e1 : x.1 = y.1 := by
      rcases str_tri x.1 y.1 with h | h | h
      · exact absurd (.inl h) a
      · exact h
      · exact absurd (.inl h) b
    have a2 : ¬ x.2 < y.2 := fun q => a (.inr ⟨e1, q⟩)
    have b2 : ¬ y.2 < x.2 := fun q => b (.inr ⟨e1.symm, q⟩)
    exact Prod.ext e1 (by omega)
  · rintro rfl
    have := (swop fun z : TP => z).refl x
    exact ⟨this, this⟩
section
variable {prog : Program} {w : World} {A : Around} {E : Value → Shared → Prop} {s : Shared}
def IsTP (h : Heap) (v : Value) (k : TP) : Prop := ∃ a o t u n, v = .ref a ∧ h.get? a = some o ∧ o.cls = .type "tuple" ∧ o.data = .seq #[.str k.1 t, .int k.2 u] n
theorem IsTP.keeps {h h' : Heap} {v : Value} {k : TP} (p : IsTP h v k) (kp : ∀ b o, h.get? b = some o → o.cls = .type "tuple" → h'.get? b = some o) : IsTP h' v k := by
  obtain ⟨a, o, t, u, n, e, ho, hc, hd⟩ := p
  exact ⟨a, o, t, u, n, e, kp _ _ ho hc, hc, hd⟩
theorem tp_cmp {vs : List Value} {k : Value → TP} (hp : ∀ v ∈ vs, IsTP s.heap v (k v)) : Cmp prog w A s (tuples' true) (fun p => p.1 ∈ vs) (lt2 fun v u => ltp (k v) (k u)) := by
  intro p q hm hm'
  have h1 := hp _ hm
  have h2 := hp _ hm'
  show wpAny (model prog w) A (keyLt' (tuples' true) p.1 q.1) (fun r s' => s' = s ∧ r = ltp (k p.1) (k q.1)) (fun _ _ => False) s
  generalize k p.1 = kp at h1 ⊢
  generalize k q.1 = kq at h2 ⊢
  obtain ⟨x, y⟩ := kp
  obtain ⟨x', y'⟩ := kq
  obtain ⟨a, o, t, u, n, e, ho, hc, hd⟩ := h1
  obtain ⟨a', o', t', u', n', e', ho', hc', hd'⟩ := h2
  rw [e, e']
  refine PySem.W.kat_lt ho hd ho' hd' ?_
  show PySem.W.KatLex prog w A true (decide (2 < 2)) _ [(.str x t, .str x' t'), (.int y u, .int y' u')] 0 s
  have e0 : ltp (x, y) (x', y') = if x = x' then decide (y < y') else decide (x.cps.toList < x'.cps.toList) := rfl
  rw [e0]
  refine PySem.W.kat_cons (SeqAt.EqAt.str_str x t x' t' prog w _ _ ?_)
  refine PySem.W.kat_go (fun e1 => ?_) (fun e1 => ?_)
  · have ex : x = x' := by simpa using e1
    rw [if_pos ex]
    refine PySem.W.kat_yes (PySem.W.kat_cons (SeqAt.EqAt.int_int y u y' u' prog w _ _ ?_))
    refine PySem.W.kat_go (fun e2 => ?_) (fun e2 => ?_)
    · have ey : y = y' := by simpa using e2
      refine PySem.W.kat_yes (PySem.W.kat_nil ⟨rfl, ?_⟩)
      rw [ey]
      exact (decide_eq_false (Int.lt_irrefl _)).symm
    · exact PySem.W.kat_no (PySem.W.kat_one _ _ (PyProof.Rows.lt_int ⟨rfl, rfl⟩))
  · have ex : ¬ x = x' := by simpa using e1
    rw [if_neg ex]
    exact PySem.W.kat_no (oneLt_str ⟨rfl, rfl⟩)
theorem firstsP {h : Heap} {k : Value → TP} : ∀ {vs : List Value}, (∀ v ∈ vs, IsTP h v (k v)) → ∃ fs : List Value, PySem.W.KatTups h vs fs ∧ fs.length = vs.length ∧ ∀ f ∈ fs, ∃ x t, f = Value.str x t
  | [], _ => ⟨[], PySem.W.KatTups.nil, rfl, fun _ hm => by simp at hm⟩
  | v :: vs, hp => by
    obtain ⟨fs, h1, h2, h3⟩ := firstsP (vs := vs) fun v' hm => hp v' (List.mem_cons_of_mem _ hm)
    obtain ⟨a, o, t, u, n, e, ho, hc, hd⟩ := hp v (List.mem_cons_self ..)
    generalize k v = kv at hd
    subst e
    refine ⟨.str kv.1 t :: fs, PySem.W.KatTups.cons ho hc hd rfl h1, by rw [List.length_cons, List.length_cons, h2], fun f hm => ?_⟩
    rcases List.mem_cons.mp hm with rfl | hm
    · exact ⟨_, t, rfl⟩
    · exact h3 f hm
theorem tps_sortable {a : Addr} {vs : List Value} {k : Value → TP} (h0 : 0 < vs.length) (hp : ∀ v ∈ vs, IsTP s.heap v (k v)) (ha : ∀ o, s.heap.get? a = some o → o.cls ≠ .type "tuple") : SortableO prog w A s a vs fun v u => ltp (k v) (k u) := by
  intro h' keep
  have hp' : ∀ v ∈ vs, IsTP h' v (k v) := fun v hm => (hp v hm).keeps fun b o e c => keep b o (fun z => by subst z; exact ha o e c) e
  obtain ⟨fs, h1, h2, h3⟩ := firstsP hp'
  refine ⟨tuples' true, fun Q E hq => ?_, tp_cmp hp'⟩
  refine PySem.W.kat_kind (T := .type "str") h1 (by omega) (fun f hm => ?_) (by rfl) ?_
  · obtain ⟨x, t, rfl⟩ := h3 f hm
    exact PySem.W.Looks.now
  · have e : (Value.type "str" != Value.type "tuple") = true := by first | decide +kernel | rfl | decide
    rw [e]
    exact hq
theorem sorted_tps {l : Addr} {vs : List Value} {k : Value → TP} {Q : Value → Shared → Prop} (hl : s.heap.IsList l vs.toArray) (hz : vs.length ≤ sizeLine) (hp : ∀ v ∈ vs, IsTP s.heap v (k v))
    (h : ∀ (h' : Heap) (d : Addr) (out : List Value), Srtd (fun v u => ltp (k v) (k u)) out → Stb (fun v u => ltp (k v) (k u)) out vs → (∀ b o, s.heap.get? b = some o → h'.get? b = some o) → s.heap.objs.size ≤ d → (∃ n, h'.get? d = some (seqObj "list" out.toArray n)) → Q (.ref d) { s with heap := h' }) :
    wpAny (model prog w) A (call (.builtin "sorted") [.ref l]) Q E s := by
  refine sorted_ord (swop k) hl hz (fun h2 h₁ a ha kk => ?_) fun out hs hb => ?_
  · refine tps_sortable (s := { s with heap := h₁ }) (by omega) (fun v hm => (hp v hm).keeps fun b o e _ => (kk b o e).2) fun o e => ?_
    have e' : some o = some (seqObj "list" vs.toArray 0) := e.symm.trans ha
    cases e'
    intro c
    exact absurd (Value.type.inj c) (by decide)
  · exact h _ _ out hs hb (fun b o e => sortedAll_old e) (Nat.le_succ _) (sortedAll_at s.heap vs out.toArray)
end
/-! ### the rule -/
/-- m is l in order -/
def OrdP (l m : List TP) : Prop := Srtd ltp m ∧ Stb ltp m l
theorem ordP_uniq {l1 l2 m1 m2 : List TP} (h1 : OrdP l1 m1) (h2 : OrdP l2 m2) (p : l1.Perm l2) : m1 = m2 := by
  have hp := h1.2.perm.trans (p.trans h2.2.perm.symm)
  refine stb_uniq (swop fun x : TP => x) h1.1 h2.1 ⟨hp, fun x => ?_⟩
  have q := hp.filter (eqv ltp x)
  have e : m2.filter (eqv ltp x) = List.replicate (m2.filter (eqv ltp x)).length x := List.eq_replicate_of_mem fun y hy => (eqvp.mp (List.mem_filter.mp hy).2).symm
  rw [e] at q
  exact (List.perm_replicate.mp q).trans e.symm
def keyP (H : Hp) (v : V) : TP := match v with
  | .ref t => (match H t with
    | some (.tup [.str a, .int b]) => (a, b)
    | _ => ("", 0))
  | _ => ("", 0)
theorem keyP_at {H : Hp} {t : Addr} {r : TP} (e : H t = some (.tup (fTP r))) : keyP H (.ref t) = r := by
  unfold keyP
  simp only [e, fTP]
theorem al_keyP {H : Hp} {xs : List V} {l : List TP} (h : Al fTP H xs l) : xs.map (keyP H) = l := by
  induction h with
  | nil => rfl
  | cons e t ih => rw [List.map_cons, ih, keyP_at e]
theorem al_of_keyP {H : Hp} : ∀ {ys : List V}, (∀ v ∈ ys, ∃ t r, v = .ref t ∧ H t = some (.tup (fTP r))) → Al fTP H ys (ys.map (keyP H))
  | [], _ => .nil
  | v :: ys, h => by
    obtain ⟨t, r, rfl, e⟩ := h v List.mem_cons_self
    rw [List.map_cons, keyP_at e]
    exact .cons e (al_of_keyP fun u hu => h u (List.mem_cons_of_mem _ hu))
/-- sorted(xs), xs a list of tuples (text, int) -/
def rSortP (K : PySem.W.Frag) : List V → Hp → VK → Prop := fun vs H Q => ∃ (a : Addr) (xs : List V) (l : List TP), vs = [V.ref a] ∧ SqL K H a xs ∧ Al fTP H xs l ∧
  ∀ ys m p, OrdP l m → Al fTP H ys m → H p = none → Q (.ref p) (upd H p (.lst ys))
theorem cr_sortedPq {X : Cx} : CallR X (.builtin "sorted") (rSortP X.K) := by
  intro pins s σ H vs us Q I r h
  obtain ⟨a, xs, l, rfl, hs, al, q⟩ := h
  obtain ⟨its, rv, hl, hz⟩ := I.list hs
  obtain ⟨u, rfl, ru⟩ := vals1 r
  obtain rfl : u = Value.ref a := ru
  have ats : ∀ x ∈ xs, ∃ t r, x = V.ref t ∧ H t = some (.tup (fTP r)) := fun x hx => by
    obtain ⟨i, hi, e⟩ := List.getElem_of_mem hx
    obtain ⟨t, r, e1, _, e2⟩ := al.get (List.getElem?_eq_some_iff.mpr ⟨hi, e⟩)
    exact ⟨t, r, e1, e2⟩
  obtain ⟨e1, e2⟩ := refs_back rv fun x m => by
    obtain ⟨t, _, e, _⟩ := ats x m
    exact ⟨t, e⟩
  refine sorted_tps (k := fun u => keyP H (backV u)) hl.isList (by rw [← rv.length]; exact hz) (fun v hv => ?_) fun h' d out h1 h2 kp hd hn => ?_
  · obtain ⟨t, rfl⟩ := e2 v hv
    have hm : V.ref t ∈ xs := by rw [e1]; exact List.mem_map.mpr ⟨_, hv, rfl⟩
    obtain ⟨t', r, e, ht⟩ := ats _ hm
    cases e
    obtain ⟨_, its2, r2, o, ho, hc, n, hd⟩ := I.hok _ _ ht
    have ek : keyP H (backV (Value.ref t)) = r := keyP_at ht
    cases r2 with
    | cons ra r2 =>
      cases r2 with
      | cons rb r2 =>
        cases r2
        obtain ⟨t1, rfl⟩ := ra
        obtain ⟨t2, rfl⟩ := rb
        show IsTP s.heap (.ref t) (keyP H (backV (Value.ref t)))
        rw [ek]
        exact ⟨t, o, t1, t2, n, rfl, ho, hc, hd⟩
  · have h3 : ∀ u ∈ out, ∃ a, u = Value.ref a := fun u hu => e2 u (h2.perm.mem_iff.mp hu)
    obtain ⟨n, hn⟩ := hn
    have hb : Stb (fun x y => ltp (keyP H x) (keyP H y)) (out.map backV) xs := by
      rw [e1]
      exact Stb.map (swop (keyP H)) backV h2
    have hsd : Srtd (fun x y => ltp (keyP H x) (keyP H y)) (out.map backV) := srtd_map h1
    have al2 : Al fTP H (out.map backV) ((out.map backV).map (keyP H)) := al_of_keyP fun v hv => ats v (hb.perm.mem_iff.mp hv)
    have ord : OrdP l ((out.map backV).map (keyP H)) := by
      refine ⟨srtd_map hsd, ?_⟩
      have := Stb.map (swop fun x : TP => x) (keyP H) hb
      rw [al_keyP al] at this
      exact this
    refine ⟨.ref d, upd H d (.lst (out.map backV)), I.laid (t' := s.toks) kp hd ⟨?_, out, n, vals_back h3, hn⟩, rfl, q _ _ d ord al2 (I.hok.fresh hd)⟩
    rw [hb.len]
    exact hz
end Pw

/-! sorted of a dict with number keys, of any number. -/
namespace Pw
open PySem PySem.Spec PyProof.Rows L2
/-- what sorted(d) asks of a dict whose keys are numbers -/
def rSortD : List V → Hp → VK → Prop := fun xs H Q => ∃ (a : Addr) (kvs : List (Key × V)) (ks : List Int), xs = [.ref a] ∧ Rd H a (.dK kvs) ∧
  kvs.map Prod.fst = ks.map Sum.inl ∧ ks.length ≤ 1000000 ∧
  ∀ (ys : List Int) (p : Addr), ys.Perm ks → ys.Pairwise (· ≤ ·) → H p = none → Q (.ref p) (upd H p (.lst (ys.map V.int)))
theorem cr_sortD {X : Cx} (calm : X.calm = true) : CallR X (.builtin "sorted") rSortD := by
  intro pins st σ H xs us Q I rel0 hq
  obtain ⟨a, kvs, ks, rfl, hrd, hkeys, hsm, hq⟩ := hq
  have small : ks.length ≤ sizeLine := Nat.le_trans hsm (by decide)
  obtain ⟨u, rfl, ru⟩ := vals1 rel0
  obtain rfl : u = Value.ref a := ru
  obtain ⟨_, low, vs, rel, there⟩ := dk_rd I.hok hrd
  obtain ⟨ep, at_⟩ := there.dictAt
  have names : vs.map Prod.fst = ks.map Sum.inl := Eq.trans rel.keys.symm hkeys
  have many : vs.length = ks.length := by
    have := congrArg List.length names
    simpa using this
  refine Calls.call_function_entry PyProof.Rows.kind_sorted PyProof.Rows.plain_sorted
    PyProof.Rows.entry_sorted (PyProof.Rows.args_sorted1 _) ?_
  unfold Builtin.«sorted»
  refine wpAny_bind (m := checkCount "sorted" 1 1 _) (wpAny_pure (wpAny_bind ?_))
  refine PySem.W.kdu_collect (A := X.A.in1)
    (PySem.W.kdl_dict (knd := mixKind X.prog X.w) (kvs := vs) (ep := ep) low) (I.ok.hd calm) at_
    (by rw [many]; exact small) fun h1 tk got keep hgot => ?_
  have lgot : got.toList.length = ks.length := by
    rw [Array.length_toList, hgot.1]
    exact many
  have nums : IntsAre got.toList ks := by
    refine ints_each lgot fun j v ej => ?_
    obtain ⟨k, _, q1, q2⟩ := hgot.2 j v ((Array.getElem?_toList).symm.trans ej)
    have q3 : (ks.map (Sum.inl (β := Str)))[j]? = some k := by
      rw [← names, List.getElem?_map, q1]
      rfl
    rw [List.getElem?_map] at q3
    cases q4 : ks[j]? with
    | none => simp [q4] at q3
    | some y =>
      simp only [q4, Option.map_some, Option.some.injEq] at q3
      subst q3
      rcases keyIs_shape (show keyIs (Sum.inl y) v = true from q2) with ⟨i, t, ek, ev⟩ | ⟨_, _, ek, _⟩
      · cases ek
        exact ⟨_, t, rfl, ev⟩
      · cases ek
  have J : Inv X pins σ H { st with heap := h1, toks := tk } := I.kept keep
  have fits : got.toList.length ≤ sizeLine := by
    rw [lgot]
    exact small
  refine wpAny_bind (wpAny_newList ?_ fits)
  have laid_ : (h1.push (seqObj "list" got.toList.toArray 0)).get? h1.objs.size =
    some (seqObj "list" got.toList.toArray 0) := Heap.get?_push_size _ rfl
  show wpAny _ _ _ _ _
    { st with heap := h1.push (seqObj "list" got.toList.toArray 0), toks := tk }
  refine wpAny_bind (wpAny_holding (wpAny_call_entry PyProof.Rows.slot_list_sort
    ⟨_, laid_, rfl⟩ PyProof.Rows.entry_list_sort ?_ (PyProof.Rows.args_list_sort _)))
  refine SrtO.list_sort_ord SrtO.swo_int laid_ fits (fun h2 => SrtO.ints_sortable nums h2)
    fun out g1 g2 => ⟨_, rfl, ?_⟩
  obtain ⟨z1, z2, z3⟩ := SrtO.ints_out nums g1 g2
  obtain ⟨e', at'⟩ := PyProof.Rows.sortedHeap_at (vs := got.toList) (out := out.toArray) laid_
  have fits2 : ((out.map SrtO.iv).map V.int).length ≤ sizeLine := by
    rw [List.length_map, z2.length_eq]
    exact small
  refine wpAny_pure ⟨_, rfl, .ref h1.objs.size, upd H h1.objs.size (.lst ((out.map SrtO.iv).map V.int)), ?_, rfl, ?_⟩
  · refine J.laid (t' := tk) (fun b u e => ?_) (Nat.le_refl _) ⟨fits2, out, e', vals_of_ints z1, at'⟩
    have lt : b < h1.objs.size := Heap.lt_size e
    refine (PyProof.Rows.sortedHeap_old (Nat.ne_of_lt lt) ?_).trans (Heap.get?_push_of_some _ e)
    rw [size_push']
    exact Nat.lt_succ_of_lt lt
  · exact hq _ _ z2 z3 (J.hok.fresh (Nat.le_refl _))
end Pw

set_option maxHeartbeats 8000000
/-! A dict comprehension whose keys are tuples. -/
namespace Pw
open PySem PySem.Spec PyProof.Rows L2
/-- dictSet with a tuple as the key -/
theorem dT_put {X : Cx} {pins : List (Addr × Obj)} {σ : L2.St} {H : Hp} {s : Shared} {E : Value → Shared → Prop} {D b : Addr} {kvs : TK} {k : List Key} {v : V} {r : Value} {Q : Unit → Shared → Prop} (hu : X.A.units + 1 < cLine) (I : Inv X pins σ H s)
    (eD : H D = some (.dT kvs)) (eb : H b = some (.tup (k.map kV))) (small : kvs.length < sizeLine) (rv : RelV v r) (go : ∀ s', Inv X pins σ (upd H D (.dT (putK kvs k v))) s' → Q () s') :
    wpAny (model X.prog X.w) X.A (dictSet D (.ref b) r) Q E s := by
  obtain ⟨_, nsys, xs, rel, isD⟩ := dt_of I.hok eD
  have few : xs.length ≤ sizeLine := by
    have := Paired.length rel
    omega
  have more := length_putK kvs k v
  refine wpAny_dictSet_heap (hsz := few) (show (tupleKind (mixKind X.prog X.w)).room X.A from (by show X.A.units < cLine; omega)) (key_of I.hok eb) isD fun hp isD' but => go _ ?_
  obtain ⟨o, es, ep, ho, r1, r2, r3, _, r5⟩ := isD'
  have stay : ∀ c ys, H c = some (.tup ys) → upd H D (.dT (putK kvs k v)) c = some (.tup ys) := fun c ys ec => by
    by_cases z : c = D
    · rw [z, eD] at ec
      cases ec
    · rw [upd_ne z]
      exact ec
  exact d_write I (by rw [eD]; exact True.intro) but ⟨o, ho⟩ ⟨by omega, nsys, _, (rel.put k eb rv).keeps stay, o, es, ep, ho, r1, r2, r3, r5⟩
/-- {k: v for target in iter if ..}, keys tuples of ints and texts: D the new dict -/
def tDcT (wi : TI) (g : TG) (tt : L2.TT) (tk tv : TE) (vs : List Nat) : TE := fun σ H Q => wi σ H fun J H1 => ∀ D, H1 D = none →
  ∃ W : Nat → Nat → Hp → Prop, (∃ m, W 0 m (upd H1 D (.dT []))) ∧ ∀ i m G, W i m G → (J.stop i G ∧ Q (.ref D) G) ∨ (J.go i G ∧ ∃ Nx : Hp → Prop, (∀ G', Nx G' → ∃ m', m' < m ∧ W (i + 1) m' G') ∧
    ∀ x G', J.yld i G x G' → g x (wipe σ vs) G' fun τ G2 => wipe τ vs = wipe σ vs ∧ tt τ G2 fun c G3 => if c = true then tk τ G3 fun y G4 => tv τ G4 fun z G5 =>
      ∃ kvs k b, y = .ref b ∧ G5 b = some (.tup (k.map kV)) ∧ G5 D = some (.dT kvs) ∧ kvs.length < sizeLine ∧ Nx (upd G5 D (.dT (putK kvs k z))) else Nx G3)
section
variable {X : Cx}
theorem pe_dcT {kx vx tg iter : Expr} {ifs : List Expr} {scope : Scope} {own : List (Str × Nat)} {pos : Pos} {wi : TI} {g : TG} {tt : L2.TT} {tk tv : TE} (hu : X.A.units + 1 < cLine) (hc : X.calm = true) (nd : X.N.Nodup) (pi : PI X tg iter wi) (bk : BlkOk X.N X.env.scope scope own)
    (fg : ∀ (s : Shared) (H : Hp) (C : Addr) (cl : List (Str × Addr)) (fp : List Addr), PG (X.blk s H scope (compEnvC scope cl C X.env) fp) tg g)
    (ft : ∀ (s : Shared) (H : Hp) (C : Addr) (cl : List (Str × Addr)) (fp : List Addr), PTs (X.blk s H scope (compEnvC scope cl C X.env) fp) ifs tt)
    (fk : ∀ (s : Shared) (H : Hp) (C : Addr) (cl : List (Str × Addr)) (fp : List Addr), PE (X.blk s H scope (compEnvC scope cl C X.env) fp) kx tk)
    (fv : ∀ (s : Shared) (H : Hp) (C : Addr) (cl : List (Str × Addr)) (fp : List Addr), PE (X.blk s H scope (compEnvC scope cl C X.env) fp) vx tv)
    (fold : ∀ x, foldedSetIterable iter X.env x = pure x := by intro _; rfl) : PE X (.DictComp kx vx [⟨tg, iter, ifs, 0⟩] scope pos) (tDcT wi g tt tk tv (own.map (·.2))) := by
  refine ⟨fun pins s σ H Q I want => ?_⟩
  rw [arm_eval_DictComp]
  have cells : ∀ y ∈ scope.names, y.2 = .free → ∃ c, X.env.cells.lookup y.1 = some c := fun y hy e => by
    rcases bk.free y hy e with z | z <;> exact I.ok.has _ (by first | exact .inl z | exact .inr z)
  refine wpAny_comprehension_free rfl fold (closure_ok cells) bk.kind (fun y hy e => by rw [bk.uniq y hy, e]) (thn (pi.run pins s σ H _ I want) fun xv sa ha => thn ha fun itv sb hb => ?_)
  obtain ⟨it, fp, tn, J, Hb, rfl, Ib, Tn, at0, fpOk, dict⟩ := hb
  -- the new dict
  refine wpAny_newObj_type (newEnv_comp ?_)
  generalize eD : sb.heap.objs.size = D
  have freeD : Hb D = none := Ib.hok.fresh (Nat.le_of_eq eD)
  obtain ⟨W, ⟨m0, start⟩, each⟩ := dict D freeD
  have below : ∀ b ∈ fp, b < sb.heap.objs.size := fun b hb => by
    obtain ⟨_, e, _⟩ := Tn.obj _ _ at0 b hb
    exact Heap.lt_size e
  have pushed : ∀ b o, sb.heap.get? b = some o → (sb.heap.push { cls := .type "dict", data := .dict #[] }).get? b = some o := fun b o e => Heap.get?_push_of_some _ e
  generalize ec : ({ sb with heap := sb.heap.push { cls := .type "dict", data := .dict #[] } } : Shared) = sc
  have hsc : sc.heap = sb.heap.push { cls := .type "dict", data := .dict #[] } := by rw [← ec]
  have Ic : Inv X pins σ (upd Hb D (.dT [])) sc := by
    rw [← ec]
    exact Ib.laid (t' := sb.toks) pushed (Nat.le_of_eq eD) (by rw [← eD]; exact dt_empty sb.heap Ib.big)
  have fpc : ∀ b ∈ fp, FpOk X pins (upd Hb D (.dT [])) b ∧ b < sc.heap.objs.size := fun b hb => by
    have lt := below b hb
    have ne : b ≠ D := by rw [← eD]; exact Nat.ne_of_lt lt
    exact ⟨⟨(upd_ne ne).trans (fpOk b hb).1, (fpOk b hb).2⟩, by rw [hsc, Heap.size_push]; exact Nat.lt_succ_of_lt lt⟩
  have atc : tn 0 sc.heap := Tn.keep _ _ _ at0 fun b _ o e => by rw [hsc]; exact pushed b o e
  have Ie := block_start Ic bk nd fpc
  generalize hcl : cellsFrom (sc.heap.objs.size + 1) scope.names (cloFrom X.env.cells scope.names []) = cl at Ie
  have g1 := fg sc (upd Hb D (.dT [])) sc.heap.objs.size cl fp
  have g2 := ft sc (upd Hb D (.dT [])) sc.heap.objs.size cl fp
  have g3 := fk sc (upd Hb D (.dT [])) sc.heap.objs.size cl fp
  have g4 := fv sc (upd Hb D (.dT [])) sc.heap.objs.size cl fp
  have no : ∀ b ∈ fp, upd Hb D (.dT []) b = none := fun b hb => (fpc b hb).1.1
  show codeAny _ _ (.compStart _ 0 (.ref it) (.ref D) (compEnvC scope cl sc.heap.objs.size X.env)) (compPost (model X.prog X.w) X.A X.xe none (EP X pins σ Q) (.ref D) sc.heap.objs.size) _
  have cenv : (compEnvC scope cl sc.heap.objs.size X.env).locals = sc.heap.objs.size := rfl
  generalize compEnvC scope cl sc.heap.objs.size X.env = ce at *
  generalize upd Hb D (.dT []) = Hc at *
  generalize es : ({ sc with heap := pushCells (sc.heap.push { cls := .type "dict", data := .dict #[] }) scope.names } : Shared) = se at Ie ⊢
  have ate : tn 0 se.heap := Tn.keep _ _ _ atc fun b _ o e => by rw [← es]; exact pushCells_keeps _ _ _ _ (Heap.get?_push_of_some _ e)
  -- what the iterator lies on is pinned
  have lain : ∀ {τ : L2.St} {G : Hp} {t : Shared}, Inv (X.blk sc Hc scope ce fp) [] τ G t → (∀ b ∈ fp, G b = none) → ∀ b ∈ fp, FpOk (X.blk sc Hc scope ce fp) [] G b := fun {_ _ _} It none b hb =>
    ⟨none b hb, (It.ok.exf b hb).1, It.ok.exfs b hb, .inl hb, fun x c e => (It.ok.exf b hb).2 x c e, fun p hp => by simp at hp⟩
  let St : Nat → Shared → Prop := fun n t => ∃ i G, W i n G ∧ tn i t.heap ∧ (∀ b ∈ fp, G b = none) ∧ Inv (X.blk sc Hc scope ce fp) [] (wipe σ (own.map (·.2))) G t
  have body : codeAny (model X.prog X.w) X.A (.compLoop (.DictComp kx vx [⟨tg, iter, ifs, 0⟩] scope pos) 0 (.ref it) (.ref D) ce) (compPost (model X.prog X.w) X.A X.xe none (EP X pins σ Q) (.ref D) sc.heap.objs.size) se := by
    refine compLoop_anyD St (fun n t ⟨i, G, w, at1, no1, It⟩ => ?_) m0 ⟨0, Hc, start, ate, no, Ie⟩
    rcases each i n G w with ⟨stop, last⟩ | ⟨goes, Nx, next, turn⟩
    · refine thnF (Tn.done (X.blk sc Hc scope ce fp) rfl rfl rfl hc i [] t _ G (fun _ _ => False) It (lain It no1) at1 stop) fun r u ⟨er, Iu⟩ => ?_
      subst er
      have Io : Inv X pins σ G u := Ic.call' (ch := fp) Iu.os Iu.base Iu.hok Iu.bare fun b hb => let f := (fpc b hb).1.2; ⟨f.2.2.1, f.1, f.2.2.2.1, f.2.2.2.2⟩
      have gone : G ce.locals = none := Iu.free
      obtain ⟨m, ns, _⟩ := Iu.loc
      have ns' : u.heap.Ns ce.locals m := ns
      rw [cenv] at gone ns'
      refine ⟨m, ns', fun h'' sb' => ?_⟩
      obtain ⟨f0, f1, f2, f3, f4, f5⟩ := Ic.fpOk (Nat.le_refl _) gone
      exact ⟨.ref D, G, Io.turned (t' := u.toks) (fun b o hb e => (sb'.2 b hb).trans e) f0 f1 f3 f4 f5, rfl, last⟩
    · refine thnF (Tn.item (X.blk sc Hc scope ce fp) rfl rfl rfl hc i [] t _ G (fun _ _ => False) It (lain It no1) at1 goes) fun r u ⟨v, er, next1⟩ => ?_
      subst er
      refine thnF next1 fun _ u ⟨x, G', Iu, rx, yld, at2, no2⟩ => ?_
      refine thnF (g1.run _ u _ G' x v _ (Iu.pinned (lain Iu no2) (Tn.obj _ _ at2)) rx (turn x G' yld)) fun _ u2 ⟨τ, G2, I2, same, q2⟩ => ?_
      refine thnF (g2.run _ u2 τ G2 _ I2 q2) fun c u3 ⟨G3, I3, q3⟩ => ?_
      have back : ∀ {t' : Shared} {G' : Hp}, Inv (X.blk sc Hc scope ce fp) ([] ++ pinsAt fp u.heap) τ G' t' → Nx G' → ∃ m, m < n ∧ St m t' := fun {t' G'} I' nx => by
        obtain ⟨m', less, w'⟩ := next G' nx
        have pinned : ∀ b ∈ fp, ∀ o, u.heap.get? b = some o → t'.heap.get? b = some o ∧ G' b = none := fun b hb o e => by
          have z := I'.pin (b, o) (List.mem_append_right _ (List.mem_append_right _ (mem_pinsAt hb e)))
          exact ⟨z.1, z.2.1⟩
        refine ⟨m', less, i + 1, G', w', Tn.keep _ _ _ at2 fun b hb o e => (pinned b hb o e).1, fun b hb => ?_, (I'.unpinned (pins := [])).weak ?_ fun j v e => ?_⟩
        · obtain ⟨o, e, _⟩ := Tn.obj _ _ at2 b hb
          exact (pinned b hb o e).2
        · have := congrArg List.length same
          rw [wipe_length] at this
          exact this.symm
        · rw [← same] at e
          exact (wipe_some e).1
      cases c with
      | false =>
        simp only [Bool.false_eq_true, if_false] at q3
        exact back I3 q3
      | true =>
        have q3' := q3
        simp only [if_true] at q3'
        refine thnF (g3.run _ u3 τ G3 _ I3 q3') fun kv u4 ⟨y, G4, I4, ry, q4⟩ => ?_
        refine thnF (g4.run _ u4 τ G4 _ I4 q4) fun vv u5 ⟨z, G5, I5, rz, kvs, k, b, ey, eb, eD5, few, nx⟩ => ?_
        subst ey
        obtain rfl : kv = Value.ref b := ry
        exact dT_put (X := X.blk sc Hc scope ce fp) hu I5 eD5 eb few rz fun u6 I6 => back I6 nx
  exact codeAny_compStart_dict body (Tn.self X.A 0 _ _ _ ate body)
end
end Pw
namespace Pw
open PySem PySem.Spec PyProof.Rows L2
section
variable {J : It} {n : Nat} {G : Hp → Prop} {Y : Nat → Hp → V → Hp → Prop} {g : TG} {tt : L2.TT} {tk tv : TE} {vs : List Nat} {σ : L2.St} {H1 : Hp} {D : Addr} {Qd : Hp → Prop}
/-- over any walk, all but the dict staying: R i d H, d the dict behind i turns -/
theorem dcT_acc (w : Walk J n G Y) (nD : H1 D = none) (hn : n ≤ 1000000) (R : Nat → TK → Hp → Prop) (r0 : R 0 [] H1) (hG : ∀ H, Same H1 H → G H)
    (step : ∀ i x H H' d, i < n → Same H1 H → H D = some (.dT d) → d.length ≤ i → R i d (wo H D) → Y i H x H' → ∀ (Fy : V → V → Hp → Prop) (Fn : Hp → Prop),
      (∀ k b z H5, Same H H5 → H5 b = some (.tup (k.map kV)) → R (i + 1) (putK d k z) (wo H5 D) → Fy (.ref b) z H5) → (∀ H3, Same H H3 → R (i + 1) d (wo H3 D) → Fn H3) →
      g x (wipe σ vs) H' fun τ H2 => wipe τ vs = wipe σ vs ∧ tt τ H2 fun c H3 => if c = true then tk τ H3 fun y H4 => tv τ H4 fun z H5 => Fy y z H5 else Fn H3)
    (fin : ∀ H d, Same H1 H → H D = some (.dT d) → R n d (wo H D) → Qd H) :
    ∃ W : Nat → Nat → Hp → Prop, (∃ m, W 0 m (upd H1 D (.dT []))) ∧ ∀ i m H, W i m H → (J.stop i H ∧ Qd H) ∨ (J.go i H ∧ ∃ Nx : Hp → Prop, (∀ H', Nx H' → ∃ m', m' < m ∧ W (i + 1) m' H') ∧
      ∀ x H', J.yld i H x H' → g x (wipe σ vs) H' fun τ H2 => wipe τ vs = wipe σ vs ∧ tt τ H2 fun c H3 => if c = true then tk τ H3 fun y H4 => tv τ H4 fun z H5 =>
        ∃ kvs k b, y = .ref b ∧ H5 b = some (.tup (k.map kV)) ∧ H5 D = some (.dT kvs) ∧ kvs.length < sizeLine ∧ Nx (upd H5 D (.dT (putK kvs k z))) else Nx H3) := by
  have big : 1000000 < sizeLine := by decide
  let P : Nat → Hp → Prop := fun i H => Same H1 H ∧ ∃ d, H D = some (.dT d) ∧ d.length ≤ i ∧ R i d (wo H D)
  refine ⟨fun i m H => i + m = n ∧ P i H, ⟨n, Nat.zero_add n, Same.laid nD, [], upd_same, Nat.le_refl _, by rw [wo_upd, wo_none nD]; exact r0⟩, ?_⟩
  rintro i m H ⟨him, S, d, eD, dl, r⟩
  cases m with
  | zero =>
    obtain rfl : i = n := him
    exact .inl ⟨w.stops H (hG H S), fin H d S eD r⟩
  | succ m =>
    have lt : i < n := by omega
    refine .inr ⟨w.goes i H lt (hG H S), P (i + 1), fun H' p => ⟨m, Nat.lt_succ_self m, by omega, p⟩, fun x H' y => ?_⟩
    refine step i x H H' d lt S eD dl r (w.yields i H x H' lt (hG H S) y) (fun y z H5 => ∃ kvs k b, y = .ref b ∧ H5 b = some (.tup (k.map kV)) ∧ H5 D = some (.dT kvs) ∧ kvs.length < sizeLine ∧ P (i + 1) (upd H5 D (.dT (putK kvs k z)))) (P (i + 1)) (fun k b z H5 S5 eb r5 => ?_) fun H3 S3 r3 => ?_
    · have more := length_putK d k z
      exact ⟨d, k, b, rfl, eb, S5 _ _ eD, by omega, Same.wo_upd (S.trans S5) nD, _, upd_same, by omega, by rw [wo_upd]; exact r5⟩
    · exact ⟨S.trans S3, d, S3 _ _ eD, by omega, r3⟩
end
end Pw

/-! sorted of a dict whose keys are tuples (text, int). -/
namespace Pw
open PySem PySem.Spec PyProof.Rows L2 SrtO
def kTP (r : TP) : List Key := [.inr r.1, .inl r.2]
theorem kTP_map (r : TP) : (kTP r).map kV = fTP r := rfl
/-- what sorted(d) asks of a dict whose keys are tuples (text, int) -/
def rSortT : List V → Hp → VK → Prop := fun xs H Q => ∃ (a : Addr) (kvs : TK) (l : List TP), xs = [.ref a] ∧ Rd H a (.dT kvs) ∧
  kvs.map Prod.fst = l.map kTP ∧
  ∀ (ys : List V) (m : List TP) (p : Addr), OrdP l m → Al fTP H ys m → H p = none → Q (.ref p) (upd H p (.lst ys))
theorem al_of_isKeys {H : Hp} : ∀ {kvs : TK} {bs : List Addr} {l : List TP}, IsKeys H kvs bs → kvs.map Prod.fst = l.map kTP → Al fTP H (bs.map V.ref) l
  | [], _, [], .nil, _ => .nil
  | [], _, _ :: _, .nil, e => by simp at e
  | kv :: kvs, _, [], .cons _ _, e => by simp at e
  | kv :: kvs, _, r :: l, .cons (b := b) h t, e => by
    have e1 : kv.1 = kTP r := by simpa using (List.cons.inj e).1
    have e2 : kvs.map Prod.fst = l.map kTP := (List.cons.inj e).2
    refine .cons ?_ (al_of_isKeys t e2)
    rw [h, e1, kTP_map]
theorem cr_sortedT {X : Cx} (calm : X.calm = true) : CallR X (.builtin "sorted") rSortT := by
  intro pins s σ H xs us Q I rel0 hq
  obtain ⟨a, kvs, l, rfl, hrd, hkeys, q⟩ := hq
  obtain ⟨u, rfl, ru⟩ := vals1 rel0
  obtain rfl : u = Value.ref a := ru
  obtain ⟨z, hs, ks, pr, o, es, ep, ho, hx, hdt, he, hn⟩ := (show ObjOk X.prog X.w H s.heap a (.dT kvs) from hrd.ok I.hok)
  have l1 : es.size = ks.length := size_of_entries he
  have l2 : kvs.length = ks.length := Paired.length pr
  have al := al_of_isKeys (isKeys_of pr) hkeys
  refine Calls.call_function_entry PyProof.Rows.kind_sorted PyProof.Rows.plain_sorted
    PyProof.Rows.entry_sorted (PyProof.Rows.args_sorted1 _) ?_
  unfold Builtin.«sorted»
  refine wpAny_bind (m := checkCount "sorted" 1 1 _) (wpAny_pure (wpAny_bind ?_))
  refine PySem.W.kdu_collect (A := X.A.in1) (kdl_raw hs hx hdt) (I.ok.hd calm) ho (by omega) fun h1 tk got keep it => ?_
  have ea : got.toList = ks.map fun x => Value.ref x.2.1 := by
    have hl : got.toList.length = ks.length := by rw [Array.length_toList, it.1]; exact l1
    apply List.ext_getElem?
    intro j
    rw [List.getElem?_map]
    cases hj : got.toList[j]? with
    | none =>
      have h1 := List.getElem?_eq_none_iff.mp hj
      rw [List.getElem?_eq_none (by omega)]
      all_goals rfl
    | some v =>
      obtain ⟨en, hen, hv⟩ := it.2 j v (by rw [← Array.getElem?_toList]; exact hj)
      have qe := entry_at he j
      rw [hen] at qe
      cases hb : ks[j]? with
      | none =>
        rw [hb] at qe
        exact nomatch (show some en = none from qe)
      | some b =>
        rw [hb] at qe
        have e2 : en = entryOfKey (tupleKind (mixKind X.prog X.w)) b := Option.some.inj qe
        rw [hv, e2]
        all_goals rfl
  have eb : got.toList = (ks.map fun x => x.2.1).map Value.ref := by rw [ea, List.map_map]; all_goals rfl
  generalize ks.map (fun x => x.2.1) = bs at al eb
  have lb : bs.length = ks.length := by
    have := congrArg List.length eb
    rw [ea] at this
    simpa using this.symm
  have J : Inv X pins σ H { s with heap := h1, toks := tk } := I.kept keep
  have fits : got.toList.length ≤ sizeLine := by
    rw [eb, List.length_map, lb]
    omega
  refine wpAny_bind (wpAny_newList ?_ fits)
  have laid_ : (h1.push (seqObj "list" got.toList.toArray 0)).get? h1.objs.size =
    some (seqObj "list" got.toList.toArray 0) := Heap.get?_push_size _ rfl
  show wpAny _ _ _ _ _
    { s with heap := h1.push (seqObj "list" got.toList.toArray 0), toks := tk }
  refine wpAny_bind (wpAny_holding (wpAny_call_entry PyProof.Rows.slot_list_sort
    ⟨_, laid_, rfl⟩ PyProof.Rows.entry_list_sort ?_ (PyProof.Rows.args_list_sort _)))
  have ats : ∀ v ∈ got.toList, IsTP h1 v (keyP H (backV v)) := fun v hv => by
    rw [eb] at hv
    obtain ⟨b, hb, rfl⟩ := List.mem_map.mp hv
    obtain ⟨i, hi, e⟩ := List.getElem_of_mem (List.mem_map.mpr ⟨b, hb, rfl⟩ : V.ref b ∈ bs.map V.ref)
    obtain ⟨t', r, e1, _, ht⟩ := al.get (List.getElem?_eq_some_iff.mpr ⟨hi, e⟩)
    cases e1
    obtain ⟨_, its2, r2, o, ho, hc, n, hd⟩ := J.hok _ _ ht
    have ek : keyP H (backV (Value.ref b)) = r := keyP_at ht
    cases r2 with
    | cons ra r2 =>
      cases r2 with
      | cons rb r2 =>
        cases r2
        obtain ⟨t1, rfl⟩ := ra
        obtain ⟨t2, rfl⟩ := rb
        rw [ek]
        exact ⟨b, o, t1, t2, n, rfl, ho, hc, hd⟩
  have keepTo : ∀ {v : Value} {k : TP}, IsTP h1 v k → IsTP (h1.push (seqObj "list" got.toList.toArray 0)) v k := fun p => p.keeps fun b o e _ => Heap.get?_push_of_some _ e
  refine SrtO.list_sort_ord (swop (fun u => keyP H (backV u))) laid_ fits (fun h2 => ?_)
    fun out g1 g2 => ⟨_, rfl, ?_⟩
  · refine tps_sortable (by omega) (fun v hv => keepTo (ats v hv)) fun o' e => ?_
    have e' : some o' = some (seqObj "list" got.toList.toArray 0) := e.symm.trans laid_
    cases e'
    intro c
    exact absurd (Value.type.inj c) (by decide)
  · obtain ⟨e', at'⟩ := PyProof.Rows.sortedHeap_at (vs := got.toList) (out := out.toArray) laid_
    have isr : ∀ u ∈ out, ∃ a, u = Value.ref a := fun u hu => by
      have hm := g2.perm.mem_iff.mp hu
      rw [eb] at hm
      obtain ⟨b, _, rfl⟩ := List.mem_map.mp hm
      exact ⟨b, rfl⟩
    have exs : got.toList.map backV = bs.map V.ref := by rw [eb, List.map_map]; all_goals rfl
    have hb : Stb (fun x y => ltp (keyP H x) (keyP H y)) (out.map backV) (bs.map V.ref) := by
      rw [← exs]
      exact Stb.map (swop (keyP H)) backV g2
    have hsd : Srtd (fun x y => ltp (keyP H x) (keyP H y)) (out.map backV) := srtd_map g1
    have al2 : Al fTP H (out.map backV) ((out.map backV).map (keyP H)) := al_of_keyP fun v hv => by
      have hm := hb.perm.mem_iff.mp hv
      obtain ⟨i, hi, e⟩ := List.getElem_of_mem hm
      obtain ⟨t', r, e1, _, ht⟩ := al.get (List.getElem?_eq_some_iff.mpr ⟨hi, e⟩)
      exact ⟨t', r, e1, ht⟩
    have ord : OrdP l ((out.map backV).map (keyP H)) := by
      refine ⟨srtd_map hsd, ?_⟩
      have := Stb.map (swop fun x : TP => x) (keyP H) hb
      rw [al_keyP al] at this
      exact this
    have fits2 : (out.map backV).length ≤ sizeLine := by
      rw [hb.len, List.length_map, lb]
      omega
    refine wpAny_pure ⟨_, rfl, .ref h1.objs.size, upd H h1.objs.size (.lst (out.map backV)), ?_, rfl, ?_⟩
    · refine J.laid (t' := tk) (fun b u e => ?_) (Nat.le_refl _) ⟨fits2, out, e', vals_back isr, at'⟩
      have lt : b < h1.objs.size := Heap.lt_size e
      refine (PyProof.Rows.sortedHeap_old (Nat.ne_of_lt lt) ?_).trans (Heap.get?_push_of_some _ e)
      rw [size_push']
      exact Nat.lt_succ_of_lt lt
    · exact q _ _ _ ord al2 (J.hok.fresh (Nat.le_refl _))
end Pw

namespace V59
open PySem PySem.Spec PyProof.Rows L2 Pw
/-! ### a place -/
def pcf (w n t tm wD mD wl sl md dn : V) : List (Str × V) := [("_works", w), ("_name", n), ("_time", t), ("_term", tm), ("_worths", wD), ("_marks", mD), ("_waiting", wl), ("_sent", sl), ("_met", md), ("_done", dn)]
section
variable {w n t tm wD mD wl sl md dn : V}
theorem pcf_works : (pcf w n t tm wD mD wl sl md dn).lookup ("_works" : Str) = some w := lk_eq
theorem pcf_name : (pcf w n t tm wD mD wl sl md dn).lookup ("_name" : Str) = some n := (lk_ne (by decide +kernel)).trans lk_eq
theorem pcf_time : (pcf w n t tm wD mD wl sl md dn).lookup ("_time" : Str) = some t := (lk_ne (by decide +kernel)).trans ((lk_ne (by decide +kernel)).trans lk_eq)
theorem pcf_worths : (pcf w n t tm wD mD wl sl md dn).lookup ("_worths" : Str) = some wD := (lk_ne (by decide +kernel)).trans ((lk_ne (by decide +kernel)).trans ((lk_ne (by decide +kernel)).trans ((lk_ne (by decide +kernel)).trans lk_eq)))
theorem pcf_marks : (pcf w n t tm wD mD wl sl md dn).lookup ("_marks" : Str) = some mD := (lk_ne (by decide +kernel)).trans ((lk_ne (by decide +kernel)).trans ((lk_ne (by decide +kernel)).trans ((lk_ne (by decide +kernel)).trans ((lk_ne (by decide +kernel)).trans lk_eq))))
theorem pcf_waiting : (pcf w n t tm wD mD wl sl md dn).lookup ("_waiting" : Str) = some wl := (lk_ne (by decide +kernel)).trans ((lk_ne (by decide +kernel)).trans ((lk_ne (by decide +kernel)).trans ((lk_ne (by decide +kernel)).trans ((lk_ne (by decide +kernel)).trans ((lk_ne (by decide +kernel)).trans lk_eq)))))
theorem pcf_sent : (pcf w n t tm wD mD wl sl md dn).lookup ("_sent" : Str) = some sl := (lk_ne (by decide +kernel)).trans ((lk_ne (by decide +kernel)).trans ((lk_ne (by decide +kernel)).trans ((lk_ne (by decide +kernel)).trans ((lk_ne (by decide +kernel)).trans ((lk_ne (by decide +kernel)).trans ((lk_ne (by decide +kernel)).trans lk_eq))))))
theorem pcf_put_time (t' : V) : putF "_time" t' (pcf w n t tm wD mD wl sl md dn) = pcf w n t' tm wD mD wl sl md dn := by
  unfold pcf
  rw [put_ne (by decide +kernel), put_ne (by decide +kernel), put_eq]
theorem pcf_put_waiting (l' : V) : putF "_waiting" l' (pcf w n t tm wD mD wl sl md dn) = pcf w n t tm wD mD l' sl md dn := by
  unfold pcf
  rw [put_ne (by decide +kernel), put_ne (by decide +kernel), put_ne (by decide +kernel), put_ne (by decide +kernel), put_ne (by decide +kernel), put_ne (by decide +kernel), put_eq]
theorem pcf_term : (pcf w n t tm wD mD wl sl md dn).lookup ("_term" : Str) = some tm := (lk_ne (by decide +kernel)).trans ((lk_ne (by decide +kernel)).trans ((lk_ne (by decide +kernel)).trans lk_eq))
theorem pcf_met : (pcf w n t tm wD mD wl sl md dn).lookup ("_met" : Str) = some md := (lk_ne (by decide +kernel)).trans ((lk_ne (by decide +kernel)).trans ((lk_ne (by decide +kernel)).trans ((lk_ne (by decide +kernel)).trans ((lk_ne (by decide +kernel)).trans ((lk_ne (by decide +kernel)).trans ((lk_ne (by decide +kernel)).trans ((lk_ne (by decide +kernel)).trans lk_eq)))))))
theorem pcf_done : (pcf w n t tm wD mD wl sl md dn).lookup ("_done" : Str) = some dn := (lk_ne (by decide +kernel)).trans ((lk_ne (by decide +kernel)).trans ((lk_ne (by decide +kernel)).trans ((lk_ne (by decide +kernel)).trans ((lk_ne (by decide +kernel)).trans ((lk_ne (by decide +kernel)).trans ((lk_ne (by decide +kernel)).trans ((lk_ne (by decide +kernel)).trans ((lk_ne (by decide +kernel)).trans lk_eq))))))))
theorem pcf_put_term (t' : V) : putF "_term" t' (pcf w n t tm wD mD wl sl md dn) = pcf w n t t' wD mD wl sl md dn := by
  unfold pcf
  rw [put_ne (by decide +kernel), put_ne (by decide +kernel), put_ne (by decide +kernel), put_eq]
theorem pcf_no {m : Str} (h : (m == ("_works" : Str)) = false ∧ (m == ("_name" : Str)) = false ∧ (m == ("_time" : Str)) = false ∧ (m == ("_term" : Str)) = false ∧ (m == ("_worths" : Str)) = false ∧ (m == ("_marks" : Str)) = false ∧ (m == ("_waiting" : Str)) = false ∧ (m == ("_sent" : Str)) = false ∧ (m == ("_met" : Str)) = false ∧ (m == ("_done" : Str)) = false) : (pcf w n t tm wD mD wl sl md dn).lookup m = none := by
  obtain ⟨h1, h2, h3, h4, h5, h6, h7, h8, h9, h10⟩ := h
  exact (lk_ne h1).trans ((lk_ne h2).trans ((lk_ne h3).trans ((lk_ne h4).trans ((lk_ne h5).trans ((lk_ne h6).trans ((lk_ne h7).trans ((lk_ne h8).trans ((lk_ne h9).trans ((lk_ne h10).trans rfl)))))))))
end
structure PcC (K : PySem.W.Frag) (E : Addr) : Prop where
  cl : Cls K E
  nWk : NoAttr K E "_works"
  nNa : NoAttr K E "_name"
  nTi : NoAttr K E "_time"
  nTe : NoAttr K E "_term"
  nWo : NoAttr K E "_worths"
  nMk : NoAttr K E "_marks"
  nWa : NoAttr K E "_waiting"
  nSe : NoAttr K E "_sent"
  nMe : NoAttr K E "_met"
  nDo : NoAttr K E "_done"
/-- a point as it stands at the place -/
structure Ps where
  nm : Str
  w : Int
  m : Str
def wK (st : List Ps) : List (Key × V) := st.map fun s => (.inr s.nm, .int s.w)
def mK (st : List Ps) : List (Key × V) := st.map fun s => (.inr s.nm, .str s.m)
/-- point nm noted with worth and mark -/
def note (st : List Ps) (nm : Str) (w : Int) (m : Str) : List Ps := st.map fun s => if s.nm = nm then ⟨nm, w, m⟩ else s
abbrev Id2 := Int × Int
def kId (i : Id2) : List Key := [.inl i.1, .inl i.2]
def tId (i : Id2) : List V := [.int i.1, .int i.2]
def dw (b : Bool) : Str := if b = true then "done" else "refused"
def metK (m : List (Id2 × Bool)) : TK := m.map fun x => (kId x.1, .str (dw x.2))
/-- a row of what was done: the order's id, the command, the time -/
structure Dn where
  id : Id2
  c : Str
  t : Int
def DnAt (H : Hp) (v : V) (d : Dn) : Prop := ∃ a q, v = .ref a ∧ H a = some (.tup [.ref q, .str d.c, .int d.t]) ∧ H q = some (.tup (tId d.id))
inductive Dns (H : Hp) : List V → List Dn → Prop
  | nil : Dns H [] []
  | cons {v : V} {vs : List V} {d : Dn} {ds : List Dn} : DnAt H v d → Dns H vs ds → Dns H (v :: vs) (d :: ds)
theorem DnAt.tups {H H' : Hp} {v : V} {d : Dn} (h : DnAt H v d) (S : ∀ q xs, H q = some (.tup xs) → H' q = some (.tup xs)) : DnAt H' v d :=
  let ⟨a, q, e, e1, e2⟩ := h
  ⟨a, q, e, S _ _ e1, S _ _ e2⟩
theorem Dns.tups {H H' : Hp} {vs : List V} {ds : List Dn} (h : Dns H vs ds) (S : ∀ q xs, H q = some (.tup xs) → H' q = some (.tup xs)) : Dns H' vs ds := by
  induction h with
  | nil => exact .nil
  | cons a _ ih => exact .cons (a.tups S) ih
theorem Dns.length {H : Hp} {vs : List V} {ds : List Dn} (h : Dns H vs ds) : vs.length = ds.length := by
  induction h with
  | nil => rfl
  | cons _ _ ih => rw [List.length_cons, List.length_cons, ih]
theorem Dns.snoc {H : Hp} {vs : List V} {ds : List Dn} {v : V} {d : Dn} (h : Dns H vs ds) (e : DnAt H v d) : Dns H (vs ++ [v]) (ds ++ [d]) := by
  induction h with
  | nil => exact .cons e .nil
  | cons a _ ih => exact .cons a ih
/-- a place, with all that it holds -/
structure Pl where
  wa : Addr
  pl : Str
  t : Int
  tm : Int
  wD : Addr
  mD : Addr
  wl : Addr
  sl : Addr
  md : Addr
  dn : Addr
  st : List Ps
  wt : List Sg
  sent : List Addr
  met : List (Id2 × Bool)
  done : List Dn
def Pl.fs (S : Pl) : List (Str × V) := pcf (.ref S.wa) (.str S.pl) (.int S.t) (.int S.tm) (.ref S.wD) (.ref S.mD) (.ref S.wl) (.ref S.sl) (.ref S.md) (.ref S.dn)
structure PcAt (E : Addr) (H : Hp) (r : Addr) (S : Pl) : Prop where
  me : ∃ dx, H r = some (.ins E dx S.fs)
  w : H S.wD = some (.dK (wK S.st))
  m : H S.mD = some (.dK (mK S.st))
  l : ∃ vs, H S.wl = some (.lst vs) ∧ Al f4 H vs S.wt
  s : H S.sl = some (.lst (S.sent.map V.ref))
  mt : H S.md = some (.dT (metK S.met))
  d : ∃ vs, H S.dn = some (.lst vs) ∧ Dns H vs S.done
  nd : (S.st.map Ps.nm).Nodup
  few : S.st.length ≤ 8
  ids : (S.met.map Prod.fst).Nodup
  n1 : S.wD ≠ S.mD
  n2 : S.wl ≠ S.sl
  n3 : S.wl ≠ S.dn
  n4 : S.sl ≠ S.dn
/-- what the place's own objects are: nothing of the place changes where these and all tuples stay -/
theorem PcAt.frame {E : Addr} {H H' : Hp} {r : Addr} {S : Pl} (h : PcAt E H r S) (F : ∀ q o, (q = r ∨ q = S.wD ∨ q = S.mD ∨ q = S.wl ∨ q = S.sl ∨ q = S.md ∨ q = S.dn) → H q = some o → H' q = some o) (Ft : ∀ q xs, H q = some (.tup xs) → H' q = some (.tup xs)) : PcAt E H' r S := by
  obtain ⟨dx, e⟩ := h.me
  obtain ⟨vs, el, al⟩ := h.l
  obtain ⟨us, ed, dl⟩ := h.d
  exact ⟨⟨dx, F _ _ (.inl rfl) e⟩, F _ _ (.inr (.inl rfl)) h.w, F _ _ (.inr (.inr (.inl rfl))) h.m, ⟨vs, F _ _ (.inr (.inr (.inr (.inl rfl)))) el, al.imp Ft⟩, F _ _ (.inr (.inr (.inr (.inr (.inl rfl))))) h.s,
    F _ _ (.inr (.inr (.inr (.inr (.inr (.inl rfl)))))) h.mt, ⟨us, F _ _ (.inr (.inr (.inr (.inr (.inr (.inr rfl)))))) ed, dl.tups Ft⟩, h.nd, h.few, h.ids, h.n1, h.n2, h.n3, h.n4⟩
theorem PcAt.same {E : Addr} {H H' : Hp} {r : Addr} {S : Pl} (h : PcAt E H r S) (F : Same H H') : PcAt E H' r S := h.frame (fun q o _ e => F q o e) fun q xs e => F _ _ e
/-- something else changes: an object that is none of the place's -/
theorem PcAt.but {E : Addr} {H H' : Hp} {r a : Addr} {S : Pl} (h : PcAt E H r S) (B : But a H H') (nt : ∀ xs, H a ≠ some (.tup xs)) (n : ¬ (a = r ∨ a = S.wD ∨ a = S.mD ∨ a = S.wl ∨ a = S.sl ∨ a = S.md ∨ a = S.dn)) : PcAt E H' r S :=
  h.frame (fun q o c e => B.at (fun z => n (z ▸ c)) e) fun q xs e => B.at (fun z => nt xs (z ▸ e)) e
/-- a new object is none of the place's -/
theorem PcAt.fresh {E : Addr} {H : Hp} {r a : Addr} {S : Pl} (h : PcAt E H r S) (n : H a = none) : ¬ (a = r ∨ a = S.wD ∨ a = S.mD ∨ a = S.wl ∨ a = S.sl ∨ a = S.md ∨ a = S.dn) := by
  obtain ⟨dx, e⟩ := h.me
  obtain ⟨vs, el, al⟩ := h.l
  obtain ⟨us, ed, dl⟩ := h.d
  have k : ∀ {b : Addr} {o : HO}, H b = some o → a ≠ b := fun eb z => by rw [← z, n] at eb; cases eb
  rintro (z | z | z | z | z | z | z)
  · exact k e z
  · exact k h.w z
  · exact k h.m z
  · exact k el z
  · exact k h.s z
  · exact k h.mt z
  · exact k ed z
theorem stK_val {f : Ps → V} {st : List Ps} (nd : (st.map Ps.nm).Nodup) {s : Ps} (h : s ∈ st) : valV (st.map fun s => ((Sum.inr s.nm : Key), f s)) (.inr s.nm) = some (f s) := by
  induction st with
  | nil => cases h
  | cons x r ih =>
    obtain ⟨n1, n2⟩ := List.nodup_cons.mp (show (x.nm :: r.map Ps.nm).Nodup from nd)
    unfold valV at ih ⊢
    rw [List.map_cons, List.find?_cons]
    rcases List.mem_cons.mp h with rfl | h'
    · rw [decide_eq_true rfl]
      rfl
    · have : x.nm ≠ s.nm := fun e => n1 (e ▸ List.mem_map.mpr ⟨s, h', rfl⟩)
      rw [decide_eq_false fun z => this (Sum.inr.inj z)]
      exact ih n2 h'
theorem stK_put {f : Ps → V} {st : List Ps} {nm : Str} {v : V} (h : nm ∈ st.map Ps.nm) : putK (st.map fun s => ((Sum.inr s.nm : Key), f s)) (.inr nm) v = st.map fun s => ((Sum.inr s.nm : Key), if s.nm = nm then v else f s) := by
  unfold putK
  have ha : ((st.map fun s => ((Sum.inr s.nm : Key), f s)).any fun q => decide (q.1 = (.inr nm : Key))) = true := by
    obtain ⟨s, hs, e⟩ := List.mem_map.mp h
    exact List.any_eq_true.mpr ⟨_, List.mem_map.mpr ⟨s, hs, rfl⟩, decide_eq_true (congrArg Sum.inr e)⟩
  rw [if_pos ha, List.map_map]
  refine List.map_congr_left fun s _ => ?_
  show (if (Sum.inr s.nm : Key) = .inr nm then ((Sum.inr s.nm : Key), v) else (.inr s.nm, f s)) = _
  by_cases e : s.nm = nm
  · rw [if_pos (congrArg Sum.inr e), if_pos e]
  · rw [if_neg fun z => e (Sum.inr.inj z), if_neg e]
end V59

namespace V59
open PySem PySem.Spec PyProof.Rows L2 Pw
/-! ### a place's own small methods -/
section
variable {P : Program} {w : World} {K : PySem.W.Frag} {mg : Str → Option Value} {base : Heap} {C E : Addr}
def spWaiting (E : Addr) : Sp := fun vs H Q _ => ∃ r S, vs = [.ref r] ∧ PcAt E H r S ∧ ∀ l us H', Same H H' → H l = none → H' l = some (.lst us) → Al f4 H' us S.wt → Q (.ref l) H'
theorem d_waiting (T : Txt mg) (Wp : PcC K E) (A : AtMt K E "waiting" "Place.waiting" mPlace_Waiting) : DefM P w K mg base E "waiting" 1 ["self"] (spWaiting E) := by
  refine mkDefM A scmPlace_Waiting (fun _ _ _ _ _ _ us hl => match us, hl with | [_], _ => rfl) (fun vs H Q X ⟨_, _, e, _⟩ => by rw [e]; rfl)
    (fun f cdv A out s H vs Q X hr h => ?_)
  obtain ⟨r, S, rfl, pc, k⟩ := h
  refine ⟨_, (pss_one (ps_ret (pe_callTy call_list_of (by rfl) T.list (by decide +kernel) (pa_cons (pe_fld (pv 0) rfl) pa_nil)))), ?_⟩
  obtain ⟨dx, e1⟩ := pc.me
  obtain ⟨us, e4, al⟩ := pc.l
  exact ⟨_, rfl, r, E, dx, _, _, rfl, e1, Wp.cl, Wp.nWa, pcf_waiting, S.wl, us, rfl, .inl (SqL.of e4), fun l nl => k l us _ (Same.laid nl) nl upd_same (al.same (Same.laid nl))⟩
def spDone (E : Addr) : Sp := fun vs H Q _ => ∃ r S, vs = [.ref r] ∧ PcAt E H r S ∧ ∀ l us H', Same H H' → H l = none → H' l = some (.lst us) → Dns H' us S.done → Q (.ref l) H'
theorem d_done (T : Txt mg) (Wp : PcC K E) (A : AtMt K E "done" "Place.done" mPlace_Done) : DefM P w K mg base E "done" 1 ["self"] (spDone E) := by
  refine mkDefM A scmPlace_Done (fun _ _ _ _ _ _ us hl => match us, hl with | [_], _ => rfl) (fun vs H Q X ⟨_, _, e, _⟩ => by rw [e]; rfl)
    (fun f cdv A out s H vs Q X hr h => ?_)
  obtain ⟨r, S, rfl, pc, k⟩ := h
  refine ⟨_, (pss_one (ps_ret (pe_callTy call_list_of (by rfl) T.list (by decide +kernel) (pa_cons (pe_fld (pv 0) rfl) pa_nil)))), ?_⟩
  obtain ⟨dx, e1⟩ := pc.me
  obtain ⟨us, e4, al⟩ := pc.d
  exact ⟨_, rfl, r, E, dx, _, _, rfl, e1, Wp.cl, Wp.nDo, pcf_done, S.dn, us, rfl, .inl (SqL.of e4), fun l nl => k l us _ (Same.laid nl) nl upd_same (al.tups fun q xs e => Same.laid nl _ _ e)⟩
def spPName (E : Addr) : Sp := fun vs H Q _ => ∃ r S, vs = [.ref r] ∧ PcAt E H r S ∧ Q (.str S.pl) H
theorem d_pname (Wp : PcC K E) (A : AtMt K E "name" "Place.name" mPlace_Name) : DefM P w K mg base E "name" 1 ["self"] (spPName E) := by
  refine mkDefM A scmPlace_Name (fun _ _ _ _ _ _ us hl => match us, hl with | [_], _ => rfl) (fun vs H Q X ⟨_, _, e, _⟩ => by rw [e]; rfl)
    (fun f cdv A out s H vs Q X hr h => ?_)
  obtain ⟨r, S, rfl, pc, k⟩ := h
  refine ⟨_, (pss_one (ps_ret (pe_fld (pv 0) rfl))), ?_⟩
  obtain ⟨dx, e1⟩ := pc.me
  exact ⟨_, rfl, r, E, dx, _, _, rfl, e1, Wp.cl, Wp.nNa, pcf_name, k⟩
def spPTerm (E : Addr) : Sp := fun vs H Q _ => ∃ r S, vs = [.ref r] ∧ PcAt E H r S ∧ Q (.int S.tm) H
theorem d_pterm (Wp : PcC K E) (A : AtMt K E "term" "Place.term" mPlace_Term) : DefM P w K mg base E "term" 1 ["self"] (spPTerm E) := by
  refine mkDefM A scmPlace_Term (fun _ _ _ _ _ _ us hl => match us, hl with | [_], _ => rfl) (fun vs H Q X ⟨_, _, e, _⟩ => by rw [e]; rfl)
    (fun f cdv A out s H vs Q X hr h => ?_)
  obtain ⟨r, S, rfl, pc, k⟩ := h
  refine ⟨_, (pss_one (ps_ret (pe_fld (pv 0) rfl))), ?_⟩
  obtain ⟨dx, e1⟩ := pc.me
  exact ⟨_, rfl, r, E, dx, _, _, rfl, e1, Wp.cl, Wp.nTe, pcf_term, k⟩
/-- the place's own record is written anew -/
theorem PcAt.put {H : Hp} {r dx : Addr} {S S' : Pl} (h : PcAt E H r S) (e : H r = some (.ins E dx S.fs)) (w : S'.wD = S.wD ∧ S'.mD = S.mD ∧ S'.wl = S.wl ∧ S'.sl = S.sl ∧ S'.md = S.md ∧ S'.dn = S.dn) (v : S'.st = S.st ∧ S'.wt = S.wt ∧ S'.sent = S.sent ∧ S'.met = S.met ∧ S'.done = S.done) :
    PcAt E (upd H r (.ins E dx S'.fs)) r S' := by
  obtain ⟨w1, w2, w3, w4, w5, w6⟩ := w
  obtain ⟨v1, v2, v3, v4, v5⟩ := v
  have B : But r H (upd H r (.ins E dx S'.fs)) := But.set
  have t : ∀ q xs, H q = some (.tup xs) → upd H r (.ins E dx S'.fs) q = some (.tup xs) := fun q xs eq => B.at (fun z => by rw [z, e] at eq; cases eq) eq
  obtain ⟨vs, el, al⟩ := h.l
  obtain ⟨us, ed, dl⟩ := h.d
  refine ⟨⟨dx, upd_same⟩, ?_, ?_, ?_, ?_, ?_, ?_, v1 ▸ h.nd, v1 ▸ h.few, v4 ▸ h.ids, by rw [w1, w2]; exact h.n1, by rw [w3, w4]; exact h.n2, by rw [w3, w6]; exact h.n3, by rw [w4, w6]; exact h.n4⟩
  · rw [w1, v1]; exact B.at (fun z => by have := h.w; rw [z, e] at this; cases this) h.w
  · rw [w2, v1]; exact B.at (fun z => by have := h.m; rw [z, e] at this; cases this) h.m
  · rw [w3, v2]; exact ⟨vs, B.at (fun z => by rw [z, e] at el; cases el) el, al.imp t⟩
  · rw [w4, v3]; exact B.at (fun z => by have := h.s; rw [z, e] at this; cases this) h.s
  · rw [w5, v4]; exact B.at (fun z => by have := h.mt; rw [z, e] at this; cases this) h.mt
  · rw [w6, v5]; exact ⟨us, B.at (fun z => by rw [z, e] at ed; cases ed) ed, dl.tups t⟩
def spCome (E : Addr) : Sp := fun vs H Q _ => ∃ r S, ∃ t' : Int, vs = [.ref r, .int t'] ∧ PcAt E H r S ∧ S.t ≤ t' ∧ ∀ H', But r H H' → PcAt E H' r { S with t := t' } → Q .non H'
theorem d_come (Wp : PcC K E) (A : AtMt K E "_come_to" "Place._come_to" mPlace_ComeTo) : DefM P w K mg base E "_come_to" 1 ["self", "time"] (spCome E) := by
  refine mkDefM A scmPlace_ComeTo (fun _ _ _ _ _ _ us hl => match us, hl with | [_, _], _ => rfl) (fun vs H Q X ⟨_, _, _, e, _⟩ => by rw [e]; rfl)
    (fun f cdv A out s H vs Q X hr h => ?_)
  obtain ⟨r, S, t', rfl, pc, le, k⟩ := h
  refine ⟨_, (pss_cons (ps_if (pt_cmpR op_lt (pv 1) (pe_fld (pv 0) rfl) (nomark _))
      (pss_one ps_never)
      pss_nil)
    (pss_one (ps_fld (pv 0) (pv 1) rfl))), ?_⟩
  obtain ⟨dx, e1⟩ := pc.me
  refine ⟨_, rfl, _, rfl, r, E, dx, _, _, rfl, e1, Wp.cl, Wp.nTi, pcf_time, t', S.t, rfl, rfl, _, rfl, ?_⟩
  rw [decide_eq_false (show ¬ t' < S.t by omega)]
  refine iteF ?_
  refine ⟨_, rfl, _, rfl, r, E, dx, _, rfl, e1, Wp.cl, Wp.nTi, by show _ < 1000; exact Nat.lt_of_le_of_lt (show 10 ≤ 10 by decide) (by decide), ?_⟩
  unfold Pl.fs
  rw [pcf_put_time]
  exact k _ But.set (pc.put (S' := { S with t := t' }) e1 ⟨rfl, rfl, rfl, rfl, rfl, rfl⟩ ⟨rfl, rfl, rfl, rfl, rfl⟩)
end
end V59

namespace V59
open PySem PySem.Spec PyProof.Rows L2 Pw
/-! ### a change noted -/
theorem note_nm {st : List Ps} {nm : Str} {w : Int} {m : Str} : (note st nm w m).map Ps.nm = st.map Ps.nm := by
  unfold note
  rw [List.map_map]
  refine List.map_congr_left fun s _ => ?_
  show (if s.nm = nm then (⟨nm, w, m⟩ : Ps) else s).nm = s.nm
  split
  · rename_i e; exact e.symm
  · rfl
theorem wK_note {st : List Ps} {nm : Str} {w : Int} {m : Str} (h : nm ∈ st.map Ps.nm) : putK (wK st) (.inr nm) (.int w) = wK (note st nm w m) := by
  unfold wK note
  rw [stK_put (f := fun s => V.int s.w) h, List.map_map]
  refine List.map_congr_left fun s _ => ?_
  show ((Sum.inr s.nm : Key), if s.nm = nm then V.int w else V.int s.w) = ((Sum.inr (if s.nm = nm then (⟨nm, w, m⟩ : Ps) else s).nm : Key), V.int (if s.nm = nm then (⟨nm, w, m⟩ : Ps) else s).w)
  by_cases e : s.nm = nm
  · rw [if_pos e, if_pos e, e]
  · rw [if_neg e, if_neg e]
theorem mK_note {st : List Ps} {nm : Str} {w : Int} {m : Str} (h : nm ∈ st.map Ps.nm) : putK (mK st) (.inr nm) (.str m) = mK (note st nm w m) := by
  unfold mK note
  rw [stK_put (f := fun s => V.str s.m) h, List.map_map]
  refine List.map_congr_left fun s _ => ?_
  show ((Sum.inr s.nm : Key), if s.nm = nm then V.str m else V.str s.m) = ((Sum.inr (if s.nm = nm then (⟨nm, w, m⟩ : Ps) else s).nm : Key), V.str (if s.nm = nm then (⟨nm, w, m⟩ : Ps) else s).m)
  by_cases e : s.nm = nm
  · rw [if_pos e, if_pos e, e]
  · rw [if_neg e, if_neg e]
theorem al_but {α : Type} {f : α → List V} {H H' : Hp} {d : Addr} {xs : List V} {vs : List V} {rs : List α} (h : Al f H vs rs) (e : H d = some (.lst xs)) (B : But d H H') : Al f H' vs rs :=
  h.imp fun a ys ea => B.at (fun z => by rw [z, e] at ea; cases ea) ea
theorem PcAt.note {E : Addr} {H H' : Hp} {r : Addr} {S : Pl} {nm : Str} {n : Int} {m : Str} {us : List V} {wt : List Sg} (h : PcAt E H r S) (F : ∀ q o, q ≠ S.wD → q ≠ S.mD → q ≠ S.wl → H q = some o → H' q = some o)
    (e1 : H' S.wD = some (.dK (wK (note S.st nm n m)))) (e2 : H' S.mD = some (.dK (mK (note S.st nm n m)))) (e3 : H' S.wl = some (.lst us)) (al : Al f4 H' us wt) : PcAt E H' r { S with st := V59.note S.st nm n m, wt := wt } := by
  obtain ⟨dx, e⟩ := h.me
  obtain ⟨vs, el, _⟩ := h.l
  obtain ⟨ds, ed, dl⟩ := h.d
  have k : ∀ {q : Addr} {o : HO}, H q = some o → (∀ kv, o ≠ .dK kv) → (∀ xs, o ≠ .lst xs) → H' q = some o := fun eq a b => F _ _ (fun z => by rw [z, h.w] at eq; exact a _ (Option.some.inj eq).symm) (fun z => by rw [z, h.m] at eq; exact a _ (Option.some.inj eq).symm) (fun z => by rw [z, el] at eq; exact b _ (Option.some.inj eq).symm) eq
  refine ⟨⟨dx, k e (fun _ z => by cases z) (fun _ z => by cases z)⟩, e1, e2, ⟨us, e3, al⟩, ?_, k h.mt (fun _ z => by cases z) (fun _ z => by cases z), ⟨ds, ?_, dl.tups fun q xs eq => k eq (fun _ z => by cases z) (fun _ z => by cases z)⟩, by show ((V59.note S.st nm n m).map Ps.nm).Nodup; rw [note_nm]; exact h.nd, by show (V59.note S.st nm n m).length ≤ 8; unfold V59.note; rw [List.length_map]; exact h.few, h.ids, h.n1, h.n2, h.n3, h.n4⟩
  · exact F _ _ (fun z => by have := h.s; rw [z, h.w] at this; cases this) (fun z => by have := h.s; rw [z, h.m] at this; cases this) h.n2.symm h.s
  · exact F _ _ (fun z => by rw [z, h.w] at ed; cases ed) (fun z => by rw [z, h.m] at ed; cases ed) h.n3.symm ed
section
variable {P : Program} {w : World} {K : PySem.W.Frag} {mg : Str → Option Value} {base : Heap} {C E : Addr}
def spNote (E : Addr) : Sp := fun vs H Q _ => ∃ r S s, ∃ (n : Int) (m : Str), vs = [.ref r, .str (Ps.nm s), .int n, .str m] ∧ PcAt E H r S ∧ s ∈ S.st ∧ S.wt.length < 1000 ∧
  ((s.w = n ∧ s.m = m ∧ Q (.bl false) H) ∨ (¬ (s.w = n ∧ s.m = m) ∧ ∀ H', (∀ q o, q ≠ S.wD → q ≠ S.mD → q ≠ S.wl → H q = some o → H' q = some o) → PcAt E H' r { S with st := note S.st s.nm n m, wt := S.wt ++ [⟨S.t, s.nm, n, m⟩] } → Q (.bl true) H'))
theorem d_note (Wp : PcC K E) (A : AtMt K E "_note" "Place._note" mPlace_Note) : DefM P w K mg base E "_note" 1 ["self", "point", "worth", "mark"] (spNote E) := by
  refine mkDefM A scmPlace_Note (fun _ _ _ _ _ _ us hl => match us, hl with | [_, _, _, _], _ => rfl) (fun vs H Q X ⟨_, _, _, _, _, e, _⟩ => by rw [e]; rfl)
    (fun f cdv A out s H vs Q X hr h => ?_)
  obtain ⟨r, S, s0, n, m, rfl, pc, hs, few, k⟩ := h
  have hu : (A.deeper (envOfC "Place._note" (defScope mPlace_Note) s.heap.objs.size f cdv)).units + 1 < cLine := hu_of hr
  refine ⟨_, (pss_cons (ps_if (PW.pt (pw_and (pt_cmpR op_eq (pe_dget hu (pe_fld (pv 0) rfl) (pv 1) (fun _ _ => rfl)) (pv 2) (nomark _)) (pw_and1 (pt_cmpR op_eq (pe_dget hu (pe_fld (pv 0) rfl) (pv 1) (fun _ _ => rfl)) (pv 3) (nomark _)))))
      (pss_one (ps_ret pe_bl))
      pss_nil)
    (pss_cons (ps_asg (pv 2) (pg_sub (pe_fld (pv 0) rfl) (pv 1) (set_dict hu)))
    (pss_cons (ps_asg (pv 3) (pg_sub (pe_fld (pv 0) rfl) (pv 1) (set_dict hu)))
    (pss_cons (ps_expr (pe_bm PySem.F.plainAttrs_list PySem.F.slot_list_append PySem.F.type_list_append mt_append (pe_fld (pv 0) rfl) (pa_cons (pe_tup (pa_cons (pe_fld (pv 0) rfl) (pa_cons (pv 1) (pa_cons (pv 2) (pa_cons (pv 3) pa_nil))))) pa_nil)))
    (pss_one (ps_ret pe_bl)))))), ?_⟩
  obtain ⟨dx, e1⟩ := pc.me
  have e2 := pc.w
  have e3 := pc.m
  obtain ⟨us, e4, al⟩ := pc.l
  have evw := stK_val (f := fun s => V.int s.w) pc.nd hs
  have evm := stK_val (f := fun s => V.str s.m) pc.nd hs
  have hin : s0.nm ∈ S.st.map Ps.nm := List.mem_map.mpr ⟨s0, hs, rfl⟩
  have few8 := pc.few
  refine ⟨_, rfl, r, E, dx, _, _, rfl, e1, Wp.cl, Wp.nWo, pcf_worths, _, rfl, S.wD, _, rfl, .inl ⟨_, .inr s0.nm, .inl e2, rfl, evw.symm⟩, _, rfl, rfl, _, rfl, ?_⟩
  by_cases cw : s0.w = n
  · subst cw
    rw [decide_eq_true rfl]
    refine iteT ?_
    refine ⟨_, rfl, r, E, dx, _, _, rfl, e1, Wp.cl, Wp.nMk, pcf_marks, _, rfl, S.mD, _, rfl, .inl ⟨_, .inr s0.nm, .inl e3, rfl, evm.symm⟩, _, rfl, rfl, _, rfl, ?_⟩
    rw [str_dec]
    by_cases cm : s0.m = m
    · rw [decide_eq_true cm]
      refine iteT ?_
      rcases k with ⟨_, _, k⟩ | ⟨no, _⟩
      · exact k
      · exact absurd ⟨rfl, cm⟩ no
    · rw [decide_eq_false cm]
      refine iteF ?_
      have no : ¬ (s0.w = s0.w ∧ s0.m = m) := fun z => cm z.2
      generalize hn : s0.w = n at k no ⊢
      exact (by
    rcases k with ⟨z1, z2, _⟩ | ⟨_, k⟩
    · exact absurd ⟨z1, z2⟩ no
    refine ⟨_, rfl, _, rfl, r, E, dx, _, _, rfl, e1, Wp.cl, Wp.nWo, pcf_worths, _, rfl, S.wD, _, rfl, DPut.k (k := .inr s0.nm) e2 (by unfold wK; rw [List.length_map]; exact Nat.lt_of_le_of_lt few8 (by decide)), ?_⟩
    rw [wK_note (m := m) hin]
    have B1 : But S.wD H (upd H S.wD (.dK (wK (note S.st s0.nm n m)))) := But.set
    have g2 : upd H S.wD (.dK (wK (note S.st s0.nm n m))) S.wD = some (.dK (wK (note S.st s0.nm n m))) := upd_same
    generalize upd H S.wD (.dK (wK (note S.st s0.nm n m))) = H1 at *
    have g1 := B1.at (fun z => by rw [z, e2] at e1; cases e1) e1
    have g3 := B1.at pc.n1.symm e3
    have g4 := B1.at (fun z => by rw [z, e2] at e4; cases e4) e4
    have gl : Al f4 H1 us S.wt := al.imp fun q xs e => B1.at (fun z => by rw [z, e2] at e; cases e) e
    refine ⟨_, rfl, _, rfl, r, E, dx, _, _, rfl, g1, Wp.cl, Wp.nMk, pcf_marks, _, rfl, S.mD, _, rfl, DPut.k (k := .inr s0.nm) g3 (by unfold mK; rw [List.length_map]; exact Nat.lt_of_le_of_lt few8 (by decide)), ?_⟩
    rw [mK_note (w := n) hin]
    have B2 : But S.mD H1 (upd H1 S.mD (.dK (mK (note S.st s0.nm n m)))) := But.set
    have h3 : upd H1 S.mD (.dK (mK (note S.st s0.nm n m))) S.mD = some (.dK (mK (note S.st s0.nm n m))) := upd_same
    generalize upd H1 S.mD (.dK (mK (note S.st s0.nm n m))) = H2 at *
    have h1 := B2.at (fun z => by rw [z, g3] at g1; cases g1) g1
    have h2 := B2.at pc.n1 g2
    have h4 := B2.at (fun z => by rw [z, g3] at g4; cases g4) g4
    have hl : Al f4 H2 us S.wt := gl.imp fun q xs e => B2.at (fun z => by rw [z, g3] at e; cases e) e
    refine ⟨_, rfl, r, E, dx, _, _, rfl, h1, Wp.cl, Wp.nWa, pcf_waiting, .inl ⟨rfl, _, SqL.of h4⟩, _, rfl, r, E, dx, _, _, rfl, h1, Wp.cl, Wp.nTi, pcf_time, _, rfl, _, rfl, _, rfl, by show 4 ≤ sizeLine; decide, fun q nq => ?_⟩
    have S3 := Same.laid (o := HO.tup [.int S.t, .str s0.nm, .int n, .str m]) nq
    have eq : upd H2 q (.tup [.int S.t, .str s0.nm, .int n, .str m]) q = some (.tup (f4 ⟨S.t, s0.nm, n, m⟩)) := upd_same
    generalize upd H2 q (.tup [.int S.t, .str s0.nm, .int n, .str m]) = H3 at *
    have i4 := S3 _ _ h4
    have B4 : But S.wl H3 (upd H3 S.wl (.lst (us ++ [.ref q]))) := But.set
    have hlen := al.length
    refine ⟨S.wl, us, .ref q, rfl, rfl, i4, Nat.lt_of_le_of_lt (show us.length ≤ 1000 by omega) (by decide), ?_⟩
    have F : ∀ a o, a ≠ S.wD → a ≠ S.mD → a ≠ S.wl → H a = some o → upd H3 S.wl (.lst (us ++ [.ref q])) a = some o := fun a o n1 n2 n3 e => B4.at n3 (S3 _ _ (B2.at n2 (B1.at n1 e)))
    exact k _ F (pc.note F (B4.at (fun z => by rw [z, h4] at h2; cases h2) (S3 _ _ h2)) (B4.at (fun z => by rw [z, h4] at h3; cases h3) (S3 _ _ h3)) upd_same ((al_but (hl.same S3) i4 B4).snoc (B4.at (fun z => by rw [z, i4] at eq; cases eq) eq))))
  · rw [decide_eq_false fun z => cw (V.int.inj z)]
    refine iteF ?_
    refine iteF ?_
    have no : ¬ (s0.w = n ∧ s0.m = m) := fun z => cw z.1
    exact (by
    rcases k with ⟨z1, z2, _⟩ | ⟨_, k⟩
    · exact absurd ⟨z1, z2⟩ no
    refine ⟨_, rfl, _, rfl, r, E, dx, _, _, rfl, e1, Wp.cl, Wp.nWo, pcf_worths, _, rfl, S.wD, _, rfl, DPut.k (k := .inr s0.nm) e2 (by unfold wK; rw [List.length_map]; exact Nat.lt_of_le_of_lt few8 (by decide)), ?_⟩
    rw [wK_note (m := m) hin]
    have B1 : But S.wD H (upd H S.wD (.dK (wK (note S.st s0.nm n m)))) := But.set
    have g2 : upd H S.wD (.dK (wK (note S.st s0.nm n m))) S.wD = some (.dK (wK (note S.st s0.nm n m))) := upd_same
    generalize upd H S.wD (.dK (wK (note S.st s0.nm n m))) = H1 at *
    have g1 := B1.at (fun z => by rw [z, e2] at e1; cases e1) e1
    have g3 := B1.at pc.n1.symm e3
    have g4 := B1.at (fun z => by rw [z, e2] at e4; cases e4) e4
    have gl : Al f4 H1 us S.wt := al.imp fun q xs e => B1.at (fun z => by rw [z, e2] at e; cases e) e
    refine ⟨_, rfl, _, rfl, r, E, dx, _, _, rfl, g1, Wp.cl, Wp.nMk, pcf_marks, _, rfl, S.mD, _, rfl, DPut.k (k := .inr s0.nm) g3 (by unfold mK; rw [List.length_map]; exact Nat.lt_of_le_of_lt few8 (by decide)), ?_⟩
    rw [mK_note (w := n) hin]
    have B2 : But S.mD H1 (upd H1 S.mD (.dK (mK (note S.st s0.nm n m)))) := But.set
    have h3 : upd H1 S.mD (.dK (mK (note S.st s0.nm n m))) S.mD = some (.dK (mK (note S.st s0.nm n m))) := upd_same
    generalize upd H1 S.mD (.dK (mK (note S.st s0.nm n m))) = H2 at *
    have h1 := B2.at (fun z => by rw [z, g3] at g1; cases g1) g1
    have h2 := B2.at pc.n1 g2
    have h4 := B2.at (fun z => by rw [z, g3] at g4; cases g4) g4
    have hl : Al f4 H2 us S.wt := gl.imp fun q xs e => B2.at (fun z => by rw [z, g3] at e; cases e) e
    refine ⟨_, rfl, r, E, dx, _, _, rfl, h1, Wp.cl, Wp.nWa, pcf_waiting, .inl ⟨rfl, _, SqL.of h4⟩, _, rfl, r, E, dx, _, _, rfl, h1, Wp.cl, Wp.nTi, pcf_time, _, rfl, _, rfl, _, rfl, by show 4 ≤ sizeLine; decide, fun q nq => ?_⟩
    have S3 := Same.laid (o := HO.tup [.int S.t, .str s0.nm, .int n, .str m]) nq
    have eq : upd H2 q (.tup [.int S.t, .str s0.nm, .int n, .str m]) q = some (.tup (f4 ⟨S.t, s0.nm, n, m⟩)) := upd_same
    generalize upd H2 q (.tup [.int S.t, .str s0.nm, .int n, .str m]) = H3 at *
    have i4 := S3 _ _ h4
    have B4 : But S.wl H3 (upd H3 S.wl (.lst (us ++ [.ref q]))) := But.set
    have hlen := al.length
    refine ⟨S.wl, us, .ref q, rfl, rfl, i4, Nat.lt_of_le_of_lt (show us.length ≤ 1000 by omega) (by decide), ?_⟩
    have F : ∀ a o, a ≠ S.wD → a ≠ S.mD → a ≠ S.wl → H a = some o → upd H3 S.wl (.lst (us ++ [.ref q])) a = some o := fun a o n1 n2 n3 e => B4.at n3 (S3 _ _ (B2.at n2 (B1.at n1 e)))
    exact k _ F (pc.note F (B4.at (fun z => by rw [z, h4] at h2; cases h2) (S3 _ _ h2)) (B4.at (fun z => by rw [z, h4] at h3; cases h3) (S3 _ _ h3)) upd_same ((al_but (hl.same S3) i4 B4).snoc (B4.at (fun z => by rw [z, i4] at eq; cases eq) eq))))
end
end V59

namespace V59
open PySem PySem.Spec PyProof.Rows L2 Pw
/-! ### a letter sent -/
section
variable {P : Program} {w : World} {K : PySem.W.Frag} {mg : Str → Option Value} {base : Heap} {C E : Addr}
def spSend (E : Addr) (K : PySem.W.Frag) : Sp := fun vs H Q _ => ∃ r S, ∃ t' : Int, vs = [.ref r, .int t'] ∧ PcAt E H r S ∧ S.t ≤ t' ∧ 0 ≤ t' ∧ t' ≤ 9999 ∧ S.sent.length < 100 ∧ S.wt.length ≤ 100 ∧
  ∀ q wl' H', (∀ a o, a ≠ r → a ≠ S.sl → H a = some o → H' a = some o) → LtAt H' q ⟨S.pl, (S.sent.length : Int) + 1, t', S.wt⟩ → H wl' = none → PcAt E H' r { S with t := t', wl := wl', wt := [], sent := S.sent ++ [q] } → Q (.ref q) H'
theorem d_send (T : Txt mg) (Wp : PcC K E) (A : AtMt K E "send" "Place.send" mPlace_Send) (dt : Def P w K mg base "check_time" 5 ["thing"] (spChkT K)) (dc : DefM P w K mg base E "_come_to" 1 ["self", "time"] (spCome E)) : DefM P w K mg base E "send" 6 ["self", "time"] (spSend E K) := by
  refine mkDefM A scmPlace_Send (fun _ _ _ _ _ _ us hl => match us, hl with | [_, _], _ => rfl) (fun vs H Q X ⟨_, _, _, e, _⟩ => by rw [e]; rfl)
    (fun f cdv A out s H vs Q X hr h => ?_)
  obtain ⟨r, S, t', rfl, pc, le, t0, t9, sf, wf, k⟩ := h
  refine ⟨_, (pss_cons (ps_expr (pe_d dt hr (by decide) (by rfl) (pa_cons (pv 1) pa_nil)))
    (pss_cons (ps_expr (pe_mm (pv 0) Wp.cl dc hr (by decide) (pa_cons (pv 1) pa_nil)))
    (pss_cons (ps_set (i := 2) scmPlace_Send.nd rfl (.inl rfl) (pe_tup (pa_cons pe_str (pa_cons (pe_fld (pv 0) rfl) (pa_cons (pe_op op_add (pe_callB call_len_seq (by rfl) T.len PySem.boot_len (pa_cons (pe_fld (pv 0) rfl) pa_nil)) pe_int) (pa_cons (pv 1) (pa_cons (pe_callTy call_tuple_of (by rfl) T.tuple (by decide +kernel) (pa_cons (pe_fld (pv 0) rfl) pa_nil)) pa_nil)))))))
    (pss_cons (ps_expr (pe_bm PySem.F.plainAttrs_list PySem.F.slot_list_append PySem.F.type_list_append mt_append (pe_fld (pv 0) rfl) (pa_cons (pv 2) pa_nil)))
    (pss_cons (ps_fld (pv 0) (pe_lst pa_nil) rfl)
    (pss_one (ps_ret (pv 2)))))))), ?_⟩
  obtain ⟨dx, e1⟩ := pc.me
  refine ⟨_, rfl, t', rfl, t0, t9, ?_⟩
  refine ⟨_, rfl, r, dx, _, rfl, e1, pcf_no ⟨by decide +kernel, by decide +kernel, by decide +kernel, by decide +kernel, by decide +kernel, by decide +kernel, by decide +kernel, by decide +kernel, by decide +kernel, by decide +kernel⟩, _, rfl, r, S, t', rfl, pc, le, fun H1 B1 pc1 => ?_⟩
  obtain ⟨dx1, g1⟩ := pc1.me
  obtain ⟨us1, g4, al1⟩ := pc1.l
  have g5 : H1 S.sl = some (.lst (S.sent.map V.ref)) := pc1.s
  have hlen := al1.length
  refine ⟨_, rfl, r, E, dx1, _, _, rfl, g1, Wp.cl, Wp.nNa, pcf_name, _, rfl, r, E, dx1, _, _, rfl, g1, Wp.cl, Wp.nSe, pcf_sent, S.sl, _, rfl, .inl (SqL.of g5), _, _, rfl, rfl, _, rfl, _, rfl, r, E, dx1, _, _, rfl, g1, Wp.cl, Wp.nWa, pcf_waiting, S.wl, us1, rfl, .inl ⟨SqL.of g4, fun tp ntp => ?_⟩⟩
  have S2 := Same.laid (o := HO.tup us1) ntp
  have etp : upd H1 tp (.tup us1) tp = some (.tup us1) := upd_same
  generalize upd H1 tp (.tup us1) = H2 at *
  rw [List.length_map]
  refine ⟨by show 5 ≤ sizeLine; decide, fun q nq => ?_⟩
  have S3 := Same.laid (o := HO.tup [.str "signs", .str S.pl, .int ((S.sent.length : Int) + 1), .int t', .ref tp]) nq
  have eq : upd H2 q (.tup [.str "signs", .str S.pl, .int ((S.sent.length : Int) + 1), .int t', .ref tp]) q = some (.tup [.str "signs", .str S.pl, .int ((S.sent.length : Int) + 1), .int t', .ref tp]) := upd_same
  generalize upd H2 q (.tup [.str "signs", .str S.pl, .int ((S.sent.length : Int) + 1), .int t', .ref tp]) = H3 at *
  have S13 := S2.trans S3
  have pc3 := pc1.same S13
  have h1 := S13 _ _ g1
  have h5 := S13 _ _ g5
  have hL : LtAt H3 q ⟨S.pl, (S.sent.length : Int) + 1, t', S.wt⟩ := ⟨tp, us1, eq, S3 _ _ etp, al1.same S13⟩
  dsimp only [gName]
  refine ⟨_, rfl, r, E, dx1, _, _, rfl, h1, Wp.cl, Wp.nSe, pcf_sent, .inl ⟨rfl, _, SqL.of h5⟩, _, rfl, S.sl, _, .ref q, rfl, rfl, h5, Nat.lt_of_le_of_lt (show _ ≤ 100 by rw [List.length_map]; omega) (by decide), ?_⟩
  have B4 : But S.sl H3 (upd H3 S.sl (.lst (S.sent.map V.ref ++ [.ref q]))) := But.set
  have i5 : upd H3 S.sl (.lst (S.sent.map V.ref ++ [.ref q])) S.sl = some (.lst ((S.sent ++ [q]).map V.ref)) := by rw [upd_same, List.map_append]; rfl
  generalize upd H3 S.sl (.lst (S.sent.map V.ref ++ [.ref q])) = H4 at *
  have i1 := B4.at (fun z => by rw [z, h5] at h1; cases h1) h1
  have t4 : ∀ {a : Addr} {xs : List V}, H3 a = some (.tup xs) → H4 a = some (.tup xs) := fun e => B4.at (fun z => by rw [z, h5] at e; cases e) e
  refine ⟨by show 0 ≤ sizeLine; decide, fun nl nnl => ?_⟩
  have S5 := Same.laid (o := HO.lst []) nnl
  have enl : upd H4 nl (.lst []) nl = some (.lst []) := upd_same
  have nls : nl ≠ S.sl := (ne_of_none i5 nnl).symm
  have n0 : ∀ {a : Addr} {o : HO}, H3 a = some o → a ≠ S.sl → nl ≠ a := fun e na z => by
    have := B4.at na e
    rw [← z, nnl] at this; cases this
  generalize upd H4 nl (.lst []) = H5 at *
  have j1 := S5 _ _ i1
  refine ⟨_, rfl, r, E, dx1, _, rfl, j1, Wp.cl, Wp.nWa, by show _ < 1000; exact Nat.lt_of_le_of_lt (show 10 ≤ 10 by decide) (by decide), ?_⟩
  unfold Pl.fs
  rw [pcf_put_waiting]
  have B6 : But r H5 (upd H5 r (.ins E dx1 (Pl.fs { S with t := t', wl := nl, wt := [], sent := S.sent ++ [q] }))) := But.set
  have er6 : upd H5 r (.ins E dx1 (Pl.fs { S with t := t', wl := nl, wt := [], sent := S.sent ++ [q] })) r = some (.ins E dx1 (Pl.fs { S with t := t', wl := nl, wt := [], sent := S.sent ++ [q] })) := upd_same
  show ∃ v, _
  have kp : ∀ a o, a ≠ r → a ≠ S.sl → H a = some o → upd H5 r (.ins E dx1 (Pl.fs { S with t := t', wl := nl, wt := [], sent := S.sent ++ [q] })) a = some o := fun a o n1 n2 e => B6.at n1 (S5 _ _ (B4.at n2 (S13 _ _ (B1.at n1 e))))
  have fw : ∀ {a : Addr} {o : HO}, a ≠ S.sl → (∀ dy fs, o ≠ .ins E dy fs) → H3 a = some o → upd H5 r (.ins E dx1 (Pl.fs { S with t := t', wl := nl, wt := [], sent := S.sent ++ [q] })) a = some o := fun {a o} na ni e => B6.at (fun z => by
    have e2 := S5 _ _ (B4.at na e)
    rw [z, j1] at e2
    exact ni _ _ (Option.some.inj e2).symm) (S5 _ _ (B4.at na e))
  have tt : ∀ {a : Addr} {xs : List V}, H3 a = some (.tup xs) → upd H5 r (.ins E dx1 (Pl.fs { S with t := t', wl := nl, wt := [], sent := S.sent ++ [q] })) a = some (.tup xs) := fun e => fw (fun z => by rw [z, h5] at e; cases e) (fun _ _ z => by cases z) e
  have nlr : nl ≠ r := fun z => by rw [z, j1] at enl; cases enl
  have nH : H nl = none := by
    cases e : H nl with
    | none => rfl
    | some o =>
      have := B4.at nls (S13 _ _ (B1.at nlr e))
      rw [nnl] at this; cases this
  obtain ⟨vs3, el3, al3⟩ := pc3.l
  obtain ⟨ds3, ed3, dl3⟩ := pc3.d
  have nwl : (S.sl : Addr) ≠ S.dn := pc.n4
  obtain ⟨rt, vs, a1, a2, a3⟩ := hL
  refine ⟨_, rfl, k q nl _ kp ⟨rt, vs, tt a1, tt a2, a3.imp fun q xs e => tt e⟩ nH ⟨⟨dx1, er6⟩, ?_, ?_, ⟨[], ?_, .nil⟩, ?_, ?_, ⟨ds3, ?_, dl3.tups fun q xs e => tt e⟩, pc.nd, pc.few, pc.ids, pc.n1, nls, n0 ed3 nwl.symm, pc.n4⟩⟩
  · exact fw (fun z => by have e := pc3.w; rw [z, h5] at e; cases e) (fun _ _ z => by cases z) pc3.w
  · exact fw (fun z => by have e := pc3.m; rw [z, h5] at e; cases e) (fun _ _ z => by cases z) pc3.m
  · exact B6.at nlr enl
  · exact B6.at (fun z => by have e := S5 _ _ i5; rw [z, j1] at e; cases e) (S5 _ _ i5)
  · exact fw (fun z => by have e := pc3.mt; rw [z, h5] at e; cases e) (fun _ _ z => by cases z) pc3.mt
  · exact fw nwl.symm (fun _ _ z => by cases z) ed3
end
end V59

set_option maxHeartbeats 8000000
namespace V59
open PySem PySem.Spec PyProof.Rows L2 Pw
/-! ### letters of all forms, of any thing -/
def tupOf (H : Hp) (y : V) : Option (List V) := match y with
  | .ref a => (match H a with
    | some (.tup xs) => some xs
    | _ => none)
  | _ => none
theorem tupOf_at {H : Hp} {a : Addr} {xs : List V} (e : H a = some (.tup xs)) : tupOf H (.ref a) = some xs := by
  show (match H a with | some (.tup xs) => some xs | _ => none) = _
  rw [e]
theorem tupOf_is {H : Hp} {y : V} {xs : List V} (h : tupOf H y = some xs) : ∃ a, y = .ref a ∧ H a = some (.tup xs) := by
  unfold tupOf at h
  split at h
  · rename_i a
    split at h
    · rename_i ys e
      cases h
      exact ⟨a, rfl, e⟩
    · cases h
  · cases h
theorem tupNB_of (H : Hp) (y : V) (n : Int) : tupNB H y n = match tupOf H y with
    | some xs => decide ((xs.length : Int) = n)
    | none => false := by
  unfold tupNB tupOf
  cases y <;> try rfl
  rename_i a
  dsimp only
  cases H a with
  | none => rfl
  | some o => cases o <;> rfl
theorem tup_or (H : Hp) (y : V) (n : Int) : (∃ xs, tupOf H y = some xs ∧ (xs.length : Int) = n ∧ tupNB H y n = true) ∨ (tupNB H y n = false ∧ ∀ xs, tupOf H y = some xs → (xs.length : Int) ≠ n) := by
  have e := tupNB_of H y n
  cases h : tupOf H y with
  | none =>
    rw [h] at e
    exact .inr ⟨e, fun xs z => by cases z⟩
  | some xs =>
    rw [h] at e
    by_cases hl : (xs.length : Int) = n
    · exact .inl ⟨xs, rfl, hl, e.trans (decide_eq_true hl)⟩
    · exact .inr ⟨e.trans (decide_eq_false hl), fun ys z => by cases z; exact hl⟩
def Kn0 (K : PySem.W.Frag) (H : Hp) (y : V) : Prop := (∃ t, Ty K H y t) ∧ Short y
def Kn1 (K : PySem.W.Frag) (H : Hp) (y : V) : Prop := Kn0 K H y ∧ ∀ xs, tupOf H y = some xs → ∀ x ∈ xs, Kn0 K H x
def Kn2 (K : PySem.W.Frag) (H : Hp) (y : V) : Prop := Kn0 K H y ∧ ∀ xs, tupOf H y = some xs → (∀ x ∈ xs, Kn1 K H x) ∧ (xs.length ≠ 4 → ∀ x, xs[0]? = some x → x = .non ∨ (∃ s : Str, x = .str s) ∨ ∃ i, x = .int i)
theorem tupOf_same {K : PySem.W.Frag} {H H' : Hp} {y : V} (h : Kn0 K H y) (S : Same H H') : tupOf H' y = tupOf H y := by
  obtain ⟨⟨t, ty⟩, _⟩ := h
  cases ty with
  | non => rfl
  | bl b => rfl
  | int i => rfl
  | str s => rfl
  | lst e => simp only [tupOf, e, S _ _ e]
  | tup e => simp only [tupOf, e, S _ _ e]
  | dct e => simp only [tupOf, e, S _ _ e]
  | exc e ed c => simp only [tupOf, e, S _ _ e]
theorem Kn0.same {K : PySem.W.Frag} {H H' : Hp} {y : V} (h : Kn0 K H y) (S : Same H H') : Kn0 K H' y := let ⟨⟨t, ty⟩, s⟩ := h; ⟨⟨t, ty.same S⟩, s⟩
theorem Kn1.same {K : PySem.W.Frag} {H H' : Hp} {y : V} (h : Kn1 K H y) (S : Same H H') : Kn1 K H' y := ⟨h.1.same S, fun xs e x hx => (h.2 xs ((tupOf_same h.1 S).symm.trans e) x hx).same S⟩
theorem Kn2.same {K : PySem.W.Frag} {H H' : Hp} {y : V} (h : Kn2 K H y) (S : Same H H') : Kn2 K H' y :=
  ⟨h.1.same S, fun xs e => let ⟨a, b⟩ := h.2 xs ((tupOf_same h.1 S).symm.trans e); ⟨fun x hx => (a x hx).same S, b⟩⟩
theorem Kn2.k1 {K : PySem.W.Frag} {H : Hp} {y : V} (h : Kn2 K H y) : Kn1 K H y := ⟨h.1, fun xs e x hx => ((h.2 xs e).1 x hx).1⟩
def idB (H : Hp) (y : V) : Bool := match tupOf H y with
  | some [a, b] => wholeB a 0 999 && wholeB b 1 999
  | _ => false
def nmIn (y : V) (ns : List Str) : Bool := match y with
  | .str s => decide (s ∈ ns)
  | _ => false
def isW (y : V) (s : Str) : Bool := decide (y = .str s)
def orderB (H : Hp) (ns : List Str) (y : V) : Bool := match tupOf H y with
  | some [a, b, c] => isW a "do" && (idB H b && nmIn c ns)
  | some [a, b] => (isW a "back" && idB H b) || (isW a "term" && wholeB b 0 999)
  | _ => false
def termsB (H : Hp) (ps : List Str) (y : V) : Bool := match tupOf H y with
  | some [a, b, c, d] => isW a "terms" && (nmIn b ps && (wholeB c 0 999 && wholeB d 0 9999))
  | _ => false
def answerB (H : Hp) (ps : List Str) (y : V) : Bool := match tupOf H y with
  | some [a, b, c, d, e, f] => isW a "answer" && ((nmIn b ps && (idB H c && oneB d ["done", "refused"])) && (wholeB e 0 999 && wholeB f 0 9999))
  | _ => false
/-- no signs -/
def noSigns (H : Hp) (y : V) : Prop := ∀ xs, tupOf H y = some xs → xs.length = 5 → ∃ s : Str, xs[0]? = some (.str s) ∧ s ≠ "signs"
theorem idB_same {K : PySem.W.Frag} {H H' : Hp} {y : V} (h : Kn0 K H y) (S : Same H H') : idB H' y = idB H y := by
  unfold idB
  rw [tupOf_same h S]
theorem orderB_same {K : PySem.W.Frag} {H H' : Hp} {y : V} {ns : List Str} (h : Kn2 K H y) (S : Same H H') : orderB H' ns y = orderB H ns y := by
  unfold orderB
  rw [tupOf_same h.1 S]
  split
  · rename_i a b c e
    rw [idB_same ((h.2 _ e).1 b (by simp)).1 S]
  · rename_i a b e
    rw [idB_same ((h.2 _ e).1 b (by simp)).1 S]
  · rfl
theorem termsB_same {K : PySem.W.Frag} {H H' : Hp} {y : V} {ns : List Str} (h : Kn2 K H y) (S : Same H H') : termsB H' ns y = termsB H ns y := by
  unfold termsB
  rw [tupOf_same h.1 S]
theorem answerB_same {K : PySem.W.Frag} {H H' : Hp} {y : V} {ns : List Str} (h : Kn2 K H y) (S : Same H H') : answerB H' ns y = answerB H ns y := by
  unfold answerB
  rw [tupOf_same h.1 S]
  split
  · rename_i a b c d e f he
    rw [idB_same ((h.2 _ he).1 c (by simp)).1 S]
  · rfl
theorem noSigns_same {K : PySem.W.Frag} {H H' : Hp} {y : V} (h : Kn0 K H y) (S : Same H H') (n : noSigns H y) : noSigns H' y := fun xs e => n xs ((tupOf_same h S).symm.trans e)
theorem scal_w {x : V} {s : Str} (h : x = .non ∨ (∃ s : Str, x = .str s) ∨ ∃ i, x = .int i) : scal x (.str s) = true := by
  rcases h with rfl | ⟨s, rfl⟩ | ⟨i, rfl⟩ <;> rfl
/-- works with their commands -/
structure WoM (K : PySem.W.Frag) (C : Addr) (H : Hp) (p : Addr) (W : Wks) (ps : List Pt) (cs : List Cm) : Prop where
  wp : WoP K C H p W ps
  km : W.km = kvs Cm.nm cs W.xm
  len : cs.length = W.xm.length
  nd : (cs.map Cm.nm).Nodup
  ok : ∀ c ∈ cs, OkName c.nm
theorem WoM.same {K : PySem.W.Frag} {C : Addr} {H H' : Hp} {p : Addr} {W : Wks} {ps : List Pt} {cs : List Cm} (h : WoM K C H p W ps cs) (S : Same H H') : WoM K C H' p W ps cs := ⟨h.wp.same S, h.km, h.len, h.nd, h.ok⟩
theorem nm_no {y : V} {ns : List Str} (ok : ∀ s ∈ ns, OkName s) (h : nameB y = false) : nmIn y ns = false := by
  cases y <;> try rfl
  rename_i s
  exact decide_eq_false fun z => by rw [(ok s z).b] at h; cases h
theorem nm_str {y : V} (h : nameB y = true) : ∃ s, y = .str s := by
  cases y <;> first | exact ⟨_, rfl⟩ | cases h
section
variable {P : Program} {w : World} {K : PySem.W.Frag} {mg : Str → Option Value} {base : Heap} {C : Addr}
theorem d_term (T : Txt mg) (A : At K mg "is_term" sIsTerm) (dw : Def P w K mg base "is_whole" 3 ["thing", "low", "high"] (spWhole K)) :
    Def P w K mg base "is_term" 4 ["thing"] (spRange K 0 999) := by
  refine mkDef A scIsTerm (fun _ _ _ _ _ _ us hl => match us, hl with | [_], _ => rfl) (fun vs H Q E ⟨x, t, e, _⟩ => by rw [e]; rfl)
    (fun f cdv A out s H vs Q E hr h => ?_)
  obtain ⟨x, t, rfl, ty, k⟩ := h
  exact ⟨_, pss_one (ps_ret (pe_d dw hr (by decide) (by rfl) (pa_cons (pv 0) (pa_cons pe_int (pa_cons (pe_gi T.cMOST_TERM) pa_nil))))),
    _, rfl, x, t, 0, 999, rfl, ty, k⟩
def spId (K : PySem.W.Frag) : Sp := fun vs H Q _ => ∃ y, vs = [y] ∧ Kn1 K H y ∧ Q (.bl (idB H y)) H
theorem d_id (T : Txt mg) (A : At K mg "is_id" sIsId) (dt : Def P w K mg base "is_tuple" 1 ["thing", "many"] (spTupN K)) (dte : Def P w K mg base "is_term" 4 ["thing"] (spRange K 0 999)) (dw : Def P w K mg base "is_whole" 3 ["thing", "low", "high"] (spWhole K)) :
    Def P w K mg base "is_id" 5 ["thing"] (spId K) := by
  refine mkDef A scIsId (fun _ _ _ _ _ _ us hl => match us, hl with | [_], _ => rfl) (fun vs H Q E ⟨_, e, _⟩ => by rw [e]; rfl)
    (fun f cdv A out s H vs Q E hr h => ?_)
  obtain ⟨y, rfl, kn, k⟩ := h
  refine ⟨_, (pss_one (ps_ret (pe_and (pe_d dt hr (by decide) (by rfl) (pa_cons (pv 0) (pa_cons pe_int pa_nil))) (pe_and (pe_d dte hr (by decide) (by rfl) (pa_cons (pe_ix (r := rIxT K) ix_tup (pv 0) pe_int (fun _ _ => rfl)) pa_nil)) (pe_one (pe_d dw hr (by decide) (by rfl) (pa_cons (pe_ix (r := rIxT K) ix_tup (pv 0) pe_int (fun _ _ => rfl)) (pa_cons pe_int (pa_cons (pe_gi T.c_MOST_ID) pa_nil))))))))), ?_⟩
  obtain ⟨t, ty⟩ := kn.1.1
  rcases tup_or H y 2 with ⟨xs, h, hl, et⟩ | ⟨et, hn⟩
  · obtain ⟨a, rfl, e⟩ := tupOf_is h
    have kx := kn.2 xs h
    match xs, hl with
    | [x1, x2], _ =>
      have e2 : idB H (.ref a) = (wholeB x1 0 999 && wholeB x2 1 999) := by
        unfold idB
        rw [h]
      rw [e2] at k
      obtain ⟨t1, ty1⟩ := (kx x1 (by simp)).1
      obtain ⟨t2, ty2⟩ := (kx x2 (by simp)).1
      refine ⟨_, rfl, .ref a, t, 2, rfl, ty, true, congrArg V.bl et, iteT ?_⟩
      refine ⟨_, rfl, a, _, 0, x1, rfl, rfl, SqT.of e, rfl, x1, t1, rfl, ty1, ?_⟩
      cases h1 : wholeB x1 0 999 with
      | true =>
        rw [h1, Bool.true_and] at k
        exact ⟨true, rfl, iteT ⟨_, rfl, a, _, 1, x2, rfl, rfl, SqT.of e, rfl, x2, t2, 1, 999, rfl, ty2, k⟩⟩
      | false =>
        rw [h1, Bool.false_and] at k
        exact ⟨false, rfl, iteF k⟩
  · have e2 : idB H y = false := by
      unfold idB
      split
      · rename_i e
        exact absurd rfl (hn _ e)
      · rfl
    rw [e2] at k
    exact ⟨_, rfl, y, t, 2, rfl, ty, false, congrArg V.bl et, iteF k⟩
/-- has_command, of any thing -/
def spHasC (C : Addr) (K : PySem.W.Frag) : Sp := fun vs H Q _ => ∃ p W ps cs y, vs = [.ref p, y] ∧ WoM K C H p W ps cs ∧ Kn0 K H y ∧ ∀ H', Same H H' → Q (.bl (nmIn y (cs.map Cm.nm))) H'
theorem d_hasC (Wc : WoC K C) (A : AtMt K C "has_command" "Works.has_command" mWorks_HasCommand) (dn : Def P w K mg base "is_name" 1 ["thing"] (spName K)) :
    DefM P w K mg base C "has_command" 2 ["self", "thing"] (spHasC C K) := by
  refine mkDefM A scmWorks_HasCommand (fun _ _ _ _ _ _ us hl => match us, hl with | [_, _], _ => rfl) (fun vs H Q E ⟨_, _, _, _, _, e, _⟩ => by rw [e]; rfl)
    (fun f cdv A out s H vs Q E hr h => ?_)
  obtain ⟨p, W, ps, cs, y, rfl, hw, ⟨⟨t, ty⟩, sh⟩, k⟩ := h
  have hu : (A.deeper (envOfC "Works.has_command" (defScope mWorks_HasCommand) s.heap.objs.size f cdv)).units + 1 < cLine := hu_of hr
  refine ⟨_, (pss_one (ps_ret (pe_and (pe_d dn hr (by decide) (by rfl) (pa_cons (pv 1) pa_nil)) (pe_one (pe_cmp (pc_din hu (pv 1) (pe_fld (pv 0) rfl)) rfl))))), ?_⟩
  have ok : ∀ s ∈ cs.map Cm.nm, OkName s := fun s hs => by
    obtain ⟨c, hc, rfl⟩ := List.mem_map.mp hs
    exact hw.ok c hc
  refine ⟨_, rfl, y, t, rfl, ty, sh, fun H1 S1 => ⟨_, rfl, ?_⟩⟩
  refine ite2 (fun hb => ?_) (fun hb => ?_)
  · obtain ⟨nm, rfl⟩ := nm_str hb
    have hw1 := hw.same S1
    obtain ⟨dx, tp, dp, tr, dr, tc, tm, dm, tl, e0, e1, e2, e3, e4, e5, e6, e7, e8⟩ := hw1.wp.wo.ex
    rw [hw.km] at e7
    refine ⟨_, rfl, _, rfl, p, C, dx, _, _, rfl, e0, Wc.cl, Wc.nCd, (lk_ne (by decide +kernel)).trans ((lk_ne (by decide +kernel)).trans ((lk_ne (by decide +kernel)).trans ((lk_ne (by decide +kernel)).trans ((lk_ne (by decide +kernel)).trans ((lk_ne (by decide +kernel)).trans lk_eq))))), dm, _, rfl, .inl ⟨_, .inr nm, .inl e7, rfl, rfl⟩, ?_⟩
    have kk : Q (.bl (decide (nm ∈ cs.map Cm.nm))) H1 := k H1 S1
    by_cases hm : nm ∈ cs.map Cm.nm
    · rw [decide_eq_true hm] at kk
      obtain ⟨c, hc, rfl⟩ := List.mem_map.mp hm
      obtain ⟨i, hi, ei⟩ := List.getElem_of_mem hc
      have hv : i < W.xm.length := by rw [← hw.len]; exact hi
      rw [kvs_get Cm.nm hw.nd (List.getElem?_eq_some_iff.mpr ⟨hi, ei⟩) (List.getElem?_eq_getElem hv)]
      exact kk
    · rw [decide_eq_false hm] at kk
      rw [kvs_no Cm.nm hw.len hm]
      exact kk
  · have e := Bool.eq_false_iff.mpr hb
    have kk := k H1 S1
    rw [nm_no ok e] at kk
    exact kk
/-- has_place, of any thing -/
def spHasPA (C : Addr) (K : PySem.W.Frag) : Sp := fun vs H Q _ => ∃ p W ps y, vs = [.ref p, y] ∧ WoP K C H p W ps ∧ Kn0 K H y ∧ ∀ H', Same H H' → Q (.bl (nmIn y (ps.map Pt.pl))) H'
theorem d_hasPA (Wc : WoC K C) (A : AtMt K C "has_place" "Works.has_place" mWorks_HasPlace) (dn : Def P w K mg base "is_name" 1 ["thing"] (spName K)) (dp : DefM P w K mg base C "places" 1 ["self"] (spPlaces C K)) :
    DefM P w K mg base C "has_place" 2 ["self", "thing"] (spHasPA C K) := by
  refine mkDefM A scmWorks_HasPlace (fun _ _ _ _ _ _ us hl => match us, hl with | [_, _], _ => rfl) (fun vs H Q E ⟨_, _, _, _, e, _⟩ => by rw [e]; rfl)
    (fun f cdv A out s H vs Q E hr h => ?_)
  obtain ⟨p, W, ps, y, rfl, hw, ⟨⟨t, ty⟩, sh⟩, k⟩ := h
  refine ⟨_, (pss_one (ps_ret (pe_and (pe_d dn hr (by decide) (by rfl) (pa_cons (pv 1) pa_nil)) (pe_one (pe_cmpR op_in_seq (pv 1) (pe_mm0 (pv 0) Wc.cl dp hr (by decide)) (by rfl)))))), ?_⟩
  have ok : ∀ s ∈ ps.map Pt.pl, OkName s := fun s hs => by
    obtain ⟨c, hc, rfl⟩ := List.mem_map.mp hs
    exact (hw.g.all c hc).pl
  refine ⟨_, rfl, y, t, rfl, ty, sh, fun H1 S1 => ⟨_, rfl, ?_⟩⟩
  refine ite2 (fun hb => ?_) (fun hb => ?_)
  · obtain ⟨s0, rfl⟩ := nm_str hb
    have hw1 := hw.same S1
    obtain ⟨dx, tp, dp', tr, dr, tc, tm, dm, tl, e0, _⟩ := hw1.wo.ex
    refine ⟨_, rfl, _, rfl, p, dx, _, rfl, e0, wof_no (by decide +kernel) (by decide +kernel) (by decide +kernel) (by decide +kernel) (by decide +kernel) (by decide +kernel) (by decide +kernel) (by decide +kernel), p, W, ps, rfl, hw1, fun ys l H2 S2 nl el hm _ => ?_⟩
    refine ⟨l, _, rfl, .inl (SqL.of el), rfl, flat_strs _, ?_⟩
    rw [inV_str]
    have : decide (s0 ∈ ys) = decide (s0 ∈ ps.map Pt.pl) := by
      by_cases h : s0 ∈ ps.map Pt.pl
      · rw [decide_eq_true h, decide_eq_true ((hm s0).mpr h)]
      · rw [decide_eq_false h, decide_eq_false fun z => h ((hm s0).mp z)]
    rw [this]
    exact k _ (S1.trans S2)
  · have e := Bool.eq_false_iff.mpr hb
    have kk := k H1 S1
    rw [nm_no ok e] at kk
    exact kk
def spOrder (C : Addr) (K : PySem.W.Frag) : Sp := fun vs H Q _ => ∃ p W ps cs y, vs = [.ref p, y] ∧ WoM K C H p W ps cs ∧ Kn2 K H y ∧ ∀ H', Same H H' → Q (.bl (orderB H (cs.map Cm.nm) y)) H'
theorem d_order (Wc : WoC K C) (A : At K mg "is_order" sIsOrder) (dc : Def P w K mg base "check_works" 1 ["thing"] (spWorksC C K)) (dt : Def P w K mg base "is_tuple" 1 ["thing", "many"] (spTupN K)) (di : Def P w K mg base "is_id" 5 ["thing"] (spId K))
    (dh : DefM P w K mg base C "has_command" 2 ["self", "thing"] (spHasC C K)) (dte : Def P w K mg base "is_term" 4 ["thing"] (spRange K 0 999)) : Def P w K mg base "is_order" 6 ["works", "thing"] (spOrder C K) := by
  refine mkDef A scIsOrder (fun _ _ _ _ _ _ us hl => match us, hl with | [_, _], _ => rfl) (fun vs H Q E ⟨_, _, _, _, _, e, _⟩ => by rw [e]; rfl)
    (fun f cdv A out s H vs Q E hr h => ?_)
  obtain ⟨p, W, ps, cs, y, rfl, hw, kn, k⟩ := h
  refine ⟨_, (pss_cons (ps_expr (pe_d dc hr (by decide) (by rfl) (pa_cons (pv 0) pa_nil)))
    (pss_cons (ps_if (pt_val (pe_d dt hr (by decide) (by rfl) (pa_cons (pv 1) (pa_cons pe_int pa_nil))))
      (pss_cons (ps_asg (pv 1) (pg_tup (by rfl) (pgs_cons (pg_name (i := 2) scIsOrder.nd rfl (.inl rfl)) (pgs_cons (pg_name (i := 3) scIsOrder.nd rfl (.inl rfl)) (pgs_cons (pg_name (i := 4) scIsOrder.nd rfl (.inl rfl)) pgs_nil)))))
      (pss_one (ps_ret (pe_and (pe_cmpR op_eq (pv 2) pe_str (nomark _)) (pe_and (pe_d di hr (by decide) (by rfl) (pa_cons (pv 3) pa_nil)) (pe_one (pe_mm (pv 0) Wc.cl dh hr (by decide) (pa_cons (pv 4) pa_nil))))))))
      pss_nil)
    (pss_cons (ps_if (pt_not (pt_val (pe_d dt hr (by decide) (by rfl) (pa_cons (pv 1) (pa_cons pe_int pa_nil)))))
      (pss_one (ps_ret pe_bl))
      pss_nil)
    (pss_cons (ps_asg (pv 1) (pg_tup (by rfl) (pgs_cons (pg_name (i := 2) scIsOrder.nd rfl (.inl rfl)) (pgs_cons (pg_name (i := 5) scIsOrder.nd rfl (.inl rfl)) pgs_nil))))
    (pss_one (ps_ret (pe_or (pe_and (pe_cmpR op_eq (pv 2) pe_str (nomark _)) (pe_one (pe_d di hr (by decide) (by rfl) (pa_cons (pv 5) pa_nil)))) (pe_one (pe_and (pe_cmpR op_eq (pv 2) pe_str (nomark _)) (pe_one (pe_d dte hr (by decide) (by rfl) (pa_cons (pv 5) pa_nil)))))))))))), ?_⟩
  obtain ⟨t, ty⟩ := kn.1.1
  have kk := k H (Same.refl _)
  refine ⟨_, rfl, p, W, rfl, hw.wp.wo, ?_⟩
  rcases tup_or H y 3 with ⟨xs, h, hl, et⟩ | ⟨et, hn⟩
  · obtain ⟨a, rfl, e⟩ := tupOf_is h
    obtain ⟨kx, hd⟩ := kn.2 xs h
    match xs, hl with
    | [x1, x2, x3], _ =>
      have e2 : orderB H (cs.map Cm.nm) (.ref a) = (isW x1 "do" && (idB H x2 && nmIn x3 (cs.map Cm.nm))) := by
        unfold orderB
        rw [h]
      rw [e2] at kk
      refine ⟨_, rfl, .ref a, t, 3, rfl, ty, true, congrArg V.bl et, iteT ?_⟩
      refine ⟨_, rfl, a, _, rfl, SqT.of e, rfl, _, _, rfl, _, _, rfl, _, _, rfl, rfl, ?_⟩
      refine ⟨_, rfl, scal_w (hd (by simp) x1 rfl), _, rfl, ?_⟩
      unfold isW at kk
      cases h1 : decide (x1 = V.str "do") with
      | false =>
        rw [h1, Bool.false_and] at kk
        exact iteF kk
      | true =>
        rw [h1, Bool.true_and] at kk
        refine iteT ⟨_, rfl, x2, rfl, kx x2 (by simp), _, rfl, ?_⟩
        cases h2 : idB H x2 with
        | false =>
          rw [h2, Bool.false_and] at kk
          exact iteF kk
        | true =>
          rw [h2, Bool.true_and] at kk
          obtain ⟨dx, tp, dp', tr, dr, tc, tm, dm, tl, e0, _⟩ := hw.wp.wo.ex
          refine iteT ⟨_, rfl, p, dx, _, rfl, e0, wof_no (by decide +kernel) (by decide +kernel) (by decide +kernel) (by decide +kernel) (by decide +kernel) (by decide +kernel) (by decide +kernel) (by decide +kernel), _, rfl, p, W, ps, cs, x3, rfl, hw, (kx x3 (by simp)).1, fun H' S => ?_⟩
          have k3 := k H' S
          unfold isW at e2
          rw [e2, h1, h2] at k3
          exact k3
  · refine ⟨_, rfl, y, t, 3, rfl, ty, false, congrArg V.bl et, iteF ?_⟩
    rcases tup_or H y 2 with ⟨xs, h, hl, et2⟩ | ⟨et2, hn2⟩
    · obtain ⟨a, rfl, e⟩ := tupOf_is h
      obtain ⟨kx, hd⟩ := kn.2 xs h
      match xs, hl with
      | [x1, x2], _ =>
        have e2 : orderB H (cs.map Cm.nm) (.ref a) = ((isW x1 "back" && idB H x2) || (isW x1 "term" && wholeB x2 0 999)) := by
          unfold orderB
          rw [h]
        rw [e2] at kk
        unfold isW at kk
        obtain ⟨t2, ty2⟩ := (kx x2 (by simp)).1.1
        refine ⟨_, rfl, .ref a, t, 2, rfl, ty, true, congrArg V.bl et2, iteF ?_⟩
        refine ⟨_, rfl, a, _, rfl, SqT.of e, rfl, _, _, rfl, _, _, rfl, rfl, ?_⟩
        refine ⟨_, rfl, scal_w (hd (by simp) x1 rfl), _, rfl, ?_⟩
        cases h1 : decide (x1 = V.str "back") with
        | false =>
          rw [h1, Bool.false_and, Bool.false_or] at kk
          refine iteF ⟨_, rfl, iteF ?_⟩
          refine ⟨_, rfl, scal_w (hd (by simp) x1 rfl), _, rfl, ?_⟩
          cases h3 : decide (x1 = V.str "term") with
          | false =>
            rw [h3, Bool.false_and] at kk
            exact iteF kk
          | true =>
            rw [h3, Bool.true_and] at kk
            exact iteT ⟨_, rfl, x2, t2, rfl, ty2, kk⟩
        | true =>
          rw [h1, Bool.true_and] at kk
          refine iteT ⟨_, rfl, x2, rfl, kx x2 (by simp), _, rfl, ?_⟩
          cases h2 : idB H x2 with
          | true =>
            rw [h2, Bool.true_or] at kk
            exact iteT kk
          | false =>
            rw [h2, Bool.false_or] at kk
            refine iteF ?_
            refine ⟨_, rfl, scal_w (hd (by simp) x1 rfl), _, rfl, ?_⟩
            cases h3 : decide (x1 = V.str "term") with
            | false =>
              rw [h3, Bool.false_and] at kk
              exact iteF kk
            | true =>
              rw [h3, Bool.true_and] at kk
              exact iteT ⟨_, rfl, x2, t2, rfl, ty2, kk⟩
    · have e2 : orderB H (cs.map Cm.nm) y = false := by
        unfold orderB
        split
        · rename_i e
          exact absurd rfl (hn _ e)
        · rename_i e
          exact absurd rfl (hn2 _ e)
        · rfl
      rw [e2] at kk
      exact ⟨_, rfl, y, t, 2, rfl, ty, false, congrArg V.bl et2, iteT kk⟩
def HdS (H : Hp) (y : V) : Prop := ∀ xs, tupOf H y = some xs → ∀ x, xs[0]? = some x → x = .non ∨ (∃ s : Str, x = .str s) ∨ ∃ i, x = .int i
theorem HdS.same {K : PySem.W.Frag} {H H' : Hp} {y : V} (h : HdS H y) (k : Kn0 K H y) (S : Same H H') : HdS H' y := fun xs e => h xs ((tupOf_same k S).symm.trans e)
def spTerms (C : Addr) (K : PySem.W.Frag) : Sp := fun vs H Q _ => ∃ p W ps y, vs = [.ref p, y] ∧ WoP K C H p W ps ∧ Kn2 K H y ∧ HdS H y ∧ ∀ H', Same H H' → Q (.bl (termsB H (ps.map Pt.pl) y)) H'
def spAnswer (C : Addr) (K : PySem.W.Frag) : Sp := fun vs H Q _ => ∃ p W ps y, vs = [.ref p, y] ∧ WoP K C H p W ps ∧ Kn2 K H y ∧ ∀ H', Same H H' → Q (.bl (answerB H (ps.map Pt.pl) y)) H'
def letterB (H : Hp) (ps ns : List Str) (y : V) : Bool := orderB H ns y || (termsB H ps y || answerB H ps y)
end
end V59

namespace V59
open PySem PySem.Spec PyProof.Rows L2 Pw
/-! ### a command by its name, and whether a place may do it -/
def picK (l : List (Str × Int)) : List (Key × V) := l.map fun p => (.inr p.1, .int p.2)
def wg (l : List (Str × Int)) (n : Str) : Option Int := (l.find? fun p => decide (p.1 = n)).map (·.2)
def wo_ (l : List (Str × Int)) (n : Str) : Int := (wg l n).getD 0
theorem valV_pic (n : Str) : ∀ l : List (Str × Int), valV (picK l) (.inr n) = (wg l n).map V.int
  | [] => rfl
  | p :: l => by
    have ih := valV_pic n l
    unfold valV wg picK at ih ⊢
    rw [List.map_cons, List.find?_cons, List.find?_cons]
    by_cases e : p.1 = n
    · rw [decide_eq_true e, decide_eq_true (congrArg Sum.inr e)]
      rfl
    · rw [decide_eq_false e, decide_eq_false (fun z => e (Sum.inr.inj z))]
      exact ih
section
variable {P : Program} {w : World} {K : PySem.W.Frag} {mg : Str → Option Value} {base : Heap} {C E : Addr}
/-- is a worth beyond a limit -/
def bey (up : Bool) (lim x : Int) : Bool := if up = true then decide (x > lim) else decide (x < lim)
def spBey : Sp := fun vs H Q _ => ∃ up lim x, vs = [.str (ud up), .int lim, .int x] ∧ Q (.bl (bey up lim x)) H
theorem d_bey (A : At K mg "is_beyond" sIsBeyond) : Def P w K mg base "is_beyond" 1 ["word", "limit", "worth"] spBey := by
  refine mkDef A scIsBeyond (fun _ _ _ _ _ _ us hl => match us, hl with | [_, _, _], _ => rfl) (fun vs H Q E ⟨_, _, _, e, _⟩ => by rw [e]; rfl)
    (fun f cdv A out s H vs Q E hr h => ?_)
  obtain ⟨up, lim, x, rfl, k⟩ := h
  refine ⟨_, (pss_one (ps_ret (pe_ifExp (pt_cmpR op_eq (pv 0) pe_str (nomark _)) (pe_cmpR op_gt (pv 2) (pv 1) (nomark _)) (pe_cmpR op_lt (pv 2) (pv 1) (nomark _))))), ?_⟩
  refine ⟨_, rfl, rfl, _, rfl, ?_⟩
  rw [ud_above]
  unfold bey at k
  cases up with
  | true => exact iteT ⟨_, rfl, _, rfl, x, lim, rfl, rfl, k⟩
  | false => exact iteF ⟨_, rfl, _, rfl, x, lim, rfl, rfl, k⟩
/-- does a lock hold -/
def lkh (l : List (Str × Int)) (b : Lk) : Bool := match wg l b.pt with
  | none => false
  | some x => bey b.up b.lim x
def spLkh : Sp := fun vs H Q _ => ∃ q d b l, vs = [.ref q, .ref d] ∧ H q = some (.tup (fL b)) ∧ H d = some (.dK (picK l)) ∧ Q (.bl (lkh l b)) H
theorem d_lkh (A : At K mg "lock_holds" sLockHolds) (db : Def P w K mg base "is_beyond" 1 ["word", "limit", "worth"] spBey) : Def P w K mg base "lock_holds" 2 ["lock", "worths"] spLkh := by
  refine mkDef A scLockHolds (fun _ _ _ _ _ _ us hl => match us, hl with | [_, _], _ => rfl) (fun vs H Q E ⟨_, _, _, _, e, _⟩ => by rw [e]; rfl)
    (fun f cdv A out s H vs Q E hr h => ?_)
  obtain ⟨q, d, b, l, rfl, eq, ed, k⟩ := h
  have hu : (A.deeper (envOfC "lock_holds" (defScope sLockHolds) s.heap.objs.size f cdv)).units + 1 < cLine := hu_of hr
  refine ⟨_, (pss_cons (ps_asg (pv 0) (pg_tup (by rfl) (pgs_cons (pg_name (i := 2) scLockHolds.nd rfl (.inl rfl)) (pgs_cons (pg_name (i := 3) scLockHolds.nd rfl (.inl rfl)) (pgs_cons (pg_name (i := 4) scLockHolds.nd rfl (.inl rfl)) pgs_nil)))))
    (pss_one (ps_ret (pe_and (pe_cmp (pc_din hu (pv 2) (pv 1)) rfl) (pe_one (pe_d db hr (by decide) (by rfl) (pa_cons (pv 3) (pa_cons (pv 4) (pa_cons (pe_dget hu (pv 1) (pv 2) (fun _ _ => rfl)) pa_nil))))))))), ?_⟩
  refine ⟨_, rfl, q, _, rfl, SqT.of eq, rfl, _, _, rfl, _, _, rfl, _, _, rfl, rfl, ?_⟩
  have get : DGet H d (.str b.pt) ((wg l b.pt).map V.int) := .inl ⟨_, .inr b.pt, .inl ed, rfl, (valV_pic b.pt l).symm⟩
  refine ⟨_, rfl, _, rfl, d, (wg l b.pt).map V.int, rfl, get, ?_⟩
  unfold lkh at k
  cases hw : wg l b.pt with
  | none => rw [hw] at k; exact ⟨_, rfl, iteF k⟩
  | some x =>
    rw [hw] at k get
    exact ⟨_, rfl, iteT ⟨_, rfl, _, rfl, _, rfl, _, rfl, d, .int x, rfl, get, b.up, b.lim, x, rfl, k⟩⟩
/-- works with commands -/
structure WkC (K : PySem.W.Frag) (C : Addr) (H : Hp) (p : Addr) (W : Wks) (ps : List Pt) (cs : List Cm) : Prop where
  wm : WoM K C H p W ps cs
  al : Al fC H W.xm cs
  lk : ∀ c ∈ cs, LkT H c
theorem WkC.same {H H' : Hp} {p : Addr} {W : Wks} {ps : List Pt} {cs : List Cm} (h : WkC K C H p W ps cs) (S : Same H H') : WkC K C H' p W ps cs := ⟨h.wm.same S, h.al.same S, fun c hc => (h.lk c hc).same S⟩
def spCmd (C : Addr) (K : PySem.W.Frag) : Sp := fun vs H Q _ => ∃ p W ps cs c, vs = [.ref p, .str (Cm.nm c)] ∧ WkC K C H p W ps cs ∧ c ∈ cs ∧ ∀ q H', Same H H' → H' q = some (.tup (fC c)) → Q (.ref q) H'
theorem d_cmd (Wc : WoC K C) (A : AtMt K C "command" "Works.command" mWorks_Command) (dh : DefM P w K mg base C "has_command" 2 ["self", "thing"] (spHasC C K)) :
    DefM P w K mg base C "command" 3 ["self", "name"] (spCmd C K) := by
  refine mkDefM A scmWorks_Command (fun _ _ _ _ _ _ us hl => match us, hl with | [_, _], _ => rfl) (fun vs H Q E ⟨_, _, _, _, _, e, _⟩ => by rw [e]; rfl)
    (fun f cdv A out s H vs Q E hr h => ?_)
  obtain ⟨p, W, ps, cs, c, rfl, hw, hc, k⟩ := h
  have hu : (A.deeper (envOfC "Works.command" (defScope mWorks_Command) s.heap.objs.size f cdv)).units + 1 < cLine := hu_of hr
  refine ⟨_, (pss_cons (ps_if (pt_not (pt_val (pe_mm (pv 0) Wc.cl dh hr (by decide) (pa_cons (pv 1) pa_nil))))
      (pss_one ps_never)
      pss_nil)
    (pss_one (ps_ret (pe_dget hu (pe_fld (pv 0) rfl) (pv 1) (fun _ _ => rfl))))), ?_⟩
  obtain ⟨dx, tp, dp, tr, dr, tc, tm, dm, tl, e0, _⟩ := hw.wm.wp.wo.ex
  have on := hw.wm.ok c hc
  refine ⟨_, rfl, p, dx, _, rfl, e0, wof_no (by decide +kernel) (by decide +kernel) (by decide +kernel) (by decide +kernel) (by decide +kernel) (by decide +kernel) (by decide +kernel) (by decide +kernel), _, rfl, p, W, ps, cs, .str c.nm, rfl, hw.wm, ⟨⟨_, .str _⟩, on.sh⟩, fun H1 S1 => ?_⟩
  rw [show nmIn (.str c.nm) (cs.map Cm.nm) = true from decide_eq_true (List.mem_map.mpr ⟨c, hc, rfl⟩)]
  refine ⟨_, rfl, iteF ?_⟩
  have hw1 := hw.same S1
  obtain ⟨dx, tp, dp, tr, dr, tc, tm, dm, tl, e0, e1, e2, e3, e4, e5, e6, e7, e8⟩ := hw1.wm.wp.wo.ex
  rw [hw.wm.km] at e7
  obtain ⟨i, hi, ei⟩ := List.getElem_of_mem hc
  have ei' := List.getElem?_eq_some_iff.mpr ⟨hi, ei⟩
  obtain ⟨q, hq, eq⟩ := hw1.al.at ei'
  refine ⟨_, rfl, p, C, dx, _, _, rfl, e0, Wc.cl, Wc.nCd, (lk_ne (by decide +kernel)).trans ((lk_ne (by decide +kernel)).trans ((lk_ne (by decide +kernel)).trans ((lk_ne (by decide +kernel)).trans ((lk_ne (by decide +kernel)).trans ((lk_ne (by decide +kernel)).trans lk_eq))))), _, rfl, dm, .ref q, rfl, .inl ⟨_, .inr c.nm, .inl e7, rfl, (kvs_get Cm.nm hw.wm.nd ei' hq).symm⟩, ?_⟩
  exact k q _ S1 eq
end
end V59

namespace V59
open PySem PySem.Spec PyProof.Rows L2 Pw
/-! ### may the place do it -/
theorem pe_fldK {X : Cx} {e : Expr} {f : Str} {pos : Pos} {ta : TE} {K : PySem.W.Frag} (hK : X.K = K) (he : PE X e ta) (hb : attributeBase e f X.env (eval e X.env) = eval e X.env) : PE X (.Attribute e f pos) (tFld K ta f) :=
  hK ▸ pe_fld he hb
def prs (st : List Ps) : List (Str × Int) := st.map fun s => (s.nm, s.w)
theorem wK_pic (st : List Ps) : wK st = picK (prs st) := by
  unfold wK picK prs
  rw [List.map_map]
  rfl
def may (S : Pl) (c : Cm) : Bool := (wg (prs S.st) c.pt).isSome && c.lks.all (lkh (prs S.st))
section
variable {P : Program} {w : World} {K : PySem.W.Frag} {mg : Str → Option Value} {base : Heap} {C E : Addr}
def spMay (C E : Addr) (K : PySem.W.Frag) : Sp := fun vs H Q _ => ∃ r S W ps cs c, vs = [.ref r, .str (Cm.nm c)] ∧ PcAt E H r S ∧ WkC K C H S.wa W ps cs ∧ c ∈ cs ∧ c.lks.length ≤ 100 ∧ ∀ H', Same H H' → Q (.bl (may S c)) H'
theorem d_may (T : Txt mg) (Wp : PcC K E) (Wc : WoC K C) (A : AtMt K E "_may_do" "Place._may_do" mPlace_MayDo) (dc : DefM P w K mg base C "command" 3 ["self", "name"] (spCmd C K)) (dl : Def P w K mg base "lock_holds" 2 ["lock", "worths"] spLkh) :
    DefM P w K mg base E "_may_do" 4 ["self", "command"] (spMay C E K) := by
  refine mkDefM A scmPlace_MayDo (fun _ _ _ _ _ _ us hl => match us, hl with | [_, _], _ => rfl) (fun vs H Q X ⟨_, _, _, _, _, _, e, _⟩ => by rw [e]; rfl)
    (fun f cdv A out s H vs Q X hr h => ?_)
  obtain ⟨r, S, W, ps, cs, c, rfl, pc, hw, hc, l100, k⟩ := h
  have hu : (A.deeper (envOfC "Place._may_do" (defScope mPlace_MayDo) s.heap.objs.size f cdv)).units + 1 < cLine := hu_of hr
  refine ⟨_, (pss_cons (ps_asg (pe_mm (pe_fld (pv 0) rfl) Wc.cl dc hr (by decide) (pa_cons (pv 1) pa_nil)) (pg_tup (by rfl) (pgs_cons (pg_name (i := 2) scmPlace_MayDo.nd rfl (.inl rfl)) (pgs_cons (pg_name (i := 3) scmPlace_MayDo.nd rfl (.inl rfl)) (pgs_cons (pg_name (i := 2) scmPlace_MayDo.nd rfl (.inl rfl)) (pgs_cons (pg_name (i := 4) scmPlace_MayDo.nd rfl (.inl rfl)) pgs_nil))))))
    (pss_one (ps_ret (pe_and (pe_cmp (pc_din hu (pv 3) (pe_fld (pv 0) rfl)) rfl) (pe_one (pe_callB (cr_all rfl) (by rfl) T.all PyProof.Rows.boot_all (pa_cons (pe_lc (own := [("lock", 5)]) (g := gName 5) (tt := tYes) rfl scmPlace_MayDo.nd (pi_sq (pv 4))
        (blkOk_by (own := [("lock", 5)]) (N := ["self", "command", "_", "point", "locks", "lock"]) (sc := defScope mPlace_MayDo) (by decide +kernel))
        (fun _ _ _ _ _ => (pg_name (i := 5) scmPlace_MayDo.nd rfl (.inl rfl))) (fun _ _ _ _ _ => pts_nil)
        (fun _ _ _ _ _ => (pe_d dl hr (by decide) (by rfl) (pa_cons (pv 5) (pa_cons (pe_fldK (K := K) rfl (pv 0) rfl) pa_nil))))) pa_nil))))))), ?_⟩
  obtain ⟨dx, e1⟩ := pc.me
  obtain ⟨dxw, tp, dp, tr, dr, tc, tm, dm, tl, e0, _⟩ := hw.wm.wp.wo.ex
  refine ⟨_, rfl, r, E, dx, _, _, rfl, e1, Wp.cl, Wp.nWk, pcf_works, S.wa, dxw, _, rfl, e0, wof_no (by decide +kernel) (by decide +kernel) (by decide +kernel) (by decide +kernel) (by decide +kernel) (by decide +kernel) (by decide +kernel) (by decide +kernel), _, rfl, S.wa, W, ps, cs, c, rfl, hw, hc, fun q H1 S1 eq => ?_⟩
  refine ⟨q, _, rfl, SqT.of eq, rfl, _, _, rfl, _, _, rfl, _, _, rfl, _, _, rfl, rfl, ?_⟩
  dsimp only [gName]
  have pc1 := pc.same S1
  have g1 := S1 _ _ e1
  have g2 := pc1.w
  rw [wK_pic] at g2
  refine ⟨_, rfl, _, rfl, r, E, dx, _, _, rfl, g1, Wp.cl, Wp.nWo, pcf_worths, S.wD, _, rfl, .inl ⟨_, .inr c.pt, .inl g2, rfl, (valV_pic c.pt (prs S.st)).symm⟩, ?_⟩
  have kk := k H1 S1
  unfold may at kk
  cases hwg : wg (prs S.st) c.pt with
  | none =>
    rw [hwg] at kk
    exact ⟨_, rfl, iteF kk⟩
  | some x =>
    rw [hwg] at kk
    refine ⟨_, rfl, iteT ?_⟩
    obtain ⟨vs, et, al⟩ := (hw.lk c hc).same S1
    refine ⟨_, rfl, c.t, vs, rfl, .inr (SqT.of et), fun J G hG wk D nD => ?_⟩
    have hlen := al.length
    refine lc_acc wk nD (by omega) (fun i acc _ => acc = (c.lks.take i).map fun l => V.bl (lkh (prs S.st) l)) rfl hG ?_ ?_
    · rintro i v G0 G1 acc hi S2 eD hl2 rfl ⟨rfl, hx⟩ Fy Fn hy1 _
      obtain ⟨q2, l, rfl, hl', eq2⟩ := (al.same S2).get hx
      refine ⟨rfl, ?_⟩
      unfold tYes
      refine iteT ⟨_, rfl, _, rfl, r, E, dx, _, _, rfl, S2 _ _ g1, Wp.cl, Wp.nWo, pcf_worths, q2, S.wD, l, prs S.st, rfl, eq2, S2 _ _ g2, hy1 _ _ (Same.refl _) ?_⟩
      rw [List.take_add_one, hl', List.map_append]
      rfl
    rintro H2 acc S2 eD rfl
    rw [hlen, List.take_length] at eD
    refine ⟨D, c.lks.map (lkh (prs S.st)), rfl, SqL.of (by rw [List.map_map]; exact eD), ?_⟩
    have k2 := k H2 (S1.trans S2)
    unfold may at k2
    rw [hwg] at k2
    have : (c.lks.map (lkh (prs S.st))).all id = c.lks.all (lkh (prs S.st)) := by rw [List.all_map]; rfl
    rw [this]
    exact k2
end
end V59

namespace V59
open PySem PySem.Spec PyProof.Rows L2 Pw
/-! ### an order met -/
inductive Od where
  | term (n : Int)
  | back (i : Id2)
  | act (i : Id2) (c : Str)
def mx (a b : Int) : Int := if a < b then b else a
/-- a point noted, if it is news -/
def noteP (S : Pl) (nm : Str) (n : Int) (m : Str) : Pl := if (S.st.any fun s => decide (s.nm = nm ∧ s.w = n ∧ s.m = m)) = true then S else { S with st := note S.st nm n m, wt := S.wt ++ [⟨S.t, nm, n, m⟩] }
def okS (S : Pl) (i : Id2) (c : Cm) : Bool := decide (i.1 = mx S.tm i.1) && may S c
def metS (S : Pl) (i : Id2) (c : Cm) : Pl := if okS S i c = true then { noteP { S with tm := mx S.tm i.1 } c.pt c.wo "good" with done := S.done ++ [⟨i, c.nm, S.t⟩] } else { S with tm := mx S.tm i.1 }
def Fr (H H' : Hp) (r : Addr) (S : Pl) : Prop := ∀ q o, q ≠ r → q ≠ S.wD → q ≠ S.mD → q ≠ S.wl → q ≠ S.dn → H q = some o → H' q = some o
theorem noteP_is {S : Pl} {nm : Str} {n : Int} {m : Str} : (noteP S nm n m).wa = S.wa ∧ (noteP S nm n m).pl = S.pl ∧ (noteP S nm n m).t = S.t ∧ (noteP S nm n m).tm = S.tm ∧ (noteP S nm n m).wD = S.wD ∧ (noteP S nm n m).mD = S.mD ∧ (noteP S nm n m).wl = S.wl ∧ (noteP S nm n m).sl = S.sl ∧ (noteP S nm n m).md = S.md ∧ (noteP S nm n m).dn = S.dn ∧ (noteP S nm n m).met = S.met ∧ (noteP S nm n m).done = S.done ∧ (noteP S nm n m).sent = S.sent := by
  unfold noteP
  split <;> exact ⟨rfl, rfl, rfl, rfl, rfl, rfl, rfl, rfl, rfl, rfl, rfl, rfl, rfl⟩
theorem prs_in {st : List Ps} {n : Str} (h : (wg (prs st) n).isSome = true) : ∃ s ∈ st, s.nm = n := by
  unfold wg at h
  cases e : (prs st).find? (fun p => decide (p.1 = n)) with
  | none => rw [e] at h; cases h
  | some p =>
    have h1 := List.find?_some e
    have h2 := List.mem_of_find?_eq_some e
    unfold prs at h2
    obtain ⟨s, hs, rfl⟩ := List.mem_map.mp h2
    exact ⟨s, hs, of_decide_eq_true h1⟩
/-- one thing more was done -/
theorem PcAt.did {E : Addr} {H : Hp} {r : Addr} {S : Pl} {us : List V} {v : V} {d : Dn} (h : PcAt E H r S) (e : H S.dn = some (.lst us)) (dl : Dns H us S.done) (hv : DnAt H v d) : PcAt E (upd H S.dn (.lst (us ++ [v]))) r { S with done := S.done ++ [d] } := by
  obtain ⟨dx, e1⟩ := h.me
  obtain ⟨vs, el, al⟩ := h.l
  have B : But S.dn H (upd H S.dn (.lst (us ++ [v]))) := But.set
  have t : ∀ q xs, H q = some (.tup xs) → upd H S.dn (.lst (us ++ [v])) q = some (.tup xs) := fun q xs eq => B.at (fun z => by rw [z, e] at eq; cases eq) eq
  refine ⟨⟨dx, B.at (fun z => by rw [z, e] at e1; cases e1) e1⟩, B.at (fun z => by have := h.w; rw [z, e] at this; cases this) h.w, B.at (fun z => by have := h.m; rw [z, e] at this; cases this) h.m, ⟨vs, B.at h.n3 el, al.imp t⟩, B.at h.n4 h.s, B.at (fun z => by have := h.mt; rw [z, e] at this; cases this) h.mt, ⟨_, upd_same, (dl.tups t).snoc (hv.tups t)⟩, h.nd, h.few, h.ids, h.n1, h.n2, h.n3, h.n4⟩
section
variable {K : PySem.W.Frag} {H H' : Hp} {r E dx : Addr} {S : Pl}
theorem sqT_butI {a : Addr} {xs : List V} {fs : List (Str × V)} (h : SqT K H a xs) (er : H r = some (.ins E dx fs)) (B : But r H H') : SqT K H' a xs := by
  refine h.imp (fun q => ?_) id
  rcases q with e | ⟨o, e⟩
  · exact .inl (B.at (fun z => by rw [z, er] at e; cases e) e)
  · exact .inr ⟨o, B.at (fun z => by rw [z, er] at e; cases e) e⟩
/-- the place's own record changes: the works stay -/
theorem WkC.butI {C p : Addr} {W : Wks} {ps : List Pt} {cs : List Cm} (h : WkC K C H p W ps cs) (er : H r = some (.ins E dx S.fs)) (B : But r H H') : WkC K C H' p W ps cs := by
  obtain ⟨dx', tp, dp, tr, dr, tc, tm, dm, tl, e0, e1, e2, e3, e4, e5, e6, e7, e8⟩ := h.wm.wp.wo.ex
  have t : ∀ q xs, H q = some (.tup xs) → H' q = some (.tup xs) := fun q xs e => B.at (fun z => by rw [z, er] at e; cases e) e
  have d : ∀ {q : Addr} {kv : List (Key × V)}, H q = some (.dK kv) → H' q = some (.dK kv) := fun e => B.at (fun z => by rw [z, er] at e; cases e) e
  have n0 : p ≠ r := fun z => by
    rw [z, er] at e0
    have e := Option.some.inj e0
    injection e with _ _ e
    unfold Pl.fs pcf wof at e
    injection e with e _
    injection e with e _
    exact absurd e (by decide +kernel)
  refine ⟨⟨⟨⟨dx', tp, dp, tr, dr, tc, tm, dm, tl, B.at n0 e0, sqT_butI e1 er B, d e2, sqT_butI e3 er B, d e4, sqT_butI e5 er B, sqT_butI e6 er B, d e7, sqT_butI e8 er B⟩, h.wm.wp.ks, h.wm.wp.al.imp t, h.wm.wp.g⟩, h.wm.km, h.wm.len, h.wm.nd, h.wm.ok⟩, h.al.imp t, fun c hc => ?_⟩
  obtain ⟨vs, e, al⟩ := h.lk c hc
  exact ⟨vs, t _ _ e, al.imp t⟩
end
section
variable {P : Program} {w : World} {K : PySem.W.Frag} {mg : Str → Option Value} {base : Heap} {C E : Addr}
def spMeet (C E : Addr) (K : PySem.W.Frag) : Sp := fun vs H Q _ => ∃ r S q qi i W ps cs, vs = [.ref r, .ref q] ∧ PcAt E H r S ∧ WkC K C H S.wa W ps cs ∧ H qi = some (.tup (tId i)) ∧
  ((H q = some (.tup [.str "back", .ref qi]) ∧ Q (.str "refused") H) ∨
   ∃ c, H q = some (.tup [.str "do", .ref qi, .str (Cm.nm c)]) ∧ c ∈ cs ∧ c.lks.length ≤ 100 ∧ S.wt.length < 1000 ∧ S.done.length < 1000 ∧ ∀ H', Fr H H' r S → PcAt E H' r (metS S i c) → Q (.str (dw (okS S i c))) H')
theorem d_meet (T : Txt mg) (Wp : PcC K E) (Wc : WoC K C) (A : AtMt K E "_meet" "Place._meet" mPlace_Meet) (dc : DefM P w K mg base C "command" 3 ["self", "name"] (spCmd C K)) (dm : DefM P w K mg base E "_may_do" 4 ["self", "command"] (spMay C E K)) (dn : DefM P w K mg base E "_note" 1 ["self", "point", "worth", "mark"] (spNote E)) :
    DefM P w K mg base E "_meet" 5 ["self", "letter"] (spMeet C E K) := by
  refine mkDefM A scmPlace_Meet (fun _ _ _ _ _ _ us hl => match us, hl with | [_, _], _ => rfl) (fun vs H Q X ⟨_, _, _, _, _, _, _, _, e, _⟩ => by rw [e]; rfl)
    (fun f cdv A out s H vs Q X hr h => ?_)
  obtain ⟨r, S, q, qi, i, W, ps, cs, rfl, pc, hw, eqi, k⟩ := h
  refine ⟨_, (pss_cons (ps_if (pt_cmpR op_eq (pe_ix ix_tup (pv 1) pe_int (fun _ _ => rfl)) pe_str (nomark _))
      (pss_one (ps_ret pe_str))
      pss_nil)
    (pss_cons (ps_asg (pv 1) (pg_tup (by rfl) (pgs_cons (pg_name (i := 2) scmPlace_Meet.nd rfl (.inl rfl)) (pgs_cons (pg_name (i := 3) scmPlace_Meet.nd rfl (.inl rfl)) (pgs_cons (pg_name (i := 4) scmPlace_Meet.nd rfl (.inl rfl)) pgs_nil)))))
    (pss_cons (ps_fld (pv 0) (pe_callB (call_max2 rfl) (by rfl) T.max PyProof.Rows.boot_max (pa_cons (pe_fld (pv 0) rfl) (pa_cons (pe_ix ix_tup (pv 3) pe_int (fun _ _ => rfl)) pa_nil))) rfl)
    (pss_cons (ps_if (PW.pt (pw_or (pt_cmpR op_ne (pe_ix ix_tup (pv 3) pe_int (fun _ _ => rfl)) (pe_fld (pv 0) rfl) (nomark _)) (pw_or1 (pt_not (pt_val (pe_mm (pv 0) Wp.cl dm hr (by decide) (pa_cons (pv 4) pa_nil)))))))
      (pss_one (ps_ret pe_str))
      pss_nil)
    (pss_cons (ps_asg (pe_mm (pe_fld (pv 0) rfl) Wc.cl dc hr (by decide) (pa_cons (pv 4) pa_nil)) (pg_tup (by rfl) (pgs_cons (pg_name (i := 2) scmPlace_Meet.nd rfl (.inl rfl)) (pgs_cons (pg_name (i := 5) scmPlace_Meet.nd rfl (.inl rfl)) (pgs_cons (pg_name (i := 6) scmPlace_Meet.nd rfl (.inl rfl)) (pgs_cons (pg_name (i := 2) scmPlace_Meet.nd rfl (.inl rfl)) pgs_nil))))))
    (pss_cons (ps_expr (pe_mm (pv 0) Wp.cl dn hr (by decide) (pa_cons (pv 5) (pa_cons (pv 6) (pa_cons pe_str pa_nil)))))
    (pss_cons (ps_expr (pe_bm PySem.F.plainAttrs_list PySem.F.slot_list_append PySem.F.type_list_append mt_append (pe_fld (pv 0) rfl) (pa_cons (pe_tup (pa_cons (pv 3) (pa_cons (pv 4) (pa_cons (pe_fld (pv 0) rfl) pa_nil)))) pa_nil)))
    (pss_one (ps_ret pe_str))))))))), ?_⟩
  rcases k with ⟨eq, k⟩ | ⟨c, eq, hc, l100, wfew, dfew, k⟩
  · refine ⟨_, rfl, q, _, 0, .str "back", rfl, rfl, SqT.of eq, rfl, rfl, _, rfl, ?_⟩
    rw [show decide (V.str ("back" : Str) = V.str "back") = true from by decide +kernel]
    exact iteT k
  refine ⟨_, rfl, q, _, 0, .str "do", rfl, rfl, SqT.of eq, rfl, rfl, _, rfl, ?_⟩
  rw [show decide (V.str ("do" : Str) = V.str "back") = false from by decide +kernel]
  refine iteF ?_
  refine ⟨_, rfl, q, _, rfl, SqT.of eq, rfl, _, _, rfl, _, _, rfl, _, _, rfl, rfl, ?_⟩
  dsimp only [gName]
  obtain ⟨dx, e1⟩ := pc.me
  refine ⟨_, rfl, r, E, dx, _, _, rfl, e1, Wp.cl, Wp.nTe, pcf_term, _, rfl, qi, _, 0, .int i.1, rfl, rfl, SqT.of eqi, rfl, S.tm, i.1, rfl, ?_⟩
  refine ⟨_, rfl, r, E, dx, _, rfl, e1, Wp.cl, Wp.nTe, by show _ < 1000; exact Nat.lt_of_le_of_lt (show 10 ≤ 10 by decide) (by decide), ?_⟩
  unfold Pl.fs
  rw [pcf_put_term, show pcf (.ref S.wa) (.str S.pl) (.int S.t) (.int (if S.tm < i.1 then i.1 else S.tm)) (.ref S.wD) (.ref S.mD) (.ref S.wl) (.ref S.sl) (.ref S.md) (.ref S.dn) = Pl.fs { S with tm := mx S.tm i.1 } from rfl]
  have B1 : But r H (upd H r (.ins E dx (Pl.fs { S with tm := mx S.tm i.1 }))) := But.set
  have pc1 : PcAt E (upd H r (.ins E dx (Pl.fs { S with tm := mx S.tm i.1 }))) r { S with tm := mx S.tm i.1 } := pc.put (S' := { S with tm := mx S.tm i.1 }) e1 ⟨rfl, rfl, rfl, rfl, rfl, rfl⟩ ⟨rfl, rfl, rfl, rfl, rfl⟩
  have g1 : upd H r (.ins E dx (Pl.fs { S with tm := mx S.tm i.1 })) r = some (.ins E dx (Pl.fs { S with tm := mx S.tm i.1 })) := upd_same
  have hw1 := hw.butI e1 B1
  have gqi := B1.at (fun z => by rw [z, e1] at eqi; cases eqi) eqi
  generalize upd H r (.ins E dx (Pl.fs { S with tm := mx S.tm i.1 })) = H1 at *
  refine ⟨_, rfl, qi, _, 0, .int i.1, rfl, rfl, SqT.of gqi, rfl, _, rfl, r, E, dx, _, _, rfl, g1, Wp.cl, Wp.nTe, pcf_term, rfl, _, rfl, ?_⟩
  have F1 : Fr H H1 r S := fun q o n1 _ _ _ _ e => B1.at n1 e
  by_cases ht : i.1 ≠ mx S.tm i.1
  · rw [show (!decide (V.int i.1 = V.int (mx S.tm i.1))) = true from by rw [decide_eq_false fun z => ht (V.int.inj z)]; rfl]
    refine iteT ?_
    have ok : okS S i c = false := by unfold okS; rw [decide_eq_false ht]; rfl
    have kk := k H1 F1
    unfold metS at kk
    rw [ok] at kk
    exact kk pc1
  have ht := Decidable.not_not.mp ht
  rw [show (!decide (V.int i.1 = V.int (mx S.tm i.1))) = false from by rw [decide_eq_true (congrArg V.int ht)]; rfl]
  refine iteF ?_
  refine ⟨_, rfl, r, dx, _, rfl, g1, pcf_no ⟨by decide +kernel, by decide +kernel, by decide +kernel, by decide +kernel, by decide +kernel, by decide +kernel, by decide +kernel, by decide +kernel, by decide +kernel, by decide +kernel⟩, _, rfl, r, { S with tm := mx S.tm i.1 }, W, ps, cs, c, rfl, pc1, hw1, hc, l100, fun H2 S2 => ?_⟩
  have pc2 := pc1.same S2
  have hw2 := hw1.same S2
  have g2 := S2 _ _ g1
  have hqi2 := S2 _ _ gqi
  have F2 : Fr H H2 r S := fun q o n1 n2 n3 n4 n5 e => S2 _ _ (F1 q o n1 n2 n3 n4 n5 e)
  have em : may { S with tm := mx S.tm i.1 } c = may S c := rfl
  rw [em]
  refine ⟨_, rfl, ?_⟩
  cases hm : may S c with
  | false =>
    refine iteT ?_
    have ok : okS S i c = false := by unfold okS; rw [hm, Bool.and_false]
    have kk := k H2 F2
    unfold metS at kk
    rw [ok] at kk
    exact kk pc2
  | true =>
    refine iteF ?_
    have ok : okS S i c = true := by unfold okS; rw [decide_eq_true ht, hm]; rfl
    obtain ⟨dxw, tp, dp, tr, dr, tc, tm, dm', tl, e0, _⟩ := hw2.wm.wp.wo.ex
    refine ⟨_, rfl, r, E, dx, _, _, rfl, g2, Wp.cl, Wp.nWk, pcf_works, S.wa, dxw, _, rfl, e0, wof_no (by decide +kernel) (by decide +kernel) (by decide +kernel) (by decide +kernel) (by decide +kernel) (by decide +kernel) (by decide +kernel) (by decide +kernel), _, rfl, S.wa, W, ps, cs, c, rfl, hw2, hc, fun q2 H3 S3 eq2 => ?_⟩
    refine ⟨q2, _, rfl, SqT.of eq2, rfl, _, _, rfl, _, _, rfl, _, _, rfl, _, _, rfl, rfl, ?_⟩
    dsimp only [gName]
    have pc3 := pc2.same S3
    have g3 := S3 _ _ g2
    have hqi3 := S3 _ _ hqi2
    have F3 : Fr H H3 r S := fun q o n1 n2 n3 n4 n5 e => S3 _ _ (F2 q o n1 n2 n3 n4 n5 e)
    -- the point is the place's
    have hin : (wg (prs S.st) c.pt).isSome = true := by
      unfold may at hm
      exact (Bool.and_eq_true _ _ ▸ hm).1
    obtain ⟨s0, hs0, es0⟩ := prs_in hin
    clear pc1 pc2 hw1 hw2 g1 g2 gqi hqi2 F1 F2 e0 B1
    generalize eS : ({ S with tm := mx S.tm i.1 } : Pl) = S' at *
    have w1 : S'.wD = S.wD ∧ S'.mD = S.mD ∧ S'.wl = S.wl ∧ S'.dn = S.dn ∧ S'.wt = S.wt ∧ S'.done = S.done ∧ S'.t = S.t ∧ S'.st = S.st := by rw [← eS]; exact ⟨rfl, rfl, rfl, rfl, rfl, rfl, rfl, rfl⟩
    obtain ⟨wa1, wa2, wa3, wa4, wa5, wa6, wa7, wa8⟩ := w1
    refine seq_join (fun σ' H4 => σ' = [some (.ref r), some (.ref q), some (.ref c.t), some (.ref qi), some (.str c.nm), some (.str c.pt), some (.int c.wo)] ∧ (∀ q o, q ≠ S.wD → q ≠ S.mD → q ≠ S.wl → H3 q = some o → H4 q = some o) ∧ PcAt E H4 r (noteP S' c.pt c.wo "good")) (fun N' hN => ?_) ?_
    · rw [← es0]
      refine ⟨_, rfl, r, dx, _, rfl, g3, pcf_no ⟨by decide +kernel, by decide +kernel, by decide +kernel, by decide +kernel, by decide +kernel, by decide +kernel, by decide +kernel, by decide +kernel, by decide +kernel, by decide +kernel⟩, _, rfl, _, rfl, r, S', s0, c.wo, "good", rfl, pc3, wa8 ▸ hs0, by rw [wa5]; exact wfew, ?_⟩
      by_cases hn : s0.w = c.wo ∧ s0.m = "good"
      · refine .inl ⟨hn.1, hn.2, hN _ _ ⟨by rw [← es0]; rfl, fun q o _ _ _ e => e, ?_⟩⟩
        unfold noteP
        rw [if_pos (List.any_eq_true.mpr ⟨s0, wa8 ▸ hs0, decide_eq_true ⟨es0, hn⟩⟩)]
        exact pc3
      · refine .inr ⟨hn, fun H4 F4 pc4 => hN _ _ ⟨by rw [← es0]; rfl, fun q o n1 n2 n3 e => F4 q o (wa1 ▸ n1) (wa2 ▸ n2) (wa3 ▸ n3) e, ?_⟩⟩
        unfold noteP
        rw [if_neg (fun z => ?_)]
        · rw [es0] at pc4; exact pc4
        · obtain ⟨s1, h1, h2⟩ := List.any_eq_true.mp z
          have h2 := of_decide_eq_true h2
          have h3 := stK_val (f := fun s => V.int s.w) pc3.nd h1
          have h4 := stK_val (f := fun s => V.int s.w) pc3.nd (show s0 ∈ S'.st from wa8 ▸ hs0)
          have h5 := stK_val (f := fun s => V.str s.m) pc3.nd h1
          have h6 := stK_val (f := fun s => V.str s.m) pc3.nd (show s0 ∈ S'.st from wa8 ▸ hs0)
          rw [h2.1, ← es0, h4] at h3
          rw [h2.1, ← es0, h6] at h5
          exact hn ⟨(V.int.inj (Option.some.inj h3)).trans h2.2.1, (V.str.inj (Option.some.inj h5)).trans h2.2.2⟩
    rintro σ' H4 ⟨rfl, F4, pc4⟩
    obtain ⟨z1, z2, z3, z4, z5, z6, z7, z8, z9, z10, z11, z12, z13⟩ := noteP_is (S := S') (nm := c.pt) (n := c.wo) (m := "good")
    obtain ⟨dx4, g4⟩ := pc4.me
    obtain ⟨us, e4, dl4⟩ := pc4.d
    have tf : ∀ {b : Addr} {xs : List V}, H3 b = some (.tup xs) → H4 b = some (.tup xs) := fun {b xs} e => F4 b _ (fun z => by have := pc3.w; rw [wa1, ← z, e] at this; cases this) (fun z => by have := pc3.m; rw [wa2, ← z, e] at this; cases this) (fun z => by obtain ⟨vs, el, _⟩ := pc3.l; rw [wa3, ← z, e] at el; cases el) e
    have hqi4 := tf hqi3
    refine ⟨_, rfl, r, E, dx4, _, _, rfl, g4, Wp.cl, Wp.nDo, pcf_done, .inl ⟨rfl, _, SqL.of e4⟩, _, rfl, _, rfl, _, rfl, r, E, dx4, _, _, rfl, g4, Wp.cl, Wp.nTi, pcf_time, by show 3 ≤ sizeLine; decide, fun t nt => ?_⟩
    have S5 := Same.laid (o := HO.tup [.ref qi, .str c.nm, .int (noteP S' c.pt c.wo "good").t]) nt
    have et : upd H4 t (.tup [.ref qi, .str c.nm, .int (noteP S' c.pt c.wo "good").t]) t = some (.tup [.ref qi, .str c.nm, .int (noteP S' c.pt c.wo "good").t]) := upd_same
    generalize upd H4 t (.tup [.ref qi, .str c.nm, .int (noteP S' c.pt c.wo "good").t]) = H5 at *
    have pc5 := pc4.same S5
    have e5 := S5 _ _ e4
    have dl5 := dl4.tups fun q xs e => S5 _ _ e
    refine ⟨(noteP S' c.pt c.wo "good").dn, us, .ref t, rfl, rfl, e5, Nat.lt_of_le_of_lt (show us.length ≤ 1000 by rw [dl5.length, z12, wa6]; omega) (by decide), ?_⟩
    have hd : DnAt H5 (.ref t) ⟨i, c.nm, (noteP S' c.pt c.wo "good").t⟩ := ⟨t, qi, rfl, et, S5 _ _ hqi4⟩
    have pc6 := pc5.did e5 dl5 hd
    have kk := k (upd H5 (noteP S' c.pt c.wo "good").dn (.lst (us ++ [.ref t]))) (fun q o n1 n2 n3 n4 n5 e => ?_)
    · unfold metS at kk
      rw [ok, if_pos rfl, eS] at kk
      refine kk ?_
      have ed : (noteP S' c.pt c.wo "good").done ++ [⟨i, c.nm, (noteP S' c.pt c.wo "good").t⟩] = S.done ++ [⟨i, c.nm, S.t⟩] := by rw [z12, wa6, z3, wa7]
      rw [← ed]
      exact pc6
    · refine (upd_ne (fun z => n5 (by rw [z, z10, wa4]))).trans (S5 _ _ (F4 q o n2 n3 n4 (F3 q o n1 n2 n3 n4 n5 e)))
end
end V59

namespace V59
open PySem PySem.Spec PyProof.Rows L2 Pw
/-! ### orders: what they are made of, what is known of them; what a place met -/
def OdAt (H : Hp) (q : Addr) : Od → Prop
  | .term n => H q = some (.tup [.str "term", .int n])
  | .back i => ∃ qi, H q = some (.tup [.str "back", .ref qi]) ∧ H qi = some (.tup (tId i))
  | .act i c => ∃ qi, H q = some (.tup [.str "do", .ref qi, .str c]) ∧ H qi = some (.tup (tId i))
def GoodId (i : Id2) : Prop := 0 ≤ i.1 ∧ i.1 ≤ 999 ∧ 1 ≤ i.2 ∧ i.2 ≤ 999
def GoodOd (cs : List Cm) : Od → Prop
  | .term n => 0 ≤ n ∧ n ≤ 999
  | .back i => GoodId i
  | .act i c => GoodId i ∧ ∃ m ∈ cs, m.nm = c
theorem OdAt.tups {H H' : Hp} {q : Addr} {o : Od} (h : OdAt H q o) (t : ∀ q xs, H q = some (.tup xs) → H' q = some (.tup xs)) : OdAt H' q o := by
  cases o with
  | term n => exact t _ _ h
  | back i => obtain ⟨qi, a, b⟩ := h; exact ⟨qi, t _ _ a, t _ _ b⟩
  | act i c => obtain ⟨qi, a, b⟩ := h; exact ⟨qi, t _ _ a, t _ _ b⟩
theorem OdAt.same {H H' : Hp} {q : Addr} {o : Od} (h : OdAt H q o) (S : Same H H') : OdAt H' q o := h.tups fun _ _ e => S _ _ e
theorem sh_ref {a : Addr} : Short (.ref a) := fun s e => by cases e
theorem sh_int {a : Int} : Short (.int a) := fun s e => by cases e
theorem wholeB_in {i lo hi : Int} (h0 : lo ≤ i) (h1 : i ≤ hi) : wholeB (.int i) lo hi = true := by
  unfold wholeB
  simp [h0, h1]
theorem kn_int {K : PySem.W.Frag} {H : Hp} (i : Int) : Kn1 K H (.int i) := ⟨⟨⟨_, .int _⟩, sh_int⟩, fun xs e => by cases e⟩
theorem kn_str {K : PySem.W.Frag} {H : Hp} {s : Str} (h : Short (.str s)) : Kn1 K H (.str s) := ⟨⟨⟨_, .str _⟩, h⟩, fun xs e => by cases e⟩
theorem kn_id {K : PySem.W.Frag} {H : Hp} {q : Addr} {i : Id2} (e : H q = some (.tup (tId i))) : Kn1 K H (.ref q) := by
  refine ⟨⟨⟨_, .tup e⟩, sh_ref⟩, fun xs h x hx => ?_⟩
  rw [tupOf_at e] at h
  cases h
  simp only [tId, List.mem_cons, List.not_mem_nil, or_false] at hx
  rcases hx with rfl | rfl <;> exact (kn_int _).1
theorem id_b {H : Hp} {q : Addr} {i : Id2} (e : H q = some (.tup (tId i))) (g : GoodId i) : idB H (.ref q) = true := by
  unfold idB
  rw [tupOf_at e]
  show (wholeB (.int i.1) 0 999 && wholeB (.int i.2) 1 999) = true
  rw [wholeB_in g.1 g.2.1, wholeB_in g.2.2.1 g.2.2.2]
  rfl
theorem od_kn {K : PySem.W.Frag} {H : Hp} {q : Addr} {o : Od} {cs : List Cm} (h : OdAt H q o) (g : GoodOd cs o) (ok : ∀ c ∈ cs, OkName c.nm) : Kn2 K H (.ref q) := by
  have go : ∀ {x1 : Str} {ys : List V}, H q = some (.tup (V.str x1 :: ys)) → Short (.str x1) → (∀ y ∈ ys, Kn1 K H y) → Kn2 K H (.ref q) := fun {x1 ys} e s1 s2 => by
    refine ⟨⟨⟨_, .tup e⟩, sh_ref⟩, fun xs h => ?_⟩
    rw [tupOf_at e] at h
    cases h
    refine ⟨fun x hx => ?_, fun _ x hx => ?_⟩
    · rcases List.mem_cons.mp hx with rfl | hx
      · exact kn_str s1
      · exact s2 x hx
    · cases hx
      exact .inr (.inl ⟨_, rfl⟩)
  have sw : ∀ {s : Str}, s.length ≤ 1000 ∧ (∀ c ∈ s.cps.toList, c < 128) → Short (.str s) := fun h s e => by cases e; exact h
  cases o with
  | term n => exact go h (sw (by decide +kernel)) fun y hy => by rw [List.mem_singleton.mp hy]; exact kn_int n
  | back i =>
    obtain ⟨qi, a, b⟩ := h
    exact go a (sw (by decide +kernel)) fun y hy => by rw [List.mem_singleton.mp hy]; exact kn_id b
  | act i c =>
    obtain ⟨qi, a, b⟩ := h
    obtain ⟨_, m, hm, rfl⟩ := g
    refine go a (sw (by decide +kernel)) fun y hy => ?_
    simp only [List.mem_cons, List.not_mem_nil, or_false] at hy
    rcases hy with rfl | rfl
    · exact kn_id b
    · exact kn_str (ok m hm).sh
theorem od_b {H : Hp} {q : Addr} {o : Od} {cs : List Cm} (h : OdAt H q o) (g : GoodOd cs o) : orderB H (cs.map Cm.nm) (.ref q) = true := by
  cases o with
  | term n =>
    unfold orderB
    rw [tupOf_at h]
    show ((isW (.str "term") "back" && idB H (.int n)) || (isW (.str "term") "term" && wholeB (.int n) 0 999)) = true
    rw [wholeB_in g.1 g.2, show isW (.str "term") "term" = true from by decide +kernel, Bool.and_self, Bool.or_true]
  | back i =>
    obtain ⟨qi, a, b⟩ := h
    unfold orderB
    rw [tupOf_at a]
    show ((isW (.str "back") "back" && idB H (.ref qi)) || (isW (.str "back") "term" && wholeB (.ref qi) 0 999)) = true
    rw [id_b b g, show isW (.str "back") "back" = true from by decide +kernel]
    rfl
  | act i c =>
    obtain ⟨qi, a, b⟩ := h
    obtain ⟨gi, m, hm, rfl⟩ := g
    unfold orderB
    rw [tupOf_at a]
    show (isW (.str "do") "do" && (idB H (.ref qi) && decide (m.nm ∈ cs.map Cm.nm))) = true
    rw [id_b b gi, show isW (.str "do") "do" = true from by decide +kernel, decide_eq_true (List.mem_map.mpr ⟨m, hm, rfl⟩)]
    rfl
/-- what was met, by its id -/
def lkM (m : List (Id2 × Bool)) (i : Id2) : Option Bool := (m.find? fun x => decide (x.1 = i)).map Prod.snd
theorem kId_inj {i j : Id2} : kId i = kId j ↔ i = j := by
  constructor
  · intro h
    unfold kId at h
    injection h with h1 h2
    injection h2 with h2 _
    exact Prod.ext (Sum.inl.inj h1) (Sum.inl.inj h2)
  · rintro rfl
    rfl
theorem lkM_val {i : Id2} : ∀ {m : List (Id2 × Bool)}, valV (metK m) (kId i) = (lkM m i).map fun b => V.str (dw b)
  | [] => rfl
  | x :: m => by
    have ih := lkM_val (i := i) (m := m)
    unfold valV lkM metK at ih ⊢
    rw [List.map_cons, List.find?_cons, List.find?_cons]
    by_cases e : x.1 = i
    · rw [decide_eq_true e, decide_eq_true (kId_inj.mpr e)]
      rfl
    · rw [decide_eq_false e, decide_eq_false (fun z => e (kId_inj.mp z))]
      exact ih
theorem lkM_none {i : Id2} {m : List (Id2 × Bool)} (h : i ∉ m.map Prod.fst) : lkM m i = none := by
  unfold lkM
  cases e : m.find? (fun x => decide (x.1 = i)) with
  | none => rfl
  | some x =>
    have h0 := List.find?_some e
    have h1 := of_decide_eq_true h0
    exact absurd (List.mem_map.mpr ⟨x, List.mem_of_find?_eq_some e, h1⟩) h
theorem lkM_some {i : Id2} {m : List (Id2 × Bool)} (h : i ∈ m.map Prod.fst) : ∃ b, lkM m i = some b := by
  unfold lkM
  cases e : m.find? (fun x => decide (x.1 = i)) with
  | none =>
    obtain ⟨x, hx, ex⟩ := List.mem_map.mp h
    exact absurd (decide_eq_true ex) (List.find?_eq_none.mp e x hx)
  | some x => exact ⟨_, rfl⟩
theorem lkM_snoc {i : Id2} {b : Bool} {m : List (Id2 × Bool)} (h : i ∉ m.map Prod.fst) : lkM (m ++ [(i, b)]) i = some b := by
  have hn := lkM_none h
  unfold lkM at hn ⊢
  rw [List.find?_append]
  cases e : m.find? (fun x => decide (x.1 = i)) with
  | none =>
    rw [Option.none_or, List.find?_cons, decide_eq_true rfl]
    rfl
  | some x => rw [e] at hn; cases hn
theorem putM_new {i : Id2} {m : List (Id2 × Bool)} {v : V} (h : i ∉ m.map Prod.fst) : putK (metK m) (kId i) v = metK m ++ [(kId i, v)] := by
  unfold putK
  rw [if_neg]
  intro z
  obtain ⟨kv, hm, e⟩ := List.any_eq_true.mp z
  unfold metK at hm
  obtain ⟨x, hx, rfl⟩ := List.mem_map.mp hm
  exact h (List.mem_map.mpr ⟨x, hx, kId_inj.mp (of_decide_eq_true e)⟩)
end V59

set_option maxHeartbeats 8000000
namespace V59
open PySem PySem.Spec PyProof.Rows L2 Pw
/-! ### a place hears an order -/
def hrd (S : Pl) (t' : Int) (cs : List Cm) : Od → Pl
  | .term n => { S with t := t', tm := mx S.tm n }
  | .back i => if i ∈ S.met.map Prod.fst then { S with t := t' } else { S with t := t', met := S.met ++ [(i, false)] }
  | .act i cn => if i ∈ S.met.map Prod.fst then { S with t := t' } else match cs.find? (fun c => decide (c.nm = cn)) with
    | some c => { metS { S with t := t' } i c with met := S.met ++ [(i, okS { S with t := t' } i c)] }
    | none => S
def HFr (H H' : Hp) (r : Addr) (S : Pl) : Prop := ∀ q o, q ≠ r → q ≠ S.wD → q ≠ S.mD → q ≠ S.wl → q ≠ S.dn → q ≠ S.md → H q = some o → H' q = some o
def AnsAt (H : Hp) (a : Addr) (S : Pl) (t : Int) : Od → Prop
  | .term _ => H a = some (.tup [.str "terms", .str S.pl, .int S.tm, .int t])
  | .back i => ∃ qi b, H a = some (.tup [.str "answer", .str S.pl, .ref qi, .str (dw b), .int S.tm, .int t]) ∧ H qi = some (.tup (tId i)) ∧ lkM S.met i = some b
  | .act i _ => ∃ qi b, H a = some (.tup [.str "answer", .str S.pl, .ref qi, .str (dw b), .int S.tm, .int t]) ∧ H qi = some (.tup (tId i)) ∧ lkM S.met i = some b
theorem metS_is {S : Pl} {i : Id2} {c : Cm} : (metS S i c).wa = S.wa ∧ (metS S i c).pl = S.pl ∧ (metS S i c).t = S.t ∧ (metS S i c).tm = mx S.tm i.1 ∧ (metS S i c).wD = S.wD ∧ (metS S i c).mD = S.mD ∧ (metS S i c).wl = S.wl ∧ (metS S i c).sl = S.sl ∧ (metS S i c).md = S.md ∧ (metS S i c).dn = S.dn ∧ (metS S i c).met = S.met ∧ (metS S i c).sent = S.sent := by
  unfold metS
  split
  · obtain ⟨z1, z2, z3, z4, z5, z6, z7, z8, z9, z10, z11, z12, z13⟩ := noteP_is (S := { S with tm := mx S.tm i.1 }) (nm := c.pt) (n := c.wo) (m := "good")
    exact ⟨z1, z2, z3, z4, z5, z6, z7, z8, z9, z10, z11, z13⟩
  · exact ⟨rfl, rfl, rfl, rfl, rfl, rfl, rfl, rfl, rfl, rfl, rfl, rfl⟩
theorem find_nm : ∀ {cs : List Cm} {c : Cm}, (cs.map Cm.nm).Nodup → c ∈ cs → cs.find? (fun d => decide (d.nm = c.nm)) = some c
  | [], _, _, h => by cases h
  | x :: r, c, nd, h => by
    obtain ⟨n1, n2⟩ := List.nodup_cons.mp (show (x.nm :: r.map Cm.nm).Nodup from nd)
    rw [List.find?_cons]
    rcases List.mem_cons.mp h with rfl | h'
    · rw [decide_eq_true rfl]
    · rw [decide_eq_false fun (e : x.nm = c.nm) => n1 (e ▸ List.mem_map.mpr ⟨c, h', rfl⟩)]
      exact find_nm n2 h'
/-- an id more was met -/
theorem PcAt.meet {E : Addr} {H : Hp} {r : Addr} {S : Pl} {i : Id2} {b : Bool} (h : PcAt E H r S) (n : i ∉ S.met.map Prod.fst) : PcAt E (upd H S.md (.dT (metK S.met ++ [(kId i, .str (dw b))]))) r { S with met := S.met ++ [(i, b)] } := by
  obtain ⟨dx, e1⟩ := h.me
  obtain ⟨vs, el, al⟩ := h.l
  obtain ⟨us, ed, dl⟩ := h.d
  have B : But S.md H (upd H S.md (.dT (metK S.met ++ [(kId i, .str (dw b))]))) := But.set
  have t : ∀ q xs, H q = some (.tup xs) → upd H S.md (.dT (metK S.met ++ [(kId i, .str (dw b))])) q = some (.tup xs) := fun q xs eq => B.at (fun z => by rw [z, h.mt] at eq; cases eq) eq
  refine ⟨⟨dx, B.at (fun z => by rw [z, h.mt] at e1; cases e1) e1⟩, B.at (fun z => by have := h.w; rw [z, h.mt] at this; cases this) h.w, B.at (fun z => by have := h.m; rw [z, h.mt] at this; cases this) h.m, ⟨vs, B.at (fun z => by rw [z, h.mt] at el; cases el) el, al.imp t⟩, B.at (fun z => by have := h.s; rw [z, h.mt] at this; cases this) h.s, ?_, ⟨us, B.at (fun z => by rw [z, h.mt] at ed; cases ed) ed, dl.tups t⟩, h.nd, h.few, ?_, h.n1, h.n2, h.n3, h.n4⟩
  · show upd H S.md _ S.md = some (.dT (metK (S.met ++ [(i, b)])))
    rw [upd_same]
    unfold metK
    rw [List.map_append]
    rfl
  · show ((S.met ++ [(i, b)]).map Prod.fst).Nodup
    rw [List.map_append]
    refine List.nodup_append.mpr ⟨h.ids, by simp, fun a ha b' hb => ?_⟩
    have : b' = i := List.mem_singleton.mp hb
    rw [this]
    exact fun z => n (z ▸ ha)
section
variable {P : Program} {w : World} {K : PySem.W.Frag} {mg : Str → Option Value} {base : Heap} {C E : Addr}
def spHears (C E : Addr) (K : PySem.W.Frag) : Sp := fun vs H Q _ => ∃ r S W ps cs q o, ∃ t' : Int, vs = [.ref r, .ref q, .int t'] ∧ PcAt E H r S ∧ WkC K C H S.wa W ps cs ∧ OdAt H q o ∧ GoodOd cs o ∧ S.t ≤ t' ∧ 0 ≤ t' ∧ t' ≤ 9999 ∧ (∀ c ∈ cs, c.lks.length ≤ 100) ∧
  S.wt.length < 1000 ∧ S.done.length < 1000 ∧ S.met.length < 1000 ∧ ∀ a H', HFr H H' r S → PcAt E H' r (hrd S t' cs o) → AnsAt H' a (hrd S t' cs o) t' o → Q (.ref a) H'
theorem d_hears (T : Txt mg) (Wp : PcC K E) (Wc : WoC K C) (A : AtMt K E "hears" "Place.hears" mPlace_Hears) (di : Def P w K mg base "is_order" 6 ["works", "thing"] (spOrder C K)) (dt : Def P w K mg base "check_time" 5 ["thing"] (spChkT K))
    (dc : DefM P w K mg base E "_come_to" 1 ["self", "time"] (spCome E)) (dm : DefM P w K mg base E "_meet" 5 ["self", "letter"] (spMeet C E K)) : DefM P w K mg base E "hears" 7 ["self", "letter", "time"] (spHears C E K) := by
  refine mkDefM A scmPlace_Hears (fun _ _ _ _ _ _ us hl => match us, hl with | [_, _, _], _ => rfl) (fun vs H Q X ⟨_, _, _, _, _, _, _, _, e, _⟩ => by rw [e]; rfl)
    (fun f cdv A out s H vs Q X hr h => ?_)
  obtain ⟨r, S, W, ps, cs, q, o, t', rfl, pc, hw, ho, go, le, t0, t9, l100, wfew, dfew, mfew, k⟩ := h
  have hu : (A.deeper (envOfC "Place.hears" (defScope mPlace_Hears) s.heap.objs.size f cdv)).units + 1 < cLine := hu_of hr
  refine ⟨_, (pss_cons (ps_if (pt_not (pt_val (pe_d di hr (by decide) (by rfl) (pa_cons (pe_fld (pv 0) rfl) (pa_cons (pv 1) pa_nil)))))
      (pss_one ps_never)
      pss_nil)
    (pss_cons (ps_expr (pe_d dt hr (by decide) (by rfl) (pa_cons (pv 2) pa_nil)))
    (pss_cons (ps_expr (pe_mm (pv 0) Wp.cl dc hr (by decide) (pa_cons (pv 2) pa_nil)))
    (pss_cons (ps_if (pt_cmpR op_eq (pe_ix ix_tup (pv 1) pe_int (fun _ _ => rfl)) pe_str (nomark _))
      (pss_cons (ps_fld (pv 0) (pe_callB (call_max2 rfl) (by rfl) T.max PyProof.Rows.boot_max (pa_cons (pe_fld (pv 0) rfl) (pa_cons (pe_ix ix_tup (pv 1) pe_int (fun _ _ => rfl)) pa_nil))) rfl)
      (pss_one (ps_ret (pe_tup (pa_cons pe_str (pa_cons (pe_fld (pv 0) rfl) (pa_cons (pe_fld (pv 0) rfl) (pa_cons (pv 2) pa_nil))))))))
      pss_nil)
    (pss_cons (ps_set (i := 3) scmPlace_Hears.nd rfl (.inl rfl) (pe_ix ix_tup (pv 1) pe_int (fun _ _ => rfl)))
    (pss_cons (ps_if (pt_cmp (pc_dnotin hu (pv 3) (pe_fld (pv 0) rfl)) rfl)
      (pss_one (ps_asg (pe_mm (pv 0) Wp.cl dm hr (by decide) (pa_cons (pv 1) pa_nil)) (pg_sub (pe_fld (pv 0) rfl) (pv 3) (set_dict hu))))
      pss_nil)
    (pss_one (ps_ret (pe_tup (pa_cons pe_str (pa_cons (pe_fld (pv 0) rfl) (pa_cons (pv 3) (pa_cons (pe_dget hu (pe_fld (pv 0) rfl) (pv 3) (fun _ _ => rfl)) (pa_cons (pe_fld (pv 0) rfl) (pa_cons (pv 2) pa_nil))))))))))))))), ?_⟩
  obtain ⟨dx, e1⟩ := pc.me
  refine ⟨_, rfl, r, E, dx, _, _, rfl, e1, Wp.cl, Wp.nWk, pcf_works, _, rfl, S.wa, W, ps, cs, .ref q, rfl, hw.wm, od_kn ho go hw.wm.ok, fun H1 S1 => ?_⟩
  rw [od_b ho go]
  refine ⟨_, rfl, iteF ?_⟩
  refine ⟨_, rfl, t', rfl, t0, t9, ?_⟩
  refine ⟨_, rfl, r, dx, _, rfl, S1 _ _ e1, pcf_no ⟨by decide +kernel, by decide +kernel, by decide +kernel, by decide +kernel, by decide +kernel, by decide +kernel, by decide +kernel, by decide +kernel, by decide +kernel, by decide +kernel⟩, _, rfl, r, S, t', rfl, pc.same S1, le, fun H2 B2 pc2 => ?_⟩
  have hw2 := (hw.same S1).butI (S1 _ _ e1) B2
  have ho2 : OdAt H2 q o := (ho.same S1).tups fun q xs e => B2.at (fun z => by rw [z, S1 _ _ e1] at e; cases e) e
  have F2 : ∀ b o, b ≠ r → H b = some o → H2 b = some o := fun b o n e => B2.at n (S1 _ _ e)
  clear ho hw e1 B2 S1 pc
  obtain ⟨dx2, g2⟩ := pc2.me
  cases o with
  | term n =>
    refine ⟨_, rfl, q, _, 0, .str "term", rfl, rfl, SqT.of ho2, rfl, rfl, _, rfl, ?_⟩
    rw [show decide (V.str ("term" : Str) = V.str "term") = true from by decide +kernel]
    refine iteT ?_
    refine ⟨_, rfl, r, E, dx2, _, _, rfl, g2, Wp.cl, Wp.nTe, pcf_term, _, rfl, q, _, 1, .int n, rfl, rfl, SqT.of ho2, rfl, S.tm, n, rfl, ?_⟩
    refine ⟨_, rfl, r, E, dx2, _, rfl, g2, Wp.cl, Wp.nTe, by show _ < 1000; exact Nat.lt_of_le_of_lt (show 10 ≤ 10 by decide) (by decide), ?_⟩
    unfold Pl.fs
    rw [pcf_put_term, show pcf (.ref S.wa) (.str S.pl) (.int t') (.int (if S.tm < n then n else S.tm)) (.ref S.wD) (.ref S.mD) (.ref S.wl) (.ref S.sl) (.ref S.md) (.ref S.dn) = Pl.fs (hrd S t' cs (.term n)) from rfl]
    have pc3 : PcAt E (upd H2 r (.ins E dx2 (Pl.fs (hrd S t' cs (.term n))))) r (hrd S t' cs (.term n)) := pc2.put (S' := hrd S t' cs (.term n)) g2 ⟨rfl, rfl, rfl, rfl, rfl, rfl⟩ ⟨rfl, rfl, rfl, rfl, rfl⟩
    have B3 : But r H2 (upd H2 r (.ins E dx2 (Pl.fs (hrd S t' cs (.term n))))) := But.set
    have g3 : upd H2 r (.ins E dx2 (Pl.fs (hrd S t' cs (.term n)))) r = some (.ins E dx2 (Pl.fs (hrd S t' cs (.term n)))) := upd_same
    generalize upd H2 r (.ins E dx2 (Pl.fs (hrd S t' cs (.term n)))) = H3 at *
    refine ⟨_, rfl, r, E, dx2, _, _, rfl, g3, Wp.cl, Wp.nNa, pcf_name, _, rfl, r, E, dx2, _, _, rfl, g3, Wp.cl, Wp.nTe, pcf_term, _, rfl, by show 4 ≤ sizeLine; decide, fun a na => ?_⟩
    exact k a _ (fun b o n1 _ _ _ _ _ e => Same.laid na _ _ (B3.at n1 (F2 b o n1 e))) (pc3.same (Same.laid na)) upd_same
  | back i =>
    obtain ⟨qi, eq, eqi⟩ := ho2
    refine ⟨_, rfl, q, _, 0, .str "back", rfl, rfl, SqT.of eq, rfl, rfl, _, rfl, ?_⟩
    rw [show decide (V.str ("back" : Str) = V.str "term") = false from by decide +kernel]
    refine iteF ?_
    refine ⟨_, rfl, q, _, 1, .ref qi, rfl, rfl, SqT.of eq, rfl, ?_⟩
    dsimp only [gName]
    have eg := DGet.t pc2.mt (show H2 qi = some (.tup ((kId i).map kV)) from eqi)
    rw [lkM_val] at eg
    refine seq_join (fun σ' H3 => σ' = [some (.ref r), some (.ref q), some (.int t'), some (.ref qi)] ∧ HFr H H3 r S ∧ PcAt E H3 r (hrd S t' cs (.back i)) ∧ (∃ b, lkM (hrd S t' cs (.back i)).met i = some b) ∧ H3 qi = some (.tup (tId i))) (fun N' hN => ?_) ?_
    · refine ⟨_, rfl, _, rfl, r, E, dx2, _, _, rfl, g2, Wp.cl, Wp.nMe, pcf_met, S.md, _, rfl, eg, ?_⟩
      by_cases hi : i ∈ S.met.map Prod.fst
      · obtain ⟨b, eb⟩ := lkM_some hi
        have eh : hrd S t' cs (.back i) = { S with t := t' } := if_pos hi
        rw [show lkM ({ S with t := t' } : Pl).met i = some b from eb]
        refine ⟨_, rfl, iteF (hN _ _ ⟨rfl, fun b o n1 _ _ _ _ _ e => F2 b o n1 e, by rw [eh]; exact pc2, ⟨b, by rw [eh]; exact eb⟩, eqi⟩)⟩
      · rw [show lkM ({ S with t := t' } : Pl).met i = none from lkM_none hi]
        refine ⟨_, rfl, iteT ?_⟩
        have eh : hrd S t' cs (.back i) = { S with t := t', met := S.met ++ [(i, false)] } := if_neg hi
        refine ⟨_, rfl, r, dx2, _, rfl, g2, pcf_no ⟨by decide +kernel, by decide +kernel, by decide +kernel, by decide +kernel, by decide +kernel, by decide +kernel, by decide +kernel, by decide +kernel, by decide +kernel, by decide +kernel⟩, _, rfl, r, { S with t := t' }, q, qi, i, W, ps, cs, rfl, pc2, hw2, eqi, .inl ⟨eq, ?_⟩⟩
        refine ⟨_, rfl, r, E, dx2, _, _, rfl, g2, Wp.cl, Wp.nMe, pcf_met, _, rfl, S.md, _, rfl, DPut.t pc2.mt (show H2 qi = some (.tup ((kId i).map kV)) from eqi) (by show (metK S.met).length < _; unfold metK; rw [List.length_map]; exact Nat.lt_trans mfew (by decide)), ?_⟩
        rw [show putK (metK ({ S with t := t' } : Pl).met) (kId i) (V.str "refused") = metK S.met ++ [(kId i, V.str (dw false))] from putM_new hi]
        refine hN _ _ ⟨rfl, fun b o n1 _ _ _ _ n6 e => (upd_ne n6).trans (F2 b o n1 e), by rw [eh]; exact pc2.meet (b := false) hi, ⟨false, by rw [eh]; exact lkM_snoc hi⟩, (upd_ne (fun z => by have := pc2.mt; rw [← z, eqi] at this; cases this)).trans eqi⟩
    rintro σ' H3 ⟨rfl, F3, pc3, ⟨b, eb⟩, eqi3⟩
    obtain ⟨dx3, g3⟩ := pc3.me
    have eg3 := DGet.t pc3.mt (show H3 qi = some (.tup ((kId i).map kV)) from eqi3)
    rw [lkM_val, eb] at eg3
    refine ⟨_, rfl, r, E, dx3, _, _, rfl, g3, Wp.cl, Wp.nNa, pcf_name, _, rfl, _, rfl, r, E, dx3, _, _, rfl, g3, Wp.cl, Wp.nMe, pcf_met, _, rfl, _, _, rfl, eg3, _, rfl, r, E, dx3, _, _, rfl, g3, Wp.cl, Wp.nTe, pcf_term, _, rfl, by show 6 ≤ sizeLine; decide, fun a na => ?_⟩
    exact k a _ (fun b o n1 n2 n3 n4 n5 n6 e => Same.laid na _ _ (F3 b o n1 n2 n3 n4 n5 n6 e)) (pc3.same (Same.laid na)) ⟨qi, b, upd_same, Same.laid na _ _ eqi3, eb⟩
  | act i cn =>
    obtain ⟨qi, eq, eqi⟩ := ho2
    refine ⟨_, rfl, q, _, 0, .str "do", rfl, rfl, SqT.of eq, rfl, rfl, _, rfl, ?_⟩
    rw [show decide (V.str ("do" : Str) = V.str "term") = false from by decide +kernel]
    refine iteF ?_
    refine ⟨_, rfl, q, _, 1, .ref qi, rfl, rfl, SqT.of eq, rfl, ?_⟩
    dsimp only [gName]
    have eg := DGet.t pc2.mt (show H2 qi = some (.tup ((kId i).map kV)) from eqi)
    rw [lkM_val] at eg
    refine seq_join (fun σ' H3 => σ' = [some (.ref r), some (.ref q), some (.int t'), some (.ref qi)] ∧ HFr H H3 r S ∧ PcAt E H3 r (hrd S t' cs (.act i cn)) ∧ (∃ b, lkM (hrd S t' cs (.act i cn)).met i = some b) ∧ H3 qi = some (.tup (tId i))) (fun N' hN => ?_) ?_
    · refine ⟨_, rfl, _, rfl, r, E, dx2, _, _, rfl, g2, Wp.cl, Wp.nMe, pcf_met, S.md, _, rfl, eg, ?_⟩
      by_cases hi : i ∈ S.met.map Prod.fst
      · obtain ⟨b, eb⟩ := lkM_some hi
        have eh : hrd S t' cs (.act i cn) = { S with t := t' } := if_pos hi
        rw [show lkM ({ S with t := t' } : Pl).met i = some b from eb]
        refine ⟨_, rfl, iteF (hN _ _ ⟨rfl, fun b o n1 _ _ _ _ _ e => F2 b o n1 e, by rw [eh]; exact pc2, ⟨b, by rw [eh]; exact eb⟩, eqi⟩)⟩
      · rw [show lkM ({ S with t := t' } : Pl).met i = none from lkM_none hi]
        refine ⟨_, rfl, iteT ?_⟩
        obtain ⟨c, hc, ec⟩ := go.2
        subst ec
        have ef : cs.find? (fun d => decide (d.nm = c.nm)) = some c := find_nm hw2.wm.nd hc
        have eh : hrd S t' cs (.act i c.nm) = { metS { S with t := t' } i c with met := S.met ++ [(i, okS { S with t := t' } i c)] } := by
          refine (if_neg hi).trans ?_
          rw [ef]
        obtain ⟨y1, y2, y3, y4, y5, y6, y7, y8, y9, y10, y11, y12⟩ := metS_is (S := { S with t := t' }) (i := i) (c := c)
        refine ⟨_, rfl, r, dx2, _, rfl, g2, pcf_no ⟨by decide +kernel, by decide +kernel, by decide +kernel, by decide +kernel, by decide +kernel, by decide +kernel, by decide +kernel, by decide +kernel, by decide +kernel, by decide +kernel⟩, _, rfl, r, { S with t := t' }, q, qi, i, W, ps, cs, rfl, pc2, hw2, eqi, .inr ⟨c, eq, hc, l100 c hc, wfew, dfew, fun H3 F3 pc3 => ?_⟩⟩
        obtain ⟨dx3, g3⟩ := pc3.me
        have hi3 : i ∉ (metS { S with t := t' } i c).met.map Prod.fst := by rw [y11]; exact hi
        have e3 := pc3.mt
        have eqi3 : H3 qi = some (.tup (tId i)) := F3 qi _ (fun z => by rw [z, g2] at eqi; cases eqi) (fun z => by have := pc2.w; rw [← z, eqi] at this; cases this) (fun z => by have := pc2.m; rw [← z, eqi] at this; cases this) (fun z => by obtain ⟨vs, el, _⟩ := pc2.l; rw [← z, eqi] at el; cases el) (fun z => by obtain ⟨vs, el, _⟩ := pc2.d; rw [← z, eqi] at el; cases el) eqi
        refine ⟨_, rfl, r, E, dx3, _, _, rfl, g3, Wp.cl, Wp.nMe, pcf_met, _, rfl, (metS { S with t := t' } i c).md, _, rfl, DPut.t e3 (show H3 qi = some (.tup ((kId i).map kV)) from eqi3) (by rw [y11]; show (metK S.met).length < _; unfold metK; rw [List.length_map]; exact Nat.lt_trans mfew (by decide)), ?_⟩
        rw [putM_new hi3]
        have pc4 := pc3.meet (b := okS { S with t := t' } i c) hi3
        refine hN _ _ ⟨rfl, fun b o n1 n2 n3 n4 n5 n6 e => (upd_ne (fun z => n6 (z.trans y9))).trans (F3 b o n1 n2 n3 n4 n5 (F2 b o n1 e)), ?_, ⟨okS { S with t := t' } i c, by rw [eh]; exact lkM_snoc hi⟩, (upd_ne (fun z => by rw [← z, eqi3] at e3; cases e3)).trans eqi3⟩
        rw [eh]
        have em : (metS { S with t := t' } i c).met = S.met := y11
        have eM : (metS { S with t := t' } i c).met ++ [(i, okS { S with t := t' } i c)] = S.met ++ [(i, okS { S with t := t' } i c)] := by rw [em]
        rw [← eM]
        exact pc4
    rintro σ' H3 ⟨rfl, F3, pc3, ⟨b, eb⟩, eqi3⟩
    obtain ⟨dx3, g3⟩ := pc3.me
    have eg3 := DGet.t pc3.mt (show H3 qi = some (.tup ((kId i).map kV)) from eqi3)
    rw [lkM_val, eb] at eg3
    refine ⟨_, rfl, r, E, dx3, _, _, rfl, g3, Wp.cl, Wp.nNa, pcf_name, _, rfl, _, rfl, r, E, dx3, _, _, rfl, g3, Wp.cl, Wp.nMe, pcf_met, _, rfl, _, _, rfl, eg3, _, rfl, r, E, dx3, _, _, rfl, g3, Wp.cl, Wp.nTe, pcf_term, _, rfl, by show 6 ≤ sizeLine; decide, fun a na => ?_⟩
    exact k a _ (fun b o n1 n2 n3 n4 n5 n6 e => Same.laid na _ _ (F3 b o n1 n2 n3 n4 n5 n6 e)) (pc3.same (Same.laid na)) ⟨qi, b, upd_same, Same.laid na _ _ eqi3, eb⟩
end
end V59

namespace V59
open PySem PySem.Spec PyProof.Rows L2 Pw
/-! ### a place made -/
theorem put_endH {f g : Str} {v x : V} (h : (g == f) = false) : putF f v [(g, x)] = [(g, x), (f, v)] := by
  rw [put_ne h]
  rfl
/-- the points of a place as they begin -/
def st0 (ps : List Pt) (pl : Str) : List Ps := (ps.filter fun x => decide (x.pl = pl)).map fun x => ⟨x.nm, 0, "good"⟩
theorem st0_nm {ps : List Pt} {pl : Str} : (st0 ps pl).map Ps.nm = (ps.filter fun x => decide (x.pl = pl)).map Pt.nm := by
  unfold st0
  rw [List.map_map]
  rfl
theorem st0_nd {ps : List Pt} (g : GoodPs ps) {pl : Str} : ((st0 ps pl).map Ps.nm).Nodup := by
  rw [st0_nm]
  exact g.nd.sublist (List.filter_sublist.map _)
theorem st0_few {ps : List Pt} (g : GoodPs ps) {pl : Str} : (st0 ps pl).length ≤ 8 := by
  unfold st0
  rw [List.length_map]
  exact Nat.le_trans (List.length_filter_le _ _) g.len
/-- one more key -/
theorem keys_take {f : Str → V} {ns : List Str} {i : Nat} {x : Str} (nd : ns.Nodup) (e : ns[i]? = some x) :
    putK ((ns.take i).map fun s => ((Sum.inr s : Key), f s)) (.inr x) (f x) = (ns.take (i + 1)).map fun s => ((Sum.inr s : Key), f s) := by
  have n := nodup_take nd e
  rw [putK_new, List.take_add_one, e, List.map_append]
  · rfl
  · rw [List.map_map]
    intro z
    obtain ⟨s, hs, es⟩ := List.mem_map.mp z
    exact n (Sum.inr.inj es ▸ hs)
theorem wK0 {ps : List Pt} {pl : Str} : wK (st0 ps pl) = ((ps.filter fun x => decide (x.pl = pl)).map Pt.nm).map fun s => ((Sum.inr s : Key), V.int 0) := by
  unfold wK st0
  rw [List.map_map, List.map_map]
  rfl
theorem mK0 {ps : List Pt} {pl : Str} : mK (st0 ps pl) = ((ps.filter fun x => decide (x.pl = pl)).map Pt.nm).map fun s => ((Sum.inr s : Key), V.str "good") := by
  unfold mK st0
  rw [List.map_map, List.map_map]
  rfl
theorem WoP.frx {K : PySem.W.Frag} {C p x E dx : Addr} {H H' : Hp} {W : Wks} {ps : List Pt} (h : WoP K C H x W ps) (F : FrX p H H') (ep : H p = some (.ins E dx [])) : WoP K C H' x W ps := by
  obtain ⟨dx', tp, dp, tr, dr, tc, tm, dm, tl, e0, e1, e2, e3, e4, e5, e6, e7, e8⟩ := h.wo.ex
  exact ⟨⟨dx', tp, dp, tr, dr, tc, tm, dm, tl, F _ _ (fun z => by rw [z, ep] at e0; simp [wof] at e0) e0, F.sqT ep e1, F.dk ep e2, F.sqT ep e3, F.dk ep e4, F.sqT ep e5, F.sqT ep e6, F.dk ep e7, F.sqT ep e8⟩, h.ks, F.al ep h.al, h.g⟩
section
variable {P : Program} {w : World} {K : PySem.W.Frag} {mg : Str → Option Value} {base : Heap} {C E : Addr}
def spPcInit (C E : Addr) (K : PySem.W.Frag) : Sp := fun vs H Q _ => ∃ p dx wa W ps pl, vs = [.ref p, .ref wa, .str pl] ∧ H p = some (.ins E dx []) ∧ WoP K C H wa W ps ∧ OkName pl ∧ pl ∈ ps.map Pt.pl ∧
  ∀ wD mD wl sl md dn H', PcAt E H' p ⟨wa, pl, 0, 0, wD, mD, wl, sl, md, dn, st0 ps pl, [], [], [], []⟩ → FrX p H H' → H wD = none → H mD = none → H wl = none → H sl = none → H md = none → H dn = none → Q .non H'
theorem d_pcInit (Wp : PcC K E) (Wc : WoC K C) {f : Addr} {fd : FuncData} (hm : mg "Place" = some (.ref E)) (M : Mk K E f) (F : Fun K "__init__" "Place.__init__" mPlace_Init f fd)
    (dc : Def P w K mg base "check_works" 1 ["thing"] (spWorksC C K)) (dp : Def P w K mg base "check_place" 3 ["works", "thing"] (spChkPl C K)) (da : DefM P w K mg base C "points_at" 3 ["self", "place"] (spPtsAt C K)) :
    DefI P w K mg base "Place" E 4 ["self", "works", "name"] (spPcInit C E K) := by
  refine mkDefI hm M F scmPlace_Init (fun _ _ _ _ _ _ us hl => match us, hl with | [_, _, _], _ => rfl) (fun vs H Q E ⟨_, _, _, _, _, _, e, _⟩ => by rw [e]; rfl)
    (fun f cdv A out s H vs Q X hr h => ?_)
  obtain ⟨p, dx, wa, Wk, ps, pl, rfl, ep, hw, on, hin, k⟩ := h
  refine ⟨_, (pss_cons (ps_expr (pe_d dc hr (by decide) (by rfl) (pa_cons (pv 1) pa_nil)))
    (pss_cons (ps_expr (pe_d dp hr (by decide) (by rfl) (pa_cons (pv 1) (pa_cons (pv 2) pa_nil))))
    (pss_cons (ps_fld (pv 0) (pv 1) rfl)
    (pss_cons (ps_fld (pv 0) (pv 2) rfl)
    (pss_cons (ps_fld (pv 0) pe_int rfl)
    (pss_cons (ps_fld (pv 0) pe_int rfl)
    (pss_cons (ps_fld (pv 0) (pe_dc (own := [("point", 3)]) (g := gName 3) (tt := tYes) rfl scmPlace_Init.nd (pi_sq (pe_mm (pv 1) Wc.cl da hr (by decide) (pa_cons (pv 2) pa_nil)))
        (blkOk_by (own := [("point", 3)]) (N := ["self", "works", "name", "point"]) (sc := defScope mPlace_Init) (by decide +kernel))
        (fun _ _ _ _ _ => (pg_name (i := 3) scmPlace_Init.nd rfl (.inl rfl))) (fun _ _ _ _ _ => pts_nil)
        (fun _ _ _ _ _ => (pv 3)) (fun _ _ _ _ _ => pe_int)) rfl)
    (pss_cons (ps_fld (pv 0) (pe_lock (pe_dc (own := [("point", 3)]) (g := gName 3) (tt := tYes) rfl scmPlace_Init.nd (pi_keys (pe_fld (pv 0) rfl))
        (blkOk_by (own := [("point", 3)]) (N := ["self", "works", "name", "point"]) (sc := defScope mPlace_Init) (by decide +kernel))
        (fun _ _ _ _ _ => (pg_name (i := 3) scmPlace_Init.nd rfl (.inl rfl))) (fun _ _ _ _ _ => pts_nil)
        (fun _ _ _ _ _ => (pv 3)) (fun _ _ _ _ _ => pe_str))) rfl)
    (pss_cons (ps_fld (pv 0) (pe_lst pa_nil) rfl)
    (pss_cons (ps_fld (pv 0) (pe_lst pa_nil) rfl)
    (pss_cons (ps_fld (pv 0) pe_dnewT rfl)
    (pss_one (ps_fld (pv 0) (pe_lst pa_nil) rfl))))))))))))), ?_⟩
  have keepN : ∀ {G : Hp} {fs : List (Str × V)} {b : Addr}, FrX p H G → G p = some (.ins E dx fs) → G b = none → H b = none ∧ b ≠ p := fun {G fs b} F e n => by
    have np : b ≠ p := fun z => by rw [z, e] at n; cases n
    refine ⟨?_, np⟩
    cases z : H b with
    | none => rfl
    | some o => rw [F b o np z] at n; cases n
  refine ⟨_, rfl, wa, Wk, rfl, hw.wo, ?_⟩
  refine ⟨_, rfl, _, rfl, wa, Wk, ps, pl, rfl, hw, on, hin, fun H1 S1 => ?_⟩
  have F1 : FrX p H H1 := .of S1
  have ep1 := S1 _ _ ep
  -- works
  refine ⟨_, rfl, _, rfl, p, E, dx, _, rfl, ep1, Wp.cl, Wp.nWk, by show 0 < 1000; decide, ?_⟩
  rw [show putF "_works" (V.ref wa) [] = ([("_works", V.ref wa)] : List (Str × V)) from rfl]
  have F2 := F1.trans (FrX.put (p := p) (H := H1) (o := HO.ins E dx [("_works", V.ref wa)]))
  have e2 : upd H1 p (.ins E dx [("_works", V.ref wa)]) p = some (.ins E dx [("_works", V.ref wa)]) := upd_same
  generalize upd H1 p (.ins E dx [("_works", V.ref wa)]) = H2 at *
  -- name
  refine ⟨_, rfl, _, rfl, p, E, dx, _, rfl, e2, Wp.cl, Wp.nNa, by show 1 < 1000; decide, ?_⟩
  rw [put_endH (by decide +kernel)]
  have F3 := F2.trans (FrX.put (p := p) (H := H2) (o := HO.ins E dx [("_works", V.ref wa), ("_name", .str pl)]))
  have e3 : upd H2 p (.ins E dx [("_works", V.ref wa), ("_name", .str pl)]) p = some (.ins E dx [("_works", V.ref wa), ("_name", .str pl)]) := upd_same
  generalize upd H2 p (.ins E dx [("_works", V.ref wa), ("_name", .str pl)]) = H3 at *
  -- time
  refine ⟨_, rfl, p, E, dx, _, rfl, e3, Wp.cl, Wp.nTi, by show 2 < 1000; decide, ?_⟩
  rw [put_ne (by decide +kernel), put_endH (by decide +kernel)]
  have F4 := F3.trans (FrX.put (p := p) (H := H3) (o := HO.ins E dx [("_works", V.ref wa), ("_name", .str pl), ("_time", .int 0)]))
  have e4 : upd H3 p (.ins E dx [("_works", V.ref wa), ("_name", .str pl), ("_time", .int 0)]) p = some (.ins E dx [("_works", V.ref wa), ("_name", .str pl), ("_time", .int 0)]) := upd_same
  generalize upd H3 p (.ins E dx [("_works", V.ref wa), ("_name", .str pl), ("_time", .int 0)]) = H4 at *
  -- term
  refine ⟨_, rfl, p, E, dx, _, rfl, e4, Wp.cl, Wp.nTe, by show 3 < 1000; decide, ?_⟩
  rw [put_ne (by decide +kernel), put_ne (by decide +kernel), put_endH (by decide +kernel)]
  have F5 := F4.trans (FrX.put (p := p) (H := H4) (o := HO.ins E dx [("_works", V.ref wa), ("_name", .str pl), ("_time", .int 0), ("_term", .int 0)]))
  have e5 : upd H4 p (.ins E dx [("_works", V.ref wa), ("_name", .str pl), ("_time", .int 0), ("_term", .int 0)]) p = some (.ins E dx [("_works", V.ref wa), ("_name", .str pl), ("_time", .int 0), ("_term", .int 0)]) := upd_same
  generalize upd H4 p (.ins E dx [("_works", V.ref wa), ("_name", .str pl), ("_time", .int 0), ("_term", .int 0)]) = H5 at *
  -- the worths
  have hw5 : WoP K C H5 wa Wk ps := hw.frx F5 ep
  obtain ⟨dxw, tp, dp', tr, dr, tc, tm, dm', tl, e0, _⟩ := hw5.wo.ex
  refine ⟨_, rfl, wa, dxw, _, rfl, e0, wof_no (by decide +kernel) (by decide +kernel) (by decide +kernel) (by decide +kernel) (by decide +kernel) (by decide +kernel) (by decide +kernel) (by decide +kernel), _, rfl, wa, Wk, ps, pl, rfl, hw5, hin, fun l H6 S6 nl el => ?_⟩
  refine ⟨l, _, rfl, .inl (SqL.of el), fun J G hG wk D nD => ?_⟩
  have p8 := hw.g.len
  have nl8 : ((ps.filter fun x => decide (x.pl = pl)).map Pt.nm).length ≤ 8 := by
    rw [List.length_map]
    exact Nat.le_trans (List.length_filter_le _ _) p8
  have nnd : ((ps.filter fun x => decide (x.pl = pl)).map Pt.nm).Nodup := hw.g.nd.sublist (List.filter_sublist.map _)
  have ewK := wK0 (ps := ps) (pl := pl)
  have emK := mK0 (ps := ps) (pl := pl)
  have pcE : ∀ {G : Hp} {wD mD wl sl md dn : Addr}, wD ≠ mD → wl ≠ sl → wl ≠ dn → sl ≠ dn → G p = some (.ins E dx (pcf (.ref wa) (.str pl) (.int 0) (.int 0) (.ref wD) (.ref mD) (.ref wl) (.ref sl) (.ref md) (.ref dn))) → G wD = some (.dK (wK (st0 ps pl))) → G mD = some (.dK (mK (st0 ps pl))) → G wl = some (.lst []) → G sl = some (.lst []) → G md = some (.dT []) → G dn = some (.lst []) →
      PcAt E G p ⟨wa, pl, 0, 0, wD, mD, wl, sl, md, dn, st0 ps pl, [], [], [], []⟩ := fun n1 n2 n3 n4 a b c d e f g => ⟨⟨dx, a⟩, b, c, ⟨[], d, .nil⟩, e, f, ⟨[], g, .nil⟩, st0_nd hw.g, st0_few hw.g, List.nodup_nil, n1, n2, n3, n4⟩
  generalize (ps.filter fun x => decide (x.pl = pl)).map Pt.nm = ns at *
  refine dc_acc wk nD (by rw [List.length_map]; omega) (fun i acc _ => acc = (ns.take i).map fun s => ((Sum.inr s : Key), V.int 0)) rfl hG ?_ ?_
  · rintro i v G0 G1 acc hi S eD hl rfl ⟨rfl, hx⟩ Fy Fn hy1 _
    rw [List.getElem?_map] at hx
    cases hn : ns[i]? with
    | none => rw [hn] at hx; cases hx
    | some x =>
      rw [hn] at hx
      cases hx
      refine ⟨rfl, ?_⟩
      unfold tYes
      refine iteT ⟨_, rfl, hy1 (.inr x) _ _ (Same.refl _) (keys_take (f := fun _ => V.int 0) nnd hn)⟩
  rintro H7 acc S7 eD rfl
  rw [List.length_map, List.take_length, ← ewK] at eD
  have F7 := F5.trans (.of (S6.trans S7))
  have e7 := S7 _ _ (S6 _ _ e5)
  have nD0 := (keepN (F5.trans (.of S6)) (S6 _ _ e5) nD).1
  have Dp := (keepN (F5.trans (.of S6)) (S6 _ _ e5) nD).2
  refine ⟨_, rfl, p, E, dx, _, rfl, e7, Wp.cl, Wp.nWo, by show 4 < 1000; decide, ?_⟩
  rw [put_ne (by decide +kernel), put_ne (by decide +kernel), put_ne (by decide +kernel), put_endH (by decide +kernel)]
  have F8 := F7.trans (FrX.put (p := p) (H := H7) (o := HO.ins E dx [("_works", V.ref wa), ("_name", .str pl), ("_time", .int 0), ("_term", .int 0), ("_worths", .ref D)]))
  have e8 : upd H7 p (.ins E dx [("_works", V.ref wa), ("_name", .str pl), ("_time", .int 0), ("_term", .int 0), ("_worths", .ref D)]) p = some (.ins E dx [("_works", V.ref wa), ("_name", .str pl), ("_time", .int 0), ("_term", .int 0), ("_worths", .ref D)]) := upd_same
  have D8 : upd H7 p (.ins E dx [("_works", V.ref wa), ("_name", .str pl), ("_time", .int 0), ("_term", .int 0), ("_worths", .ref D)]) D = some (.dK (wK (st0 ps pl))) := (upd_ne Dp).trans eD
  generalize upd H7 p (.ins E dx [("_works", V.ref wa), ("_name", .str pl), ("_time", .int 0), ("_term", .int 0), ("_worths", .ref D)]) = H8 at *
  -- the marks
  have lkW : ([("_works", V.ref wa), ("_name", .str pl), ("_time", .int 0), ("_term", .int 0), ("_worths", .ref D)] : List (Str × V)).lookup ("_worths" : Str) = some (.ref D) := (lk_ne (by decide +kernel)).trans ((lk_ne (by decide +kernel)).trans ((lk_ne (by decide +kernel)).trans ((lk_ne (by decide +kernel)).trans lk_eq)))
  refine ⟨D, _, D8, True.intro, fun od => ?_⟩
  refine ⟨_, rfl, p, E, dx, _, _, rfl, (upd_ne (Ne.symm Dp)).trans e8, Wp.cl, Wp.nWo, lkW, D, od, rfl, .inl ⟨_, upd_same, fun M nM => ?_⟩⟩
  have MD : M ≠ D := fun z => by rw [z, upd_same] at nM; cases nM
  have nM8 : H8 M = none := by rw [← upd_ne MD (H := H8)]; exact nM
  refine dc_acc walk_keys nM (by rw [ewK, List.length_map]; omega) (fun i acc _ => acc = (ns.take i).map fun s => ((Sum.inr s : Key), V.str "good")) rfl (fun G S => S _ _ upd_same) ?_ ?_
  · rintro i v G0 G1 acc hi S eD' hl rfl ⟨rfl, k', v', ekv, rfl⟩ Fy Fn hy1 _
    rw [ewK, List.getElem?_map] at ekv
    cases hn : ns[i]? with
    | none => rw [hn] at ekv; cases ekv
    | some x =>
      rw [hn] at ekv
      cases ekv
      refine ⟨rfl, ?_⟩
      unfold tYes
      refine iteT ⟨_, rfl, hy1 (.inr x) _ _ (Same.refl _) (keys_take (f := fun _ => V.str "good") nnd hn)⟩
  rintro H9 acc S9 eM rfl
  rw [ewK, List.length_map, List.take_length, ← emK] at eM
  refine ⟨S9 _ _ upd_same, ?_⟩
  have S89 : Same H8 (upd H9 D (.dK (wK (st0 ps pl)))) := fun b o e => by
    by_cases z : b = D
    · subst z
      rw [D8] at e
      cases e
      exact upd_same
    · rw [upd_ne z]
      exact S9 b o ((upd_ne z).trans e)
  have eM9 : upd H9 D (.dK (wK (st0 ps pl))) M = some (.dK (mK (st0 ps pl))) := (upd_ne MD).trans eM
  generalize upd H9 D (.dK (wK (st0 ps pl))) = HA at *
  have FA := F8.trans (.of S89)
  have eA := S89 _ _ e8
  have DA := S89 _ _ D8
  have nM0 := (keepN F8 e8 nM8).1
  have Mp := (keepN F8 e8 nM8).2
  refine ⟨_, rfl, p, E, dx, _, rfl, eA, Wp.cl, Wp.nMk, by show 5 < 1000; decide, ?_⟩
  rw [put_ne (by decide +kernel), put_ne (by decide +kernel), put_ne (by decide +kernel), put_ne (by decide +kernel), put_endH (by decide +kernel)]
  have FB := FA.trans (FrX.put (p := p) (H := HA) (o := HO.ins E dx [("_works", V.ref wa), ("_name", .str pl), ("_time", .int 0), ("_term", .int 0), ("_worths", .ref D), ("_marks", .ref M)]))
  have eB : upd HA p (.ins E dx [("_works", V.ref wa), ("_name", .str pl), ("_time", .int 0), ("_term", .int 0), ("_worths", .ref D), ("_marks", .ref M)]) p = some (.ins E dx [("_works", V.ref wa), ("_name", .str pl), ("_time", .int 0), ("_term", .int 0), ("_worths", .ref D), ("_marks", .ref M)]) := upd_same
  have DB : upd HA p (.ins E dx [("_works", V.ref wa), ("_name", .str pl), ("_time", .int 0), ("_term", .int 0), ("_worths", .ref D), ("_marks", .ref M)]) D = some (.dK (wK (st0 ps pl))) := (upd_ne Dp).trans DA
  have MB : upd HA p (.ins E dx [("_works", V.ref wa), ("_name", .str pl), ("_time", .int 0), ("_term", .int 0), ("_worths", .ref D), ("_marks", .ref M)]) M = some (.dK (mK (st0 ps pl))) := (upd_ne Mp).trans eM9
  generalize upd HA p (.ins E dx [("_works", V.ref wa), ("_name", .str pl), ("_time", .int 0), ("_term", .int 0), ("_worths", .ref D), ("_marks", .ref M)]) = HB at *
  -- waiting
  refine ⟨by show 0 ≤ sizeLine; decide, fun wl nwl => ?_⟩
  have Uw := Same.laid (o := HO.lst []) nwl
  have ew : upd HB wl (.lst []) wl = some (.lst []) := upd_same
  have wl0 := (keepN FB eB nwl).1
  have wlp := (keepN FB eB nwl).2
  have FC := FB.trans (.of Uw)
  have eC := Uw _ _ eB
  have DC := Uw _ _ DB
  have MC := Uw _ _ MB
  generalize upd HB wl (.lst []) = HC at *
  refine ⟨_, rfl, p, E, dx, _, rfl, eC, Wp.cl, Wp.nWa, by show 6 < 1000; decide, ?_⟩
  rw [put_ne (by decide +kernel), put_ne (by decide +kernel), put_ne (by decide +kernel), put_ne (by decide +kernel), put_ne (by decide +kernel), put_endH (by decide +kernel)]
  have FD := FC.trans (FrX.put (p := p) (H := HC) (o := HO.ins E dx [("_works", V.ref wa), ("_name", .str pl), ("_time", .int 0), ("_term", .int 0), ("_worths", .ref D), ("_marks", .ref M), ("_waiting", .ref wl)]))
  have eD2 : upd HC p (.ins E dx [("_works", V.ref wa), ("_name", .str pl), ("_time", .int 0), ("_term", .int 0), ("_worths", .ref D), ("_marks", .ref M), ("_waiting", .ref wl)]) p = some (.ins E dx [("_works", V.ref wa), ("_name", .str pl), ("_time", .int 0), ("_term", .int 0), ("_worths", .ref D), ("_marks", .ref M), ("_waiting", .ref wl)]) := upd_same
  have PD : ∀ b o, b ≠ p → HC b = some o → upd HC p (.ins E dx [("_works", V.ref wa), ("_name", .str pl), ("_time", .int 0), ("_term", .int 0), ("_worths", .ref D), ("_marks", .ref M), ("_waiting", .ref wl)]) b = some o := fun b o n e => (upd_ne n).trans e
  generalize upd HC p (.ins E dx [("_works", V.ref wa), ("_name", .str pl), ("_time", .int 0), ("_term", .int 0), ("_worths", .ref D), ("_marks", .ref M), ("_waiting", .ref wl)]) = HD at *
  have DD := PD _ _ Dp DC
  have MD' := PD _ _ Mp MC
  have wD' := PD _ _ wlp ew
  -- sent
  refine ⟨by show 0 ≤ sizeLine; decide, fun sl nsl => ?_⟩
  have Us := Same.laid (o := HO.lst []) nsl
  have es : upd HD sl (.lst []) sl = some (.lst []) := upd_same
  have sl0 := (keepN FD eD2 nsl).1
  have slp := (keepN FD eD2 nsl).2
  have wsl := ne_of_none wD' nsl
  have FE := FD.trans (.of Us)
  have eE := Us _ _ eD2
  have DE := Us _ _ DD
  have ME := Us _ _ MD'
  have wE := Us _ _ wD'
  generalize upd HD sl (.lst []) = HE at *
  refine ⟨_, rfl, p, E, dx, _, rfl, eE, Wp.cl, Wp.nSe, by show 7 < 1000; decide, ?_⟩
  rw [put_ne (by decide +kernel), put_ne (by decide +kernel), put_ne (by decide +kernel), put_ne (by decide +kernel), put_ne (by decide +kernel), put_ne (by decide +kernel), put_endH (by decide +kernel)]
  have FF := FE.trans (FrX.put (p := p) (H := HE) (o := HO.ins E dx [("_works", V.ref wa), ("_name", .str pl), ("_time", .int 0), ("_term", .int 0), ("_worths", .ref D), ("_marks", .ref M), ("_waiting", .ref wl), ("_sent", .ref sl)]))
  have eF : upd HE p (.ins E dx [("_works", V.ref wa), ("_name", .str pl), ("_time", .int 0), ("_term", .int 0), ("_worths", .ref D), ("_marks", .ref M), ("_waiting", .ref wl), ("_sent", .ref sl)]) p = some (.ins E dx [("_works", V.ref wa), ("_name", .str pl), ("_time", .int 0), ("_term", .int 0), ("_worths", .ref D), ("_marks", .ref M), ("_waiting", .ref wl), ("_sent", .ref sl)]) := upd_same
  have PF : ∀ b o, b ≠ p → HE b = some o → upd HE p (.ins E dx [("_works", V.ref wa), ("_name", .str pl), ("_time", .int 0), ("_term", .int 0), ("_worths", .ref D), ("_marks", .ref M), ("_waiting", .ref wl), ("_sent", .ref sl)]) b = some o := fun b o n e => (upd_ne n).trans e
  generalize upd HE p (.ins E dx [("_works", V.ref wa), ("_name", .str pl), ("_time", .int 0), ("_term", .int 0), ("_worths", .ref D), ("_marks", .ref M), ("_waiting", .ref wl), ("_sent", .ref sl)]) = HF at *
  have DF := PF _ _ Dp DE
  have MF := PF _ _ Mp ME
  have wF := PF _ _ wlp wE
  have sF := PF _ _ slp es
  -- met
  refine fun md nmd => ?_
  have Um := Same.laid (o := HO.dT []) nmd
  have mdp := (keepN FF eF nmd).2
  have md0 := (keepN FF eF nmd).1
  have em : upd HF md (.dT []) md = some (.dT []) := upd_same
  have FG := FF.trans (.of Um)
  have eG := Um _ _ eF
  have DG := Um _ _ DF
  have MG := Um _ _ MF
  have wG := Um _ _ wF
  have sG := Um _ _ sF
  generalize upd HF md (.dT []) = HG at *
  refine ⟨_, rfl, p, E, dx, _, rfl, eG, Wp.cl, Wp.nMe, by show 8 < 1000; decide, ?_⟩
  rw [put_ne (by decide +kernel), put_ne (by decide +kernel), put_ne (by decide +kernel), put_ne (by decide +kernel), put_ne (by decide +kernel), put_ne (by decide +kernel), put_ne (by decide +kernel), put_endH (by decide +kernel)]
  have FH := FG.trans (FrX.put (p := p) (H := HG) (o := HO.ins E dx [("_works", V.ref wa), ("_name", .str pl), ("_time", .int 0), ("_term", .int 0), ("_worths", .ref D), ("_marks", .ref M), ("_waiting", .ref wl), ("_sent", .ref sl), ("_met", .ref md)]))
  have eH : upd HG p (.ins E dx [("_works", V.ref wa), ("_name", .str pl), ("_time", .int 0), ("_term", .int 0), ("_worths", .ref D), ("_marks", .ref M), ("_waiting", .ref wl), ("_sent", .ref sl), ("_met", .ref md)]) p = some (.ins E dx [("_works", V.ref wa), ("_name", .str pl), ("_time", .int 0), ("_term", .int 0), ("_worths", .ref D), ("_marks", .ref M), ("_waiting", .ref wl), ("_sent", .ref sl), ("_met", .ref md)]) := upd_same
  have PH : ∀ b o, b ≠ p → HG b = some o → upd HG p (.ins E dx [("_works", V.ref wa), ("_name", .str pl), ("_time", .int 0), ("_term", .int 0), ("_worths", .ref D), ("_marks", .ref M), ("_waiting", .ref wl), ("_sent", .ref sl), ("_met", .ref md)]) b = some o := fun b o n e => (upd_ne n).trans e
  generalize upd HG p (.ins E dx [("_works", V.ref wa), ("_name", .str pl), ("_time", .int 0), ("_term", .int 0), ("_worths", .ref D), ("_marks", .ref M), ("_waiting", .ref wl), ("_sent", .ref sl), ("_met", .ref md)]) = HH at *
  have DH := PH _ _ Dp DG
  have MH := PH _ _ Mp MG
  have wH := PH _ _ wlp wG
  have sH := PH _ _ slp sG
  have mH := PH _ _ mdp em
  -- done
  refine ⟨by show 0 ≤ sizeLine; decide, fun dn ndn => ?_⟩
  have Ud := Same.laid (o := HO.lst []) ndn
  have ed : upd HH dn (.lst []) dn = some (.lst []) := upd_same
  have dn0 := (keepN FH eH ndn).1
  have dnp := (keepN FH eH ndn).2
  have wdn := ne_of_none wH ndn
  have sdn := ne_of_none sH ndn
  have FI := FH.trans (.of Ud)
  have eI := Ud _ _ eH
  have DI := Ud _ _ DH
  have MI := Ud _ _ MH
  have wI := Ud _ _ wH
  have sI := Ud _ _ sH
  have mI := Ud _ _ mH
  generalize upd HH dn (.lst []) = HI at *
  refine ⟨_, rfl, p, E, dx, _, rfl, eI, Wp.cl, Wp.nDo, by show 9 < 1000; decide, ?_⟩
  rw [put_ne (by decide +kernel), put_ne (by decide +kernel), put_ne (by decide +kernel), put_ne (by decide +kernel), put_ne (by decide +kernel), put_ne (by decide +kernel), put_ne (by decide +kernel), put_ne (by decide +kernel), put_endH (by decide +kernel)]
  refine k D M wl sl md dn _ (pcE (Ne.symm MD) wsl wdn sdn upd_same ((upd_ne Dp).trans DI) ((upd_ne Mp).trans MI) ((upd_ne wlp).trans wI) ((upd_ne slp).trans sI) ((upd_ne mdp).trans mI) ((upd_ne dnp).trans ed)) (FI.trans FrX.put) nD0 nM0 wl0 sl0 md0 dn0
end
end V59

namespace V59
open PySem PySem.Spec PyProof.Rows L2 Pw
/-! ### what a place met, as a dict of its own -/
theorem ids_take {m : List (Id2 × Bool)} (nd : (m.map Prod.fst).Nodup) {i : Nat} {x : Id2 × Bool} (e : m[i]? = some x) : x.1 ∉ (m.take i).map Prod.fst := by
  intro z
  obtain ⟨y, hy, ey⟩ := List.mem_map.mp z
  obtain ⟨j, hj, ej⟩ := List.getElem_of_mem hy
  rw [List.length_take] at hj
  rw [List.getElem_take] at ej
  obtain ⟨hi, ei⟩ := List.getElem?_eq_some_iff.mp e
  have e1 : (m.map Prod.fst)[j]? = some x.1 := by rw [List.getElem?_map, List.getElem?_eq_getElem (by omega), ej]; exact congrArg some ey
  have e2 : (m.map Prod.fst)[i]? = some x.1 := by rw [List.getElem?_map, e]; rfl
  have := (List.getElem?_inj (List.getElem?_eq_some_iff.mp e1).1 nd).mp (e1.trans e2.symm)
  omega
section
variable {P : Program} {w : World} {K : PySem.W.Frag} {mg : Str → Option Value} {base : Heap} {C E : Addr}
def spMet (E : Addr) : Sp := fun vs H Q _ => ∃ r S, vs = [.ref r] ∧ PcAt E H r S ∧ S.met.length ≤ 1000 ∧ ∀ d H', Same H H' → H d = none → H' d = some (.dT (metK S.met)) → Q (.ref d) H'
theorem d_met (Wp : PcC K E) (A : AtMt K E "met" "Place.met" mPlace_Met) : DefM P w K mg base E "met" 1 ["self"] (spMet E) := by
  refine mkDefM A scmPlace_Met (fun _ _ _ _ _ _ us hl => match us, hl with | [_], _ => rfl) (fun vs H Q X ⟨_, _, e, _⟩ => by rw [e]; rfl)
    (fun f cdv A out s H vs Q X hr h => ?_)
  obtain ⟨r, S, rfl, pc, few, k⟩ := h
  have hu : (A.deeper (envOfC "Place.met" (defScope mPlace_Met) s.heap.objs.size f cdv)).units + 1 < cLine := hu_of hr
  refine ⟨_, (pss_one (ps_ret (pe_lock (pe_dcT (own := [("ident", 1)]) (g := gName 1) (tt := tYes) hu rfl scmPlace_Met.nd (pi_keys (pe_fld (pv 0) rfl))
        (blkOk_by (own := [("ident", 1)]) (N := ["self", "ident"]) (sc := defScope mPlace_Met) (by decide +kernel))
        (fun _ _ _ _ _ => (pg_name (i := 1) scmPlace_Met.nd rfl (.inl rfl))) (fun _ _ _ _ _ => pts_nil)
        (fun _ _ _ _ _ => (pv 1)) (fun _ _ _ _ _ => (pe_dget hu (pe_fldK (K := K) rfl (pv 0) rfl) (pv 1) (fun _ _ => rfl))))))), ?_⟩
  obtain ⟨dx, e1⟩ := pc.me
  have em := pc.mt
  have rm : r ≠ S.md := fun z => by rw [z, em] at e1; cases e1
  refine ⟨S.md, _, em, True.intro, fun od => ?_⟩
  refine ⟨_, rfl, r, E, dx, _, _, rfl, (upd_ne rm).trans e1, Wp.cl, Wp.nMe, pcf_met, S.md, od, rfl, .inr ⟨_, upd_same, fun M nM => ?_⟩⟩
  have MD : M ≠ S.md := fun z => by rw [z, upd_same] at nM; cases nM
  have nM0 : H M = none := by rw [← upd_ne MD (H := H)]; exact nM
  have ml : (metK S.met).length = S.met.length := by unfold metK; rw [List.length_map]
  refine dcT_acc walk_keysT nM (by rw [ml]; omega) (fun i acc _ => acc = metK (S.met.take i)) rfl (fun G S' => S' _ _ upd_same) ?_ ?_
  · rintro i v G0 G acc hi S' eD hl rfl ⟨rfl, k', v', q, ekv, rfl, eq⟩ Fy Fn hy1 _
    have ekv' : (metK S.met)[i]? = some (k', v') := ekv
    unfold metK at ekv'
    rw [List.getElem?_map] at ekv'
    cases hn : S.met[i]? with
    | none => rw [hn] at ekv'; cases ekv'
    | some x =>
      rw [hn] at ekv'
      cases ekv'
      refine ⟨rfl, ?_⟩
      unfold tYes
      have eg : DGet G S.md (.ref q) (valV (metK S.met) (kId x.1)) := .inr ⟨metK S.met, kId x.1, q, .inr ⟨od, S' _ _ upd_same⟩, rfl, eq, rfl⟩
      have lk : lkM S.met x.1 = some x.2 := by
        have hx := List.mem_of_getElem? hn
        obtain ⟨b, eb⟩ := lkM_some (List.mem_map.mpr ⟨x, hx, rfl⟩)
        unfold lkM at eb
        cases ef : S.met.find? (fun y => decide (y.1 = x.1)) with
        | none => rw [ef] at eb; cases eb
        | some y =>
          have h0 := List.find?_some ef
          have h1 := of_decide_eq_true h0
          have h2 := List.mem_of_find?_eq_some ef
          have : y = x := by
            obtain ⟨j, hj, ej⟩ := List.getElem_of_mem h2
            have e3 : (S.met.map Prod.fst)[j]? = some x.1 := by rw [List.getElem?_map, List.getElem?_eq_getElem hj, ej]; exact congrArg some h1
            have e4 : (S.met.map Prod.fst)[i]? = some x.1 := by rw [List.getElem?_map, hn]; rfl
            have ij := (List.getElem?_inj (List.getElem?_eq_some_iff.mp e3).1 pc.ids).mp (e3.trans e4.symm)
            rw [← ij, List.getElem?_eq_getElem hj, ej] at hn
            exact Option.some.inj hn
          unfold lkM
          rw [ef, this]
          rfl
      rw [lkM_val, lk] at eg
      refine iteT ⟨_, rfl, _, rfl, r, E, dx, _, _, rfl, S' _ _ ((upd_ne rm).trans e1), Wp.cl, Wp.nMe, pcf_met, _, rfl, S.md, _, rfl, eg, hy1 (kId x.1) q _ _ (Same.refl _) eq ?_⟩
      rw [putM_new (ids_take pc.ids hn), List.take_add_one, hn]
      unfold metK
      rw [List.map_append]
      rfl
  rintro H9 acc S9 eM rfl
  rw [ml, List.take_length] at eM
  refine ⟨S9 _ _ upd_same, ?_⟩
  refine k M _ (fun b o e => ?_) nM0 ((upd_ne MD).trans eM)
  by_cases z : b = S.md
  · subst z
    rw [em] at e
    cases e
    exact upd_same
  · rw [upd_ne z]
    exact S9 b o ((upd_ne z).trans e)
end
end V59

set_option maxHeartbeats 8000000
namespace V59
open PySem PySem.Spec PyProof.Rows L2 Pw
/-! ### the orders of both rooms drawn -/
abbrev OA := Od × Addr
/-- both rooms' orders: fs the two lists, Ls what they hold -/
structure Two (H : Hp) (fs : List Addr) (Ls : List (List OA)) : Prop where
  f2 : fs.length = 2
  l2 : Ls.length = 2
  nd : fs.Nodup
  at_ : ∀ (j : Nat) (q : Addr) (L : List OA), fs[j]? = some q → Ls[j]? = some L → H q = some (.lst (L.map fun x => V.ref x.2))
  od : ∀ L ∈ Ls, ∀ x ∈ L, OdAt H x.2 x.1
theorem ixN_nat {n j : Nat} (h : j < n) : ixN n (j : Int) = some j := by
  unfold ixN
  rw [if_pos (by omega)]
  first | (rw [if_pos (by omega)]; simp) | simp [h] | omega
theorem len_le {Ls : List (List OA)} {j : Nat} {L : List OA} (h2 : Ls.length = 2) (e : Ls[j]? = some L) : L.length ≤ (Ls.map List.length).sum := by
  match Ls, h2 with
  | [a, b], _ =>
    simp only [List.map_cons, List.map_nil, List.sum_cons, List.sum_nil]
    match j with
    | 0 => cases e; omega
    | 1 => cases e; omega
    | k + 2 => simp at e
theorem but_past {p d : Addr} {X Y Z : Hp} (B : But p X Y) (n : X d = none) (B2 : But d Y Z) : But p X Z := But.of fun b o hb e => B2.at (ne_of_none e n) (B.at hb e)
theorem Two.frame {H H' : Hp} {fs : List Addr} {Ls : List (List OA)} (h : Two H fs Ls) (F : ∀ q o, q ∈ fs → H q = some o → H' q = some o) (t : ∀ q xs, H q = some (.tup xs) → H' q = some (.tup xs)) : Two H' fs Ls :=
  ⟨h.f2, h.l2, h.nd, fun j q L e1 e2 => F _ _ (List.mem_of_getElem? e1) (h.at_ j q L e1 e2), fun L hL x hx => (h.od L hL x hx).tups t⟩
/-- an order more in one room -/
theorem Two.put {H : Hp} {fs : List Addr} {Ls : List (List OA)} {j : Nat} {q : Addr} {L : List OA} {x : OA} (h : Two H fs Ls) (e1 : fs[j]? = some q) (e2 : Ls[j]? = some L) (o : OdAt H x.2 x.1) : Two (upd H q (.lst ((L.map fun x => V.ref x.2) ++ [.ref x.2]))) fs (Ls.set j (L ++ [x])) := by
  have eq := h.at_ j q L e1 e2
  have t : ∀ b xs, H b = some (.tup xs) → upd H q (.lst ((L.map fun x => V.ref x.2) ++ [.ref x.2])) b = some (.tup xs) := fun b xs e => (upd_ne (fun z => by rw [z, eq] at e; cases e)).trans e
  have hj := (List.getElem?_eq_some_iff.mp e2).1
  refine ⟨h.f2, by rw [List.length_set]; exact h.l2, h.nd, fun i b M f1 f2 => ?_, fun M hM y hy => ?_⟩
  · by_cases z : i = j
    · subst z
      rw [e1] at f1
      cases f1
      rw [List.getElem?_set_self hj] at f2
      cases f2
      rw [upd_same, List.map_append]
      rfl
    · rw [List.getElem?_set_ne (Ne.symm z)] at f2
      refine (upd_ne (fun zz => z ?_)).trans (h.at_ i b M f1 f2)
      rw [zz] at f1
      exact (List.getElem?_inj (List.getElem?_eq_some_iff.mp f1).1 h.nd).mp (f1.trans e1.symm)
  · rcases List.mem_or_eq_of_mem_set hM with hM | rfl
    · exact (h.od M hM y hy).tups t
    · rcases List.mem_append.mp hy with hy | hy
      · exact (h.od L (List.mem_of_getElem? e2) y hy).tups t
      · rw [List.mem_singleton.mp hy]
        exact o.tups t
theorem sum_set {Ls : List (List OA)} {j : Nat} {L : List OA} {x : OA} (h2 : Ls.length = 2) (e : Ls[j]? = some L) : ((Ls.set j (L ++ [x])).map List.length).sum = (Ls.map List.length).sum + 1 := by
  match Ls, h2 with
  | [a, b], _ =>
    match j with
    | 0 =>
      cases e
      simp only [List.set_cons_zero, List.map_cons, List.map_nil, List.sum_cons, List.sum_nil, List.length_append, List.length_singleton]
      omega
    | 1 =>
      cases e
      simp only [List.set_cons_zero, List.set_cons_succ, List.map_cons, List.map_nil, List.sum_cons, List.sum_nil, List.length_append, List.length_singleton]
      omega
    | k + 2 => simp at e
section
variable {P : Program} {w : World} {K : PySem.W.Frag} {mg : Str → Option Value} {base : Heap}
def spLL (K : PySem.W.Frag) : Sp := fun vs H Q _ => ∃ p a n cs xs, vs = [.ref p, .ref a] ∧ BoxAt H p n ∧ n ≤ 800000 ∧ a ≠ p ∧ H a = some (.lst xs) ∧ Al fC H xs cs ∧ 1 ≤ (cs : List Cm).length ∧ cs.length ≤ 8 ∧
  ∀ A fs Ls H', H A = none → BoxAt H' p (n + 100) → But p H H' → H' A = some (.lst (fs.map V.ref)) → (∀ q ∈ fs, H q = none) → Two H' fs Ls → (∀ L ∈ Ls, ∀ x ∈ L, GoodOd cs x.1) → (Ls.map List.length).sum ≤ 25 → Q (.ref A) H'
theorem d_ll (T : Txt mg) (A : At K mg "_law_letters" sLawLetters) (dt : Def P w K mg base "_law_take" 1 ["_law_box_here", "_law_many"] (spTake K)) : Def P w K mg base "_law_letters" 2 ["_law_box_here", "_law_orders"] (spLL K) := by
  refine mkDef A scLawLetters (fun _ _ _ _ _ _ us hl => match us, hl with | [_, _], _ => rfl) (fun vs H Q E ⟨_, _, _, _, _, e, _⟩ => by rw [e]; rfl)
    (fun f cdv A0 out s H vs Q E hr h => ?_)
  obtain ⟨p, a, n, cs, xs, rfl, hb, hn, ap, ea, al, c1, c8, k⟩ := h
  refine ⟨_, (pss_cons (ps_par3 (i := 2) (j := 3) (l := 4) rfl scLawLetters.nd rfl rfl rfl (by decide) (by decide) (by decide) rfl rfl rfl (pa_cons (pe_lst (pa_cons (pe_lst pa_nil) (pa_cons (pe_lst pa_nil) pa_nil))) (pa_cons (pe_lst (pa_cons pe_int (pa_cons pe_int pa_nil))) (pa_cons (pe_lst (pa_cons pe_int (pa_cons pe_int pa_nil))) pa_nil))) rfl)
    (pss_cons (ps_for PassesOwn.never rfl (pi_range1 (by rfl) T.range (pa_cons (pe_op op_add pe_int (pe_d dt hr (by decide) (by rfl) (pa_cons (pv 0) (pa_cons pe_int pa_nil)))) pa_nil)) (pg_name (i := 5) scLawLetters.nd rfl (.inl rfl))
      (pss_cons (ps_par (i := 6) (j := 7) rfl scLawLetters.nd rfl rfl (by decide) rfl rfl (pa_cons (pe_d dt hr (by decide) (by rfl) (pa_cons (pv 0) (pa_cons pe_int pa_nil))) (pa_cons (pe_d dt hr (by decide) (by rfl) (pa_cons (pv 0) (pa_cons pe_int pa_nil))) pa_nil)) rfl)
      (pss_one (ps_if (pt_cmpR op_eq (pv 7) pe_int (nomark _))
        (pss_cons (ps_asg (pe_op op_add (pe_op op_add (pe_callB (cr_max rfl) (by rfl) T.max PyProof.Rows.boot_max (pa_cons (pv 3) pa_nil)) pe_int) (pe_callTy call_int1 (by rfl) T.int (by decide +kernel) (pa_cons (pe_cmpR op_ne (pe_op op_mod (pe_op op_add (pe_callB (cr_max rfl) (by rfl) T.max PyProof.Rows.boot_max (pa_cons (pv 3) pa_nil)) pe_int) pe_int) (pv 6) (nomark _)) pa_nil))) (pg_sub (pv 3) (pv 6) set_list))
        (pss_one (ps_expr (pe_bm PySem.F.plainAttrs_list PySem.F.slot_list_append PySem.F.type_list_append mt_append (pe_ix ix_list (pv 2) (pv 6) (fun _ _ => rfl)) (pa_cons (pe_tup (pa_cons pe_str (pa_cons (pe_ix ix_list (pv 3) (pv 6) (fun _ _ => rfl)) pa_nil))) pa_nil)))))
        (pss_one (ps_if (PW.pt (pw_and (pt_cmpR op_eq (pv 7) pe_int (nomark _)) (pw_and1 (pt_cmpR op_gt (pe_ix ix_list (pv 4) (pv 6) (fun _ _ => rfl)) pe_int (nomark _)))))
          (pss_one (ps_expr (pe_bm PySem.F.plainAttrs_list PySem.F.slot_list_append PySem.F.type_list_append mt_append (pe_ix ix_list (pv 2) (pv 6) (fun _ _ => rfl)) (pa_cons (pe_tup (pa_cons pe_str (pa_cons (pe_tup (pa_cons (pe_ix ix_list (pv 3) (pv 6) (fun _ _ => rfl)) (pa_cons (pe_ix ix_list (pv 4) (pv 6) (fun _ _ => rfl)) pa_nil))) pa_nil))) pa_nil))))
          (pss_cons (ps_asg (pe_op op_add (pe_ix ix_list (pv 4) (pv 6) (fun _ _ => rfl)) pe_int) (pg_sub (pv 4) (pv 6) set_list))
          (pss_one (ps_expr (pe_bm PySem.F.plainAttrs_list PySem.F.slot_list_append PySem.F.type_list_append mt_append (pe_ix ix_list (pv 2) (pv 6) (fun _ _ => rfl)) (pa_cons (pe_tup (pa_cons pe_str (pa_cons (pe_tup (pa_cons (pe_ix ix_list (pv 3) (pv 6) (fun _ _ => rfl)) (pa_cons (pe_ix ix_list (pv 4) (pv 6) (fun _ _ => rfl)) pa_nil))) (pa_cons (pe_ix ix_tup (pe_ix ix_list (pv 1) (pe_d dt hr (by decide) (by rfl) (pa_cons (pv 0) (pa_cons (pe_callB call_len_seq (by rfl) T.len PySem.boot_len (pa_cons (pv 1) pa_nil)) pa_nil))) (fun _ _ => rfl)) pe_int (fun _ _ => rfl)) pa_nil)))) pa_nil)))))))))))
    (pss_one (ps_ret (pv 2))))), ?_⟩
  -- READ
  refine ⟨by show 0 ≤ sizeLine; decide, fun q0 n0 => ?_⟩
  have n0' := n0
  have U0 := Same.laid (o := HO.lst []) n0
  have f0 : upd H q0 (.lst []) q0 = some (.lst []) := upd_same
  have h0 := hb.keep U0
  have m0 := hb.ne n0
  generalize upd H q0 (.lst []) = H0 at *
  refine ⟨by show 0 ≤ sizeLine; decide, fun q1 n1 => ?_⟩
  have U1 := Same.laid (o := HO.lst []) n1
  have f1 : upd H0 q1 (.lst []) q1 = some (.lst []) := upd_same
  have h1 := h0.keep U1
  have m1 := h0.ne n1
  have q01 : q0 ≠ q1 := ne_of_none f0 n1
  have n1' := Same.no U0 n1
  generalize upd H0 q1 (.lst []) = H1 at *
  refine ⟨by show 2 ≤ sizeLine; decide, fun A nA => ?_⟩
  have U2 := Same.laid (o := HO.lst [V.ref q0, .ref q1]) nA
  have f2 : upd H1 A (.lst [V.ref q0, .ref q1]) A = some (.lst [V.ref q0, .ref q1]) := upd_same
  have h2 := h1.keep U2
  have m2 := h1.ne nA
  have nA' := Same.no U0 (Same.no U1 nA)
  have Aq0 : A ≠ q0 := (ne_of_none (U1 _ _ f0) nA).symm
  have Aq1 : A ≠ q1 := (ne_of_none f1 nA).symm
  generalize upd H1 A (.lst [V.ref q0, .ref q1]) = H2 at *
  refine ⟨by show 2 ≤ sizeLine; decide, fun B nB => ?_⟩
  have U3 := Same.laid (o := HO.lst [V.int 0, .int 1]) nB
  have f3 : upd H2 B (.lst [V.int 0, .int 1]) B = some (.lst [V.int 0, .int 1]) := upd_same
  have h3 := h2.keep U3
  have m3 := h2.ne nB
  have Bq0 : B ≠ q0 := (ne_of_none (U2 _ _ (U1 _ _ f0)) nB).symm
  have Bq1 : B ≠ q1 := (ne_of_none (U2 _ _ f1) nB).symm
  have BA : B ≠ A := (ne_of_none f2 nB).symm
  have nB' := Same.no U0 (Same.no U1 (Same.no U2 nB))
  generalize upd H2 B (.lst [V.int 0, .int 1]) = H3 at *
  refine ⟨by show 2 ≤ sizeLine; decide, fun D nD => ?_⟩
  have U4 := Same.laid (o := HO.lst [V.int 0, .int 0]) nD
  have f4 : upd H3 D (.lst [V.int 0, .int 0]) D = some (.lst [V.int 0, .int 0]) := upd_same
  have h4 := h3.keep U4
  have m4 := h3.ne nD
  have Dq0 : D ≠ q0 := (ne_of_none (U3 _ _ (U2 _ _ (U1 _ _ f0))) nD).symm
  have Dq1 : D ≠ q1 := (ne_of_none (U3 _ _ (U2 _ _ f1)) nD).symm
  have DA : D ≠ A := (ne_of_none (U3 _ _ f2) nD).symm
  have DB : D ≠ B := (ne_of_none f3 nD).symm
  have nD' := Same.no U0 (Same.no U1 (Same.no U2 (Same.no U3 nD)))
  have UH := U0.trans (U1.trans (U2.trans (U3.trans U4)))
  have g0 := U4 _ _ (U3 _ _ (U2 _ _ (U1 _ _ f0)))
  have g1 := U4 _ _ (U3 _ _ (U2 _ _ f1))
  have g2 := U4 _ _ (U3 _ _ f2)
  have g3 := U4 _ _ f3
  generalize upd H3 D (.lst [V.int 0, .int 0]) = H4 at *
  refine ⟨_, _, _, rfl, ?_⟩
  dsimp only [gName, List.set_cons_zero, List.set_cons_succ]
  clear U0 U1 U2 U3 U4 f0 f1 f2 f3 h0 h1 h2 h3 n0 n1 nA nB nD
  have t0 : Two H4 [q0, q1] [[], []] := ⟨rfl, rfl, List.nodup_cons.mpr ⟨by simpa using q01, by simp⟩, fun j q L e1 e2 => by
    match j with
    | 0 => cases e1; cases e2; exact g0
    | 1 => cases e1; cases e2; exact g1
    | k + 2 => simp at e1, fun L hL x hx => by
    simp only [List.mem_cons, List.not_mem_nil, or_false, or_self] at hL
    rw [hL] at hx
    cases hx⟩
  refine ⟨_, rfl, p, 20, _, rfl, h4, by omega, by decide, by decide, fun j0 H5 ja jb hb5 B5 => ?_⟩
  refine ⟨6, j0, rfl, rfl, ?_⟩
  obtain ⟨mm, emm⟩ := Int.eq_ofNat_of_zero_le (show 0 ≤ 6 + j0 by omega)
  refine ⟨(mm : Int), congrArg (fun z => [V.int z]) emm, by omega, by omega, ?_⟩
  have mm25 : mm ≤ 25 := by omega
  have BH5 : But p H H5 := (Same.but UH).trans B5
  have ebp := h4.lst.choose_spec
  have t5 : Two H5 [q0, q1] [[], []] := t0.frame (fun q o hq e => B5.at (fun z => by
    simp only [List.mem_cons, List.not_mem_nil, or_false] at hq
    rcases hq with rfl | rfl
    · exact m0 z
    · exact m1 z) e) fun q xs e => B5.at (fun z => by rw [z, ebp] at e; cases e) e
  have emG : ∀ L ∈ ([[], []] : List (List OA)), ∀ x ∈ L, GoodOd cs x.1 := fun L hL x hx => by
    simp only [List.mem_cons, List.not_mem_nil, or_false, or_self] at hL
    rw [hL] at hx
    cases hx
  refine for_it (walk_range (lo := 0) (n := mm)) (fun i σ X => (∃ v5 v6 v7 : Option V, σ = [some (.ref p), some (.ref a), some (.ref A), some (.ref B), some (.ref D), v5, v6, v7]) ∧ BoxAt X p (n + 1 + 3 * i) ∧ But p H X ∧ X A = some (.lst [.ref q0, .ref q1]) ∧
    ∃ (ts ns : List Int) (Ls : List (List OA)), X B = some (.lst (ts.map V.int)) ∧ X D = some (.lst (ns.map V.int)) ∧ ts.length = 2 ∧ ns.length = 2 ∧ (∀ t ∈ ts, 0 ≤ t ∧ t ≤ 1 + 2 * (i : Int)) ∧ (∀ m ∈ ns, 0 ≤ m ∧ m ≤ i) ∧ Two X [q0, q1] Ls ∧ (∀ L ∈ Ls, ∀ x ∈ L, GoodOd cs x.1) ∧ (Ls.map List.length).sum ≤ i)
    ⟨⟨_, _, _, rfl⟩, hb5, BH5, B5.at m2 g2, [0, 1], [0, 0], [[], []], B5.at m3 g3, B5.at m4 f4, rfl, rfl, by decide, by decide, t5, emG, by decide⟩ (fun _ _ _ _ _ => trivial) ?_ ?_
  · rintro i v σ X0 X hi ⟨⟨v5, v6, v7, rfl⟩, hbX, BX, eA, ts, ns, Ls, eB, eD, tl, nl, htr, hnr, two, good, sum⟩ ⟨rfl, rfl⟩
    dsimp only [gName, List.set_cons_zero, List.set_cons_succ]
    refine ⟨_, rfl, p, 2, _, rfl, hbX, by omega, by decide, by decide, fun jr X1 r0 r2 hb1 B1 => ?_⟩
    refine ⟨_, rfl, p, 8, _, rfl, hb1, by omega, by decide, by decide, fun jw X2 w0 w8 hb2 B2 => ?_⟩
    refine ⟨_, _, rfl, ?_⟩
    obtain ⟨j, rfl⟩ := Int.eq_ofNat_of_zero_le r0
    have hj : j < 2 := by omega
    dsimp only [gName, List.set_cons_zero, List.set_cons_succ]
    have B12 := B1.trans B2
    have ebX := hbX.lst.choose_spec
    have eA2 := B12.at m2 eA
    have eB2 := B12.at m3 eB
    have eD2 := B12.at m4 eD
    have BX2 := BX.trans B12
    have qp : ∀ q ∈ [q0, q1], q ≠ p ∧ H q = none ∧ q ≠ A ∧ q ≠ B ∧ q ≠ D := fun q hq => by
      simp only [List.mem_cons, List.not_mem_nil, or_false] at hq
      rcases hq with rfl | rfl
      · exact ⟨m0, n0', Aq0.symm, Bq0.symm, Dq0.symm⟩
      · exact ⟨m1, n1', Aq1.symm, Bq1.symm, Dq1.symm⟩
    have two2 : Two X2 [q0, q1] Ls := two.frame (fun q o hq e => B12.at (qp q hq).1 e) fun q xs e => B12.at (fun z => by rw [z, ebX] at e; cases e) e
    obtain ⟨q, hq⟩ : ∃ q, [q0, q1][j]? = some q := ⟨_, List.getElem?_eq_getElem (show j < [q0, q1].length from hj)⟩
    obtain ⟨L, hL⟩ : ∃ L, Ls[j]? = some L := ⟨_, List.getElem?_eq_getElem (by rw [two.l2]; exact hj)⟩
    obtain ⟨tm, htm⟩ : ∃ tm, ts[j]? = some tm := ⟨_, List.getElem?_eq_getElem (by rw [tl]; exact hj)⟩
    obtain ⟨nm, hnm⟩ : ∃ nm, ns[j]? = some nm := ⟨_, List.getElem?_eq_getElem (by rw [nl]; exact hj)⟩
    have eq2 := two2.at_ j q L hq hL
    obtain ⟨qp0, qH, qA, qB, qD⟩ := qp q (List.mem_of_getElem? hq)
    have hm := htr tm (List.mem_of_getElem? htm)
    have hn2 := hnr nm (List.mem_of_getElem? hnm)
    have lenL : L.length ≤ 25 := by
      have := len_le two.l2 hL
      omega
    have fin : ∀ (Xe : Hp) (ts' ns' : List Int) (o : Od) (t : Addr) (v5 v6 v7 : Option V), BoxAt Xe p (n + 1 + 3 * (i + 1)) → But p H Xe → Xe A = some (.lst [.ref q0, .ref q1]) → Xe B = some (.lst (ts'.map V.int)) → Xe D = some (.lst (ns'.map V.int)) → ts'.length = 2 → ns'.length = 2 →
        (∀ t ∈ ts', 0 ≤ t ∧ t ≤ 1 + 2 * ((i + 1 : Nat) : Int)) → (∀ m ∈ ns', 0 ≤ m ∧ m ≤ ((i + 1 : Nat) : Int)) → Two Xe [q0, q1] Ls → OdAt Xe t o → GoodOd cs o →
        (∃ v5' v6' v7' : Option V, [some (.ref p), some (.ref a), some (.ref A), some (.ref B), some (.ref D), v5, v6, v7] = [some (.ref p), some (.ref a), some (.ref A), some (.ref B), some (.ref D), v5', v6', v7']) ∧ BoxAt (upd Xe q (.lst ((L.map fun x => V.ref x.2) ++ [.ref t]))) p (n + 1 + 3 * (i + 1)) ∧ But p H (upd Xe q (.lst ((L.map fun x => V.ref x.2) ++ [.ref t]))) ∧ upd Xe q (.lst ((L.map fun x => V.ref x.2) ++ [.ref t])) A = some (.lst [.ref q0, .ref q1]) ∧
        ∃ (ts ns : List Int) (Ls : List (List OA)), upd Xe q (.lst ((L.map fun x => V.ref x.2) ++ [.ref t])) B = some (.lst (ts.map V.int)) ∧ upd Xe q (.lst ((L.map fun x => V.ref x.2) ++ [.ref t])) D = some (.lst (ns.map V.int)) ∧ ts.length = 2 ∧ ns.length = 2 ∧ (∀ t ∈ ts, 0 ≤ t ∧ t ≤ 1 + 2 * ((i + 1 : Nat) : Int)) ∧ (∀ m ∈ ns, 0 ≤ m ∧ m ≤ ((i + 1 : Nat) : Int)) ∧ Two (upd Xe q (.lst ((L.map fun x => V.ref x.2) ++ [.ref t]))) [q0, q1] Ls ∧ (∀ L ∈ Ls, ∀ x ∈ L, GoodOd cs x.1) ∧ (Ls.map List.length).sum ≤ i + 1 :=
      fun Xe ts' ns' o t v5 v6 v7 c1 c2 c3 c4 c5 c6 c7 c8 c9 c10 c11 c12 => ⟨⟨_, _, _, rfl⟩, c1.set qp0, but_past c2 qH But.set, (upd_ne qA.symm).trans c3, ts', ns', Ls.set j (L ++ [(o, t)]), (upd_ne qB.symm).trans c4, (upd_ne qD.symm).trans c5, c6, c7, c8, c9, c10.put (x := (o, t)) hq hL c11, fun M hM y hy => by
        rcases List.mem_or_eq_of_mem_set hM with hM | rfl
        · exact good M hM y hy
        · rcases List.mem_append.mp hy with hy | hy
          · exact good L (List.mem_of_getElem? hL) y hy
          · rw [List.mem_singleton.mp hy]
            exact c12, by rw [sum_set two.l2 hL]; omega⟩
    refine ⟨_, rfl, rfl, _, rfl, ?_⟩
    by_cases c0 : jw = 0
    · rw [decide_eq_true (congrArg V.int c0)]
      refine iteT ?_
      refine ⟨_, rfl, B, ts, rfl, SqL.of eB2, by omega, fun m hm1 hm2 => ?_⟩
      refine ⟨m, 1, rfl, rfl, ?_⟩
      refine ⟨_, rfl, B, ts, rfl, SqL.of eB2, by omega, fun m' hm1' hm2' => ?_⟩
      refine ⟨m', 1, rfl, rfl, m' + 1, 2, rfl, rfl, (by show (0 : Int) < 2; decide), ?_⟩
      refine ⟨_, rfl, rfl, .inr ⟨_, rfl, ?_⟩⟩
      obtain ⟨tv, etv, tv0, tv1⟩ : ∃ tv : Int, (m + 1 + (if (!decide (V.int ((m' + 1) % 2) = V.int (j : Int))) = true then 1 else 0) : Int) = tv ∧ 0 ≤ tv ∧ tv ≤ 3 + 2 * (i : Int) := by
        have := htr m hm1
        refine ⟨_, rfl, ?_, ?_⟩ <;> split <;> omega
      refine ⟨m + 1, _, rfl, rfl, ?_⟩
      dsimp only
      rw [etv]
      refine ⟨_, rfl, _, rfl, B, _, (j : Int), j, rfl, rfl, eB2, by rw [List.length_map, tl]; exact ixN_nat hj, ?_⟩
      have B3 : But B X2 (upd X2 B (.lst ((ts.map V.int).set j (V.int tv)))) := But.set
      have eB3 : upd X2 B (.lst ((ts.map V.int).set j (V.int tv))) B = some (.lst ((ts.set j tv).map V.int)) := by rw [upd_same, List.map_set]
      have eA3 := B3.at BA.symm eA2
      have eD3 := B3.at DB eD2
      have eq3 := B3.at qB eq2
      have hb3 := hb2.set (o := HO.lst ((ts.map V.int).set j (V.int tv))) (D := B) m3
      have BX3 := but_past BX2 nB' B3
      have two3 := two2.frame (fun b o hb e => B3.at (qp b hb).2.2.2.1 e) fun b xs e => B3.at (fun z => by rw [z, eB2] at e; cases e) e
      generalize upd X2 B (.lst ((ts.map V.int).set j (V.int tv))) = X3 at *
      have hset : (ts.set j tv)[j]? = some tv := List.getElem?_set_self (by omega)
      refine ⟨_, rfl, _, rfl, A, _, (j : Int), .ref q, rfl, rfl, SqL.of eA3, atI_nat (by match j, hj with
        | 0, _ => exact congrArg (Option.map V.ref) hq
        | 1, _ => exact congrArg (Option.map V.ref) hq), .inl ⟨rfl, _, SqL.of eq3⟩, _, rfl, _, rfl, B, _, (j : Int), .int tv, rfl, rfl, SqL.of eB3, atI_nat (by rw [List.getElem?_map, hset]; rfl), by show 2 ≤ sizeLine; decide, fun t nt => ?_⟩
      have S4 := Same.laid (o := HO.tup [.str "term", .int tv]) nt
      have et : upd X3 t (.tup [.str "term", .int tv]) t = some (.tup [.str "term", .int tv]) := upd_same
      have hb4 := hb3.keep S4
      have BX4 := BX3.trans (Same.but S4)
      have two4 := two3.frame (fun b o _ e => S4 _ _ e) fun b xs e => S4 _ _ e
      generalize upd X3 t (.tup [.str "term", .int tv]) = X4 at *
      refine ⟨q, _, .ref t, rfl, rfl, S4 _ _ eq3, Nat.lt_of_le_of_lt (show _ ≤ 25 by rw [List.length_map]; exact lenL) (by decide), ?_⟩
      exact fin X4 (ts.set j tv) ns (.term tv) t _ _ _ (hb4.up (by omega)) BX4 (S4 _ _ eA3) (S4 _ _ eB3) (S4 _ _ eD3) (by rw [List.length_set]; exact tl) nl (fun x hx => by
        rcases List.mem_or_eq_of_mem_set hx with hx | rfl
        · have := htr x hx
          omega
        · omega) (fun x hx => by have := hnr x hx; omega) two4 et ⟨by omega, by omega⟩
    · rw [decide_eq_false fun z => c0 (V.int.inj z)]
      refine iteF ?_
      refine ⟨_, rfl, rfl, _, rfl, ?_⟩
      by_cases c1 : jw = 1
      · rw [decide_eq_true (congrArg V.int c1)]
        refine iteT ?_
        refine ⟨_, rfl, _, rfl, D, _, (j : Int), .int nm, rfl, rfl, SqL.of eD2, atI_nat (by rw [List.getElem?_map, hnm]; rfl), nm, 0, rfl, rfl, _, rfl, ?_⟩
        by_cases c2 : nm > 0
        · rw [decide_eq_true c2]
          refine iteT ?_
          refine ⟨_, rfl, _, rfl, A, _, (j : Int), .ref q, rfl, rfl, SqL.of eA2, atI_nat (by match j, hj with
          | 0, _ => exact congrArg (Option.map V.ref) hq
          | 1, _ => exact congrArg (Option.map V.ref) hq), .inl ⟨rfl, _, SqL.of eq2⟩, _, rfl, _, rfl, B, _, (j : Int), .int tm, rfl, rfl, SqL.of eB2, atI_nat (by rw [List.getElem?_map, htm]; rfl), _, rfl, _, rfl, D, _, (j : Int), .int nm, rfl, rfl, SqL.of eD2, atI_nat (by rw [List.getElem?_map, hnm]; rfl), by show 2 ≤ sizeLine; decide, fun qi nqi => ⟨by show 2 ≤ sizeLine; decide, fun t nt => ?_⟩⟩
          have S4 := Same.laid (o := HO.tup [.int tm, .int nm]) nqi
          have eqi : upd X2 qi (.tup [.int tm, .int nm]) qi = some (.tup (tId (tm, nm))) := upd_same
          have hb4 := hb2.keep S4
          have BX4 := BX2.trans (Same.but S4)
          have two4 := two2.frame (fun b o _ e => S4 _ _ e) fun b xs e => S4 _ _ e
          have eA4 := S4 _ _ eA2
          have eB4 := S4 _ _ eB2
          have eD4 := S4 _ _ eD2
          have eq4 := S4 _ _ eq2
          generalize upd X2 qi (.tup [.int tm, .int nm]) = X4 at *
          have S6 := Same.laid (o := HO.tup [.str "back", .ref qi]) nt
          have et : upd X4 t (.tup [.str "back", .ref qi]) t = some (.tup [.str "back", .ref qi]) := upd_same
          have hb6 := hb4.keep S6
          have BX6 := BX4.trans (Same.but S6)
          have two6 := two4.frame (fun b o _ e => S6 _ _ e) fun b xs e => S6 _ _ e
          generalize upd X4 t (.tup [.str "back", .ref qi]) = X6 at *
          refine ⟨q, _, .ref t, rfl, rfl, S6 _ _ eq4, Nat.lt_of_le_of_lt (show _ ≤ 25 by rw [List.length_map]; exact lenL) (by decide), ?_⟩
          exact fin X6 ts ns (.back (tm, nm)) t _ _ _ (hb6.up (by omega)) BX6 (S6 _ _ eA4) (S6 _ _ eB4) (S6 _ _ eD4) tl nl (fun x hx => by have := htr x hx; omega) (fun x hx => by have := hnr x hx; omega) two6 ⟨qi, et, S6 _ _ eqi⟩ ⟨by show 0 ≤ tm; omega, by show tm ≤ 999; omega, by show 1 ≤ nm; omega, by show nm ≤ 999; omega⟩
        · rw [decide_eq_false c2]
          refine iteF ?_
          exact (by
      refine ⟨_, rfl, _, rfl, D, _, (j : Int), .int nm, rfl, rfl, SqL.of eD2, atI_nat (by rw [List.getElem?_map, hnm]; rfl), nm, 1, rfl, rfl, _, rfl, _, rfl, D, _, (j : Int), j, rfl, rfl, eD2, by rw [List.length_map, nl]; exact ixN_nat hj, ?_⟩
      have B3 : But D X2 (upd X2 D (.lst ((ns.map V.int).set j (V.int (nm + 1))))) := But.set
      have eD3 : upd X2 D (.lst ((ns.map V.int).set j (V.int (nm + 1)))) D = some (.lst ((ns.set j (nm + 1)).map V.int)) := by rw [upd_same, List.map_set]
      have eA3 := B3.at DA.symm eA2
      have eB3 := B3.at DB.symm eB2
      have eq3 := B3.at qD eq2
      have hb3 := hb2.set (o := HO.lst ((ns.map V.int).set j (V.int (nm + 1)))) (D := D) m4
      have BX3 := but_past BX2 nD' B3
      have two3 := two2.frame (fun b o hb e => B3.at (qp b hb).2.2.2.2 e) fun b xs e => B3.at (fun z => by rw [z, eD2] at e; cases e) e
      generalize upd X2 D (.lst ((ns.map V.int).set j (V.int (nm + 1)))) = X3 at *
      have hset : (ns.set j (nm + 1))[j]? = some (nm + 1) := List.getElem?_set_self (by omega)
      refine ⟨_, rfl, _, rfl, A, _, (j : Int), .ref q, rfl, rfl, SqL.of eA3, atI_nat (by match j, hj with
        | 0, _ => exact congrArg (Option.map V.ref) hq
        | 1, _ => exact congrArg (Option.map V.ref) hq), .inl ⟨rfl, _, SqL.of eq3⟩, _, rfl, _, rfl, B, _, (j : Int), .int tm, rfl, rfl, SqL.of eB3, atI_nat (by rw [List.getElem?_map, htm]; rfl), _, rfl, _, rfl, D, _, (j : Int), .int (nm + 1), rfl, rfl, SqL.of eD3, atI_nat (by rw [List.getElem?_map, hset]; rfl), by show 2 ≤ sizeLine; decide, fun qi nqi => ?_⟩
      have S4 := Same.laid (o := HO.tup [.int tm, .int (nm + 1)]) nqi
      have eqi : upd X3 qi (.tup [.int tm, .int (nm + 1)]) qi = some (.tup (tId (tm, nm + 1))) := upd_same
      have hb4 := hb3.keep S4
      have qip := hb3.ne nqi
      have BX4 := BX3.trans (Same.but S4)
      have two4 := two3.frame (fun b o _ e => S4 _ _ e) fun b xs e => S4 _ _ e
      have eA4 := S4 _ _ eA3
      have eB4 := S4 _ _ eB3
      have eD4 := S4 _ _ eD3
      have eq4 := S4 _ _ eq3
      generalize upd X3 qi (.tup [.int tm, .int (nm + 1)]) = X4 at *
      have xsl := al.length
      have ea4 := BX4.at ap ea
      refine ⟨_, rfl, _, rfl, _, rfl, a, _, rfl, .inl (SqL.of ea4), p, _, _, rfl, hb4, by omega, by omega, Int.lt_of_le_of_lt (show (xs.length : Int) ≤ 8 by omega) (by decide), fun jo X5 o0 o1 hb5 B5 => ?_⟩
      obtain ⟨jn, rfl⟩ := Int.eq_ofNat_of_zero_le o0
      have hjn : jn < cs.length := by omega
      have BX5 := BX4.trans B5
      have al5 : Al fC X5 xs cs := al.imp fun b ys e => BX5.at (fun z => by rw [z, hb.lst.choose_spec] at e; cases e) e
      obtain ⟨qc, hqc, eqc⟩ := al5.at (List.getElem?_eq_getElem hjn)
      have hcin := List.getElem_mem hjn
      generalize cs[jn] = c at eqc hcin hqc
      have eb4 := hb4.lst.choose_spec
      refine ⟨a, _, (jn : Int), .ref qc, rfl, rfl, SqL.of (BX5.at ap ea), atI_nat hqc, qc, _, 0, .str c.nm, rfl, rfl, SqT.of eqc, rfl, by show 3 ≤ sizeLine; decide, fun t nt => ?_⟩
      have S6 := Same.laid (o := HO.tup [.str "do", .ref qi, .str c.nm]) nt
      have et : upd X5 t (.tup [.str "do", .ref qi, .str c.nm]) t = some (.tup [.str "do", .ref qi, .str c.nm]) := upd_same
      have hb6 := hb5.keep S6
      have BX6 := BX5.trans (Same.but S6)
      have two6 := (two4.frame (fun b o hb e => B5.at (qp b hb).1 e) fun b xs e => B5.at (fun z => by rw [z, eb4] at e; cases e) e).frame (fun b o _ e => S6 _ _ e) fun b xs e => S6 _ _ e
      have eqi6 := S6 _ _ (B5.at qip eqi)
      have eq6 := S6 _ _ (B5.at qp0 eq4)
      have eA6 := S6 _ _ (B5.at m2 eA4)
      have eB6 := S6 _ _ (B5.at m3 eB4)
      have eD6 := S6 _ _ (B5.at m4 eD4)
      generalize upd X5 t (.tup [.str "do", .ref qi, .str c.nm]) = X6 at *
      refine ⟨q, _, .ref t, rfl, rfl, eq6, Nat.lt_of_le_of_lt (show _ ≤ 25 by rw [List.length_map]; exact lenL) (by decide), ?_⟩
      exact fin X6 ts (ns.set j (nm + 1)) (.act (tm, nm + 1) c.nm) t _ _ _ (hb6.up (by omega)) BX6 eA6 eB6 eD6 tl (by rw [List.length_set]; exact nl) (fun x hx => by have := htr x hx; omega) (fun x hx => by
        rcases List.mem_or_eq_of_mem_set hx with hx | rfl
        · have := hnr x hx
          omega
        · omega) two6 ⟨qi, et, eqi6⟩ ⟨⟨by show 0 ≤ tm; omega, by show tm ≤ 999; omega, by show 1 ≤ nm + 1; omega, by show nm + 1 ≤ 999; omega⟩, c, hcin, rfl⟩)
      · rw [decide_eq_false fun z => c1 (V.int.inj z)]
        refine iteF ?_
        refine iteF ?_
        exact (by
      refine ⟨_, rfl, _, rfl, D, _, (j : Int), .int nm, rfl, rfl, SqL.of eD2, atI_nat (by rw [List.getElem?_map, hnm]; rfl), nm, 1, rfl, rfl, _, rfl, _, rfl, D, _, (j : Int), j, rfl, rfl, eD2, by rw [List.length_map, nl]; exact ixN_nat hj, ?_⟩
      have B3 : But D X2 (upd X2 D (.lst ((ns.map V.int).set j (V.int (nm + 1))))) := But.set
      have eD3 : upd X2 D (.lst ((ns.map V.int).set j (V.int (nm + 1)))) D = some (.lst ((ns.set j (nm + 1)).map V.int)) := by rw [upd_same, List.map_set]
      have eA3 := B3.at DA.symm eA2
      have eB3 := B3.at DB.symm eB2
      have eq3 := B3.at qD eq2
      have hb3 := hb2.set (o := HO.lst ((ns.map V.int).set j (V.int (nm + 1)))) (D := D) m4
      have BX3 := but_past BX2 nD' B3
      have two3 := two2.frame (fun b o hb e => B3.at (qp b hb).2.2.2.2 e) fun b xs e => B3.at (fun z => by rw [z, eD2] at e; cases e) e
      generalize upd X2 D (.lst ((ns.map V.int).set j (V.int (nm + 1)))) = X3 at *
      have hset : (ns.set j (nm + 1))[j]? = some (nm + 1) := List.getElem?_set_self (by omega)
      refine ⟨_, rfl, _, rfl, A, _, (j : Int), .ref q, rfl, rfl, SqL.of eA3, atI_nat (by match j, hj with
        | 0, _ => exact congrArg (Option.map V.ref) hq
        | 1, _ => exact congrArg (Option.map V.ref) hq), .inl ⟨rfl, _, SqL.of eq3⟩, _, rfl, _, rfl, B, _, (j : Int), .int tm, rfl, rfl, SqL.of eB3, atI_nat (by rw [List.getElem?_map, htm]; rfl), _, rfl, _, rfl, D, _, (j : Int), .int (nm + 1), rfl, rfl, SqL.of eD3, atI_nat (by rw [List.getElem?_map, hset]; rfl), by show 2 ≤ sizeLine; decide, fun qi nqi => ?_⟩
      have S4 := Same.laid (o := HO.tup [.int tm, .int (nm + 1)]) nqi
      have eqi : upd X3 qi (.tup [.int tm, .int (nm + 1)]) qi = some (.tup (tId (tm, nm + 1))) := upd_same
      have hb4 := hb3.keep S4
      have qip := hb3.ne nqi
      have BX4 := BX3.trans (Same.but S4)
      have two4 := two3.frame (fun b o _ e => S4 _ _ e) fun b xs e => S4 _ _ e
      have eA4 := S4 _ _ eA3
      have eB4 := S4 _ _ eB3
      have eD4 := S4 _ _ eD3
      have eq4 := S4 _ _ eq3
      generalize upd X3 qi (.tup [.int tm, .int (nm + 1)]) = X4 at *
      have xsl := al.length
      have ea4 := BX4.at ap ea
      refine ⟨_, rfl, _, rfl, _, rfl, a, _, rfl, .inl (SqL.of ea4), p, _, _, rfl, hb4, by omega, by omega, Int.lt_of_le_of_lt (show (xs.length : Int) ≤ 8 by omega) (by decide), fun jo X5 o0 o1 hb5 B5 => ?_⟩
      obtain ⟨jn, rfl⟩ := Int.eq_ofNat_of_zero_le o0
      have hjn : jn < cs.length := by omega
      have BX5 := BX4.trans B5
      have al5 : Al fC X5 xs cs := al.imp fun b ys e => BX5.at (fun z => by rw [z, hb.lst.choose_spec] at e; cases e) e
      obtain ⟨qc, hqc, eqc⟩ := al5.at (List.getElem?_eq_getElem hjn)
      have hcin := List.getElem_mem hjn
      generalize cs[jn] = c at eqc hcin hqc
      have eb4 := hb4.lst.choose_spec
      refine ⟨a, _, (jn : Int), .ref qc, rfl, rfl, SqL.of (BX5.at ap ea), atI_nat hqc, qc, _, 0, .str c.nm, rfl, rfl, SqT.of eqc, rfl, by show 3 ≤ sizeLine; decide, fun t nt => ?_⟩
      have S6 := Same.laid (o := HO.tup [.str "do", .ref qi, .str c.nm]) nt
      have et : upd X5 t (.tup [.str "do", .ref qi, .str c.nm]) t = some (.tup [.str "do", .ref qi, .str c.nm]) := upd_same
      have hb6 := hb5.keep S6
      have BX6 := BX5.trans (Same.but S6)
      have two6 := (two4.frame (fun b o hb e => B5.at (qp b hb).1 e) fun b xs e => B5.at (fun z => by rw [z, eb4] at e; cases e) e).frame (fun b o _ e => S6 _ _ e) fun b xs e => S6 _ _ e
      have eqi6 := S6 _ _ (B5.at qip eqi)
      have eq6 := S6 _ _ (B5.at qp0 eq4)
      have eA6 := S6 _ _ (B5.at m2 eA4)
      have eB6 := S6 _ _ (B5.at m3 eB4)
      have eD6 := S6 _ _ (B5.at m4 eD4)
      generalize upd X5 t (.tup [.str "do", .ref qi, .str c.nm]) = X6 at *
      refine ⟨q, _, .ref t, rfl, rfl, eq6, Nat.lt_of_le_of_lt (show _ ≤ 25 by rw [List.length_map]; exact lenL) (by decide), ?_⟩
      exact fin X6 ts (ns.set j (nm + 1)) (.act (tm, nm + 1) c.nm) t _ _ _ (hb6.up (by omega)) BX6 eA6 eB6 eD6 tl (by rw [List.length_set]; exact nl) (fun x hx => by have := htr x hx; omega) (fun x hx => by
        rcases List.mem_or_eq_of_mem_set hx with hx | rfl
        · have := hnr x hx
          omega
        · omega) two6 ⟨qi, et, eqi6⟩ ⟨⟨by show 0 ≤ tm; omega, by show tm ≤ 999; omega, by show 1 ≤ nm + 1; omega, by show nm + 1 ≤ 999; omega⟩, c, hcin, rfl⟩)
  rintro σ X ⟨⟨v5, v6, v7, rfl⟩, hbX, BX, eA, ts, ns, Ls, _, _, _, _, _, _, two, good, sum⟩
  refine ⟨_, rfl, k A [q0, q1] Ls X nA' (hbX.up (by omega)) BX eA (fun q hq => ?_) two good (by omega)⟩
  simp only [List.mem_cons, List.not_mem_nil, or_false] at hq
  rcases hq with rfl | rfl
  · exact n0'
  · exact n1'
end
end V59

set_option maxHeartbeats 8000000
namespace V59
open PySem PySem.Spec PyProof.Rows L2 Pw
/-! ### the road: letters out of order, some lost, some twice -/
theorem erase_map {α β : Type} (f : α → β) : ∀ (l : List α) (k : Nat), (l.map f).eraseIdx k = (l.eraseIdx k).map f
  | [], k => rfl
  | a :: l, 0 => rfl
  | a :: l, k + 1 => by
    show f a :: (l.map f).eraseIdx k = f a :: (l.eraseIdx k).map f
    rw [erase_map f l k]
theorem erase_len {α : Type} : ∀ (l : List α) (k : Nat), k < l.length → (l.eraseIdx k).length + 1 = l.length
  | [], k, h => by cases h
  | a :: l, 0, h => rfl
  | a :: l, k + 1, h => by
    show (l.eraseIdx k).length + 1 + 1 = l.length + 1
    rw [erase_len l k (by simpa using h)]
theorem perm_map_inv {α β : Type} {f : α → β} : ∀ {ys : List β} {ls : List α}, ys.Perm (ls.map f) → ∃ ms : List α, ms.Perm ls ∧ ys = ms.map f
  | [], ls, h => by
    have : ls.map f = [] := List.Perm.eq_nil h.symm
    have : ls = [] := List.map_eq_nil_iff.mp this
    exact ⟨[], by rw [this], rfl⟩
  | y :: ys, ls, h => by
    obtain ⟨x, hx, e⟩ := List.mem_map.mp (h.mem_iff.mp List.mem_cons_self)
    obtain ⟨s, t, rfl⟩ := List.append_of_mem hx
    have h1 : (y :: ys).Perm (y :: (s ++ t).map f) := h.trans (by
      rw [List.map_append, List.map_cons, List.map_append, e]
      exact List.perm_middle)
    obtain ⟨ms, h2, h3⟩ := perm_map_inv ((List.perm_cons y).mp h1)
    exact ⟨x :: ms, (h2.cons x).trans List.perm_middle.symm, by rw [List.map_cons, e, h3]⟩
section
variable {P : Program} {w : World} {K : PySem.W.Frag} {mg : Str → Option Value} {base : Heap}
def spRoad (K : PySem.W.Frag) : Sp := fun vs H Q _ => ∃ p A fs Ls n, vs = [.ref p, .ref A] ∧ BoxAt H p n ∧ n ≤ 800000 ∧ A ≠ p ∧ H A = some (.lst ((fs : List Addr).map V.ref)) ∧ Two H fs Ls ∧ (∀ q ∈ fs, q ≠ p) ∧ (Ls.map List.length).sum ≤ 25 ∧
  ∀ R (M : List OA) H', H R = none → BoxAt H' p (n + 300) → But p H H' → H' R = some (.lst (M.map fun x => V.ref x.2)) → M.length ≤ 50 → (∀ x ∈ M, ∃ L ∈ Ls, x ∈ L) → Q (.ref R) H'
theorem d_road (T : Txt mg) (A : At K mg "_law_road" sLawRoad) (dt : Def P w K mg base "_law_take" 1 ["_law_box_here", "_law_many"] (spTake K)) (dm : Def P w K mg base "_law_mixed" 2 ["_law_box_here", "_law_some"] (spMixed K)) : Def P w K mg base "_law_road" 3 ["_law_box_here", "_law_rows"] (spRoad K) := by
  refine mkDef A scLawRoad (fun _ _ _ _ _ _ us hl => match us, hl with | [_, _], _ => rfl) (fun vs H Q E ⟨_, _, _, _, _, e, _⟩ => by rw [e]; rfl)
    (fun f cdv A0 out s H vs Q E hr h => ?_)
  obtain ⟨p, R0, fs, Ls, n, rfl, hb, hn, ap, ea, two, fp, s25, k⟩ := h
  refine ⟨_, (pss_cons (ps_setLc (i := 2) (own := [("_law_row", 5)]) (g := gName 5) rfl scLawRoad.nd rfl rfl (sw_true rfl rfl rfl (by decide +kernel)) (pi_list (pe_op op_cat (pe_ix ix_list (pv 1) pe_int (fun _ _ => rfl)) (pe_ix ix_list (pv 1) pe_int (fun _ _ => rfl))))
        (blkOk_by (own := [("_law_row", 5)]) (N := ["_law_box_here", "_law_rows", "_law_some", "_law_left", "_law_found", "_law_row"]) (sc := defScope sLawRoad) (by decide +kernel))
        (fun _ _ _ _ _ => (pg_name (i := 5) scLawRoad.nd rfl (.inl rfl))) (fun _ _ _ _ _ => (pts_one (pt_cmpR op_gt (pe_d dt hr (by decide) (by rfl) (pa_cons (pv 0) (pa_cons pe_int pa_nil))) pe_int (nomark _))))
        (fun _ _ _ _ _ => (pv 5)))
    (pss_cons (ps_par (i := 3) (j := 4) rfl scLawRoad.nd rfl rfl (by decide) rfl rfl (pa_cons (pe_lst pa_nil) (pa_cons (pe_lst pa_nil) pa_nil)) rfl)
    (pss_cons (ps_for PassesOwn.never rfl (pi_list (pv 2)) (pg_name (i := 5) scLawRoad.nd rfl (.inl rfl))
      (pss_cons (ps_expr (pe_bm PySem.F.plainAttrs_list PySem.F.slot_list_append PySem.F.type_list_append mt_append (pv 3) (pa_cons (pv 5) pa_nil)))
      (pss_cons (ps_if (pt_cmpR op_eq (pe_d dt hr (by decide) (by rfl) (pa_cons (pv 0) (pa_cons pe_int pa_nil))) pe_int (nomark _))
        (pss_one (ps_expr (pe_bm PySem.F.plainAttrs_list PySem.F.slot_list_append PySem.F.type_list_append mt_append (pv 3) (pa_cons (pv 5) pa_nil))))
        pss_nil)
      (pss_one (ps_while PassesOwn.never (PW.pt (pw_and (pt_cmpR op_gt (pe_callB call_len_seq (by rfl) T.len PySem.boot_len (pa_cons (pv 3) pa_nil)) pe_int (nomark _)) (pw_and1 (pt_cmpR op_gt (pe_d dt hr (by decide) (by rfl) (pa_cons (pv 0) (pa_cons pe_int pa_nil))) pe_int (nomark _)))))
        (pss_one (ps_expr (pe_bm PySem.F.plainAttrs_list PySem.F.slot_list_append PySem.F.type_list_append mt_append (pv 4) (pa_cons (pe_bm PySem.F.plainAttrs_list PySem.F.slot_list_pop PySem.F.type_list_pop mt_popAt (pv 3) (pa_cons (pe_d dt hr (by decide) (by rfl) (pa_cons (pv 0) (pa_cons (pe_callB call_len_seq (by rfl) T.len PySem.boot_len (pa_cons (pv 3) pa_nil)) pa_nil))) pa_nil)) pa_nil)))))))))
    (pss_one (ps_ret (pe_op op_cat (pv 4) (pe_d dm hr (by decide) (by rfl) (pa_cons (pv 0) (pa_cons (pv 3) pa_nil))))))))), ?_⟩
  -- both rooms' letters in one list
  obtain ⟨q0, q1, rfl⟩ : ∃ q0 q1, fs = [q0, q1] := by
    match fs, two.f2 with
    | [a, b], _ => exact ⟨a, b, rfl⟩
  obtain ⟨L0, L1, rfl⟩ : ∃ L0 L1, Ls = [L0, L1] := by
    match Ls, two.l2 with
    | [a, b], _ => exact ⟨a, b, rfl⟩
  have e0 := two.at_ 0 q0 L0 rfl rfl
  have e1 := two.at_ 1 q1 L1 rfl rfl
  have s25' : L0.length + L1.length ≤ 25 := by
    have : ([L0, L1].map List.length).sum = L0.length + L1.length := by simp
    omega
  refine ⟨_, rfl, R0, _, 0, .ref q0, rfl, rfl, SqL.of ea, rfl, _, rfl, R0, _, 1, .ref q1, rfl, rfl, SqL.of ea, rfl, q0, q1, _, _, rfl, rfl, e0, e1, by rw [List.length_map, List.length_map]; exact Nat.le_trans s25' (by decide), fun G0 nG0 => ?_⟩
  rw [← List.map_append]
  have S1 := Same.laid (o := HO.lst ((L0 ++ L1).map fun x => V.ref x.2)) nG0
  have eG0 : upd H G0 (.lst ((L0 ++ L1).map fun x => V.ref x.2)) G0 = some (.lst ((L0 ++ L1).map fun x => V.ref x.2)) := upd_same
  have hb1 := hb.keep S1
  have G0p := hb.ne nG0
  generalize upd H G0 (.lst ((L0 ++ L1).map fun x => V.ref x.2)) = H1 at *
  have la : (L0 ++ L1).length ≤ 25 := by rw [List.length_append]; exact s25'
  refine ⟨G0, rfl, ⟨_, SqL.of eG0⟩, fun D nD => ?_⟩
  have Dp := hb1.ne nD
  have DG : G0 ≠ D := ne_of_none eG0 nD
  have nDH : H D = none := Same.no S1 nD
  refine lc_it (walk_list (K := K) (a := G0) (xs := (L0 ++ L1).map fun x => V.ref x.2)) (fun i G => But p H G ∧ BoxAt G p (n + i) ∧ G G0 = some (.lst ((L0 ++ L1).map fun x => V.ref x.2)) ∧ ∃ M : List OA, G D = some (.lst (M.map fun x => V.ref x.2)) ∧ M.length ≤ i ∧ ∀ x ∈ M, x ∈ L0 ++ L1) ?_ (fun i G _ h => SqL.of h.2.2.1) ?_ ?_
  · exact ⟨(Same.but S1).trans (But.laid nD), hb1.laid nD, (upd_ne DG).trans eG0, [], upd_same, Nat.le_refl _, fun x hx => by cases hx⟩
  · rintro i v G' G hi ⟨BG, hbG, eGG, M, eM, lM, hM⟩ ⟨rfl, hx⟩
    rw [List.length_map] at hi
    rw [List.getElem?_map] at hx
    cases hy : (L0 ++ L1)[i]? with
    | none => rw [hy] at hx; cases hx
    | some y =>
      rw [hy] at hx
      cases hx
      refine ⟨rfl, ?_⟩
      refine ⟨_, rfl, p, 8, _, rfl, hbG, by omega, by decide, by decide, fun j G1 j0 j8 hb2 B2 => ?_⟩
      refine ⟨j, 0, rfl, rfl, _, rfl, ?_⟩
      have eM1 := B2.at Dp eM
      have eG1 := B2.at G0p eGG
      have yin : y ∈ L0 ++ L1 := List.mem_of_getElem? hy
      cases decide (0 < j) with
      | true =>
        refine iteT ⟨_, rfl, _, eM1, Nat.lt_of_le_of_lt (show _ ≤ 25 by rw [List.length_map]; omega) (by decide), but_past (BG.trans B2) nDH But.set, (hb2.set Dp).up (by omega), (upd_ne DG).trans eG1, M ++ [y], by rw [upd_same, List.map_append]; rfl, by rw [List.length_append, List.length_singleton]; omega, fun x hx => ?_⟩
        rcases List.mem_append.mp hx with h | h
        · exact hM x h
        · rw [List.mem_singleton.mp h]
          exact yin
      | false => exact iteF ⟨BG.trans B2, hb2.up (by omega), eG1, M, eM1, by omega, hM⟩
  rintro G ⟨BG, hbG, _, M, eM, lM, hM⟩
  rw [List.length_map] at hbG lM
  have hbG := hbG.up (show n + (L0 ++ L1).length ≤ n + 25 by omega)
  have M25 : M.length ≤ 25 := by omega
  clear eG0 nG0 hb1 S1 DG lM la
  dsimp only [gName, List.set_cons_zero, List.set_cons_succ]
  refine ⟨by show 0 ≤ sizeLine; decide, fun lf nlf => ?_⟩
  have U1 := Same.laid (o := HO.lst []) nlf
  have f1 : upd G lf (.lst []) lf = some (.lst []) := upd_same
  have hb2 := hbG.keep U1
  have lp := hbG.ne nlf
  have nlH : H lf = none := But.none_of BG nlf lp
  have lD : lf ≠ D := (ne_of_none eM nlf).symm
  have eM1 := U1 _ _ eM
  have B1 := BG.trans (Same.but U1)
  generalize upd G lf (.lst []) = G1 at *
  refine ⟨by show 0 ≤ sizeLine; decide, fun fd nfd => ?_⟩
  have U2 := Same.laid (o := HO.lst []) nfd
  have f2 : upd G1 fd (.lst []) fd = some (.lst []) := upd_same
  have hb3 := hb2.keep U2
  have dp := hb2.ne nfd
  have nfH : H fd = none := But.none_of B1 nfd dp
  have fD : fd ≠ D := (ne_of_none eM1 nfd).symm
  have fl : fd ≠ lf := (ne_of_none f1 nfd).symm
  have eM2 := U2 _ _ eM1
  have f1' := U2 _ _ f1
  have B2 := B1.trans (Same.but U2)
  generalize upd G1 fd (.lst []) = G2 at *
  refine ⟨_, _, rfl, ?_⟩
  dsimp only [gName, List.set_cons_zero, List.set_cons_succ]
  refine ⟨_, rfl, D, rfl, ⟨_, SqL.of eM2⟩, ?_⟩
  refine for_it (walk_list (K := K) (a := D) (xs := M.map fun x => V.ref x.2)) (fun i σ X => (∃ v5 : Option V, σ = [some (.ref p), some (.ref R0), some (.ref D), some (.ref lf), some (.ref fd), v5]) ∧ But p H X ∧ X D = some (.lst (M.map fun x => V.ref x.2)) ∧
    ∃ A1 A2 : List OA, X lf = some (.lst (A1.map fun x => V.ref x.2)) ∧ X fd = some (.lst (A2.map fun x => V.ref x.2)) ∧ BoxAt X p (n + 25 + 2 * i + 2 * A2.length) ∧ A1.length + A2.length ≤ 2 * i ∧ (∀ x ∈ A1, x ∈ M) ∧ ∀ x ∈ A2, x ∈ M)
    ⟨⟨_, rfl⟩, B2, eM2, [], [], f1', f2, hb3, by simp, (fun x hx => by cases hx), fun x hx => by cases hx⟩ (fun i σ X _ h => SqL.of h.2.2.1) ?_ ?_
  · rintro i v σ X0 X hi ⟨⟨v5, rfl⟩, BX, eMX, A1, A2, e1X, e2X, hbX, lX, i1, i2⟩ ⟨rfl, hx⟩
    rw [List.length_map] at hi
    rw [List.getElem?_map] at hx
    cases hy : M[i]? with
    | none => rw [hy] at hx; cases hx
    | some y =>
      rw [hy] at hx
      cases hx
      have yin : y ∈ M := List.mem_of_getElem? hy
      dsimp only [gName, List.set_cons_zero, List.set_cons_succ]
      have put : ∀ {W : Hp} {L : List OA}, But p H W → W D = some (.lst (M.map fun x => V.ref x.2)) → W lf = some (.lst (L.map fun x => V.ref x.2)) → But p H (upd W lf (.lst ((L.map fun x => V.ref x.2) ++ [.ref y.2]))) ∧ upd W lf (.lst ((L.map fun x => V.ref x.2) ++ [.ref y.2])) D = some (.lst (M.map fun x => V.ref x.2)) ∧ upd W lf (.lst ((L.map fun x => V.ref x.2) ++ [.ref y.2])) lf = some (.lst ((L ++ [y]).map fun x => V.ref x.2)) :=
        fun a b c => ⟨but_past a nlH But.set, (upd_ne lD.symm).trans b, by rw [upd_same, List.map_append]; rfl⟩
      have mem1 : ∀ {L : List OA}, (∀ x ∈ L, x ∈ M) → ∀ x ∈ L ++ [y], x ∈ M := fun h x hx => by
        rcases List.mem_append.mp hx with h1 | h1
        · exact h x h1
        · rw [List.mem_singleton.mp h1]; exact yin
      refine ⟨_, rfl, .inl ⟨rfl, _, SqL.of e1X⟩, _, rfl, lf, _, .ref y.2, rfl, rfl, e1X, Nat.lt_of_le_of_lt (show _ ≤ 50 by rw [List.length_map]; omega) (by decide), ?_⟩
      obtain ⟨BY, eMY, e1Y⟩ := put BX eMX e1X
      have e2Y : upd X lf (.lst ((A1.map fun x => V.ref x.2) ++ [.ref y.2])) fd = some (.lst (A2.map fun x => V.ref x.2)) := (upd_ne fl).trans e2X
      have hbY := hbX.set (o := HO.lst ((A1.map fun x => V.ref x.2) ++ [.ref y.2])) lp
      generalize upd X lf (.lst ((A1.map fun x => V.ref x.2) ++ [.ref y.2])) = Y at *
      dsimp only
      refine seq_join (A := tIfS _ _ _) (B := tWhile _ _) (fun σ' Z => σ' = [some (.ref p), some (.ref R0), some (.ref D), some (.ref lf), some (.ref fd), some (.ref y.2)] ∧ But p H Z ∧ Z D = some (.lst (M.map fun x => V.ref x.2)) ∧ ∃ A1 A2 : List OA, Z lf = some (.lst (A1.map fun x => V.ref x.2)) ∧ Z fd = some (.lst (A2.map fun x => V.ref x.2)) ∧ BoxAt Z p (n + 25 + 2 * i + 1 + 2 * A2.length) ∧ A1.length + A2.length ≤ 2 * (i + 1) ∧ (∀ x ∈ A1, x ∈ M) ∧ ∀ x ∈ A2, x ∈ M) (fun N' hN => ?_) ?_
      · refine ⟨_, rfl, p, 3, _, rfl, hbY, by omega, by decide, by decide, fun j Y1 j0 j3 hb1 B1 => ?_⟩
        refine ⟨rfl, _, rfl, ?_⟩
        have a1 := B1.at lp e1Y
        have a2 := B1.at dp e2Y
        have aM := B1.at Dp eMY
        have l1 : (A1 ++ [y]).length = A1.length + 1 := by rw [List.length_append]; rfl
        cases decide (V.int j = V.int 0) with
        | true =>
          refine iteT ⟨_, rfl, .inl ⟨rfl, _, SqL.of a1⟩, _, rfl, lf, _, .ref y.2, rfl, rfl, a1, Nat.lt_of_le_of_lt (show _ ≤ 52 by rw [List.length_map, l1]; omega) (by decide), ?_⟩
          obtain ⟨b1, b2, b3⟩ := put (BY.trans B1) aM a1
          exact hN _ _ ⟨rfl, b1, b2, A1 ++ [y] ++ [y], A2, b3, (upd_ne fl).trans a2, (hb1.set lp).up (by omega), by rw [List.length_append, l1, List.length_singleton]; omega, mem1 (mem1 i1), i2⟩
        | false => exact iteF (hN _ _ ⟨rfl, BY.trans B1, aM, A1 ++ [y], A2, a1, a2, hb1.up (by omega), by rw [l1]; omega, mem1 i1, i2⟩)
      rintro σ' Z ⟨rfl, BZ, eMZ, C1, C2, c1, c2, hbZ, lZ, k1, k2⟩
      refine while_m (fun m σ W => σ = [some (.ref p), some (.ref R0), some (.ref D), some (.ref lf), some (.ref fd), some (.ref y.2)] ∧ But p H W ∧ W D = some (.lst (M.map fun x => V.ref x.2)) ∧ ∃ A1 A2 : List OA, A1.length = m ∧ W lf = some (.lst (A1.map fun x => V.ref x.2)) ∧ W fd = some (.lst (A2.map fun x => V.ref x.2)) ∧ BoxAt W p (n + 25 + 2 * i + 1 + 2 * A2.length) ∧ A1.length + A2.length ≤ 2 * (i + 1) ∧ (∀ x ∈ A1, x ∈ M) ∧ ∀ x ∈ A2, x ∈ M) C1.length
        ⟨rfl, BZ, eMZ, C1, C2, rfl, c1, c2, hbZ, lZ, k1, k2⟩ ?_
      rintro m σ W ⟨rfl, BW, eMW, A1, A2, lm, a1, a2, hbW, lW, q1, q2⟩ F hT hF
      refine ⟨_, rfl, lf, _, rfl, .inl (SqL.of a1), _, 0, rfl, rfl, _, rfl, ?_⟩
      rw [List.length_map]
      have out : ∀ W', But p H W' → W' D = some (.lst (M.map fun x => V.ref x.2)) → W' lf = some (.lst (A1.map fun x => V.ref x.2)) → W' fd = some (.lst (A2.map fun x => V.ref x.2)) → BoxAt W' p (n + 25 + 2 * (i + 1) + 2 * A2.length) → F false W' := fun W' x1 x2 x3 x4 x5 => hF _ ⟨⟨_, rfl⟩, x1, x2, A1, A2, x3, x4, x5, lW, q1, q2⟩
      by_cases c0 : (0 : Int) < (A1.length : Int)
      · rw [show decide ((0 : Int) < (A1.length : Int)) = true from decide_eq_true c0]
        refine iteT ?_
        refine ⟨_, rfl, p, 3, _, rfl, hbW, by omega, by decide, by decide, fun jq W1 j0 j3 hb1 B1 => ?_⟩
        have b1 := B1.at lp a1
        have b2 := B1.at dp a2
        have bM := B1.at Dp eMW
        refine ⟨jq, 0, rfl, rfl, _, rfl, ?_⟩
        cases decide (0 < jq) with
        | false => exact out W1 (BW.trans B1) bM b1 b2 (hb1.up (by omega))
        | true =>
          refine hT _ fun N hN => ?_
          refine ⟨_, rfl, .inl ⟨rfl, _, SqL.of b2⟩, _, rfl, .inl ⟨rfl, _, SqL.of b1⟩, _, rfl, _, rfl, lf, _, rfl, .inl (SqL.of b1), p, _, _, rfl, hb1, by omega, by rw [List.length_map]; exact c0, by rw [List.length_map]; exact Int.lt_of_le_of_lt (show (A1.length : Int) ≤ 52 by omega) (by decide), fun jj W2 k0 k9 hb2 B2 => ?_⟩
          obtain ⟨kk, rfl⟩ := Int.eq_ofNat_of_zero_le k0
          rw [List.length_map] at k9
          have hk : kk < A1.length := by omega
          obtain ⟨x, hx⟩ : ∃ x, A1[kk]? = some x := ⟨_, List.getElem?_eq_getElem hk⟩
          have g1 := B2.at lp b1
          have g2 := B2.at dp b2
          have gM := B2.at Dp bM
          have le := erase_len A1 kk hk
          refine ⟨lf, _, (kk : Int), kk, .ref x.2, rfl, rfl, g1, by omega, by omega, ?_, by rw [List.getElem?_map, hx]; rfl, ?_⟩
          · unfold seqIndex?
            have h0 : ¬ ((kk : Int) < 0) := by omega
            simp only [if_neg h0]
            rw [if_pos (by simp; omega)]
            simp
          rw [erase_map]
          have g2' : upd W2 lf (.lst ((A1.eraseIdx kk).map fun x => V.ref x.2)) fd = some (.lst (A2.map fun x => V.ref x.2)) := (upd_ne fl).trans g2
          refine ⟨fd, _, .ref x.2, rfl, rfl, g2', Nat.lt_of_le_of_lt (show _ ≤ 52 by rw [List.length_map]; omega) (by decide), ?_⟩
          refine hN ((A1.eraseIdx kk).length) _ _ (by omega) ⟨rfl, but_past (but_past (BW.trans (B1.trans B2)) nlH But.set) nfH But.set, (upd_ne fD.symm).trans ((upd_ne lD.symm).trans gM), A1.eraseIdx kk, A2 ++ [x], rfl, (upd_ne (Ne.symm fl)).trans upd_same, by rw [upd_same, List.map_append]; rfl, ((hb2.set lp).set dp).up (by rw [List.length_append, List.length_singleton]; omega), by rw [List.length_append, List.length_singleton]; omega, fun z hz => q1 z ((List.eraseIdx_sublist A1 kk).subset hz), fun z hz => ?_⟩
          rcases List.mem_append.mp hz with h | h
          · exact q2 z h
          · rw [List.mem_singleton.mp h]
            exact q1 x (List.mem_of_getElem? hx)
      · rw [show decide ((0 : Int) < (A1.length : Int)) = false from decide_eq_false c0]
        refine iteF ?_
        exact out W BW eMW a1 a2 (hbW.up (by omega))
  rintro σ X ⟨⟨v5, rfl⟩, BX, eMX, A1, A2, e1X, e2X, hbX, lX, i1, i2⟩
  rw [List.length_map] at lX hbX
  refine ⟨_, rfl, _, rfl, _, rfl, p, lf, _, _, rfl, hbX, by omega, lp, e1X, by rw [List.length_map]; omega, fun b X2 ys nb bp hb4 B4 eb hp => ?_⟩
  obtain ⟨ms, hms, rfl⟩ := perm_map_inv hp
  have e2 := B4.at dp e2X
  refine ⟨fd, b, _, _, rfl, rfl, e2, eb, by rw [List.length_map, List.length_map, hms.length_eq]; exact Nat.le_trans (show A2.length + A1.length ≤ 50 by omega) (by decide), fun R nR => ?_⟩
  rw [← List.map_append]
  have BR : But p H (upd X2 R (.lst ((A2 ++ ms).map fun x => V.ref x.2))) := (BX.trans B4).trans (Same.but (Same.laid nR))
  refine k R (A2 ++ ms) _ (But.none_of (BX.trans B4) nR (hb4.ne nR)) ((hb4.keep (Same.laid nR)).up (by rw [List.length_map]; omega)) BR upd_same (by rw [List.length_append, hms.length_eq]; omega) fun x hx => ?_
  have inM : x ∈ M := by
    rcases List.mem_append.mp hx with h | h
    · exact i2 x h
    · exact i1 x (hms.mem_iff.mp h)
  rcases List.mem_append.mp (hM x inM) with h | h
  · exact ⟨L0, by simp, h⟩
  · exact ⟨L1, by simp, h⟩
end
end V59

namespace V59
open PySem PySem.Spec PyProof.Rows L2 Pw
/-! ### what the law itself keeps of a place: term, met, done -/
structure Lw where
  tm : Int
  met : List (Id2 × Bool)
  done : List Dn
def Pl.lw (S : Pl) : Lw := ⟨S.tm, S.met, S.done⟩
/-- the law's own step: an order that any place may do is done if none newer was met -/
def lwH (l : Lw) (t : Int) : Od → Lw
  | .term n => { l with tm := mx l.tm n }
  | .back i => if i ∈ l.met.map Prod.fst then l else { l with met := l.met ++ [(i, false)] }
  | .act i c => if i ∈ l.met.map Prod.fst then l else ⟨mx l.tm i.1, l.met ++ [(i, decide (i.1 = mx l.tm i.1))], if decide (i.1 = mx l.tm i.1) = true then l.done ++ [⟨i, c, t⟩] else l.done⟩
theorem may_free {S : Pl} {c : Cm} (h : c.pt ∈ S.st.map Ps.nm) (l : c.lks = []) : may S c = true := by
  obtain ⟨s, hs, e⟩ := List.mem_map.mp h
  unfold may
  rw [l]
  have : (wg (prs S.st) c.pt).isSome = true := by
    unfold wg
    cases ef : (prs S.st).find? (fun p => decide (p.1 = c.pt)) with
    | some p => rfl
    | none => exact absurd (decide_eq_true e) (List.find?_eq_none.mp ef (s.nm, s.w) (List.mem_map.mpr ⟨s, hs, rfl⟩))
  rw [this]
  rfl
theorem noteP_st {S : Pl} {nm : Str} {n : Int} {m : Str} : (noteP S nm n m).st.map Ps.nm = S.st.map Ps.nm ∧ (noteP S nm n m).wt.length ≤ S.wt.length + 1 := by
  unfold noteP
  split
  · exact ⟨rfl, Nat.le_succ _⟩
  · exact ⟨note_nm, by show (S.wt ++ [_]).length ≤ _; rw [List.length_append]; exact Nat.le_refl _⟩
theorem metS_st {S : Pl} {i : Id2} {c : Cm} : (metS S i c).st.map Ps.nm = S.st.map Ps.nm ∧ (metS S i c).wt.length ≤ S.wt.length + 1 := by
  unfold metS
  split
  · exact noteP_st (S := { S with tm := mx S.tm i.1 })
  · exact ⟨rfl, Nat.le_succ _⟩
theorem hrd_st {S : Pl} {t : Int} {cs : List Cm} {o : Od} : (hrd S t cs o).st.map Ps.nm = S.st.map Ps.nm ∧ (hrd S t cs o).wt.length ≤ S.wt.length + 1 := by
  cases o with
  | term n => exact ⟨rfl, Nat.le_succ _⟩
  | back i =>
    unfold hrd
    dsimp only
    split <;> exact ⟨rfl, Nat.le_succ _⟩
  | act i cn =>
    unfold hrd
    dsimp only
    split
    · exact ⟨rfl, Nat.le_succ _⟩
    · split
      · exact metS_st (S := { S with t := t })
      · exact ⟨rfl, Nat.le_succ _⟩
/-- the place does as the law says -/
theorem hrd_lw {S : Pl} {t : Int} {cs : List Cm} {o : Od} (nd : (cs.map Cm.nm).Nodup) (g : GoodOd cs o) (free : ∀ c ∈ cs, c.lks = [] ∧ c.pt ∈ S.st.map Ps.nm) : (hrd S t cs o).lw = lwH S.lw t o := by
  cases o with
  | term n => rfl
  | back i =>
    by_cases h : i ∈ S.met.map Prod.fst
    · rw [show hrd S t cs (.back i) = { S with t := t } from if_pos h, show lwH S.lw t (.back i) = S.lw from if_pos h]
      rfl
    · rw [show hrd S t cs (.back i) = { S with t := t, met := S.met ++ [(i, false)] } from if_neg h, show lwH S.lw t (.back i) = { S.lw with met := S.lw.met ++ [(i, false)] } from if_neg h]
      rfl
  | act i cn =>
    by_cases h : i ∈ S.met.map Prod.fst
    · rw [show hrd S t cs (.act i cn) = { S with t := t } from if_pos h, show lwH S.lw t (.act i cn) = S.lw from if_pos h]
      rfl
    · obtain ⟨_, c, hc, rfl⟩ := g
      have ef := find_nm nd hc
      have eh : hrd S t cs (.act i c.nm) = { metS { S with t := t } i c with met := S.met ++ [(i, okS { S with t := t } i c)] } := by
        refine (if_neg h).trans ?_
        rw [ef]
      rw [eh, show lwH S.lw t (.act i c.nm) = ⟨mx S.tm i.1, S.met ++ [(i, decide (i.1 = mx S.tm i.1))], if decide (i.1 = mx S.tm i.1) = true then S.done ++ [⟨i, c.nm, t⟩] else S.done⟩ from if_neg h]
      have ok : okS { S with t := t } i c = decide (i.1 = mx S.tm i.1) := by
        unfold okS
        rw [may_free (S := { S with t := t }) (free c hc).2 (free c hc).1, Bool.and_true]
      rw [ok]
      unfold Pl.lw metS
      rw [ok]
      by_cases hd : decide (i.1 = mx S.tm i.1) = true
      · rw [if_pos hd, if_pos hd]
        obtain ⟨z1, z2, z3, z4, _⟩ := noteP_is (S := { ({ S with t := t } : Pl) with tm := mx S.tm i.1 }) (nm := c.pt) (n := c.wo) (m := "good")
        show Lw.mk _ _ _ = _
        congr 1
      · rw [if_neg hd, if_neg hd]
/-- the terms of what was done never fall -/
structure Ris (l : Lw) : Prop where
  up : (l.done.map fun d => d.id.1).Pairwise (· ≤ ·)
  top : ∀ d ∈ l.done, d.id.1 ≤ l.tm
theorem mx_le (a b : Int) : a ≤ mx a b ∧ b ≤ mx a b := by
  unfold mx
  split <;> omega
theorem Ris.go {l : Lw} (h : Ris l) (t : Int) (o : Od) : Ris (lwH l t o) := by
  cases o with
  | term n => exact ⟨h.up, fun d hd => Int.le_trans (h.top d hd) (mx_le _ _).1⟩
  | back i =>
    unfold lwH
    dsimp only
    split
    · exact h
    · exact ⟨h.up, h.top⟩
  | act i c =>
    unfold lwH
    dsimp only
    split
    · exact h
    · refine ⟨?_, ?_⟩
      · dsimp only
        split
        · rename_i e
          have e := of_decide_eq_true e
          rw [List.map_append]
          refine List.pairwise_append.mpr ⟨h.up, List.pairwise_singleton _ _, fun a ha b hb => ?_⟩
          obtain ⟨d, hd, rfl⟩ := List.mem_map.mp ha
          rw [List.mem_singleton.mp hb]
          show d.id.1 ≤ i.1
          rw [e]
          exact Int.le_trans (h.top d hd) (mx_le _ _).1
        · exact h.up
      · dsimp only
        split
        · rename_i e
          have e := of_decide_eq_true e
          intro d hd
          rcases List.mem_append.mp hd with hd | hd
          · exact Int.le_trans (h.top d hd) (mx_le _ _).1
          · rw [List.mem_singleton.mp hd]
            exact Int.le_of_eq e
        · exact fun d hd => Int.le_trans (h.top d hd) (mx_le _ _).1
end V59

/-! != of dicts whose values are data. -/
namespace Pw
open PySem PySem.Spec PyProof.Rows L2
/-- the same data -/
def SameD (K : PySem.W.Frag) (H : Hp) (x y : V) : Prop := ∃ d, Dp K H x d ∧ Dp K H y d ∧ SeqAt.shaped d = true
theorem hits_data {X : Cx} {pins : List (Addr × Obj)} {σ : L2.St} {H : Hp} {s : Shared} (I : Inv X pins σ H s) {A : Around} (hu : A.units + 65 < cLine) {ls : List (Key × V)} {vb : List (Key × Value)} (rb : KV ls vb) {ks : List (Key × V)} {va : List (Key × Value)} (ra : KV ks va) :
    (∀ p ∈ ks, ∃ u, valV ls p.1 = some u ∧ SameD X.K H p.2 u) → PySem.W.KeqHits A.in1 s vb va true := by
  unfold KV at ra
  induction ra with
  | nil => intro _; exact .nil
  | @cons p q ps qs h t ih =>
    intro hp
    obtain ⟨h1, h2⟩ := h
    obtain ⟨u, e, d, d1, d2, sh⟩ := hp p List.mem_cons_self
    have rr : RelO (some u) (valueAt vb p.1) := by rw [← e]; exact rb.val p.1
    obtain ⟨y, hy, ry⟩ := rr.some_of
    obtain ⟨k, v⟩ := q
    have h1' : p.1 = k := h1
    rw [h1'] at hy
    obtain ⟨as, r1⟩ := Dp.reads I d p.2 v d1 h2
    obtain ⟨bs, r2⟩ := Dp.reads I d u y d2 ry
    have hq : SeqAt.EqAt A.in1 s v y (PyData.eqv d d) := PySem.W.keq_at r1 r2 sh sh (by show A.units + 1 + 64 < cLine; omega)
    rw [SeqAt.eqv_refl d (SeqAt.canLay_of_shaped sh)] at hq
    show PySem.W.KeqHits A.in1 s vb ((k, v) :: qs) (true && true)
    exact .hit hy hq (ih fun p' hm => hp p' (List.mem_cons_of_mem _ hm))
def rNeDV (K : PySem.W.Frag) : R2 := fun x y H Q => ∃ a b ks ls, x = .ref a ∧ y = .ref b ∧ H a = some (.dK ks) ∧ H b = some (.dK ls) ∧ ks.length = ls.length ∧ (∀ p ∈ ks, ∃ u, valV ls p.1 = some u ∧ SameD K H p.2 u) ∧ Q (.bl false) H
theorem op_neDV {X : Cx} (hu : X.A.units + 65 < cLine) : OpR X (compareOp .NotEq) (rNeDV X.K) := by
  intro pins s σ H x y v u Q I rx ry h
  obtain ⟨a, b, ks, ls, rfl, rfl, ea, eb, hlen, hp, q⟩ := h
  obtain rfl : v = Value.ref a := rx
  obtain rfl : u = Value.ref b := ry
  obtain ⟨_, ya, va, ra, da⟩ := (show ObjOk X.prog X.w H s.heap a (.dK ks) from I.hok a _ ea)
  obtain ⟨_, yb, vb, rb, db⟩ := (show ObjOk X.prog X.w H s.heap b (.dK ls) from I.hok b _ eb)
  have hl : va.length = vb.length := by rw [← ra.length, ← rb.length]; exact hlen
  exact PySem.W.keq_ne (knd := mixKind X.prog X.w) (r := true) ya yb da db (by omega) (fun _ => hits_data I hu rb ra hp) (fin_bl I q (by simp [hl]))
end Pw

namespace V59
open PySem PySem.Spec PyProof.Rows L2 Pw
/-! ### done, met and answers as data -/
def dId (i : Id2) : PyData := .tuple [.int i.1, .int i.2]
def dDn (d : Dn) : PyData := .tuple [dId d.id, .str d.c, .int d.t]
def dMt (x : Id2 × Bool) : PyData := .tuple [dId x.1, .str (dw x.2)]
section
variable {K : PySem.W.Frag} {H : Hp}
theorem id_dp {q : Addr} {i : Id2} (e : H q = some (.tup (tId i))) : Dp K H (.ref q) (dId i) := .tup (SqT.of e) (.cons (.int _) (.cons (.int _) .nil))
theorem dns_dp {vs : List V} {ds : List Dn} (h : Dns H vs ds) : DpAll K H vs (ds.map dDn) := by
  induction h with
  | nil => exact .nil
  | cons a _ ih =>
    obtain ⟨t, q, rfl, e1, e2⟩ := a
    exact .cons (.tup (SqT.of e1) (.cons (id_dp e2) (.cons (.str _) (.cons (.int _) .nil)))) ih
/-- the pairs of a dict of what was met -/
theorem mts_dp : ∀ {ts bs : List Addr} {m : List (Id2 × Bool)}, ts.length = m.length → bs.length = m.length → (∀ (i : Nat) (b : Addr), bs[i]? = some b → ∃ kv, (metK m)[i]? = some kv ∧ H b = some (.tup (kv.1.map kV))) →
    (∀ (i : Nat) (t : Addr), ts[i]? = some t → ∃ b kv, bs[i]? = some b ∧ (metK m)[i]? = some kv ∧ H t = some (.tup [.ref b, kv.2])) → DpAll K H (ts.map V.ref) (m.map dMt)
  | [], _, [], _, _, _, _ => .nil
  | _ :: _, _, [], h, _, _, _ => by cases h
  | [], _, _ :: _, h, _, _, _ => by cases h
  | t :: ts, [], x :: m, _, h, _, _ => by cases h
  | t :: ts, b :: bs, x :: m, h1, h2, h3, h4 => by
    refine .cons ?_ (mts_dp (by simpa using h1) (by simpa using h2) (fun i c e => h3 (i + 1) c e) fun i c e => h4 (i + 1) c e)
    obtain ⟨b', kv, e1, e2, e3⟩ := h4 0 t rfl
    cases e1
    cases e2
    obtain ⟨kv, e1, e4⟩ := h3 0 b rfl
    cases e1
    exact .tup (SqT.of e3) (.cons (id_dp (i := x.1) e4) (.cons (.str _) .nil))
end
theorem lay_dn : ∀ ds : List Dn, (∀ d ∈ ds, PyData.strOk d.c = true) → PyData.canLayAll0 (ds.map dDn) = true
  | [], _ => by simp only [List.map_nil, PyData.canLayAll0]
  | r :: t, h => by
    have h1 := h r List.mem_cons_self
    simp only [List.map_cons, PyData.canLayAll0, lay_dn t fun r' m => h r' (List.mem_cons_of_mem _ m), dDn, dId, PyData.canLay0, h1, Bool.and_self]
theorem dep_dn : ∀ ds : List Dn, PyData.depthAll (ds.map dDn) ≤ 2
  | [] => by simp only [List.map_nil, PyData.depthAll]; exact Nat.zero_le _
  | r :: t => by
    have := dep_dn t
    simp only [List.map_cons, PyData.depthAll, PyData.depth, dDn, dId]
    omega
theorem lay_mt : ∀ ds : List (Id2 × Bool), PyData.canLayAll0 (ds.map dMt) = true
  | [] => by simp only [List.map_nil, PyData.canLayAll0]
  | r :: t => by
    have h1 : PyData.strOk (dw r.2) = true := by cases r.2 <;> decide +kernel
    simp only [List.map_cons, PyData.canLayAll0, lay_mt t, dMt, dId, PyData.canLay0, h1, Bool.and_self]
theorem dep_mt : ∀ ds : List (Id2 × Bool), PyData.depthAll (ds.map dMt) ≤ 2
  | [] => by simp only [List.map_nil, PyData.depthAll]; exact Nat.zero_le _
  | r :: t => by
    have := dep_mt t
    simp only [List.map_cons, PyData.depthAll, PyData.depth, dMt, dId]
    omega
theorem dn_shaped {ds : List Dn} (h : ∀ d ∈ ds, PyData.strOk d.c = true) : SeqAt.shaped (.list (ds.map dDn)) = true := by
  unfold SeqAt.shaped
  have h1 := dep_dn ds
  have e1 : PyData.canLay0 (.list (ds.map dDn)) = true := by simp only [PyData.canLay0, lay_dn ds h]
  have e2 : PyData.depth (.list (ds.map dDn)) ≤ 64 := by
    simp only [PyData.depth]
    omega
  rw [e1, decide_eq_true e2]
  rfl
theorem mt_shaped {ds : List (Id2 × Bool)} : SeqAt.shaped (.list (ds.map dMt)) = true := by
  unfold SeqAt.shaped
  have h1 := dep_mt ds
  have e1 : PyData.canLay0 (.list (ds.map dMt)) = true := by simp only [PyData.canLay0, lay_mt ds]
  have e2 : PyData.depth (.list (ds.map dMt)) ≤ 64 := by
    simp only [PyData.depth]
    omega
  rw [e1, decide_eq_true e2]
  rfl
/-- what a place answers, as data -/
def dAns (pl : Str) (tm t : Int) (i : Id2) (b : Bool) : PyData := .tuple [.str "answer", .str pl, dId i, .str (dw b), .int tm, .int t]
def dTrm (pl : Str) (tm t : Int) : PyData := .tuple [.str "terms", .str pl, .int tm, .int t]
theorem ans_dp {K : PySem.W.Frag} {H : Hp} {a qi : Addr} {pl : Str} {tm t : Int} {i : Id2} {b : Bool} (e : H a = some (.tup [.str "answer", .str pl, .ref qi, .str (dw b), .int tm, .int t])) (ei : H qi = some (.tup (tId i))) : Dp K H (.ref a) (dAns pl tm t i b) :=
  .tup (SqT.of e) (.cons (.str _) (.cons (.str _) (.cons (id_dp ei) (.cons (.str _) (.cons (.int _) (.cons (.int _) .nil))))))
theorem trm_dp {K : PySem.W.Frag} {H : Hp} {a : Addr} {pl : Str} {tm t : Int} (e : H a = some (.tup [.str "terms", .str pl, .int tm, .int t])) : Dp K H (.ref a) (dTrm pl tm t) :=
  .tup (SqT.of e) (.cons (.str _) (.cons (.str _) (.cons (.int _) (.cons (.int _) .nil))))
theorem ans_shaped {pl : Str} {tm t : Int} {i : Id2} {b : Bool} (h : PyData.strOk pl = true) : SeqAt.shaped (dAns pl tm t i b) = true := by
  have h1 : PyData.strOk (dw b) = true := by cases b <;> decide +kernel
  have h2 : PyData.strOk "answer" = true := by decide +kernel
  have e1 : PyData.canLay0 (dAns pl tm t i b) = true := by simp only [dAns, dId, PyData.canLay0, PyData.canLayAll0, h, h1, h2, Bool.and_self]
  have e2 : PyData.depth (dAns pl tm t i b) ≤ 64 := by
    simp only [dAns, dId, PyData.depth, PyData.depthAll]
    omega
  unfold SeqAt.shaped
  rw [e1, decide_eq_true e2]
  rfl
theorem trm_shaped {pl : Str} {tm t : Int} (h : PyData.strOk pl = true) : SeqAt.shaped (dTrm pl tm t) = true := by
  have h2 : PyData.strOk "terms" = true := by decide +kernel
  have e1 : PyData.canLay0 (dTrm pl tm t) = true := by simp only [dTrm, PyData.canLay0, PyData.canLayAll0, h, h2, Bool.and_self]
  have e2 : PyData.depth (dTrm pl tm t) ≤ 64 := by
    simp only [dTrm, PyData.depth, PyData.depthAll]
    omega
  unfold SeqAt.shaped
  rw [e1, decide_eq_true e2]
  rfl
end V59

set_option maxHeartbeats 8000000
/-! d.setdefault(k, x), k a tuple of ints and texts. -/
namespace Pw
open PySem PySem.Spec PyProof.Rows L2
/-- d.setdefault(y, z) -/
def tDSetdT (td ty tx : TE) : TE := fun σ H Q => td σ H fun x H1 => ∃ a, x = .ref a ∧ IsD H1 a ∧ ty σ H1 fun y H2 => tx σ H2 fun z H3 => ∃ (kvs : TK) (k : List Key) (b : Addr), H3 a = some (.dT kvs) ∧ y = .ref b ∧ H3 b = some (.tup (k.map kV)) ∧ kvs.length < sizeLine ∧
  (∀ v, valV kvs k = some v → Q v H3) ∧ (valV kvs k = none → Q z (upd H3 a (.dT (putK kvs k z))))
theorem pe_dsetdT {X : Cx} {o e f : Expr} {td ty tx : TE} {apos cpos : Pos} (hu : X.A.units + 1 < cLine) (ho : PE X o td) (he : PE X e ty) (hf : PE X f tx) (m : M2 X o "setdefault" apos e f cpos) : PE X (.Call (.Attribute o "setdefault" apos) [e, f] [] cpos) (tDSetdT td ty tx) := by
  refine ⟨fun pins s σ H Q I h => ?_⟩
  refine wpAny_Call_method m.base m.few m.line PySem.F.plainAttrs_dict PySem.F.slot_dict_setdefault PySem.F.type_dict_setdefault (thn (ho.run pins s σ H _ I h) fun u s1 ⟨x, H1, I1, rx, a, ex, d, q1⟩ => ?_)
  subst ex
  obtain rfl : u = Value.ref a := rx
  obtain ⟨t1, t2, _⟩ := isD_at I1 d
  refine ⟨t1, t2, ?_⟩
  rw [m.trees]
  refine Calls.callWith_builtin rfl (Calls.evalArgs_plain (Calls.spliced_cons (thn (he.run pins s1 σ H1 _ I1 q1) fun iv s2 ⟨y, H2, I2, ry, q2⟩ =>
    Calls.spliced_cons (thn (hf.run pins s2 σ H2 _ I2 q2) fun fv s3 ⟨z, H3, I3, rz, kvs, k, b, ea, ey, eb, hl, q3, q4⟩ => Calls.spliced_nil ?_))))
  subst ey
  obtain rfl : iv = Value.ref b := ry
  obtain ⟨_, nsys, xs, rel, isD⟩ := dt_of I3.hok ea
  have few : xs.length ≤ sizeLine := by
    have := Paired.length rel
    omega
  have more := length_putK kvs k z
  have rv := rel.val k
  refine call_setdefault_heap (knd := tupleKind (mixKind X.prog X.w)) (hsz := few) (show (tupleKind (mixKind X.prog X.w)).room X.A.in1 from (by show X.A.in1.units < cLine; exact hu)) (key_of I3.hok eb) nsys isD (fun pr hp => ?_) fun hn h' isD' but => ?_
  · rw [hp] at rv
    cases q0 : valV kvs k with
    | none => rw [q0] at rv; exact (show False from rv).elim
    | some v0 =>
      rw [q0] at rv
      exact ⟨v0, _, I3.tok _, rv, q3 v0 q0⟩
  · rw [hn] at rv
    cases q0 : valV kvs k with
    | some v0 => rw [q0] at rv; exact (show False from rv).elim
    | none =>
      obtain ⟨o, es, ep, ho, r1, r2, r3, _, r5⟩ := isD'
      have stay : ∀ c ys, H3 c = some (.tup ys) → upd H3 a (.dT (putK kvs k z)) c = some (.tup ys) := fun c ys ec => by
        by_cases zz : c = a
        · rw [zz, ea] at ec
          cases ec
        · rw [upd_ne zz]
          exact ec
      exact ⟨z, upd H3 a (.dT (putK kvs k z)), d_write I3 (by rw [ea]; exact True.intro) but ⟨o, ho⟩ ⟨by omega, nsys, _, (rel.put k eb rz).keeps stay, o, es, ep, ho, r1, r2, r3, r5⟩, rz, q4 q0⟩
end Pw

namespace Pw
open PySem PySem.Calls PyProof.Rows PyProof.V PySem.Spec
/-! list(zip(xs, ys)), both lists of one length. -/
abbrev ZipK (h : Heap) (z TI TO a : Addr) (f : Bool) : Prop :=
  h.get? z = some { cls := .type "zip", dict := none, data := .fields #[rawInt a, .bool f, .bool false, .ref TI, .ref TO], slots := #[] }
section
variable {prog : Program} {w : World} {A : Around} {E : Value → Shared → Prop} {s : Shared} {z TI TO a : Addr} {f : Bool}
theorem zk_free {oa : Obj} (hz : ZipK s.heap z TI TO a f) (ha : s.heap.get? a = some oa) :
    wpAny (model prog w) A (Builtin.SmallTypes.ownedTupleIsFree (.ref z)) (fun b s' => b = false ∧ ∃ h', s' = { s with heap := h' } ∧ ZipK h' z TI TO a true ∧ Heap.SameBut z s.heap h') E s := by
  unfold Builtin.SmallTypes.ownedTupleIsFree
  refine wpAny_bind (wpAny_field hz rfl (x := rawInt a) rfl ?_)
  show wpAny _ _ (loadIfAlive ((a : Int).toNat) >>= _) _ _ _
  rw [Int.toNat_natCast]
  refine wpAny_bind (PySem.W.kdx_alive ha ?_)
  simp only [Option.isNone_some, Bool.false_eq_true, if_false]
  refine wpAny_bind (wpAny_field hz rfl (x := .bool f) rfl ?_)
  cases f with
  | true =>
    rw [if_neg (show ¬ ((Value.bool true != Value.bool true) = true) from Bool.false_ne_true)]
    exact wpAny_pure ⟨rfl, s.heap, rfl, hz, Heap.SameBut.refl _ _⟩
  | false =>
    rw [if_pos (show (Value.bool false != Value.bool true) = true from rfl)]
    refine wpAny_bind (wpAny_setField_rec hz (by simp) fun h3 he hs => ?_)
    exact wpAny_pure ⟨rfl, h3, rfl, he, hs⟩
theorem zk_item {i1 i2 l1 l2 : Addr} {oa : Obj} {k : Nat} {xs ys : Array Value} {x y : Value} {Q : Option Value → Shared → Prop} (D : ZipApart z TI TO i1 i2 l1 l2)
    (hz : ZipK s.heap z TI TO a f) (ha : s.heap.get? a = some oa) (hTI : IsPair s.heap TI (.ref i1) (.ref i2))
    (h1 : s.heap.IsListIter i1 l1 k) (h2 : s.heap.IsListIter i2 l2 k) (hl1 : s.heap.IsList l1 xs) (hl2 : s.heap.IsList l2 ys) (hx : xs[k]? = some x) (hy : ys[k]? = some y)
    (hQ : ∀ h', ZipK h' z TI TO a true → h'.IsListIter i1 l1 (k + 1) → h'.IsListIter i2 l2 (k + 1) → IsPair h' s.heap.objs.size x y → h'.objs.size = s.heap.objs.size + 1 →
      (∀ c o, c ≠ z → c ≠ i1 → c ≠ i2 → s.heap.get? c = some o → h'.get? c = some o) → Q (some (.ref s.heap.objs.size)) { s with heap := h' }) :
    wpAny (model prog w) A (pyNext (.ref z)) Q E s := by
  have hT : s.TypeIs (.ref z) "zip" := ⟨_, hz, rfl⟩
  unfold pyNext
  refine wpAny_bind (wpAny_attempt (wpAny_callSpecial?_slot (name := Str.ofString "__next__") hT F.slot_zip_next
    (wpAny_call_entry F.slot_zip_next hT F.entry_zip_next ?_ (F.args_zip_next_1 _))))
  show wpAny _ _ (field (.ref z) 2 >>= _) _ _ _
  refine wpAny_bind (wpAny_field hz rfl (x := .bool false) rfl ?_)
  show wpAny _ _ (field (.ref z) 3 >>= _) _ _ _
  refine wpAny_bind (wpAny_field hz rfl (x := .ref TI) rfl ?_)
  refine wpAny_bind (wpAny_seqItems hTI rfl ?_)
  show wpAny _ _ (Builtin.SmallTypes.ownedTupleIsFree (.ref z) >>= _) _ _ _
  refine wpAny_bind (wpAny_mono (zk_free hz ha) (fun b s' hb => ?_) fun _ _ q => q)
  obtain ⟨rfl, g1, rfl, hz1, hs1⟩ := hb
  simp only [Bool.false_eq_true, if_false]
  refine wpAny_bind ?_
  simp only [List.forIn_toArray, List.forIn_cons, List.forIn_nil]
  have n1 := h1.extBut hs1.extBut D.i1z
  have n2 := h2.extBut hs1.extBut D.i2z
  have m1 := hl1.extBut hs1.extBut D.l1z
  have m2 := hl2.extBut hs1.extBut D.l2z
  refine wpAny_bind (wpAny_bind (wpAny_holding ?_))
  show wpAny _ _ (Builtin.SmallTypes.nextOf (.ref i1) >>= _) _ _ _
  refine wpAny_bind (wpAny_nextOf_list_item n1 m1 hx fun g2 n1' hs2 => wpAny_pure (wpAny_pure ?_))
  refine wpAny_bind (wpAny_bind (wpAny_holding ?_))
  show wpAny _ _ (Builtin.SmallTypes.nextOf (.ref i2) >>= _) _ _ _
  refine wpAny_bind (wpAny_nextOf_list_item (n2.extBut hs2.extBut D.i12.symm) (m2.extBut hs2.extBut D.l2i1) hy fun g3 n2' hs3 => wpAny_pure (wpAny_pure (wpAny_pure ?_)))
  refine wpAny_bind (wpAny_newTuple (hsz := by show 2 ≤ sizeLine; decide) (wpAny_pure ⟨_, rfl, wpAny_pure ?_⟩))
  have sz : g3.objs.size = s.heap.objs.size := by rw [hs3.1, hs2.1, hs1.1]
  have hk : ∀ c o, c ≠ z → c ≠ i1 → c ≠ i2 → s.heap.get? c = some o → g3.get? c = some o := fun c o c1 c2 c3 e =>
    hs3.extBut _ _ c3 (hs2.extBut _ _ c2 (hs1.extBut _ _ c1 e))
  show Q (some (.ref g3.objs.size)) _
  have n1'' := n1'.extBut hs3.extBut D.i12
  have hz3 : ZipK g3 z TI TO a true := hs3.extBut _ _ D.i2z.symm (hs2.extBut _ _ D.i1z.symm hz1)
  have up : ∀ c o, g3.get? c = some o → (g3.push { cls := .type "tuple", data := .seq #[x, y] }).get? c = some o := fun c o e => Heap.get?_push_of_some _ e
  have new : IsPair (g3.push { cls := .type "tuple", data := .seq #[x, y] }) g3.objs.size x y := Heap.get?_push_size _ rfl
  have sz2 : (g3.push { cls := .type "tuple", data := .seq #[x, y] }).objs.size = s.heap.objs.size + 1 := by rw [Heap.size_push, sz]
  rw [sz] at new ⊢
  exact hQ _ (up _ _ hz3) (n1''.at fun o e => up _ o e) (n2'.at fun o e => up _ o e) new sz2 fun c o c1 c2 c3 e => up c o (hk c o c1 c2 c3 e)
theorem zk_end {i1 i2 l1 l2 : Addr} {oa : Obj} {k : Nat} {xs : Array Value} {Q : Option Value → Shared → Prop} (hh : A.handled = none) (D : ZipApart z TI TO i1 i2 l1 l2)
    (hz : ZipK s.heap z TI TO a f) (ha : s.heap.get? a = some oa) (hTI : IsPair s.heap TI (.ref i1) (.ref i2)) (h1 : s.heap.IsListIter i1 l1 k) (hl1 : s.heap.IsList l1 xs) (hx : xs[k]? = none)
    (hQ : ∀ h', (∀ c o, c ≠ z → c ≠ i1 → s.heap.get? c = some o → h'.get? c = some o) → Q none { s with heap := h' }) :
    wpAny (model prog w) A (pyNext (.ref z)) Q E s := by
  have hT : s.TypeIs (.ref z) "zip" := ⟨_, hz, rfl⟩
  unfold pyNext
  refine wpAny_bind (wpAny_attempt (wpAny_callSpecial?_slot (name := Str.ofString "__next__") hT F.slot_zip_next
    (wpAny_call_entry F.slot_zip_next hT F.entry_zip_next ?_ (F.args_zip_next_1 _))))
  show wpAny _ _ (field (.ref z) 2 >>= _) _ _ _
  refine wpAny_bind (wpAny_field hz rfl (x := .bool false) rfl ?_)
  show wpAny _ _ (field (.ref z) 3 >>= _) _ _ _
  refine wpAny_bind (wpAny_field hz rfl (x := .ref TI) rfl ?_)
  refine wpAny_bind (wpAny_seqItems hTI rfl ?_)
  show wpAny _ _ (Builtin.SmallTypes.ownedTupleIsFree (.ref z) >>= _) _ _ _
  refine wpAny_bind (wpAny_mono (zk_free hz ha) (fun b s' hb => ?_) fun _ _ q => q)
  obtain ⟨rfl, g1, rfl, hz1, hs1⟩ := hb
  simp only [Bool.false_eq_true, if_false]
  refine wpAny_bind ?_
  simp only [List.forIn_toArray, List.forIn_cons, List.forIn_nil]
  refine wpAny_bind (wpAny_bind (wpAny_holding ?_))
  show wpAny _ _ (Builtin.SmallTypes.nextOf (.ref i1) >>= _) _ _ _
  refine wpAny_bind (wpAny_nextOf_list_end hh (h1.extBut hs1.extBut D.i1z) (hl1.extBut hs1.extBut D.l1z) hx fun g2 e hs2 he => ?_)
  obtain ⟨o, ho, hc⟩ := he
  refine wpAny_bind (wpAny_isInstance (T := "StopIteration") (b := true) ⟨o, ho, hc⟩ isSubtype_stop ?_)
  exact wpAny_pure (hQ _ fun c o c1 c2 e => hs2 _ _ c2 (hs1.extBut _ _ c1 e))
/-- the zip object, i pairs handed out -/
structure ZSt (h : Heap) (z TI TO i1 i2 l1 l2 S : Addr) (xs ys : Array Value) (i : Nat) : Prop where
  st : (i = 0 ∧ IsZip h z TI TO .none ∧ ∃ u v, IsPair h TO u v) ∨ ∃ a f oa, 0 < i ∧ ZipK h z TI TO a f ∧ h.get? a = some oa ∧ a ≠ z ∧ a ≠ TO ∧ a ≠ i1 ∧ a ≠ i2 ∧ a ≠ S
  pr : IsPair h TI (.ref i1) (.ref i2)
  n1 : h.IsListIter i1 l1 i
  n2 : h.IsListIter i2 l2 i
  a1 : h.IsList l1 xs
  a2 : h.IsList l2 ys
/-- the tuples handed out -/
structure ZG (xs ys : Array Value) (lo : Addr) (h : Heap) (as : List Addr) : Prop where
  rise : as.Pairwise (· < ·)
  above : ∀ a ∈ as, lo < a
  pairs : ∀ (j : Nat) (a : Addr), as[j]? = some a → ∃ x y, xs[j]? = some x ∧ ys[j]? = some y ∧ IsPair h a x y
structure ZAp (z TI TO i1 i2 l1 l2 S : Addr) : Prop where
  D : ZipApart z TI TO i1 i2 l1 l2
  zS : z < S
  TIS : TI < S
  TOS : TO < S
  i1S : i1 < S
  i2S : i2 < S
  l1S : l1 < S
  l2S : l2 < S
theorem zl_loop {R : Result → Shared → Prop} {i1 i2 l1 l2 S : Addr} {xs ys : Array Value} (hh : A.handled = none) (Z : ZAp z TI TO i1 i2 l1 l2 S) (hxy : xs.size = ys.size) (hn : xs.size ≤ sizeLine) (hp : 0 < xs.size) (res : Value) {h₁ : Heap}
    (hR : ∀ h' tk acc c as, (∀ b o, b ≠ S → b ≠ z → b ≠ TO → b ≠ i1 → b ≠ i2 → h₁.get? b = some o → h'.get? b = some o) → h'.get? S = some { cls := .type "list", dict := none, data := .seq acc c, slots := #[] } → as.length = xs.size → ZG xs ys S h' as →
      acc.toList = as.map Value.ref → R (.ok (.ret res)) { s with heap := h', toks := tk }) :
    ∀ (k i : Nat) (h : Heap) (tk c : Nat) (acc : Array Value) (as : List Addr), xs.size - i = k → i ≤ xs.size → ZSt h z TI TO i1 i2 l1 l2 S xs ys i → (∀ b o, b ≠ S → b ≠ z → b ≠ TO → b ≠ i1 → b ≠ i2 → h₁.get? b = some o → h.get? b = some o) →
      h.get? S = some { cls := .type "list", dict := none, data := .seq acc c, slots := #[] } → acc.toList = as.map Value.ref → as.length = i → ZG xs ys S h as →
      codeAny (model prog w) A (.builtin "list.extend.loop" ⟨[.ref S, .ref z, res], []⟩) R { s with heap := h, toks := tk } := by
  have D := Z.D
  have zS := Nat.ne_of_lt Z.zS
  have TIS := Nat.ne_of_lt Z.TIS
  have TOS := Nat.ne_of_lt Z.TOS
  have i1S := Nat.ne_of_lt Z.i1S
  have i2S := Nat.ne_of_lt Z.i2S
  have l1S := Nat.ne_of_lt Z.l1S
  have l2S := Nat.ne_of_lt Z.l2S
  intro k
  induction k with
  | zero =>
    intro i h tk c acc as hk hi st hkeep hS hacc hal hG
    have hin : i = xs.size := by omega
    refine codeAny_builtin PySem.F.entry_extend_loop ?_
    rw [Around.under_plainId PySem.F.plain_extend_loop _]
    show wpAny _ A.in1 (pyNext (.ref z) >>= _) _ _ _
    rcases st.st with ⟨e0, _⟩ | ⟨a, f, oa, i0, hz, ha, az, aTO, ai1, ai2, aS⟩
    · omega
    refine wpAny_bind (zk_end (s := { s with heap := h, toks := tk }) (A := A.in1) hh D hz ha st.pr st.n1 st.a1 (by rw [hin]; exact Array.getElem?_eq_none (Nat.le_refl _)) fun h' he => ?_)
    refine wpAny_pure (hR h' tk acc c as (fun b o b1 b2 b3 b4 b5 e => he b o b2 b4 (hkeep b o b1 b2 b3 b4 b5 e)) (he S _ zS.symm i1S.symm hS) (by omega) ⟨hG.rise, hG.above, fun j a hj => ?_⟩ hacc)
    obtain ⟨x, y, e1, e2, e3⟩ := hG.pairs j a hj
    have hb := hG.above a (List.mem_of_getElem? hj)
    exact ⟨x, y, e1, e2, he a _ (Nat.ne_of_gt (Nat.lt_trans Z.zS hb)) (Nat.ne_of_gt (Nat.lt_trans Z.i1S hb)) e3⟩
  | succ k ih =>
    intro i h tk c acc as hk hi st hkeep hS hacc hal hG
    have hlt : i < xs.size := by omega
    obtain ⟨x, hx⟩ : ∃ x, xs[i]? = some x := ⟨xs[i], Array.getElem?_eq_getElem hlt⟩
    obtain ⟨y, hy⟩ : ∃ y, ys[i]? = some y := ⟨ys[i]'(by omega), Array.getElem?_eq_getElem (by omega)⟩
    have hsz : acc.size = i := by rw [← Array.length_toList, hacc, List.length_map, hal]
    have hSl : S < h.objs.size := Heap.lt_size hS
    refine codeAny_builtin PySem.F.entry_extend_loop ?_
    rw [Around.under_plainId PySem.F.plain_extend_loop _]
    show wpAny _ A.in1 (pyNext (.ref z) >>= _) _ _ _
    have go : ∀ h' : Heap, ZSt h' z TI TO i1 i2 l1 l2 S xs ys (i + 1) → IsPair h' h.objs.size x y → (∀ b o, b ≠ z → b ≠ TO → b ≠ i1 → b ≠ i2 → h.get? b = some o → h'.get? b = some o) →
        wpAny (model prog w) A.in1 (updateSeq S (·.push (Value.ref h.objs.size)) >>= fun _ => pure (Fin.again (.builtin "list.extend.loop" ⟨[.ref S, .ref z, res], []⟩)))
          (fun fin s' => match fin with | .done f => R (.ok f) s' | .again c' => c'.quiet = true ∧ codeAny (model prog w) A c' R s') (fun e s' => R (.error e) s') { s with heap := h', toks := tk } := fun h' st' ht hkp => by
      have hS' := hkp S _ zS.symm TOS.symm i1S.symm i2S.symm hS
      have up : ∀ b o, b ≠ S → h'.get? b = some o → (h'.update S (Obj.mapSeq (·.push (Value.ref h.objs.size)))).get? b = some o := fun b o hb e => (Heap.get?_update_other _ _ (Ne.symm hb)).trans e
      refine wpAny_bind ?_
      refine wpAny_updateSeq hS' rfl (wpAny_pure ⟨plainId_quiet PySem.F.plain_extend_loop _, ih (i + 1) _ tk _ (acc.push (Value.ref h.objs.size)) (as ++ [h.objs.size]) (by omega) hlt ⟨?_, up _ _ TIS st'.pr, st'.n1.at fun o e => up _ o i1S e, st'.n2.at fun o e => up _ o i2S e, st'.a1.at fun o e => up _ o l1S e, st'.a2.at fun o e => up _ o l2S e⟩
        (fun b o b1 b2 b3 b4 b5 e => up b o b1 (hkp b o b2 b3 b4 b5 (hkeep b o b1 b2 b3 b4 b5 e))) (Heap.get?_update_self _ hS' rfl) (by rw [Array.toList_push, hacc, List.map_append]; rfl) (by rw [List.length_append, hal]; rfl) ⟨?_, ?_, ?_⟩⟩) (by rw [hsz]; omega) (by show (acc.push (Value.ref h.objs.size)).size ≤ sizeLine + 1; rw [Array.size_push, hsz]; omega)
      · rcases st'.st with ⟨e0, _⟩ | ⟨a, f, oa, i0, hz, ha, az, aTO, ai1, ai2, aS⟩
        · omega
        · exact .inr ⟨a, f, oa, i0, up _ _ zS hz, up _ _ aS ha, az, aTO, ai1, ai2, aS⟩
      · refine List.pairwise_append.mpr ⟨hG.rise, List.pairwise_singleton _ _, fun a ha b hb => ?_⟩
        rw [List.mem_singleton.mp hb]
        obtain ⟨j, hj⟩ := List.mem_iff_getElem?.mp ha
        obtain ⟨_, _, _, _, e⟩ := hG.pairs j a hj
        exact Heap.lt_size e
      · intro a ha
        rcases List.mem_append.mp ha with ha | ha
        · exact hG.above a ha
        · rw [List.mem_singleton.mp ha]; exact hSl
      · intro j b hj
        rcases Nat.lt_trichotomy j as.length with h1 | h1 | h1
        · rw [List.getElem?_append_left h1] at hj
          obtain ⟨x', y', e1, e2, e3⟩ := hG.pairs j b hj
          have hb := hG.above b (List.mem_of_getElem? hj)
          exact ⟨x', y', e1, e2, up b _ (Nat.ne_of_gt hb) (hkp b _ (Nat.ne_of_gt (Nat.lt_trans Z.zS hb)) (Nat.ne_of_gt (Nat.lt_trans Z.TOS hb)) (Nat.ne_of_gt (Nat.lt_trans Z.i1S hb)) (Nat.ne_of_gt (Nat.lt_trans Z.i2S hb)) e3)⟩
        · subst h1
          have hb : h.objs.size = b := by simpa using hj
          subst hb
          exact ⟨x, y, by rw [hal]; exact hx, by rw [hal]; exact hy, up _ _ (Nat.ne_of_gt hSl) ht⟩
        · have hnone : (as ++ [h.objs.size])[j]? = none := List.getElem?_eq_none (by rw [List.length_append, List.length_singleton]; omega)
          rw [hnone] at hj; cases hj
    have lz : ∀ {b : Addr}, b < S → h.objs.size ≠ b := fun hb => Nat.ne_of_gt (Nat.lt_trans hb hSl)
    rcases st.st with ⟨e0, hz, u, v, hTO⟩ | ⟨a, f, oa, i0, hz, ha, az, aTO, ai1, ai2, aS⟩
    · subst e0
      refine wpAny_bind (wpAny_pyNext_zip_item (s := { s with heap := h, toks := tk }) D hz st.pr hTO st.n1 st.n2 st.a1 st.a2 hx hy fun h' b1 b2 b3 b4 b5 b6 b7 => ?_)
      exact go h' ⟨.inr ⟨_, false, _, Nat.succ_pos _, b1, b5, lz Z.zS, lz Z.TOS, lz Z.i1S, lz Z.i2S, Nat.ne_of_gt hSl⟩, b7 _ _ D.TIz D.TITO D.TIi1 D.TIi2 st.pr, b3, b4, st.a1.at fun o e => b7 _ o D.l1z D.l1TO D.l1i1 D.l1i2 e, st.a2.at fun o e => b7 _ o D.l2z D.l2TO D.l2i1 D.l2i2 e⟩ b5 b7
    · refine wpAny_bind (zk_item (s := { s with heap := h, toks := tk }) D hz ha st.pr st.n1 st.n2 st.a1 st.a2 hx hy fun h' b1 b3 b4 b5 b6 b7 => ?_)
      exact go h' ⟨.inr ⟨a, true, oa, Nat.succ_pos _, b1, b7 _ _ az ai1 ai2 ha, az, aTO, ai1, ai2, aS⟩, b7 _ _ D.TIz D.TIi1 D.TIi2 st.pr, b3, b4, st.a1.at fun o e => b7 _ o D.l1z D.l1i1 D.l1i2 e, st.a2.at fun o e => b7 _ o D.l2z D.l2i1 D.l2i2 e⟩ b5 fun b o c1 _ c3 c4 e => b7 b o c1 c3 c4 e
theorem zip_len_none : typeLookup (.type "zip") "__len__" = pure none := by rw [typeLookup_type, builtinLookup_eq_fast]; kernel_rfl
theorem zip_hint_none : typeLookup (.type "zip") "__length_hint__" = pure none := by rw [typeLookup_type, builtinLookup_eq_fast]; kernel_rfl
theorem zl_hint (hT : s.TypeIs (.ref z) "zip") {Q : Bool → Shared → Prop} (h : Q true s) : wpAny (model prog w) A (Builtin.List.listLengthHint (.ref z)) Q E s := by
  unfold Builtin.List.listLengthHint
  refine wpAny_bind (wpAny_specialOf hT zip_len_none ?_)
  dsimp only
  refine wpAny_ite_split (fun hab => absurd hab (by decide)) (fun _ => ?_)
  refine wpAny_ite_split (fun hab => absurd hab (by decide)) (fun _ => ?_)
  refine wpAny_bind (wpAny_specialOf hT zip_hint_none ?_)
  exact wpAny_pure h
theorem zl_extend {R : Result → Shared → Prop} {i1 i2 l1 l2 S : Addr} {xs ys : Array Value} (hh : A.handled = none) (Z : ZAp z TI TO i1 i2 l1 l2 S) (hxy : xs.size = ys.size) (hn : xs.size ≤ sizeLine) (hp : 0 < xs.size) (res : Value) {c₀ : Nat}
    (st : ZSt s.heap z TI TO i1 i2 l1 l2 S xs ys 0) (hS : s.heap.get? S = some { cls := .type "list", data := .seq #[] c₀ })
    (hR : ∀ h' tk acc c as, (∀ b o, b ≠ S → b ≠ z → b ≠ TO → b ≠ i1 → b ≠ i2 → s.heap.get? b = some o → h'.get? b = some o) → h'.get? S = some { cls := .type "list", dict := none, data := .seq acc c, slots := #[] } → as.length = xs.size → ZG xs ys S h' as →
      acc.toList = as.map Value.ref → R (.ok (.ret res)) { s with heap := h', toks := tk }) :
    wpAny (model prog w) A.in1 (Builtin.List.listExtendWith (.ref S) (.ref z) res)
      (fun fin s' => match fin with | .done f => R (.ok f) s' | .again c' => c'.quiet = true ∧ codeAny (model prog w) A c' R s') (fun e s' => R (.error e) s') s := by
  have hSz : S ≠ z := Nat.ne_of_gt Z.zS
  obtain ⟨hz, u, v, hTO⟩ : IsZip s.heap z TI TO .none ∧ ∃ u v, IsPair s.heap TO u v := by
    rcases st.st with ⟨_, hz, h⟩ | ⟨a, f, oa, i0, hz, _⟩
    · exact ⟨hz, h⟩
    · exact absurd i0 (Nat.lt_irrefl _)
  have hT : s.TypeIs (.ref z) "zip" := ⟨_, hz, rfl⟩
  unfold Builtin.List.listExtendWith
  refine wpAny_bind (wpAny_typeOf (T := "zip") hT ?_)
  have h1 : Builtin.List.listSameRef (.ref S) (.ref z) = false := by simp [Builtin.List.listSameRef, hSz]
  have h2 : (Value.type "zip" == Value.type "list") = false := by decide
  have h3 : (Value.type "zip" == Value.type "tuple") = false := by decide
  simp only [h1, h2, h3, Bool.or_false, Bool.false_eq_true, if_false]
  refine wpAny_bind (wpAny_pyIter_zip hz ?_)
  refine wpAny_bind (wpAny_holding (zl_hint hT ?_))
  refine wpAny_ite_split (fun _ => ?_) (fun hab => absurd rfl hab)
  refine wpAny_bind (wpAny_rule ?_)
  refine wpAny_bind ?_
  show wpAny _ _ (updateSeq S (·.push .none) >>= fun _ => updateSeq S (·.pop)) _ _ _
  refine wpAny_bind (wpAny_updateSeq hS rfl ?_)
  have hS₂ := Heap.get?_update_self (Obj.mapSeq (·.push Value.none)) hS rfl
  refine wpAny_updateSeq (hz := by seq_fits) hS₂ rfl ?_
  have hS₃ := Heap.get?_update_self (Obj.mapSeq (·.pop)) hS₂ rfl
  have up : ∀ b o, b ≠ S → s.heap.get? b = some o → ((s.heap.update S (Obj.mapSeq (·.push Value.none))).update S (Obj.mapSeq (·.pop))).get? b = some o := fun b o hb e =>
    (Heap.get?_update_other _ _ (Ne.symm hb)).trans ((Heap.get?_update_other _ _ (Ne.symm hb)).trans e)
  refine wpAny_pure ⟨plainId_quiet PySem.F.plain_extend_loop _, zl_loop hh Z hxy hn hp res hR xs.size 0 _ _ _ #[] [] (Nat.sub_zero _) (Nat.zero_le _) ?_ (fun b o b1 _ _ _ _ e => up b o b1 e) hS₃ rfl rfl ⟨List.Pairwise.nil, (fun _ ha => nomatch ha), (fun j a hj => by simp at hj)⟩⟩
  have n := fun {b : Addr} (h : b < S) => Nat.ne_of_lt h
  exact ⟨.inl ⟨rfl, up _ _ (n Z.zS) hz, u, v, up _ _ (n Z.TOS) hTO⟩, up _ _ (n Z.TIS) st.pr, st.n1.at fun o e => up _ o (n Z.i1S) e, st.n2.at fun o e => up _ o (n Z.i2S) e, st.a1.at fun o e => up _ o (n Z.l1S) e, st.a2.at fun o e => up _ o (n Z.l2S) e⟩
theorem zl_init {R : Result → Shared → Prop} {i1 i2 l1 l2 S : Addr} {xs ys : Array Value} (hh : A.handled = none) (Z : ZAp z TI TO i1 i2 l1 l2 S) (hxy : xs.size = ys.size) (hn : xs.size ≤ sizeLine) (hp : 0 < xs.size)
    (st : ZSt s.heap z TI TO i1 i2 l1 l2 S xs ys 0) (hS : s.heap.get? S = some { cls := .type "list", data := .seq #[] })
    (hR : ∀ h' tk acc c as, (∀ b o, b ≠ S → b ≠ z → b ≠ TO → b ≠ i1 → b ≠ i2 → s.heap.get? b = some o → h'.get? b = some o) → h'.get? S = some { cls := .type "list", dict := none, data := .seq acc c, slots := #[] } → as.length = xs.size → ZG xs ys S h' as →
      acc.toList = as.map Value.ref → R (.ok (.ret .none)) { s with heap := h', toks := tk }) :
    wpAny (model prog w) A.in1 (Builtin.«list.__init__» ⟨[.ref S, .ref z], []⟩)
      (fun fin s' => match fin with | .done f => R (.ok f) s' | .again c' => c'.quiet = true ∧ codeAny (model prog w) A c' R s') (fun e s' => R (.error e) s') s := by
  show wpAny _ _ (do let old ← Builtin.List.listItems (.ref S); Builtin.List.listUpdate (.ref S) (fun _ => #[]); letGo old.toList.reverse; Builtin.List.listExtendWith (.ref S) (.ref z) .none) _ _ s
  refine wpAny_bind ?_
  unfold Builtin.List.listItems
  refine wpAny_bind (wpAny_seqItems hS rfl (wpAny_pure ?_))
  show wpAny _ _ (updateSeq S (fun _ => #[]) >>= fun _ => letGo (#[] : Array Value).toList.reverse >>= fun _ => Builtin.List.listExtendWith (.ref S) (.ref z) .none) _ _ s
  refine wpAny_bind (wpAny_updateSeq hS rfl ?_)
  have hS₂ := Heap.get?_update_self (Obj.mapSeq (fun _ => (#[] : Array Value))) hS rfl
  have oth : ∀ b o, b ≠ S → s.heap.get? b = some o → (s.heap.update S (Obj.mapSeq (fun _ => (#[] : Array Value)))).get? b = some o :=
    fun b o hb e => (Heap.get?_update_other _ _ (Ne.symm hb)).trans e
  refine wpAny_bind (wpAny_letGo ?_)
  have n := fun {b : Addr} (h : b < S) => Nat.ne_of_lt h
  refine zl_extend hh Z hxy hn hp .none ?_ hS₂ (fun h' tk acc c as hk hS' hl hG hacc => hR h' tk acc c as (fun b o b1 b2 b3 b4 b5 e => hk b o b1 b2 b3 b4 b5 (oth b o b1 e)) hS' hl hG hacc)
  obtain ⟨hz, u, v, hTO⟩ : IsZip s.heap z TI TO .none ∧ ∃ u v, IsPair s.heap TO u v := by
    rcases st.st with ⟨_, hz, h⟩ | ⟨a, f, oa, i0, hz, _⟩
    · exact ⟨hz, h⟩
    · exact absurd i0 (Nat.lt_irrefl _)
  exact ⟨.inl ⟨rfl, oth _ _ (n Z.zS) hz, u, v, oth _ _ (n Z.TOS) hTO⟩, oth _ _ (n Z.TIS) st.pr, st.n1.at fun o e => oth _ o (n Z.i1S) e, st.n2.at fun o e => oth _ o (n Z.i2S) e, st.a1.at fun o e => oth _ o (n Z.l1S) e, st.a2.at fun o e => oth _ o (n Z.l2S) e⟩
/-- list(zip(l1, l2)), both of one length, none empty -/
theorem zl_call {l1 l2 : Addr} {xs ys : Array Value} {Q : Value → Shared → Prop} (hh : A.handled = none) (hl1 : s.heap.IsList l1 xs) (hl2 : s.heap.IsList l2 ys) (hxy : xs.size = ys.size) (hn : xs.size ≤ sizeLine) (hp : 0 < xs.size)
    (b1 : l1 < s.heap.objs.size) (b2 : l2 < s.heap.objs.size)
    (hQ : ∀ S h' tk acc c as, s.heap.objs.size ≤ S → (∀ b o, s.heap.get? b = some o → h'.get? b = some o) → h'.get? S = some { cls := .type "list", dict := none, data := .seq acc c, slots := #[] } → as.length = xs.size → ZG xs ys S h' as →
      acc.toList = as.map Value.ref → Q (.ref S) { s with heap := h', toks := tk }) :
    wpAny (model prog w) A (call (.type "zip") [.ref l1, .ref l2]) (fun x s1 => wpAny (model prog w) A (call (.type "list") [x]) Q E s1) E s := by
  refine call_zip_2 hl1 hl2 fun g hz hTI hTO h1 h2 hsz hk => ?_
  refine callType_codes (Q₁ := fun obj s₁ => obj = .ref g.objs.size ∧ s₁ = { s with heap := g.push { cls := .type "list", data := .seq #[] } }) PySem.F.called_list (PySem.F.typeCall_list_1 _) PySem.F.entry_list_init
    (code_list_new _ ⟨rfl, rfl⟩) fun obj s₁ ho => ?_
  obtain ⟨rfl, rfl⟩ := ho
  have hS : (g.push { cls := .type "list", data := .seq #[] }).get? g.objs.size = some { cls := .type "list", data := .seq #[] } := Heap.get?_push_size _ rfl
  have up : ∀ b o, g.get? b = some o → (g.push { cls := .type "list", data := .seq #[] }).get? b = some o := fun b o e => Heap.get?_push_of_some _ e
  have Z : ZAp (s.heap.objs.size + 4) (s.heap.objs.size + 2) (s.heap.objs.size + 3) s.heap.objs.size (s.heap.objs.size + 1) l1 l2 g.objs.size := by
    rw [hsz]
    exact ⟨PySem.W.ktu_apart s.heap.objs.size l1 l2 b1 b2, Nat.add_lt_add_left (by decide) _, Nat.add_lt_add_left (by decide) _, Nat.add_lt_add_left (by decide) _, Nat.lt_add_of_pos_right (by decide), Nat.add_lt_add_left (by decide) _, Nat.lt_trans b1 (Nat.lt_add_of_pos_right (by decide)), Nat.lt_trans b2 (Nat.lt_add_of_pos_right (by decide))⟩
  refine ⟨⟨_, hS, rfl⟩, PySem.F.args_list_init_2 _ _, zl_init (A := A.in1) hh Z hxy hn hp ⟨.inl ⟨rfl, up _ _ hz, _, _, up _ _ hTO⟩, up _ _ hTI, h1.at fun o e => up _ o e, h2.at fun o e => up _ o e, (hl1.at fun o e => hk _ o e).at fun o e => up _ o e, (hl2.at fun o e => hk _ o e).at fun o e => up _ o e⟩ hS (fun h' tk acc c as hk' hS' hl hG hacc => ?_)⟩
  refine ⟨rfl, hQ g.objs.size h' tk acc c as (by rw [hsz]; exact Nat.le_add_right _ _) (fun b o e => ?_) hS' hl hG hacc⟩
  have lt := Heap.lt_size e
  exact hk' b o (Nat.ne_of_lt (by rw [hsz]; exact Nat.lt_trans lt (Nat.lt_add_of_pos_right (by decide)))) (Nat.ne_of_lt (Nat.lt_trans lt (Nat.lt_add_of_pos_right (by decide)))) (Nat.ne_of_lt (Nat.lt_trans lt (Nat.lt_add_of_pos_right (by decide)))) (Nat.ne_of_lt lt) (Nat.ne_of_lt (Nat.lt_trans lt (Nat.lt_add_of_pos_right (by decide)))) (up _ _ (hk b o e))
end
end Pw
namespace Pw
open PySem PySem.Spec PyProof.Rows L2
/-- pairs laid at their addresses -/
def putP : Hp → List Addr → List (V × V) → Hp
  | H, a :: as, p :: ps => putP (upd H a (.tup [p.1, p.2])) as ps
  | H, _, _ => H
theorem putP_off {b : Addr} : ∀ (as : List Addr) (ps : List (V × V)) (H : Hp), b ∉ as → putP H as ps b = H b
  | [], _, _, _ => rfl
  | _ :: _, [], _, _ => rfl
  | a :: as, p :: ps, H, h => by
    show putP (upd H a (.tup [p.1, p.2])) as ps b = H b
    rw [putP_off as ps _ fun z => h (List.mem_cons_of_mem _ z), upd_ne fun z => h (by rw [z]; exact List.mem_cons_self)]
theorem putP_at : ∀ (as : List Addr) (ps : List (V × V)) (H : Hp), as.length = ps.length → as.Nodup → ∀ {i : Nat} {a : Addr}, as[i]? = some a → ∃ p, ps[i]? = some p ∧ putP H as ps a = some (.tup [p.1, p.2])
  | [], _, _, _, _, i, a, e => by simp at e
  | _ :: _, [], _, h, _, _, _, _ => by cases h
  | a :: as, p :: ps, H, h, nd, i, b, e => by
    have nd' := List.nodup_cons.mp nd
    cases i with
    | zero =>
      simp only [List.getElem?_cons_zero, Option.some.injEq] at e
      subst e
      refine ⟨p, rfl, ?_⟩
      show putP (upd H a (.tup [p.1, p.2])) as ps a = _
      rw [putP_off as ps _ nd'.1, upd_same]
    | succ i =>
      simp only [List.getElem?_cons_succ] at e
      obtain ⟨q, h1, h2⟩ := putP_at as ps (upd H a (.tup [p.1, p.2])) (Nat.succ.inj h) nd'.2 e
      exact ⟨q, by simpa using h1, h2⟩
/-- list(zip(a, b)): a new list of new pairs -/
def tListZip (K : PySem.W.Frag) (ta : TA) : TE := fun σ H Q => ta σ H fun vs H1 => ∃ a b xs ys, vs = [V.ref a, .ref b] ∧ SqL K H1 a xs ∧ SqL K H1 b ys ∧ xs.length = ys.length ∧ xs ≠ [] ∧
  ∀ (H' : Hp) (l : Addr) (ts : List Addr), Same H1 H' → H1 l = none → H' l = some (.lst (ts.map V.ref)) → ts.length = xs.length → (∀ (i : Nat) (t : Addr), ts[i]? = some t → ∃ x y, xs[i]? = some x ∧ ys[i]? = some y ∧ H' t = some (.tup [x, y])) → Q (.ref l) H'
theorem vals_get {vs : List V} {us : List Value} (h : Vals vs us) : ∀ {i : Nat} {x : V}, vs[i]? = some x → ∃ u, us[i]? = some u ∧ RelV x u := by
  induction h with
  | nil => intro i x e; simp at e
  | cons r _ ih =>
    intro i x e
    cases i with
    | zero =>
      simp only [List.getElem?_cons_zero, Option.some.injEq] at e
      subst e
      exact ⟨_, rfl, r⟩
    | succ i =>
      simp only [List.getElem?_cons_succ] at e
      obtain ⟨u, h1, h2⟩ := ih e
      exact ⟨u, by simpa using h1, h2⟩
section
variable {X : Cx} {a b : Expr} {ta : TA} {p p2 pos pos2 : Pos}
theorem zip_laid {pins : List (Addr × Obj)} {σ : L2.St} {H : Hp} {s : Shared} {h' : Heap} {tk : Nat} {xs ys : List V} {us ws : List Value} {acc : Array Value} {c : Nat} {as : List Addr} {S : Addr} (I : Inv X pins σ H s) (hz : xs.length ≤ sizeLine)
    (rx : Vals xs us) (ry : Vals ys ws) (hxy : xs.length = ys.length) (sS : s.heap.objs.size ≤ S) (hk : ∀ b o, s.heap.get? b = some o → h'.get? b = some o) (hS : h'.get? S = some { cls := .type "list", dict := none, data := .seq acc c, slots := #[] })
    (hl : as.length = us.length) (hG : ZG us.toArray ws.toArray S h' as) (hacc : acc.toList = as.map Value.ref) :
    ∃ H' : Hp, Same H H' ∧ H S = none ∧ H' S = some (.lst (as.map V.ref)) ∧ (∀ (i : Nat) (t : Addr), as[i]? = some t → ∃ x y, xs[i]? = some x ∧ ys[i]? = some y ∧ H' t = some (.tup [x, y])) ∧ Inv X pins σ H' { s with heap := h', toks := tk } := by
  have lx := rx.length
  have ly := ry.length
  have hSn : S ∉ as := fun z => Nat.lt_irrefl _ (hG.above _ z)
  have nd : as.Nodup := List.Pairwise.imp (fun {a b} (h : a < b) => Nat.ne_of_lt h) hG.rise
  have new : ∀ t ∈ as, H t = none := fun t ht => I.hok.fresh (Nat.le_trans sS (Nat.le_of_lt (hG.above t ht)))
  have newS : H S = none := I.hok.fresh sS
  have lz : (List.zip xs ys).length = as.length := by rw [List.length_zip]; omega
  have atP := fun {i : Nat} {t : Addr} (e : as[i]? = some t) => putP_at as (List.zip xs ys) (upd H S (.lst (as.map V.ref))) lz.symm nd e
  have off : ∀ b, b ∉ as → b ≠ S → putP (upd H S (.lst (as.map V.ref))) as (List.zip xs ys) b = H b := fun b h1 h2 => by rw [putP_off as _ _ h1, upd_ne h2]
  have low : ∀ b o, s.heap.get? b = some o → b ∉ as ∧ b ≠ S := fun b o e => ⟨fun z => absurd (Heap.lt_size e) (Nat.not_lt.mpr (Nat.le_trans sS (Nat.le_of_lt (hG.above b z)))), fun z => absurd (Heap.lt_size e) (Nat.not_lt.mpr (by rw [z]; exact sS))⟩
  have kp : Same H (putP (upd H S (.lst (as.map V.ref))) as (List.zip xs ys)) := fun b u e => by
    rw [off b (fun z => by rw [new b z] at e; cases e) (fun z => by rw [z, newS] at e; cases e)]
    exact e
  have eS : putP (upd H S (.lst (as.map V.ref))) as (List.zip xs ys) S = some (.lst (as.map V.ref)) := by rw [putP_off as _ _ hSn, upd_same]
  refine ⟨putP (upd H S (.lst (as.map V.ref))) as (List.zip xs ys), kp, newS, eS, fun i t e => ?_, ?_⟩
  · obtain ⟨q, h1, h2⟩ := atP e
    rw [List.getElem?_zip_eq_some] at h1
    exact ⟨q.1, q.2, h1.1, h1.2, h2⟩
  refine I.call' (ch := []) rfl ⟨fun b o q _ _ _ => hk b o q, fun b o q _ _ _ => ⟨o.slots, hk b o q⟩, fun b o q n _ => ?_, fun b o q _ => ⟨o, hk b o q⟩, fun b xs q => kp b _ q, fun b o u q => kp b _ q, fun b ps q => ⟨#[], by rw [kp b _ q]; simp⟩⟩ (fun b u q => ?_) I.bare fun b z => by simp at z
  · obtain ⟨z1, z2⟩ := low b o q
    rw [off b z1 z2]
    exact n
  · by_cases hb : b ∈ as
    · obtain ⟨j, e1⟩ := List.mem_iff_getElem?.mp hb
      obtain ⟨pk, e2, e3⟩ := atP e1
      rw [e3] at q
      cases q
      rw [List.getElem?_zip_eq_some] at e2
      obtain ⟨x, y, f1, f2, f3⟩ := hG.pairs j b e1
      obtain ⟨u1, g1, r1⟩ := vals_get rx e2.1
      obtain ⟨u2, g2, r2⟩ := vals_get ry e2.2
      have : x = u1 := by simpa [g1] using f1.symm
      subst this
      have : y = u2 := by simpa [g2] using f2.symm
      subst this
      exact ⟨by show 2 ≤ sizeLine; decide, [x, y], .cons r1 (.cons r2 .nil), ⟨_, f3, rfl, _, rfl⟩⟩
    · by_cases hb2 : b = S
      · rw [hb2] at q ⊢
        rw [eS] at q
        cases q
        refine ⟨by rw [List.length_map]; omega, acc.toList, c, by rw [hacc]; exact LiI.vals_refs as, ?_⟩
        rw [Array.toArray_toList]
        exact hS
      · rw [off b hb hb2] at q
        exact (I.hok b u q).stay (fun d v _ y => hk d v y) (fun d y => kp d _ y) fun d xs y => kp d _ y
theorem pe_listZip (hc : X.calm = true) (ha : PA X [a, b] ta) (hg : Gl X "list") (hm : X.mg "list" = none) (hg2 : Gl X "zip") (hm2 : X.mg "zip" = none)
    (hs : starEach [.Call (.Name "zip" p2) [a, b] [] pos2] X.env = (false, eval (.Call (.Name "zip" p2) [a, b] [] pos2) X.env) :: starEach [] X.env := by rfl)
    (hs2 : starEach [a, b] X.env = (false, eval a X.env) :: starEach [b] X.env := by rfl) (hpl : (backTo pos2 (starEach [b] X.env)).any (·.1) = false := by rfl) :
    PE X (.Call (.Name "list" p) [.Call (.Name "zip" p2) [a, b] [] pos2] [] pos) (tListZip X.K ta) := by
  refine ⟨fun pins s σ H Q I hq => ?_⟩
  refine wpAny_Call_Name_kw (ld_blt I hg hm PyProof.Rows.boot_list ?_)
  refine PyProof.Rows.callWith_type1 ?_ hs rfl
  rw [hs]
  show wpAny _ _ (spliced ((false, eval (.Call (.Name "zip" p2) [a, b] [] pos2) X.env) :: backTo pos (starEach [] X.env))) _ _ s
  refine Calls.spliced_cons ?_
  refine Call_ (ld_blt I hg2 hm2 PyProof.Rows.boot_zip (PyProof.Rows.callWith_type1 (thn (ha.run pos2 pins s σ H _ I hq) fun us s1 h1 => ?_) hs2 hpl))
  obtain ⟨vs, H1, I1, r1, l1, l2, xs, ys, rfl, hqx, hqy, hxy, hne, q⟩ := h1
  cases r1 with
  | cons r rr =>
    cases rr with
    | cons r' rr =>
      cases rr
      cases r
      cases r'
      obtain ⟨us, rx, p1, hz⟩ := I1.list hqx
      obtain ⟨ws, ry, p2', _⟩ := I1.list hqy
      have lx := rx.length
      have ly := ry.length
      have xp : 0 < xs.length := List.length_pos_iff.mpr hne
      refine wpAny_mono (zl_call (Q := fun v s' => ∃ x H', Inv X pins σ H' s' ∧ RelV x v ∧ Q x H') (I1.ok.hd hc) p1.isList p2'.isList (by simp; omega) (by simp; omega) (by simp; omega) p1.lt p2'.lt fun S h' tk acc c as sS hk hS hl hG hacc => ?_) (fun x s' hx => Calls.spliced_nil hx) fun _ _ e => e
      obtain ⟨H', k1, k2, k3, k4, J⟩ := zip_laid (tk := tk) I1 hz rx ry hxy sS hk hS (by simpa using hl) hG hacc
      exact ⟨.ref S, H', J, rfl, q H' S as k1 k2 k3 (by simp at hl; omega) k4⟩
end
end Pw

set_option maxHeartbeats 8000000
/-! list(d.items()), the keys of d tuples. -/
namespace Pw
open PySem PySem.Spec PyProof.Rows L2
section
variable {prog : Program} {w : World} {A : Around} {E : Value → Shared → Prop} {s : Shared} {r d : Addr} {es : Array DictEntry} {ep : Nat}
theorem li_call {Q : Value → Shared → Prop} (hh : A.handled = none) (hv : s.heap.IsItemsView r d) (hm : DT.Raw s.heap d es ep) (hn : es.size ≤ sizeLine)
    (hQ : ∀ S h' tk acc c as, s.heap.objs.size ≤ S → (∀ b o, s.heap.get? b = some o → h'.get? b = some o) → h'.get? S = some { cls := .type "list", dict := none, data := .seq acc c, slots := #[] } → as.length = es.size → DT.Made es S h' as →
      acc.toList = as.map Value.ref → Q (.ref S) { s with heap := h', toks := tk }) :
    wpAny (model prog w) A (call (.type "list") [.ref r]) Q E s := by
  have hr : r < s.heap.objs.size := let ⟨_, ho, _⟩ := hv; Heap.lt_size ho
  have hd : d < s.heap.objs.size := hm.lt
  refine callType_codes (Q₁ := fun obj s₁ => obj = .ref s.heap.objs.size ∧ s₁ = { s with heap := s.heap.push { cls := .type "list", data := .seq #[] } }) PySem.F.called_list (PySem.F.typeCall_list_1 _) PySem.F.entry_list_init
    (code_list_new _ ⟨rfl, rfl⟩) fun obj s₁ ho => ?_
  obtain ⟨rfl, rfl⟩ := ho
  have hS : (s.heap.push { cls := .type "list", data := .seq #[] }).get? s.heap.objs.size = some { cls := .type "list", data := .seq #[] } := Heap.get?_push_size _ rfl
  refine ⟨⟨_, hS, rfl⟩, PySem.F.args_list_init_2 _ _, ?_⟩
  show wpAny _ _ (do let old ← Builtin.List.listItems (.ref s.heap.objs.size); Builtin.List.listUpdate (.ref s.heap.objs.size) (fun _ => #[]); letGo old.toList.reverse; Builtin.List.listExtendWith (.ref s.heap.objs.size) (.ref r) .none) _ _ _
  refine wpAny_bind ?_
  unfold Builtin.List.listItems
  refine wpAny_bind (wpAny_seqItems hS rfl (wpAny_pure ?_))
  show wpAny _ _ (updateSeq s.heap.objs.size (fun _ => #[]) >>= fun _ => letGo (#[] : Array Value).toList.reverse >>= fun _ => Builtin.List.listExtendWith (.ref s.heap.objs.size) (.ref r) .none) _ _ _
  refine wpAny_bind (wpAny_updateSeq hS rfl ?_)
  have hS₂ := Heap.get?_update_self (Obj.mapSeq (fun _ => (#[] : Array Value))) hS rfl
  have oth : ∀ b o, s.heap.get? b = some o → ((s.heap.push { cls := .type "list", data := .seq #[] }).update s.heap.objs.size (Obj.mapSeq (fun _ => (#[] : Array Value)))).get? b = some o :=
    fun b o e => (Heap.get?_update_other _ _ (Nat.ne_of_gt (Heap.lt_size e))).trans (Heap.get?_push_of_some _ e)
  refine wpAny_bind (wpAny_letGo ?_)
  have lsz : s.heap.objs.size < ((s.heap.push { cls := .type "list", data := .seq #[] }).update s.heap.objs.size (Obj.mapSeq (fun _ => (#[] : Array Value)))).objs.size := Heap.lt_size hS₂
  refine DT.extI (prog := prog) (w := w) (A := A.in1) (es := es) (ep := ep) (s := { s with heap := (s.heap.push { cls := .type "list", data := .seq #[] }).update s.heap.objs.size (Obj.mapSeq (fun _ => (#[] : Array Value))) }) hh (let ⟨o, ho, x⟩ := hv; ⟨o, oth _ _ ho, x⟩) (hm.at' fun o e => oth _ o e) s.heap.objs.size (Nat.ne_of_gt hr) (Nat.ne_of_lt hd) .none 0 (hS₂.trans rfl) (fun h' tk acc c as hk hS' hl hG hacc => ?_) hn
  exact ⟨rfl, hQ s.heap.objs.size h' tk acc c as (Nat.le_refl _) (fun b o e => hk b o (Nat.ne_of_lt (Heap.lt_size e)) (oth b o e)) hS' hl (hG.low (Nat.le_of_lt lsz)) hacc⟩
end
/-- list(d.items()): a new list of new pairs (the key's own tuple, the value) -/
def rListIt : List V → Hp → VK → Prop := fun vs H Q => ∃ (p a : Addr) (kvs : TK), vs = [.ref p] ∧ H p = some (L2.DX.itemsO p a) ∧ H a = some (.dT kvs) ∧ ∀ (H' : Hp) (l : Addr) (ts bs : List Addr), Same H H' → H l = none → H' l = some (.lst (ts.map V.ref)) → ts.length = kvs.length → bs.length = kvs.length →
  (∀ (i : Nat) (b : Addr), bs[i]? = some b → ∃ kv, kvs[i]? = some kv ∧ H b = some (.tup (kv.1.map kV))) → (∀ (i : Nat) (t : Addr), ts[i]? = some t → ∃ b kv, bs[i]? = some b ∧ kvs[i]? = some kv ∧ H' t = some (.tup [.ref b, kv.2])) → Q (.ref l) H'
theorem call_listIt {X : Cx} (hc : X.calm = true) : CallR X (.type "list") rListIt := by
  intro pins s σ H vs us Q I r h
  obtain ⟨p, a, kvs, rfl, hp, ha, q⟩ := h
  obtain rfl := Vals.ref1 r
  have view : s.heap.IsItemsView p a := (show ObjOk X.prog X.w H s.heap p (L2.DX.itemsO p a) from I.hok p _ hp).1
  obtain ⟨z, hd, xs', rel, o, es, ep, ho, hx, hdat, hes, his, hn⟩ := dt_of I.hok ha
  have l1 : kvs.length = xs'.length := Paired.length rel
  have l2 : es.size = xs'.length := size_of_entries hes
  have hh : X.A.handled = none := I.ok.hd hc
  refine li_call (es := es) (ep := ep) hh view ⟨o, ho, hx, hdat⟩ (by omega) fun S h' tk acc c as sS hk hS hl hG hacc => ?_
  -- keys and values, as the pairs that were made hold them
  have rK : Vals (xs'.map fun x => V.ref x.2.1) (xs'.map fun x => Value.ref x.2.1) := by
    have : ∀ l : List (List Key × Addr × Value), Vals (l.map fun x => V.ref x.2.1) (l.map fun x => Value.ref x.2.1) := fun l => by
      induction l with
      | nil => exact .nil
      | cons x r ih => exact .cons rfl ih
    exact this xs'
  have rV : Vals (kvs.map Prod.snd) (xs'.map fun x => x.2.2) := by
    have : ∀ {ks : TK} {xs : List (List Key × Addr × Value)}, KT H ks xs → Vals (ks.map Prod.snd) (xs.map fun x => x.2.2) := fun h => by
      induction h with
      | nil => exact .nil
      | cons hq _ ih => exact .cons hq.2.2 ih
    exact this rel
  have G : ZG (xs'.map fun x => Value.ref x.2.1).toArray (xs'.map fun x => x.2.2).toArray S h' as := by
    refine ⟨hG.rise, hG.above, fun j b hj => ?_⟩
    obtain ⟨en, he, hg⟩ := hG.pairs j b hj
    rw [entry_at hes j] at he
    cases hxj : xs'[j]? with
    | none =>
      rw [hxj] at he
      exact nomatch (show (none : Option DictEntry) = some en from he)
    | some x =>
      rw [hxj] at he
      have een : entryOfKey (tupleKind (mixKind X.prog X.w)) x = en := Option.some.inj he
      refine ⟨.ref x.2.1, x.2.2, by rw [List.getElem?_toArray, List.getElem?_map, hxj]; rfl, by rw [List.getElem?_toArray, List.getElem?_map, hxj]; rfl, ?_⟩
      rw [← een] at hg
      exact hg
  obtain ⟨H', kp, newS, eS, pr, I'⟩ := zip_laid (tk := tk) I (by rw [List.length_map]; omega) rK rV (by rw [List.length_map, List.length_map]; exact l1.symm) sS hk hS (by rw [List.length_map]; omega) G hacc
  refine ⟨.ref S, H', I', rfl, q H' S as (xs'.map fun x => x.2.1) kp newS eS (by omega) (by rw [List.length_map]; exact l1.symm) (fun i b hb => ?_) fun i t ht => ?_⟩
  · rw [List.getElem?_map] at hb
    cases hxi : xs'[i]? with
    | none => rw [hxi] at hb; cases hb
    | some x =>
      rw [hxi] at hb
      cases hb
      obtain ⟨e0, he0, r1, r2, r3⟩ := L2.DX.pget rel hxi
      exact ⟨e0, he0, r1 ▸ r2⟩
  · obtain ⟨x, y, h1, h2, h3⟩ := pr i t ht
    rw [List.getElem?_map] at h1 h2
    cases hxi : xs'[i]? with
    | none => rw [hxi] at h1; cases h1
    | some x0 =>
      rw [hxi] at h1
      cases h1
      obtain ⟨e0, he0, r1, r2, r3⟩ := L2.DX.pget rel hxi
      rw [he0] at h2
      cases h2
      exact ⟨x0.2.1, e0, by rw [List.getElem?_map, hxi]; rfl, he0, h3⟩
end Pw

set_option maxHeartbeats 8000000
namespace V59
open PySem PySem.Spec PyProof.Rows L2 Pw
/-! ### what stands while the law tells a place its letters -/
theorem okN0 {s : Str} (h : OkName s) : PyData.strOk s = true := by
  have h2 := (h.sh s rfl).2
  unfold PyData.strOk
  rw [Array.all_eq_true']
  intro c hc
  have := h2 c (by simpa using hc)
  exact decide_eq_true (by omega)
def RFr (H H' : Hp) (r : Addr) (S : Pl) : Prop := ∀ q o, q ≠ r → q ≠ S.wD → q ≠ S.mD → q ≠ S.wl → q ≠ S.sl → q ≠ S.md → q ≠ S.dn → H q = some o → H' q = some o
section
variable {E r : Addr} {H H' H1 H2 : Hp} {S : Pl}
theorem RFr.same (F : RFr H H1 r S) (S1 : Same H1 H2) : RFr H H2 r S := fun q o a b c d e f g h => S1 _ _ (F q o a b c d e f g h)
theorem PcAt.own (pc : PcAt E H r S) {q : Addr} {xs : List V} (e : H q = some (.tup xs)) : q ≠ r ∧ q ≠ S.wD ∧ q ≠ S.mD ∧ q ≠ S.wl ∧ q ≠ S.sl ∧ q ≠ S.md ∧ q ≠ S.dn := by
  obtain ⟨dx, e1⟩ := pc.me
  obtain ⟨vs, el, _⟩ := pc.l
  obtain ⟨us, ed, _⟩ := pc.d
  have k : ∀ {b : Addr} {o : HO}, H b = some o → o ≠ .tup xs → q ≠ b := fun eb n z => by rw [z, eb] at e; cases e; exact n rfl
  exact ⟨k e1 (fun z => by cases z), k pc.w (fun z => by cases z), k pc.m (fun z => by cases z), k el (fun z => by cases z), k pc.s (fun z => by cases z), k pc.mt (fun z => by cases z), k ed (fun z => by cases z)⟩
theorem RFr.tups (F : RFr H H' r S) (pc : PcAt E H r S) : ∀ q xs, H q = some (.tup xs) → H' q = some (.tup xs) := fun q xs e => by
  obtain ⟨a, b, c, d, f, g, h⟩ := pc.own e
  exact F q _ a b c d f g h e
end
theorem hrd_is {S : Pl} {t : Int} {cs : List Cm} {o : Od} : (hrd S t cs o).wa = S.wa ∧ (hrd S t cs o).pl = S.pl ∧ (hrd S t cs o).wD = S.wD ∧ (hrd S t cs o).mD = S.mD ∧ (hrd S t cs o).wl = S.wl ∧ (hrd S t cs o).sl = S.sl ∧ (hrd S t cs o).md = S.md ∧ (hrd S t cs o).dn = S.dn ∧ (hrd S t cs o).sent = S.sent ∧ ((hrd S t cs o).t = t ∨ (hrd S t cs o).t = S.t) := by
  cases o with
  | term n => exact ⟨rfl, rfl, rfl, rfl, rfl, rfl, rfl, rfl, rfl, .inl rfl⟩
  | back i =>
    unfold hrd
    dsimp only
    split <;> exact ⟨rfl, rfl, rfl, rfl, rfl, rfl, rfl, rfl, rfl, .inl rfl⟩
  | act i cn =>
    unfold hrd
    dsimp only
    split
    · exact ⟨rfl, rfl, rfl, rfl, rfl, rfl, rfl, rfl, rfl, .inl rfl⟩
    · split
      · rename_i c _
        obtain ⟨y1, y2, y3, y4, y5, y6, y7, y8, y9, y10, y11, y12⟩ := metS_is (S := { S with t := t }) (i := i) (c := c)
        exact ⟨y1, y2, y5, y6, y7, y8, y9, y10, y12, .inl y3⟩
      · exact ⟨rfl, rfl, rfl, rfl, rfl, rfl, rfl, rfl, rfl, .inr rfl⟩
theorem lwH_len {l : Lw} {t : Int} {o : Od} : (lwH l t o).met.length ≤ l.met.length + 1 ∧ (lwH l t o).done.length ≤ l.done.length + 1 := by
  cases o with
  | term n => exact ⟨Nat.le_succ _, Nat.le_succ _⟩
  | back i =>
    unfold lwH
    dsimp only
    split
    · exact ⟨Nat.le_succ _, Nat.le_succ _⟩
    · exact ⟨by show (l.met ++ [_]).length ≤ _; rw [List.length_append]; exact Nat.le_refl _, Nat.le_succ _⟩
  | act i c =>
    unfold lwH
    dsimp only
    split
    · exact ⟨Nat.le_succ _, Nat.le_succ _⟩
    · refine ⟨by show (l.met ++ [_]).length ≤ _; rw [List.length_append]; exact Nat.le_refl _, ?_⟩
      dsimp only
      split
      · rw [List.length_append]; exact Nat.le_refl _
      · exact Nat.le_succ _
theorem lwH_done {l : Lw} {t : Int} {cs : List Cm} {o : Od} (g : GoodOd cs o) : ∀ d ∈ (lwH l t o).done, d ∈ l.done ∨ ∃ m ∈ cs, d.c = m.nm := by
  cases o with
  | term n => exact fun d h => .inl h
  | back i =>
    unfold lwH
    dsimp only
    split <;> exact fun d h => .inl h
  | act i c =>
    obtain ⟨_, m, hm, em⟩ := g
    unfold lwH
    dsimp only
    split
    · exact fun d h => .inl h
    · dsimp only
      split
      · intro d h
        rcases List.mem_append.mp h with h | h
        · exact .inl h
        · rw [List.mem_singleton.mp h]
          exact .inr ⟨m, hm, em.symm⟩
      · exact fun d h => .inl h
/-- the place, and beside it the law's own term, met and done -/
structure Rm (E : Addr) (H0 : Hp) (r : Addr) (S0 : Pl) (md : Addr) (n : Nat) (H : Hp) (S : Pl) (lw : Lw) (dl : Addr) : Prop where
  fr : RFr H0 H r S0
  pc : PcAt E H r S
  ad : S.wD = S0.wD ∧ S.mD = S0.mD ∧ S.sl = S0.sl ∧ S.md = S0.md ∧ S.dn = S0.dn ∧ S.wa = S0.wa ∧ S.pl = S0.pl
  wl : S.wl = S0.wl ∨ H0 S.wl = none
  nm : S.st.map Ps.nm = S0.st.map Ps.nm
  ct : S.wt.length ≤ 10 ∧ S.sent.length ≤ n ∧ S.met.length ≤ n ∧ S.done.length ≤ n
  lc : lw.met.length ≤ n ∧ lw.done.length ≤ n
  tm : S.t * 3 ≤ n
  ri : Ris S.lw
  nmo : ∀ d ∈ S.done, PyData.strOk d.c = true
  hm : H md = some (.dT (metK lw.met))
  mn : md ≠ S.md
  hd : ∃ vs, H dl = some (.lst vs) ∧ Dns H vs lw.done
  dd : dl ≠ S.wl ∧ dl ≠ S.sl ∧ dl ≠ S.dn
  ex : ∀ q, H0 q ≠ none → H q ≠ none
section
variable {E r md dl : Addr} {H0 H H1 H2 : Hp} {S0 S : Pl} {n : Nat} {lw : Lw}
theorem Rm.same (h : Rm E H0 r S0 md n H S lw dl) (F : Same H H1) : Rm E H0 r S0 md n H1 S lw dl := by
  obtain ⟨vs, ed, dn⟩ := h.hd
  have hx : ∀ q, H0 q ≠ none → H1 q ≠ none := fun q e z => by
    cases eq : H q with
    | none => exact h.ex q e eq
    | some o => rw [F _ _ eq] at z; cases z
  exact { h with fr := h.fr.same F, pc := h.pc.same F, hm := F _ _ h.hm, hd := ⟨vs, F _ _ ed, dn.tups fun q xs e => F _ _ e⟩, ex := hx }
theorem Rm.not {o : Lw} (h : Rm E H0 r S0 md n H S lw dl) : ¬ (md = r ∨ md = S.wD ∨ md = S.mD ∨ md = S.wl ∨ md = S.sl ∨ md = S.md ∨ md = S.dn) := by
  have e := h.hm
  obtain ⟨dx, e1⟩ := h.pc.me
  obtain ⟨vs, el, _⟩ := h.pc.l
  obtain ⟨us, ed, _⟩ := h.pc.d
  rintro (z | z | z | z | z | z | z)
  · rw [z, e1] at e; cases e
  · rw [z, h.pc.w] at e; cases e
  · rw [z, h.pc.m] at e; cases e
  · rw [z, el] at e; cases e
  · rw [z, h.pc.s] at e; cases e
  · exact h.mn z
  · rw [z, ed] at e; cases e
theorem PcAt.have_ {q : Addr} (pc : PcAt E H r S) (h : q = r ∨ q = S.wD ∨ q = S.mD ∨ q = S.wl ∨ q = S.sl ∨ q = S.md ∨ q = S.dn) : H q ≠ none := by
  obtain ⟨dx, e1⟩ := pc.me
  obtain ⟨vs, el, _⟩ := pc.l
  obtain ⟨us, ed, _⟩ := pc.d
  have k : ∀ {b : Addr} {o : HO}, H b = some o → H b ≠ none := fun e z => by rw [e] at z; cases z
  rcases h with rfl | rfl | rfl | rfl | rfl | rfl | rfl
  · exact k e1
  · exact k pc.w
  · exact k pc.m
  · exact k el
  · exact k pc.s
  · exact k pc.mt
  · exact k ed
/-- what the law has of its own stays where the place alone changes -/
theorem Rm.keep (h : Rm E H0 r S0 md n H S lw dl) (F : ∀ q o, q ≠ r → q ≠ S.wD → q ≠ S.mD → q ≠ S.wl → q ≠ S.sl → q ≠ S.md → q ≠ S.dn → H q = some o → H1 q = some o) : RFr H0 H1 r S0 ∧ H1 md = some (.dT (metK lw.met)) ∧ ∃ vs, H1 dl = some (.lst vs) ∧ Dns H1 vs lw.done := by
  have T : ∀ q xs, H q = some (.tup xs) → H1 q = some (.tup xs) := fun q xs e => by
    obtain ⟨a, b, c, d, f, g, k⟩ := h.pc.own e
    exact F q _ a b c d f g k e
  refine ⟨fun q o a b c d e f g i => ?_, ?_, ?_⟩
  · obtain ⟨w1, w2, w3, w4, w5, _⟩ := h.ad
    refine F q o a (w1 ▸ b) (w2 ▸ c) (fun z => ?_) (w3 ▸ e) (w4 ▸ f) (w5 ▸ g) (h.fr q o a b c d e f g i)
    rcases h.wl with w | w
    · exact d (z.trans w)
    · rw [z, w] at i
      cases i
  · have nt := h.not (o := lw)
    exact F _ _ (fun z => nt (.inl z)) (fun z => nt (.inr (.inl z))) (fun z => nt (.inr (.inr (.inl z)))) (fun z => nt (.inr (.inr (.inr (.inl z))))) (fun z => nt (.inr (.inr (.inr (.inr (.inl z)))))) (fun z => nt (.inr (.inr (.inr (.inr (.inr (.inl z))))))) (fun z => nt (.inr (.inr (.inr (.inr (.inr (.inr z))))))) h.hm
  · obtain ⟨vs, ed, dn⟩ := h.hd
    obtain ⟨dx, e1⟩ := h.pc.me
    exact ⟨vs, F _ _ (fun z => by rw [z, e1] at ed; cases ed) (fun z => by rw [z, h.pc.w] at ed; cases ed) (fun z => by rw [z, h.pc.m] at ed; cases ed) h.dd.1 h.dd.2.1 (fun z => by rw [z, h.pc.mt] at ed; cases ed) h.dd.2.2 ed, dn.tups T⟩
theorem Rm.hear {t : Int} {cs : List Cm} {o : Od} (h : Rm E H0 r S0 md n H S S.lw dl) (few : S.wt.length ≤ 9) (F : HFr H H1 r S) (p1 : PcAt E H1 r (hrd S t cs o)) (ht : t * 3 ≤ n) (nd : (cs.map Cm.nm).Nodup) (ok : ∀ c ∈ cs, OkName c.nm) (g : GoodOd cs o) (free : ∀ c ∈ cs, c.lks = [] ∧ c.pt ∈ S0.st.map Ps.nm) :
    Rm E H0 r S0 md (n + 1) H1 (hrd S t cs o) S.lw dl ∧ (hrd S t cs o).lw = lwH S.lw t o := by
  have el : (hrd S t cs o).lw = lwH S.lw t o := hrd_lw nd g (by rw [h.nm]; exact free)
  refine ⟨?_, el⟩
  obtain ⟨z1, z2, z3, z4, z5, z6, z7, z8, z9, z10⟩ := hrd_is (S := S) (t := t) (cs := cs) (o := o)
  obtain ⟨y1, y2⟩ := hrd_st (S := S) (t := t) (cs := cs) (o := o)
  obtain ⟨w1, w2, w3, w4, w5, w6, w7⟩ := h.ad
  obtain ⟨k1, k2, k3⟩ := h.keep (fun q o a b c d e f g i => F q o a b c d g f i)
  have em : (hrd S t cs o).met = (lwH S.lw t o).met := congrArg Lw.met el
  have ed : (hrd S t cs o).done = (lwH S.lw t o).done := congrArg Lw.done el
  obtain ⟨l1, l2⟩ := lwH_len (l := S.lw) (t := t) (o := o)
  have c1 := h.ct.2.2.1
  have c2 := h.ct.2.2.2
  have e1 : S.lw.met.length = S.met.length := rfl
  have e2 : S.lw.done.length = S.done.length := rfl
  exact {
    fr := k1, pc := p1, ad := ⟨z3.trans w1, z4.trans w2, z6.trans w3, z7.trans w4, z8.trans w5, z1.trans w6, z2.trans w7⟩
    wl := by rw [z5]; exact h.wl
    nm := y1.trans h.nm
    ct := ⟨by omega, by rw [z9]; exact Nat.le_succ_of_le h.ct.2.1, by rw [em]; omega, by rw [ed]; omega⟩
    lc := ⟨Nat.le_succ_of_le h.ct.2.2.1, Nat.le_succ_of_le h.ct.2.2.2⟩
    tm := by
      have := h.tm
      rcases z10 with z | z <;> rw [z] <;> omega
    ri := by rw [el]; exact h.ri.go t o
    nmo := fun d hd => by
      rw [ed] at hd
      rcases lwH_done g d hd with k | ⟨m, hm, e⟩
      · exact h.nmo d k
      · rw [e]; exact okN0 (ok m hm)
    hm := k2, mn := by rw [z7]; exact h.mn, hd := k3, dd := ⟨by rw [z5]; exact h.dd.1, by rw [z6]; exact h.dd.2.1, by rw [z8]; exact h.dd.2.2⟩
    ex := fun q e => by
      by_cases c : q = r ∨ q = S.wD ∨ q = S.mD ∨ q = S.wl ∨ q = S.sl ∨ q = S.md ∨ q = S.dn
      · exact p1.have_ (by rw [z3, z4, z5, z6, z7, z8]; exact c)
      · simp only [not_or] at c
        obtain ⟨c1, c2, c3, c4, c5, c6, c7⟩ := c
        intro z
        cases eq : H q with
        | none => exact h.ex q e eq
        | some o => rw [F q o c1 c2 c3 c4 c7 c6 eq] at z; cases z }
theorem Rm.law {l' : Lw} (h : Rm E H0 r S0 md n H S lw dl) (em : l'.met = lw.met) (ed : l'.done = lw.done) : Rm E H0 r S0 md n H S l' dl :=
  { h with lc := by rw [em, ed]; exact h.lc, hm := by rw [em]; exact h.hm, hd := by rw [ed]; exact h.hd }
/-- the law's dict is written -/
theorem Rm.put {m : List (Id2 × Bool)} (h : Rm E H0 r S0 md n H S lw dl) (nH : H0 md = none) (lm : m.length ≤ n) : Rm E H0 r S0 md n (upd H md (.dT (metK m))) S { lw with met := m } dl := by
  have B : But md H (upd H md (.dT (metK m))) := But.set
  obtain ⟨vs, ed, dn⟩ := h.hd
  have nt : ∀ xs, H md ≠ some (.tup xs) := fun xs z => by rw [h.hm] at z; cases z
  exact { h with
    fr := fun q o a b c d e f g i => B.at (fun z => by rw [z, nH] at i; cases i) (h.fr q o a b c d e f g i)
    pc := h.pc.but B nt (h.not (o := lw))
    lc := ⟨lm, h.lc.2⟩
    hm := upd_same
    hd := ⟨vs, B.at (fun z => by rw [z, h.hm] at ed; cases ed) ed, dn.tups fun q xs e => B.at (fun z => nt xs (z ▸ e)) e⟩
    ex := fun q e z => by
      by_cases c : q = md
      · rw [c, upd_same] at z; cases z
      · rw [upd_ne c] at z; exact h.ex q e z }
/-- the law's list of what was done is another one -/
theorem Rm.list {ds : List Dn} {l : Addr} {vs : List V} (h : Rm E H0 r S0 md n H S lw dl) (e : H l = some (.lst vs)) (d : Dns H vs ds) (ld : ds.length ≤ n) (nl : l ≠ S.wl ∧ l ≠ S.sl ∧ l ≠ S.dn) : Rm E H0 r S0 md n H S { lw with done := ds } l :=
  { h with lc := ⟨h.lc.1, ld⟩, hd := ⟨vs, e, d⟩, dd := nl }
/-- a letter is sent -/
theorem Rm.send {t : Int} {wl' q : Addr} (h : Rm E H0 r S0 md (n + 1) H S S.lw dl) (F : ∀ a o, a ≠ r → a ≠ S.sl → H a = some o → H1 a = some o) (nw : H wl' = none) (ls : S.sent.length ≤ n) (ht : t * 3 ≤ n) (p1 : PcAt E H1 r { S with t := t, wl := wl', wt := [], sent := S.sent ++ [q] }) :
    Rm E H0 r S0 md (n + 1) H1 { S with t := t, wl := wl', wt := [], sent := S.sent ++ [q] } S.lw dl := by
  obtain ⟨k1, k2, k3⟩ := h.keep (fun q o a b c d e f g i => F q o a e i)
  obtain ⟨vs, ed, _⟩ := h.hd
  exact { h with
    fr := k1, pc := p1
    wl := .inr (by
      cases e : H0 wl' with
      | none => rfl
      | some o => exact absurd nw (h.ex wl' (by rw [e]; exact fun z => by cases z)))
    ct := ⟨Nat.zero_le _, by show (S.sent ++ [q]).length ≤ _; rw [List.length_append]; exact Nat.succ_le_succ ls, h.ct.2.2⟩
    tm := by show t * 3 ≤ _; omega
    hm := k2, hd := k3, dd := ⟨(fun z => by rw [z, nw] at ed; cases ed), h.dd.2⟩
    ex := fun q e z => by
      by_cases c : q = r ∨ q = S.sl
      · exact p1.have_ (by rcases c with c | c; exact .inl c; exact .inr (.inr (.inr (.inr (.inl c))))) z
      · simp only [not_or] at c
        cases eq : H q with
        | none => exact h.ex q e eq
        | some o => rw [F q o c.1 c.2 eq] at z; cases z }
end
end V59

set_option maxHeartbeats 8000000
namespace V59
open PySem PySem.Spec PyProof.Rows L2 Pw
theorem Dns.get {H : Hp} {vs : List V} {ds : List Dn} (h : Dns H vs ds) : ∀ {i : Nat} {v : V}, vs[i]? = some v → ∃ d, ds[i]? = some d ∧ DnAt H v d := by
  induction h with
  | nil => intro i v e; cases e
  | cons a _ ih =>
    intro i v e
    cases i with
    | zero => cases e; exact ⟨_, rfl, a⟩
    | succ i => exact ih e
theorem AnsAt.tups {H H' : Hp} {a : Addr} {S : Pl} {t : Int} {o : Od} (h : AnsAt H a S t o) (F : ∀ q xs, H q = some (.tup xs) → H' q = some (.tup xs)) : AnsAt H' a S t o := by
  cases o with
  | term n => exact F _ _ h
  | back i => obtain ⟨q, b, e1, e2, e3⟩ := h; exact ⟨q, b, F _ _ e1, F _ _ e2, e3⟩
  | act i c => obtain ⟨q, b, e1, e2, e3⟩ := h; exact ⟨q, b, F _ _ e1, F _ _ e2, e3⟩
theorem ite_dw {b : Bool} {σ : L2.St} {Q : V → Hp → Prop} {H : Hp} (h : Q (.str (dw b)) H) : if b = true then tC (.str "done") σ H Q else tC (.str "refused") σ H Q := by
  cases b <;> exact h
theorem dns_flat {b : Bool} {v : V} : (List.replicate (if b = true then (1 : Int) else 0).toNat [v]).flatten = if b = true then [v] else [] := by
  cases b <;> rfl
section
variable {P : Program} {w : World} {K : PySem.W.Frag} {mg : Str → Option Value} {base : Heap} {C E : Addr}
/-- a new place hears letters; what it does is what the law says, and nothing but the place is changed -/
def spRight (C E : Addr) (K : PySem.W.Frag) : Sp := fun vs H Q _ => ∃ r S W ps cs ls M, vs = [.ref r, .ref ls] ∧ PcAt E H r S ∧ (∀ H', RFr H H' r S → WkC K C H' S.wa W ps cs) ∧ H ls = some (.lst ((M : List OA).map fun x => V.ref x.2)) ∧ M.length ≤ 50 ∧ (∀ x ∈ M, OdAt H x.2 x.1 ∧ GoodOd cs x.1) ∧
  ls ≠ S.wl ∧ ls ≠ S.sl ∧ ls ≠ S.dn ∧ (∀ c ∈ cs, c.lks = [] ∧ c.pt ∈ S.st.map Ps.nm) ∧ S.t = 0 ∧ S.tm = 0 ∧ S.wt = [] ∧ S.sent = [] ∧ S.met = [] ∧ S.done = [] ∧ PyData.strOk S.pl = true ∧ ∀ H', RFr H H' r S → Q (.bl true) H'
theorem d_right (T : Txt mg) (Wp : PcC K E) (A : At K mg "_law_right" sLawRight) (dHe : DefM P w K mg base E "hears" 7 ["self", "letter", "time"] (spHears C E K)) (dNa : DefM P w K mg base E "name" 1 ["self"] (spPName E)) (dTe : DefM P w K mg base E "term" 1 ["self"] (spPTerm E))
    (dDo : DefM P w K mg base E "done" 1 ["self"] (spDone E)) (dMe : DefM P w K mg base E "met" 1 ["self"] (spMet E)) (dWa : DefM P w K mg base E "waiting" 1 ["self"] (spWaiting E)) (dSe : DefM P w K mg base E "send" 6 ["self", "time"] (spSend E K)) : Def P w K mg base "_law_right" 8 ["_law_place", "_law_letters_here"] (spRight C E K) := by
  refine mkDef A scLawRight (fun _ _ _ _ _ _ us hl => match us, hl with | [_, _], _ => rfl) (fun vs H Q E ⟨_, _, _, _, _, _, _, e, _⟩ => by rw [e]; rfl)
    (fun f cdv A0 out s H vs Q X hr h => ?_)
  have hu : (A0.deeper (envOfC "_law_right" (defScope sLawRight) s.heap.objs.size f cdv)).units + 1 < cLine := hu_of hr
  refine ⟨_, (pss_cons (ps_par3 (i := 2) (j := 3) (l := 4) rfl scLawRight.nd rfl rfl rfl (by decide) (by decide) (by decide) rfl rfl rfl (pa_cons pe_int (pa_cons pe_dnewT (pa_cons (pe_lst pa_nil) pa_nil))) rfl)
    (pss_cons (ps_for PassesOwn.never rfl (pi_enum (by rfl) T.enumerate (pa_cons (pv 1) pa_nil)) (pg_tup (by rfl) (pgs_cons (pg_name (i := 5) scLawRight.nd rfl (.inl rfl)) (pgs_cons (pg_name (i := 6) scLawRight.nd rfl (.inl rfl)) pgs_nil)))
      (pss_cons (ps_set (i := 7) scLawRight.nd rfl (.inl rfl) (pe_mm (pv 0) Wp.cl dHe hr (by decide) (pa_cons (pv 6) (pa_cons (pe_op op_fdiv (pv 5) pe_int) pa_nil))))
      (pss_cons (ps_if (pt_cmpR op_eq (pe_ix ix_tup (pv 6) pe_int (fun _ _ => rfl)) pe_str (nomark _))
        (pss_cons (ps_set (i := 2) scLawRight.nd rfl (.inl rfl) (pe_callB (call_max2 rfl) (by rfl) T.max PyProof.Rows.boot_max (pa_cons (pv 2) (pa_cons (pe_ix ix_tup (pv 6) pe_int (fun _ _ => rfl)) pa_nil))))
        (pss_one (ps_if (pt_cmpR (op_neD hr.units) (pv 7) (pe_tup (pa_cons pe_str (pa_cons (pe_mm0 (pv 0) Wp.cl dNa hr (by decide)) (pa_cons (pv 2) (pa_cons (pe_op op_fdiv (pv 5) pe_int) pa_nil))))) (nomark _))
          (pss_one (ps_ret pe_bl))
          pss_nil)))
        (pss_cons (ps_set (i := 8) scLawRight.nd rfl (.inl rfl) (pe_ix ix_tup (pv 6) pe_int (fun _ _ => rfl)))
        (pss_cons (ps_if (PW.pt (pw_and (pt_cmpR op_eq (pe_ix ix_tup (pv 6) pe_int (fun _ _ => rfl)) pe_str (nomark _)) (pw_and1 (pt_cmp (pc_dnotin hu (pv 8) (pv 3)) rfl))))
          (pss_cons (ps_set (i := 2) scLawRight.nd rfl (.inl rfl) (pe_callB (call_max2 rfl) (by rfl) T.max PyProof.Rows.boot_max (pa_cons (pv 2) (pa_cons (pe_ix ix_tup (pv 8) pe_int (fun _ _ => rfl)) pa_nil))))
          (pss_cons (ps_asg (pe_ifExp (pt_cmpR op_eq (pe_ix ix_tup (pv 8) pe_int (fun _ _ => rfl)) (pv 2) (nomark _)) pe_str pe_str) (pg_sub (pv 3) (pv 8) (set_dict hu)))
          (pss_one (ps_set (i := 4) scLawRight.nd rfl (.inl rfl) (pe_op op_cat (pv 4) (pe_op op_rep (pe_lst (pa_cons (pe_tup (pa_cons (pv 8) (pa_cons (pe_ix ix_tup (pv 6) pe_int (fun _ _ => rfl)) (pa_cons (pe_op op_fdiv (pv 5) pe_int) pa_nil)))) pa_nil)) (pe_callTy call_int1 (by rfl) T.int (by decide +kernel) (pa_cons (pe_cmpR op_eq (pe_ix ix_tup (pv 8) pe_int (fun _ _ => rfl)) (pv 2) (nomark _)) pa_nil))))))))
          pss_nil)
        (pss_cons (ps_expr (pe_dsetdT hu (pv 3) (pv 8) pe_str ⟨rfl, rfl, rfl, rfl⟩))
        (pss_one (ps_if (pt_cmpR (op_neD hr.units) (pv 7) (pe_tup (pa_cons pe_str (pa_cons (pe_mm0 (pv 0) Wp.cl dNa hr (by decide)) (pa_cons (pv 8) (pa_cons (pe_dget hu (pv 3) (pv 8) (fun _ _ => rfl)) (pa_cons (pv 2) (pa_cons (pe_op op_fdiv (pv 5) pe_int) pa_nil))))))) (nomark _))
          (pss_one (ps_ret pe_bl))
          pss_nil))))))
      (pss_cons (ps_if (PW.pt (pw_or (pt_cmpR op_ne (pe_mm0 (pv 0) Wp.cl dTe hr (by decide)) (pv 2) (nomark _)) (pw_or (pt_cmpR (op_neD hr.units) (pe_mm0 (pv 0) Wp.cl dDo hr (by decide)) (pv 4) (nomark _)) (pw_or1 (pt_cmpR (op_neD hr.units) (pe_callTy (call_listIt rfl) (by rfl) T.list (by decide +kernel) (pa_cons (pe_bm0 PySem.F.plainAttrs_dict PySem.F.slot_dict_items PySem.F.type_dict_items L2.DX.mt_itemsT (pe_mm0 (pv 0) Wp.cl dMe hr (by decide))) pa_nil)) (pe_callTy (call_listIt rfl) (by rfl) T.list (by decide +kernel) (pa_cons (pe_bm0 PySem.F.plainAttrs_dict PySem.F.slot_dict_items PySem.F.type_dict_items L2.DX.mt_itemsT (pv 3)) pa_nil)) (nomark _))))))
        (pss_one (ps_ret pe_bl))
        pss_nil)
      (pss_one (ps_if (pt_cmpR op_gt (pe_callB call_len_seq (by rfl) T.len PySem.boot_len (pa_cons (pe_mm0 (pv 0) Wp.cl dWa hr (by decide)) pa_nil)) pe_int (nomark _))
        (pss_one (ps_expr (pe_mm (pv 0) Wp.cl dSe hr (by decide) (pa_cons (pe_op op_fdiv (pv 5) pe_int) pa_nil))))
        pss_nil))))))
    (pss_cons (ps_setLc (i := 9) (own := [("_law_row", 10)]) (g := gName 10) (tt := tYes) rfl scLawRight.nd rfl rfl (sw_true rfl rfl rfl (by decide +kernel)) (pi_list (pv 4))
        (blkOk_by (own := [("_law_row", 10)]) (N := ["_law_place", "_law_letters_here", "_law_term", "_law_met", "_law_done", "_law_at", "_law_letter", "_law_answer", "_law_ident", "_law_terms", "_law_row"]) (sc := defScope sLawRight) (by decide +kernel))
        (fun _ _ _ _ _ => (pg_name (i := 10) scLawRight.nd rfl (.inl rfl))) (fun _ _ _ _ _ => pts_nil)
        (fun _ _ _ _ _ => (pe_ix (r := rIxT K) ix_tup (pe_ix (r := rIxT K) ix_tup (pv 10) pe_int (fun _ _ => rfl)) pe_int (fun _ _ => rfl))))
    (pss_one (ps_ret (pe_cmpR (op_eqD hr.units) (pv 9) (pe_callB cr_sortedI (by rfl) T.sorted PyProof.Rows.boot_sorted (pa_cons (pv 9) pa_nil)) (nomark _))))))), ?_⟩
  obtain ⟨r, S0, W, ps, cs, ls, M, rfl, pc0, hw0, els0, M50, gM, nl1, nl2, nl3, free, t0, tm0, wt0, se0, me0, do0, oks, k⟩ := h
  have nd : (cs.map Cm.nm).Nodup := (hw0 H (fun q o _ _ _ _ _ _ _ e => e)).wm.nd
  have okc : ∀ c ∈ cs, OkName c.nm := (hw0 H (fun q o _ _ _ _ _ _ _ e => e)).wm.ok
  -- term, met, done
  refine fun md nmd => ?_
  have U1 := Same.laid (o := HO.dT []) nmd
  have f1 : upd H md (.dT []) md = some (.dT []) := upd_same
  generalize upd H md (.dT []) = H1 at *
  refine ⟨by show 0 ≤ sizeLine; decide, fun dl0 ndl => ?_⟩
  have U2 := Same.laid (o := HO.lst []) ndl
  have f2 : upd H1 dl0 (.lst []) dl0 = some (.lst []) := upd_same
  have f1' := U2 _ _ f1
  have U12 := U1.trans U2
  have ndl0 : H dl0 = none := Same.no U1 ndl
  generalize upd H1 dl0 (.lst []) = H2 at *
  refine ⟨_, _, _, rfl, ?_⟩
  dsimp only [gName, List.set_cons_zero, List.set_cons_succ]
  have hv : ∀ {q : Addr}, (q = r ∨ q = S0.wD ∨ q = S0.mD ∨ q = S0.wl ∨ q = S0.sl ∨ q = S0.md ∨ q = S0.dn) → H q ≠ none := fun h => pc0.have_ h
  have R0 : Rm E H r S0 md 0 H2 S0 S0.lw dl0 := by
    refine ⟨fun q o _ _ _ _ _ _ _ e => U12 _ _ e, pc0.same U12, ⟨rfl, rfl, rfl, rfl, rfl, rfl, rfl⟩, .inl rfl, rfl, ⟨by rw [wt0]; exact Nat.zero_le _, by rw [se0]; exact Nat.zero_le _, by rw [me0]; exact Nat.zero_le _, by rw [do0]; exact Nat.zero_le _⟩, ?_, by rw [t0]; decide, ?_, (by rw [do0]; intro d h; cases h), ?_, fun z => hv (.inr (.inr (.inr (.inr (.inr (.inl z)))))) nmd, ⟨[], f2, ?_⟩, ⟨fun z => hv (.inr (.inr (.inr (.inl z)))) ndl0, fun z => hv (.inr (.inr (.inr (.inr (.inl z))))) ndl0, fun z => hv (.inr (.inr (.inr (.inr (.inr (.inr z)))))) ndl0⟩, fun q e z => ?_⟩
    · exact ⟨by show S0.met.length ≤ 0; rw [me0]; exact Nat.zero_le _, by show S0.done.length ≤ 0; rw [do0]; exact Nat.zero_le _⟩
    · refine ⟨?_, ?_⟩
      · show (S0.done.map fun d => d.id.1).Pairwise (· ≤ ·)
        rw [do0]
        exact .nil
      · show ∀ d ∈ S0.done, _
        rw [do0]
        exact fun d h => by cases h
    · show H2 md = some (.dT (metK S0.met))
      rw [me0]
      exact f1'
    · show Dns H2 [] S0.done
      rw [do0]
      exact .nil
    · cases eq : H q with
      | none => exact e eq
      | some o => rw [U12 _ _ eq] at z; cases z
  refine ⟨_, rfl, ls, _, rfl, SqL.of (U12 _ _ els0), ?_⟩
  refine for_it (walk_enum (K := K) (a := ls) (xs := M.map fun x => V.ref x.2)) (fun i σ G => ∃ (v5 v6 v7 v8 v9 v10 : Option V) (S : Pl) (dl : Addr), σ = [some (.ref r), some (.ref ls), some (.int S.tm), some (.ref md), some (.ref dl), v5, v6, v7, v8, v9, v10] ∧ S.wt.length ≤ 9 ∧ Rm E H r S0 md i G S S.lw dl)
    ⟨none, none, none, none, none, none, S0, dl0, by rw [tm0]; rfl, by rw [wt0]; exact Nat.zero_le _, R0⟩ (fun i σ G _ ⟨_, _, _, _, _, _, S, dl, _, _, R⟩ => SqL.of (R.fr ls _ (fun z => ?_) (fun z => ?_) (fun z => ?_) nl1 nl2 (fun z => ?_) nl3 els0)) ?_ ?_
  · obtain ⟨dx, e1⟩ := pc0.me
    rw [z, e1] at els0; cases els0
  · rw [z, pc0.w] at els0; cases els0
  · rw [z, pc0.m] at els0; cases els0
  · rw [z, pc0.mt] at els0; cases els0
  · rintro i v σ G0 G hi ⟨v5, v6, v7, v8, v9, v10, S, dl, rfl, few, R⟩ hy
    rw [List.length_map] at hi
    obtain ⟨q, x, y, rfl, nq, rfl, ex, ey⟩ := hy
    cases ex
    replace ey : (M.map fun x => V.ref x.2)[i]? = some y := ey
    rw [List.getElem?_map] at ey
    obtain ⟨⟨o, qa⟩, em, rfl⟩ := Option.map_eq_some_iff.mp ey
    have hmem := List.mem_of_getElem? em
    obtain ⟨ho, go⟩ := gM _ hmem
    dsimp only at ho go
    have Sq := Same.laid (o := HO.tup [V.int (i : Int), .ref qa]) nq
    refine ⟨q, _, rfl, SqT.of upd_same, rfl, _, _, rfl, _, _, rfl, rfl, ?_⟩
    have R1 := R.same Sq
    generalize upd G0 q (.tup [V.int (i : Int), .ref qa]) = G at *
    clear nq Sq R
    dsimp only [gName, List.set_cons_zero, List.set_cons_succ]
    -- the place hears it
    have ho1 : OdAt G qa o := ho.tups (R1.fr.tups pc0)
    have hw1 := hw0 G R1.fr
    rw [← R1.ad.2.2.2.2.2.1] at hw1
    obtain ⟨dx, g1⟩ := R1.pc.me
    have tm3 := R1.tm
    have ct := R1.ct
    refine ⟨_, rfl, r, dx, _, rfl, g1, pcf_no ⟨by decide +kernel, by decide +kernel, by decide +kernel, by decide +kernel, by decide +kernel, by decide +kernel, by decide +kernel, by decide +kernel, by decide +kernel, by decide +kernel⟩, _, rfl, _, rfl, (i : Int), 3, rfl, rfl, ⟨by decide, by decide⟩, r, S, W, ps, cs, qa, o, (i : Int) / 3, rfl, R1.pc, hw1, ho1, go, by omega, by omega, by omega, (fun c hc => by rw [(free c hc).1]; exact Nat.zero_le _), by omega, by omega, by omega, fun a G1 F1 p1 an => ?_⟩
    dsimp only [gName, List.set_cons_zero, List.set_cons_succ]
    have cd : CDiv (i : Int) 3 := ⟨by decide, by decide⟩
    have ho2 : OdAt G1 qa o := ho1.tups fun q xs e => by
      obtain ⟨n1, n2, n3, n4, n5, n6, n7⟩ := R1.pc.own e
      exact F1 q _ n1 n2 n3 n4 n7 n6 e
    obtain ⟨R2, el⟩ := R1.hear few F1 p1 (by omega) nd okc go free
    have sl : S.sent.length ≤ i := ct.2.1
    have es : (hrd S ((i : Int) / 3) cs o).sent = S.sent := (hrd_is (S := S)).2.2.2.2.2.2.2.2.1
    have et : (hrd S ((i : Int) / 3) cs o).t * 3 ≤ (i : Int) := by
      rcases (hrd_is (S := S) (t := (i : Int) / 3) (cs := cs) (o := o)).2.2.2.2.2.2.2.2.2 with z | z <;> rw [z] <;> omega
    rw [← es] at sl
    have epl : (hrd S ((i : Int) / 3) cs o).pl = S0.pl := R2.ad.2.2.2.2.2.2
    generalize hrd S ((i : Int) / 3) cs o = S1 at *
    clear p1 F1 ho1 es
    rw [← epl] at oks
    refine seq_join (A := tIfS _ _ _) (B := tSeq _ _) (fun σ' Z => (∃ (v8 : Option V) (dl' : Addr), σ' = [some (.ref r), some (.ref ls), some (.int S1.tm), some (.ref md), some (.ref dl'), some (.int (i : Int)), some (.ref qa), some (.ref a), v8, v9, v10] ∧ Rm E H r S0 md (i + 1) Z S1 S1.lw dl')) (fun N' hN => ?_) ?_
    · have nrm : (∃ n, o = .term n) ∨ ∃ id, (o = .back id ∨ ∃ c, o = .act id c) := by
        cases o with
        | term n => exact .inl ⟨n, rfl⟩
        | back i => exact .inr ⟨i, .inl rfl⟩
        | act i c => exact .inr ⟨i, .inr ⟨c, rfl⟩⟩
      obtain ⟨dx1, g2⟩ := R2.pc.me
      rcases nrm with ⟨n, rfl⟩ | ⟨id, hid⟩
      · -- a term alone
        have ho2 : G1 qa = some (.tup [.str "term", .int n]) := ho2
        refine ⟨_, rfl, qa, _, 0, .str "term", rfl, rfl, SqT.of ho2, rfl, rfl, _, rfl, ?_⟩
        rw [show decide (V.str ("term" : Str) = V.str "term") = true from by decide +kernel]
        refine iteT ?_
        refine ⟨_, rfl, _, rfl, qa, _, 1, .int n, rfl, rfl, SqT.of ho2, rfl, S.tm, n, rfl, ?_⟩
        rw [show (if n > S.tm then n else S.tm) = S1.tm from (congrArg Lw.tm el).symm]
        dsimp only [gName, List.set_cons_zero, List.set_cons_succ]
        refine ⟨_, rfl, _, rfl, r, dx1, _, rfl, g2, pcf_no ⟨by decide +kernel, by decide +kernel, by decide +kernel, by decide +kernel, by decide +kernel, by decide +kernel, by decide +kernel, by decide +kernel, by decide +kernel, by decide +kernel⟩, r, S1, rfl, R2.pc, _, rfl, _, rfl, (i : Int), 3, rfl, rfl, cd, by show 4 ≤ sizeLine; decide, fun b nb => ?_⟩
        have Sb := Same.laid (o := HO.tup [V.str "terms", .str S1.pl, .int S1.tm, .int ((i : Int) / 3)]) nb
        have eb : upd G1 b (.tup [V.str "terms", .str S1.pl, .int S1.tm, .int ((i : Int) / 3)]) b = some (.tup [.str "terms", .str S1.pl, .int S1.tm, .int ((i : Int) / 3)]) := upd_same
        generalize upd G1 b (.tup [V.str "terms", .str S1.pl, .int S1.tm, .int ((i : Int) / 3)]) = G2 at *
        have sh := trm_shaped (pl := S1.pl) (tm := S1.tm) (t := (i : Int) / 3) oks
        refine ⟨_, _, trm_dp (Sb _ _ an), trm_dp eb, sh, sh, ?_⟩
        rw [SeqAt.eqv_refl _ (SeqAt.canLay_of_shaped sh)]
        refine ⟨_, rfl, iteF ?_⟩
        exact hN _ _ ⟨_, dl, rfl, (R2.same Sb).law (by rw [el]; rfl) (by rw [el]; rfl)⟩
      · -- an order with an id
        obtain ⟨qi, wd, rs, eq, eqi, nw, hrs⟩ : ∃ qi wd rs, G1 qa = some (.tup (.str wd :: .ref qi :: rs)) ∧ G1 qi = some (.tup (tId id)) ∧ decide (V.str wd = V.str "term") = false ∧ ((rs = [] ∧ wd = "back" ∧ o = .back id) ∨ ∃ c, rs = [.str c] ∧ wd = "do" ∧ o = .act id c) := by
          rcases hid with rfl | ⟨c, rfl⟩
          · obtain ⟨qi, e1, e2⟩ := ho2
            exact ⟨qi, _, _, e1, e2, by decide +kernel, .inl ⟨rfl, rfl, rfl⟩⟩
          · obtain ⟨qi, e1, e2⟩ := ho2
            exact ⟨qi, _, _, e1, e2, by decide +kernel, .inr ⟨c, rfl, rfl, rfl⟩⟩
        obtain ⟨qj, b, ea, ej, lkb⟩ : ∃ qi b, G1 a = some (.tup [.str "answer", .str S1.pl, .ref qi, .str (dw b), .int S1.tm, .int ((i : Int) / 3)]) ∧ G1 qi = some (.tup (tId id)) ∧ lkM S1.met id = some b := by
          rcases hid with rfl | ⟨c, rfl⟩ <;> exact an
        have rl : rs.length ≤ 1 := by
          rcases hrs with ⟨rfl, _⟩ | ⟨c, rfl, _⟩ <;> simp
        refine ⟨_, rfl, qa, _, 0, .str wd, rfl, rfl, SqT.of eq, (by rcases hrs with ⟨rfl, _⟩ | ⟨c, rfl, _⟩ <;> rfl), rfl, _, rfl, ?_⟩
        rw [nw]
        refine iteF ?_
        refine ⟨_, rfl, qa, _, 1, .ref qi, rfl, rfl, SqT.of eq, (by rcases hrs with ⟨rfl, _⟩ | ⟨c, rfl, _⟩ <;> rfl), ?_⟩
        dsimp only [gName, List.set_cons_zero, List.set_cons_succ]
        refine seq_join (A := tIfS _ _ _) (B := tSeq _ _) (fun σ' Z => (∃ (dl' : Addr) (lw' : Lw), σ' = [some (.ref r), some (.ref ls), some (.int S1.tm), some (.ref md), some (.ref dl'), some (.int (i : Int)), some (.ref qa), some (.ref a), some (.ref qi), v9, v10] ∧ Rm E H r S0 md (i + 1) Z S1 lw' dl' ∧ (∀ q xs, G1 q = some (.tup xs) → Z q = some (.tup xs)) ∧ lw'.done = S1.done ∧ (lw'.met = S1.met ∨ (id ∉ lw'.met.map Prod.fst ∧ S1.met = lw'.met ++ [(id, false)])))) (fun N2 hN2 => ?_) ?_
        · rcases hrs with ⟨rfl, rfl, rfl⟩ | ⟨c, rfl, rfl, rfl⟩
          · -- taken back
            refine ⟨_, rfl, qa, _, 0, .str "back", rfl, rfl, SqT.of eq, rfl, rfl, _, rfl, ?_⟩
            rw [show decide (V.str ("back" : Str) = V.str "do") = false from by decide +kernel]
            refine iteF (iteF ?_)
            by_cases hi : id ∈ S.met.map Prod.fst
            · have el : S1.lw = S.lw := el.trans (if_pos hi)
              exact hN2 _ _ ⟨dl, S.lw, by rw [show S1.tm = S.tm from congrArg Lw.tm el], R2, (fun q xs e => e), (congrArg Lw.done el).symm, .inl (congrArg Lw.met el).symm⟩
            · have el : S1.lw = { S.lw with met := S.met ++ [(id, false)] } := el.trans (if_neg hi)
              exact hN2 _ _ ⟨dl, S.lw, by rw [show S1.tm = S.tm from congrArg Lw.tm el], R2, (fun q xs e => e), (congrArg Lw.done el).symm, .inr ⟨hi, congrArg Lw.met el⟩⟩
          · -- a command
            refine ⟨_, rfl, qa, _, 0, .str "do", rfl, rfl, SqT.of eq, rfl, rfl, _, rfl, ?_⟩
            rw [show decide (V.str ("do" : Str) = V.str "do") = true from by decide +kernel]
            refine iteT ?_
            have eg := DGet.t R2.hm (show G1 qi = some (.tup ((kId id).map kV)) from eqi)
            rw [lkM_val] at eg
            refine ⟨_, rfl, _, rfl, md, _, rfl, eg, ?_⟩
            by_cases hi : id ∈ S.met.map Prod.fst
            · have el : S1.lw = S.lw := el.trans (if_pos hi)
              obtain ⟨b', eb'⟩ := lkM_some hi
              rw [show lkM S.lw.met id = some b' from eb']
              refine ⟨_, rfl, iteF ?_⟩
              exact hN2 _ _ ⟨dl, S.lw, by rw [show S1.tm = S.tm from congrArg Lw.tm el], R2, (fun q xs e => e), (congrArg Lw.done el).symm, .inl (congrArg Lw.met el).symm⟩
            · have el : S1.lw = ⟨mx S.tm id.1, S.met ++ [(id, decide (id.1 = mx S.tm id.1))], if decide (id.1 = mx S.tm id.1) = true then S.done ++ [⟨id, c, (i : Int) / 3⟩] else S.done⟩ := el.trans (if_neg hi)
              have etm : S1.tm = mx S.tm id.1 := congrArg Lw.tm el
              rw [← etm] at el
              rw [show lkM S.lw.met id = none from lkM_none hi]
              refine ⟨_, rfl, iteT ?_⟩
              refine ⟨_, rfl, _, rfl, qi, _, 0, .int id.1, rfl, rfl, SqT.of eqi, rfl, S.tm, id.1, rfl, ?_⟩
              rw [show (if id.1 > S.tm then id.1 else S.tm) = S1.tm from etm.symm]
              dsimp only [gName, List.set_cons_zero, List.set_cons_succ]
              refine ⟨_, rfl, qi, _, 0, .int id.1, rfl, rfl, SqT.of eqi, rfl, _, rfl, rfl, ?_⟩
              have ev : decide (V.int id.1 = V.int S1.tm) = decide (id.1 = S1.tm) := by
                by_cases z : id.1 = S1.tm
                · rw [z, decide_eq_true rfl, decide_eq_true rfl]
                · rw [decide_eq_false z, decide_eq_false fun y => z (by injection y)]
              rw [ev]
              have em1 : S1.met = S.met ++ [(id, decide (id.1 = S1.tm))] := congrArg Lw.met el
              have ed1 : S1.done = if decide (id.1 = S1.tm) = true then S.done ++ [⟨id, c, (i : Int) / 3⟩] else S.done := congrArg Lw.done el
              generalize hb0 : decide (id.1 = S1.tm) = b0 at *
              refine ⟨_, rfl, ite_dw ?_⟩
              refine ⟨_, rfl, _, rfl, md, _, rfl, DPut.t R2.hm (show G1 qi = some (.tup ((kId id).map kV)) from eqi) (by have := R2.lc.1; exact Nat.lt_of_le_of_lt (show _ ≤ 51 by unfold metK; rw [List.length_map]; omega) (by decide)), ?_⟩
              rw [putM_new (show id ∉ S.lw.met.map Prod.fst from hi)]
              have emm : metK S.lw.met ++ [(kId id, V.str (dw b0))] = metK S1.met := by
                rw [em1]
                unfold metK
                rw [List.map_append]
                rfl
              rw [emm]
              have R2' := R2.put (m := S1.met) nmd (R2.ct.2.2.1)
              have T2 : ∀ q xs, G1 q = some (.tup xs) → upd G1 md (.dT (metK S1.met)) q = some (.tup xs) := fun q xs e0 => (upd_ne (fun z => by rw [z, R2.hm] at e0; cases e0)).trans e0
              have eq2 := T2 _ _ eq
              have eqi2 := T2 _ _ eqi
              generalize upd G1 md (.dT (metK S1.met)) = G2 at *
              dsimp only [gName, List.set_cons_zero, List.set_cons_succ]
              obtain ⟨vs, edl, dnl⟩ := R2'.hd
              have dnl : Dns G2 vs S.done := dnl
              refine ⟨_, rfl, _, rfl, _, rfl, qa, _, 2, .str c, rfl, rfl, SqT.of eq2, rfl, _, rfl, (i : Int), 3, rfl, rfl, cd, by show 3 ≤ sizeLine; decide, fun tq ntq => ?_⟩
              have V1 := Same.laid (o := HO.tup [V.ref qi, .str c, .int ((i : Int) / 3)]) ntq
              have etq : upd G2 tq (.tup [V.ref qi, .str c, .int ((i : Int) / 3)]) tq = some (.tup [V.ref qi, .str c, .int ((i : Int) / 3)]) := upd_same
              generalize upd G2 tq (.tup [V.ref qi, .str c, .int ((i : Int) / 3)]) = G3 at *
              refine ⟨by show 1 ≤ sizeLine; decide, fun lq nlq => ?_⟩
              have V2 := Same.laid (o := HO.lst [V.ref tq]) nlq
              have elq : upd G3 lq (.lst [V.ref tq]) lq = some (.lst [V.ref tq]) := upd_same
              generalize upd G3 lq (.lst [V.ref tq]) = G4 at *
              have V12 := V1.trans V2
              refine ⟨_, rfl, qi, _, 0, .int id.1, rfl, rfl, SqT.of (V12 _ _ eqi2), rfl, _, rfl, rfl, .inr ⟨b0, by rw [ev], ?_⟩⟩
              refine ⟨lq, _, [.ref tq], rfl, rfl, elq, by cases b0 <;> decide, by cases b0 <;> decide, Nat.le_trans (show _ ≤ 1 by cases b0 <;> exact Nat.le_of_ble_eq_true rfl) (by decide), fun p np => ?_⟩
              rw [dns_flat]
              have V3 := Same.laid (o := HO.lst (if b0 = true then [V.ref tq] else [])) np
              have ep : upd G4 p (.lst (if b0 = true then [V.ref tq] else [])) p = some (.lst (if b0 = true then [V.ref tq] else [])) := upd_same
              generalize upd G4 p (.lst (if b0 = true then [V.ref tq] else [])) = G5 at *
              have V13 := V12.trans V3
              have vl : vs.length ≤ i + 1 := by rw [dnl.length]; exact Nat.le_succ_of_le ct.2.2.2
              refine ⟨dl, p, _, _, rfl, rfl, V13 _ _ edl, ep, ?_, fun dl' ndl' => ?_⟩
              · refine Nat.le_trans (show vs.length + _ ≤ 52 from ?_) (by decide)
                cases b0 <;> simp <;> omega
              have V4 := Same.laid (o := HO.lst (vs ++ if b0 = true then [V.ref tq] else [])) ndl'
              have edl' : upd G5 dl' (.lst (vs ++ if b0 = true then [V.ref tq] else [])) dl' = some (.lst (vs ++ if b0 = true then [V.ref tq] else [])) := upd_same
              have R5 := R2'.same (V13.trans V4)
              have V34 := V3.trans V4
              have nG2 : ∀ {z : Addr}, G2 z ≠ none → dl' ≠ z := fun h e => by
                cases e0 : G2 dl' with
                | none => exact h (e ▸ e0)
                | some o => rw [V13 _ _ e0] at ndl'; cases ndl'
              generalize upd G5 dl' (.lst (vs ++ if b0 = true then [V.ref tq] else [])) = G6 at *
              dsimp only [gName, List.set_cons_zero, List.set_cons_succ]
              have dn6 : Dns G6 (vs ++ if b0 = true then [V.ref tq] else []) S1.done := by
                have d0 := dnl.tups fun q xs e => (V13.trans V4) q _ e
                rw [ed1]
                cases b0 with
                | true => exact d0.snoc ⟨tq, qi, rfl, (V2.trans V34) _ _ etq, (V13.trans V4) _ _ eqi2⟩
                | false => rw [show (if (false : Bool) = true then [V.ref tq] else []) = [] from rfl, List.append_nil]; exact d0
              refine hN2 _ _ ⟨dl', S1.lw, rfl, (R5.list edl' dn6 (R2.ct.2.2.2) ⟨nG2 (R2'.pc.have_ (.inr (.inr (.inr (.inl rfl))))), nG2 (R2'.pc.have_ (.inr (.inr (.inr (.inr (.inl rfl)))))), nG2 (R2'.pc.have_ (.inr (.inr (.inr (.inr (.inr (.inr rfl))))))) ⟩).law rfl rfl, (fun q xs e => (V13.trans V4) _ _ (T2 _ _ e)), rfl, .inl rfl⟩
        rintro σ' Z ⟨dl', lw', rfl, R3, T3, ed, em3⟩
        refine seq_join (B := tIfS _ _ _) (fun σ' Y => σ' = [some (.ref r), some (.ref ls), some (.int S1.tm), some (.ref md), some (.ref dl'), some (.int (i : Int)), some (.ref qa), some (.ref a), some (.ref qi), v9, v10] ∧ Rm E H r S0 md (i + 1) Y S1 S1.lw dl' ∧ ∀ q xs, G1 q = some (.tup xs) → Y q = some (.tup xs)) (fun N3 hN3 => ?_) ?_
        · have lb := R3.lc.1
          refine ⟨_, rfl, md, rfl, .inr ⟨_, .inl R3.hm⟩, _, rfl, metK lw'.met, kId id, qi, R3.hm, rfl, T3 _ _ eqi, Nat.lt_of_le_of_lt (show _ ≤ 51 by unfold metK; rw [List.length_map]; omega) (by decide), fun v hv => ?_, fun hn => ?_⟩
          · rcases em3 with e | ⟨ni, e⟩
            · exact hN3 _ _ ⟨rfl, R3.law e.symm ed.symm, T3⟩
            · rw [lkM_val, lkM_none ni] at hv
              cases hv
          · rcases em3 with e | ⟨ni, e⟩
            · rw [lkM_val, e, lkb] at hn
              cases hn
            · rw [putM_new ni]
              have em : metK lw'.met ++ [(kId id, V.str "refused")] = metK S1.met := by
                rw [e]
                unfold metK
                rw [List.map_append]
                rfl
              rw [em]
              refine hN3 _ _ ⟨rfl, (R3.put (m := S1.met) nmd (R3.ct.2.2.1)).law rfl ed.symm, fun q xs e0 => (upd_ne (fun z => ?_)).trans (T3 q xs e0)⟩
              have := T3 q xs e0
              rw [z, R3.hm] at this
              cases this
        rintro σ' Y ⟨rfl, R4, T4⟩
        have eg := DGet.t R4.hm (show Y qi = some (.tup ((kId id).map kV)) from T4 _ _ eqi)
        rw [lkM_val, show lkM S1.lw.met id = some b from lkb] at eg
        obtain ⟨dx4, g4⟩ := R4.pc.me
        refine ⟨_, rfl, _, rfl, r, dx4, _, rfl, g4, pcf_no ⟨by decide +kernel, by decide +kernel, by decide +kernel, by decide +kernel, by decide +kernel, by decide +kernel, by decide +kernel, by decide +kernel, by decide +kernel, by decide +kernel⟩, r, S1, rfl, R4.pc, _, rfl, _, rfl, _, rfl, _, _, rfl, eg, _, rfl, _, rfl, (i : Int), 3, rfl, rfl, cd, by show 6 ≤ sizeLine; decide, fun u nu => ?_⟩
        have Su := Same.laid (o := HO.tup [V.str "answer", .str S1.pl, .ref qi, .str (dw b), .int S1.tm, .int ((i : Int) / 3)]) nu
        have eu : upd Y u (.tup [V.str "answer", .str S1.pl, .ref qi, .str (dw b), .int S1.tm, .int ((i : Int) / 3)]) u = some (.tup [.str "answer", .str S1.pl, .ref qi, .str (dw b), .int S1.tm, .int ((i : Int) / 3)]) := upd_same
        generalize upd Y u (.tup [V.str "answer", .str S1.pl, .ref qi, .str (dw b), .int S1.tm, .int ((i : Int) / 3)]) = Y1 at *
        have sh := ans_shaped (pl := S1.pl) (tm := S1.tm) (t := (i : Int) / 3) (i := id) (b := b) oks
        refine ⟨_, _, ans_dp (Su _ _ (T4 _ _ ea)) (Su _ _ (T4 _ _ ej)), ans_dp eu (Su _ _ (T4 _ _ eqi)), sh, sh, ?_⟩
        rw [SeqAt.eqv_refl _ (SeqAt.canLay_of_shaped sh)]
        refine ⟨_, rfl, iteF ?_⟩
        exact hN _ _ ⟨_, dl', rfl, R4.same Su⟩
    rintro σ' Z ⟨w8, dl', rfl, R3⟩
    -- term, done, met as the law has them
    obtain ⟨dx3, g3⟩ := R3.pc.me
    refine ⟨_, rfl, r, dx3, _, rfl, g3, pcf_no ⟨by decide +kernel, by decide +kernel, by decide +kernel, by decide +kernel, by decide +kernel, by decide +kernel, by decide +kernel, by decide +kernel, by decide +kernel, by decide +kernel⟩, r, S1, rfl, R3.pc, _, rfl, rfl, _, rfl, ?_⟩
    rw [decide_eq_true rfl]
    refine iteF ?_
    refine ⟨_, rfl, r, dx3, _, rfl, g3, pcf_no ⟨by decide +kernel, by decide +kernel, by decide +kernel, by decide +kernel, by decide +kernel, by decide +kernel, by decide +kernel, by decide +kernel, by decide +kernel, by decide +kernel⟩, r, S1, rfl, R3.pc, fun l us Z1 SA nl el1 dns => ?_⟩
    have R4 := R3.same SA
    clear R3 g3 nl SA
    obtain ⟨vs, edl, dnl⟩ := R4.hd
    have dnl : Dns Z1 vs S1.done := dnl
    have shd := dn_shaped R4.nmo
    refine ⟨_, rfl, _, _, .lst (SqL.of el1) (dns_dp dns), .lst (SqL.of edl) (dns_dp dnl), shd, shd, ?_⟩
    rw [SeqAt.eqv_refl _ (SeqAt.canLay_of_shaped shd)]
    refine ⟨_, rfl, iteF ?_⟩
    obtain ⟨dx4, g4⟩ := R4.pc.me
    have c4 := R4.ct.2.2.1
    refine ⟨_, rfl, r, dx4, _, rfl, g4, pcf_no ⟨by decide +kernel, by decide +kernel, by decide +kernel, by decide +kernel, by decide +kernel, by decide +kernel, by decide +kernel, by decide +kernel, by decide +kernel, by decide +kernel⟩, r, S1, rfl, R4.pc, by omega, fun d Z2 SB nd2 ed2 => ?_⟩
    refine ⟨.inr (.inr (.inl ⟨rfl, .inr ⟨_, ed2⟩⟩)), d, _, rfl, rfl, ed2, fun iv niv => ?_⟩
    have SI := Same.laid (o := L2.DX.itemsO iv d) niv
    have ei : upd Z2 iv (L2.DX.itemsO iv d) iv = some (L2.DX.itemsO iv d) := upd_same
    have R5 := (R4.same SB).same SI
    generalize upd Z2 iv (L2.DX.itemsO iv d) = Z3 at *
    refine ⟨iv, d, metK S1.met, rfl, ei, SI _ _ ed2, fun Z4 l1 ts1 bs1 SC nl1 el1 lt1 lb1 hb1 ht1 => ?_⟩
    have R6 := R5.same SC
    refine ⟨_, rfl, .inr (.inr (.inl ⟨rfl, .inr ⟨_, R6.hm⟩⟩)), md, _, rfl, rfl, R6.hm, fun iw niw => ?_⟩
    have SJ := Same.laid (o := L2.DX.itemsO iw md) niw
    have ej : upd Z4 iw (L2.DX.itemsO iw md) iw = some (L2.DX.itemsO iw md) := upd_same
    have R7 := R6.same SJ
    generalize upd Z4 iw (L2.DX.itemsO iw md) = Z5 at *
    refine ⟨iw, md, metK S1.met, rfl, ej, R7.hm, fun Z6 l2 ts2 bs2 SD nl2 el2 lt2 lb2 hb2 ht2 => ?_⟩
    have R8 := R7.same SD
    have SJD := SJ.trans SD
    have ml : (metK S1.met).length = S1.met.length := by unfold metK; rw [List.length_map]
    have shm := mt_shaped (ds := S1.met)
    refine ⟨.list (S1.met.map dMt), .list (S1.met.map dMt), .lst (SqL.of (SJD _ _ el1)) (mts_dp (lt1.trans ml) (lb1.trans ml) (fun i b e => ?_) (fun i t e => ?_)), .lst (SqL.of el2) (mts_dp (lt2.trans ml) (lb2.trans ml) (fun i b e => ?_) (fun i t e => ?_)), shm, shm, ?_⟩
    · obtain ⟨kv, e1, e2⟩ := hb1 i b e
      exact ⟨kv, e1, (SC.trans SJD) _ _ e2⟩
    · obtain ⟨b, kv, e1, e2, e3⟩ := ht1 i t e
      exact ⟨b, kv, e1, e2, SJD _ _ e3⟩
    · obtain ⟨kv, e1, e2⟩ := hb2 i b e
      exact ⟨kv, e1, SD _ _ e2⟩
    · exact ht2 i t e
    rw [SeqAt.eqv_refl _ (SeqAt.canLay_of_shaped shm)]
    refine ⟨_, rfl, iteF ?_⟩
    clear ht1 hb1 ht2 hb2 SI ei ej SJ SC SD
    -- more than nine wait: a letter is sent
    obtain ⟨dx8, g8⟩ := R8.pc.me
    refine ⟨_, rfl, r, dx8, _, rfl, g8, pcf_no ⟨by decide +kernel, by decide +kernel, by decide +kernel, by decide +kernel, by decide +kernel, by decide +kernel, by decide +kernel, by decide +kernel, by decide +kernel, by decide +kernel⟩, r, S1, rfl, R8.pc, fun lw uw Z7 SW nlw elw alw => ?_⟩
    have R9 := R8.same SW
    have wl9 := alw.length
    have wt9 := R9.ct.1
    clear R4 R5 R6 R7 R8 g8
    obtain ⟨dx9, g9⟩ := R9.pc.me
    refine ⟨lw, uw, rfl, .inl (SqL.of elw), _, 9, rfl, rfl, _, rfl, ?_⟩
    by_cases c9 : (9 : Int) < (uw.length : Int)
    · rw [show decide ((9 : Int) < (uw.length : Int)) = true from decide_eq_true c9]
      refine iteT ?_
      refine ⟨_, rfl, r, dx9, _, rfl, g9, pcf_no ⟨by decide +kernel, by decide +kernel, by decide +kernel, by decide +kernel, by decide +kernel, by decide +kernel, by decide +kernel, by decide +kernel, by decide +kernel, by decide +kernel⟩, _, rfl, (i : Int), 3, rfl, rfl, cd, r, S1, (i : Int) / 3, rfl, R9.pc, by omega, by omega, by omega, by omega, by omega, fun q wl' Z8 F8 lt nwl p8 => ?_⟩
      exact ⟨_, _, _, _, _, _, { S1 with t := (i : Int) / 3, wl := wl', wt := [], sent := S1.sent ++ [q] }, dl', rfl, Nat.zero_le _, R9.send F8 nwl sl (by omega) p8⟩
    · rw [show decide ((9 : Int) < (uw.length : Int)) = false from decide_eq_false c9]
      exact iteF ⟨_, _, _, _, _, _, S1, dl', rfl, by omega, R9⟩
  · rintro σ G ⟨v5, v6, v7, v8, v9, v10, S, dl, rfl, few, R⟩
    obtain ⟨vs, ed, dn⟩ := R.hd
    rw [List.length_map] at R
    have dn : Dns G vs S.done := dn
    have dl50 : S.done.length ≤ 50 := Nat.le_trans R.ct.2.2.2 M50
    have vl := dn.length
    refine ⟨_, rfl, dl, rfl, ⟨_, SqL.of ed⟩, fun D nD => ?_⟩
    have SD := Same.laid (o := HO.lst []) nD
    have Ddl : dl ≠ D := ne_of_none ed nD
    have nt : ∀ {q : Addr} {o : HO}, G q = some o → q ≠ D := fun e => ne_of_none e nD
    refine lc_it (walk_list (K := K) (a := dl) (xs := vs)) (fun i G' => (∀ q o, q ≠ D → G q = some o → G' q = some o) ∧ G' D = some (.lst (((S.done.take i).map fun d => d.id.1).map V.int))) ⟨fun q o _ e => SD _ _ e, upd_same⟩ (fun i G' _ h => SqL.of (h.1 _ _ Ddl ed)) ?_ ?_
    · rintro i v G0 G' hi ⟨S2, eD⟩ ⟨rfl, hx⟩
      obtain ⟨d, hd, a, q, rfl, e1, e2⟩ := dn.get hx
      refine ⟨rfl, ?_⟩
      unfold tYes
      refine iteT ?_
      refine ⟨_, rfl, a, _, 0, .ref q, rfl, rfl, SqT.of (S2 _ _ (nt e1) e1), rfl, q, _, 0, .int d.id.1, rfl, rfl, SqT.of (S2 _ _ (nt e2) e2), rfl, ?_⟩
      refine ⟨_, eD, Nat.lt_of_le_of_lt (show _ ≤ 50 by rw [List.length_map, List.length_map, List.length_take]; omega) (by decide), fun q o n e => (upd_ne n).trans (S2 q o n e), ?_⟩
      rw [upd_same, List.take_add_one, hd, List.map_append, List.map_append]
      rfl
    rintro G' ⟨S2, eD⟩
    rw [List.take_of_length_le (by omega)] at eD
    dsimp only [gName, List.set_cons_zero, List.set_cons_succ]
    refine ⟨_, rfl, _, rfl, D, _, rfl, SqL.of eD, fun ns' o hp hs no => ?_⟩
    obtain rfl := sorted_eq hp hs R.ri.up
    have U3 := Same.laid (o := HO.lst ((S.done.map fun d => d.id.1).map V.int)) no
    refine ⟨.list ((S.done.map fun d => d.id.1).map .int), .list ((S.done.map fun d => d.id.1).map .int), .lst (SqL.of (U3 _ _ eD)) (dp_intsL _), .lst (SqL.of upd_same) (dp_intsL _), shaped_ints _, shaped_ints _, ?_⟩
    have ev : PyData.eqv (.list ((S.done.map fun d => d.id.1).map .int)) (.list ((S.done.map fun d => d.id.1).map .int)) = true := by
      simp only [PyData.eqv]
      exact eqvAll_ints _
    rw [ev]
    refine k _ fun q o n1 n2 n3 n4 n5 n6 n7 e => U3 _ _ ?_
    have := R.fr q o n1 n2 n3 n4 n5 n6 n7 e
    exact S2 _ _ (nt this) this
end
end V59

set_option maxHeartbeats 8000000
namespace V59
open PySem PySem.Spec PyProof.Rows L2 Pw
/-! ### the law -/
abbrev spWc (K : PySem.W.Frag) (C : Addr) : Sp := spInitW K C fP Pt.nm fC Cm.nm (spNone K) (spNone2 K) (spCmds K) (spNone K)
abbrev gC (d1 d2 d4 : Addr) : List V → List V → List V := fun vs zs => vs ++ [V.ref d1, .ref d2] ++ zs ++ [V.ref d4]
theorem sqT_butL {K : PySem.W.Frag} {H H' : Hp} {p a : Addr} {xs us : List V} (h : SqT K H a xs) (er : H p = some (.lst us)) (B : But p H H') : SqT K H' a xs := by
  refine h.imp (fun q => ?_) id
  rcases q with e | ⟨o, e⟩
  · exact .inl (B.at (fun z => by rw [z, er] at e; cases e) e)
  · exact .inr ⟨o, B.at (fun z => by rw [z, er] at e; cases e) e⟩
/-- a list changes: the works stay -/
theorem WkC.butL {K : PySem.W.Frag} {C p x : Addr} {H H' : Hp} {us : List V} {W : Wks} {ps : List Pt} {cs : List Cm} (h : WkC K C H x W ps cs) (er : H p = some (.lst us)) (B : But p H H') : WkC K C H' x W ps cs := by
  obtain ⟨dx', tp, dp, tr, dr, tc, tm, dm, tl, e0, e1, e2, e3, e4, e5, e6, e7, e8⟩ := h.wm.wp.wo.ex
  have t : ∀ q xs, H q = some (.tup xs) → H' q = some (.tup xs) := fun q xs e => B.at (fun z => by rw [z, er] at e; cases e) e
  have d : ∀ {q : Addr} {kv : List (Key × V)}, H q = some (.dK kv) → H' q = some (.dK kv) := fun e => B.at (fun z => by rw [z, er] at e; cases e) e
  have n0 : x ≠ p := fun z => by rw [z, er] at e0; cases e0
  refine ⟨⟨⟨⟨dx', tp, dp, tr, dr, tc, tm, dm, tl, B.at n0 e0, sqT_butL e1 er B, d e2, sqT_butL e3 er B, d e4, sqT_butL e5 er B, sqT_butL e6 er B, d e7, sqT_butL e8 er B⟩, h.wm.wp.ks, h.wm.wp.al.imp t, h.wm.wp.g⟩, h.wm.km, h.wm.len, h.wm.nd, h.wm.ok⟩, h.al.imp t, fun c hc => ?_⟩
  obtain ⟨vs, e, al⟩ := h.lk c hc
  exact ⟨vs, t _ _ e, al.imp t⟩
/-- a new place -/
theorem mkPc {K : PySem.W.Frag} {C E x pP dx : Addr} {XA : Hp} {W : Wks} {ps : List Pt} {pl : Str} {R : VK} (hW : WoP K C XA x W ps) (on : OkName pl) (hin : pl ∈ ps.map Pt.pl) (n1 : XA pP = none) (n2 : XA dx = none) (ne : dx ≠ pP)
    (q : ∀ S X', PcAt E X' pP S → S.wa = x ∧ S.pl = pl ∧ S.t = 0 ∧ S.tm = 0 ∧ S.st = st0 ps pl ∧ S.wt = [] ∧ S.sent = [] ∧ S.met = [] ∧ S.done = [] → Same XA X' → (∀ z, (z = pP ∨ z = S.wD ∨ z = S.mD ∨ z = S.wl ∨ z = S.sl ∨ z = S.md ∨ z = S.dn) → XA z = none) → R .non X') :
    spPcInit C E K [.ref pP, .ref x, .str pl] (upd (upd XA dx (.own pP)) pP (.ins E dx [])) R E0 := by
  have U1 := Same.laid (o := HO.own pP) n2
  have n1' : upd XA dx (.own pP) pP = none := (upd_ne ne.symm).trans n1
  have U2 := Same.laid (o := HO.ins E dx []) n1'
  refine ⟨pP, dx, x, W, ps, pl, rfl, upd_same, hW.same (U1.trans U2), on, hin, fun wD mD wl sl md dn X' pc F m1 m2 m3 m4 m5 m6 => ?_⟩
  have no : ∀ {z : Addr}, upd (upd XA dx (.own pP)) pP (.ins E dx []) z = none → XA z = none := fun h => Same.no (U1.trans U2) h
  refine q ⟨x, pl, 0, 0, wD, mD, wl, sl, md, dn, st0 ps pl, [], [], [], []⟩ X' pc ⟨rfl, rfl, rfl, rfl, rfl, rfl, rfl, rfl, rfl⟩ (fun b o e => F b o (ne_of_none e n1) ((U1.trans U2) b o e)) ?_
  rintro z (rfl | rfl | rfl | rfl | rfl | rfl | rfl)
  · exact n1
  · exact no m1
  · exact no m2
  · exact no m3
  · exact no m4
  · exact no m5
  · exact no m6
/-- another place stays where one alone changes -/
theorem PcAt.rfr {E r r1 : Addr} {H H' : Hp} {S S1 : Pl} (pc : PcAt E H r S) (p1 : PcAt E H r1 S1) (F : RFr H H' r1 S1) (ne : ∀ z, (z = r ∨ z = S.wD ∨ z = S.mD ∨ z = S.wl ∨ z = S.sl ∨ z = S.md ∨ z = S.dn) → ¬ (z = r1 ∨ z = S1.wD ∨ z = S1.mD ∨ z = S1.wl ∨ z = S1.sl ∨ z = S1.md ∨ z = S1.dn)) : PcAt E H' r S := by
  have go : ∀ q o, ¬ (q = r1 ∨ q = S1.wD ∨ q = S1.mD ∨ q = S1.wl ∨ q = S1.sl ∨ q = S1.md ∨ q = S1.dn) → H q = some o → H' q = some o := fun q o n e => by
    simp only [not_or] at n
    obtain ⟨a, b, c, d, f, g, i⟩ := n
    exact F q o a b c d f g i e
  refine pc.frame (fun q o h e => go q o (ne q ?_) e) (F.tups p1)
  rcases h with h | h | h | h | h | h | h
  · exact .inl h
  · exact .inr (.inl h)
  · exact .inr (.inr (.inl h))
  · exact .inr (.inr (.inr (.inl h)))
  · exact .inr (.inr (.inr (.inr (.inl h))))
  · exact .inr (.inr (.inr (.inr (.inr (.inl h)))))
  · exact .inr (.inr (.inr (.inr (.inr (.inr h)))))
/-- what is none of the place's stays -/
theorem RFr.at {r : Addr} {H H' : Hp} {S : Pl} (F : RFr H H' r S) {q : Addr} {o : HO} (n : ¬ (q = r ∨ q = S.wD ∨ q = S.mD ∨ q = S.wl ∨ q = S.sl ∨ q = S.md ∨ q = S.dn)) (e : H q = some o) : H' q = some o := by
  simp only [not_or] at n
  obtain ⟨a, b, c, d, f, g, i⟩ := n
  exact F q o a b c d f g i e
def w3 : List Str := ["go", "halt", "x"]
theorem w3_ok : ∀ s ∈ w3, OkName s := by
  intro s hs
  simp only [w3, List.mem_cons, List.not_mem_nil, or_false] at hs
  rcases hs with rfl | rfl | rfl
  · exact ⟨by decide +kernel, fun z e => by cases e; decide +kernel⟩
  · exact ⟨by decide +kernel, fun z e => by cases e; decide +kernel⟩
  · exact ⟨by decide +kernel, fun z e => by cases e; decide +kernel⟩
/-- the three commands, without locks -/
def c3 (nm : Str) (t1 t2 t3 : Addr) : List Cm := [⟨"go", nm, 1, [], t1⟩, ⟨"halt", nm, 0, [], t2⟩, ⟨"x", nm, 1, [], t3⟩]
section
variable {P : Program} {w : World} {K : PySem.W.Frag} {mg : Str → Option Value} {base : Heap} {C E d1 d2 d3 d4 : Addr}
def spLaw (K : PySem.W.Frag) : Sp := fun vs H Q _ => ∃ (a : Addr) (ns : List Int), vs = [.ref a] ∧ SqL K H a (ns.map V.int) ∧ ns.length ≤ 63 ∧ ∀ H', Q (.bl true) H'
theorem ok_law {f : Addr} {fd : FuncData} (F0 : Fun K "law" "law" sLaw f fd) (T : Txt mg)
    (dWc : MadeK P w K mg base "Works" C 14 ["self", "points", "rules", "causes", "commands", "relations"] 1 ["commands"] (gC d1 d2 d4) (spWc K C))
    (hd1 : ∀ H, SqT K H d1 []) (hd2 : ∀ H, SqT K H d2 []) (hd4 : ∀ H, SqT K H d4 [])
    (dPc : DefI P w K mg base "Place" E 4 ["self", "works", "name"] (spPcInit C E K))
    (dCell : Def P w K mg base "_law_cell" 1 ["_law_script", "_law_k"] (spCell K)) (dBox : Def P w K mg base "_law_box" 1 ["_law_cell_here"] (spBox K))
    (dt : Def P w K mg base "_law_take" 1 ["_law_box_here", "_law_many"] (spTake K)) (dN : Def P w K mg base "_law_names" 2 ["_law_box_here", "_law_many"] (spNames K))
    (dP : Def P w K mg base "_law_points" 2 ["_law_box_here", "_law_names_here", "_law_levels"] (spPtsL K)) (dM : Def P w K mg base "_law_mixed" 2 ["_law_box_here", "_law_some"] (spMixed K)) (dL : Def P w K mg base "_law_letters" 2 ["_law_box_here", "_law_orders"] (spLL K)) (dRo : Def P w K mg base "_law_road" 3 ["_law_box_here", "_law_rows"] (spRoad K))
    (dRi : Def P w K mg base "_law_right" 8 ["_law_place", "_law_letters_here"] (spRight C E K)) : FnG P w K mg base CX0 16 f fd ["_law_script"] (spLaw K) := by
  refine okG F0 scLaw (fun vs H Q E ⟨_, _, e, _⟩ => by rw [e]; rfl) (fun cdv A0 out s H vs Q X gd hr h => ?_)
  obtain ⟨a, ns, rfl, hS, hlen, k⟩ := h
  refine ⟨_, (pss_cons (ps_for PassesOwn.never rfl (pi_range1 (by rfl) T.range (pa_cons (pe_callB (call_max2 rfl) (by rfl) T.max PyProof.Rows.boot_max (pa_cons pe_int (pa_cons (pe_callB (call_min2 rfl) (by rfl) T.min PyProof.Rows.boot_min (pa_cons pe_int (pa_cons (pe_callB call_len_seq (by rfl) T.len PySem.boot_len (pa_cons (pv 0) pa_nil)) pa_nil))) pa_nil))) pa_nil)) (pg_name (i := 1) scLaw.nd rfl (.inl rfl))
      (pss_cons (ps_set (i := 2) scLaw.nd rfl (.inl rfl) (pe_d dBox hr (by decide) (by rfl) (pa_cons (pe_d dCell hr (by decide) (by rfl) (pa_cons (pv 0) (pa_cons (pv 1) pa_nil))) pa_nil)))
      (pss_cons (ps_set (i := 3) scLaw.nd rfl (.inl rfl) (pe_d dP hr (by decide) (by rfl) (pa_cons (pv 2) (pa_cons (pe_d dN hr (by decide) (by rfl) (pa_cons (pv 2) (pa_cons (pe_op op_add pe_int (pe_d dt hr (by decide) (by rfl) (pa_cons (pv 2) (pa_cons pe_int pa_nil)))) pa_nil))) (pa_cons pe_int pa_nil)))))
      (pss_cons (ps_asg (pe_ix ix_list (pv 3) (pe_d dt hr (by decide) (by rfl) (pa_cons (pv 2) (pa_cons (pe_callB call_len_seq (by rfl) T.len PySem.boot_len (pa_cons (pv 3) pa_nil)) pa_nil))) (fun _ _ => rfl)) (pg_tup (by rfl) (pgs_cons (pg_name (i := 4) scLaw.nd rfl (.inl rfl)) (pgs_cons (pg_name (i := 5) scLaw.nd rfl (.inl rfl)) (pgs_cons (pg_name (i := 6) scLaw.nd rfl (.inl rfl)) pgs_nil)))))
      (pss_cons (ps_set (i := 7) scLaw.nd rfl (.inl rfl) (pe_lst (pa_cons (pe_tup (pa_cons pe_str (pa_cons (pv 4) (pa_cons pe_int (pa_cons (pe_tup pa_nil) pa_nil))))) (pa_cons (pe_tup (pa_cons pe_str (pa_cons (pv 4) (pa_cons pe_int (pa_cons (pe_tup pa_nil) pa_nil))))) (pa_cons (pe_tup (pa_cons pe_str (pa_cons (pv 4) (pa_cons pe_int (pa_cons (pe_tup pa_nil) pa_nil))))) pa_nil)))))
      (pss_cons (ps_set (i := 8) scLaw.nd rfl (.inl rfl) (pe_mk dWc hr (by decide) (by rfl) (pa_cons (pv 3) pa_nil) (pk_cons (pv 7) pk_nil)))
      (pss_cons (ps_set (i := 9) scLaw.nd rfl (.inl rfl) (pe_d dL hr (by decide) (by rfl) (pa_cons (pv 2) (pa_cons (pv 7) pa_nil))))
      (pss_cons (ps_set (i := 10) scLaw.nd rfl (.inl rfl) (pe_lst (pa_cons (pe_mi dPc hr (by decide) (by rfl) (pa_cons (pv 8) (pa_cons (pv 5) pa_nil))) (pa_cons (pe_mi dPc hr (by decide) (by rfl) (pa_cons (pv 8) (pa_cons (pv 5) pa_nil))) pa_nil))))
      (pss_cons (ps_set (i := 11) scLaw.nd rfl (.inl rfl) (pe_d dRo hr (by decide) (by rfl) (pa_cons (pv 2) (pa_cons (pv 9) pa_nil))))
      (pss_one (ps_if (PW.pt (pw_or (pt_not (pt_val (pe_d dRi hr (by decide) (by rfl) (pa_cons (pe_ix ix_list (pv 10) pe_int (fun _ _ => rfl)) (pa_cons (pv 11) pa_nil))))) (pw_or1 (pt_not (pt_val (pe_d dRi hr (by decide) (by rfl) (pa_cons (pe_ix ix_list (pv 10) pe_int (fun _ _ => rfl)) (pa_cons (pe_d dM hr (by decide) (by rfl) (pa_cons (pv 2) (pa_cons (pv 11) pa_nil))) pa_nil))))))))
        (pss_one (ps_ret pe_bl))
        pss_nil)))))))))))
    (pss_one (ps_ret pe_bl))), ?_⟩
  refine ⟨_, rfl, a, _, rfl, .inl hS, 4, _, rfl, 2, _, rfl, ?_⟩
  rw [List.length_map]
  obtain ⟨mm, em, hm⟩ : ∃ mm : Nat, (if (if (ns.length : Int) < (4 : Int) then (ns.length : Int) else (4 : Int)) > (2 : Int) then (if (ns.length : Int) < (4 : Int) then (ns.length : Int) else (4 : Int)) else 2) = (mm : Int) ∧ mm ≤ 4 := by
    by_cases h1 : (ns.length : Int) < (4 : Int)
    · rw [if_pos h1]
      by_cases h2 : (ns.length : Int) > (2 : Int)
      · exact ⟨ns.length, by rw [if_pos h2], by omega⟩
      · exact ⟨2, by rw [if_neg h2]; rfl, by omega⟩
    · exact ⟨4, by rw [if_neg h1]; rfl, by omega⟩
  rw [em]
  refine ⟨(mm : Int), rfl, by omega, by omega, ?_⟩
  refine for_it (walk_range (lo := 0) (n := mm)) (fun i σ X => (∃ v1 v2 v3 v4 v5 v6 v7 v8 v9 v10 v11 : Option V, σ = [some (.ref a), v1, v2, v3, v4, v5, v6, v7, v8, v9, v10, v11]) ∧ Same H X) ⟨⟨_, _, _, _, _, _, _, _, _, _, _, rfl⟩, Same.refl _⟩ (fun _ _ _ _ _ => trivial) ?_ (fun σ X h => k X)
  rintro i v σ X0 X hi ⟨⟨v1, v2, v3, v4, v5, v6, v7, v8, v9, v10, v11, rfl⟩, SX⟩ ⟨rfl, rfl⟩
  dsimp only [gName, List.set_cons_zero, List.set_cons_succ]
  refine ⟨_, rfl, _, rfl, a, ns, 0 + (i : Int), rfl, Same.seq SX hS, hlen, by omega, by omega, fun c => ⟨c, rfl, fun p X1 np S1 hb1 => ?_⟩⟩
  dsimp only [gName, List.set_cons_zero, List.set_cons_succ]
  -- the points
  refine ⟨_, rfl, _, rfl, _, rfl, p, 4, 0, rfl, hb1, by decide, by decide, by decide, fun j X2 j0 j4 hb2 B2 => ?_⟩
  refine ⟨1, j, rfl, rfl, p, 1 + j, _, rfl, by omega, by omega, hb2, by decide, fun N X3 css nN Np hb3 B3 eN cl nd good => ?_⟩
  refine ⟨p, N, 4, _, css, rfl, hb3, by decide, Np, eN, nd, good, by omega, by omega, fun b X4 ps nb bp hb4 B4 hP gp pl => ?_⟩
  dsimp only [gName, List.set_cons_zero, List.set_cons_succ]
  have B14 : But p X1 X4 := B2.trans (B3.trans B4)
  clear B2 B3 B4 hb2 hb3
  obtain ⟨xp, eP, alp⟩ := hP.ex
  have plen := alp.length
  have p1 := gp.pos
  have p8 := gp.len
  -- one of them
  refine ⟨_, rfl, _, rfl, _, rfl, b, _, rfl, .inl (SqL.of eP), p, _, _, rfl, hb4, by decide, by omega, Int.lt_of_le_of_lt (show (xp.length : Int) ≤ 8 by omega) (by decide), fun j' X5 j0' jn hb5 B5 => ?_⟩
  obtain ⟨kk, rfl⟩ := Int.eq_ofNat_of_zero_le j0'
  have eP5 := B5.at bp eP
  have alp5 := Al.but alp hb4 B5
  obtain ⟨vv, hv⟩ : ∃ vv, xp[kk]? = some vv := ⟨_, List.getElem?_eq_getElem (by omega)⟩
  obtain ⟨qq, pt, rfl, hpt, eqq⟩ := alp5.get hv
  have hmem := List.mem_of_getElem? hpt
  refine ⟨b, _, (kk : Int), .ref qq, rfl, rfl, SqL.of eP5, atI_nat hv, ?_⟩
  refine ⟨qq, _, rfl, SqT.of eqq, rfl, _, _, rfl, _, _, rfl, _, _, rfl, rfl, ?_⟩
  dsimp only [gName, List.set_cons_zero, List.set_cons_succ]
  have B15 : But p X1 X5 := B14.trans B5
  clear B14 B5 hb4 hP eP alp
  -- three commands
  refine ⟨_, rfl, by show 0 ≤ sizeLine; decide, fun t1 nt1 => ?_⟩
  have V1 := Same.laid (o := HO.tup []) nt1
  have et1 : upd X5 t1 (.tup []) t1 = some (.tup []) := upd_same
  generalize upd X5 t1 (.tup []) = Y1 at *
  refine ⟨by show 4 ≤ sizeLine; decide, fun o1 no1 => ?_⟩
  have W1 := Same.laid (o := HO.tup [V.str "go", .str pt.nm, .int 1, .ref t1]) no1
  have eo1 : upd Y1 o1 (.tup [V.str "go", .str pt.nm, .int 1, .ref t1]) o1 = some (.tup [V.str "go", .str pt.nm, .int 1, .ref t1]) := upd_same
  generalize upd Y1 o1 (.tup [V.str "go", .str pt.nm, .int 1, .ref t1]) = Y2 at *
  refine ⟨_, rfl, by show 0 ≤ sizeLine; decide, fun t2 nt2 => ?_⟩
  have V2 := Same.laid (o := HO.tup []) nt2
  have et2 : upd Y2 t2 (.tup []) t2 = some (.tup []) := upd_same
  generalize upd Y2 t2 (.tup []) = Y3 at *
  refine ⟨by show 4 ≤ sizeLine; decide, fun o2 no2 => ?_⟩
  have W2 := Same.laid (o := HO.tup [V.str "halt", .str pt.nm, .int 0, .ref t2]) no2
  have eo2 : upd Y3 o2 (.tup [V.str "halt", .str pt.nm, .int 0, .ref t2]) o2 = some (.tup [V.str "halt", .str pt.nm, .int 0, .ref t2]) := upd_same
  generalize upd Y3 o2 (.tup [V.str "halt", .str pt.nm, .int 0, .ref t2]) = Y4 at *
  refine ⟨_, rfl, by show 0 ≤ sizeLine; decide, fun t3 nt3 => ?_⟩
  have V3 := Same.laid (o := HO.tup []) nt3
  have et3 : upd Y4 t3 (.tup []) t3 = some (.tup []) := upd_same
  generalize upd Y4 t3 (.tup []) = Y5 at *
  refine ⟨by show 4 ≤ sizeLine; decide, fun o3 no3 => ?_⟩
  have W3 := Same.laid (o := HO.tup [V.str "x", .str pt.nm, .int 1, .ref t3]) no3
  have eo3 : upd Y5 o3 (.tup [V.str "x", .str pt.nm, .int 1, .ref t3]) o3 = some (.tup [V.str "x", .str pt.nm, .int 1, .ref t3]) := upd_same
  generalize upd Y5 o3 (.tup [V.str "x", .str pt.nm, .int 1, .ref t3]) = Y6 at *
  refine ⟨by show 3 ≤ sizeLine; decide, fun F nF => ?_⟩
  have W4 := Same.laid (o := HO.lst [V.ref o1, .ref o2, .ref o3]) nF
  have eF : upd Y6 F (.lst [V.ref o1, .ref o2, .ref o3]) F = some (.lst [V.ref o1, .ref o2, .ref o3]) := upd_same
  generalize upd Y6 F (.lst [V.ref o1, .ref o2, .ref o3]) = X6 at *
  dsimp only [gName, List.set_cons_zero, List.set_cons_succ]
  have S56 : Same X5 X6 := V1.trans (W1.trans (V2.trans (W2.trans (V3.trans (W3.trans W4)))))
  have lk : ∀ c ∈ c3 pt.nm t1 t2 t3, LkT X6 c := by
    intro c hc
    simp only [c3, List.mem_cons, List.not_mem_nil, or_false] at hc
    rcases hc with rfl | rfl | rfl
    · exact ⟨[], (W1.trans (V2.trans (W2.trans (V3.trans (W3.trans W4))))) _ _ et1, .nil⟩
    · exact ⟨[], (W2.trans (V3.trans (W3.trans W4))) _ _ et2, .nil⟩
    · exact ⟨[], (W3.trans W4) _ _ et3, .nil⟩
  have alc : Al fC X6 [.ref o1, .ref o2, .ref o3] (c3 pt.nm t1 t2 t3) :=
    .cons ((V2.trans (W2.trans (V3.trans (W3.trans W4)))) _ _ eo1) (.cons ((V3.trans (W3.trans W4)) _ _ eo2) (.cons (W4 _ _ eo3) .nil))
  have cnd : ((c3 pt.nm t1 t2 t3).map Cm.nm).Nodup := by
    show (w3 : List Str).Nodup
    decide +kernel
  have gc : ∀ c ∈ c3 pt.nm t1 t2 t3, GoodC ps c := by
    intro c hc
    have hi : (1 : Int) ≤ hiP pt := by unfold hiP; split <;> decide
    have h0 : (0 : Int) ≤ hiP pt := Int.le_trans (by decide) hi
    simp only [c3, List.mem_cons, List.not_mem_nil, or_false] at hc
    rcases hc with rfl | rfl | rfl
    · exact ⟨w3_ok _ (by simp [w3]), Nat.zero_le _, pt, hmem, rfl, (by show (0 : Int) ≤ 1; decide), hi, fun l h => by cases h⟩
    · exact ⟨w3_ok _ (by simp [w3]), Nat.zero_le _, pt, hmem, rfl, (by show (0 : Int) ≤ 0; decide), h0, fun l h => by cases h⟩
    · exact ⟨w3_ok _ (by simp [w3]), Nat.zero_le _, pt, hmem, rfl, (by show (0 : Int) ≤ 1; decide), hi, fun l h => by cases h⟩
  have c1 : 1 ≤ (c3 pt.nm t1 t2 t3).length := by show 1 ≤ 3; decide
  have c4 : (c3 pt.nm t1 t2 t3).length ≤ 4 := by show 3 ≤ 4; decide
  have free : ∀ c ∈ c3 pt.nm t1 t2 t3, c.lks = [] ∧ c.pt = pt.nm := by
    intro c hc
    simp only [c3, List.mem_cons, List.not_mem_nil, or_false] at hc
    rcases hc with rfl | rfl | rfl <;> exact ⟨rfl, rfl⟩
  generalize c3 pt.nm t1 t2 t3 = cs at *
  have Fp : F ≠ p := (hb5.keep (V1.trans (W1.trans (V2.trans (W2.trans (V3.trans W3)))))).ne nF
  clear V1 W1 V2 W2 V3 W3 W4 et1 et2 et3 eo1 eo2 eo3
  have eP6 := S56 _ _ eP5
  have alp6 := alp5.same S56
  have hb6 := hb5.keep S56
  -- the works
  refine ⟨_, rfl, _, rfl, rfl, rfl, fun x dx nx ndx nex => ?_⟩
  have U1 := Same.laid (o := HO.own x) ndx
  have nx1 : upd X6 dx (.own x) x = none := (upd_ne nex.symm).trans nx
  have U2 := Same.laid (o := HO.ins C dx []) nx1
  have ex : upd (upd X6 dx (.own x)) x (.ins C dx []) x = some (.ins C dx []) := upd_same
  have S67 : Same X6 (upd (upd X6 dx (.own x)) x (.ins C dx [])) := U1.trans U2
  generalize upd (upd X6 dx (.own x)) x (.ins C dx []) = X7 at *
  refine ⟨x, b, d1, d2, F, d4, dx, xp, [], [], [.ref o1, .ref o2, .ref o3], [], ps, [], cs, rfl, ex, .inl (SqL.of (S67 _ _ eP6)), alp6.same S67, gp, .inr (hd1 _), .nil, .nil, by decide, .inr (hd2 _), .inl (SqL.of (S67 _ _ eF)), alc.same S67, cnd, by omega, .inr (hd4 _),
    (fun d H1 Q1 Fr h k => ⟨d1, .ref d, rfl, .inr (hd1 _), k⟩), (fun d H1 Q1 Fr h k => ⟨d2, d, rfl, .inr (hd2 _), h, k⟩), (fun d H1 Q1 Fr h k => ?_), (fun d H1 Q1 Fr h k => ⟨d4, .ref d, rfl, .inr (hd4 _), k⟩), fun X8 hwo F8 => ⟨rfl, ?_⟩⟩
  · exact ⟨F, d, _, cs, ps, xp, rfl, Fr.sq ex (.inl (SqL.of (S67 _ _ eF))), Fr.al ex (alc.same S67), fun c hc => (by
      obtain ⟨vs, e, al⟩ := (lk c hc).same S67
      have t : ∀ q xs, X7 q = some (.tup xs) → H1 q = some (.tup xs) := fun q xs e => Fr _ _ (fun z => by rw [z, ex] at e; cases e) e
      exact ⟨vs, t _ _ e, al.imp t⟩), gc, cnd, gp, c4, h, Fr.al ex (alp6.same S67), k⟩
  have S68 : Same X6 X8 := fun q o e => F8 q o (ne_of_none e nx) (S67 _ _ e)
  have hb8 := hb6.keep S68
  have hW8 : WkC K C X8 x _ ps cs := ⟨⟨⟨hwo, rfl, alp6.same S68, gp⟩, rfl, alc.length.symm, cnd, fun c hc => (gc c hc).nm⟩, alc.same S68, fun c hc => (lk c hc).same S68⟩
  dsimp only [gName, List.set_cons_zero, List.set_cons_succ]
  -- the letters
  have eF8 := S68 _ _ eF
  refine ⟨_, rfl, _, rfl, p, F, _, cs, _, rfl, hb8, by decide, Fp, eF8, alc.same S68, c1, by omega, fun A fs Ls X9 nA hb9 B9 eA nfs two gLs s25 => ?_⟩
  dsimp only [gName, List.set_cons_zero, List.set_cons_succ]
  obtain ⟨us8, eb8⟩ := hb8.lst
  obtain ⟨us9, eb9⟩ := hb9.lst
  obtain ⟨Wk, hW9⟩ : ∃ Wk, WkC K C X9 x Wk ps cs := ⟨_, hW8.butL eb8 B9⟩
  have Ap : A ≠ p := ne_of_none eb8 nA |>.symm
  have fsp : ∀ q ∈ fs, q ≠ p := fun q hq => (ne_of_none eb8 (nfs q hq)).symm
  have B19 : But p X1 X9 := B15.trans ((Same.but (S56.trans S68)).trans B9)
  clear B9 eb8 us8 hb8 hW8 eF8 eP5 eP6 alp5 alp6 hb5 hb6 hwo F8 U1 U2 S67 nx1
  -- two places
  have gpt := gp.all pt hmem
  have hin : pt.pl ∈ ps.map Pt.pl := List.mem_map.mpr ⟨pt, hmem, rfl⟩
  refine ⟨_, rfl, _, rfl, fun r1 e1 n1 m1 ne1 => mkPc hW9.wm.wp gpt.pl hin n1 m1 ne1 fun P1 X10 pc1 is1 S10 own1 => ⟨rfl, ?_⟩⟩
  refine ⟨_, rfl, _, rfl, fun r2 e2 n2 m2 ne2 => mkPc (hW9.wm.wp.same S10) gpt.pl hin n2 m2 ne2 fun P2 X11 pc2 is2 S11 own2 => ⟨rfl, ?_⟩⟩
  refine ⟨by show 2 ≤ sizeLine; decide, fun G nG => ?_⟩
  have S12 := Same.laid (o := HO.lst [V.ref r1, .ref r2]) nG
  have eG : upd X11 G (.lst [V.ref r1, .ref r2]) G = some (.lst [V.ref r1, .ref r2]) := upd_same
  generalize upd X11 G (.lst [V.ref r1, .ref r2]) = X12 at *
  dsimp only [gName, List.set_cons_zero, List.set_cons_succ]
  have S9 : Same X9 X12 := S10.trans (S11.trans S12)
  have pc1' := pc1.same (S11.trans S12)
  have pc2' := pc2.same S12
  have hb12 := hb9.keep S9
  have Gp : G ≠ p := fun z => by rw [z, (S10.trans S11) _ _ eb9] at nG; cases nG
  -- the road
  refine ⟨_, rfl, _, rfl, p, A, fs, Ls, _, rfl, hb12, by omega, Ap, S9 _ _ eA, ⟨two.f2, two.l2, two.nd, fun j q L a b => S9 _ _ (two.at_ j q L a b), fun L hL z hz => (two.od L hL z hz).same S9⟩, fsp, s25, fun R M X13 nR hb13 B13 eR M50 inM => ?_⟩
  dsimp only [gName, List.set_cons_zero, List.set_cons_succ]
  have eb12 := S9 _ _ eb9
  have nt : ∀ xs, X12 p ≠ some (.tup xs) := fun xs z => by rw [eb12] at z; cases z
  have f1 : ∀ {z : Addr} {o : HO}, X9 z = some o → ¬ (z = r1 ∨ z = P1.wD ∨ z = P1.mD ∨ z = P1.wl ∨ z = P1.sl ∨ z = P1.md ∨ z = P1.dn) := fun e h => by rw [own1 _ h] at e; cases e
  have f2 : ∀ {z : Addr} {o : HO}, X10 z = some o → ¬ (z = r2 ∨ z = P2.wD ∨ z = P2.mD ∨ z = P2.wl ∨ z = P2.sl ∨ z = P2.md ∨ z = P2.dn) := fun e h => by rw [own2 _ h] at e; cases e
  have p13 := pc1'.but B13 nt (f1 eb9)
  have p23 := pc2'.but B13 nt (f2 (S10 _ _ eb9))
  have eG13 := B13.at Gp eG
  have keep13 : ∀ q o, q ≠ p → X9 q = some o → X13 q = some o := fun q o n e => B13.at n (S9 _ _ e)
  have od13 : ∀ z ∈ M, OdAt X13 z.2 z.1 ∧ GoodOd cs z.1 := fun z hz => by
    obtain ⟨L, hL, hz'⟩ := inM z hz
    exact ⟨(two.od L hL z hz').tups fun q xs e => keep13 q _ (fun w => by rw [w, eb9] at e; cases e) e, gLs L hL z hz'⟩
  have hw13 : ∀ H', (∀ q o, q ≠ p → X9 q = some o → H' q = some o) → WkC K C H' x Wk ps cs := fun H' F => hW9.butL eb9 (But.of F)
  have st_in : ∀ {S : Pl}, S.st = st0 ps pt.pl → ∀ c ∈ cs, c.lks = [] ∧ c.pt ∈ S.st.map Ps.nm := fun e c hc => by
    obtain ⟨l1, l2⟩ := free c hc
    refine ⟨l1, ?_⟩
    rw [e, st0_nm, l2]
    exact List.mem_map.mpr ⟨pt, List.mem_filter.mpr ⟨hmem, decide_eq_true rfl⟩, rfl⟩
  obtain ⟨a1, a2, a3, a4, a5, a6, a7, a8, a9⟩ := is1
  obtain ⟨c1', c2', c3', c4', c5', c6', c7', c8', c9'⟩ := is2
  have nRe : ∀ {z : Addr}, X12 z ≠ none → R ≠ z := fun h e => h (e ▸ nR)
  have R1n : ¬ (R = r1 ∨ R = P1.wD ∨ R = P1.mD ∨ R = P1.wl ∨ R = P1.sl ∨ R = P1.md ∨ R = P1.dn) := fun h => pc1'.have_ h nR
  -- the first place
  refine ⟨_, rfl, G, _, 0, .ref r1, rfl, rfl, SqL.of eG13, rfl, _, rfl, r1, P1, Wk, ps, cs, R, M, rfl, p13, fun H' F => ?_, eR, M50, od13, fun z => R1n (.inr (.inr (.inr (.inl z)))), fun z => R1n (.inr (.inr (.inr (.inr (.inl z))))), fun z => R1n (.inr (.inr (.inr (.inr (.inr (.inr z)))))), st_in a5, a3, a4, a6, a7, a8, a9, by rw [a2]; exact okN0 gpt.pl, fun X14 F14 => ?_⟩
  · rw [a1]
    exact hw13 H' fun q o n e => F.at (f1 e) (keep13 q o n e)
  refine ⟨_, rfl, iteF ?_⟩
  obtain ⟨b0, b1, b2, eb13, hbr⟩ := hb13
  have hb14 : BoxAt X14 p _ := ⟨b0, b1, b2, F14.at (f1 eb9) eb13, hbr⟩
  have eR14 := F14.at R1n eR
  have Rp : R ≠ p := (ne_of_none eb12 nR).symm
  have G1n : ¬ (G = r1 ∨ G = P1.wD ∨ G = P1.mD ∨ G = P1.wl ∨ G = P1.sl ∨ G = P1.md ∨ G = P1.dn) := fun h => pc1.have_ h (Same.no S11 nG)
  have eG14 := F14.at G1n eG13
  have p24 := p23.rfr p13 F14 fun z h1 h2 => pc1.have_ h2 (own2 z h1)
  have keep14 : ∀ q o, q ≠ p → X9 q = some o → X14 q = some o := fun q o n e => F14.at (f1 e) (keep13 q o n e)
  have eb14 := F14.at (f1 eb9) eb13
  -- the second
  refine ⟨_, rfl, G, _, 1, .ref r2, rfl, rfl, SqL.of eG14, rfl, _, rfl, _, rfl, p, R, _, _, rfl, hb14, by omega, Rp, eR14, by rw [List.length_map]; exact M50, fun Y X15 ys nY Yp hb15 B15' eY hp => ?_⟩
  obtain ⟨ms, hms, rfl⟩ := perm_map_inv hp
  have p25 := p24.but B15' (fun xs z => by rw [eb14] at z; cases z) (f2 (S10 _ _ eb9))
  have Y2n : ¬ (Y = r2 ∨ Y = P2.wD ∨ Y = P2.mD ∨ Y = P2.wl ∨ Y = P2.sl ∨ Y = P2.md ∨ Y = P2.dn) := fun h => p24.have_ h nY
  have keep15 : ∀ q o, q ≠ p → X9 q = some o → X15 q = some o := fun q o n e => B15'.at n (keep14 q o n e)
  refine ⟨r2, P2, Wk, ps, cs, Y, ms, rfl, p25, fun H' F => ?_, eY, by rw [hms.length_eq]; exact M50, fun z hz => ?_, fun z => Y2n (.inr (.inr (.inr (.inl z)))), fun z => Y2n (.inr (.inr (.inr (.inr (.inl z))))), fun z => Y2n (.inr (.inr (.inr (.inr (.inr (.inr z)))))), st_in c5', c3', c4', c6', c7', c8', c9', by rw [c2']; exact okN0 gpt.pl, fun X16 F16 => ?_⟩
  · rw [c1']
    exact hw13 H' fun q o n e => F.at (f2 (S10 _ _ e)) (keep15 q o n e)
  · have hz := hms.mem_iff.mp hz
    obtain ⟨L, hL, hz'⟩ := inM z hz
    exact ⟨(two.od L hL z hz').tups fun q xs e => keep15 q _ (fun w => by rw [w, eb9] at e; cases e) e, gLs L hL z hz'⟩
  refine ⟨_, rfl, iteF ⟨⟨_, _, _, _, _, _, _, _, _, _, _, rfl⟩, fun q o e => ?_⟩⟩
  have e1 := SX _ _ e
  have qp : q ≠ p := fun z => by rw [z, np] at e1; cases e1
  have e9 := B19.at qp (S1 _ _ e1)
  exact F16.at (f2 (S10 _ _ e9)) (keep15 q o qp e9)
end
end V59

namespace V59
open PySem PySem.Spec PyProof.Rows L2 Pw
theorem vals_drop : ∀ {xs : List V} {us : List Value} (n : Nat), Vals xs us → Vals (xs.drop n) (us.drop n)
  | _, _, 0, h => h
  | _, _, n + 1, .nil => .nil
  | _, _, n + 1, .cons _ t => vals_drop n t
theorem kbC {K : PySem.W.Frag} {d1 d2 d3 d4 f : Addr} {fd : FuncData} (F : FunD K "__init__" "Works.__init__" (defArgs mWorks_Init) (defBody mWorks_Init) (defScope mWorks_Init) [] [("rules", .ref d1), ("causes", .ref d2), ("commands", .ref d3), ("relations", .ref d4)] f fd) :
    ∃ g, KBn K fd ["self", "points", "rules", "causes", "commands", "relations"] 2 ["commands"] g (gC d1 d2 d4) := by
  obtain ⟨mv, h⟩ := kbn_of (ms := [("rules", .ref d1), ("causes", .ref d2), ("relations", .ref d4)]) (ps := ["self", "points", "rules", "causes", "commands", "relations"]) (ks := ["commands"]) (n := 2) F (fun us mv ws => us ++ mv.take 2 ++ ws ++ mv.drop 2) (by simp) (fun q h => by
      simp only [List.mem_cons, List.not_mem_nil, or_false] at h ⊢
      rcases h with h | h | h <;> simp [h])
    (fun h1 h2 h3 => ((h1.append (h2.take 2)).append h3).append (vals_drop 2 h2)) (fun D doc pm an cdv ct us mv ws l1 l2 l3 => by
      match us, mv, ws, l1, l2, l3 with
      | [a, b], [c, d, e], [g], _, _, _ =>
        exact ⟨_, _, _, _, _, _, rfl, rfl, _, _, _, _, _, _, rfl, rfl, _, _, _, _, _, _, rfl, rfl, rfl⟩)
  exact ⟨_, h⟩
-- END defs: Number=_is_number Check=_check_number Whole=is_whole Name=is_name Time=is_time OneOf=is_one_of Tuple=is_tuple List=is_list ListOf=is_list_of Level=is_level Term=is_term Id=is_id Order=is_order PointS=is_point_shape Once=_check_each_once ByName=by_name Points=check_points Rules=check_rules RuleS=is_rule_shape Causes=check_causes CauseS=is_cause_shape Leads=_leads_to_itself Commands=check_commands CommandS=is_command_shape LockS=is_lock_shape WorthOf=is_worth_of Locks=_check_locks Relations=check_relations RelS=is_relation_shape PtsRel=points_of_relation WorksC=check_works PlaceC=check_place TimeC=check_time Beyond=is_beyond LockH=lock_holds Cell=_law_cell Box=_law_box Take=_law_take LNames=_law_names LPoints=_law_points LMixed=_law_mixed LLetters=_law_letters LRoad=_law_road Right=_law_right
theorem fin {P : Program} {w : World} {K : PySem.W.Frag} {mg : Str → Option Value} {fa C E fi fp d1 d2 d3 d4 : Addr} {fdi fdp : FuncData} (hfa : mg "law" = some (.ref fa)) (T : Txt mg) (W : WoC K C) (Wq : WoQ K C) (hC : mg "Works" = some (.ref C))
    (M : Mk K C fi) (FI : FunD K "__init__" "Works.__init__" (defArgs mWorks_Init) (defBody mWorks_Init) (defScope mWorks_Init) [] [("rules", .ref d1), ("causes", .ref d2), ("commands", .ref d3), ("relations", .ref d4)] fi fdi)
    (hd1 : ∀ H, SqT K H d1 []) (hd2 : ∀ H, SqT K H d2 []) (hd3 : ∀ H, SqT K H d3 []) (hd4 : ∀ H, SqT K H d4 [])
    (Wp : PcC K E) (hE : mg "Place" = some (.ref E)) (Mp : Mk K E fp) (FP : Fun K "__init__" "Place.__init__" mPlace_Init fp fdp)
    (mPlaces : AtMt K C "places" "Works.places" mWorks_Places)
    (mPtsAt : AtMt K C "points_at" "Works.points_at" mWorks_PointsAt)
    (mHasPl : AtMt K C "has_place" "Works.has_place" mWorks_HasPlace)
    (mHasC : AtMt K C "has_command" "Works.has_command" mWorks_HasCommand)
    (mCmd : AtMt K C "command" "Works.command" mWorks_Command)
    (pCome : AtMt K E "_come_to" "Place._come_to" mPlace_ComeTo)
    (pNote : AtMt K E "_note" "Place._note" mPlace_Note)
    (pSend : AtMt K E "send" "Place.send" mPlace_Send)
    (pWait : AtMt K E "waiting" "Place.waiting" mPlace_Waiting)
    (pDone : AtMt K E "done" "Place.done" mPlace_Done)
    (pPNm : AtMt K E "name" "Place.name" mPlace_Name)
    (pPTm : AtMt K E "term" "Place.term" mPlace_Term)
    (pMay : AtMt K E "_may_do" "Place._may_do" mPlace_MayDo)
    (pMeet : AtMt K E "_meet" "Place._meet" mPlace_Meet)
    (pHears : AtMt K E "hears" "Place.hears" mPlace_Hears)
    (pMet : AtMt K E "met" "Place.met" mPlace_Met)
    (aNumber : At K mg "_is_number" sIsNumber)
    (aCheck : At K mg "_check_number" sCheckNumber)
    (aWhole : At K mg "is_whole" sIsWhole)
    (aName : At K mg "is_name" sIsName)
    (aTime : At K mg "is_time" sIsTime)
    (aOneOf : At K mg "is_one_of" sIsOneOf)
    (aTuple : At K mg "is_tuple" sIsTuple)
    (aList : At K mg "is_list" sIsList)
    (aListOf : At K mg "is_list_of" sIsListOf)
    (aLevel : At K mg "is_level" sIsLevel)
    (aTerm : At K mg "is_term" sIsTerm)
    (aId : At K mg "is_id" sIsId)
    (aOrder : At K mg "is_order" sIsOrder)
    (aPointS : At K mg "is_point_shape" sIsPointShape)
    (aOnce : At K mg "_check_each_once" sCheckEachOnce)
    (aByName : At K mg "by_name" sByName)
    (aPoints : At K mg "check_points" sCheckPoints)
    (aRules : At K mg "check_rules" sCheckRules)
    (aRuleS : At K mg "is_rule_shape" sIsRuleShape)
    (aCauses : At K mg "check_causes" sCheckCauses)
    (aCauseS : At K mg "is_cause_shape" sIsCauseShape)
    (aLeads : At K mg "_leads_to_itself" sLeadsToItself)
    (aCommands : At K mg "check_commands" sCheckCommands)
    (aCommandS : At K mg "is_command_shape" sIsCommandShape)
    (aLockS : At K mg "is_lock_shape" sIsLockShape)
    (aWorthOf : At K mg "is_worth_of" sIsWorthOf)
    (aLocks : At K mg "_check_locks" sCheckLocks)
    (aRelations : At K mg "check_relations" sCheckRelations)
    (aRelS : At K mg "is_relation_shape" sIsRelationShape)
    (aPtsRel : At K mg "points_of_relation" sPointsOfRelation)
    (aWorksC : At K mg "check_works" sCheckWorks)
    (aPlaceC : At K mg "check_place" sCheckPlace)
    (aTimeC : At K mg "check_time" sCheckTime)
    (aBeyond : At K mg "is_beyond" sIsBeyond)
    (aLockH : At K mg "lock_holds" sLockHolds)
    (aCell : At K mg "_law_cell" sLawCell)
    (aBox : At K mg "_law_box" sLawBox)
    (aTake : At K mg "_law_take" sLawTake)
    (aLNames : At K mg "_law_names" sLawNames)
    (aLPoints : At K mg "_law_points" sLawPoints)
    (aLMixed : At K mg "_law_mixed" sLawMixed)
    (aLLetters : At K mg "_law_letters" sLawLetters)
    (aLRoad : At K mg "_law_road" sLawRoad)
    (aRight : At K mg "_law_right" sLawRight)
    (aLaw : At K mg "law" sLaw) :
    ∃ fd : FuncData, (∀ (s : Shared) (v : Value), BindsTo s fd ⟨[v], []⟩ [("_law_script", v)]) ∧
      ∀ base : Heap, K.In base → base.Ns mainGlobals mg → FnG P w K mg base CX0 16 fa fd ["_law_script"] (spLaw K) := by
  obtain ⟨f, fd, F, m⟩ := aLaw.ex
  cases hfa.symm.trans m
  have F' := F
  obtain ⟨oc, od, kV, doc, pm, an, cdv, ct, osl, rfl, lk, hcd⟩ := F.ex
  refine ⟨PySem.W.fnOf "law" "law" (defArgs sLaw) (defBody sLaw) (defScope sLaw) .none kV doc pm an cdv ct, fun s v => .of_eq rfl, fun base _ _ => ?_⟩
  have dNumber : Def P w K mg base "_is_number" 1 ["thing"] (spNumber K) := d_number T aNumber
  have dCheck := d_check aCheck dNumber
  have dWhole := d_whole aWhole dNumber dCheck
  have dTuple : Def P w K mg base "is_tuple" 1 ["thing", "many"] (spTupN K) := d_tuple T aTuple
  have dOne : Def P w K mg base "is_one_of" 1 ["thing", "words"] (spOne K) := d_oneof T aOneOf
  have dName : Def P w K mg base "is_name" 1 ["thing"] (spName K) := d_name T aName
  have dTime := d_time T aTime dWhole
  have dList : Def P w K mg base "is_list" 1 ["thing", "least", "most"] (spList K) := d_list T aList
  have dPS := d_pointS aPointS dTuple dName dOne
  have dPts := d_points T aPoints aListOf dList dPS (d_once T aOnce)
  have dR0 := d_rules0 T aRules aRuleS aListOf dList
  have dC0 := d_causes0 T aCauses aCauseS aLeads aListOf dList
  have dL0 := d_relations0 T aRelations aRelS aPtsRel aOnce aListOf dList
  have dLv := d_level T aLevel dWhole
  have dLk := d_lockS aLockS dTuple dName dOne dLv
  have dCS := d_cmdS T aCommandS dTuple dName dLv aListOf dList dLk
  have dWO := d_worthOf T aWorthOf dWhole
  have dCm := d_cmds T aCommands aListOf dList dCS dWO (d_cLocks T aLocks)
  obtain ⟨g, hg⟩ := kbC FI
  have dWc : MadeK P w K mg base "Works" C 14 ["self", "points", "rules", "causes", "commands", "relations"] 1 ["commands"] (gC d1 d2 d4) (spWc K C) :=
    ⟨fi, fdi, g, hC, M, hg, ok_initW T W FI dPts (fun f nm => d_byName aByName) dR0 dC0 (by decide) dCm (by decide) dL0 (fun r => ⟨_, rfl⟩) (fun r => ⟨_, rfl⟩)⟩
  have ePl := d_places (P := P) (w := w) (base := base) T W mPlaces
  have eHPl := d_hasPl W mHasPl dName ePl
  have ePA := d_ptsAt W mPtsAt eHPl
  have dWC := d_worksC (P := P) (w := w) (base := base) T W Wq hC aWorksC
  have dCT := d_chkT aTimeC dTime
  have dCPl := d_chkPl W aPlaceC eHPl
  have dTe := d_term T aTerm dWhole
  have dId := d_id T aId dTuple dTe dWhole
  have eHC := d_hasC W mHasC dName
  have dOr := d_order W aOrder dWC dTuple dId eHC dTe
  have eCmd := d_cmd W mCmd eHC
  have dLH := d_lkh (P := P) (w := w) (K := K) (base := base) aLockH (d_bey aBeyond)
  have dt : Def P w K mg base "_law_take" 1 ["_law_box_here", "_law_many"] (spTake K) := d_take aTake
  have dMx := d_mixed T aLMixed dt
  have pCo := d_come (P := P) (w := w) (mg := mg) (base := base) Wp pCome
  have pNo := d_note (P := P) (w := w) (mg := mg) (base := base) Wp pNote
  have pSe := d_send T Wp pSend dCT pCo
  have pWa := d_waiting (P := P) (w := w) (base := base) T Wp pWait
  have pDo := d_done (P := P) (w := w) (base := base) T Wp pDone
  have pNa := d_pname (P := P) (w := w) (mg := mg) (base := base) Wp pPNm
  have pTe := d_pterm (P := P) (w := w) (mg := mg) (base := base) Wp pPTm
  have pMa := d_may T Wp W pMay eCmd dLH
  have pMe := d_meet T Wp W pMeet eCmd pMa pNo
  have pHe := d_hears T Wp W pHears dOr dCT pCo pMe
  have pMt := d_met (P := P) (w := w) (mg := mg) (base := base) Wp pMet
  have dPc := d_pcInit Wp W hE Mp FP dWC dCPl ePA
  have dRi := d_right T Wp aRight pHe pNa pTe pDo pMt pWa pSe
  exact ok_law F' T dWc hd1 hd2 hd4 dPc (d_cell T aCell) (d_box T aBox) dt (d_names T aLNames dt) (d_ptsL T aLPoints dt) dMx (d_ll T aLLetters dt) (d_road T aLRoad dt dMx) dRi
end V59

namespace V59
open PySem PySem.Spec PyProof.Rows L2 Pw
theorem facts {P : Program} {w : World} {K : PySem.W.Frag} {h : Heap} {mg : Str → Option Value} {f : Addr} (X : K.In h) (G : h.Ns mainGlobals mg) (hfa : mg ("law" : Str) = some (.ref f)) (c : SaysB fb fn K) :
    ∃ fd : FuncData, (∀ (s : Shared) (v : Value), BindsTo s fd ⟨[v], []⟩ [("_law_script", v)]) ∧ ∀ base : Heap, K.In base → base.Ns mainGlobals mg → FnG P w K mg base CX0 16 f fd ["_law_script"] (spLaw K) := by
  have z_KeyError : PySem.W.nsIn K mainGlobals "KeyError" = some none := He.eqO_ok (c.fact (f := (He.Fa.free "KeyError").ok) 0 rfl)
  have z_LookupError : PySem.W.nsIn K mainGlobals "LookupError" = some none := He.eqO_ok (c.fact (f := (He.Fa.free "LookupError").ok) 1 rfl)
  have z_ValueError : PySem.W.nsIn K mainGlobals "ValueError" = some none := He.eqO_ok (c.fact (f := (He.Fa.free "ValueError").ok) 2 rfl)
  have z_all : PySem.W.nsIn K mainGlobals "all" = some none := He.eqO_ok (c.fact (f := (He.Fa.free "all").ok) 3 rfl)
  have z_bool : PySem.W.nsIn K mainGlobals "bool" = some none := He.eqO_ok (c.fact (f := (He.Fa.free "bool").ok) 4 rfl)
  have z_enumerate : PySem.W.nsIn K mainGlobals "enumerate" = some none := He.eqO_ok (c.fact (f := (He.Fa.free "enumerate").ok) 5 rfl)
  have z_int : PySem.W.nsIn K mainGlobals "int" = some none := He.eqO_ok (c.fact (f := (He.Fa.free "int").ok) 6 rfl)
  have z_isinstance : PySem.W.nsIn K mainGlobals "isinstance" = some none := He.eqO_ok (c.fact (f := (He.Fa.free "isinstance").ok) 7 rfl)
  have z_len : PySem.W.nsIn K mainGlobals "len" = some none := He.eqO_ok (c.fact (f := (He.Fa.free "len").ok) 8 rfl)
  have z_list : PySem.W.nsIn K mainGlobals "list" = some none := He.eqO_ok (c.fact (f := (He.Fa.free "list").ok) 9 rfl)
  have z_max : PySem.W.nsIn K mainGlobals "max" = some none := He.eqO_ok (c.fact (f := (He.Fa.free "max").ok) 10 rfl)
  have z_min : PySem.W.nsIn K mainGlobals "min" = some none := He.eqO_ok (c.fact (f := (He.Fa.free "min").ok) 11 rfl)
  have z_range : PySem.W.nsIn K mainGlobals "range" = some none := He.eqO_ok (c.fact (f := (He.Fa.free "range").ok) 12 rfl)
  have z_sorted : PySem.W.nsIn K mainGlobals "sorted" = some none := He.eqO_ok (c.fact (f := (He.Fa.free "sorted").ok) 13 rfl)
  have z_str : PySem.W.nsIn K mainGlobals "str" = some none := He.eqO_ok (c.fact (f := (He.Fa.free "str").ok) 14 rfl)
  have z_sum : PySem.W.nsIn K mainGlobals "sum" = some none := He.eqO_ok (c.fact (f := (He.Fa.free "sum").ok) 15 rfl)
  have z_tuple : PySem.W.nsIn K mainGlobals "tuple" = some none := He.eqO_ok (c.fact (f := (He.Fa.free "tuple").ok) 16 rfl)
  have T : Txt mg :=
    {KeyError := PySem.W.mg_none_of X G z_KeyError, LookupError := PySem.W.mg_none_of X G z_LookupError, ValueError := PySem.W.mg_none_of X G z_ValueError, all := PySem.W.mg_none_of X G z_all, bool := PySem.W.mg_none_of X G z_bool, enumerate := PySem.W.mg_none_of X G z_enumerate, int := PySem.W.mg_none_of X G z_int, isinstance := PySem.W.mg_none_of X G z_isinstance, len := PySem.W.mg_none_of X G z_len, list := PySem.W.mg_none_of X G z_list, max := PySem.W.mg_none_of X G z_max, min := PySem.W.mg_none_of X G z_min, range := PySem.W.mg_none_of X G z_range, sorted := PySem.W.mg_none_of X G z_sorted, str := PySem.W.mg_none_of X G z_str, sum := PySem.W.mg_none_of X G z_sum, tuple := PySem.W.mg_none_of X G z_tuple, cMOST_TIME := He.int_ok X G (c.fact (f := (He.Fa.int "MOST_TIME" 9999).ok) 17 rfl), cMOST_LEVEL := He.int_ok X G (c.fact (f := (He.Fa.int "MOST_LEVEL" 63).ok) 18 rfl), cMOST_TERM := He.int_ok X G (c.fact (f := (He.Fa.int "MOST_TERM" 999).ok) 19 rfl), c_MOST_NAME := He.int_ok X G (c.fact (f := (He.Fa.int "_MOST_NAME" 8).ok) 20 rfl), c_MOST_ID := He.int_ok X G (c.fact (f := (He.Fa.int "_MOST_ID" 999).ok) 21 rfl), c_MOST_LOCKS := He.int_ok X G (c.fact (f := (He.Fa.int "_MOST_LOCKS" 4).ok) 22 rfl), c_MOST_PARTS := He.int_ok X G (c.fact (f := (He.Fa.int "_MOST_PARTS" 3).ok) 23 rfl), c_MOST_HOLD := He.int_ok X G (c.fact (f := (He.Fa.int "_MOST_HOLD" 99).ok) 24 rfl), c_MOST_RANK := He.int_ok X G (c.fact (f := (He.Fa.int "_MOST_RANK" 3).ok) 25 rfl), c_MOST_WITHIN := He.int_ok X G (c.fact (f := (He.Fa.int "_MOST_WITHIN" 999).ok) 26 rfl), c_MOST_PLACES := He.int_ok X G (c.fact (f := (He.Fa.int "_MOST_PLACES" 3).ok) 27 rfl), c_MOST_POINTS := He.int_ok X G (c.fact (f := (He.Fa.int "_MOST_POINTS" 8).ok) 28 rfl), c_MOST_RULES := He.int_ok X G (c.fact (f := (He.Fa.int "_MOST_RULES" 6).ok) 29 rfl), c_MOST_CAUSES := He.int_ok X G (c.fact (f := (He.Fa.int "_MOST_CAUSES" 8).ok) 30 rfl), c_MOST_COMMANDS := He.int_ok X G (c.fact (f := (He.Fa.int "_MOST_COMMANDS" 4).ok) 31 rfl), c_MOST_RELATIONS := He.int_ok X G (c.fact (f := (He.Fa.int "_MOST_RELATIONS" 5).ok) 32 rfl)}
  have aNumber : At K mg "_is_number" sIsNumber := atOf X G (c.fact (f := (He.Fa.glo "_is_number").ok) 33 rfl) (c.def_ (d := dfN "_is_number" sIsNumber) 0 rfl)
  have aCheck : At K mg "_check_number" sCheckNumber := atOf X G (c.fact (f := (He.Fa.glo "_check_number").ok) 34 rfl) (c.def_ (d := dfN "_check_number" sCheckNumber) 1 rfl)
  have aWhole : At K mg "is_whole" sIsWhole := atOf X G (c.fact (f := (He.Fa.glo "is_whole").ok) 35 rfl) (c.def_ (d := dfN "is_whole" sIsWhole) 2 rfl)
  have aName : At K mg "is_name" sIsName := atOf X G (c.fact (f := (He.Fa.glo "is_name").ok) 36 rfl) (c.def_ (d := dfN "is_name" sIsName) 3 rfl)
  have aTime : At K mg "is_time" sIsTime := atOf X G (c.fact (f := (He.Fa.glo "is_time").ok) 37 rfl) (c.def_ (d := dfN "is_time" sIsTime) 4 rfl)
  have aOneOf : At K mg "is_one_of" sIsOneOf := atOf X G (c.fact (f := (He.Fa.glo "is_one_of").ok) 38 rfl) (c.def_ (d := dfN "is_one_of" sIsOneOf) 5 rfl)
  have aTuple : At K mg "is_tuple" sIsTuple := atOf X G (c.fact (f := (He.Fa.glo "is_tuple").ok) 39 rfl) (c.def_ (d := dfN "is_tuple" sIsTuple) 6 rfl)
  have aList : At K mg "is_list" sIsList := atOf X G (c.fact (f := (He.Fa.glo "is_list").ok) 40 rfl) (c.def_ (d := dfN "is_list" sIsList) 7 rfl)
  have aListOf : At K mg "is_list_of" sIsListOf := atOf X G (c.fact (f := (He.Fa.glo "is_list_of").ok) 41 rfl) (c.def_ (d := dfN "is_list_of" sIsListOf) 8 rfl)
  have aLevel : At K mg "is_level" sIsLevel := atOf X G (c.fact (f := (He.Fa.glo "is_level").ok) 42 rfl) (c.def_ (d := dfN "is_level" sIsLevel) 9 rfl)
  have aTerm : At K mg "is_term" sIsTerm := atOf X G (c.fact (f := (He.Fa.glo "is_term").ok) 43 rfl) (c.def_ (d := dfN "is_term" sIsTerm) 10 rfl)
  have aId : At K mg "is_id" sIsId := atOf X G (c.fact (f := (He.Fa.glo "is_id").ok) 44 rfl) (c.def_ (d := dfN "is_id" sIsId) 11 rfl)
  have aOrder : At K mg "is_order" sIsOrder := atOf X G (c.fact (f := (He.Fa.glo "is_order").ok) 45 rfl) (c.def_ (d := dfN "is_order" sIsOrder) 12 rfl)
  have aPointS : At K mg "is_point_shape" sIsPointShape := atOf X G (c.fact (f := (He.Fa.glo "is_point_shape").ok) 46 rfl) (c.def_ (d := dfN "is_point_shape" sIsPointShape) 13 rfl)
  have aOnce : At K mg "_check_each_once" sCheckEachOnce := atOf X G (c.fact (f := (He.Fa.glo "_check_each_once").ok) 47 rfl) (c.def_ (d := dfN "_check_each_once" sCheckEachOnce) 14 rfl)
  have aByName : At K mg "by_name" sByName := atOf X G (c.fact (f := (He.Fa.glo "by_name").ok) 48 rfl) (c.def_ (d := dfN "by_name" sByName) 15 rfl)
  have aPoints : At K mg "check_points" sCheckPoints := atOf X G (c.fact (f := (He.Fa.glo "check_points").ok) 49 rfl) (c.def_ (d := dfN "check_points" sCheckPoints) 16 rfl)
  have aRules : At K mg "check_rules" sCheckRules := atOf X G (c.fact (f := (He.Fa.glo "check_rules").ok) 50 rfl) (c.def_ (d := dfN "check_rules" sCheckRules) 17 rfl)
  have aRuleS : At K mg "is_rule_shape" sIsRuleShape := atOf X G (c.fact (f := (He.Fa.glo "is_rule_shape").ok) 51 rfl) (c.def_ (d := dfN "is_rule_shape" sIsRuleShape) 18 rfl)
  have aCauses : At K mg "check_causes" sCheckCauses := atOf X G (c.fact (f := (He.Fa.glo "check_causes").ok) 52 rfl) (c.def_ (d := dfN "check_causes" sCheckCauses) 19 rfl)
  have aCauseS : At K mg "is_cause_shape" sIsCauseShape := atOf X G (c.fact (f := (He.Fa.glo "is_cause_shape").ok) 53 rfl) (c.def_ (d := dfN "is_cause_shape" sIsCauseShape) 20 rfl)
  have aLeads : At K mg "_leads_to_itself" sLeadsToItself := atOf X G (c.fact (f := (He.Fa.glo "_leads_to_itself").ok) 54 rfl) (c.def_ (d := dfN "_leads_to_itself" sLeadsToItself) 21 rfl)
  have aCommands : At K mg "check_commands" sCheckCommands := atOf X G (c.fact (f := (He.Fa.glo "check_commands").ok) 55 rfl) (c.def_ (d := dfN "check_commands" sCheckCommands) 22 rfl)
  have aCommandS : At K mg "is_command_shape" sIsCommandShape := atOf X G (c.fact (f := (He.Fa.glo "is_command_shape").ok) 56 rfl) (c.def_ (d := dfN "is_command_shape" sIsCommandShape) 23 rfl)
  have aLockS : At K mg "is_lock_shape" sIsLockShape := atOf X G (c.fact (f := (He.Fa.glo "is_lock_shape").ok) 57 rfl) (c.def_ (d := dfN "is_lock_shape" sIsLockShape) 24 rfl)
  have aWorthOf : At K mg "is_worth_of" sIsWorthOf := atOf X G (c.fact (f := (He.Fa.glo "is_worth_of").ok) 58 rfl) (c.def_ (d := dfN "is_worth_of" sIsWorthOf) 25 rfl)
  have aLocks : At K mg "_check_locks" sCheckLocks := atOf X G (c.fact (f := (He.Fa.glo "_check_locks").ok) 59 rfl) (c.def_ (d := dfN "_check_locks" sCheckLocks) 26 rfl)
  have aRelations : At K mg "check_relations" sCheckRelations := atOf X G (c.fact (f := (He.Fa.glo "check_relations").ok) 60 rfl) (c.def_ (d := dfN "check_relations" sCheckRelations) 27 rfl)
  have aRelS : At K mg "is_relation_shape" sIsRelationShape := atOf X G (c.fact (f := (He.Fa.glo "is_relation_shape").ok) 61 rfl) (c.def_ (d := dfN "is_relation_shape" sIsRelationShape) 28 rfl)
  have aPtsRel : At K mg "points_of_relation" sPointsOfRelation := atOf X G (c.fact (f := (He.Fa.glo "points_of_relation").ok) 62 rfl) (c.def_ (d := dfN "points_of_relation" sPointsOfRelation) 29 rfl)
  have aWorksC : At K mg "check_works" sCheckWorks := atOf X G (c.fact (f := (He.Fa.glo "check_works").ok) 63 rfl) (c.def_ (d := dfN "check_works" sCheckWorks) 30 rfl)
  have aPlaceC : At K mg "check_place" sCheckPlace := atOf X G (c.fact (f := (He.Fa.glo "check_place").ok) 64 rfl) (c.def_ (d := dfN "check_place" sCheckPlace) 31 rfl)
  have aTimeC : At K mg "check_time" sCheckTime := atOf X G (c.fact (f := (He.Fa.glo "check_time").ok) 65 rfl) (c.def_ (d := dfN "check_time" sCheckTime) 32 rfl)
  have aBeyond : At K mg "is_beyond" sIsBeyond := atOf X G (c.fact (f := (He.Fa.glo "is_beyond").ok) 66 rfl) (c.def_ (d := dfN "is_beyond" sIsBeyond) 33 rfl)
  have aLockH : At K mg "lock_holds" sLockHolds := atOf X G (c.fact (f := (He.Fa.glo "lock_holds").ok) 67 rfl) (c.def_ (d := dfN "lock_holds" sLockHolds) 34 rfl)
  have aCell : At K mg "_law_cell" sLawCell := atOf X G (c.fact (f := (He.Fa.glo "_law_cell").ok) 68 rfl) (c.def_ (d := dfN "_law_cell" sLawCell) 35 rfl)
  have aBox : At K mg "_law_box" sLawBox := atOf X G (c.fact (f := (He.Fa.glo "_law_box").ok) 69 rfl) (c.def_ (d := dfN "_law_box" sLawBox) 36 rfl)
  have aTake : At K mg "_law_take" sLawTake := atOf X G (c.fact (f := (He.Fa.glo "_law_take").ok) 70 rfl) (c.def_ (d := dfN "_law_take" sLawTake) 37 rfl)
  have aLNames : At K mg "_law_names" sLawNames := atOf X G (c.fact (f := (He.Fa.glo "_law_names").ok) 71 rfl) (c.def_ (d := dfN "_law_names" sLawNames) 38 rfl)
  have aLPoints : At K mg "_law_points" sLawPoints := atOf X G (c.fact (f := (He.Fa.glo "_law_points").ok) 72 rfl) (c.def_ (d := dfN "_law_points" sLawPoints) 39 rfl)
  have aLMixed : At K mg "_law_mixed" sLawMixed := atOf X G (c.fact (f := (He.Fa.glo "_law_mixed").ok) 73 rfl) (c.def_ (d := dfN "_law_mixed" sLawMixed) 40 rfl)
  have aLLetters : At K mg "_law_letters" sLawLetters := atOf X G (c.fact (f := (He.Fa.glo "_law_letters").ok) 74 rfl) (c.def_ (d := dfN "_law_letters" sLawLetters) 41 rfl)
  have aLRoad : At K mg "_law_road" sLawRoad := atOf X G (c.fact (f := (He.Fa.glo "_law_road").ok) 75 rfl) (c.def_ (d := dfN "_law_road" sLawRoad) 42 rfl)
  have aRight : At K mg "_law_right" sLawRight := atOf X G (c.fact (f := (He.Fa.glo "_law_right").ok) 76 rfl) (c.def_ (d := dfN "_law_right" sLawRight) 43 rfl)
  have aLaw : At K mg "law" sLaw := atOf X G (c.fact (f := (He.Fa.glo "law").ok) 77 rfl) (c.def_ (d := dfN "law" sLaw) 44 rfl)
  have hC : mg "Works" = some (.ref (He.ga K "Works")) := He.glo_ok X G (c.fact (f := (He.Fa.glo "Works").ok) 80 rfl)
  have W : WoC K (He.ga K "Works") := ⟨He.cls_ok (c.fact (f := (He.Fa.cls "Works").ok) 81 rfl), He.noat_ok (c.fact (f := (He.Fa.noat "Works" "_points").ok) 83 rfl), He.noat_ok (c.fact (f := (He.Fa.noat "Works" "_point_by_name").ok) 84 rfl), He.noat_ok (c.fact (f := (He.Fa.noat "Works" "_rules").ok) 85 rfl), He.noat_ok (c.fact (f := (He.Fa.noat "Works" "_rule_by_name").ok) 86 rfl), He.noat_ok (c.fact (f := (He.Fa.noat "Works" "_causes").ok) 87 rfl), He.noat_ok (c.fact (f := (He.Fa.noat "Works" "_commands").ok) 88 rfl), He.noat_ok (c.fact (f := (He.Fa.noat "Works" "_command_by_name").ok) 89 rfl), He.noat_ok (c.fact (f := (He.Fa.noat "Works" "_relations").ok) 90 rfl)⟩
  have Wq : WoQ K (He.ga K "Works") := ⟨He.eqO_ok (c.fact (f := (fun K => He.eqO (PySem.W.findIn K (.ref (He.ga K "Works")) "__class__") (some (some (.builtin "object.__class__"))))) 124 rfl), He.eqO_ok (c.fact (f := hnB) 78 rfl), of_decide_eq_true (c.fact (f := htB) 79 rfl), of_decide_eq_true (c.fact (f := (fun K => decide (PySem.W.mroIn K (He.ga K "Works") (.type "object") = some true))) 125 rfl), of_decide_eq_true (c.fact (f := (fun K => decide (PySem.W.kitOne K (.ref (He.ga K "Works")) (.ref (He.ga K "Works")) = some true))) 126 rfl)⟩
  obtain ⟨fdi, FI⟩ := (c.def_ (d := dfMK "Works" "__init__" "Works.__init__" mWorks_Init [("rules", .adr (dAd "rules")), ("causes", .adr (dAd "causes")), ("commands", .adr (dAd "commands")), ("relations", .adr (dAd "relations"))]) 62 rfl)
  have hE : mg "Place" = some (.ref (He.ga K "Place")) := He.glo_ok X G (c.fact (f := (He.Fa.glo "Place").ok) 117 rfl)
  have Wp : PcC K (He.ga K "Place") := ⟨He.cls_ok (c.fact (f := (He.Fa.cls "Place").ok) 118 rfl), He.noat_ok (c.fact (f := (He.Fa.noat "Place" "_works").ok) 107 rfl), He.noat_ok (c.fact (f := (He.Fa.noat "Place" "_name").ok) 108 rfl), He.noat_ok (c.fact (f := (He.Fa.noat "Place" "_time").ok) 109 rfl), He.noat_ok (c.fact (f := (He.Fa.noat "Place" "_term").ok) 110 rfl), He.noat_ok (c.fact (f := (He.Fa.noat "Place" "_worths").ok) 111 rfl), He.noat_ok (c.fact (f := (He.Fa.noat "Place" "_marks").ok) 112 rfl), He.noat_ok (c.fact (f := (He.Fa.noat "Place" "_waiting").ok) 113 rfl), He.noat_ok (c.fact (f := (He.Fa.noat "Place" "_sent").ok) 114 rfl), He.noat_ok (c.fact (f := (He.Fa.noat "Place" "_met").ok) 115 rfl), He.noat_ok (c.fact (f := (He.Fa.noat "Place" "_done").ok) 116 rfl)⟩
  obtain ⟨fdp, FP⟩ := iniOf (x := "Place") (q := "Place.__init__") (st := mPlace_Init) (c.def_ (d := dfM "Place" "__init__" "Place.__init__" mPlace_Init) 50 rfl)
  have pCome : AtMt K (He.ga K "Place") "_come_to" "Place._come_to" mPlace_ComeTo := atMtOf (c.fact (f := (He.Fa.meth "Place" "_come_to").ok) 96 rfl) (c.def_ (d := dfM "Place" "_come_to" "Place._come_to" mPlace_ComeTo) 51 rfl)
  have pNote : AtMt K (He.ga K "Place") "_note" "Place._note" mPlace_Note := atMtOf (c.fact (f := (He.Fa.meth "Place" "_note").ok) 97 rfl) (c.def_ (d := dfM "Place" "_note" "Place._note" mPlace_Note) 52 rfl)
  have pSend : AtMt K (He.ga K "Place") "send" "Place.send" mPlace_Send := atMtOf (c.fact (f := (He.Fa.meth "Place" "send").ok) 98 rfl) (c.def_ (d := dfM "Place" "send" "Place.send" mPlace_Send) 53 rfl)
  have pWait : AtMt K (He.ga K "Place") "waiting" "Place.waiting" mPlace_Waiting := atMtOf (c.fact (f := (He.Fa.meth "Place" "waiting").ok) 99 rfl) (c.def_ (d := dfM "Place" "waiting" "Place.waiting" mPlace_Waiting) 54 rfl)
  have pDone : AtMt K (He.ga K "Place") "done" "Place.done" mPlace_Done := atMtOf (c.fact (f := (He.Fa.meth "Place" "done").ok) 100 rfl) (c.def_ (d := dfM "Place" "done" "Place.done" mPlace_Done) 55 rfl)
  have pPNm : AtMt K (He.ga K "Place") "name" "Place.name" mPlace_Name := atMtOf (c.fact (f := (He.Fa.meth "Place" "name").ok) 101 rfl) (c.def_ (d := dfM "Place" "name" "Place.name" mPlace_Name) 56 rfl)
  have pPTm : AtMt K (He.ga K "Place") "term" "Place.term" mPlace_Term := atMtOf (c.fact (f := (He.Fa.meth "Place" "term").ok) 102 rfl) (c.def_ (d := dfM "Place" "term" "Place.term" mPlace_Term) 57 rfl)
  have pMay : AtMt K (He.ga K "Place") "_may_do" "Place._may_do" mPlace_MayDo := atMtOf (c.fact (f := (He.Fa.meth "Place" "_may_do").ok) 103 rfl) (c.def_ (d := dfM "Place" "_may_do" "Place._may_do" mPlace_MayDo) 58 rfl)
  have pMeet : AtMt K (He.ga K "Place") "_meet" "Place._meet" mPlace_Meet := atMtOf (c.fact (f := (He.Fa.meth "Place" "_meet").ok) 104 rfl) (c.def_ (d := dfM "Place" "_meet" "Place._meet" mPlace_Meet) 59 rfl)
  have pHears : AtMt K (He.ga K "Place") "hears" "Place.hears" mPlace_Hears := atMtOf (c.fact (f := (He.Fa.meth "Place" "hears").ok) 105 rfl) (c.def_ (d := dfM "Place" "hears" "Place.hears" mPlace_Hears) 60 rfl)
  have pMet : AtMt K (He.ga K "Place") "met" "Place.met" mPlace_Met := atMtOf (c.fact (f := (He.Fa.meth "Place" "met").ok) 106 rfl) (c.def_ (d := dfM "Place" "met" "Place.met" mPlace_Met) 61 rfl)
  have mPlaces : AtMt K (He.ga K "Works") "places" "Works.places" mWorks_Places := atMtOf (c.fact (f := (He.Fa.meth "Works" "places").ok) 91 rfl) (c.def_ (d := dfM "Works" "places" "Works.places" mWorks_Places) 45 rfl)
  have mPtsAt : AtMt K (He.ga K "Works") "points_at" "Works.points_at" mWorks_PointsAt := atMtOf (c.fact (f := (He.Fa.meth "Works" "points_at").ok) 92 rfl) (c.def_ (d := dfM "Works" "points_at" "Works.points_at" mWorks_PointsAt) 46 rfl)
  have mHasPl : AtMt K (He.ga K "Works") "has_place" "Works.has_place" mWorks_HasPlace := atMtOf (c.fact (f := (He.Fa.meth "Works" "has_place").ok) 93 rfl) (c.def_ (d := dfM "Works" "has_place" "Works.has_place" mWorks_HasPlace) 47 rfl)
  have mHasC : AtMt K (He.ga K "Works") "has_command" "Works.has_command" mWorks_HasCommand := atMtOf (c.fact (f := (He.Fa.meth "Works" "has_command").ok) 94 rfl) (c.def_ (d := dfM "Works" "has_command" "Works.has_command" mWorks_HasCommand) 48 rfl)
  have mCmd : AtMt K (He.ga K "Works") "command" "Works.command" mWorks_Command := atMtOf (c.fact (f := (He.Fa.meth "Works" "command").ok) 95 rfl) (c.def_ (d := dfM "Works" "command" "Works.command" mWorks_Command) 49 rfl)
  exact fin hfa T W Wq hC (He.mkr_ok (c.fact (f := (He.Fa.mkr "Works").ok) 82 rfl)) FI (dNo_ok (c.fact (f := (dNo "rules")) 120 rfl)) (dNo_ok (c.fact (f := (dNo "causes")) 121 rfl)) (dNo_ok (c.fact (f := (dNo "commands")) 122 rfl)) (dNo_ok (c.fact (f := (dNo "relations")) 123 rfl)) Wp hE (He.mkr_ok (c.fact (f := (He.Fa.mkr "Place").ok) 119 rfl)) FP mPlaces mPtsAt mHasPl mHasC mCmd  pCome pNote pSend pWait pDone pPNm pPTm pMay pMeet pHears pMet aNumber aCheck aWhole aName aTime aOneOf aTuple aList aListOf aLevel aTerm aId aOrder aPointS aOnce aByName aPoints aRules aRuleS aCauses aCauseS aLeads aCommands aCommandS aLockS aWorthOf aLocks aRelations aRelS aPtsRel aWorksC aPlaceC aTimeC aBeyond aLockH aCell aBox aTake aLNames aLPoints aLMixed aLLetters aLRoad aRight aLaw
end V59

set_option maxHeartbeats 0
open PySem PySem.W PySem.Calls PyProof.Rows
theorem PySem.Challenge.cw_panelwatch_k59_whole_one_term_at_a_place_holds : PySem.Challenge.rw_panelwatch_k59_whole_one_term_at_a_place.Holds := by
  w_on; o_law
  refine HandSHeadRun.head_any (r := OpenLaw.row PySem.Challenge.rw_panelwatch_k59_whole_one_term_at_a_place) (q := view (OpenLaw.row PySem.Challenge.rw_panelwatch_k59_whole_one_term_at_a_place).prog [101]) (H := V59.hk) (ob := V59.ob) (M := 30000) (loose := V59.loose)
    (d := HandSHeadRun.topDef (OpenLaw.row PySem.Challenge.rw_panelwatch_k59_whole_one_term_at_a_place).prog 101) (kwd := []) V59.ob_eq
    (by kernel_rfl) (fun s => by kernel_rfl) V59.run (by kernel_rfl) (by kernel_rfl) (by kernel_rfl) (by rfl) (by first | assumption | decide +kernel) (by decide +kernel) ⟨rfl, rfl, rfl, rfl, rfl, by decide +kernel⟩ ?hw ?hc
  case hw => w_witness2
  case hc =>
    refine Pw.walkE (l := PySem.Challenge.rw_panelwatch_k59_whole_one_term_at_a_place) (n := 63) (k := 16) (x := "_law_script") (CX := L2.CX0) rfl (by decide) (by kernel_rfl) ⟨rfl, by decide, by decide⟩ ?F (fun _ _ _ _ z => z)
    intro w mg fa h Y G hmg0
    obtain ⟨K, KX, c⟩ := Y
    have hmg : mg ("law" : PySem.Str) = some (.ref fa) := by
      have e : (HandSHeadRun.topDef (OpenLaw.row PySem.Challenge.rw_panelwatch_k59_whole_one_term_at_a_place).prog 101).name = ("law" : PySem.Str) := by kernel_rfl
      rw [← e]
      exact hmg0
    obtain ⟨fd, hb, hF⟩ := V59.facts (P := (PySem.Challenge.rw_panelwatch_k59_whole_one_term_at_a_place).prog) (w := w) KX G hmg c
    exact ⟨K, fd, V59.spLaw K, KX, hb, fun H a ns hl _ hS => ⟨a, ns, rfl, hS, hl, fun _ => rfl⟩, hF⟩

