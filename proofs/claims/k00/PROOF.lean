import PyProof.Rows.All
import Wide.All
import OpenK.AllK
import Wide.FinOn
import HandS.ExcField
import HandS.Words
import HandS.IsInst
import HandS.Head0
import HandS.Head1
import HandS.Head2
import HandS.HeadEnd
import HandS.HeadHook1
import HandS.ForMost
import HandS.Codes
import HandS.Wide
import HandS.Walk
import HandS.Style
import HandS.Flow
import HandS.ForExc
import HandS.ExcInit
import HandS.ExcIs
import HandS.ExcValue
import HandS.Deep
import HandS.ExcValueHot
import PySem.Challenge.RW_truthwell_k00_errors_keep_their_fields
set_option Elab.async false
set_option linter.all false
set_option maxRecDepth 100000
set_option maxHeartbeats 0
namespace K00
open PySem PySem.Spec PyProof.Rows L2
def top (i : Nat) : Stmt := PySem.Challenge.pw_truthwell_k00_errors_keep_their_fields.main.body.getD i (.Pass ⟨0, 0, 0, 0⟩)
def inClass (st : Stmt) (j : Nat) : Stmt := match st with
  | .ClassDef (body := b) .. => b.getD j (.Pass ⟨0, 0, 0, 0⟩)
  | _ => .Pass ⟨0, 0, 0, 0⟩
abbrev s_BadRule_init : Stmt := (inClass (top 2) 0)
abbrev s_BadPast_init : Stmt := (inClass (top 3) 0)
abbrev s_BadQuestion_init : Stmt := (inClass (top 4) 0)
abbrev s_BadStock_init : Stmt := (inClass (top 5) 0)
abbrev s_BadWish_init : Stmt := (inClass (top 6) 0)
abbrev s_BadCase_init : Stmt := (inClass (top 7) 0)
abbrev s_BadSituation_init : Stmt := (inClass (top 8) 0)
abbrev s_BadHearing_init : Stmt := (inClass (top 9) 0)
abbrev s_BadList_init : Stmt := (inClass (top 10) 0)
abbrev s_BadPlan_init : Stmt := (inClass (top 11) 0)
abbrev s_BadPrices_init : Stmt := (inClass (top 12) 0)
abbrev s_BadBars_init : Stmt := (inClass (top 13) 0)
abbrev s_BadEvening_init : Stmt := (inClass (top 14) 0)
abbrev s_BadStory_init : Stmt := (inClass (top 15) 0)
abbrev s_BadNumber_init : Stmt := (inClass (top 16) 0)
abbrev s_BadPaper_init : Stmt := (inClass (top 17) 0)
abbrev s_Missing_init : Stmt := (inClass (top 18) 0)
abbrev s_NoThing_init : Stmt := (inClass (top 19) 0)
abbrev s_NoAnswerer_init : Stmt := (inClass (top 20) 0)
abbrev s_NoHeap_init : Stmt := (inClass (top 21) 0)
abbrev s_NoStand_init : Stmt := (inClass (top 22) 0)
abbrev s_NoQuestion_init : Stmt := (inClass (top 23) 0)
abbrev s_NoAsked_init : Stmt := (inClass (top 24) 0)
abbrev s_NoName_init : Stmt := (inClass (top 25) 0)
abbrev s_Unlike_init : Stmt := (inClass (top 26) 0)
abbrev s_Twice_init : Stmt := (inClass (top 27) 0)
abbrev s_Dead_init : Stmt := (inClass (top 28) 0)
abbrev s_Barred_init : Stmt := (inClass (top 30) 0)
abbrev s_NotFading_init : Stmt := (inClass (top 32) 0)
abbrev s_NotFreer_init : Stmt := (inClass (top 33) 0)
abbrev s_Late_init : Stmt := (inClass (top 36) 0)
abbrev s_Unheard_init : Stmt := (inClass (top 37) 0)
abbrev s_Heard_init : Stmt := (inClass (top 38) 0)
abbrev s_Broken_init : Stmt := (inClass (top 39) 0)
abbrev s_TooMany_init : Stmt := (inClass (top 41) 0)
abbrev s_BadText_init : Stmt := (inClass (top 42) 0)
abbrev s_BadLine_init : Stmt := (inClass (top 43) 0)
abbrev s_law_churn : Stmt := (top 45)
abbrev s_law_skim : Stmt := (top 46)
abbrev s_law_parts : Stmt := (top 47)
abbrev s_law_parts_turned : Stmt := (top 48)
abbrev s_law_others : Stmt := (top 49)
abbrev s_law_others_named : Stmt := (top 50)
abbrev s_law_fields : Stmt := (top 51)
abbrev s_law_kin : Stmt := (top 52)
abbrev s_law_stands_right : Stmt := (top 53)
abbrev s_law_all_right : Stmt := (top 54)
abbrev s_law : Stmt := (top 55)
def FLD : List Str := ["part", "value", "what", "place", "thing", "asking", "most", "line", "word", "error", "stand", "who", "true"]
def fq (K : PySem.W.Frag) (C : Addr) (x : Str) (v : Option Value) : Bool := decide (PySem.W.findIn K (.ref C) x = some v)
def kq (K : PySem.W.Frag) (C : Addr) (v : Value) (b : Bool) : Bool := decide (PySem.W.kitOne K (.ref C) v = some b)
def excB (K : PySem.W.Frag) (C : Addr) : Bool := fq K C "__getattribute__" (some (.builtin "BaseException.__getattribute__")) && (fq K C "__getattr__" none && (decide (PySem.W.subIn K (.ref C) (.type "BaseException") = some true) && (PySem.W.hasDictIn K C &&
  (fq K C "__class__" (some (.builtin "object.__class__")) && (decide (PySem.W.specialIn K (.builtin "object.__class__") "__get__" = some (some (.builtin "getset_descriptor.__get__"))) && (decide (PySem.W.takesIn K (.builtin "object.__class__") = some true) && decide (PySem.W.mroIn K C (.type "object") = some true)))))))
def shapeB (C : Addr) (o : Obj) : Bool := decide (o.cls = .type "type") && (match o.data with
  | .cls cd => !cd.hasDel && (cd.hasDict && (match cd.mro with
    | v :: bm => decide (v = .ref C) && PySem.HandSPX.refsVE bm
    | [] => false))
  | _ => false) && (match o.slots.toList with
  | [_, _, _, _, some v, _] => decide (v = .builtin "ValueError.__new__")
  | _ => false)
def oexB (K : PySem.W.Frag) (C : Addr) : Bool := (K.lookup C).any (shapeB C) && (fq K C "__setattr__" (some (.builtin "object.__setattr__")) && (decide (PySem.W.typeIn K (.ref C) = some (.type "type")) && (PySem.W.keepIn K (.ref C) && decide (PySem.W.subIn K (.ref C) (.type "BaseException") = some true))))
def hasOwn (i : Nat) : Bool := decide (i < 36) || decide (i = 41)
def rowB (K : PySem.W.Frag) (cs : List Addr) (i : Nat) : Bool :=
  excB K (cs.getD i 0) && (xfB K (cs.getD i 0) && ((decide (42 ≤ i) || FLD.all fun f => fq K (cs.getD i 0) f none) && (((List.range 41).all fun j => kq K (cs.getD i 0) (.ref (cs.getD j 0)) (decide (i = j))) &&
  (kq K (cs.getD i 0) (.ref (cs.getD 42 0)) true && ((decide (41 ≤ i) || kq K (cs.getD i 0) (.ref (cs.getD 41 0)) (decide (16 ≤ i ∧ i < 23))) && (kq K (cs.getD i 0) (.type "ValueError") true && (kq K (cs.getD i 0) (.type "LookupError") false &&
  (kq K (cs.getD i 0) (.type "TypeError") false && (kq K (cs.getD i 0) (.type "ArithmeticError") false && (kq K (cs.getD i 0) (.type "RuntimeError") false && (kq K (cs.getD i 0) (.type "AttributeError") false &&
  (if hasOwn i = true then oexB K (cs.getD i 0) else PySem.W.excIn K (cs.getD i 0) PySem.HandSPX.veTail "ValueError.__new__"))))))))))))
def chkB (K : PySem.W.Frag) (cs : List Addr) : Bool := (List.range 43).all (rowB K cs)
def fnl : List He.FnD := [⟨("BadRule", some "__init__"), "__init__", "BadRule.__init__", defArgs s_BadRule_init, defBody s_BadRule_init, defScope s_BadRule_init⟩,
  ⟨("BadPast", some "__init__"), "__init__", "BadPast.__init__", defArgs s_BadPast_init, defBody s_BadPast_init, defScope s_BadPast_init⟩,
  ⟨("BadQuestion", some "__init__"), "__init__", "BadQuestion.__init__", defArgs s_BadQuestion_init, defBody s_BadQuestion_init, defScope s_BadQuestion_init⟩,
  ⟨("BadStock", some "__init__"), "__init__", "BadStock.__init__", defArgs s_BadStock_init, defBody s_BadStock_init, defScope s_BadStock_init⟩,
  ⟨("BadWish", some "__init__"), "__init__", "BadWish.__init__", defArgs s_BadWish_init, defBody s_BadWish_init, defScope s_BadWish_init⟩,
  ⟨("BadCase", some "__init__"), "__init__", "BadCase.__init__", defArgs s_BadCase_init, defBody s_BadCase_init, defScope s_BadCase_init⟩,
  ⟨("BadSituation", some "__init__"), "__init__", "BadSituation.__init__", defArgs s_BadSituation_init, defBody s_BadSituation_init, defScope s_BadSituation_init⟩,
  ⟨("BadHearing", some "__init__"), "__init__", "BadHearing.__init__", defArgs s_BadHearing_init, defBody s_BadHearing_init, defScope s_BadHearing_init⟩,
  ⟨("BadList", some "__init__"), "__init__", "BadList.__init__", defArgs s_BadList_init, defBody s_BadList_init, defScope s_BadList_init⟩,
  ⟨("BadPlan", some "__init__"), "__init__", "BadPlan.__init__", defArgs s_BadPlan_init, defBody s_BadPlan_init, defScope s_BadPlan_init⟩,
  ⟨("BadPrices", some "__init__"), "__init__", "BadPrices.__init__", defArgs s_BadPrices_init, defBody s_BadPrices_init, defScope s_BadPrices_init⟩,
  ⟨("BadBars", some "__init__"), "__init__", "BadBars.__init__", defArgs s_BadBars_init, defBody s_BadBars_init, defScope s_BadBars_init⟩,
  ⟨("BadEvening", some "__init__"), "__init__", "BadEvening.__init__", defArgs s_BadEvening_init, defBody s_BadEvening_init, defScope s_BadEvening_init⟩,
  ⟨("BadStory", some "__init__"), "__init__", "BadStory.__init__", defArgs s_BadStory_init, defBody s_BadStory_init, defScope s_BadStory_init⟩,
  ⟨("BadNumber", some "__init__"), "__init__", "BadNumber.__init__", defArgs s_BadNumber_init, defBody s_BadNumber_init, defScope s_BadNumber_init⟩,
  ⟨("BadPaper", some "__init__"), "__init__", "BadPaper.__init__", defArgs s_BadPaper_init, defBody s_BadPaper_init, defScope s_BadPaper_init⟩,
  ⟨("NoThing", some "__init__"), "__init__", "NoThing.__init__", defArgs s_NoThing_init, defBody s_NoThing_init, defScope s_NoThing_init⟩,
  ⟨("NoAnswerer", some "__init__"), "__init__", "NoAnswerer.__init__", defArgs s_NoAnswerer_init, defBody s_NoAnswerer_init, defScope s_NoAnswerer_init⟩,
  ⟨("NoHeap", some "__init__"), "__init__", "NoHeap.__init__", defArgs s_NoHeap_init, defBody s_NoHeap_init, defScope s_NoHeap_init⟩,
  ⟨("NoStand", some "__init__"), "__init__", "NoStand.__init__", defArgs s_NoStand_init, defBody s_NoStand_init, defScope s_NoStand_init⟩,
  ⟨("NoQuestion", some "__init__"), "__init__", "NoQuestion.__init__", defArgs s_NoQuestion_init, defBody s_NoQuestion_init, defScope s_NoQuestion_init⟩,
  ⟨("NoAsked", some "__init__"), "__init__", "NoAsked.__init__", defArgs s_NoAsked_init, defBody s_NoAsked_init, defScope s_NoAsked_init⟩,
  ⟨("NoName", some "__init__"), "__init__", "NoName.__init__", defArgs s_NoName_init, defBody s_NoName_init, defScope s_NoName_init⟩,
  ⟨("Twice", some "__init__"), "__init__", "Twice.__init__", defArgs s_Twice_init, defBody s_Twice_init, defScope s_Twice_init⟩,
  ⟨("Unlike", some "__init__"), "__init__", "Unlike.__init__", defArgs s_Unlike_init, defBody s_Unlike_init, defScope s_Unlike_init⟩,
  ⟨("Barred", some "__init__"), "__init__", "Barred.__init__", defArgs s_Barred_init, defBody s_Barred_init, defScope s_Barred_init⟩,
  ⟨("NotFading", some "__init__"), "__init__", "NotFading.__init__", defArgs s_NotFading_init, defBody s_NotFading_init, defScope s_NotFading_init⟩,
  ⟨("NotFreer", some "__init__"), "__init__", "NotFreer.__init__", defArgs s_NotFreer_init, defBody s_NotFreer_init, defScope s_NotFreer_init⟩,
  ⟨("Late", some "__init__"), "__init__", "Late.__init__", defArgs s_Late_init, defBody s_Late_init, defScope s_Late_init⟩,
  ⟨("Unheard", some "__init__"), "__init__", "Unheard.__init__", defArgs s_Unheard_init, defBody s_Unheard_init, defScope s_Unheard_init⟩,
  ⟨("Heard", some "__init__"), "__init__", "Heard.__init__", defArgs s_Heard_init, defBody s_Heard_init, defScope s_Heard_init⟩,
  ⟨("Broken", some "__init__"), "__init__", "Broken.__init__", defArgs s_Broken_init, defBody s_Broken_init, defScope s_Broken_init⟩,
  ⟨("TooMany", some "__init__"), "__init__", "TooMany.__init__", defArgs s_TooMany_init, defBody s_TooMany_init, defScope s_TooMany_init⟩,
  ⟨("BadText", some "__init__"), "__init__", "BadText.__init__", defArgs s_BadText_init, defBody s_BadText_init, defScope s_BadText_init⟩,
  ⟨("BadLine", some "__init__"), "__init__", "BadLine.__init__", defArgs s_BadLine_init, defBody s_BadLine_init, defScope s_BadLine_init⟩,
  ⟨("Dead", some "__init__"), "__init__", "Dead.__init__", defArgs s_Dead_init, defBody s_Dead_init, defScope s_Dead_init⟩,
  ⟨("Missing", some "__init__"), "__init__", "Missing.__init__", defArgs s_Missing_init, defBody s_Missing_init, defScope s_Missing_init⟩,
  ⟨("_law_churn", none), "_law_churn", "_law_churn", defArgs s_law_churn, defBody s_law_churn, defScope s_law_churn⟩,
  ⟨("_law_skim", none), "_law_skim", "_law_skim", defArgs s_law_skim, defBody s_law_skim, defScope s_law_skim⟩,
  ⟨("_law_parts", none), "_law_parts", "_law_parts", defArgs s_law_parts, defBody s_law_parts, defScope s_law_parts⟩,
  ⟨("_law_parts_turned", none), "_law_parts_turned", "_law_parts_turned", defArgs s_law_parts_turned, defBody s_law_parts_turned, defScope s_law_parts_turned⟩,
  ⟨("_law_others", none), "_law_others", "_law_others", defArgs s_law_others, defBody s_law_others, defScope s_law_others⟩,
  ⟨("_law_others_named", none), "_law_others_named", "_law_others_named", defArgs s_law_others_named, defBody s_law_others_named, defScope s_law_others_named⟩,
  ⟨("_law_fields", none), "_law_fields", "_law_fields", defArgs s_law_fields, defBody s_law_fields, defScope s_law_fields⟩,
  ⟨("_law_kin", none), "_law_kin", "_law_kin", defArgs s_law_kin, defBody s_law_kin, defScope s_law_kin⟩,
  ⟨("_law_stands_right", none), "_law_stands_right", "_law_stands_right", defArgs s_law_stands_right, defBody s_law_stands_right, defScope s_law_stands_right⟩,
  ⟨("_law_all_right", none), "_law_all_right", "_law_all_right", defArgs s_law_all_right, defBody s_law_all_right, defScope s_law_all_right⟩,
  ⟨("law", none), "law", "law", defArgs s_law, defBody s_law, defScope s_law⟩]
def fal : List He.Fa := [.glo "BadRule", .glo "BadPast", .glo "BadQuestion", .glo "BadStock", .glo "BadWish", .glo "BadCase", .glo "BadSituation", .glo "BadHearing", .glo "BadList", .glo "BadPlan", .glo "BadPrices", .glo "BadBars", .glo "BadEvening", .glo "BadStory", .glo "BadNumber", .glo "BadPaper", .glo "NoThing", .glo "NoAnswerer", .glo "NoHeap", .glo "NoStand", .glo "NoQuestion", .glo "NoAsked", .glo "NoName", .glo "Twice", .glo "Unlike", .glo "Barred", .glo "NotFading", .glo "NotFreer", .glo "Late", .glo "Unheard", .glo "Heard", .glo "Broken", .glo "TooMany", .glo "BadText", .glo "BadLine", .glo "Dead", .glo "Silent", .glo "NotEven", .glo "Never", .glo "Settled", .glo "NoDeed", .glo "Missing", .glo "WellError", .glo "_law_churn", .glo "_law_skim", .glo "_law_parts", .glo "_law_parts_turned", .glo "_law_others", .glo "_law_others_named", .glo "_law_fields", .glo "_law_kin", .glo "_law_stands_right", .glo "_law_all_right", .glo "law", .keep "_law_churn", .keep "_law_skim", .keep "_law_parts", .keep "_law_parts_turned", .keep "_law_others", .keep "_law_others_named", .keep "_law_fields", .keep "_law_kin", .keep "_law_stands_right", .keep "_law_all_right", .keep "law", .free "isinstance", .free "int", .free "len", .free "abs", .free "range", .free "repr", .free "enumerate", .free "ValueError", .free "LookupError", .free "TypeError", .free "ArithmeticError", .free "RuntimeError", .free "AttributeError", .keep "Silent", .keep "NotEven", .keep "Never", .keep "Settled", .keep "NoDeed", .keep "WellError"]
def nml : List Str := (["BadRule", "BadPast", "BadQuestion", "BadStock", "BadWish", "BadCase", "BadSituation", "BadHearing", "BadList", "BadPlan", "BadPrices", "BadBars", "BadEvening", "BadStory", "BadNumber", "BadPaper", "NoThing", "NoAnswerer", "NoHeap", "NoStand"] : List Str) ++ (["NoQuestion", "NoAsked", "NoName", "Twice", "Unlike", "Barred", "NotFading", "NotFreer", "Late", "Unheard", "Heard", "Broken", "TooMany", "BadText", "BadLine", "Dead", "Silent", "NotEven", "Never", "Settled"] : List Str) ++ (["NoDeed", "Missing", "WellError"] : List Str)
def ownl : List Str := (["BadRule", "BadPast", "BadQuestion", "BadStock", "BadWish", "BadCase", "BadSituation", "BadHearing", "BadList", "BadPlan", "BadPrices", "BadBars", "BadEvening", "BadStory", "BadNumber", "BadPaper", "NoThing", "NoAnswerer", "NoHeap", "NoStand"] : List Str) ++ (["NoQuestion", "NoAsked", "NoName", "Twice", "Unlike", "Barred", "NotFading", "NotFreer", "Late", "Unheard", "Heard", "Broken", "TooMany", "BadText", "BadLine", "Dead", "Missing"] : List Str)
def dfd : He.FnD := ⟨("law", none), "law", "law", defArgs s_law, defBody s_law, defScope s_law⟩
def iniB (K : PySem.W.Frag) (x : Str) : Bool := He.eqO (PySem.W.findIn K (.ref (He.ga K x)) "__init__") (some (some (.ref (He.ma K (He.ga K x) "__init__")))) && (decide (PySem.W.typeIn K (.ref (He.ma K (He.ga K x) "__init__")) = some (.type "function")) && PySem.W.keepIn K (.ref (He.ma K (He.ga K x) "__init__")))
def myB (K : PySem.W.Frag) : Bool := chkB K (nml.map (He.ga K)) && ownl.all (iniB K)
abbrev AlM : Type := Bool × He.Al
def obsM (K : PySem.W.Frag) : AlM := (myB K, He.obsE fal fnl K)
def valM : AlM := (true, He.valE fnl)
def obsMG (n : Nat) (g : Addr → Option Obj) : AlM := obsM (He.frG g (He.asG g n))
def hookM (n : Nat) : PySem.W.Hook where
  α := AlM
  obs := fun s => obsMG n s.heap.get?
  val := fun _ => valM
  says := fun _ h => ∃ K : PySem.W.Frag, K.In h ∧ obsM K = valM
  of := fun _ _ e => ⟨_, He.frG_in, e⟩
  keeps := fun _ _ _ ⟨K, hK, c⟩ k => ⟨K, PySem.W.Frag.In.keeps hK k, c⟩
abbrev RR : PySem.W.OpenRow := PySem.W.OpenLaw.row PySem.Challenge.rw_truthwell_k00_errors_keep_their_fields
def obw (s : PySem.W.SharedT) : AlM := obsMG 5 (HandSHeadRun.getT s)
theorem obw_eq (s : PySem.W.SharedT) : obw s = (hookM 5).obs s.abs := by
  have e : HandSHeadRun.getT s = s.abs.heap.get? := funext (HandSHeadRun.getT_eq s)
  show obsMG 5 (HandSHeadRun.getT s) = obsMG 5 s.abs.heap.get?
  rw [e]
def loo : List PySem.Str := (["WellError", "BadRule", "BadPast", "BadQuestion", "BadStock", "BadWish", "BadCase", "BadSituation", "BadHearing", "BadList", "BadPlan", "BadPrices", "BadBars", "BadEvening", "BadStory", "BadNumber", "BadPaper", "Missing", "NoThing", "NoAnswerer"] : List PySem.Str) ++ (["NoHeap", "NoStand", "NoQuestion", "NoAsked", "NoName", "Unlike", "Twice", "Dead", "Silent", "Barred", "NotEven", "NotFading", "NotFreer", "Never", "Settled", "Late", "Unheard", "Heard", "Broken", "NoDeed"] : List PySem.Str) ++ (["TooMany", "BadText", "BadLine", "_law_churn", "_law_skim", "_law_parts", "_law_parts_turned", "_law_others", "_law_others_named", "_law_fields", "_law_kin", "_law_stands_right", "_law_all_right"] : List PySem.Str)
theorem run (w : World) : HandSHeadRun.RunEq RR (PySem.W.view RR.prog [55]) (hookM 5) obw 20000 loo w := by
  intro os
  kernel_rfl
end K00

namespace XB
open PySem PySem.Spec PyProof.Rows L2
/-! ### rules of my own -/
section
variable {X : Cx}
/-- x is True, x is False: x an int or a bool -/
def rIsT : R2 := fun x y H Q => ∃ b : Bool, y = .bl b ∧ ((∃ i, x = .int i ∧ Q (.bl false) H) ∨ ∃ c : Bool, x = .bl c ∧ Q (.bl (decide (c = b))) H)
theorem op_isT : OpR X (compareOp .Is) rIsT := by
  intro pins s σ H x y v u Q I rx ry h
  obtain ⟨b, rfl, h⟩ := h
  cases (show u = Value.bool b from ry)
  rcases h with ⟨i, rfl, q⟩ | ⟨a, rfl, q⟩
  · obtain ⟨t, rfl⟩ := rx
    exact wpAny_is_other rfl (fun z => nomatch z) ⟨.bl false, H, I, rfl, q⟩
  · cases (show v = Value.bool a from rx)
    by_cases e : a = b
    · subst e
      exact wpAny_is_self rfl ⟨.bl true, H, I, rfl, by simpa using q⟩
    · exact wpAny_is_other rfl (fun z => e (Value.bool.inj z)) ⟨.bl false, H, I, rfl, by simpa [e] using q⟩
/-- a text times a number, 2 to 100 -/
def rMulS : R2 := fun x y H Q => ∃ (z : Str) (n : Int), x = .str z ∧ y = .int n ∧ 2 ≤ n ∧ n ≤ 100 ∧ 1 ≤ z.length ∧ z.length ≤ 1000 ∧ (⟨(List.replicate n.toNat z.cps).foldl (· ++ ·) #[]⟩ : Str).length ≤ sizeLine ∧ Q (.str ⟨(List.replicate n.toNat z.cps).foldl (· ++ ·) #[]⟩) H
theorem op_mulS : OpR X (binaryOp .Mult) rMulS := by
  intro pins s σ H x y v u Q I rx ry h
  obtain ⟨z, n, rfl, rfl, h1, h2, h3, h4, h5, q⟩ := h
  obtain ⟨t, rfl⟩ := rx
  obtain ⟨t', rfl⟩ := ry
  have n1 : (n == 1 || z.length == 0) = false := by
    rw [Bool.or_eq_false_iff]
    exact ⟨beq_eq_false_iff_ne.mpr (by omega), beq_eq_false_iff_ne.mpr (by omega)⟩
  refine PySem.P.mul_str ?_ (fun _ _ => ?_) (fun _ _ => ?_) ?_
  · have a : ¬ n < -(2 ^ 63 : Int) := by omega
    have b : ¬ n ≥ 2 ^ 63 := by omega
    rw [decide_eq_false a, decide_eq_false b]
    rfl
  · have hz : (z.length : Int) ≤ 1000 := by omega
    have : (1000 : Int) ≤ (2 ^ 63 - 1) / n := by
      rw [Int.le_ediv_iff_mul_le (by omega)]
      omega
    omega
  · unfold Builtin.Str.tooLong
    refine decide_eq_false ?_
    have : z.length * n.toNat ≤ 1000 * 100 := Nat.mul_le_mul h4 (by omega)
    have e : (1000 * 100 : Nat) ≤ sizeLine := by decide
    omega
  · rw [if_neg (by omega), n1]
    exact ⟨h5, .str ⟨_⟩, H, I.tok _, ⟨_, rfl⟩, q⟩
end
/-- a def of the module, called by keywords alone -/
structure CalK (P : Program) (w : World) (K : PySem.W.Frag) (mg : Str → Option Value) (base : Heap) (k : Nat) (x : Str) (ks : List Str) (sp : Sp) (g : {α : Type} → List α → List α) : Prop where
  ex : ∃ (f : Addr) (fd : FuncData) (ps : List Str), FnOk P w K mg base CX0 k f fd ps sp ∧ mg x = some (.ref f) ∧ PySem.W.keepIn K (.ref f) = true ∧
    (∀ (s : Shared) (ws : List Value), ws.length = ks.length → BindsTo s fd ⟨[], ks.zip ws⟩ (ps.zip (g ws))) ∧ (∀ {zs : List V} {ws : List Value}, Vals zs ws → Vals (g zs) (g ws))
def tCK0 (sp : Sp) (n : Nat) (g : {α : Type} → List α → List α) (tk : TA) : TE := fun σ H Q => tk σ H fun zs H2 => zs.length = n ∧ sp (g zs) H2 Q E0
section
variable {X : Cx} {k j : Nat} {x : Str} {ks : List Str} {sp : Sp} {g : {α : Type} → List α → List α} {kws : List Keyword} {tk : TA} {p pos : Pos}
theorem pe_ck0 (c : CalK X.prog X.w X.K X.mg X.base k x ks sp g) (hr : Room j X.A) (hk : k ≤ j) (hg : Gl X x) (hkw : PK X kws tk)
    (hall : (backToKw pos (keywordEach kws X.env)).all (·.1.isSome) = true := by rfl) (hks : (backToKw pos (keywordEach kws X.env)).filterMap (·.1) = ks := by rfl) (hdb : (x == ("__debug__" : Str)) = false := by decide)
    (hpl : ((backTo pos (starEach [] X.env)).any (·.1) || (backToKw pos (keywordEach kws X.env)).any (·.1.isNone)) = false := by rfl) :
    PE X (.Call (.Name x p) [] kws pos) (tCK0 sp ks.length g tk) := by
  obtain ⟨f, fd, ps, F, hm, kp, hb, hrel⟩ := c.ex
  refine ⟨fun pins s σ H Q I h => ?_⟩
  refine wpAny_Call_Name_kw (ld_glob I hg hm ?_ hdb)
  refine PySem.W.callWith_KW0 (h₀ := X.base) I.ok.mod.kin kp hall ?_ hpl
  refine thn (hkw.run pos pins s σ H _ I h) fun ws s2 ⟨zs, H2, I2, rz, l2, q2⟩ => ⟨I2.kIn, ?_⟩
  rw [hks]
  have lw : ws.length = ks.length := rz.length.symm.trans l2
  refine wpAny_call (codeAny_mono (F.run X.A X.stack s2 H2 ⟨[], ks.zip ws⟩ (g ws) (g zs) Q E0 (hr.mono hk) I2.env0 (hb s2 ws lw) (hrel rz) q2) fun r s' hq => ?_)
  cases r with
  | error e => exact pass0 pins σ H2 s2 e s' I2 hq
  | ok fl =>
    cases fl with
    | ret u => exact I2.after hq
    | next => exact False.elim hq
    | brk => exact False.elim hq
    | cont => exact False.elim hq
end
theorem upd_self {H : Hp} {a : Addr} {o : HO} (h : H a = some o) : upd H a o = H := by
  funext b
  by_cases e : b = a
  · rw [e, upd_same, h]
  · rw [upd_ne e]
/-! ### heaps: all but one object as it was -/
def Keep (a : Addr) (H H' : Hp) : Prop := ∀ b o, b ≠ a → H b = some o → H' b = some o
theorem Keep.refl (a : Addr) (H : Hp) : Keep a H H := fun _ _ _ h => h
theorem Keep.trans {a : Addr} {H H1 H2 : Hp} (x : Keep a H H1) (y : Keep a H1 H2) : Keep a H H2 := fun b o n h => y b o n (x b o n h)
theorem Keep.new {a p : Addr} {H : Hp} {o : HO} (h : H p = none) : Keep a H (upd H p o) := fun b u _ e => by
  rw [upd_ne (ne_of_none e h)]
  exact e
theorem Keep.at {a : Addr} {H : Hp} {o : HO} : Keep a H (upd H a o) := fun b u n e => by
  rw [upd_ne n]
  exact e
/-- an object that H does not know changes -/
theorem Keep.mut {a p : Addr} {H H' : Hp} {o : HO} (k : Keep a H H') (h : H p = none) : Keep a H (upd H' p o) := fun b u n e => by
  rw [upd_ne (ne_of_none e h)]
  exact k b u n e
theorem Keep.free {a p : Addr} {H H' : Hp} (k : Keep a H H') (h : H' p = none) (n : p ≠ a) : H p = none := by
  cases q : H p with
  | none => rfl
  | some o =>
    rw [k p o n q] at h
    cases h
theorem Keep.seqL {K : PySem.W.Frag} {a b : Addr} {H H' : Hp} {xs : List V} (e : Keep a H H') (n : b ≠ a) (h : SqL K H b xs) : SqL K H' b xs := by
  rcases h with (h | ⟨o, h⟩) | h
  · exact .inl (.inl (e _ _ n h))
  · exact .inl (.inr ⟨o, e _ _ n h⟩)
  · exact .inr h
theorem Keep.seqT {K : PySem.W.Frag} {a b : Addr} {H H' : Hp} {xs : List V} (e : Keep a H H') (n : b ≠ a) (h : SqT K H b xs) : SqT K H' b xs := by
  rcases h with (h | ⟨o, h⟩) | h
  · exact .inl (.inl (e _ _ n h))
  · exact .inl (.inr ⟨o, e _ _ n h⟩)
  · exact .inr h
theorem seq_in {K : PySem.W.Frag} {a : Addr} {H : Hp} {xs : List V} (h : H a = some (.lst xs)) : SqL K H a xs := .inl (.inl h)
theorem sqt_in {K : PySem.W.Frag} {a : Addr} {H : Hp} {xs : List V} (h : H a = some (.tup xs)) : SqT K H a xs := .inl (.inl h)
/-! ### what draws: a list of a great number and a count -/
structure Jug (H : Hp) (a : Addr) (n : Nat) : Prop where
  ex : ∃ w c : Int, H a = some (.lst [.int w, .int c]) ∧ 0 ≤ w ∧ w.natAbs < 2 ^ 1000 ∧ 0 ≤ c ∧ c ≤ n
theorem Jug.mono {H : Hp} {a : Addr} {n m : Nat} (j : Jug H a n) (h : n ≤ m) : Jug H a m := by
  obtain ⟨w, c, e, h1, h2, h3, h4⟩ := j.ex
  exact ⟨w, c, e, h1, h2, h3, by omega⟩
theorem Jug.upd {H : Hp} {a p : Addr} {n : Nat} {o : HO} (j : Jug H a n) (h : p ≠ a) : Jug (upd H p o) a n := by
  obtain ⟨w, c, e, h1⟩ := j.ex
  exact ⟨w, c, by rw [upd_ne h.symm]; exact e, h1⟩
theorem Jug.new {H : Hp} {a p : Addr} {n : Nat} {o : HO} (j : Jug H a n) (h : H p = none) : Jug (L2.upd H p o) a n := by
  obtain ⟨w, c, e, _⟩ := j.ex
  exact j.upd (ne_of_none e h).symm
theorem Jug.ne {H : Hp} {a p : Addr} {n : Nat} (j : Jug H a n) (h : H p = none) : p ≠ a := by
  obtain ⟨w, c, e, _⟩ := j.ex
  exact (ne_of_none e h).symm
/-- the promise of what draws an integer below a number -/
def spPour : Sp := fun vs H Q _ => ∃ (a : Addr) (m : Int) (n : Nat), vs = [.ref a, .int m] ∧ 0 < m ∧ m.natAbs < 2 ^ 300 ∧ Jug H a n ∧ n ≤ 2 ^ 40 ∧
  ∀ (r : Int) (H' : Hp), 0 ≤ r → r < m → Jug H' a (n + 1) → Keep a H H' → (∀ p, H p = none → H' p = none) → Q (.int r) H'
/-- the promise of what makes it -/
def spJug (K : PySem.W.Frag) : Sp := fun vs H Q _ => ∃ (a : Addr) (ns : List Int), vs = [.ref a] ∧ SqL K H a (ns.map V.int) ∧
  ∀ (p : Addr) (H' : Hp), H p = none → Jug H' p 0 → Same H H' → Q (.ref p) H'
end XB

namespace XB
open PySem PySem.Spec PyProof.Rows L2
open C8 (Cal Met Mak pe_c pe_mk pe_mt pe_mt0 pss_cut tCut)
/-- a def of the top, called x -/
structure DF (K : PySem.W.Frag) (mg : Str → Option Value) (x : Str) (st : Stmt) (f : Addr) (fd : FuncData) : Prop where
  fn : Fun K x x st f fd
  mgf : mg x = some (.ref f)
section
variable {P : Program} {w : World} {K : PySem.W.Frag} {mg : Str → Option Value} {base : Heap}
/-- it keeps a promise -/
structure OkD (P : Program) (w : World) (K : PySem.W.Frag) (mg : Str → Option Value) (base : Heap) (k : Nat) (x : Str) (st : Stmt) (ps : List Str) (sp : Sp) (f : Addr) (fd : FuncData) : Prop where
  df : DF K mg x st f fd
  ok : FnOk P w K mg base CX0 k f fd ps sp
theorem okd {x : Str} {st : Stmt} {f : Addr} {fd : FuncData} {N ps : List Str} {k : Nat} {sp : Sp} (D : DF K mg x st f fd) (S : FnScope N ps (defScope st)) (len : ∀ vs H Q E, sp vs H Q E → vs.length = ps.length)
    (hbody : ∀ (cdv : Value) (A : Around) (outer : List Env) (s : Shared) (H : Hp) (vs : List V) (Q : VK) (E : XK), Room k (A.deeper (envOfC x (defScope st) s.heap.objs.size f cdv)) → sp vs H Q E →
      ∃ t, PSs (cxOf CX0 P w K mg base N x (defScope st) f cdv A outer s H E).nox (defBody st) t ∧ t { nx := fun _ H' => Q .non H', rt := Q } (start N vs) H) : OkD P w K mg base (k + 1) x st ps sp f fd := ⟨D, D.fn.ok S len hbody⟩
theorem OkD.cal {x : Str} {st : Stmt} {f : Addr} {fd : FuncData} {ps : List Str} {k : Nat} {sp : Sp} (O : OkD P w K mg base k x st ps sp f fd)
    (h : ∀ (kV doc pm : Value) (an : Option Addr) (cdv ct : Value) (us : List Value), us.length = ps.length → bindArgs (PySem.W.fnOf x x (defArgs st) (defBody st) (defScope st) .none kV doc pm an cdv ct) ⟨us, []⟩ = pure (ps.zip us)) : Cal P w K mg base k x sp [] :=
  ⟨f, fd, ps, [], O.ok, O.df.mgf, O.df.fn.kp, O.df.fn.binds h, .nil⟩
theorem OkD.calk {x : Str} {st : Stmt} {f : Addr} {fd : FuncData} {ps ks : List Str} {k : Nat} {sp : Sp} {g : {α : Type} → List α → List α} (O : OkD P w K mg base k x st ps sp f fd)
    (h : ∀ (kV doc pm : Value) (an : Option Addr) (cdv ct : Value) (ws : List Value), ws.length = ks.length → bindArgs (PySem.W.fnOf x x (defArgs st) (defBody st) (defScope st) .none kV doc pm an cdv ct) ⟨[], ks.zip ws⟩ = pure (ps.zip (g ws)))
    (hr : ∀ {zs : List V} {ws : List Value}, Vals zs ws → Vals (g zs) (g ws)) : CalK P w K mg base k x ks sp g := by
  obtain ⟨oc, od, kV, doc, pm, an, cdv, ct, osl, rfl, lk, hcd⟩ := O.df.fn.ex
  exact ⟨f, _, ps, O.ok, O.df.mgf, O.df.fn.kp, fun s ws l => .of_eq (h kV doc pm an cdv ct ws l), hr⟩
end
/-! ### small mathematics -/
theorem cut_to (xs : List V) (n : Nat) : cutV xs none (some (n : Int)) = xs.take n := by
  unfold cutV
  rw [HT.sIx_none, HT.sIx_nat]
  show List.take (min n xs.length - 0) (List.drop 0 xs) = xs.take n
  rw [List.drop_zero, Nat.sub_zero]
  by_cases h : n ≤ xs.length
  · rw [Nat.min_eq_left h]
  · rw [Nat.min_eq_right (by omega), List.take_of_length_le (Nat.le_refl _), List.take_of_length_le (by omega)]
end XB

set_option maxHeartbeats 4000000
/-! An error of an own class, with an own __init__, made by keywords and held as a value. -/
namespace PySem
namespace KX
open PySem.W PySem.Calls PyProof.Rows PySem.HandSPX
open Builtin Builtin.ObjectAttr
theorem tail_nil : W.kdv_tup [] = ({ cls := .type "tuple", data := .seq #[] } : Obj) := rfl
section
variable {M : Model} {A : Around} {E : Value → Shared → Prop} {h : Heap} {g : Array GenState} {d : Drawn} {t : Nat} {os : OsState}
variable {nm q : Str} {C N : Addr} {bs bm bmB : List Value} {hdct : Bool} {sn : List Str} {sub : List Value} {ab : Bool} {col : Option Bool} {dd : Option Addr} {k0 k1 k2 k3 k5 : Option Value} {B newId initId : String} {kw : List (Str × Value)}
theorem check_new_kw (F : ExcBaseFacts B newId initId bmB) (hT : ∀ X : String, bm.contains (.type X) = bmB.contains (.type X)) {Q : Unit → Shared → Prop}
    (hC : h.get? C = some (excClassObj nm q C N bs bm hdct sn sub ab col dd k0 k1 k2 k3 k5 newId)) (hq : Q () ⟨h, g, d, t, os⟩) : wpAny M A (checkBuiltinCall newId ⟨[.ref C], kw⟩) Q E ⟨h, g, d, t, os⟩ := by
  have hcont : (Value.ref C :: bm).contains (.type B) = true := by rw [List.contains_cons, hT, F.hasB, Bool.or_true]
  have hstar := F.noStar
  simp only [checkBuiltinCall, F.newKind, F.newSplit, F.newRow]
  repeat (first | refine wpAny_loadPart_at hC ?_ | (refine wpAny_isSubtype_exc hC ?_; rw [hcont]) | refine wpAny_staticBase_exc hC ?_ | refine wpAny_madeBy_exc hC ?_ | simp only [bne_self_eq_false, Bool.false_eq_true, if_false] | wp_step)
  exact hq
theorem check_call_kw {Q : Unit → Shared → Prop} (hC : h.get? C = some (excClassObj nm q C N bs bm hdct sn sub ab col dd k0 k1 k2 k3 k5 newId))
    (hq : Q () ⟨h, g, d, t, os⟩) : wpAny M A (checkBuiltinCall "type.__call__" ⟨[.ref C], kw⟩) Q E ⟨h, g, d, t, os⟩ := by
  have f3 := tc_sub
  have hT : (⟨h, g, d, t, os⟩ : Shared).TypeIs (.ref C) "type" := ⟨_, hC, rfl⟩
  simp only [checkBuiltinCall, tc_kind, tc_split]
  repeat (any_goals (first | assumption | with_reducible refine wpAny_loadPart_at hC ?_ | with_reducible refine wpAny_onRaise ?_ | with_reducible refine wpAny_map ?_ | wp_step))
end
section
variable {prog : Program} {w : World} {A : Around} {E : Value → Shared → Prop} {R : Result → Shared → Prop} {h : Heap} {g : Array GenState} {d : Drawn} {t : Nat} {os : OsState}
variable {nm q : Str} {C N : Addr} {bs bm bmB : List Value} {hdct : Bool} {sn : List Str} {sub : List Value} {ab : Bool} {col : Option Bool} {dd : Option Addr} {k0 k1 k2 k3 k5 : Option Value} {B newId initId : String} {kw : List (Str × Value)}
theorem new_kw (F : ExcBaseFacts B newId initId bmB) (hT : ∀ X : String, bm.contains (.type X) = bmB.contains (.type X))
    (hC : h.get? C = some (excClassObj nm q C N bs bm hdct sn sub ab col dd k0 k1 k2 k3 k5 newId))
    (hq : R (.ok (.ret (.ref (h.objs.size + 1)))) ⟨(h.push (W.kdv_tup [])).push (excO C h.objs.size), g, d, t, os⟩) :
    codeAny (model prog w) A (.builtin newId ⟨[.ref C], kw⟩) R ⟨h, g, d, t, os⟩ := by
  have hends := F.ends
  have hrest : ([] : List Value).length ≤ sizeLine := Nat.zero_le _
  have hcB : (Value.ref C :: bm).contains (.type B) = true := by rw [List.contains_cons, hT, F.hasB, Bool.or_true]
  have hcA : (Value.ref C :: bm).contains (.type "AttributeError") = false := by rw [List.contains_cons, hT, F.noAttr]; rfl
  have hcN : (Value.ref C :: bm).contains (.type "NameError") = false := by rw [List.contains_cons, hT, F.noName]; rfl
  refine codeAny_builtinAt F.entry ?_
  unfold Builtin.«BaseException.__new__»
  refine wpAt_bind ?_
  show wpAt _ _ _ (stack >>= _) _ _ _
  refine wpAt_bind (wpAt_stack fun p below => wpAt_of_wpAny ?_)
  wp_walk
  refine wpAt_of_wpAny ?_
  rw [F.owner]
  repeat (first | with_reducible refine wpAny_madeHere_exc F.canon hC ?_ | with_reducible refine wpAny_loadPart_at hC ?_ | (with_reducible refine wpAny_isSubtype_exc hC ?_; first | rw [hcB] | rw [hcA] | rw [hcN]) | wp_step)
  show R _ _
  rw [Heap.size_push]
  exact hq
theorem type_call_kw (F : ExcBaseFacts B newId initId bmB) (hT : ∀ X : String, bm.contains (.type X) = bmB.contains (.type X)) {fI : Addr} {Q : Fin → Shared → Prop}
    (hC : h.get? C = some (excClassObj nm q C N bs bm hdct sn sub ab col dd k0 k1 k2 k3 k5 newId))
    (hi : W.Looks (model prog w) h (typeLookup (.ref C) "__init__") (some (.ref fI))) (hb : ∀ self, W.Looks (model prog w) h (bindSpecial (.ref fI) self) (.ref fI, [self]))
    (hq : codeAny (model prog w) A (.call (.ref fI) ⟨[.ref (h.objs.size + 1)], kw⟩)
      (fun r s' => match r with | .ok (.ret v) => v = .none ∧ Q (.done (.ret (.ref (h.objs.size + 1)))) s' | .ok _ => False | .error e => E e s')
      ⟨(h.push (W.kdv_tup [])).push (excO C h.objs.size), g, d, t, os⟩) :
    wpAny (model prog w) A (Builtin.«type.__call__» ⟨[.ref C], kw⟩) Q E ⟨h, g, d, t, os⟩ := by
  repeat (first | with_reducible refine wpAny_loadPart_at hC ?_ | with_reducible refine wpAny_madeBy_exc hC ?_ | wp_step)
  refine codeAny_call_builtin_code (Code.quiet_builtin _ F.quiet) (check_new_kw F hT hC ?_)
  refine new_kw F hT hC ?_
  show wpAny _ _ _ _ _ _
  have k : ∀ b o, h.get? b = some o → ((h.push (W.kdv_tup [])).push (excO C h.objs.size)).get? b = some o := fun b o e => Heap.get?_push_of_some _ (Heap.get?_push_of_some _ e)
  have hC₁ := k _ _ hC
  have hget : ((h.push (W.kdv_tup [])).push (excO C h.objs.size)).get? (h.objs.size + 1) = some (excO C h.objs.size) := by heap_get
  have hcC : (Value.ref C :: bm).contains (.ref C) = true := by simp
  have i1 := hi.keeps k
  have b1 := (hb (.ref (h.objs.size + 1))).keeps k
  unfold isInstance
  repeat (first | with_reducible refine wpAny_loadPart_at hget ?_ | (with_reducible refine wpAny_isSubtype_exc hC₁ ?_; rw [hcC]) | wp_step)
  show wpAny _ _ (typeLookup (.ref C) _) _ _ _
  refine i1.at ?_
  refine wpAny_holding (wpAny_bind (b1.at ?_))
  refine wpAny_bind (wpAny_call (codeAny_mono hq fun r s' z => ?_))
  rcases r with e | (v | _ | _ | _) <;> first | exact z | exact z.elim | skip
  obtain ⟨rfl, z⟩ := z
  first
    | exact wpAny_pure (wpAny_pure z)
    | (wp_walk; exact z)
theorem call_kw (F : ExcBaseFacts B newId initId bmB) (hT : ∀ X : String, bm.contains (.type X) = bmB.contains (.type X)) {fI : Addr}
    (hC : h.get? C = some (excClassObj nm q C N bs bm hdct sn sub ab col dd k0 k1 k2 k3 k5 newId))
    (hi : W.Looks (model prog w) h (typeLookup (.ref C) "__init__") (some (.ref fI))) (hb : ∀ self, W.Looks (model prog w) h (bindSpecial (.ref fI) self) (.ref fI, [self]))
    (hq : codeAny (model prog w) (A.under (.builtin "type.__call__" ⟨[.ref C], kw⟩)) (.call (.ref fI) ⟨[.ref (h.objs.size + 1)], kw⟩) (W.InitBack (h.objs.size + 1) R)
      ⟨(h.push (W.kdv_tup [])).push (excO C h.objs.size), g, d, t, os⟩) :
    codeAny (model prog w) A (.call (.ref C) ⟨[], kw⟩) R ⟨h, g, d, t, os⟩ := by
  have f1 := tc_lookup
  have f2 := tc_bind (.ref C)
  have hTy : (⟨h, g, d, t, os⟩ : Shared).TypeIs (.ref C) "type" := ⟨_, hC, rfl⟩
  refine codeAny_of_tree ?_
  show wpAny _ _ (callAny (.ref C) _) _ _ _
  repeat (any_goals (first | assumption | with_reducible refine wpAny_loadPart_at hC ?_ | wp_step))
  refine ⟨rfl, ?_⟩
  refine codeAny_call_builtin_at (Code.quiet_builtin _ (by decide +kernel)) entry_typeCall (check_call_kw hC (type_call_kw F hT hC hi hb ?_))
  refine codeAny_mono hq fun r s' z => ?_
  rcases r with e | (v | _ | _ | _) <;> exact z
end
end KX
end PySem

set_option maxHeartbeats 4000000
/-! Errors of own classes held as values: made by place or by keywords, their fields read, isinstance asked of them. -/
namespace PySem.W
open PySem PySem.Spec PySem.Calls PyProof.Rows
section
variable {prog : Program} {w : World} {A : Around} {E : Value → Shared → Prop} {s : Shared} {K : Frag} {x D : Addr} {ox : Obj} {od : Option Obj}
theorem xv_findObj {C : Addr} {name : Str} {a g : Value} (hc : (clsIn K C).isSome = true) (ha : findIn K (.ref C) name = some (some a)) (hg : specialIn K a "__get__" = some (some g)) (ht : takesIn K a = some true) : findObj K C od name = some (.bind g a) := by
  obtain ⟨cd, hc⟩ := Option.isSome_iff_exists.mp hc
  unfold findObj
  rw [hc, Option.bind_some, ha, Option.bind_some]
  simp [hg, ht]
theorem xv_class {Q : Option Value → Shared → Prop} (T : L2.ExcC K D)
    (X : K.In s.heap) (I : InstAt s.heap x ox D od) (h : Q (some (.ref D)) { s with toks := s.toks + 1 }) : wpAny (model prog w) A (getAttr? (.ref x) "__class__") Q E s := by
  obtain ⟨hga, hgt, hsub, hdct, ha, hn, htk, hm⟩ := T
  have hf : findObj K D od "__class__" = some (.bind (.builtin "getset_descriptor.__get__") (.builtin "object.__class__")) := xv_findObj (by obtain ⟨cd, hc, _⟩ := any_some hdct; rw [hc]; rfl) ha hn htk
  obtain ⟨hp, g, d, t, os⟩ := s
  have L0 := I.type (M := model prog w)
  have L1 := looks_findIn (M := model prog w) X hga
  have L2 := looks_findIn (M := model prog w) X hgt
  have L3 := looks_find (M := model prog w) X I hf
  have sub : Looks (model prog w) hp (isInstance (.ref x) (.type "BaseException")) true := L0.andThen (looks_subIn X hsub)
  have hx0 : (false && onTheHeap (Value.builtin "BaseException.__getattribute__")) = false := rfl
  have hx2 : (Value.builtin "BaseException.__getattribute__" == Value.builtin "object.__getattribute__") = false := by decide +kernel
  have hx1 : (onTheHeap (Value.ref D) && Value.builtin "BaseException.__getattribute__" == Value.builtin "object.__getattribute__") = false := by rw [hx2]; rfl
  unfold getAttr? getAttrBy? getAttrBy
  refine wpAny_bind (wpAny_mkText (wpAny_bind (wpAny_attempt (wpAny_holding (wpAny_bind (L0.at (wpAny_bind (L1.at ?_))))))))
  show wpAny _ _ (if (onTheHeap (Value.ref D) && Value.builtin "BaseException.__getattribute__" == Value.builtin "object.__getattribute__") = true then _ else _) _ _ _
  rw [hx1, if_neg Bool.false_ne_true]
  unfold getAttrByItsOwn hookBefore
  refine wpAny_bind ?_
  rw [if_pos (show onTheHeap (Value.ref D) = true from rfl)]
  refine L2.at ?_
  refine wpAny_bind (wpAny_attempt (wpAny_holding ?_))
  unfold callGetattribute
  rw [hx0, if_neg Bool.false_ne_true]
  unfold boundAndCalled
  rw [PySem.F.excAttr_ValueError.ga.bind (.ref x)]
  refine wpAny_bind (wpAny_pure ?_)
  show wpAny _ _ (call (.builtin "BaseException.__getattribute__") [.ref x, .str "__class__" t]) _ _ _
  refine wpAny_call (codeAny_call_builtin PySem.F.excAttr_ValueError.ga.plain PySem.F.entry_bexc_ga ?_)
  refine @check_slot (model prog w) _ _ ⟨hp, g, d, t + 1, os⟩ "BaseException.__getattribute__" "BaseException" "__getattribute__" (.ref x) [.str "__class__" t] [] _ (by decide +kernel) (by decide +kernel) sub (PySem.F.args_bexc_ga (.ref x) (.str "__class__" t)) ?_
  unfold Builtin.«object.__getattribute__»
  refine wpAny_bind (wpAny_of_eq (a := ((Value.ref x : Value), [Value.str "__class__" t])) (by first | rfl | (simp only [slotArgs]; rfl)) ?_)
  refine wpAny_bind (wpAny_pure (wpAny_bind (L0.at (wpAny_bind (L3.at ?_)))))
  show wpAny _ _ (holding [Value.builtin "object.__class__"] (call (.builtin "getset_descriptor.__get__") [.builtin "object.__class__", .ref x, .ref D]) >>= ret) _ _ _
  refine wpAny_bind (wpAny_holding (wpAny_call (class_get (s := ⟨hp, g, d, t + 1, os⟩) (ox := ox) (od := od) X I hm ?_)))
  refine wpAny_pure ?_
  show wpAny _ _ (handedOut (.ref D)) _ _ _
  rw [handedOut_of (v := .ref D) rfl]
  first
    | exact wpAny_pure (wpAny_pure h)
    | exact wpAny_pure h
    | exact wpAny_pure (wpAny_bind (wpAny_pure (wpAny_pure h)))
theorem xv_kit (T : L2.ExcC K D) : KitX K (.ref x) (.ref D) (fun h => InstAt h x ox D od) where
  ty := fun _ _ _ I => I.type
  it := fun _ _ X _ => by
    obtain ⟨cdD, hcD, _⟩ := any_some T.hd
    unfold clsIn at hcD
    split at hcD
    · rename_i c' d' cd' sl' ho
      intro A' Q' E' s' k q
      unfold isType loadHead
      exact wpAny_bind (wpAny_loadPart (k _ _ (X _ _ ho)) (wpAny_pure q))
    · cases hcD
  ne := fun h tp dd its n sl X htp => by
    obtain ⟨cdD, hcD, _⟩ := any_some T.hd
    refine Bool.eq_false_iff.mpr fun q => ?_
    have e : D = tp := Value.ref.inj (beq_iff_eq.mp q)
    subst e
    unfold clsIn at hcD
    split at hcD
    · rename_i c' d' cd' sl' ho
      have z := (X _ _ ho).symm.trans htp
      cases z
    · cases hcD
  ca := fun X I k => xv_class T X I k
end
end PySem.W
namespace XV
open PySem PySem.Spec PyProof.Rows L2 XB
/-- at a: an error of the class at C that keeps the fields fs; none: of a class without an own __init__ -/
def Er (H : Hp) (C a : Addr) : Option (List (Str × V)) → Prop
  | some fs => ∃ dx, H a = some (exo a C (some dx)) ∧ H dx = some (exd dx fs)
  | none => H a = some (ExO (.ref C) a)
theorem Er.same {H H' : Hp} {C a : Addr} {fs : Option (List (Str × V))} (e : Same H H') (h : Er H C a fs) : Er H' C a fs := by
  cases fs with
  | some fs =>
    obtain ⟨dx, h1, h2⟩ := h
    exact ⟨dx, e _ _ h1, e _ _ h2⟩
  | none => exact e _ _ h
theorem er_at {X : Cx} {pins : List (Addr × Obj)} {σ : L2.St} {H : Hp} {s : Shared} {C a : Addr} {fs : Option (List (Str × V))} (I : Inv X pins σ H s) (h : Er H C a fs) : ∃ (o : Obj) (od : Option Obj), PySem.W.InstAt s.heap a o C od := by
  cases fs with
  | some fs =>
    obtain ⟨dx, h1, h2⟩ := h
    obtain ⟨t1, ho⟩ := exo_at I.hok h1
    obtain ⟨mA, hns, _⟩ := exd_at I.hok h2
    obtain ⟨od, hd, _⟩ := lookIn_ns hns
    exact ⟨_, some od, ho, rfl, rfl, hd⟩
  | none =>
    obtain ⟨⟨oe, vs, ho, hz, hd, _⟩, _, _⟩ := I.hok a _ h
    obtain ⟨oc, od, oda, osl⟩ := oe
    obtain ⟨h1, h2⟩ := hz
    dsimp only at h1 h2 hd
    subst h1 h2 hd
    exact ⟨_, none, ho, rfl, rfl, trivial⟩
/-- isinstance(e, c), e an error held as a value -/
def rIsX (K : PySem.W.Frag) : List V → Hp → VK → Prop := fun xs H Q => ∃ (a D : Addr) (c : V) (cv : Value) (fs : Option (List (Str × V))) (b : Bool), xs = [.ref a, c] ∧ Er H D a fs ∧ ExcC K D ∧ ClsV c cv ∧ PySem.W.kitOne K (.ref D) cv = some b ∧ Q (.bl b) H
theorem call_isX {X : Cx} : CallR X (.builtin "isinstance") (rIsX X.K) := by
  intro pins s σ H xs us Q I r h
  obtain ⟨a, D, c, cv, fs, b, rfl, er, C, hcv, e, q⟩ := h
  obtain ⟨u1, u2, rfl, r1, r2⟩ := vals2 r
  have ec := hcv.eq r2
  subst ec
  cases (show u1 = Value.ref a from r1)
  obtain ⟨o, od, J⟩ := er_at I er
  exact PySem.W.kia_one (PySem.W.xv_kit C) I.kIn J e (fun z => nomatch z) fun tk => ⟨.bl b, H, I.tok tk, rfl, q⟩
/-- e.f -/
def tXv (K : PySem.W.Frag) (f : Str) (te : TE) : TE := fun σ H Q => te σ H fun x H1 => ∃ (a C : Addr) (fs : List (Str × V)) (v : V), x = .ref a ∧ Er H1 C a (some fs) ∧ XfC K C ∧ PySem.W.findIn K (.ref C) f = some none ∧ fs.lookup f = some v ∧ Q v H1
theorem pe_xv {X : Cx} {e : Expr} {te : TE} {pos : Pos} {n : Str} (he : PE X e te) (hb : attributeBase e n X.env (eval e X.env) = eval e X.env := by rfl) :
    PE X (.Attribute e n pos) (tXv X.K n te) := by
  refine ⟨fun pins s σ H Q I h => ?_⟩
  refine attr_of hb (thn (he.run pins s σ H _ I h) fun u s1 hh => ?_)
  obtain ⟨x, H1, I1, rx, a, C, fs, v, ex, ⟨dx, h1, h2⟩, T, hno, l, q⟩ := hh
  subst ex
  obtain rfl : u = Value.ref a := rx
  obtain ⟨t1, ho⟩ := exo_at I1.hok h1
  obtain ⟨mA, hns, hr⟩ := exd_at I1.hok h2
  obtain ⟨od, hd, hl⟩ := lookIn_ns hns
  obtain ⟨u, hu, ru⟩ := RelO.some_of (v := v) (o := mA n) (by rw [← l]; exact hr n)
  have J : PySem.W.InstAt s1.heap a _ C (some od) := ⟨ho, rfl, rfl, hd⟩
  exact HandSPX.exc_get I1.kIn J T.ga T.gg T.exC (PySem.W.findObj_own T.hdC hno rfl (by rw [hl, hu])) (handed_of ru) ⟨v, H1, I1.tok _, ru, q⟩
/-- an own class of errors over ValueError at C, called x, its own __init__ at fI keeping sp -/
structure XO (P : Program) (w : World) (K : PySem.W.Frag) (mg : Str → Option Value) (base : Heap) (k : Nat) (x : Str) (C fI : Addr) (fd : FuncData) (ps : List Str) (sp : Sp) : Prop where
  T : OexC K C
  iC : PySem.W.findIn K (.ref C) "__init__" = some (some (.ref fI))
  tI : PySem.W.typeIn K (.ref fI) = some (.type "function")
  gC : mg x = some (.ref C)
  F : FnOk P w K mg base CX0 k fI fd ps sp
def tMkV (C : Addr) (sp : Sp) (ta : TA) : TE := fun σ H Q => ta σ H fun vs H1 => vs.length ≤ 1000 ∧ ∀ a, H1 a = none → sp (.ref a :: vs) (upd H1 a (exo a C none)) (fun v H2 => v = .non ∧ Q (.ref a) H2) E0
section
variable {X : Cx} {x : Str} {C fI : Addr} {fd : FuncData} {ps ks : List Str} {sp : Sp} {k j : Nat} {e : Expr} {es : List Expr} {kws : List Keyword} {ta : TA} {p pos : Pos} {g : {α : Type} → List α → List α}
theorem pe_mkv (O : XO X.prog X.w X.K X.mg X.base k x C fI fd ps sp) (hr : Room (j + 1) X.A) (hk : k ≤ j) (hb : Binds X.K fd ps []) (hg : Gl X x) (ha : PA X (e :: es) ta)
    (hdb : (x == ("__debug__" : Str)) = false := by decide) (he : starEach (e :: es) X.env = (false, eval e X.env) :: starEach es X.env := by rfl) (hpl : (backTo pos (starEach es X.env)).any (·.1) = false := by rfl) :
    PE X (.Call (.Name x p) (e :: es) [] pos) (tMkV C sp ta) := by
  refine ⟨fun pins s σ H Q I h => ?_⟩
  have T := O.T
  obtain ⟨nm, q, N, bs, bm, sn, sub, ab, col, dd, k0, k1, k2, k3, k5, hC, hbm⟩ := T.cls
  refine wpAny_Call_Name_kw (ld_glob I hg O.gC ?_ hdb)
  refine PySem.W.callWith_K (h₀ := X.base) I.ok.mod.kin T.kC (thn (ha.run pos pins s σ H _ I h) fun us s1 ⟨vs, H1, I1, r1, hz, q1⟩ => ⟨I1.kIn, ?_⟩) he hpl
  show wpAny _ _ (call (.ref C) us) _ _ _
  obtain ⟨hp, g, dr, tk, os⟩ := s1
  have hsz : hp.objs.size ≤ hp.objs.size + 1 := Nat.le_succ _
  have hn : H1 (hp.objs.size + 1) = none := I1.hok.fresh hsz
  have hq := q1 (hp.objs.size + 1) hn
  have kk : ∀ b o, hp.get? b = some o → ((hp.push (PySem.W.kdv_tup us)).push (PySem.HandSPX.excO C hp.objs.size)).get? b = some o := fun b o e => Heap.get?_push_of_some _ (Heap.get?_push_of_some _ e)
  have hget : ((hp.push (PySem.W.kdv_tup us)).push (PySem.HandSPX.excO C hp.objs.size)).get? (hp.objs.size + 1) = some (PySem.HandSPX.excO C hp.objs.size) := by heap_get
  have I2 : Inv X pins σ (upd H1 (hp.objs.size + 1) (exo (hp.objs.size + 1) C none)) ⟨(hp.push (PySem.W.kdv_tup us)).push (PySem.HandSPX.excO C hp.objs.size), g, dr, tk, os⟩ :=
    I1.laid (t' := tk) (a := hp.objs.size + 1) (o := exo (hp.objs.size + 1) C none) (h' := (hp.push (PySem.W.kdv_tup us)).push (PySem.HandSPX.excO C hp.objs.size)) kk hsz (exo_ok hget)
  have r2 : Vals (V.ref (hp.objs.size + 1) :: vs) (Value.ref (hp.objs.size + 1) :: us) := .cons rfl r1
  have hl : ((Value.ref (hp.objs.size + 1) :: us) ++ []).length = ps.length := by
    have e := r2.length
    rw [O.F.len _ _ _ _ hq] at e
    rw [List.append_nil]
    exact e.symm
  have hus : us.length ≤ sizeLine := by
    rw [← Paired.length r1, sizeLine_eq]
    omega
  have hb2 := hb _ (Value.ref (hp.objs.size + 1) :: us) I2.kIn hl
  rw [List.append_nil] at hb2
  refine wpAny_call (PySem.HandSPX.call_own F.excBase_ValueError (fun Y => PySem.HandSPX.refsVE_contains Y bm hbm) (I1.kIn _ _ hC) (PySem.W.looks_findIn I1.kIn O.iC) (fun self => PySem.W.bind_fn I1.kIn self O.tI) hus
    (codeAny_mono (O.F.run _ X.stack _ _ ⟨Value.ref (hp.objs.size + 1) :: us, []⟩ (Value.ref (hp.objs.size + 1) :: us) _ _ E0 (((hr.mono (by omega)) : Room (k + 1) X.A).make C us []) (I2.env0.make C us []) hb2 r2 hq) fun r s' hq' => ?_))
  cases r with
  | error er => exact pass0 pins σ _ _ er s' I2 hq'
  | ok fl =>
    cases fl with
    | ret u =>
      obtain ⟨v, H2, I3, rv, ev, q2⟩ := I2.after hq'
      subst ev
      exact ⟨rv, .ref (hp.objs.size + 1), H2, I3, rfl, q2⟩
    | next => exact False.elim hq'
    | brk => exact False.elim hq'
    | cont => exact False.elim hq'
def tMkK (C : Addr) (sp : Sp) (n : Nat) (g : {α : Type} → List α → List α) (ta : TA) : TE := fun σ H Q => ta σ H fun zs H1 => zs.length = n ∧ ∀ a, H1 a = none → sp (.ref a :: g zs) (upd H1 a (exo a C none)) (fun v H2 => v = .non ∧ Q (.ref a) H2) E0
/-- .. by keywords alone -/
theorem pe_mkk (O : XO X.prog X.w X.K X.mg X.base k x C fI fd ps sp) (hr : Room (j + 1) X.A) (hk : k ≤ j) (hb : ∀ (s : Shared) (a : Value) (ws : List Value), ws.length = ks.length → BindsTo s fd ⟨[a], ks.zip ws⟩ (ps.zip (a :: g ws)))
    (hrel : ∀ {zs : List V} {ws : List Value}, Vals zs ws → Vals (g zs) (g ws)) (hg : Gl X x) (hkw : PK X kws ta)
    (hall : (backToKw pos (keywordEach kws X.env)).all (·.1.isSome) = true := by rfl) (hks : (backToKw pos (keywordEach kws X.env)).filterMap (·.1) = ks := by rfl) (hdb : (x == ("__debug__" : Str)) = false := by decide)
    (hpl : ((backTo pos (starEach [] X.env)).any (·.1) || (backToKw pos (keywordEach kws X.env)).any (·.1.isNone)) = false := by rfl) :
    PE X (.Call (.Name x p) [] kws pos) (tMkK C sp ks.length g ta) := by
  refine ⟨fun pins s σ H Q I h => ?_⟩
  have T := O.T
  obtain ⟨nm, q, N, bs, bm, sn, sub, ab, col, dd, k0, k1, k2, k3, k5, hC, hbm⟩ := T.cls
  refine wpAny_Call_Name_kw (ld_glob I hg O.gC ?_ hdb)
  refine PySem.W.callWith_KW0 (h₀ := X.base) I.ok.mod.kin T.kC hall ?_ hpl
  refine thn (hkw.run pos pins s σ H _ I h) fun ws s1 ⟨zs, H1, I1, rz, l2, q1⟩ => ⟨I1.kIn, ?_⟩
  rw [hks]
  have lw : ws.length = ks.length := rz.length.symm.trans l2
  show wpAny _ _ (call (.ref C) [] (ks.zip ws)) _ _ _
  obtain ⟨hp, g0, dr, tk, os⟩ := s1
  have hsz : hp.objs.size ≤ hp.objs.size + 1 := Nat.le_succ _
  have hn : H1 (hp.objs.size + 1) = none := I1.hok.fresh hsz
  have hq := q1 (hp.objs.size + 1) hn
  have kk : ∀ b o, hp.get? b = some o → ((hp.push (PySem.W.kdv_tup [])).push (PySem.HandSPX.excO C hp.objs.size)).get? b = some o := fun b o e => Heap.get?_push_of_some _ (Heap.get?_push_of_some _ e)
  have hget : ((hp.push (PySem.W.kdv_tup [])).push (PySem.HandSPX.excO C hp.objs.size)).get? (hp.objs.size + 1) = some (PySem.HandSPX.excO C hp.objs.size) := by heap_get
  have I2 : Inv X pins σ (upd H1 (hp.objs.size + 1) (exo (hp.objs.size + 1) C none)) ⟨(hp.push (PySem.W.kdv_tup [])).push (PySem.HandSPX.excO C hp.objs.size), g0, dr, tk, os⟩ :=
    I1.laid (t' := tk) (a := hp.objs.size + 1) (o := exo (hp.objs.size + 1) C none) (h' := (hp.push (PySem.W.kdv_tup [])).push (PySem.HandSPX.excO C hp.objs.size)) kk hsz (exo_ok hget)
  have r2 : Vals (V.ref (hp.objs.size + 1) :: g zs) (Value.ref (hp.objs.size + 1) :: g ws) := .cons rfl (hrel rz)
  refine wpAny_call (PySem.KX.call_kw F.excBase_ValueError (fun Y => PySem.HandSPX.refsVE_contains Y bm hbm) (I1.kIn _ _ hC) (PySem.W.looks_findIn I1.kIn O.iC) (fun self => PySem.W.bind_fn I1.kIn self O.tI)
    (codeAny_mono (O.F.run _ X.stack _ _ ⟨[Value.ref (hp.objs.size + 1)], ks.zip ws⟩ (Value.ref (hp.objs.size + 1) :: g ws) _ _ E0 (((hr.mono (by omega)) : Room (k + 1) X.A).make C [] (ks.zip ws)) (I2.env0.make C [] (ks.zip ws)) (hb _ _ ws lw) r2 hq) fun r s' hq' => ?_))
  cases r with
  | error er => exact pass0 pins σ _ _ er s' I2 hq'
  | ok fl =>
    cases fl with
    | ret u =>
      obtain ⟨v, H2, I3, rv, ev, q2⟩ := I2.after hq'
      subst ev
      exact ⟨rv, .ref (hp.objs.size + 1), H2, I3, rfl, q2⟩
    | next => exact False.elim hq'
    | brk => exact False.elim hq'
    | cont => exact False.elim hq'
/-- X(), an own class without an own __init__ -/
theorem pe_mk0 {bmB : List Value} {B newId initId : String} (F : ExcBaseFacts B newId initId bmB) (q : PySem.W.excIn X.K C bmB newId = true) (gC : X.mg x = some (.ref C)) (kC : PySem.W.keepIn X.K (.ref C) = true) (hg : Gl X x)
    (hdb : (x == ("__debug__" : Str)) = false := by decide) :
    PE X (.Call (.Name x p) [] [] pos) (fun σ H Q => ∀ a, H a = none → Q (.ref a) (upd H a (ExO (.ref C) a))) := by
  refine ⟨fun pins s σ H Q I h => ?_⟩
  refine wpAny_Call_Name_kw (ld_glob I hg gC ?_ hdb)
  refine PySem.W.callWith_K0 I.kIn kC ?_
  show wpAny _ _ (call (.ref C) []) _ _ _
  obtain ⟨bm, N, nm, qn, bs, hdct, sn, sub, ab, col, dd, k0, k1, k2, k3, k5, mN, hC, hN, hni, T⟩ := exc_obj I.kIn q
  refine wpAny_call_exc_subT F T hC hN hni (fun h' a hm => ?_) (Nat.zero_le _)
  have hn : H a = none := I.hok.gone hm.new
  obtain ⟨t, ht, _, _⟩ := hm.there
  exact ⟨.ref a, upd H a (ExO (.ref C) a), I.laidN hm.keeps hm.new hn (exO_ok ht ⟨rfl, rfl⟩ rfl rfl rfl (show 4 < 6 by decide)), rfl, h a hn⟩
end
end XV

set_option maxHeartbeats 4000000
/-! repr: a def whose promise leans on there being no repr under way (the guards are known), up to the law's own call. -/
namespace XG
open PySem PySem.Spec PyProof.Rows L2 XB
/-- FnOk, where no repr is under way -/
structure FnG (P : Program) (w : World) (K : PySem.W.Frag) (mg : Str → Option Value) (base : Heap) (k : Nat) (f : Addr) (fd : FuncData) (ps : List Str) (sp : Sp) : Prop where
  len : ∀ vs H Q E, sp vs H Q E → vs.length = ps.length
  run : ∀ (A : Around) (outer : List Env) (s : Shared) (H : Hp) (args : Args) (us : List Value) (vs : List V) (Q : VK) (E : XK), A.guards = some [] → Room k A → Env0 P w K mg base A outer s H → BindsTo s fd args (ps.zip us) → Vals vs us → sp vs H Q E →
    codeAny (model P w) A (.call (.ref f) args) (CR CX0 outer P w H s Q E) s
structure OkG (P : Program) (w : World) (K : PySem.W.Frag) (mg : Str → Option Value) (base : Heap) (k : Nat) (x : Str) (st : Stmt) (ps : List Str) (sp : Sp) (f : Addr) (fd : FuncData) : Prop where
  df : DF K mg x st f fd
  ok : FnG P w K mg base k f fd ps sp
section
variable {P : Program} {w : World} {K : PySem.W.Frag} {mg : Str → Option Value} {base : Heap}
theorem okg {x : Str} {st : Stmt} {f : Addr} {fd : FuncData} {N ps : List Str} {k : Nat} {sp : Sp} (D : DF K mg x st f fd) (S : FnScope N ps (defScope st)) (len : ∀ vs H Q E, sp vs H Q E → vs.length = ps.length)
    (hbody : ∀ (cdv : Value) (A : Around) (outer : List Env) (s : Shared) (H : Hp) (vs : List V) (Q : VK) (E : XK), A.guards = some [] → Room k (A.deeper (envOfC x (defScope st) s.heap.objs.size f cdv)) → sp vs H Q E →
      ∃ t, PSs (cxOf CX0 P w K mg base N x (defScope st) f cdv A outer s H E).nox (defBody st) t ∧ t { nx := fun _ H' => Q .non H', rt := Q } (start N vs) H) : OkG P w K mg base (k + 1) x st ps sp f fd := by
  refine ⟨D, len, fun A outer s H args us vs Q E hgd hr e0 hb r hsp => ?_⟩
  obtain ⟨oc, od, kV, doc, pm, an, cdv, ct, osl, rfl, lk, hcd⟩ := D.fn.ex
  have up : ∀ b o, base.get? b = some o → s.heap.get? b = some o := fun b o e => (e0.bs b o e).1
  have KX := e0.mod.kin.keeps up
  have places : ∀ y ∈ ps.zip us, (defScope st).names.lookup y.1 = some .local ∨ ((defScope st).names.lookup y.1 = some .cell ∧ ((cellsFrom (s.heap.objs.size + 1) (defScope st).names []).lookup y.1).isSome = true) := by
    rintro ⟨n, v⟩ hy
    exact (S.par n (List.of_mem_zip hy).1).imp id fun q => ⟨q, PySem.W.cellsFrom_some _ _ _ (.inl q)⟩
  refine codeAny_call_function hr.depth (KX _ _ lk) rfl S.co S.gen rfl (PySem.W.codeRec_of KX hcd) (hb _ _ _ _ ?_)
  refine wpAny_newFunctionEnv_cells S.kind places fun env he s1 x1 => ?_
  subst he
  refine ⟨(e0.mod.nolimit.keeps up).keeps x1.toInCall.keep, codeAny_func ?_⟩
  obtain ⟨t, ht, hq⟩ := hbody cdv A outer s H vs Q E hgd (hr.deeper _) hsp
  have I := inv_start (CX := CX0) (E := E) S hr.hd e0 (len _ _ _ _ hsp) r x1
  refine wpAny_mono (ht.nox.run [] s1 (start N vs) H _ I hq) (fun fl s' hs => ?_) fun e s' hs => hs
  cases fl with
  | ret u =>
    obtain ⟨v, σ', H', J, rv, q⟩ := hs
    exact ⟨v, H', J.os, J.bare, J.base, J.hok, rv, q⟩
  | next =>
    obtain ⟨σ', H', J, q⟩ := hs
    exact ⟨.non, H', J.os, J.bare, J.base, J.hok, rfl, q⟩
  | brk => exact hs.elim fun _ z => z.elim fun _ z => False.elim z.2
  | cont => exact hs.elim fun _ z => z.elim fun _ z => False.elim z.2
end
section
variable {X : Cx} {k j : Nat} {x : Str} {st : Stmt} {ps : List Str} {sp : Sp} {f : Addr} {fd : FuncData} {e : Expr} {es : List Expr} {t : TA} {p pos : Pos}
theorem pe_g (O : OkG X.prog X.w X.K X.mg X.base k x st ps sp f fd) (hgd : X.A.guards = some []) (hb : Binds X.K fd ps []) (hr : Room j X.A) (hk : k ≤ j) (hg : Gl X x) (ha : PA X (e :: es) t)
    (hdb : (x == ("__debug__" : Str)) = false := by decide) (he : starEach (e :: es) X.env = (false, eval e X.env) :: starEach es X.env := by rfl) (hpl : (backTo pos (starEach es X.env)).any (·.1) = false := by rfl) :
    PE X (.Call (.Name x p) (e :: es) [] pos) (fun σ H Q => t σ H fun vs H1 => sp vs H1 Q E0) := by
  refine ⟨fun pins s σ H Q I h => ?_⟩
  refine wpAny_Call_Name_kw (ld_glob I hg O.df.mgf ?_ hdb)
  refine PySem.W.callWith_K (h₀ := X.base) I.ok.mod.kin O.df.fn.kp (thn (ha.run pos pins s σ H _ I h) fun us s1 ⟨vs, H1, I1, r, q⟩ => ⟨I1.kIn, ?_⟩) he hpl
  have hl : (us ++ []).length = ps.length := by
    rw [List.append_nil, ← r.length]
    exact O.ok.len _ _ _ _ q
  have b := hb s1 us I1.kIn hl
  rw [List.append_nil] at b
  refine wpAny_call (codeAny_mono (O.ok.run X.A X.stack s1 H1 ⟨us, []⟩ us vs Q E0 hgd (hr.mono hk) I1.env0 b r q) fun r' s' hq => ?_)
  cases r' with
  | error er => exact pass0 pins σ H1 s1 er s' I1 hq
  | ok fl =>
    cases fl with
    | ret u => exact I1.after hq
    | next => exact False.elim hq
    | brk => exact False.elim hq
    | cont => exact False.elim hq
/-- repr of data at any depth -/
def rRepr (K : PySem.W.Frag) : List V → Hp → VK → Prop := fun xs H Q => ∃ (a : Addr) (d : PyData), xs = [.ref a] ∧ Dp K H (.ref a) d ∧ d.showable = true ∧ d.hasDict = false ∧ d.depth ≤ 50 ∧ d.shown.length ≤ sizeLine ∧ Q (.str d.shown) H
theorem call_repr (hgd : X.A.guards = some []) (hu : X.A.units + 100 < cLine) : CallR X (.builtin "repr") (rRepr X.K) := by
  intro pins s σ H xs us Q I r h
  obtain ⟨a, d, rfl, hd, sh, hn, hdp, hz, q⟩ := h
  obtain ⟨u, rfl, ru⟩ := vals1 r
  obtain ⟨as, r1⟩ := Dp.reads I d _ u hd ru
  cases (show u = Value.ref a from ru)
  refine PySem.repr_of_reads' r1 sh (fun z => ?_) hgd (by omega) (fun _ _ z => z) (fun h' u' tk' k => ⟨.str d.shown, H, I.kept (t' := tk') k, ⟨u', rfl⟩, q⟩) hz
  rw [hn] at z
  cases z
end
/-! ### the law's own call -/
section
variable {P : Program} {w : World} {K : PySem.W.Frag} {mg mb : Str → Option Value} {k : Nat} {fa a : Addr} {fd : FuncData} {x : Str} {sp : Sp} {s₁ : Shared} {vs : List Value} {ns : List Int}
theorem run_over (KX : K.In s₁.heap) (hns : s₁.heap.Ns mainGlobals mg) (hb : s₁.heap.Ns builtinsNs mb) (hbb : ∀ x : Str, x ≠ "__name__" → mb x = bootBuiltins x) (hlim : s₁.heap.NoLimit) (hg : s₁.gens = #[])
    (ha : s₁.heap.get? a = some { cls := .type "list", data := .seq vs.toArray }) (hr : Room k callerA)
    (F : ∀ base : Heap, K.In base → base.Ns mainGlobals mg → FnG P w K mg base k fa fd [x] sp) (hbind : ∀ (s : Shared) (u : Value), BindsTo s fd ⟨[u], []⟩ [(x, u)])
    (H : Hp) (hO : Only H) (hok : HOk P w H s₁.heap) (hA : ∀ b, H b ≠ none → b = a) (hK : H a ≠ none → K.lookup a = none) (hsp : sp [.ref a] H (fun v _ => v = .bl true) fun _ _ _ => False) :
    codeAny (model P w) callerA (.call (.ref fa) ⟨[.ref a], []⟩) (fun r s' => r = .ok (.ret (.bool true)) ∧ OldK s₁.heap s'.heap ∧ s'.os = s₁.os ∧ AllBare s'.gens) s₁ := by
  have none_of : ∀ b, b ≠ a → H b = none := fun b n => Classical.byContradiction fun z => n (hA b z)
  have keepsNs : ∀ {b : Addr} {m : Str → Option Value}, s₁.heap.Ns b m → (hidT s₁.heap H).Ns b m := by
    rintro b m ⟨o, es, ep, e, d, r⟩
    refine ⟨o, es, ep, hidT_get e (none_of b fun z => ?_), d, r⟩
    subst z
    rw [ha] at e
    cases e
    cases d
  have KH : K.In (hidT s₁.heap H) := fun b o e => hidT_get (KX b o e) (Classical.byContradiction fun z => by
    have eb := hA b z
    subst eb
    rw [hK z] at e
    cases e)
  obtain ⟨mc, l1, l2⟩ := hlim
  have e0 : Env0 P w K mg (hidT s₁.heap H) callerA [] s₁ H :=
    ⟨rfl, ⟨KH, keepsNs hns, ⟨mb, keepsNs hb, hbb⟩, mc, keepsNs l1, l2⟩, fun b o e => of_hidT e, Nat.le_of_eq (hidT_size _ _), trivial, fun b z => (List.not_mem_nil z).elim, hok, .of_eq hg⟩
  refine codeAny_mono ((F _ KH (keepsNs hns)).run callerA [] s₁ H ⟨[.ref a], []⟩ [.ref a] [.ref a] _ _ rfl hr e0 (hbind s₁ (.ref a)) (.cons rfl .nil) hsp) fun r s' h => ?_
  cases r with
  | error e => exact False.elim h
  | ok fl =>
    cases fl with
    | next => exact False.elim h
    | brk => exact False.elim h
    | cont => exact False.elim h
    | ret u =>
      obtain ⟨v, H', os, bare, un, hok', r', q⟩ := h
      cases (show v = V.bl true from q)
      cases (show u = Value.bool true from r')
      refine ⟨rfl, OldK.of_keep fun b o e => ?_, os, bare⟩
      rcases hO b with z | ⟨ob, xs, z⟩
      · exact un.keep b o e z (fun m => List.not_mem_nil m) (fun m => List.not_mem_nil m)
      · have e1 := (hok b _ z).1
        have e2 := (hok' b _ (un.frzs b ob _ z)).1
        rw [e] at e1
        cases e1
        exact e2
theorem callG (KX : K.In s₁.heap) (hns : s₁.heap.Ns mainGlobals mg) (hb : s₁.heap.Ns builtinsNs mb) (hbb : ∀ x : Str, x ≠ "__name__" → mb x = bootBuiltins x) (hlim : s₁.heap.NoLimit) (hg : s₁.gens = #[])
    (ha : s₁.heap.get? a = some { cls := .type "list", data := .seq vs.toArray }) (hi : IntsAre vs ns) (hl : ns.length ≤ sizeLine) (hr : Room k callerA)
    (F : ∀ base : Heap, K.In base → base.Ns mainGlobals mg → FnG P w K mg base k fa fd [x] sp) (hbind : ∀ (s : Shared) (u : Value), BindsTo s fd ⟨[u], []⟩ [(x, u)])
    (hsp : ∀ H : Hp, Only H → SqL K H a (ns.map V.int) → sp [.ref a] H (fun v _ => v = .bl true) fun _ _ _ => False) :
    codeAny (model P w) callerA (.call (.ref fa) ⟨[.ref a], []⟩) (fun r s' => r = .ok (.ret (.bool true)) ∧ OldK s₁.heap s'.heap ∧ s'.os = s₁.os ∧ AllBare s'.gens) s₁ := by
  have rv := vals_ints hi
  cases hk : K.lookup a with
  | some o =>
    have e := KX a o hk
    rw [ha] at e
    cases e
    have hO : Only (fun _ => none) := fun _ => .inl rfl
    refine run_over KX hns hb hbb hlim hg ha hr F hbind (fun _ => none) hO (fun b u z => nomatch (show (none : Option HO) = some u from z)) (fun b z => absurd rfl z) (fun z => absurd rfl z) (hsp _ hO (.inr ⟨_, vs.toArray, _, hk, rfl, rfl, rfl, ?_, by simpa using rv⟩))
    rw [List.size_toArray, hi.length]
    exact hl
  | none =>
    have at_ : ∀ (b : Addr) (u : HO), (if b = a then some (HO.frz { cls := .type "list", data := .seq vs.toArray } (.lst (ns.map V.int))) else none) = some u → b = a ∧ u = HO.frz { cls := .type "list", data := .seq vs.toArray } (.lst (ns.map V.int)) := fun b u z => by
      by_cases q : b = a
      · rw [if_pos q] at z
        exact ⟨q, (Option.some.inj z).symm⟩
      · rw [if_neg q] at z
        cases z
    have hO : Only (fun b => if b = a then some (HO.frz { cls := .type "list", data := .seq vs.toArray } (.lst (ns.map V.int))) else none) := fun b => by
      by_cases q : b = a
      · exact .inr ⟨_, _, if_pos q⟩
      · exact .inl (if_neg q)
    refine run_over KX hns hb hbb hlim hg ha hr F hbind _ hO (fun b u z => ?_) (fun b z => Classical.byContradiction fun q => z (if_neg q)) (fun _ => hk) (hsp _ hO (.inl (.inr ⟨{ cls := .type "list", data := .seq vs.toArray }, if_pos rfl⟩)))
    obtain ⟨rfl, rfl⟩ := at_ b u z
    exact ⟨ha, by rw [List.length_map]; exact hl, vs, _, rv, ha⟩
end
theorem walkG {l : PySem.W.OpenLaw} {n k : Nat} {q : Program} {loose : List Str} {XP : (Str → Option Value) → Heap → Prop} {YP : World → Heap → Prop} {d : DefRec} {K : Params → PySem.W.Frag} {sp : World → Sp} {x : Str}
    (hn : l.most = some n) (hn2 : n ≤ sizeLine) (hdf : d.params.defaults = []) (hr : Room k callerA) (hY : ∀ (w : World) (h : Heap), YP w h → (K w.params).In h)
    (F : ∀ (w : World) (mg : Str → Option Value) (fa : Addr) (h : Heap), (K w.params).In h → h.Ns mainGlobals mg → mg d.name = some (.ref fa) →
      ∃ fd : FuncData, (∀ (s : Shared) (u : Value), BindsTo s fd ⟨[u], []⟩ [(x, u)]) ∧ ∀ base : Heap, (K w.params).In base → base.Ns mainGlobals mg → FnG l.prog w (K w.params) mg base k fa fd [x] (sp w))
    (hsp : ∀ (w : World) (H : Hp) (a : Addr) (ns : List Int), ns.length ≤ n → Only H → SqL (K w.params) H a (ns.map V.int) → sp w [.ref a] H (fun v _ => v = .bl true) fun _ _ _ => False) :
    PySem.W.WalkO q loose XP YP l.row.toRowW d [] (fun f vs => PySem.call f vs) := by
  refine Att.attach_call hn hdf fun w s₀ s₁ mg mb fa o pm cd doc a vs ns G Y ho hd hcd hmg hobj hints hlen hg => ?_
  have KX := hY w _ Y
  obtain ⟨fd, hb, hF⟩ := F w mg fa _ KX G.T.g hmg
  exact callG KX G.T.g G.T.b G.T.builtins G.T.nolimit hg hobj hints (Nat.le_trans hlen hn2) hr hF hb fun H hO hS => hsp w H a ns hlen hO hS
end XG

namespace K00
open PySem PySem.Spec PyProof.Rows L2 XB XV XG
open C8 (Cal Met Mak pe_c pe_mk pe_mt pe_mt0 pss_cut tCut)
abbrev n_BadRule_init : List Str := ["self", "part"]
theorem sc_BadRule_init : FnScope n_BadRule_init ["self", "part"] (defScope s_BadRule_init) := ⟨rfl, rfl, rfl, by decide +kernel, rfl, by decide +kernel, by decide +kernel⟩
abbrev n_BadPast_init : List Str := ["self", "part"]
theorem sc_BadPast_init : FnScope n_BadPast_init ["self", "part"] (defScope s_BadPast_init) := ⟨rfl, rfl, rfl, by decide +kernel, rfl, by decide +kernel, by decide +kernel⟩
abbrev n_BadQuestion_init : List Str := ["self", "part"]
theorem sc_BadQuestion_init : FnScope n_BadQuestion_init ["self", "part"] (defScope s_BadQuestion_init) := ⟨rfl, rfl, rfl, by decide +kernel, rfl, by decide +kernel, by decide +kernel⟩
abbrev n_BadStock_init : List Str := ["self", "part"]
theorem sc_BadStock_init : FnScope n_BadStock_init ["self", "part"] (defScope s_BadStock_init) := ⟨rfl, rfl, rfl, by decide +kernel, rfl, by decide +kernel, by decide +kernel⟩
abbrev n_BadWish_init : List Str := ["self", "part"]
theorem sc_BadWish_init : FnScope n_BadWish_init ["self", "part"] (defScope s_BadWish_init) := ⟨rfl, rfl, rfl, by decide +kernel, rfl, by decide +kernel, by decide +kernel⟩
abbrev n_BadCase_init : List Str := ["self", "part"]
theorem sc_BadCase_init : FnScope n_BadCase_init ["self", "part"] (defScope s_BadCase_init) := ⟨rfl, rfl, rfl, by decide +kernel, rfl, by decide +kernel, by decide +kernel⟩
abbrev n_BadSituation_init : List Str := ["self", "part"]
theorem sc_BadSituation_init : FnScope n_BadSituation_init ["self", "part"] (defScope s_BadSituation_init) := ⟨rfl, rfl, rfl, by decide +kernel, rfl, by decide +kernel, by decide +kernel⟩
abbrev n_BadHearing_init : List Str := ["self", "part"]
theorem sc_BadHearing_init : FnScope n_BadHearing_init ["self", "part"] (defScope s_BadHearing_init) := ⟨rfl, rfl, rfl, by decide +kernel, rfl, by decide +kernel, by decide +kernel⟩
abbrev n_BadList_init : List Str := ["self", "part"]
theorem sc_BadList_init : FnScope n_BadList_init ["self", "part"] (defScope s_BadList_init) := ⟨rfl, rfl, rfl, by decide +kernel, rfl, by decide +kernel, by decide +kernel⟩
abbrev n_BadPlan_init : List Str := ["self", "part"]
theorem sc_BadPlan_init : FnScope n_BadPlan_init ["self", "part"] (defScope s_BadPlan_init) := ⟨rfl, rfl, rfl, by decide +kernel, rfl, by decide +kernel, by decide +kernel⟩
abbrev n_BadPrices_init : List Str := ["self", "part"]
theorem sc_BadPrices_init : FnScope n_BadPrices_init ["self", "part"] (defScope s_BadPrices_init) := ⟨rfl, rfl, rfl, by decide +kernel, rfl, by decide +kernel, by decide +kernel⟩
abbrev n_BadBars_init : List Str := ["self", "part"]
theorem sc_BadBars_init : FnScope n_BadBars_init ["self", "part"] (defScope s_BadBars_init) := ⟨rfl, rfl, rfl, by decide +kernel, rfl, by decide +kernel, by decide +kernel⟩
abbrev n_BadEvening_init : List Str := ["self", "part"]
theorem sc_BadEvening_init : FnScope n_BadEvening_init ["self", "part"] (defScope s_BadEvening_init) := ⟨rfl, rfl, rfl, by decide +kernel, rfl, by decide +kernel, by decide +kernel⟩
abbrev n_BadStory_init : List Str := ["self", "part"]
theorem sc_BadStory_init : FnScope n_BadStory_init ["self", "part"] (defScope s_BadStory_init) := ⟨rfl, rfl, rfl, by decide +kernel, rfl, by decide +kernel, by decide +kernel⟩
abbrev n_BadNumber_init : List Str := ["self", "part"]
theorem sc_BadNumber_init : FnScope n_BadNumber_init ["self", "part"] (defScope s_BadNumber_init) := ⟨rfl, rfl, rfl, by decide +kernel, rfl, by decide +kernel, by decide +kernel⟩
abbrev n_BadPaper_init : List Str := ["self", "part"]
theorem sc_BadPaper_init : FnScope n_BadPaper_init ["self", "part"] (defScope s_BadPaper_init) := ⟨rfl, rfl, rfl, by decide +kernel, rfl, by decide +kernel, by decide +kernel⟩
abbrev n_Missing_init : List Str := ["self", "value"]
theorem sc_Missing_init : FnScope n_Missing_init ["self", "value"] (defScope s_Missing_init) := ⟨rfl, rfl, rfl, by decide +kernel, rfl, by decide +kernel, by decide +kernel⟩
abbrev n_NoThing_init : List Str := ["self", "value"]
theorem sc_NoThing_init : FnScope n_NoThing_init ["self", "value"] (defScope s_NoThing_init) := ⟨rfl, rfl, rfl, by decide +kernel, rfl, by decide +kernel, by decide +kernel⟩
abbrev n_NoAnswerer_init : List Str := ["self", "value"]
theorem sc_NoAnswerer_init : FnScope n_NoAnswerer_init ["self", "value"] (defScope s_NoAnswerer_init) := ⟨rfl, rfl, rfl, by decide +kernel, rfl, by decide +kernel, by decide +kernel⟩
abbrev n_NoHeap_init : List Str := ["self", "value"]
theorem sc_NoHeap_init : FnScope n_NoHeap_init ["self", "value"] (defScope s_NoHeap_init) := ⟨rfl, rfl, rfl, by decide +kernel, rfl, by decide +kernel, by decide +kernel⟩
abbrev n_NoStand_init : List Str := ["self", "value"]
theorem sc_NoStand_init : FnScope n_NoStand_init ["self", "value"] (defScope s_NoStand_init) := ⟨rfl, rfl, rfl, by decide +kernel, rfl, by decide +kernel, by decide +kernel⟩
abbrev n_NoQuestion_init : List Str := ["self", "value"]
theorem sc_NoQuestion_init : FnScope n_NoQuestion_init ["self", "value"] (defScope s_NoQuestion_init) := ⟨rfl, rfl, rfl, by decide +kernel, rfl, by decide +kernel, by decide +kernel⟩
abbrev n_NoAsked_init : List Str := ["self", "value"]
theorem sc_NoAsked_init : FnScope n_NoAsked_init ["self", "value"] (defScope s_NoAsked_init) := ⟨rfl, rfl, rfl, by decide +kernel, rfl, by decide +kernel, by decide +kernel⟩
abbrev n_NoName_init : List Str := ["self", "value"]
theorem sc_NoName_init : FnScope n_NoName_init ["self", "value"] (defScope s_NoName_init) := ⟨rfl, rfl, rfl, by decide +kernel, rfl, by decide +kernel, by decide +kernel⟩
abbrev n_Unlike_init : List Str := ["self", "what"]
theorem sc_Unlike_init : FnScope n_Unlike_init ["self", "what"] (defScope s_Unlike_init) := ⟨rfl, rfl, rfl, by decide +kernel, rfl, by decide +kernel, by decide +kernel⟩
abbrev n_Twice_init : List Str := ["self", "value"]
theorem sc_Twice_init : FnScope n_Twice_init ["self", "value"] (defScope s_Twice_init) := ⟨rfl, rfl, rfl, by decide +kernel, rfl, by decide +kernel, by decide +kernel⟩
abbrev n_Dead_init : List Str := ["self", "stand", "who", "true"]
theorem sc_Dead_init : FnScope n_Dead_init ["self", "stand", "who", "true"] (defScope s_Dead_init) := ⟨rfl, rfl, rfl, by decide +kernel, rfl, by decide +kernel, by decide +kernel⟩
abbrev n_Barred_init : List Str := ["self", "place"]
theorem sc_Barred_init : FnScope n_Barred_init ["self", "place"] (defScope s_Barred_init) := ⟨rfl, rfl, rfl, by decide +kernel, rfl, by decide +kernel, by decide +kernel⟩
abbrev n_NotFading_init : List Str := ["self", "thing"]
theorem sc_NotFading_init : FnScope n_NotFading_init ["self", "thing"] (defScope s_NotFading_init) := ⟨rfl, rfl, rfl, by decide +kernel, rfl, by decide +kernel, by decide +kernel⟩
abbrev n_NotFreer_init : List Str := ["self", "thing"]
theorem sc_NotFreer_init : FnScope n_NotFreer_init ["self", "thing"] (defScope s_NotFreer_init) := ⟨rfl, rfl, rfl, by decide +kernel, rfl, by decide +kernel, by decide +kernel⟩
abbrev n_Late_init : List Str := ["self", "asking"]
theorem sc_Late_init : FnScope n_Late_init ["self", "asking"] (defScope s_Late_init) := ⟨rfl, rfl, rfl, by decide +kernel, rfl, by decide +kernel, by decide +kernel⟩
abbrev n_Unheard_init : List Str := ["self", "asking"]
theorem sc_Unheard_init : FnScope n_Unheard_init ["self", "asking"] (defScope s_Unheard_init) := ⟨rfl, rfl, rfl, by decide +kernel, rfl, by decide +kernel, by decide +kernel⟩
abbrev n_Heard_init : List Str := ["self", "asking"]
theorem sc_Heard_init : FnScope n_Heard_init ["self", "asking"] (defScope s_Heard_init) := ⟨rfl, rfl, rfl, by decide +kernel, rfl, by decide +kernel, by decide +kernel⟩
abbrev n_Broken_init : List Str := ["self", "asking"]
theorem sc_Broken_init : FnScope n_Broken_init ["self", "asking"] (defScope s_Broken_init) := ⟨rfl, rfl, rfl, by decide +kernel, rfl, by decide +kernel, by decide +kernel⟩
abbrev n_TooMany_init : List Str := ["self", "what", "most"]
theorem sc_TooMany_init : FnScope n_TooMany_init ["self", "what", "most"] (defScope s_TooMany_init) := ⟨rfl, rfl, rfl, by decide +kernel, rfl, by decide +kernel, by decide +kernel⟩
abbrev n_BadText_init : List Str := ["self", "line", "word"]
theorem sc_BadText_init : FnScope n_BadText_init ["self", "line", "word"] (defScope s_BadText_init) := ⟨rfl, rfl, rfl, by decide +kernel, rfl, by decide +kernel, by decide +kernel⟩
abbrev n_BadLine_init : List Str := ["self", "line", "error"]
theorem sc_BadLine_init : FnScope n_BadLine_init ["self", "line", "error"] (defScope s_BadLine_init) := ⟨rfl, rfl, rfl, by decide +kernel, rfl, by decide +kernel, by decide +kernel⟩
abbrev n_law_churn : List Str := ["_law_script", "_law_whole", "_law_cell"]
theorem sc_law_churn : FnScope n_law_churn ["_law_script"] (defScope s_law_churn) := ⟨rfl, rfl, rfl, by decide +kernel, rfl, by decide +kernel, by decide +kernel⟩
abbrev n_law_skim : List Str := ["_law_churn_here", "_law_many", "_law_rest"]
theorem sc_law_skim : FnScope n_law_skim ["_law_churn_here", "_law_many"] (defScope s_law_skim) := ⟨rfl, rfl, rfl, by decide +kernel, rfl, by decide +kernel, by decide +kernel⟩
abbrev n_law_parts : List Str := ["_law_one", "_law_made"]
theorem sc_law_parts : FnScope n_law_parts ["_law_one"] (defScope s_law_parts) := ⟨rfl, rfl, rfl, by decide +kernel, rfl, by decide +kernel, by decide +kernel⟩
abbrev n_law_parts_turned : List Str := ["_law_one", "_law_made"]
theorem sc_law_parts_turned : FnScope n_law_parts_turned ["_law_one"] (defScope s_law_parts_turned) := ⟨rfl, rfl, rfl, by decide +kernel, rfl, by decide +kernel, by decide +kernel⟩
abbrev n_law_others : List Str := ["_law_one", "_law_two", "_law_three", "_law_made"]
theorem sc_law_others : FnScope n_law_others ["_law_one", "_law_two", "_law_three"] (defScope s_law_others) := ⟨rfl, rfl, rfl, by decide +kernel, rfl, by decide +kernel, by decide +kernel⟩
abbrev n_law_others_named : List Str := ["_law_one", "_law_two", "_law_three", "_law_made"]
theorem sc_law_others_named : FnScope n_law_others_named ["_law_one", "_law_two", "_law_three"] (defScope s_law_others_named) := ⟨rfl, rfl, rfl, by decide +kernel, rfl, by decide +kernel, by decide +kernel⟩
abbrev n_law_fields : List Str := ["_law_error", "_law_place"]
theorem sc_law_fields : FnScope n_law_fields ["_law_error", "_law_place"] (defScope s_law_fields) := ⟨rfl, rfl, rfl, by decide +kernel, rfl, by decide +kernel, by decide +kernel⟩
abbrev n_law_kin : List Str := ["_law_error", "_law_kin_here"]
theorem sc_law_kin : FnScope n_law_kin ["_law_error"] (defScope s_law_kin) := ⟨rfl, rfl, rfl, by decide +kernel, rfl, by decide +kernel, by decide +kernel⟩
abbrev n_law_stands_right : List Str := ["_law_error", "_law_place", "_law_at"]
theorem sc_law_stands_right : FnScope n_law_stands_right ["_law_error", "_law_place"] (defScope s_law_stands_right) := ⟨rfl, rfl, rfl, by decide +kernel, rfl, by decide +kernel, by decide +kernel⟩
abbrev n_law_all_right : List Str := ["_law_values", "_law_made", "_law_place", "_law_error", "_law_due"]
theorem sc_law_all_right : FnScope n_law_all_right ["_law_values", "_law_made"] (defScope s_law_all_right) := ⟨rfl, rfl, rfl, by decide +kernel, rfl, by decide +kernel, by decide +kernel⟩
abbrev n_law : List Str := ["_law_script", "_law_churn_here", "_law_picks", "_law_number", "_law_plain", "_law_values", "_law_one", "_law_two", "_law_three", "_law_error", "_law_turn"]
theorem sc_law : FnScope n_law ["_law_script"] (defScope s_law) := ⟨rfl, rfl, rfl, by decide +kernel, rfl, by decide +kernel, by decide +kernel⟩
structure Txt (K : PySem.W.Frag) (mg : Str → Option Value) : Prop where
  m_isinstance : mg "isinstance" = none
  m_int : mg "int" = none
  m_len : mg "len" = none
  m_abs : mg "abs" = none
  m_range : mg "range" = none
  m_repr : mg "repr" = none
  m_enumerate : mg "enumerate" = none
  m_ValueError : mg "ValueError" = none
  m_LookupError : mg "LookupError" = none
  m_TypeError : mg "TypeError" = none
  m_ArithmeticError : mg "ArithmeticError" = none
  m_RuntimeError : mg "RuntimeError" = none
  m_AttributeError : mg "AttributeError" = none
/-! ### what draws -/
section
variable {P : Program} {w : World} {K : PySem.W.Frag} {mg : Str → Option Value} {base : Heap}
theorem jug_step {v : Int} {b i r : Nat} (hv0 : 0 ≤ v) (hv : v.natAbs < 2 ^ (140 + 11 * i)) {x y : Int} (hx0 : 0 ≤ x) (hx : x < 10 ^ 40) (hy0 : 0 ≤ y) (hy : y ≤ 10 ^ 41) : 0 ≤ v * 1319 + x + y ∧ (v * 1319 + x + y).natAbs < 2 ^ (140 + 11 * (i + 1)) := by
  have p : (2 : Nat) ^ (140 + 11 * (i + 1)) = 2048 * 2 ^ (140 + 11 * i) := by
    rw [show 140 + 11 * (i + 1) = 11 + (140 + 11 * i) by omega, Nat.pow_add]
  have q : (2 : Nat) ^ 140 ≤ 2 ^ (140 + 11 * i) := Nat.pow_le_pow_right (by decide) (by omega)
  have e1 : (10 : Int) ^ 40 = 10000000000000000000000000000000000000000 := by decide
  have e2 : (10 : Int) ^ 41 = 100000000000000000000000000000000000000000 := by decide
  have e3 : (2 : Nat) ^ 140 = 1393796574908163946345982392040522594123776 := by decide
  rw [p]
  rw [e1] at hx
  rw [e2] at hy
  rw [e3] at q
  generalize (2 : Nat) ^ (140 + 11 * i) = M at *
  constructor <;> omega
theorem ok_jug {f : Addr} {fd : FuncData} (D : DF K mg "_law_churn" s_law_churn f fd) (T : Txt K mg) : OkD P w K mg base 1 "_law_churn" s_law_churn ["_law_script"] (spJug K) f fd := by
  refine okd D sc_law_churn (fun vs H Q E h => ?_) (fun cdv A outer s H vs Q E hr h => ?_)
  · obtain ⟨a, ns, rfl, _⟩ := h
    rfl
  · obtain ⟨a, ns, rfl, hS, q⟩ := h
    refine ⟨_, (pss_cons (ps_set (i := 1) sc_law_churn.nd rfl (Or.inl rfl) pe_int)
      (pss_cons (ps_for PassesOwn.never rfl (pi_list (pe_slice sl_list (pv 0) po_none (po_some pe_int))) (pg_name (i := 2) sc_law_churn.nd rfl (Or.inl rfl))
      (pss_one (ps_set (i := 1) sc_law_churn.nd rfl (Or.inl rfl) (pe_op op_add (pe_op op_add (pe_op op_mul (pv 1) pe_int) (pe_op op_mod (pe_callB call_abs (by rfl) T.m_abs (by decide +kernel) (pa_cons (pe_callTy call_int1 (by rfl) T.m_int (by decide +kernel) (pa_cons (pv 2) pa_nil)) pa_nil)) (pe_op op_pow pe_int pe_int))) (pe_op op_mul (pe_op op_pow pe_int pe_int) (pe_callTy call_int1 (by rfl) T.m_int (by decide +kernel) (pa_cons (pe_cmpR op_lt (pv 2) pe_int (nomark _)) pa_nil)))))))
      (pss_one (ps_ret (pe_lst (pa_cons (pv 1) (pa_cons pe_int pa_nil))))))), ?_⟩
    refine ⟨.ref a, rfl, 40, rfl, a, ns.map V.int, rfl, hS, fun p np => ?_⟩
    have e40 : cutV (ns.map V.int) none (some 40) = (ns.take 40).map V.int := by
      rw [show (40 : Int) = ((40 : Nat) : Int) from rfl, cut_to, List.map_take]
    rw [e40]
    have s1 : Same H (upd H p (.lst ((ns.take 40).map V.int))) := fun b o e => by
      rw [upd_ne (ne_of_none e np)]
      exact e
    have hp : SqL K (upd H p (.lst ((ns.take 40).map V.int))) p ((ns.take 40).map V.int) := seq_in upd_same
    have l40 : ((ns.take 40).map V.int).length ≤ 40 := by
      rw [List.length_map, List.length_take]
      exact Nat.min_le_left _ _
    refine ⟨p, rfl, ⟨_, hp⟩, for_list (K := K) (a := p) (xs := (ns.take 40).map V.int) (fun i σ H2 => H2 = upd H p (.lst ((ns.take 40).map V.int)) ∧ ∃ (v : Int) (c : Option V), σ = [some (.ref a), some (.int v), c] ∧ 0 ≤ v ∧ v.natAbs < 2 ^ (140 + 11 * i))
      ⟨rfl, 71, none, rfl, by decide, by decide⟩ (fun i σ H2 _ hh => by rw [hh.1]; exact hp) ?_ ?_⟩
    · rintro i y σ H2 hi ⟨rfl, v, c, rfl, v0, vb⟩
      obtain ⟨z, rfl⟩ : ∃ z, y = V.int z := by
        rw [List.getElem?_map] at hi
        cases e : (ns.take 40)[i]? with
        | none =>
          rw [e] at hi
          cases hi
        | some z =>
          rw [e] at hi
          exact ⟨z, (Option.some.inj hi).symm⟩
      refine ⟨.int v, rfl, v, 1319, rfl, rfl, .inr ⟨by decide, by decide⟩, .int z, rfl, .inl ⟨z, rfl, ?_⟩⟩
      refine ⟨z, rfl, 10, 40, rfl, rfl, ⟨by decide, by decide, by decide⟩, _, _, rfl, rfl, (by show (0 : Int) < 10 ^ 40; decide), _, _, rfl, rfl, ?_⟩
      refine ⟨10, 41, rfl, rfl, ⟨by decide, by decide, by decide⟩, .int z, rfl, z, 0, rfl, rfl, .inr ⟨_, rfl, ?_⟩⟩
      have hb : (0 : Int) ≤ (if decide (z < 0) = true then 1 else 0) ∧ (if decide (z < 0) = true then (1 : Int) else 0) ≤ 1 := by
        split <;> exact ⟨by decide, by decide⟩
      refine ⟨_, _, rfl, rfl, .inr ⟨by omega, by omega⟩, _, _, rfl, rfl, ?_⟩
      refine ⟨rfl, _, _, rfl, ?_⟩
      have e10 : (0 : Int) < 10 ^ 40 := by decide
      have m0 := Int.emod_nonneg (if z < 0 then -z else z) (Int.ne_of_gt e10)
      have m1 := Int.emod_lt_of_pos (if z < 0 then -z else z) e10
      have e11 : (10 : Int) ^ (41 : Int).toNat = 10 ^ 41 := rfl
      have b2 : (0 : Int) ≤ 10 ^ 41 * (if decide (z < 0) = true then 1 else 0) ∧ 10 ^ 41 * (if decide (z < 0) = true then (1 : Int) else 0) ≤ 10 ^ 41 := by
        split <;> constructor <;> decide
      exact jug_step (b := 0) (r := 0) v0 vb m0 m1 b2.1 b2.2
    · rintro σ H2 ⟨rfl, v, c, rfl, v0, vb⟩
      refine ⟨.int v, rfl, (by show 2 ≤ sizeLine; decide), fun j nj => ?_⟩
      have nj2 : H j = none := s1.free nj
      refine q j _ nj2 ⟨v, 0, upd_same, v0, Nat.lt_of_lt_of_le vb (Nat.pow_le_pow_right (by decide) (by omega)), by decide, by decide⟩ fun b o e => ?_
      rw [upd_ne (ne_of_none e nj2)]
      exact s1 b o e
theorem ok_pour {f : Addr} {fd : FuncData} (D : DF K mg "_law_skim" s_law_skim f fd) : OkD P w K mg base 1 "_law_skim" s_law_skim ["_law_churn_here", "_law_many"] spPour f fd := by
  refine okd D sc_law_skim (fun vs H Q E h => ?_) (fun cdv A outer s H vs Q E hr h => ?_)
  · obtain ⟨a, m, n, rfl, _⟩ := h
    rfl
  · obtain ⟨a, m, n, rfl, hm0, hm, J, hn, q⟩ := h
    obtain ⟨w0, c0, hj, w1, w2, c1, c2⟩ := J.ex
    refine ⟨_, (pss_cut (ps_if (pt_cmpR op_eq (pe_ix ix_list (pv 0) pe_int (fun _ _ => rfl)) pe_int (nomark _)) (pss_cons (ps_asg (pe_op op_add (pe_ix ix_list (pv 0) pe_int (fun _ _ => rfl)) pe_int) (pg_sub (pv 0) pe_int set_list))
      (pss_one (ps_asg (pe_op op_fdiv (pe_op op_pow (pe_op op_add (pe_op op_mul pe_int (pe_ix ix_list (pv 0) pe_int (fun _ _ => rfl))) pe_int) pe_int) pe_int) (pg_sub (pv 0) pe_int set_list)))) pss_nil)
      (pss_cons (ps_set (i := 2) sc_law_skim.nd rfl (Or.inl rfl) (pe_ix ix_list (pv 0) pe_int (fun _ _ => rfl)))
      (pss_cons (ps_asg (pe_op op_fdivW (pv 2) (pv 1)) (pg_sub (pv 0) pe_int set_list))
      (pss_one (ps_ret (pe_op op_mod (pv 2) (pv 1))))))), ?_⟩
    refine ⟨fun σ H' => σ = [some (.ref a), some (.int m), none] ∧ ∃ w c : Int, H' = upd H a (.lst [.int w, .int c]) ∧ 0 ≤ w ∧ w.natAbs < 2 ^ 1000 ∧ 0 ≤ c ∧ c ≤ (n + 1 : Nat), ?_, ?_⟩
    · refine ⟨.ref a, rfl, a, [.int w0, .int c0], 0, .int w0, rfl, rfl, seq_in hj, rfl, rfl, _, rfl, ite2 (fun e => ?_) (fun e => ?_)⟩
      · refine ⟨.ref a, rfl, a, _, 1, .int c0, rfl, rfl, seq_in hj, rfl, c0, 1, rfl, rfl, .ref a, rfl, a, _, 1, 1, rfl, rfl, hj, rfl, ?_⟩
        refine ⟨.ref a, rfl, a, _, 1, .int (c0 + 1), rfl, rfl, seq_in upd_same, rfl, 1021, c0 + 1, rfl, rfl, .inl ⟨by decide, by decide⟩, _, 3671, rfl, rfl, _, 13, rfl, rfl, ⟨by decide, by decide, ?_⟩, _, 7, rfl, rfl, ⟨by decide, by decide⟩, .ref a, rfl, a, _, 0, 0, rfl, rfl, upd_same, rfl, ?_⟩
        · have e40 : (2 : Nat) ^ 40 = 1099511627776 := by decide
          have e64 : (2 : Nat) ^ 64 = 18446744073709551616 := by decide
          omega
        · have h0 : (0 : Int) ≤ 1021 * (c0 + 1) + 3671 := by omega
          have h1 : (1021 * (c0 + 1) + 3671 : Int).natAbs < 2 ^ 64 := by
            have e40 : (2 : Nat) ^ 40 = 1099511627776 := by decide
            have e64 : (2 : Nat) ^ 64 = 18446744073709551616 := by decide
            omega
          obtain ⟨N, hN⟩ : ∃ N : Nat, (1021 * (c0 + 1) + 3671 : Int) = (N : Int) := ⟨_, (Int.toNat_of_nonneg h0).symm⟩
          rw [hN] at h1
          have h1' : N < 2 ^ 64 := h1
          have h2 : N ^ 13 < (2 ^ 64) ^ 13 := Nat.pow_lt_pow_left h1' (by decide)
          refine ⟨rfl, _, c0 + 1, upd_upd, ?_, ?_, by omega, by omega⟩
          · rw [hN]
            show (0 : Int) ≤ ((N : Int) ^ 13) / 7
            refine Int.ediv_nonneg ?_ (by decide)
            rw [← Int.natCast_pow]
            omega
          · rw [hN]
            show ((((N : Int) ^ 13) / 7 : Int)).natAbs < 2 ^ 1000
            rw [← Int.natCast_pow]
            have h3 : (((N ^ 13 : Nat) : Int) / 7).natAbs ≤ N ^ 13 := by omega
            refine Nat.lt_of_le_of_lt h3 (Nat.lt_trans h2 ?_)
            rw [← Nat.pow_mul]
            exact Nat.pow_lt_pow_right (by decide) (by decide)
      · exact ⟨rfl, w0, c0, (upd_self hj).symm, w1, w2, c1, by omega⟩
    · rintro σ' H' ⟨rfl, w', c', rfl, g1, g2, g3, g4⟩
      refine ⟨.ref a, rfl, a, _, 0, .int w', rfl, rfl, seq_in upd_same, rfl, ?_⟩
      refine ⟨.int w', rfl, .int m, rfl, _, _, rfl, rfl, wide_div (b := 300) hm0 hm (by decide) (by decide), .ref a, rfl, a, _, 0, 0, rfl, rfl, upd_same, rfl, ?_⟩
      refine ⟨.int w', rfl, .int m, rfl, _, _, rfl, rfl, hm0, ?_⟩
      refine q _ _ (Int.emod_nonneg _ (by omega)) (Int.emod_lt_of_pos _ hm0) ⟨w' / m, c', ?_, Int.ediv_nonneg g1 (by omega), ?_, g3, g4⟩ ?_ ?_
      · rw [upd_upd, upd_same]
        rfl
      · refine Nat.lt_of_le_of_lt ?_ g2
        have : w' / m ≤ w' := Int.ediv_le_self _ g1
        have : 0 ≤ w' / m := Int.ediv_nonneg g1 (by omega)
        omega
      · intro b o nb e
        rw [upd_upd, upd_ne nb]
        exact e
      · intro p np
        have nb : p ≠ a := (ne_of_none hj np).symm
        rw [upd_upd, upd_ne nb]
        exact np
end

end K00

set_option maxHeartbeats 1000000
namespace K00
open PySem PySem.Spec PyProof.Rows L2 XB XV XG
open C8 (Cal Met Mak pe_c pe_mk pe_mt pe_mt0 pss_cut tCut)
theorem Same.new {H : Hp} {p : Addr} {o : HO} (h : H p = none) : Same H (upd H p o) := fun b u e => by
  rw [upd_ne (ne_of_none e h)]
  exact e
/-- what an own __init__ does: the fields fs, stored one by one -/
def spI (C : Addr) (fs : List Str) : Sp := fun vs H Q _ => ∃ (a : Addr) (xs : List V), vs = .ref a :: xs ∧ xs.length = fs.length ∧ H a = some (exo a C none) ∧
  ∀ (H2 : Hp) (dx : Addr), (∀ b o, b ≠ a → H b = some o → H2 b = some o) → H2 a = some (exo a C (some dx)) → H2 dx = some (exd dx (fs.zip xs).reverse) → Q .non H2
theorem sp_len {C : Addr} {fs : List Str} {vs : List V} {H : Hp} {Q : VK} {E : XK} (h : spI C fs vs H Q E) : vs.length = (("self" : Str) :: fs).length := by
  obtain ⟨a, xs, rfl, e, _⟩ := h
  rw [List.length_cons, List.length_cons, e]
section
variable {P : Program} {w : World} {K : PySem.W.Frag} {mg : Str → Option Value} {base : Heap}
theorem ok_BadRule {f C : Addr} {fd : FuncData} (D : Fun K "__init__" "BadRule.__init__" s_BadRule_init f fd) (T : OexC K C) (n : ∀ f ∈ FLD, PySem.W.findIn K (.ref C) f = some none) : FnOk P w K mg base CX0 1 f fd ["self", "part"] (spI C ["part"]) := by
  refine D.ok sc_BadRule_init (fun vs H Q E h => sp_len h) (fun cdv A outer s H vs Q E hr h => ?_)
  obtain ⟨a, xs, rfl, hl, e, q⟩ := h
  obtain ⟨x, rfl⟩ : ∃ x, xs = [x] := by
    match xs, hl with
    | [x], _ => exact ⟨x, rfl⟩
  refine ⟨_, pss_one (ps_ost (pv 0) (pv 1)), x, rfl, .ref a, rfl, a, _, rfl, T, n _ (by simp [FLD]), .inl ⟨e, fun dx h1 h2 => ?_⟩⟩
  refine q _ dx (fun b o nb z => ?_) upd_same (by rw [upd_ne h2, upd_same]; rfl)
  rw [upd_ne nb, upd_ne (ne_of_none z h1)]
  exact z
theorem ok_BadPast {f C : Addr} {fd : FuncData} (D : Fun K "__init__" "BadPast.__init__" s_BadPast_init f fd) (T : OexC K C) (n : ∀ f ∈ FLD, PySem.W.findIn K (.ref C) f = some none) : FnOk P w K mg base CX0 1 f fd ["self", "part"] (spI C ["part"]) := by
  refine D.ok sc_BadPast_init (fun vs H Q E h => sp_len h) (fun cdv A outer s H vs Q E hr h => ?_)
  obtain ⟨a, xs, rfl, hl, e, q⟩ := h
  obtain ⟨x, rfl⟩ : ∃ x, xs = [x] := by
    match xs, hl with
    | [x], _ => exact ⟨x, rfl⟩
  refine ⟨_, pss_one (ps_ost (pv 0) (pv 1)), x, rfl, .ref a, rfl, a, _, rfl, T, n _ (by simp [FLD]), .inl ⟨e, fun dx h1 h2 => ?_⟩⟩
  refine q _ dx (fun b o nb z => ?_) upd_same (by rw [upd_ne h2, upd_same]; rfl)
  rw [upd_ne nb, upd_ne (ne_of_none z h1)]
  exact z
theorem ok_BadQuestion {f C : Addr} {fd : FuncData} (D : Fun K "__init__" "BadQuestion.__init__" s_BadQuestion_init f fd) (T : OexC K C) (n : ∀ f ∈ FLD, PySem.W.findIn K (.ref C) f = some none) : FnOk P w K mg base CX0 1 f fd ["self", "part"] (spI C ["part"]) := by
  refine D.ok sc_BadQuestion_init (fun vs H Q E h => sp_len h) (fun cdv A outer s H vs Q E hr h => ?_)
  obtain ⟨a, xs, rfl, hl, e, q⟩ := h
  obtain ⟨x, rfl⟩ : ∃ x, xs = [x] := by
    match xs, hl with
    | [x], _ => exact ⟨x, rfl⟩
  refine ⟨_, pss_one (ps_ost (pv 0) (pv 1)), x, rfl, .ref a, rfl, a, _, rfl, T, n _ (by simp [FLD]), .inl ⟨e, fun dx h1 h2 => ?_⟩⟩
  refine q _ dx (fun b o nb z => ?_) upd_same (by rw [upd_ne h2, upd_same]; rfl)
  rw [upd_ne nb, upd_ne (ne_of_none z h1)]
  exact z
theorem ok_BadStock {f C : Addr} {fd : FuncData} (D : Fun K "__init__" "BadStock.__init__" s_BadStock_init f fd) (T : OexC K C) (n : ∀ f ∈ FLD, PySem.W.findIn K (.ref C) f = some none) : FnOk P w K mg base CX0 1 f fd ["self", "part"] (spI C ["part"]) := by
  refine D.ok sc_BadStock_init (fun vs H Q E h => sp_len h) (fun cdv A outer s H vs Q E hr h => ?_)
  obtain ⟨a, xs, rfl, hl, e, q⟩ := h
  obtain ⟨x, rfl⟩ : ∃ x, xs = [x] := by
    match xs, hl with
    | [x], _ => exact ⟨x, rfl⟩
  refine ⟨_, pss_one (ps_ost (pv 0) (pv 1)), x, rfl, .ref a, rfl, a, _, rfl, T, n _ (by simp [FLD]), .inl ⟨e, fun dx h1 h2 => ?_⟩⟩
  refine q _ dx (fun b o nb z => ?_) upd_same (by rw [upd_ne h2, upd_same]; rfl)
  rw [upd_ne nb, upd_ne (ne_of_none z h1)]
  exact z
theorem ok_BadWish {f C : Addr} {fd : FuncData} (D : Fun K "__init__" "BadWish.__init__" s_BadWish_init f fd) (T : OexC K C) (n : ∀ f ∈ FLD, PySem.W.findIn K (.ref C) f = some none) : FnOk P w K mg base CX0 1 f fd ["self", "part"] (spI C ["part"]) := by
  refine D.ok sc_BadWish_init (fun vs H Q E h => sp_len h) (fun cdv A outer s H vs Q E hr h => ?_)
  obtain ⟨a, xs, rfl, hl, e, q⟩ := h
  obtain ⟨x, rfl⟩ : ∃ x, xs = [x] := by
    match xs, hl with
    | [x], _ => exact ⟨x, rfl⟩
  refine ⟨_, pss_one (ps_ost (pv 0) (pv 1)), x, rfl, .ref a, rfl, a, _, rfl, T, n _ (by simp [FLD]), .inl ⟨e, fun dx h1 h2 => ?_⟩⟩
  refine q _ dx (fun b o nb z => ?_) upd_same (by rw [upd_ne h2, upd_same]; rfl)
  rw [upd_ne nb, upd_ne (ne_of_none z h1)]
  exact z
theorem ok_BadCase {f C : Addr} {fd : FuncData} (D : Fun K "__init__" "BadCase.__init__" s_BadCase_init f fd) (T : OexC K C) (n : ∀ f ∈ FLD, PySem.W.findIn K (.ref C) f = some none) : FnOk P w K mg base CX0 1 f fd ["self", "part"] (spI C ["part"]) := by
  refine D.ok sc_BadCase_init (fun vs H Q E h => sp_len h) (fun cdv A outer s H vs Q E hr h => ?_)
  obtain ⟨a, xs, rfl, hl, e, q⟩ := h
  obtain ⟨x, rfl⟩ : ∃ x, xs = [x] := by
    match xs, hl with
    | [x], _ => exact ⟨x, rfl⟩
  refine ⟨_, pss_one (ps_ost (pv 0) (pv 1)), x, rfl, .ref a, rfl, a, _, rfl, T, n _ (by simp [FLD]), .inl ⟨e, fun dx h1 h2 => ?_⟩⟩
  refine q _ dx (fun b o nb z => ?_) upd_same (by rw [upd_ne h2, upd_same]; rfl)
  rw [upd_ne nb, upd_ne (ne_of_none z h1)]
  exact z
theorem ok_BadSituation {f C : Addr} {fd : FuncData} (D : Fun K "__init__" "BadSituation.__init__" s_BadSituation_init f fd) (T : OexC K C) (n : ∀ f ∈ FLD, PySem.W.findIn K (.ref C) f = some none) : FnOk P w K mg base CX0 1 f fd ["self", "part"] (spI C ["part"]) := by
  refine D.ok sc_BadSituation_init (fun vs H Q E h => sp_len h) (fun cdv A outer s H vs Q E hr h => ?_)
  obtain ⟨a, xs, rfl, hl, e, q⟩ := h
  obtain ⟨x, rfl⟩ : ∃ x, xs = [x] := by
    match xs, hl with
    | [x], _ => exact ⟨x, rfl⟩
  refine ⟨_, pss_one (ps_ost (pv 0) (pv 1)), x, rfl, .ref a, rfl, a, _, rfl, T, n _ (by simp [FLD]), .inl ⟨e, fun dx h1 h2 => ?_⟩⟩
  refine q _ dx (fun b o nb z => ?_) upd_same (by rw [upd_ne h2, upd_same]; rfl)
  rw [upd_ne nb, upd_ne (ne_of_none z h1)]
  exact z
theorem ok_BadHearing {f C : Addr} {fd : FuncData} (D : Fun K "__init__" "BadHearing.__init__" s_BadHearing_init f fd) (T : OexC K C) (n : ∀ f ∈ FLD, PySem.W.findIn K (.ref C) f = some none) : FnOk P w K mg base CX0 1 f fd ["self", "part"] (spI C ["part"]) := by
  refine D.ok sc_BadHearing_init (fun vs H Q E h => sp_len h) (fun cdv A outer s H vs Q E hr h => ?_)
  obtain ⟨a, xs, rfl, hl, e, q⟩ := h
  obtain ⟨x, rfl⟩ : ∃ x, xs = [x] := by
    match xs, hl with
    | [x], _ => exact ⟨x, rfl⟩
  refine ⟨_, pss_one (ps_ost (pv 0) (pv 1)), x, rfl, .ref a, rfl, a, _, rfl, T, n _ (by simp [FLD]), .inl ⟨e, fun dx h1 h2 => ?_⟩⟩
  refine q _ dx (fun b o nb z => ?_) upd_same (by rw [upd_ne h2, upd_same]; rfl)
  rw [upd_ne nb, upd_ne (ne_of_none z h1)]
  exact z
theorem ok_BadList {f C : Addr} {fd : FuncData} (D : Fun K "__init__" "BadList.__init__" s_BadList_init f fd) (T : OexC K C) (n : ∀ f ∈ FLD, PySem.W.findIn K (.ref C) f = some none) : FnOk P w K mg base CX0 1 f fd ["self", "part"] (spI C ["part"]) := by
  refine D.ok sc_BadList_init (fun vs H Q E h => sp_len h) (fun cdv A outer s H vs Q E hr h => ?_)
  obtain ⟨a, xs, rfl, hl, e, q⟩ := h
  obtain ⟨x, rfl⟩ : ∃ x, xs = [x] := by
    match xs, hl with
    | [x], _ => exact ⟨x, rfl⟩
  refine ⟨_, pss_one (ps_ost (pv 0) (pv 1)), x, rfl, .ref a, rfl, a, _, rfl, T, n _ (by simp [FLD]), .inl ⟨e, fun dx h1 h2 => ?_⟩⟩
  refine q _ dx (fun b o nb z => ?_) upd_same (by rw [upd_ne h2, upd_same]; rfl)
  rw [upd_ne nb, upd_ne (ne_of_none z h1)]
  exact z
theorem ok_BadPlan {f C : Addr} {fd : FuncData} (D : Fun K "__init__" "BadPlan.__init__" s_BadPlan_init f fd) (T : OexC K C) (n : ∀ f ∈ FLD, PySem.W.findIn K (.ref C) f = some none) : FnOk P w K mg base CX0 1 f fd ["self", "part"] (spI C ["part"]) := by
  refine D.ok sc_BadPlan_init (fun vs H Q E h => sp_len h) (fun cdv A outer s H vs Q E hr h => ?_)
  obtain ⟨a, xs, rfl, hl, e, q⟩ := h
  obtain ⟨x, rfl⟩ : ∃ x, xs = [x] := by
    match xs, hl with
    | [x], _ => exact ⟨x, rfl⟩
  refine ⟨_, pss_one (ps_ost (pv 0) (pv 1)), x, rfl, .ref a, rfl, a, _, rfl, T, n _ (by simp [FLD]), .inl ⟨e, fun dx h1 h2 => ?_⟩⟩
  refine q _ dx (fun b o nb z => ?_) upd_same (by rw [upd_ne h2, upd_same]; rfl)
  rw [upd_ne nb, upd_ne (ne_of_none z h1)]
  exact z
theorem ok_BadPrices {f C : Addr} {fd : FuncData} (D : Fun K "__init__" "BadPrices.__init__" s_BadPrices_init f fd) (T : OexC K C) (n : ∀ f ∈ FLD, PySem.W.findIn K (.ref C) f = some none) : FnOk P w K mg base CX0 1 f fd ["self", "part"] (spI C ["part"]) := by
  refine D.ok sc_BadPrices_init (fun vs H Q E h => sp_len h) (fun cdv A outer s H vs Q E hr h => ?_)
  obtain ⟨a, xs, rfl, hl, e, q⟩ := h
  obtain ⟨x, rfl⟩ : ∃ x, xs = [x] := by
    match xs, hl with
    | [x], _ => exact ⟨x, rfl⟩
  refine ⟨_, pss_one (ps_ost (pv 0) (pv 1)), x, rfl, .ref a, rfl, a, _, rfl, T, n _ (by simp [FLD]), .inl ⟨e, fun dx h1 h2 => ?_⟩⟩
  refine q _ dx (fun b o nb z => ?_) upd_same (by rw [upd_ne h2, upd_same]; rfl)
  rw [upd_ne nb, upd_ne (ne_of_none z h1)]
  exact z
theorem ok_BadBars {f C : Addr} {fd : FuncData} (D : Fun K "__init__" "BadBars.__init__" s_BadBars_init f fd) (T : OexC K C) (n : ∀ f ∈ FLD, PySem.W.findIn K (.ref C) f = some none) : FnOk P w K mg base CX0 1 f fd ["self", "part"] (spI C ["part"]) := by
  refine D.ok sc_BadBars_init (fun vs H Q E h => sp_len h) (fun cdv A outer s H vs Q E hr h => ?_)
  obtain ⟨a, xs, rfl, hl, e, q⟩ := h
  obtain ⟨x, rfl⟩ : ∃ x, xs = [x] := by
    match xs, hl with
    | [x], _ => exact ⟨x, rfl⟩
  refine ⟨_, pss_one (ps_ost (pv 0) (pv 1)), x, rfl, .ref a, rfl, a, _, rfl, T, n _ (by simp [FLD]), .inl ⟨e, fun dx h1 h2 => ?_⟩⟩
  refine q _ dx (fun b o nb z => ?_) upd_same (by rw [upd_ne h2, upd_same]; rfl)
  rw [upd_ne nb, upd_ne (ne_of_none z h1)]
  exact z
theorem ok_BadEvening {f C : Addr} {fd : FuncData} (D : Fun K "__init__" "BadEvening.__init__" s_BadEvening_init f fd) (T : OexC K C) (n : ∀ f ∈ FLD, PySem.W.findIn K (.ref C) f = some none) : FnOk P w K mg base CX0 1 f fd ["self", "part"] (spI C ["part"]) := by
  refine D.ok sc_BadEvening_init (fun vs H Q E h => sp_len h) (fun cdv A outer s H vs Q E hr h => ?_)
  obtain ⟨a, xs, rfl, hl, e, q⟩ := h
  obtain ⟨x, rfl⟩ : ∃ x, xs = [x] := by
    match xs, hl with
    | [x], _ => exact ⟨x, rfl⟩
  refine ⟨_, pss_one (ps_ost (pv 0) (pv 1)), x, rfl, .ref a, rfl, a, _, rfl, T, n _ (by simp [FLD]), .inl ⟨e, fun dx h1 h2 => ?_⟩⟩
  refine q _ dx (fun b o nb z => ?_) upd_same (by rw [upd_ne h2, upd_same]; rfl)
  rw [upd_ne nb, upd_ne (ne_of_none z h1)]
  exact z
theorem ok_BadStory {f C : Addr} {fd : FuncData} (D : Fun K "__init__" "BadStory.__init__" s_BadStory_init f fd) (T : OexC K C) (n : ∀ f ∈ FLD, PySem.W.findIn K (.ref C) f = some none) : FnOk P w K mg base CX0 1 f fd ["self", "part"] (spI C ["part"]) := by
  refine D.ok sc_BadStory_init (fun vs H Q E h => sp_len h) (fun cdv A outer s H vs Q E hr h => ?_)
  obtain ⟨a, xs, rfl, hl, e, q⟩ := h
  obtain ⟨x, rfl⟩ : ∃ x, xs = [x] := by
    match xs, hl with
    | [x], _ => exact ⟨x, rfl⟩
  refine ⟨_, pss_one (ps_ost (pv 0) (pv 1)), x, rfl, .ref a, rfl, a, _, rfl, T, n _ (by simp [FLD]), .inl ⟨e, fun dx h1 h2 => ?_⟩⟩
  refine q _ dx (fun b o nb z => ?_) upd_same (by rw [upd_ne h2, upd_same]; rfl)
  rw [upd_ne nb, upd_ne (ne_of_none z h1)]
  exact z
theorem ok_BadNumber {f C : Addr} {fd : FuncData} (D : Fun K "__init__" "BadNumber.__init__" s_BadNumber_init f fd) (T : OexC K C) (n : ∀ f ∈ FLD, PySem.W.findIn K (.ref C) f = some none) : FnOk P w K mg base CX0 1 f fd ["self", "part"] (spI C ["part"]) := by
  refine D.ok sc_BadNumber_init (fun vs H Q E h => sp_len h) (fun cdv A outer s H vs Q E hr h => ?_)
  obtain ⟨a, xs, rfl, hl, e, q⟩ := h
  obtain ⟨x, rfl⟩ : ∃ x, xs = [x] := by
    match xs, hl with
    | [x], _ => exact ⟨x, rfl⟩
  refine ⟨_, pss_one (ps_ost (pv 0) (pv 1)), x, rfl, .ref a, rfl, a, _, rfl, T, n _ (by simp [FLD]), .inl ⟨e, fun dx h1 h2 => ?_⟩⟩
  refine q _ dx (fun b o nb z => ?_) upd_same (by rw [upd_ne h2, upd_same]; rfl)
  rw [upd_ne nb, upd_ne (ne_of_none z h1)]
  exact z
theorem ok_BadPaper {f C : Addr} {fd : FuncData} (D : Fun K "__init__" "BadPaper.__init__" s_BadPaper_init f fd) (T : OexC K C) (n : ∀ f ∈ FLD, PySem.W.findIn K (.ref C) f = some none) : FnOk P w K mg base CX0 1 f fd ["self", "part"] (spI C ["part"]) := by
  refine D.ok sc_BadPaper_init (fun vs H Q E h => sp_len h) (fun cdv A outer s H vs Q E hr h => ?_)
  obtain ⟨a, xs, rfl, hl, e, q⟩ := h
  obtain ⟨x, rfl⟩ : ∃ x, xs = [x] := by
    match xs, hl with
    | [x], _ => exact ⟨x, rfl⟩
  refine ⟨_, pss_one (ps_ost (pv 0) (pv 1)), x, rfl, .ref a, rfl, a, _, rfl, T, n _ (by simp [FLD]), .inl ⟨e, fun dx h1 h2 => ?_⟩⟩
  refine q _ dx (fun b o nb z => ?_) upd_same (by rw [upd_ne h2, upd_same]; rfl)
  rw [upd_ne nb, upd_ne (ne_of_none z h1)]
  exact z
theorem ok_NoThing {f C : Addr} {fd : FuncData} (D : Fun K "__init__" "NoThing.__init__" s_NoThing_init f fd) (T : OexC K C) (n : ∀ f ∈ FLD, PySem.W.findIn K (.ref C) f = some none) : FnOk P w K mg base CX0 1 f fd ["self", "value"] (spI C ["value"]) := by
  refine D.ok sc_NoThing_init (fun vs H Q E h => sp_len h) (fun cdv A outer s H vs Q E hr h => ?_)
  obtain ⟨a, xs, rfl, hl, e, q⟩ := h
  obtain ⟨x, rfl⟩ : ∃ x, xs = [x] := by
    match xs, hl with
    | [x], _ => exact ⟨x, rfl⟩
  refine ⟨_, pss_one (ps_ost (pv 0) (pv 1)), x, rfl, .ref a, rfl, a, _, rfl, T, n _ (by simp [FLD]), .inl ⟨e, fun dx h1 h2 => ?_⟩⟩
  refine q _ dx (fun b o nb z => ?_) upd_same (by rw [upd_ne h2, upd_same]; rfl)
  rw [upd_ne nb, upd_ne (ne_of_none z h1)]
  exact z
theorem ok_NoAnswerer {f C : Addr} {fd : FuncData} (D : Fun K "__init__" "NoAnswerer.__init__" s_NoAnswerer_init f fd) (T : OexC K C) (n : ∀ f ∈ FLD, PySem.W.findIn K (.ref C) f = some none) : FnOk P w K mg base CX0 1 f fd ["self", "value"] (spI C ["value"]) := by
  refine D.ok sc_NoAnswerer_init (fun vs H Q E h => sp_len h) (fun cdv A outer s H vs Q E hr h => ?_)
  obtain ⟨a, xs, rfl, hl, e, q⟩ := h
  obtain ⟨x, rfl⟩ : ∃ x, xs = [x] := by
    match xs, hl with
    | [x], _ => exact ⟨x, rfl⟩
  refine ⟨_, pss_one (ps_ost (pv 0) (pv 1)), x, rfl, .ref a, rfl, a, _, rfl, T, n _ (by simp [FLD]), .inl ⟨e, fun dx h1 h2 => ?_⟩⟩
  refine q _ dx (fun b o nb z => ?_) upd_same (by rw [upd_ne h2, upd_same]; rfl)
  rw [upd_ne nb, upd_ne (ne_of_none z h1)]
  exact z
theorem ok_NoHeap {f C : Addr} {fd : FuncData} (D : Fun K "__init__" "NoHeap.__init__" s_NoHeap_init f fd) (T : OexC K C) (n : ∀ f ∈ FLD, PySem.W.findIn K (.ref C) f = some none) : FnOk P w K mg base CX0 1 f fd ["self", "value"] (spI C ["value"]) := by
  refine D.ok sc_NoHeap_init (fun vs H Q E h => sp_len h) (fun cdv A outer s H vs Q E hr h => ?_)
  obtain ⟨a, xs, rfl, hl, e, q⟩ := h
  obtain ⟨x, rfl⟩ : ∃ x, xs = [x] := by
    match xs, hl with
    | [x], _ => exact ⟨x, rfl⟩
  refine ⟨_, pss_one (ps_ost (pv 0) (pv 1)), x, rfl, .ref a, rfl, a, _, rfl, T, n _ (by simp [FLD]), .inl ⟨e, fun dx h1 h2 => ?_⟩⟩
  refine q _ dx (fun b o nb z => ?_) upd_same (by rw [upd_ne h2, upd_same]; rfl)
  rw [upd_ne nb, upd_ne (ne_of_none z h1)]
  exact z
theorem ok_NoStand {f C : Addr} {fd : FuncData} (D : Fun K "__init__" "NoStand.__init__" s_NoStand_init f fd) (T : OexC K C) (n : ∀ f ∈ FLD, PySem.W.findIn K (.ref C) f = some none) : FnOk P w K mg base CX0 1 f fd ["self", "value"] (spI C ["value"]) := by
  refine D.ok sc_NoStand_init (fun vs H Q E h => sp_len h) (fun cdv A outer s H vs Q E hr h => ?_)
  obtain ⟨a, xs, rfl, hl, e, q⟩ := h
  obtain ⟨x, rfl⟩ : ∃ x, xs = [x] := by
    match xs, hl with
    | [x], _ => exact ⟨x, rfl⟩
  refine ⟨_, pss_one (ps_ost (pv 0) (pv 1)), x, rfl, .ref a, rfl, a, _, rfl, T, n _ (by simp [FLD]), .inl ⟨e, fun dx h1 h2 => ?_⟩⟩
  refine q _ dx (fun b o nb z => ?_) upd_same (by rw [upd_ne h2, upd_same]; rfl)
  rw [upd_ne nb, upd_ne (ne_of_none z h1)]
  exact z
theorem ok_NoQuestion {f C : Addr} {fd : FuncData} (D : Fun K "__init__" "NoQuestion.__init__" s_NoQuestion_init f fd) (T : OexC K C) (n : ∀ f ∈ FLD, PySem.W.findIn K (.ref C) f = some none) : FnOk P w K mg base CX0 1 f fd ["self", "value"] (spI C ["value"]) := by
  refine D.ok sc_NoQuestion_init (fun vs H Q E h => sp_len h) (fun cdv A outer s H vs Q E hr h => ?_)
  obtain ⟨a, xs, rfl, hl, e, q⟩ := h
  obtain ⟨x, rfl⟩ : ∃ x, xs = [x] := by
    match xs, hl with
    | [x], _ => exact ⟨x, rfl⟩
  refine ⟨_, pss_one (ps_ost (pv 0) (pv 1)), x, rfl, .ref a, rfl, a, _, rfl, T, n _ (by simp [FLD]), .inl ⟨e, fun dx h1 h2 => ?_⟩⟩
  refine q _ dx (fun b o nb z => ?_) upd_same (by rw [upd_ne h2, upd_same]; rfl)
  rw [upd_ne nb, upd_ne (ne_of_none z h1)]
  exact z
theorem ok_NoAsked {f C : Addr} {fd : FuncData} (D : Fun K "__init__" "NoAsked.__init__" s_NoAsked_init f fd) (T : OexC K C) (n : ∀ f ∈ FLD, PySem.W.findIn K (.ref C) f = some none) : FnOk P w K mg base CX0 1 f fd ["self", "value"] (spI C ["value"]) := by
  refine D.ok sc_NoAsked_init (fun vs H Q E h => sp_len h) (fun cdv A outer s H vs Q E hr h => ?_)
  obtain ⟨a, xs, rfl, hl, e, q⟩ := h
  obtain ⟨x, rfl⟩ : ∃ x, xs = [x] := by
    match xs, hl with
    | [x], _ => exact ⟨x, rfl⟩
  refine ⟨_, pss_one (ps_ost (pv 0) (pv 1)), x, rfl, .ref a, rfl, a, _, rfl, T, n _ (by simp [FLD]), .inl ⟨e, fun dx h1 h2 => ?_⟩⟩
  refine q _ dx (fun b o nb z => ?_) upd_same (by rw [upd_ne h2, upd_same]; rfl)
  rw [upd_ne nb, upd_ne (ne_of_none z h1)]
  exact z
theorem ok_NoName {f C : Addr} {fd : FuncData} (D : Fun K "__init__" "NoName.__init__" s_NoName_init f fd) (T : OexC K C) (n : ∀ f ∈ FLD, PySem.W.findIn K (.ref C) f = some none) : FnOk P w K mg base CX0 1 f fd ["self", "value"] (spI C ["value"]) := by
  refine D.ok sc_NoName_init (fun vs H Q E h => sp_len h) (fun cdv A outer s H vs Q E hr h => ?_)
  obtain ⟨a, xs, rfl, hl, e, q⟩ := h
  obtain ⟨x, rfl⟩ : ∃ x, xs = [x] := by
    match xs, hl with
    | [x], _ => exact ⟨x, rfl⟩
  refine ⟨_, pss_one (ps_ost (pv 0) (pv 1)), x, rfl, .ref a, rfl, a, _, rfl, T, n _ (by simp [FLD]), .inl ⟨e, fun dx h1 h2 => ?_⟩⟩
  refine q _ dx (fun b o nb z => ?_) upd_same (by rw [upd_ne h2, upd_same]; rfl)
  rw [upd_ne nb, upd_ne (ne_of_none z h1)]
  exact z
theorem ok_Twice {f C : Addr} {fd : FuncData} (D : Fun K "__init__" "Twice.__init__" s_Twice_init f fd) (T : OexC K C) (n : ∀ f ∈ FLD, PySem.W.findIn K (.ref C) f = some none) : FnOk P w K mg base CX0 1 f fd ["self", "value"] (spI C ["value"]) := by
  refine D.ok sc_Twice_init (fun vs H Q E h => sp_len h) (fun cdv A outer s H vs Q E hr h => ?_)
  obtain ⟨a, xs, rfl, hl, e, q⟩ := h
  obtain ⟨x, rfl⟩ : ∃ x, xs = [x] := by
    match xs, hl with
    | [x], _ => exact ⟨x, rfl⟩
  refine ⟨_, pss_one (ps_ost (pv 0) (pv 1)), x, rfl, .ref a, rfl, a, _, rfl, T, n _ (by simp [FLD]), .inl ⟨e, fun dx h1 h2 => ?_⟩⟩
  refine q _ dx (fun b o nb z => ?_) upd_same (by rw [upd_ne h2, upd_same]; rfl)
  rw [upd_ne nb, upd_ne (ne_of_none z h1)]
  exact z
theorem ok_Unlike {f C : Addr} {fd : FuncData} (D : Fun K "__init__" "Unlike.__init__" s_Unlike_init f fd) (T : OexC K C) (n : ∀ f ∈ FLD, PySem.W.findIn K (.ref C) f = some none) : FnOk P w K mg base CX0 1 f fd ["self", "what"] (spI C ["what"]) := by
  refine D.ok sc_Unlike_init (fun vs H Q E h => sp_len h) (fun cdv A outer s H vs Q E hr h => ?_)
  obtain ⟨a, xs, rfl, hl, e, q⟩ := h
  obtain ⟨x, rfl⟩ : ∃ x, xs = [x] := by
    match xs, hl with
    | [x], _ => exact ⟨x, rfl⟩
  refine ⟨_, pss_one (ps_ost (pv 0) (pv 1)), x, rfl, .ref a, rfl, a, _, rfl, T, n _ (by simp [FLD]), .inl ⟨e, fun dx h1 h2 => ?_⟩⟩
  refine q _ dx (fun b o nb z => ?_) upd_same (by rw [upd_ne h2, upd_same]; rfl)
  rw [upd_ne nb, upd_ne (ne_of_none z h1)]
  exact z
theorem ok_Barred {f C : Addr} {fd : FuncData} (D : Fun K "__init__" "Barred.__init__" s_Barred_init f fd) (T : OexC K C) (n : ∀ f ∈ FLD, PySem.W.findIn K (.ref C) f = some none) : FnOk P w K mg base CX0 1 f fd ["self", "place"] (spI C ["place"]) := by
  refine D.ok sc_Barred_init (fun vs H Q E h => sp_len h) (fun cdv A outer s H vs Q E hr h => ?_)
  obtain ⟨a, xs, rfl, hl, e, q⟩ := h
  obtain ⟨x, rfl⟩ : ∃ x, xs = [x] := by
    match xs, hl with
    | [x], _ => exact ⟨x, rfl⟩
  refine ⟨_, pss_one (ps_ost (pv 0) (pv 1)), x, rfl, .ref a, rfl, a, _, rfl, T, n _ (by simp [FLD]), .inl ⟨e, fun dx h1 h2 => ?_⟩⟩
  refine q _ dx (fun b o nb z => ?_) upd_same (by rw [upd_ne h2, upd_same]; rfl)
  rw [upd_ne nb, upd_ne (ne_of_none z h1)]
  exact z
theorem ok_NotFading {f C : Addr} {fd : FuncData} (D : Fun K "__init__" "NotFading.__init__" s_NotFading_init f fd) (T : OexC K C) (n : ∀ f ∈ FLD, PySem.W.findIn K (.ref C) f = some none) : FnOk P w K mg base CX0 1 f fd ["self", "thing"] (spI C ["thing"]) := by
  refine D.ok sc_NotFading_init (fun vs H Q E h => sp_len h) (fun cdv A outer s H vs Q E hr h => ?_)
  obtain ⟨a, xs, rfl, hl, e, q⟩ := h
  obtain ⟨x, rfl⟩ : ∃ x, xs = [x] := by
    match xs, hl with
    | [x], _ => exact ⟨x, rfl⟩
  refine ⟨_, pss_one (ps_ost (pv 0) (pv 1)), x, rfl, .ref a, rfl, a, _, rfl, T, n _ (by simp [FLD]), .inl ⟨e, fun dx h1 h2 => ?_⟩⟩
  refine q _ dx (fun b o nb z => ?_) upd_same (by rw [upd_ne h2, upd_same]; rfl)
  rw [upd_ne nb, upd_ne (ne_of_none z h1)]
  exact z
theorem ok_NotFreer {f C : Addr} {fd : FuncData} (D : Fun K "__init__" "NotFreer.__init__" s_NotFreer_init f fd) (T : OexC K C) (n : ∀ f ∈ FLD, PySem.W.findIn K (.ref C) f = some none) : FnOk P w K mg base CX0 1 f fd ["self", "thing"] (spI C ["thing"]) := by
  refine D.ok sc_NotFreer_init (fun vs H Q E h => sp_len h) (fun cdv A outer s H vs Q E hr h => ?_)
  obtain ⟨a, xs, rfl, hl, e, q⟩ := h
  obtain ⟨x, rfl⟩ : ∃ x, xs = [x] := by
    match xs, hl with
    | [x], _ => exact ⟨x, rfl⟩
  refine ⟨_, pss_one (ps_ost (pv 0) (pv 1)), x, rfl, .ref a, rfl, a, _, rfl, T, n _ (by simp [FLD]), .inl ⟨e, fun dx h1 h2 => ?_⟩⟩
  refine q _ dx (fun b o nb z => ?_) upd_same (by rw [upd_ne h2, upd_same]; rfl)
  rw [upd_ne nb, upd_ne (ne_of_none z h1)]
  exact z
theorem ok_Late {f C : Addr} {fd : FuncData} (D : Fun K "__init__" "Late.__init__" s_Late_init f fd) (T : OexC K C) (n : ∀ f ∈ FLD, PySem.W.findIn K (.ref C) f = some none) : FnOk P w K mg base CX0 1 f fd ["self", "asking"] (spI C ["asking"]) := by
  refine D.ok sc_Late_init (fun vs H Q E h => sp_len h) (fun cdv A outer s H vs Q E hr h => ?_)
  obtain ⟨a, xs, rfl, hl, e, q⟩ := h
  obtain ⟨x, rfl⟩ : ∃ x, xs = [x] := by
    match xs, hl with
    | [x], _ => exact ⟨x, rfl⟩
  refine ⟨_, pss_one (ps_ost (pv 0) (pv 1)), x, rfl, .ref a, rfl, a, _, rfl, T, n _ (by simp [FLD]), .inl ⟨e, fun dx h1 h2 => ?_⟩⟩
  refine q _ dx (fun b o nb z => ?_) upd_same (by rw [upd_ne h2, upd_same]; rfl)
  rw [upd_ne nb, upd_ne (ne_of_none z h1)]
  exact z
theorem ok_Unheard {f C : Addr} {fd : FuncData} (D : Fun K "__init__" "Unheard.__init__" s_Unheard_init f fd) (T : OexC K C) (n : ∀ f ∈ FLD, PySem.W.findIn K (.ref C) f = some none) : FnOk P w K mg base CX0 1 f fd ["self", "asking"] (spI C ["asking"]) := by
  refine D.ok sc_Unheard_init (fun vs H Q E h => sp_len h) (fun cdv A outer s H vs Q E hr h => ?_)
  obtain ⟨a, xs, rfl, hl, e, q⟩ := h
  obtain ⟨x, rfl⟩ : ∃ x, xs = [x] := by
    match xs, hl with
    | [x], _ => exact ⟨x, rfl⟩
  refine ⟨_, pss_one (ps_ost (pv 0) (pv 1)), x, rfl, .ref a, rfl, a, _, rfl, T, n _ (by simp [FLD]), .inl ⟨e, fun dx h1 h2 => ?_⟩⟩
  refine q _ dx (fun b o nb z => ?_) upd_same (by rw [upd_ne h2, upd_same]; rfl)
  rw [upd_ne nb, upd_ne (ne_of_none z h1)]
  exact z
theorem ok_Heard {f C : Addr} {fd : FuncData} (D : Fun K "__init__" "Heard.__init__" s_Heard_init f fd) (T : OexC K C) (n : ∀ f ∈ FLD, PySem.W.findIn K (.ref C) f = some none) : FnOk P w K mg base CX0 1 f fd ["self", "asking"] (spI C ["asking"]) := by
  refine D.ok sc_Heard_init (fun vs H Q E h => sp_len h) (fun cdv A outer s H vs Q E hr h => ?_)
  obtain ⟨a, xs, rfl, hl, e, q⟩ := h
  obtain ⟨x, rfl⟩ : ∃ x, xs = [x] := by
    match xs, hl with
    | [x], _ => exact ⟨x, rfl⟩
  refine ⟨_, pss_one (ps_ost (pv 0) (pv 1)), x, rfl, .ref a, rfl, a, _, rfl, T, n _ (by simp [FLD]), .inl ⟨e, fun dx h1 h2 => ?_⟩⟩
  refine q _ dx (fun b o nb z => ?_) upd_same (by rw [upd_ne h2, upd_same]; rfl)
  rw [upd_ne nb, upd_ne (ne_of_none z h1)]
  exact z
theorem ok_Broken {f C : Addr} {fd : FuncData} (D : Fun K "__init__" "Broken.__init__" s_Broken_init f fd) (T : OexC K C) (n : ∀ f ∈ FLD, PySem.W.findIn K (.ref C) f = some none) : FnOk P w K mg base CX0 1 f fd ["self", "asking"] (spI C ["asking"]) := by
  refine D.ok sc_Broken_init (fun vs H Q E h => sp_len h) (fun cdv A outer s H vs Q E hr h => ?_)
  obtain ⟨a, xs, rfl, hl, e, q⟩ := h
  obtain ⟨x, rfl⟩ : ∃ x, xs = [x] := by
    match xs, hl with
    | [x], _ => exact ⟨x, rfl⟩
  refine ⟨_, pss_one (ps_ost (pv 0) (pv 1)), x, rfl, .ref a, rfl, a, _, rfl, T, n _ (by simp [FLD]), .inl ⟨e, fun dx h1 h2 => ?_⟩⟩
  refine q _ dx (fun b o nb z => ?_) upd_same (by rw [upd_ne h2, upd_same]; rfl)
  rw [upd_ne nb, upd_ne (ne_of_none z h1)]
  exact z
theorem ok_TooMany {f C : Addr} {fd : FuncData} (D : Fun K "__init__" "TooMany.__init__" s_TooMany_init f fd) (T : OexC K C) (n : ∀ f ∈ FLD, PySem.W.findIn K (.ref C) f = some none) : FnOk P w K mg base CX0 1 f fd ["self", "what", "most"] (spI C ["what", "most"]) := by
  refine D.ok sc_TooMany_init (fun vs H Q E h => sp_len h) (fun cdv A outer s H vs Q E hr h => ?_)
  obtain ⟨a, xs, rfl, hl, e, q⟩ := h
  obtain ⟨x, y, rfl⟩ : ∃ x y, xs = [x, y] := by
    match xs, hl with
    | [x, y], _ => exact ⟨x, y, rfl⟩
  refine ⟨_, pss_cons (ps_ost (pv 0) (pv 1)) (pss_one (ps_ost (pv 0) (pv 2))), x, rfl, .ref a, rfl, a, _, rfl, T, n _ (by simp [FLD]), .inl ⟨e, fun dx h1 h2 => ?_⟩⟩
  refine ⟨y, rfl, .ref a, rfl, a, _, rfl, T, n _ (by simp [FLD]), .inr ⟨dx, _, upd_same, (by rw [upd_ne h2, upd_same]), (by show 1 ≤ 900; decide), ?_⟩⟩
  refine q _ dx (fun b o nb z => ?_) (by rw [upd_ne (Ne.symm h2), upd_same]) upd_same
  rw [upd_ne (ne_of_none z h1), upd_ne nb, upd_ne (ne_of_none z h1)]
  exact z
theorem ok_BadText {f C : Addr} {fd : FuncData} (D : Fun K "__init__" "BadText.__init__" s_BadText_init f fd) (T : OexC K C) (n : ∀ f ∈ FLD, PySem.W.findIn K (.ref C) f = some none) : FnOk P w K mg base CX0 1 f fd ["self", "line", "word"] (spI C ["line", "word"]) := by
  refine D.ok sc_BadText_init (fun vs H Q E h => sp_len h) (fun cdv A outer s H vs Q E hr h => ?_)
  obtain ⟨a, xs, rfl, hl, e, q⟩ := h
  obtain ⟨x, y, rfl⟩ : ∃ x y, xs = [x, y] := by
    match xs, hl with
    | [x, y], _ => exact ⟨x, y, rfl⟩
  refine ⟨_, pss_cons (ps_ost (pv 0) (pv 1)) (pss_one (ps_ost (pv 0) (pv 2))), x, rfl, .ref a, rfl, a, _, rfl, T, n _ (by simp [FLD]), .inl ⟨e, fun dx h1 h2 => ?_⟩⟩
  refine ⟨y, rfl, .ref a, rfl, a, _, rfl, T, n _ (by simp [FLD]), .inr ⟨dx, _, upd_same, (by rw [upd_ne h2, upd_same]), (by show 1 ≤ 900; decide), ?_⟩⟩
  refine q _ dx (fun b o nb z => ?_) (by rw [upd_ne (Ne.symm h2), upd_same]) upd_same
  rw [upd_ne (ne_of_none z h1), upd_ne nb, upd_ne (ne_of_none z h1)]
  exact z
theorem ok_BadLine {f C : Addr} {fd : FuncData} (D : Fun K "__init__" "BadLine.__init__" s_BadLine_init f fd) (T : OexC K C) (n : ∀ f ∈ FLD, PySem.W.findIn K (.ref C) f = some none) : FnOk P w K mg base CX0 1 f fd ["self", "line", "error"] (spI C ["line", "error"]) := by
  refine D.ok sc_BadLine_init (fun vs H Q E h => sp_len h) (fun cdv A outer s H vs Q E hr h => ?_)
  obtain ⟨a, xs, rfl, hl, e, q⟩ := h
  obtain ⟨x, y, rfl⟩ : ∃ x y, xs = [x, y] := by
    match xs, hl with
    | [x, y], _ => exact ⟨x, y, rfl⟩
  refine ⟨_, pss_cons (ps_ost (pv 0) (pv 1)) (pss_one (ps_ost (pv 0) (pv 2))), x, rfl, .ref a, rfl, a, _, rfl, T, n _ (by simp [FLD]), .inl ⟨e, fun dx h1 h2 => ?_⟩⟩
  refine ⟨y, rfl, .ref a, rfl, a, _, rfl, T, n _ (by simp [FLD]), .inr ⟨dx, _, upd_same, (by rw [upd_ne h2, upd_same]), (by show 1 ≤ 900; decide), ?_⟩⟩
  refine q _ dx (fun b o nb z => ?_) (by rw [upd_ne (Ne.symm h2), upd_same]) upd_same
  rw [upd_ne (ne_of_none z h1), upd_ne nb, upd_ne (ne_of_none z h1)]
  exact z
theorem ok_Dead {f C : Addr} {fd : FuncData} (D : Fun K "__init__" "Dead.__init__" s_Dead_init f fd) (T : OexC K C) (n : ∀ f ∈ FLD, PySem.W.findIn K (.ref C) f = some none) : FnOk P w K mg base CX0 1 f fd ["self", "stand", "who", "true"] (spI C ["stand", "who", "true"]) := by
  refine D.ok sc_Dead_init (fun vs H Q E h => sp_len h) (fun cdv A outer s H vs Q E hr h => ?_)
  obtain ⟨a, xs, rfl, hl, e, q⟩ := h
  obtain ⟨x, y, v, rfl⟩ : ∃ x y v, xs = [x, y, v] := by
    match xs, hl with
    | [x, y, v], _ => exact ⟨x, y, v, rfl⟩
  refine ⟨_, pss_cons (ps_ost (pv 0) (pv 1)) (pss_cons (ps_ost (pv 0) (pv 2)) (pss_one (ps_ost (pv 0) (pv 3)))), x, rfl, .ref a, rfl, a, _, rfl, T, n _ (by simp [FLD]), .inl ⟨e, fun dx h1 h2 => ?_⟩⟩
  refine ⟨y, rfl, .ref a, rfl, a, _, rfl, T, n _ (by simp [FLD]), .inr ⟨dx, _, upd_same, (by rw [upd_ne h2, upd_same]), (by show 1 ≤ 900; decide), ?_⟩⟩
  refine ⟨v, rfl, .ref a, rfl, a, _, rfl, T, n _ (by simp [FLD]), .inr ⟨dx, _, (by rw [upd_ne (Ne.symm h2), upd_same]), upd_same, (by simp), ?_⟩⟩
  refine q _ dx (fun b o nb z => ?_) (by rw [upd_ne (Ne.symm h2), upd_ne (Ne.symm h2), upd_same]) upd_same
  rw [upd_ne (ne_of_none z h1), upd_ne (ne_of_none z h1), upd_ne nb, upd_ne (ne_of_none z h1)]
  exact z
theorem ok_Missing {f C : Addr} {fd : FuncData} (D : Fun K "__init__" "Missing.__init__" s_Missing_init f fd) (T : OexC K C) (n : ∀ f ∈ FLD, PySem.W.findIn K (.ref C) f = some none) : FnOk P w K mg base CX0 1 f fd ["self", "value"] (spI C ["value"]) := by
  refine D.ok sc_Missing_init (fun vs H Q E h => sp_len h) (fun cdv A outer s H vs Q E hr h => ?_)
  obtain ⟨a, xs, rfl, hl, e, q⟩ := h
  obtain ⟨x, rfl⟩ : ∃ x, xs = [x] := by
    match xs, hl with
    | [x], _ => exact ⟨x, rfl⟩
  refine ⟨_, pss_one (ps_ost (pv 0) (pv 1)), x, rfl, .ref a, rfl, a, _, rfl, T, n _ (by simp [FLD]), .inl ⟨e, fun dx h1 h2 => ?_⟩⟩
  refine q _ dx (fun b o nb z => ?_) upd_same (by rw [upd_ne h2, upd_same]; rfl)
  rw [upd_ne nb, upd_ne (ne_of_none z h1)]
  exact z
end
/-! ### errors by their classes -/
structure ErN (P : Program) (w : World) (K : PySem.W.Frag) (mg : Str → Option Value) (base : Heap) (x : Str) (C : Addr) (fs : List Str) : Prop where
  ex : ∃ (fI : Addr) (fd : FuncData), XO P w K mg base 1 x C fI fd (("self" : Str) :: fs) (spI C fs) ∧ Binds K fd (("self" : Str) :: fs) [] ∧
    ∀ (s : Shared) (a : Value) (ws : List Value), ws.length = fs.reverse.length → BindsTo s fd ⟨[a], fs.reverse.zip ws⟩ ((("self" : Str) :: fs).zip (a :: ws.reverse))
structure Er0 (K : PySem.W.Frag) (mg : Str → Option Value) (x : Str) (C : Addr) : Prop where
  q : PySem.W.excIn K C PySem.HandSPX.veTail "ValueError.__new__" = true
  gC : mg x = some (.ref C)
  kC : PySem.W.keepIn K (.ref C) = true
structure Cls (P : Program) (w : World) (K : PySem.W.Frag) (mg : Str → Option Value) (base : Heap) (cs : List Addr) : Prop where
  e0 : ErN P w K mg base "BadRule" (cs.getD 0 0) ["part"]
  e1 : ErN P w K mg base "BadPast" (cs.getD 1 0) ["part"]
  e2 : ErN P w K mg base "BadQuestion" (cs.getD 2 0) ["part"]
  e3 : ErN P w K mg base "BadStock" (cs.getD 3 0) ["part"]
  e4 : ErN P w K mg base "BadWish" (cs.getD 4 0) ["part"]
  e5 : ErN P w K mg base "BadCase" (cs.getD 5 0) ["part"]
  e6 : ErN P w K mg base "BadSituation" (cs.getD 6 0) ["part"]
  e7 : ErN P w K mg base "BadHearing" (cs.getD 7 0) ["part"]
  e8 : ErN P w K mg base "BadList" (cs.getD 8 0) ["part"]
  e9 : ErN P w K mg base "BadPlan" (cs.getD 9 0) ["part"]
  e10 : ErN P w K mg base "BadPrices" (cs.getD 10 0) ["part"]
  e11 : ErN P w K mg base "BadBars" (cs.getD 11 0) ["part"]
  e12 : ErN P w K mg base "BadEvening" (cs.getD 12 0) ["part"]
  e13 : ErN P w K mg base "BadStory" (cs.getD 13 0) ["part"]
  e14 : ErN P w K mg base "BadNumber" (cs.getD 14 0) ["part"]
  e15 : ErN P w K mg base "BadPaper" (cs.getD 15 0) ["part"]
  e16 : ErN P w K mg base "NoThing" (cs.getD 16 0) ["value"]
  e17 : ErN P w K mg base "NoAnswerer" (cs.getD 17 0) ["value"]
  e18 : ErN P w K mg base "NoHeap" (cs.getD 18 0) ["value"]
  e19 : ErN P w K mg base "NoStand" (cs.getD 19 0) ["value"]
  e20 : ErN P w K mg base "NoQuestion" (cs.getD 20 0) ["value"]
  e21 : ErN P w K mg base "NoAsked" (cs.getD 21 0) ["value"]
  e22 : ErN P w K mg base "NoName" (cs.getD 22 0) ["value"]
  e23 : ErN P w K mg base "Twice" (cs.getD 23 0) ["value"]
  e24 : ErN P w K mg base "Unlike" (cs.getD 24 0) ["what"]
  e25 : ErN P w K mg base "Barred" (cs.getD 25 0) ["place"]
  e26 : ErN P w K mg base "NotFading" (cs.getD 26 0) ["thing"]
  e27 : ErN P w K mg base "NotFreer" (cs.getD 27 0) ["thing"]
  e28 : ErN P w K mg base "Late" (cs.getD 28 0) ["asking"]
  e29 : ErN P w K mg base "Unheard" (cs.getD 29 0) ["asking"]
  e30 : ErN P w K mg base "Heard" (cs.getD 30 0) ["asking"]
  e31 : ErN P w K mg base "Broken" (cs.getD 31 0) ["asking"]
  e32 : ErN P w K mg base "TooMany" (cs.getD 32 0) ["what", "most"]
  e33 : ErN P w K mg base "BadText" (cs.getD 33 0) ["line", "word"]
  e34 : ErN P w K mg base "BadLine" (cs.getD 34 0) ["line", "error"]
  e35 : ErN P w K mg base "Dead" (cs.getD 35 0) ["stand", "who", "true"]
  e36 : Er0 K mg "Silent" (cs.getD 36 0)
  e37 : Er0 K mg "NotEven" (cs.getD 37 0)
  e38 : Er0 K mg "Never" (cs.getD 38 0)
  e39 : Er0 K mg "Settled" (cs.getD 39 0)
  e40 : Er0 K mg "NoDeed" (cs.getD 40 0)
  e41 : ErN P w K mg base "Missing" (cs.getD 41 0) ["value"]
  e42 : Er0 K mg "WellError" (cs.getD 42 0)
def fsAt (i : Nat) : List Str := if i < 16 then ["part"] else if i < 24 then ["value"] else if i < 25 then ["what"] else if i < 26 then ["place"] else if i < 28 then ["thing"] else if i < 32 then ["asking"] else
  if i < 33 then ["what", "most"] else if i < 34 then ["line", "word"] else if i < 35 then ["line", "error"] else ["stand", "who", "true"]
def erAt (i : Nat) (x y z : V) : Option (List (Str × V)) := if i < 36 then some ((fsAt i).zip [x, y, z]).reverse else none
inductive ErL (H : Hp) : List Addr → List (Addr × Option (List (Str × V))) → Prop
  | nil : ErL H [] []
  | cons {a C : Addr} {fs : Option (List (Str × V))} {as : List Addr} {l : List (Addr × Option (List (Str × V)))} : Er H C a fs → ErL H as l → ErL H (a :: as) ((C, fs) :: l)
theorem ErL.same {H H' : Hp} (e : Same H H') : ∀ {as : List Addr} {l : List (Addr × Option (List (Str × V)))}, ErL H as l → ErL H' as l
  | _, _, .nil => .nil
  | _, _, .cons a t => .cons (a.same e) (t.same e)
theorem ErL.append {H : Hp} {bs : List Addr} {m : List (Addr × Option (List (Str × V)))} (g : ErL H bs m) : ∀ {as : List Addr} {l : List (Addr × Option (List (Str × V)))}, ErL H as l → ErL H (as ++ bs) (l ++ m)
  | _, _, .nil => g
  | _, _, .cons a t => .cons a (ErL.append g t)
theorem ErL.append' {H : Hp} {as bs : List Addr} {l m : List (Addr × Option (List (Str × V)))} (h : ErL H as l) (g : ErL H bs m) : ErL H (as ++ bs) (l ++ m) := ErL.append g h
theorem ErL.length {H : Hp} : ∀ {as : List Addr} {l : List (Addr × Option (List (Str × V)))}, ErL H as l → as.length = l.length
  | _, _, .nil => rfl
  | _, _, .cons a t => congrArg (· + 1) t.length
theorem ErL.get {H : Hp} : ∀ {as : List Addr} {l : List (Addr × Option (List (Str × V)))} {i : Nat} {a : Addr}, ErL H as l → as[i]? = some a → ∃ C fs, l[i]? = some (C, fs) ∧ Er H C a fs
  | _, _, 0, _, .cons e _, h => ⟨_, _, rfl, by cases h; exact e⟩
  | _, _, i + 1, _, .cons _ t, h => ErL.get (i := i) t h
theorem len_ok {H : Hp} {as : List Addr} {l : List (Addr × Option (List (Str × V)))} (h : ErL H as l) (z : l.length ≤ 100) : (as.map V.ref).length ≤ sizeLine := by
  rw [List.length_map, h.length, sizeLine_eq]
  omega
theorem len2 {H H' : Hp} {as bs : List Addr} {l m : List (Addr × Option (List (Str × V)))} (h : ErL H as l) (g : ErL H' bs m) (z : l.length + m.length ≤ 100) : (as.map V.ref).length + (bs.map V.ref).length ≤ sizeLine := by
  rw [List.length_map, List.length_map, h.length, g.length, sizeLine_eq]
  omega
theorem len3 {H H' H2 : Hp} {as bs cs : List Addr} {l m n : List (Addr × Option (List (Str × V)))} (h : ErL H as l) (g : ErL H' bs m) (k : ErL H2 cs n) (z : l.length + m.length + n.length ≤ 100) : (as.map V.ref ++ bs.map V.ref).length + (cs.map V.ref).length ≤ sizeLine := by
  rw [List.length_append, List.length_map, List.length_map, List.length_map, h.length, g.length, k.length, sizeLine_eq]
  omega
theorem vals_rev : ∀ {zs : List V} {ws : List Value}, Vals zs ws → Vals zs.reverse ws.reverse
  | _, _, .nil => .nil
  | _, _, .cons a t => by
    rw [List.reverse_cons, List.reverse_cons]
    exact (vals_rev t).append (.cons a .nil)
/-- an error is made: its fields hang on the values of three slots -/
def tEr (i j l : Nat) (C : Addr) (ff : V → V → V → Option (List (Str × V))) : TE := fun σ H Q => ∃ x y z, σ[i]? = some (some x) ∧ σ[j]? = some (some y) ∧ σ[l]? = some (some z) ∧ ∀ a H2, Same H H2 → Er H2 C a (ff x y z) → Q (.ref a) H2
def tErs (i j l : Nat) (L : List (Addr × (V → V → V → Option (List (Str × V))))) : TA := fun σ H Q => ∃ x y z, σ[i]? = some (some x) ∧ σ[j]? = some (some y) ∧ σ[l]? = some (some z) ∧
  ∀ as H2, Same H H2 → ErL H2 as (L.map fun p => (p.1, p.2 x y z)) → Q (as.map V.ref) H2
section
variable {X : Cx} {x f g h : Str} {C : Addr} {fs : List Str} {k i j l : Nat} {v1 v2 v3 : Str} {p pos q1 q2 q3 : Pos} {e : Expr} {es : List Expr} {ff : V → V → V → Option (List (Str × V))} {L : List (Addr × (V → V → V → Option (List (Str × V))))}
theorem pas_nil : PA X [] (tErs i j l []) := ⟨fun pos pins s σ H Q I hh => by
  obtain ⟨x, y, z, _, _, _, q⟩ := hh
  exact pa_nil.run pos pins s σ H Q I (q [] H (Same.refl H) .nil)⟩
theorem pas_cons (he : PE X e (tEr i j l C ff)) (hr : PA X es (tErs i j l L)) (hs : starEach (e :: es) X.env = (false, eval e X.env) :: starEach es X.env := by rfl) : PA X (e :: es) (tErs i j l ((C, ff) :: L)) := ⟨fun pos pins s σ H Q I hh => by
  obtain ⟨x, y, z, hx, hy, hz, q⟩ := hh
  exact (pa_cons he hr hs).run pos pins s σ H Q I ⟨x, y, z, hx, hy, hz, fun a H2 s2 e2 => ⟨x, y, z, hx, hy, hz, fun as H3 s3 l3 => q (a :: as) H3 (s2.trans s3) (.cons (e2.same s3) l3)⟩⟩⟩
theorem mk_step {H1 : Hp} {xs : List V} {Q : VK} (hl : xs.length = fs.length) (q : ∀ a H2, Same H1 H2 → Er H2 C a (some (fs.zip xs).reverse) → Q (.ref a) H2) :
    ∀ a, H1 a = none → spI C fs (.ref a :: xs) (upd H1 a (exo a C none)) (fun v H2 => v = .non ∧ Q (.ref a) H2) E0 := fun a n =>
  ⟨a, xs, rfl, hl, upd_same, fun H2 dx k1 e1 e2 => ⟨rfl, q a H2 (fun b o hb => k1 b o (ne_of_none hb n) (by rw [upd_ne (ne_of_none hb n)]; exact hb)) ⟨dx, e1, e2⟩⟩⟩
theorem pe_p1 (i j l : Nat) (ff : V → V → V → Option (List (Str × V))) (E : ErN X.prog X.w X.K X.mg X.base x C [f]) (hr : Room 2 X.A) (hg : Gl X x) (he : PE X e (tVar i)) (hff : ∀ x y z, ff x y z = some [(f, x)]) (hdb : (x == ("__debug__" : Str)) = false := by decide)
    (hs : starEach [e] X.env = (false, eval e X.env) :: starEach [] X.env := by rfl) :
    PE X (.Call (.Name x p) [e] [] pos) (tEr i j l C ff) := ⟨fun pins s σ H Q I hh => by
  obtain ⟨fI, fd, O, b1, b2⟩ := E.ex
  obtain ⟨x, y, z, hx, hy, hz, q⟩ := hh
  exact (pe_mkv O hr (Nat.le_refl _) b1 hg (pa_cons he pa_nil hs) hdb hs (by rfl)).run pins s σ H Q I ⟨x, hx, (by show 1 ≤ 1000; decide), mk_step (fs := [f]) (xs := [x]) rfl fun a H2 s2 e2 => q a H2 s2 (by rw [hff]; exact e2)⟩⟩
theorem pe_k1 (i j l : Nat) (ff : V → V → V → Option (List (Str × V))) {kp : Pos} (E : ErN X.prog X.w X.K X.mg X.base x C [f]) (hr : Room 2 X.A) (hg : Gl X x) (he : PE X e (tVar i)) (hff : ∀ x y z, ff x y z = some [(f, x)]) (hdb : (x == ("__debug__" : Str)) = false := by decide) :
    PE X (.Call (.Name x p) [] [⟨some f, e, kp⟩] pos) (tEr i j l C ff) := ⟨fun pins s σ H Q I hh => by
  obtain ⟨fI, fd, O, b1, b2⟩ := E.ex
  obtain ⟨x, y, z, hx, hy, hz, q⟩ := hh
  exact (pe_mkk (g := List.reverse) O hr (Nat.le_refl _) b2 vals_rev hg (pk_cons he pk_nil) (by rfl) (by rfl) hdb (by rfl)).run pins s σ H Q I ⟨x, hx, rfl, mk_step (fs := [f]) (xs := [x]) rfl fun a H2 s2 e2 => q a H2 s2 (by rw [hff]; exact e2)⟩⟩
theorem pe_p2 (i j l : Nat) (ff : V → V → V → Option (List (Str × V))) {e2 : Expr} (E : ErN X.prog X.w X.K X.mg X.base x C [f, g]) (hr : Room 2 X.A) (hg : Gl X x) (he : PE X e (tVar i)) (h2 : PE X e2 (tVar j)) (hff : ∀ x y z, ff x y z = some [(g, y), (f, x)]) (hdb : (x == ("__debug__" : Str)) = false := by decide)
    (hs : starEach [e, e2] X.env = (false, eval e X.env) :: starEach [e2] X.env := by rfl) (hs2 : starEach [e2] X.env = (false, eval e2 X.env) :: starEach [] X.env := by rfl) (hpl : (backTo pos (starEach [e2] X.env)).any (·.1) = false := by rfl) :
    PE X (.Call (.Name x p) [e, e2] [] pos) (tEr i j l C ff) := ⟨fun pins s σ H Q I hh => by
  obtain ⟨fI, fd, O, b1, b2⟩ := E.ex
  obtain ⟨x, y, z, hx, hy, hz, q⟩ := hh
  exact (pe_mkv O hr (Nat.le_refl _) b1 hg (pa_cons he (pa_cons h2 pa_nil hs2) hs) hdb hs hpl).run pins s σ H Q I ⟨x, hx, y, hy, (by show 2 ≤ 1000; decide), mk_step (fs := [f, g]) (xs := [x, y]) rfl fun a H2 s2 e2 => q a H2 s2 (by rw [hff]; exact e2)⟩⟩
theorem pe_k2 (i j l : Nat) (ff : V → V → V → Option (List (Str × V))) {e2 : Expr} {kp kp2 : Pos} (E : ErN X.prog X.w X.K X.mg X.base x C [f, g]) (hr : Room 2 X.A) (hg : Gl X x) (he : PE X e (tVar i)) (h2 : PE X e2 (tVar j)) (hff : ∀ x y z, ff x y z = some [(g, y), (f, x)]) (hdb : (x == ("__debug__" : Str)) = false := by decide) :
    PE X (.Call (.Name x p) [] [⟨some g, e2, kp2⟩, ⟨some f, e, kp⟩] pos) (tEr i j l C ff) := ⟨fun pins s σ H Q I hh => by
  obtain ⟨fI, fd, O, b1, b2⟩ := E.ex
  obtain ⟨x, y, z, hx, hy, hz, q⟩ := hh
  exact (pe_mkk (g := List.reverse) O hr (Nat.le_refl _) b2 vals_rev hg (pk_cons h2 (pk_cons he pk_nil)) (by rfl) (by rfl) hdb (by rfl)).run pins s σ H Q I ⟨y, hy, x, hx, rfl, mk_step (fs := [f, g]) (xs := [x, y]) rfl fun a H2 s2 e2 => q a H2 s2 (by rw [hff]; exact e2)⟩⟩
theorem pe_p3 (i j l : Nat) (ff : V → V → V → Option (List (Str × V))) {e2 e3 : Expr} (E : ErN X.prog X.w X.K X.mg X.base x C [f, g, h]) (hr : Room 2 X.A) (hg : Gl X x) (he : PE X e (tVar i)) (h2 : PE X e2 (tVar j)) (h3 : PE X e3 (tVar l)) (hff : ∀ x y z, ff x y z = some [(h, z), (g, y), (f, x)]) (hdb : (x == ("__debug__" : Str)) = false := by decide)
    (hs : starEach [e, e2, e3] X.env = (false, eval e X.env) :: starEach [e2, e3] X.env := by rfl) (hs2 : starEach [e2, e3] X.env = (false, eval e2 X.env) :: starEach [e3] X.env := by rfl) (hs3 : starEach [e3] X.env = (false, eval e3 X.env) :: starEach [] X.env := by rfl) (hpl : (backTo pos (starEach [e2, e3] X.env)).any (·.1) = false := by rfl) :
    PE X (.Call (.Name x p) [e, e2, e3] [] pos) (tEr i j l C ff) := ⟨fun pins s σ H Q I hh => by
  obtain ⟨fI, fd, O, b1, b2⟩ := E.ex
  obtain ⟨x, y, z, hx, hy, hz, q⟩ := hh
  exact (pe_mkv O hr (Nat.le_refl _) b1 hg (pa_cons he (pa_cons h2 (pa_cons h3 pa_nil hs3) hs2) hs) hdb hs hpl).run pins s σ H Q I ⟨x, hx, y, hy, z, hz, (by show 3 ≤ 1000; decide), mk_step (fs := [f, g, h]) (xs := [x, y, z]) rfl fun a H2 s2 e2 => q a H2 s2 (by rw [hff]; exact e2)⟩⟩
theorem pe_k3 (i j l : Nat) (ff : V → V → V → Option (List (Str × V))) {e2 e3 : Expr} {kp kp2 kp3 : Pos} (E : ErN X.prog X.w X.K X.mg X.base x C [f, g, h]) (hr : Room 2 X.A) (hg : Gl X x) (he : PE X e (tVar i)) (h2 : PE X e2 (tVar j)) (h3 : PE X e3 (tVar l)) (hff : ∀ x y z, ff x y z = some [(h, z), (g, y), (f, x)]) (hdb : (x == ("__debug__" : Str)) = false := by decide) :
    PE X (.Call (.Name x p) [] [⟨some h, e3, kp3⟩, ⟨some g, e2, kp2⟩, ⟨some f, e, kp⟩] pos) (tEr i j l C ff) := ⟨fun pins s σ H Q I hh => by
  obtain ⟨fI, fd, O, b1, b2⟩ := E.ex
  obtain ⟨x, y, z, hx, hy, hz, q⟩ := hh
  exact (pe_mkk (g := List.reverse) O hr (Nat.le_refl _) b2 vals_rev hg (pk_cons h3 (pk_cons h2 (pk_cons he pk_nil))) (by rfl) (by rfl) hdb (by rfl)).run pins s σ H Q I ⟨z, hz, y, hy, x, hx, rfl, mk_step (fs := [f, g, h]) (xs := [x, y, z]) rfl fun a H2 s2 e2 => q a H2 s2 (by rw [hff]; exact e2)⟩⟩
theorem pe_z (i j l : Nat) (ff : V → V → V → Option (List (Str × V))) (E : Er0 X.K X.mg x C) (hg : Gl X x) (hff : ∀ x y z, ff x y z = none) (hdb : (x == ("__debug__" : Str)) = false := by decide) :
    PE X (.Call (.Name x p) [] [] pos) (tEr i j l C ff) := ⟨fun pins s σ H Q I hh => by
  obtain ⟨x, y, z, hx, hy, hz, q⟩ := hh
  exact (pe_mk0 PySem.F.excBase_ValueError E.q E.gC E.kC hg hdb).run pins s σ H Q I fun a n => q a _ (Same.new n) (by rw [hff]; exact upd_same)⟩
end
def erRow (cs : List Addr) (x y z : V) (lo n : Nat) : List (Addr × Option (List (Str × V))) := (List.range' lo n).map fun i => (cs.getD i 0, erAt i x y z)
def spMake (_K : PySem.W.Frag) (cs : List Addr) (lo n : Nat) : Sp := fun vs H Q _ => ∃ x y z, vs = [x, y, z] ∧ ∀ p as H2, Same H H2 → H2 p = some (.lst (as.map V.ref)) → ErL H2 as (erRow cs x y z lo n) → Q (.ref p) H2
def spMake1 (_K : PySem.W.Frag) (cs : List Addr) (lo n : Nat) : Sp := fun vs H Q _ => ∃ x, vs = [x] ∧ ∀ p as H2, Same H H2 → H2 p = some (.lst (as.map V.ref)) → ErL H2 as (erRow cs x x x lo n) → Q (.ref p) H2
section
variable {P : Program} {w : World} {K : PySem.W.Frag} {mg : Str → Option Value} {base : Heap} {cs : List Addr}
theorem ok_law_parts {f : Addr} {fd : FuncData} (D : DF K mg "_law_parts" s_law_parts f fd) (T : Cls P w K mg base cs) : OkD P w K mg base 3 "_law_parts" s_law_parts ["_law_one"] (spMake1 K cs 0 16) f fd := by
  refine okd D sc_law_parts (fun vs H Q E h => ?_) (fun cdv A outer s H vs Q E hr h => ?_)
  · obtain ⟨x, rfl, _⟩ := h
    rfl
  · obtain ⟨x, rfl, q⟩ := h
    refine ⟨_, (pss_cons (ps_set (i := 1) sc_law_parts.nd rfl (Or.inl rfl) (pe_lst (pas_cons (pe_p1 0 0 0 (erAt 0) T.e0 hr (by rfl) (pv 0) (fun _ _ _ => rfl)) (pas_cons (pe_k1 0 0 0 (erAt 1) T.e1 hr (by rfl) (pv 0) (fun _ _ _ => rfl)) (pas_cons (pe_p1 0 0 0 (erAt 2) T.e2 hr (by rfl) (pv 0) (fun _ _ _ => rfl)) (pas_cons (pe_k1 0 0 0 (erAt 3) T.e3 hr (by rfl) (pv 0) (fun _ _ _ => rfl)) (pas_cons (pe_p1 0 0 0 (erAt 4) T.e4 hr (by rfl) (pv 0) (fun _ _ _ => rfl)) (pas_cons (pe_k1 0 0 0 (erAt 5) T.e5 hr (by rfl) (pv 0) (fun _ _ _ => rfl)) pas_nil))))))))
      (pss_cons (ps_set (i := 1) sc_law_parts.nd rfl (Or.inl rfl) (pe_op op_cat (pv 1) (pe_lst (pas_cons (pe_p1 0 0 0 (erAt 6) T.e6 hr (by rfl) (pv 0) (fun _ _ _ => rfl)) (pas_cons (pe_k1 0 0 0 (erAt 7) T.e7 hr (by rfl) (pv 0) (fun _ _ _ => rfl)) (pas_cons (pe_p1 0 0 0 (erAt 8) T.e8 hr (by rfl) (pv 0) (fun _ _ _ => rfl)) (pas_cons (pe_k1 0 0 0 (erAt 9) T.e9 hr (by rfl) (pv 0) (fun _ _ _ => rfl)) (pas_cons (pe_p1 0 0 0 (erAt 10) T.e10 hr (by rfl) (pv 0) (fun _ _ _ => rfl)) pas_nil))))))))
      (pss_one (ps_ret (pe_op op_cat (pv 1) (pe_lst (pas_cons (pe_k1 0 0 0 (erAt 11) T.e11 hr (by rfl) (pv 0) (fun _ _ _ => rfl)) (pas_cons (pe_p1 0 0 0 (erAt 12) T.e12 hr (by rfl) (pv 0) (fun _ _ _ => rfl)) (pas_cons (pe_k1 0 0 0 (erAt 13) T.e13 hr (by rfl) (pv 0) (fun _ _ _ => rfl)) (pas_cons (pe_p1 0 0 0 (erAt 14) T.e14 hr (by rfl) (pv 0) (fun _ _ _ => rfl)) (pas_cons (pe_k1 0 0 0 (erAt 15) T.e15 hr (by rfl) (pv 0) (fun _ _ _ => rfl)) pas_nil))))))))))), ?_⟩
    refine ⟨x, x, x, rfl, rfl, rfl, fun as1 H1 s1 l1 => ⟨len_ok l1 (by show 6 ≤ 100; decide), fun p1 f1 => ?_⟩⟩
    have t1 : Same H (upd H1 p1 (.lst (as1.map V.ref))) := s1.trans (Same.new f1)
    have m1 := l1.same (Same.new (o := HO.lst (as1.map V.ref)) f1)
    have e1 : (upd H1 p1 (.lst (as1.map V.ref))) p1 = some (.lst (as1.map V.ref)) := upd_same
    generalize upd H1 p1 (.lst (as1.map V.ref)) = G1 at t1 m1 e1 ⊢
    obtain ⟨b1, hb1⟩ : ∃ b, b = as1 := ⟨_, rfl⟩
    rw [← hb1] at m1 e1
    refine ⟨.ref p1, rfl, x, x, x, rfl, rfl, rfl, fun as2 H2 s2 l2 => ⟨len_ok l2 (by show 5 ≤ 100; decide), fun r2 f2 => ?_⟩⟩
    refine ⟨p1, r2, _, _, rfl, rfl, (Same.new f2) _ _ (s2 _ _ e1), upd_same, len2 m1 l2 (by show 6 + 5 ≤ 100; decide), fun p2 g2 => ?_⟩
    have k2 := (Same.new (o := HO.lst (as2.map V.ref)) f2).trans (Same.new (o := HO.lst (b1.map V.ref ++ as2.map V.ref)) g2)
    have t2 := (t1.trans s2).trans k2
    have m2 := (m1.same (s2.trans k2)).append' (l2.same k2)
    have e2 : (upd (upd H2 r2 (.lst (as2.map V.ref))) p2 (.lst (b1.map V.ref ++ as2.map V.ref))) p2 = some (.lst ((b1 ++ as2).map V.ref)) := by rw [upd_same, List.map_append]
    generalize upd (upd H2 r2 (.lst (as2.map V.ref))) p2 (.lst (b1.map V.ref ++ as2.map V.ref)) = G2 at t2 m2 e2 ⊢
    generalize b1 ++ as2 = b2 at m2 e2 ⊢
    refine ⟨.ref p2, rfl, x, x, x, rfl, rfl, rfl, fun as3 H3 s3 l3 => ⟨len_ok l3 (by show 5 ≤ 100; decide), fun r3 f3 => ?_⟩⟩
    refine ⟨p2, r3, _, _, rfl, rfl, (Same.new f3) _ _ (s3 _ _ e2), upd_same, len2 m2 l3 (by show 11 + 5 ≤ 100; decide), fun p3 g3 => ?_⟩
    have k3 := (Same.new (o := HO.lst (as3.map V.ref)) f3).trans (Same.new (o := HO.lst (b2.map V.ref ++ as3.map V.ref)) g3)
    have t3 := (t2.trans s3).trans k3
    have m3 := (m2.same (s3.trans k3)).append' (l3.same k3)
    have e3 : (upd (upd H3 r3 (.lst (as3.map V.ref))) p3 (.lst (b2.map V.ref ++ as3.map V.ref))) p3 = some (.lst ((b2 ++ as3).map V.ref)) := by rw [upd_same, List.map_append]
    generalize upd (upd H3 r3 (.lst (as3.map V.ref))) p3 (.lst (b2.map V.ref ++ as3.map V.ref)) = G3 at t3 m3 e3 ⊢
    generalize b2 ++ as3 = b3 at m3 e3 ⊢
    exact q p3 b3 G3 t3 e3 m3
theorem ok_law_parts_turned {f : Addr} {fd : FuncData} (D : DF K mg "_law_parts_turned" s_law_parts_turned f fd) (T : Cls P w K mg base cs) : OkD P w K mg base 3 "_law_parts_turned" s_law_parts_turned ["_law_one"] (spMake1 K cs 0 16) f fd := by
  refine okd D sc_law_parts_turned (fun vs H Q E h => ?_) (fun cdv A outer s H vs Q E hr h => ?_)
  · obtain ⟨x, rfl, _⟩ := h
    rfl
  · obtain ⟨x, rfl, q⟩ := h
    refine ⟨_, (pss_cons (ps_set (i := 1) sc_law_parts_turned.nd rfl (Or.inl rfl) (pe_lst (pas_cons (pe_k1 0 0 0 (erAt 0) T.e0 hr (by rfl) (pv 0) (fun _ _ _ => rfl)) (pas_cons (pe_p1 0 0 0 (erAt 1) T.e1 hr (by rfl) (pv 0) (fun _ _ _ => rfl)) (pas_cons (pe_k1 0 0 0 (erAt 2) T.e2 hr (by rfl) (pv 0) (fun _ _ _ => rfl)) (pas_cons (pe_p1 0 0 0 (erAt 3) T.e3 hr (by rfl) (pv 0) (fun _ _ _ => rfl)) (pas_cons (pe_k1 0 0 0 (erAt 4) T.e4 hr (by rfl) (pv 0) (fun _ _ _ => rfl)) (pas_cons (pe_p1 0 0 0 (erAt 5) T.e5 hr (by rfl) (pv 0) (fun _ _ _ => rfl)) pas_nil))))))))
      (pss_cons (ps_set (i := 1) sc_law_parts_turned.nd rfl (Or.inl rfl) (pe_op op_cat (pv 1) (pe_lst (pas_cons (pe_k1 0 0 0 (erAt 6) T.e6 hr (by rfl) (pv 0) (fun _ _ _ => rfl)) (pas_cons (pe_p1 0 0 0 (erAt 7) T.e7 hr (by rfl) (pv 0) (fun _ _ _ => rfl)) (pas_cons (pe_k1 0 0 0 (erAt 8) T.e8 hr (by rfl) (pv 0) (fun _ _ _ => rfl)) (pas_cons (pe_p1 0 0 0 (erAt 9) T.e9 hr (by rfl) (pv 0) (fun _ _ _ => rfl)) (pas_cons (pe_k1 0 0 0 (erAt 10) T.e10 hr (by rfl) (pv 0) (fun _ _ _ => rfl)) pas_nil))))))))
      (pss_one (ps_ret (pe_op op_cat (pv 1) (pe_lst (pas_cons (pe_p1 0 0 0 (erAt 11) T.e11 hr (by rfl) (pv 0) (fun _ _ _ => rfl)) (pas_cons (pe_k1 0 0 0 (erAt 12) T.e12 hr (by rfl) (pv 0) (fun _ _ _ => rfl)) (pas_cons (pe_p1 0 0 0 (erAt 13) T.e13 hr (by rfl) (pv 0) (fun _ _ _ => rfl)) (pas_cons (pe_k1 0 0 0 (erAt 14) T.e14 hr (by rfl) (pv 0) (fun _ _ _ => rfl)) (pas_cons (pe_p1 0 0 0 (erAt 15) T.e15 hr (by rfl) (pv 0) (fun _ _ _ => rfl)) pas_nil))))))))))), ?_⟩
    refine ⟨x, x, x, rfl, rfl, rfl, fun as1 H1 s1 l1 => ⟨len_ok l1 (by show 6 ≤ 100; decide), fun p1 f1 => ?_⟩⟩
    have t1 : Same H (upd H1 p1 (.lst (as1.map V.ref))) := s1.trans (Same.new f1)
    have m1 := l1.same (Same.new (o := HO.lst (as1.map V.ref)) f1)
    have e1 : (upd H1 p1 (.lst (as1.map V.ref))) p1 = some (.lst (as1.map V.ref)) := upd_same
    generalize upd H1 p1 (.lst (as1.map V.ref)) = G1 at t1 m1 e1 ⊢
    obtain ⟨b1, hb1⟩ : ∃ b, b = as1 := ⟨_, rfl⟩
    rw [← hb1] at m1 e1
    refine ⟨.ref p1, rfl, x, x, x, rfl, rfl, rfl, fun as2 H2 s2 l2 => ⟨len_ok l2 (by show 5 ≤ 100; decide), fun r2 f2 => ?_⟩⟩
    refine ⟨p1, r2, _, _, rfl, rfl, (Same.new f2) _ _ (s2 _ _ e1), upd_same, len2 m1 l2 (by show 6 + 5 ≤ 100; decide), fun p2 g2 => ?_⟩
    have k2 := (Same.new (o := HO.lst (as2.map V.ref)) f2).trans (Same.new (o := HO.lst (b1.map V.ref ++ as2.map V.ref)) g2)
    have t2 := (t1.trans s2).trans k2
    have m2 := (m1.same (s2.trans k2)).append' (l2.same k2)
    have e2 : (upd (upd H2 r2 (.lst (as2.map V.ref))) p2 (.lst (b1.map V.ref ++ as2.map V.ref))) p2 = some (.lst ((b1 ++ as2).map V.ref)) := by rw [upd_same, List.map_append]
    generalize upd (upd H2 r2 (.lst (as2.map V.ref))) p2 (.lst (b1.map V.ref ++ as2.map V.ref)) = G2 at t2 m2 e2 ⊢
    generalize b1 ++ as2 = b2 at m2 e2 ⊢
    refine ⟨.ref p2, rfl, x, x, x, rfl, rfl, rfl, fun as3 H3 s3 l3 => ⟨len_ok l3 (by show 5 ≤ 100; decide), fun r3 f3 => ?_⟩⟩
    refine ⟨p2, r3, _, _, rfl, rfl, (Same.new f3) _ _ (s3 _ _ e2), upd_same, len2 m2 l3 (by show 11 + 5 ≤ 100; decide), fun p3 g3 => ?_⟩
    have k3 := (Same.new (o := HO.lst (as3.map V.ref)) f3).trans (Same.new (o := HO.lst (b2.map V.ref ++ as3.map V.ref)) g3)
    have t3 := (t2.trans s3).trans k3
    have m3 := (m2.same (s3.trans k3)).append' (l3.same k3)
    have e3 : (upd (upd H3 r3 (.lst (as3.map V.ref))) p3 (.lst (b2.map V.ref ++ as3.map V.ref))) p3 = some (.lst ((b2 ++ as3).map V.ref)) := by rw [upd_same, List.map_append]
    generalize upd (upd H3 r3 (.lst (as3.map V.ref))) p3 (.lst (b2.map V.ref ++ as3.map V.ref)) = G3 at t3 m3 e3 ⊢
    generalize b2 ++ as3 = b3 at m3 e3 ⊢
    exact q p3 b3 G3 t3 e3 m3
theorem ok_law_others {f : Addr} {fd : FuncData} (D : DF K mg "_law_others" s_law_others f fd) (T : Cls P w K mg base cs) : OkD P w K mg base 3 "_law_others" s_law_others ["_law_one", "_law_two", "_law_three"] (spMake K cs 16 25) f fd := by
  refine okd D sc_law_others (fun vs H Q E h => ?_) (fun cdv A outer s H vs Q E hr h => ?_)
  · obtain ⟨x, y, z, rfl, _⟩ := h
    rfl
  · obtain ⟨x, y, z, rfl, q⟩ := h
    refine ⟨_, (pss_cons (ps_set (i := 3) sc_law_others.nd rfl (Or.inl rfl) (pe_lst (pas_cons (pe_p1 0 1 2 (erAt 16) T.e16 hr (by rfl) (pv 0) (fun _ _ _ => rfl)) (pas_cons (pe_p1 0 1 2 (erAt 17) T.e17 hr (by rfl) (pv 0) (fun _ _ _ => rfl)) (pas_cons (pe_p1 0 1 2 (erAt 18) T.e18 hr (by rfl) (pv 0) (fun _ _ _ => rfl)) (pas_cons (pe_p1 0 1 2 (erAt 19) T.e19 hr (by rfl) (pv 0) (fun _ _ _ => rfl)) (pas_cons (pe_p1 0 1 2 (erAt 20) T.e20 hr (by rfl) (pv 0) (fun _ _ _ => rfl)) (pas_cons (pe_p1 0 1 2 (erAt 21) T.e21 hr (by rfl) (pv 0) (fun _ _ _ => rfl)) (pas_cons (pe_p1 0 1 2 (erAt 22) T.e22 hr (by rfl) (pv 0) (fun _ _ _ => rfl)) pas_nil)))))))))
      (pss_cons (ps_set (i := 3) sc_law_others.nd rfl (Or.inl rfl) (pe_op op_cat (pv 3) (pe_lst (pas_cons (pe_p1 0 1 2 (erAt 23) T.e23 hr (by rfl) (pv 0) (fun _ _ _ => rfl)) (pas_cons (pe_p1 0 1 2 (erAt 24) T.e24 hr (by rfl) (pv 0) (fun _ _ _ => rfl)) (pas_cons (pe_p1 0 1 2 (erAt 25) T.e25 hr (by rfl) (pv 0) (fun _ _ _ => rfl)) (pas_cons (pe_p1 0 1 2 (erAt 26) T.e26 hr (by rfl) (pv 0) (fun _ _ _ => rfl)) (pas_cons (pe_p1 0 1 2 (erAt 27) T.e27 hr (by rfl) (pv 0) (fun _ _ _ => rfl)) (pas_cons (pe_p1 0 1 2 (erAt 28) T.e28 hr (by rfl) (pv 0) (fun _ _ _ => rfl)) (pas_cons (pe_p1 0 1 2 (erAt 29) T.e29 hr (by rfl) (pv 0) (fun _ _ _ => rfl)) pas_nil))))))))))
      (pss_cons (ps_set (i := 3) sc_law_others.nd rfl (Or.inl rfl) (pe_op op_cat (pv 3) (pe_lst (pas_cons (pe_p1 0 1 2 (erAt 30) T.e30 hr (by rfl) (pv 0) (fun _ _ _ => rfl)) (pas_cons (pe_p1 0 1 2 (erAt 31) T.e31 hr (by rfl) (pv 0) (fun _ _ _ => rfl)) (pas_cons (pe_p2 0 1 2 (erAt 32) T.e32 hr (by rfl) (pv 0) (pv 1) (fun _ _ _ => rfl)) (pas_cons (pe_p2 0 1 2 (erAt 33) T.e33 hr (by rfl) (pv 0) (pv 1) (fun _ _ _ => rfl)) (pas_cons (pe_p2 0 1 2 (erAt 34) T.e34 hr (by rfl) (pv 0) (pv 1) (fun _ _ _ => rfl)) pas_nil))))))))
      (pss_one (ps_ret (pe_op op_cat (pv 3) (pe_lst (pas_cons (pe_p3 0 1 2 (erAt 35) T.e35 hr (by rfl) (pv 0) (pv 1) (pv 2) (fun _ _ _ => rfl)) (pas_cons (pe_z 0 1 2 (erAt 36) T.e36 (by rfl) (fun _ _ _ => rfl)) (pas_cons (pe_z 0 1 2 (erAt 37) T.e37 (by rfl) (fun _ _ _ => rfl)) (pas_cons (pe_z 0 1 2 (erAt 38) T.e38 (by rfl) (fun _ _ _ => rfl)) (pas_cons (pe_z 0 1 2 (erAt 39) T.e39 (by rfl) (fun _ _ _ => rfl)) (pas_cons (pe_z 0 1 2 (erAt 40) T.e40 (by rfl) (fun _ _ _ => rfl)) pas_nil))))))))))))), ?_⟩
    refine ⟨x, y, z, rfl, rfl, rfl, fun as1 H1 s1 l1 => ⟨len_ok l1 (by show 7 ≤ 100; decide), fun p1 f1 => ?_⟩⟩
    have t1 : Same H (upd H1 p1 (.lst (as1.map V.ref))) := s1.trans (Same.new f1)
    have m1 := l1.same (Same.new (o := HO.lst (as1.map V.ref)) f1)
    have e1 : (upd H1 p1 (.lst (as1.map V.ref))) p1 = some (.lst (as1.map V.ref)) := upd_same
    generalize upd H1 p1 (.lst (as1.map V.ref)) = G1 at t1 m1 e1 ⊢
    obtain ⟨b1, hb1⟩ : ∃ b, b = as1 := ⟨_, rfl⟩
    rw [← hb1] at m1 e1
    refine ⟨.ref p1, rfl, x, y, z, rfl, rfl, rfl, fun as2 H2 s2 l2 => ⟨len_ok l2 (by show 7 ≤ 100; decide), fun r2 f2 => ?_⟩⟩
    refine ⟨p1, r2, _, _, rfl, rfl, (Same.new f2) _ _ (s2 _ _ e1), upd_same, len2 m1 l2 (by show 7 + 7 ≤ 100; decide), fun p2 g2 => ?_⟩
    have k2 := (Same.new (o := HO.lst (as2.map V.ref)) f2).trans (Same.new (o := HO.lst (b1.map V.ref ++ as2.map V.ref)) g2)
    have t2 := (t1.trans s2).trans k2
    have m2 := (m1.same (s2.trans k2)).append' (l2.same k2)
    have e2 : (upd (upd H2 r2 (.lst (as2.map V.ref))) p2 (.lst (b1.map V.ref ++ as2.map V.ref))) p2 = some (.lst ((b1 ++ as2).map V.ref)) := by rw [upd_same, List.map_append]
    generalize upd (upd H2 r2 (.lst (as2.map V.ref))) p2 (.lst (b1.map V.ref ++ as2.map V.ref)) = G2 at t2 m2 e2 ⊢
    generalize b1 ++ as2 = b2 at m2 e2 ⊢
    refine ⟨.ref p2, rfl, x, y, z, rfl, rfl, rfl, fun as3 H3 s3 l3 => ⟨len_ok l3 (by show 5 ≤ 100; decide), fun r3 f3 => ?_⟩⟩
    refine ⟨p2, r3, _, _, rfl, rfl, (Same.new f3) _ _ (s3 _ _ e2), upd_same, len2 m2 l3 (by show 14 + 5 ≤ 100; decide), fun p3 g3 => ?_⟩
    have k3 := (Same.new (o := HO.lst (as3.map V.ref)) f3).trans (Same.new (o := HO.lst (b2.map V.ref ++ as3.map V.ref)) g3)
    have t3 := (t2.trans s3).trans k3
    have m3 := (m2.same (s3.trans k3)).append' (l3.same k3)
    have e3 : (upd (upd H3 r3 (.lst (as3.map V.ref))) p3 (.lst (b2.map V.ref ++ as3.map V.ref))) p3 = some (.lst ((b2 ++ as3).map V.ref)) := by rw [upd_same, List.map_append]
    generalize upd (upd H3 r3 (.lst (as3.map V.ref))) p3 (.lst (b2.map V.ref ++ as3.map V.ref)) = G3 at t3 m3 e3 ⊢
    generalize b2 ++ as3 = b3 at m3 e3 ⊢
    refine ⟨.ref p3, rfl, x, y, z, rfl, rfl, rfl, fun as4 H4 s4 l4 => ⟨len_ok l4 (by show 6 ≤ 100; decide), fun r4 f4 => ?_⟩⟩
    refine ⟨p3, r4, _, _, rfl, rfl, (Same.new f4) _ _ (s4 _ _ e3), upd_same, len2 m3 l4 (by show 19 + 6 ≤ 100; decide), fun p4 g4 => ?_⟩
    have k4 := (Same.new (o := HO.lst (as4.map V.ref)) f4).trans (Same.new (o := HO.lst (b3.map V.ref ++ as4.map V.ref)) g4)
    have t4 := (t3.trans s4).trans k4
    have m4 := (m3.same (s4.trans k4)).append' (l4.same k4)
    have e4 : (upd (upd H4 r4 (.lst (as4.map V.ref))) p4 (.lst (b3.map V.ref ++ as4.map V.ref))) p4 = some (.lst ((b3 ++ as4).map V.ref)) := by rw [upd_same, List.map_append]
    generalize upd (upd H4 r4 (.lst (as4.map V.ref))) p4 (.lst (b3.map V.ref ++ as4.map V.ref)) = G4 at t4 m4 e4 ⊢
    generalize b3 ++ as4 = b4 at m4 e4 ⊢
    exact q p4 b4 G4 t4 e4 m4
theorem ok_law_others_named {f : Addr} {fd : FuncData} (D : DF K mg "_law_others_named" s_law_others_named f fd) (T : Cls P w K mg base cs) : OkD P w K mg base 3 "_law_others_named" s_law_others_named ["_law_one", "_law_two", "_law_three"] (spMake K cs 16 25) f fd := by
  refine okd D sc_law_others_named (fun vs H Q E h => ?_) (fun cdv A outer s H vs Q E hr h => ?_)
  · obtain ⟨x, y, z, rfl, _⟩ := h
    rfl
  · obtain ⟨x, y, z, rfl, q⟩ := h
    refine ⟨_, (pss_cons (ps_set (i := 3) sc_law_others_named.nd rfl (Or.inl rfl) (pe_lst (pas_cons (pe_k1 0 1 2 (erAt 16) T.e16 hr (by rfl) (pv 0) (fun _ _ _ => rfl)) (pas_cons (pe_k1 0 1 2 (erAt 17) T.e17 hr (by rfl) (pv 0) (fun _ _ _ => rfl)) (pas_cons (pe_k1 0 1 2 (erAt 18) T.e18 hr (by rfl) (pv 0) (fun _ _ _ => rfl)) (pas_cons (pe_k1 0 1 2 (erAt 19) T.e19 hr (by rfl) (pv 0) (fun _ _ _ => rfl)) (pas_cons (pe_k1 0 1 2 (erAt 20) T.e20 hr (by rfl) (pv 0) (fun _ _ _ => rfl)) pas_nil)))))))
      (pss_cons (ps_set (i := 3) sc_law_others_named.nd rfl (Or.inl rfl) (pe_op op_cat (pv 3) (pe_lst (pas_cons (pe_k1 0 1 2 (erAt 21) T.e21 hr (by rfl) (pv 0) (fun _ _ _ => rfl)) (pas_cons (pe_k1 0 1 2 (erAt 22) T.e22 hr (by rfl) (pv 0) (fun _ _ _ => rfl)) (pas_cons (pe_k1 0 1 2 (erAt 23) T.e23 hr (by rfl) (pv 0) (fun _ _ _ => rfl)) (pas_cons (pe_k1 0 1 2 (erAt 24) T.e24 hr (by rfl) (pv 0) (fun _ _ _ => rfl)) (pas_cons (pe_k1 0 1 2 (erAt 25) T.e25 hr (by rfl) (pv 0) (fun _ _ _ => rfl)) pas_nil))))))))
      (pss_cons (ps_set (i := 3) sc_law_others_named.nd rfl (Or.inl rfl) (pe_op op_cat (pv 3) (pe_lst (pas_cons (pe_k1 0 1 2 (erAt 26) T.e26 hr (by rfl) (pv 0) (fun _ _ _ => rfl)) (pas_cons (pe_k1 0 1 2 (erAt 27) T.e27 hr (by rfl) (pv 0) (fun _ _ _ => rfl)) (pas_cons (pe_k1 0 1 2 (erAt 28) T.e28 hr (by rfl) (pv 0) (fun _ _ _ => rfl)) (pas_cons (pe_k1 0 1 2 (erAt 29) T.e29 hr (by rfl) (pv 0) (fun _ _ _ => rfl)) (pas_cons (pe_k1 0 1 2 (erAt 30) T.e30 hr (by rfl) (pv 0) (fun _ _ _ => rfl)) pas_nil))))))))
      (pss_cons (ps_set (i := 3) sc_law_others_named.nd rfl (Or.inl rfl) (pe_op op_cat (pv 3) (pe_lst (pas_cons (pe_k1 0 1 2 (erAt 31) T.e31 hr (by rfl) (pv 0) (fun _ _ _ => rfl)) (pas_cons (pe_k2 0 1 2 (erAt 32) T.e32 hr (by rfl) (pv 0) (pv 1) (fun _ _ _ => rfl)) (pas_cons (pe_k2 0 1 2 (erAt 33) T.e33 hr (by rfl) (pv 0) (pv 1) (fun _ _ _ => rfl)) (pas_cons (pe_k2 0 1 2 (erAt 34) T.e34 hr (by rfl) (pv 0) (pv 1) (fun _ _ _ => rfl)) pas_nil)))))))
      (pss_one (ps_ret (pe_op op_cat (pv 3) (pe_lst (pas_cons (pe_k3 0 1 2 (erAt 35) T.e35 hr (by rfl) (pv 0) (pv 1) (pv 2) (fun _ _ _ => rfl)) (pas_cons (pe_z 0 1 2 (erAt 36) T.e36 (by rfl) (fun _ _ _ => rfl)) (pas_cons (pe_z 0 1 2 (erAt 37) T.e37 (by rfl) (fun _ _ _ => rfl)) (pas_cons (pe_z 0 1 2 (erAt 38) T.e38 (by rfl) (fun _ _ _ => rfl)) (pas_cons (pe_z 0 1 2 (erAt 39) T.e39 (by rfl) (fun _ _ _ => rfl)) (pas_cons (pe_z 0 1 2 (erAt 40) T.e40 (by rfl) (fun _ _ _ => rfl)) pas_nil)))))))))))))), ?_⟩
    refine ⟨x, y, z, rfl, rfl, rfl, fun as1 H1 s1 l1 => ⟨len_ok l1 (by show 5 ≤ 100; decide), fun p1 f1 => ?_⟩⟩
    have t1 : Same H (upd H1 p1 (.lst (as1.map V.ref))) := s1.trans (Same.new f1)
    have m1 := l1.same (Same.new (o := HO.lst (as1.map V.ref)) f1)
    have e1 : (upd H1 p1 (.lst (as1.map V.ref))) p1 = some (.lst (as1.map V.ref)) := upd_same
    generalize upd H1 p1 (.lst (as1.map V.ref)) = G1 at t1 m1 e1 ⊢
    obtain ⟨b1, hb1⟩ : ∃ b, b = as1 := ⟨_, rfl⟩
    rw [← hb1] at m1 e1
    refine ⟨.ref p1, rfl, x, y, z, rfl, rfl, rfl, fun as2 H2 s2 l2 => ⟨len_ok l2 (by show 5 ≤ 100; decide), fun r2 f2 => ?_⟩⟩
    refine ⟨p1, r2, _, _, rfl, rfl, (Same.new f2) _ _ (s2 _ _ e1), upd_same, len2 m1 l2 (by show 5 + 5 ≤ 100; decide), fun p2 g2 => ?_⟩
    have k2 := (Same.new (o := HO.lst (as2.map V.ref)) f2).trans (Same.new (o := HO.lst (b1.map V.ref ++ as2.map V.ref)) g2)
    have t2 := (t1.trans s2).trans k2
    have m2 := (m1.same (s2.trans k2)).append' (l2.same k2)
    have e2 : (upd (upd H2 r2 (.lst (as2.map V.ref))) p2 (.lst (b1.map V.ref ++ as2.map V.ref))) p2 = some (.lst ((b1 ++ as2).map V.ref)) := by rw [upd_same, List.map_append]
    generalize upd (upd H2 r2 (.lst (as2.map V.ref))) p2 (.lst (b1.map V.ref ++ as2.map V.ref)) = G2 at t2 m2 e2 ⊢
    generalize b1 ++ as2 = b2 at m2 e2 ⊢
    refine ⟨.ref p2, rfl, x, y, z, rfl, rfl, rfl, fun as3 H3 s3 l3 => ⟨len_ok l3 (by show 5 ≤ 100; decide), fun r3 f3 => ?_⟩⟩
    refine ⟨p2, r3, _, _, rfl, rfl, (Same.new f3) _ _ (s3 _ _ e2), upd_same, len2 m2 l3 (by show 10 + 5 ≤ 100; decide), fun p3 g3 => ?_⟩
    have k3 := (Same.new (o := HO.lst (as3.map V.ref)) f3).trans (Same.new (o := HO.lst (b2.map V.ref ++ as3.map V.ref)) g3)
    have t3 := (t2.trans s3).trans k3
    have m3 := (m2.same (s3.trans k3)).append' (l3.same k3)
    have e3 : (upd (upd H3 r3 (.lst (as3.map V.ref))) p3 (.lst (b2.map V.ref ++ as3.map V.ref))) p3 = some (.lst ((b2 ++ as3).map V.ref)) := by rw [upd_same, List.map_append]
    generalize upd (upd H3 r3 (.lst (as3.map V.ref))) p3 (.lst (b2.map V.ref ++ as3.map V.ref)) = G3 at t3 m3 e3 ⊢
    generalize b2 ++ as3 = b3 at m3 e3 ⊢
    refine ⟨.ref p3, rfl, x, y, z, rfl, rfl, rfl, fun as4 H4 s4 l4 => ⟨len_ok l4 (by show 4 ≤ 100; decide), fun r4 f4 => ?_⟩⟩
    refine ⟨p3, r4, _, _, rfl, rfl, (Same.new f4) _ _ (s4 _ _ e3), upd_same, len2 m3 l4 (by show 15 + 4 ≤ 100; decide), fun p4 g4 => ?_⟩
    have k4 := (Same.new (o := HO.lst (as4.map V.ref)) f4).trans (Same.new (o := HO.lst (b3.map V.ref ++ as4.map V.ref)) g4)
    have t4 := (t3.trans s4).trans k4
    have m4 := (m3.same (s4.trans k4)).append' (l4.same k4)
    have e4 : (upd (upd H4 r4 (.lst (as4.map V.ref))) p4 (.lst (b3.map V.ref ++ as4.map V.ref))) p4 = some (.lst ((b3 ++ as4).map V.ref)) := by rw [upd_same, List.map_append]
    generalize upd (upd H4 r4 (.lst (as4.map V.ref))) p4 (.lst (b3.map V.ref ++ as4.map V.ref)) = G4 at t4 m4 e4 ⊢
    generalize b3 ++ as4 = b4 at m4 e4 ⊢
    refine ⟨.ref p4, rfl, x, y, z, rfl, rfl, rfl, fun as5 H5 s5 l5 => ⟨len_ok l5 (by show 6 ≤ 100; decide), fun r5 f5 => ?_⟩⟩
    refine ⟨p4, r5, _, _, rfl, rfl, (Same.new f5) _ _ (s5 _ _ e4), upd_same, len2 m4 l5 (by show 19 + 6 ≤ 100; decide), fun p5 g5 => ?_⟩
    have k5 := (Same.new (o := HO.lst (as5.map V.ref)) f5).trans (Same.new (o := HO.lst (b4.map V.ref ++ as5.map V.ref)) g5)
    have t5 := (t4.trans s5).trans k5
    have m5 := (m4.same (s5.trans k5)).append' (l5.same k5)
    have e5 : (upd (upd H5 r5 (.lst (as5.map V.ref))) p5 (.lst (b4.map V.ref ++ as5.map V.ref))) p5 = some (.lst ((b4 ++ as5).map V.ref)) := by rw [upd_same, List.map_append]
    generalize upd (upd H5 r5 (.lst (as5.map V.ref))) p5 (.lst (b4.map V.ref ++ as5.map V.ref)) = G5 at t5 m5 e5 ⊢
    generalize b4 ++ as5 = b5 at m5 e5 ⊢
    exact q p5 b5 G5 t5 e5 m5
end
end K00


set_option maxHeartbeats 1000000
namespace K00
open PySem PySem.Spec PyProof.Rows L2 XB XV XG
open C8 (Cal Met Mak pe_c pe_mk pe_mt pe_mt0 pss_cut tCut)
theorem ErN.gC {P : Program} {w : World} {K : PySem.W.Frag} {mg : Str → Option Value} {base : Heap} {x : Str} {C : Addr} {fs : List Str} (E : ErN P w K mg base x C fs) : mg x = some (.ref C) := by
  obtain ⟨_, _, O, _⟩ := E.ex
  exact O.gC
/-- what the written part says of the classes -/
structure Kit (K : PySem.W.Frag) (cs : List Addr) : Prop where
  ex : ∀ i, i < 43 → ExcC K (cs.getD i 0)
  xf : ∀ i, i < 43 → XfC K (cs.getD i 0)
  nf : ∀ i, i < 42 → ∀ f ∈ FLD, PySem.W.findIn K (.ref (cs.getD i 0)) f = some none
  kk : ∀ i, i < 43 → ∀ j, j < 41 → PySem.W.kitOne K (.ref (cs.getD i 0)) (.ref (cs.getD j 0)) = some (decide (i = j))
  kw : ∀ i, i < 43 → PySem.W.kitOne K (.ref (cs.getD i 0)) (.ref (cs.getD 42 0)) = some true
  km : ∀ i, i < 41 → PySem.W.kitOne K (.ref (cs.getD i 0)) (.ref (cs.getD 41 0)) = some (decide (16 ≤ i ∧ i < 23))
  kv : ∀ i, i < 43 → PySem.W.kitOne K (.ref (cs.getD i 0)) (.type "ValueError") = some true
  kl : ∀ i, i < 43 → PySem.W.kitOne K (.ref (cs.getD i 0)) (.type "LookupError") = some false
  kt : ∀ i, i < 43 → PySem.W.kitOne K (.ref (cs.getD i 0)) (.type "TypeError") = some false
  ka : ∀ i, i < 43 → PySem.W.kitOne K (.ref (cs.getD i 0)) (.type "ArithmeticError") = some false
  kr : ∀ i, i < 43 → PySem.W.kitOne K (.ref (cs.getD i 0)) (.type "RuntimeError") = some false
  kn : ∀ i, i < 43 → PySem.W.kitOne K (.ref (cs.getD i 0)) (.type "AttributeError") = some false
def dues (i : Nat) (x y z : V) : List V := if i < 32 then [x] else if i < 35 then [x, y] else if i < 36 then [x, y, z] else []
def spFields (cs : List Addr) : Sp := fun vs H Q _ => ∃ (a : Addr) (i : Nat) (x y z : V), vs = [.ref a, .int i] ∧ i < 41 ∧ Er H (cs.getD i 0) a (erAt i x y z) ∧ ∀ p, H p = none → Q (.ref p) (upd H p (.lst (dues i x y z)))
def bl41 (i : Nat) : List V := (List.range 41).map fun j => .bl (decide (i = j))
def spKin (cs : List Addr) : Sp := fun vs H Q _ => ∃ (a : Addr) (i : Nat) (fs : Option (List (Str × V))), vs = [.ref a] ∧ i < 43 ∧ Er H (cs.getD i 0) a fs ∧ ∀ p H', Same H H' → H' p = some (.lst (bl41 i)) → Q (.ref p) H'
def spRight (cs : List Addr) : Sp := fun vs H Q _ => ∃ (a : Addr) (i : Nat) (fs : Option (List (Str × V))), vs = [.ref a, .int i] ∧ i < 41 ∧ Er H (cs.getD i 0) a fs ∧ ∀ H', Same H H' → Q (.bl true) H'
theorem dp_bls {K : PySem.W.Frag} {H : Hp} {f : Nat → Bool} : ∀ l : List Nat, DpAll K H (l.map fun j => V.bl (f j)) (l.map fun j => PyData.bool (f j))
  | [] => .nil
  | a :: r => .cons (.bl _) (dp_bls r)
/-- some of the 41 questions -/
def tKins (js : List Nat) (K : PySem.W.Frag) (cs : List Addr) : TA := fun σ H Q => ∃ a i fs, σ[0]? = some (some (.ref a)) ∧ i < 43 ∧ Er H (cs.getD i 0) a fs ∧ Q (js.map fun j => .bl (decide (i = j))) H
section
variable {X : Cx} {cs : List Addr} {js : List Nat} {j : Nat} {x v : Str} {p1 p2 p3 p4 : Pos} {es : List Expr}
theorem pks_nil : PA X [] (tKins [] X.K cs) := ⟨fun pos pins s σ H Q I hh => by
  obtain ⟨a, i, fs, h0, hi, er, q⟩ := hh
  exact pa_nil.run pos pins s σ H Q I q⟩
theorem pks_cons (N : Kit X.K cs) (j : Nat) (hj : j < 41) (gi : Gl X "isinstance") (hi : X.mg "isinstance" = none) (hg : Gl X x) (gC : X.mg x = some (.ref (cs.getD j 0))) (hv : PE X (.Name v p2) (tVar 0)) (hr : PA X es (tKins js X.K cs))
    (hdb : (x == ("__debug__" : Str)) = false := by decide)
    (h1 : starEach [Expr.Name v p2, Expr.Name x p3] X.env = (false, eval (Expr.Name v p2) X.env) :: starEach [Expr.Name x p3] X.env := by rfl) (h2 : starEach [Expr.Name x p3] X.env = (false, eval (Expr.Name x p3) X.env) :: starEach [] X.env := by rfl)
    (hs : starEach (.Call (.Name "isinstance" p1) [.Name v p2, .Name x p3] [] p4 :: es) X.env = (false, eval (.Call (.Name "isinstance" p1) [.Name v p2, .Name x p3] [] p4) X.env) :: starEach es X.env := by rfl) :
    PA X (.Call (.Name "isinstance" p1) [.Name v p2, .Name x p3] [] p4 :: es) (tKins (j :: js) X.K cs) := ⟨fun pos pins s σ H Q I hh => by
  obtain ⟨a, i, fs, h0, hi', er, q⟩ := hh
  exact (pa_cons (pe_callB call_isX gi hi (by decide +kernel) (pa_cons hv (pa_cons (pe_glob (v := .ref (cs.getD j 0)) hg gC rfl hdb) pa_nil h2) h1)) hr hs).run pos pins s σ H Q I
    ⟨.ref a, h0, a, _, _, _, fs, _, rfl, er, N.ex i hi', .own _, N.kk i hi' j hj, a, i, fs, h0, hi', er, q⟩⟩
end
section
variable {P : Program} {w : World} {K : PySem.W.Frag} {mg : Str → Option Value} {base : Heap} {cs : List Addr}
theorem ok_law_fields {f : Addr} {fd : FuncData} (D : DF K mg "_law_fields" s_law_fields f fd) (N : Kit K cs) : OkD P w K mg base 1 "_law_fields" s_law_fields ["_law_error", "_law_place"] (spFields cs) f fd := by
  refine okd D sc_law_fields (fun vs H Q E h => ?_) (fun cdv A outer s H vs Q E hr h => ?_)
  · obtain ⟨a, i, x, y, z, rfl, _⟩ := h
    rfl
  · obtain ⟨a, i, x, y, z, rfl, hi, er, q⟩ := h
    refine ⟨_, (pss_cons (ps_if (pt_cmpR op_lt (pv 1) pe_int (nomark _)) (pss_one (ps_ret (pe_lst (pa_cons (pe_xv (pv 0)) pa_nil)))) pss_nil)
      (pss_cons (ps_if (pt_cmpR op_lt (pv 1) pe_int (nomark _)) (pss_one (ps_ret (pe_lst (pa_cons (pe_xv (pv 0)) pa_nil)))) pss_nil)
      (pss_cons (ps_if (pt_cmpR op_lt (pv 1) pe_int (nomark _)) (pss_one (ps_ret (pe_lst (pa_cons (pe_ifExp (pt_cmpR op_eq (pv 1) pe_int (nomark _)) (pe_xv (pv 0)) (pe_xv (pv 0))) pa_nil)))) pss_nil)
      (pss_cons (ps_if (pt_cmpR op_lt (pv 1) pe_int (nomark _)) (pss_one (ps_ret (pe_lst (pa_cons (pe_ifExp (pt_cmpR op_lt (pv 1) pe_int (nomark _)) (pe_xv (pv 0)) (pe_xv (pv 0))) pa_nil)))) pss_nil)
      (pss_cons (ps_if (pt_cmpR op_eq (pv 1) pe_int (nomark _)) (pss_one (ps_ret (pe_lst (pa_cons (pe_xv (pv 0)) (pa_cons (pe_xv (pv 0)) pa_nil))))) pss_nil)
      (pss_cons (ps_if (pt_cmpR op_lt (pv 1) pe_int (nomark _)) (pss_one (ps_ret (pe_lst (pa_cons (pe_xv (pv 0)) (pa_cons (pe_ifExp (pt_cmpR op_eq (pv 1) pe_int (nomark _)) (pe_xv (pv 0)) (pe_xv (pv 0))) pa_nil))))) pss_nil)
      (pss_one (ps_ret (pe_ifExp (pt_cmpR op_eq (pv 1) pe_int (nomark _)) (pe_lst (pa_cons (pe_xv (pv 0)) (pa_cons (pe_xv (pv 0)) (pa_cons (pe_xv (pv 0)) pa_nil)))) (pe_lst pa_nil)))))))))), ?_⟩
    have N1 := N.xf i (by omega)
    have N2 := N.nf i (by omega)
    have er2 : ∀ fs, erAt i x y z = some fs → Er H (cs.getD i 0) a (some fs) := fun fs e => by
      rw [← e]
      exact er
    have one : ∀ v, dues i x y z = [v] → ∀ p, H p = none → Q (.ref p) (upd H p (.lst [v])) := fun v e p np => by
      have := q p np
      rw [e] at this
      exact this
    refine ⟨.int i, rfl, _, _, rfl, rfl, _, rfl, ite2 (fun e => ?_) (fun e => ?_)⟩
    · have h1 : i < 16 := by have := of_decide_eq_true e; omega
      exact ⟨.ref a, rfl, a, _, _, x, rfl, er2 [("part", x)] (by simp [erAt, fsAt, h1, show i < 36 by omega]), N1, N2 _ (by simp [FLD]), rfl, (by show 1 ≤ sizeLine; decide), one x (by simp [dues, show i < 32 by omega])⟩
    have g1 : ¬ i < 16 := fun z => e (decide_eq_true (by omega))
    refine ⟨.int i, rfl, _, _, rfl, rfl, _, rfl, ite2 (fun e => ?_) (fun e => ?_)⟩
    · have h1 : i < 24 := by have := of_decide_eq_true e; omega
      exact ⟨.ref a, rfl, a, _, _, x, rfl, er2 [("value", x)] (by simp [erAt, fsAt, g1, h1, show i < 36 by omega]), N1, N2 _ (by simp [FLD]), rfl, (by show 1 ≤ sizeLine; decide), one x (by simp [dues, show i < 32 by omega])⟩
    have g2 : ¬ i < 24 := fun z => e (decide_eq_true (by omega))
    refine ⟨.int i, rfl, _, _, rfl, rfl, _, rfl, ite2 (fun e => ?_) (fun e => ?_)⟩
    · have h1 : i < 26 := by have := of_decide_eq_true e; omega
      refine ⟨.int i, rfl, rfl, _, rfl, ite2 (fun e => ?_) (fun e => ?_)⟩
      · have h2 : i < 25 := by have := V.int.inj (of_decide_eq_true e); omega
        exact ⟨.ref a, rfl, a, _, _, x, rfl, er2 [("what", x)] (by simp [erAt, fsAt, g1, g2, h2, show i < 36 by omega]), N1, N2 _ (by simp [FLD]), rfl, (by show 1 ≤ sizeLine; decide), one x (by simp [dues, show i < 32 by omega])⟩
      · have h2 : ¬ i < 25 := fun z => e (decide_eq_true (congrArg V.int (by omega)))
        exact ⟨.ref a, rfl, a, _, _, x, rfl, er2 [("place", x)] (by simp [erAt, fsAt, g1, g2, h2, h1, show i < 36 by omega]), N1, N2 _ (by simp [FLD]), rfl, (by show 1 ≤ sizeLine; decide), one x (by simp [dues, show i < 32 by omega])⟩
    have g3 : ¬ i < 26 := fun z => e (decide_eq_true (by omega))
    have g3' : ¬ i < 25 := by omega
    refine ⟨.int i, rfl, _, _, rfl, rfl, _, rfl, ite2 (fun e => ?_) (fun e => ?_)⟩
    · have h1 : i < 32 := by have := of_decide_eq_true e; omega
      refine ⟨.int i, rfl, _, _, rfl, rfl, _, rfl, ite2 (fun e => ?_) (fun e => ?_)⟩
      · have h2 : i < 28 := by have := of_decide_eq_true e; omega
        exact ⟨.ref a, rfl, a, _, _, x, rfl, er2 [("thing", x)] (by simp [erAt, fsAt, g1, g2, g3, g3', h2, show i < 36 by omega]), N1, N2 _ (by simp [FLD]), rfl, (by show 1 ≤ sizeLine; decide), one x (by simp [dues, show i < 32 by omega])⟩
      · have h2 : ¬ i < 28 := fun z => e (decide_eq_true (by omega))
        exact ⟨.ref a, rfl, a, _, _, x, rfl, er2 [("asking", x)] (by simp [erAt, fsAt, g1, g2, g3, g3', h2, h1, show i < 36 by omega]), N1, N2 _ (by simp [FLD]), rfl, (by show 1 ≤ sizeLine; decide), one x (by simp [dues, show i < 32 by omega])⟩
    have g4 : ¬ i < 32 := fun z => e (decide_eq_true (by omega))
    have g4' : ¬ i < 28 := by omega
    have two : i < 35 → ∀ p, H p = none → Q (.ref p) (upd H p (.lst [x, y])) := fun e p np => by
      have := q p np
      rw [show dues i x y z = [x, y] by simp [dues, g4, e]] at this
      exact this
    refine ⟨.int i, rfl, rfl, _, rfl, ite2 (fun e => ?_) (fun e => ?_)⟩
    · have h1 : i < 33 := by have := V.int.inj (of_decide_eq_true e); omega
      have ee := er2 [("most", y), ("what", x)] (by simp [erAt, fsAt, g1, g2, g3, g3', g4, g4', h1, show i < 36 by omega])
      exact ⟨.ref a, rfl, a, _, _, x, rfl, ee, N1, N2 _ (by simp [FLD]), rfl, .ref a, rfl, a, _, _, y, rfl, ee, N1, N2 _ (by simp [FLD]), rfl, (by show 2 ≤ sizeLine; decide), two (by omega)⟩
    have g5 : ¬ i < 33 := fun z => e (decide_eq_true (congrArg V.int (by omega)))
    refine ⟨.int i, rfl, _, _, rfl, rfl, _, rfl, ite2 (fun e => ?_) (fun e => ?_)⟩
    · have h1 : i < 35 := by have := of_decide_eq_true e; omega
      by_cases h2 : i < 34
      · have ee := er2 [("word", y), ("line", x)] (by simp [erAt, fsAt, g1, g2, g3, g3', g4, g4', g5, h2, show i < 36 by omega])
        exact ⟨.ref a, rfl, a, _, _, x, rfl, ee, N1, N2 _ (by simp [FLD]), rfl, .int i, rfl, rfl, _, rfl, ite2 (fun _ => ⟨.ref a, rfl, a, _, _, y, rfl, ee, N1, N2 _ (by simp [FLD]), rfl, (by show 2 ≤ sizeLine; decide), two h1⟩) (fun z => absurd (decide_eq_true (congrArg V.int (by omega))) z)⟩
      · have ee := er2 [("error", y), ("line", x)] (by simp [erAt, fsAt, g1, g2, g3, g3', g4, g4', g5, h2, h1, show i < 36 by omega])
        exact ⟨.ref a, rfl, a, _, _, x, rfl, ee, N1, N2 _ (by simp [FLD]), rfl, .int i, rfl, rfl, _, rfl, ite2 (fun z => absurd (V.int.inj (of_decide_eq_true z)) (by omega)) (fun _ => ⟨.ref a, rfl, a, _, _, y, rfl, ee, N1, N2 _ (by simp [FLD]), rfl, (by show 2 ≤ sizeLine; decide), two h1⟩)⟩
    have g6 : ¬ i < 35 := fun z => e (decide_eq_true (by omega))
    have g6' : ¬ i < 34 := by omega
    refine ⟨.int i, rfl, rfl, _, rfl, ite2 (fun e => ?_) (fun e => ?_)⟩
    · have h1 : i < 36 := by have := V.int.inj (of_decide_eq_true e); omega
      have ee := er2 [("true", z), ("who", y), ("stand", x)] (by simp [erAt, fsAt, g1, g2, g3, g3', g4, g4', g5, g6, g6', h1])
      refine ⟨.ref a, rfl, a, _, _, x, rfl, ee, N1, N2 _ (by simp [FLD]), rfl, .ref a, rfl, a, _, _, y, rfl, ee, N1, N2 _ (by simp [FLD]), rfl, .ref a, rfl, a, _, _, z, rfl, ee, N1, N2 _ (by simp [FLD]), rfl, (by show 3 ≤ sizeLine; decide), fun p np => ?_⟩
      have := q p np
      rw [show dues i x y z = [x, y, z] by simp [dues, g4, g6, h1]] at this
      exact this
    · have h1 : ¬ i < 36 := fun z => e (decide_eq_true (congrArg V.int (by omega)))
      refine ⟨(by show 0 ≤ sizeLine; decide), fun p np => ?_⟩
      have := q p np
      rw [show dues i x y z = [] by simp [dues, g4, g6, h1]] at this
      exact this
end
end K00

set_option maxHeartbeats 1000000
namespace K00
open PySem PySem.Spec PyProof.Rows L2 XB XV XG
open C8 (Cal Met Mak pe_c pe_mk pe_mt pe_mt0 pss_cut tCut)
section
variable {P : Program} {w : World} {K : PySem.W.Frag} {mg : Str → Option Value} {base : Heap} {cs : List Addr}
theorem ok_law_kin {f : Addr} {fd : FuncData} (D : DF K mg "_law_kin" s_law_kin f fd) (T : Txt K mg) (M : Cls P w K mg base cs) (N : Kit K cs) : OkD P w K mg base 1 "_law_kin" s_law_kin ["_law_error"] (spKin cs) f fd := by
  refine okd D sc_law_kin (fun vs H Q E h => ?_) (fun cdv A outer s H vs Q E hr h => ?_)
  · obtain ⟨a, i, fs, rfl, _⟩ := h
    rfl
  · obtain ⟨a, i, fs, rfl, hi, er, q⟩ := h
    refine ⟨_, (pss_cons (ps_set (i := 1) sc_law_kin.nd rfl (Or.inl rfl) (pe_lst (pks_cons N 0 (by decide) (by rfl) T.m_isinstance (by rfl) M.e0.gC (pv 0) (pks_cons N 1 (by decide) (by rfl) T.m_isinstance (by rfl) M.e1.gC (pv 0) (pks_cons N 2 (by decide) (by rfl) T.m_isinstance (by rfl) M.e2.gC (pv 0) pks_nil)))))
      (pss_cons (ps_set (i := 1) sc_law_kin.nd rfl (Or.inl rfl) (pe_op op_cat (pv 1) (pe_lst (pks_cons N 3 (by decide) (by rfl) T.m_isinstance (by rfl) M.e3.gC (pv 0) (pks_cons N 4 (by decide) (by rfl) T.m_isinstance (by rfl) M.e4.gC (pv 0) (pks_cons N 5 (by decide) (by rfl) T.m_isinstance (by rfl) M.e5.gC (pv 0) pks_nil))))))
      (pss_cons (ps_set (i := 1) sc_law_kin.nd rfl (Or.inl rfl) (pe_op op_cat (pv 1) (pe_lst (pks_cons N 6 (by decide) (by rfl) T.m_isinstance (by rfl) M.e6.gC (pv 0) (pks_cons N 7 (by decide) (by rfl) T.m_isinstance (by rfl) M.e7.gC (pv 0) (pks_cons N 8 (by decide) (by rfl) T.m_isinstance (by rfl) M.e8.gC (pv 0) pks_nil))))))
      (pss_cons (ps_set (i := 1) sc_law_kin.nd rfl (Or.inl rfl) (pe_op op_cat (pv 1) (pe_lst (pks_cons N 9 (by decide) (by rfl) T.m_isinstance (by rfl) M.e9.gC (pv 0) (pks_cons N 10 (by decide) (by rfl) T.m_isinstance (by rfl) M.e10.gC (pv 0) (pks_cons N 11 (by decide) (by rfl) T.m_isinstance (by rfl) M.e11.gC (pv 0) pks_nil))))))
      (pss_cons (ps_set (i := 1) sc_law_kin.nd rfl (Or.inl rfl) (pe_op op_cat (pv 1) (pe_lst (pks_cons N 12 (by decide) (by rfl) T.m_isinstance (by rfl) M.e12.gC (pv 0) (pks_cons N 13 (by decide) (by rfl) T.m_isinstance (by rfl) M.e13.gC (pv 0) (pks_cons N 14 (by decide) (by rfl) T.m_isinstance (by rfl) M.e14.gC (pv 0) pks_nil))))))
      (pss_cons (ps_set (i := 1) sc_law_kin.nd rfl (Or.inl rfl) (pe_op op_cat (pv 1) (pe_lst (pks_cons N 15 (by decide) (by rfl) T.m_isinstance (by rfl) M.e15.gC (pv 0) (pks_cons N 16 (by decide) (by rfl) T.m_isinstance (by rfl) M.e16.gC (pv 0) (pks_cons N 17 (by decide) (by rfl) T.m_isinstance (by rfl) M.e17.gC (pv 0) pks_nil))))))
      (pss_cons (ps_set (i := 1) sc_law_kin.nd rfl (Or.inl rfl) (pe_op op_cat (pv 1) (pe_lst (pks_cons N 18 (by decide) (by rfl) T.m_isinstance (by rfl) M.e18.gC (pv 0) (pks_cons N 19 (by decide) (by rfl) T.m_isinstance (by rfl) M.e19.gC (pv 0) (pks_cons N 20 (by decide) (by rfl) T.m_isinstance (by rfl) M.e20.gC (pv 0) pks_nil))))))
      (pss_cons (ps_set (i := 1) sc_law_kin.nd rfl (Or.inl rfl) (pe_op op_cat (pv 1) (pe_lst (pks_cons N 21 (by decide) (by rfl) T.m_isinstance (by rfl) M.e21.gC (pv 0) (pks_cons N 22 (by decide) (by rfl) T.m_isinstance (by rfl) M.e22.gC (pv 0) (pks_cons N 23 (by decide) (by rfl) T.m_isinstance (by rfl) M.e23.gC (pv 0) pks_nil))))))
      (pss_cons (ps_set (i := 1) sc_law_kin.nd rfl (Or.inl rfl) (pe_op op_cat (pv 1) (pe_lst (pks_cons N 24 (by decide) (by rfl) T.m_isinstance (by rfl) M.e24.gC (pv 0) (pks_cons N 25 (by decide) (by rfl) T.m_isinstance (by rfl) M.e25.gC (pv 0) (pks_cons N 26 (by decide) (by rfl) T.m_isinstance (by rfl) M.e26.gC (pv 0) pks_nil))))))
      (pss_cons (ps_set (i := 1) sc_law_kin.nd rfl (Or.inl rfl) (pe_op op_cat (pv 1) (pe_lst (pks_cons N 27 (by decide) (by rfl) T.m_isinstance (by rfl) M.e27.gC (pv 0) (pks_cons N 28 (by decide) (by rfl) T.m_isinstance (by rfl) M.e28.gC (pv 0) (pks_cons N 29 (by decide) (by rfl) T.m_isinstance (by rfl) M.e29.gC (pv 0) pks_nil))))))
      (pss_cons (ps_set (i := 1) sc_law_kin.nd rfl (Or.inl rfl) (pe_op op_cat (pv 1) (pe_lst (pks_cons N 30 (by decide) (by rfl) T.m_isinstance (by rfl) M.e30.gC (pv 0) (pks_cons N 31 (by decide) (by rfl) T.m_isinstance (by rfl) M.e31.gC (pv 0) (pks_cons N 32 (by decide) (by rfl) T.m_isinstance (by rfl) M.e32.gC (pv 0) pks_nil))))))
      (pss_cons (ps_set (i := 1) sc_law_kin.nd rfl (Or.inl rfl) (pe_op op_cat (pv 1) (pe_lst (pks_cons N 33 (by decide) (by rfl) T.m_isinstance (by rfl) M.e33.gC (pv 0) (pks_cons N 34 (by decide) (by rfl) T.m_isinstance (by rfl) M.e34.gC (pv 0) (pks_cons N 35 (by decide) (by rfl) T.m_isinstance (by rfl) M.e35.gC (pv 0) pks_nil))))))
      (pss_cons (ps_set (i := 1) sc_law_kin.nd rfl (Or.inl rfl) (pe_op op_cat (pv 1) (pe_lst (pks_cons N 36 (by decide) (by rfl) T.m_isinstance (by rfl) M.e36.gC (pv 0) (pks_cons N 37 (by decide) (by rfl) T.m_isinstance (by rfl) M.e37.gC (pv 0) (pks_cons N 38 (by decide) (by rfl) T.m_isinstance (by rfl) M.e38.gC (pv 0) pks_nil))))))
      (pss_one (ps_ret (pe_op op_cat (pv 1) (pe_lst (pks_cons N 39 (by decide) (by rfl) T.m_isinstance (by rfl) M.e39.gC (pv 0) (pks_cons N 40 (by decide) (by rfl) T.m_isinstance (by rfl) M.e40.gC (pv 0) pks_nil))))))))))))))))))), ?_⟩
    refine ⟨a, i, fs, rfl, hi, er, (by show 3 ≤ sizeLine; decide), fun p1 f1 => ?_⟩
    have t1 : Same H (upd H p1 (.lst (([0, 1, 2] : List Nat).map fun j => V.bl (decide (i = j))))) := Same.new f1
    have e1 : (upd H p1 (.lst (([0, 1, 2] : List Nat).map fun j => V.bl (decide (i = j))))) p1 = some (.lst (([0, 1, 2] : List Nat).map fun j => V.bl (decide (i = j)))) := upd_same
    generalize upd H p1 (.lst (([0, 1, 2] : List Nat).map fun j => V.bl (decide (i = j)))) = G1 at t1 e1 ⊢
    refine ⟨.ref p1, rfl, a, i, fs, rfl, hi, er.same t1, (by show 3 ≤ sizeLine; decide), fun r2 f2 => ?_⟩
    refine ⟨p1, r2, _, _, rfl, rfl, (Same.new f2) _ _ e1, upd_same, (by show 3 + 3 ≤ sizeLine; decide), fun p2 g2 => ?_⟩
    have t2 : Same H (upd (upd G1 r2 (.lst (([3, 4, 5] : List Nat).map fun j => V.bl (decide (i = j))))) p2 (.lst ((([0, 1, 2] : List Nat).map fun j => V.bl (decide (i = j))) ++ (([3, 4, 5] : List Nat).map fun j => V.bl (decide (i = j)))))) := (t1.trans (Same.new f2)).trans (Same.new g2)
    have e2 : (upd (upd G1 r2 (.lst (([3, 4, 5] : List Nat).map fun j => V.bl (decide (i = j))))) p2 (.lst ((([0, 1, 2] : List Nat).map fun j => V.bl (decide (i = j))) ++ (([3, 4, 5] : List Nat).map fun j => V.bl (decide (i = j)))))) p2 = some (.lst (([0, 1, 2, 3, 4, 5] : List Nat).map fun j => V.bl (decide (i = j)))) := upd_same
    generalize upd (upd G1 r2 (.lst (([3, 4, 5] : List Nat).map fun j => V.bl (decide (i = j))))) p2 (.lst ((([0, 1, 2] : List Nat).map fun j => V.bl (decide (i = j))) ++ (([3, 4, 5] : List Nat).map fun j => V.bl (decide (i = j))))) = G2 at t2 e2 ⊢
    refine ⟨.ref p2, rfl, a, i, fs, rfl, hi, er.same t2, (by show 3 ≤ sizeLine; decide), fun r3 f3 => ?_⟩
    refine ⟨p2, r3, _, _, rfl, rfl, (Same.new f3) _ _ e2, upd_same, (by show 6 + 3 ≤ sizeLine; decide), fun p3 g3 => ?_⟩
    have t3 : Same H (upd (upd G2 r3 (.lst (([6, 7, 8] : List Nat).map fun j => V.bl (decide (i = j))))) p3 (.lst ((([0, 1, 2, 3, 4, 5] : List Nat).map fun j => V.bl (decide (i = j))) ++ (([6, 7, 8] : List Nat).map fun j => V.bl (decide (i = j)))))) := (t2.trans (Same.new f3)).trans (Same.new g3)
    have e3 : (upd (upd G2 r3 (.lst (([6, 7, 8] : List Nat).map fun j => V.bl (decide (i = j))))) p3 (.lst ((([0, 1, 2, 3, 4, 5] : List Nat).map fun j => V.bl (decide (i = j))) ++ (([6, 7, 8] : List Nat).map fun j => V.bl (decide (i = j)))))) p3 = some (.lst (([0, 1, 2, 3, 4, 5, 6, 7, 8] : List Nat).map fun j => V.bl (decide (i = j)))) := upd_same
    generalize upd (upd G2 r3 (.lst (([6, 7, 8] : List Nat).map fun j => V.bl (decide (i = j))))) p3 (.lst ((([0, 1, 2, 3, 4, 5] : List Nat).map fun j => V.bl (decide (i = j))) ++ (([6, 7, 8] : List Nat).map fun j => V.bl (decide (i = j))))) = G3 at t3 e3 ⊢
    refine ⟨.ref p3, rfl, a, i, fs, rfl, hi, er.same t3, (by show 3 ≤ sizeLine; decide), fun r4 f4 => ?_⟩
    refine ⟨p3, r4, _, _, rfl, rfl, (Same.new f4) _ _ e3, upd_same, (by show 9 + 3 ≤ sizeLine; decide), fun p4 g4 => ?_⟩
    have t4 : Same H (upd (upd G3 r4 (.lst (([9, 10, 11] : List Nat).map fun j => V.bl (decide (i = j))))) p4 (.lst ((([0, 1, 2, 3, 4, 5, 6, 7, 8] : List Nat).map fun j => V.bl (decide (i = j))) ++ (([9, 10, 11] : List Nat).map fun j => V.bl (decide (i = j)))))) := (t3.trans (Same.new f4)).trans (Same.new g4)
    have e4 : (upd (upd G3 r4 (.lst (([9, 10, 11] : List Nat).map fun j => V.bl (decide (i = j))))) p4 (.lst ((([0, 1, 2, 3, 4, 5, 6, 7, 8] : List Nat).map fun j => V.bl (decide (i = j))) ++ (([9, 10, 11] : List Nat).map fun j => V.bl (decide (i = j)))))) p4 = some (.lst (([0, 1, 2, 3, 4, 5, 6, 7, 8, 9, 10, 11] : List Nat).map fun j => V.bl (decide (i = j)))) := upd_same
    generalize upd (upd G3 r4 (.lst (([9, 10, 11] : List Nat).map fun j => V.bl (decide (i = j))))) p4 (.lst ((([0, 1, 2, 3, 4, 5, 6, 7, 8] : List Nat).map fun j => V.bl (decide (i = j))) ++ (([9, 10, 11] : List Nat).map fun j => V.bl (decide (i = j))))) = G4 at t4 e4 ⊢
    refine ⟨.ref p4, rfl, a, i, fs, rfl, hi, er.same t4, (by show 3 ≤ sizeLine; decide), fun r5 f5 => ?_⟩
    refine ⟨p4, r5, _, _, rfl, rfl, (Same.new f5) _ _ e4, upd_same, (by show 12 + 3 ≤ sizeLine; decide), fun p5 g5 => ?_⟩
    have t5 : Same H (upd (upd G4 r5 (.lst (([12, 13, 14] : List Nat).map fun j => V.bl (decide (i = j))))) p5 (.lst ((([0, 1, 2, 3, 4, 5, 6, 7, 8, 9, 10, 11] : List Nat).map fun j => V.bl (decide (i = j))) ++ (([12, 13, 14] : List Nat).map fun j => V.bl (decide (i = j)))))) := (t4.trans (Same.new f5)).trans (Same.new g5)
    have e5 : (upd (upd G4 r5 (.lst (([12, 13, 14] : List Nat).map fun j => V.bl (decide (i = j))))) p5 (.lst ((([0, 1, 2, 3, 4, 5, 6, 7, 8, 9, 10, 11] : List Nat).map fun j => V.bl (decide (i = j))) ++ (([12, 13, 14] : List Nat).map fun j => V.bl (decide (i = j)))))) p5 = some (.lst (([0, 1, 2, 3, 4, 5, 6, 7, 8, 9, 10, 11, 12, 13, 14] : List Nat).map fun j => V.bl (decide (i = j)))) := upd_same
    generalize upd (upd G4 r5 (.lst (([12, 13, 14] : List Nat).map fun j => V.bl (decide (i = j))))) p5 (.lst ((([0, 1, 2, 3, 4, 5, 6, 7, 8, 9, 10, 11] : List Nat).map fun j => V.bl (decide (i = j))) ++ (([12, 13, 14] : List Nat).map fun j => V.bl (decide (i = j))))) = G5 at t5 e5 ⊢
    refine ⟨.ref p5, rfl, a, i, fs, rfl, hi, er.same t5, (by show 3 ≤ sizeLine; decide), fun r6 f6 => ?_⟩
    refine ⟨p5, r6, _, _, rfl, rfl, (Same.new f6) _ _ e5, upd_same, (by show 15 + 3 ≤ sizeLine; decide), fun p6 g6 => ?_⟩
    have t6 : Same H (upd (upd G5 r6 (.lst (([15, 16, 17] : List Nat).map fun j => V.bl (decide (i = j))))) p6 (.lst ((([0, 1, 2, 3, 4, 5, 6, 7, 8, 9, 10, 11, 12, 13, 14] : List Nat).map fun j => V.bl (decide (i = j))) ++ (([15, 16, 17] : List Nat).map fun j => V.bl (decide (i = j)))))) := (t5.trans (Same.new f6)).trans (Same.new g6)
    have e6 : (upd (upd G5 r6 (.lst (([15, 16, 17] : List Nat).map fun j => V.bl (decide (i = j))))) p6 (.lst ((([0, 1, 2, 3, 4, 5, 6, 7, 8, 9, 10, 11, 12, 13, 14] : List Nat).map fun j => V.bl (decide (i = j))) ++ (([15, 16, 17] : List Nat).map fun j => V.bl (decide (i = j)))))) p6 = some (.lst (([0, 1, 2, 3, 4, 5, 6, 7, 8, 9, 10, 11, 12, 13, 14, 15, 16, 17] : List Nat).map fun j => V.bl (decide (i = j)))) := upd_same
    generalize upd (upd G5 r6 (.lst (([15, 16, 17] : List Nat).map fun j => V.bl (decide (i = j))))) p6 (.lst ((([0, 1, 2, 3, 4, 5, 6, 7, 8, 9, 10, 11, 12, 13, 14] : List Nat).map fun j => V.bl (decide (i = j))) ++ (([15, 16, 17] : List Nat).map fun j => V.bl (decide (i = j))))) = G6 at t6 e6 ⊢
    refine ⟨.ref p6, rfl, a, i, fs, rfl, hi, er.same t6, (by show 3 ≤ sizeLine; decide), fun r7 f7 => ?_⟩
    refine ⟨p6, r7, _, _, rfl, rfl, (Same.new f7) _ _ e6, upd_same, (by show 18 + 3 ≤ sizeLine; decide), fun p7 g7 => ?_⟩
    have t7 : Same H (upd (upd G6 r7 (.lst (([18, 19, 20] : List Nat).map fun j => V.bl (decide (i = j))))) p7 (.lst ((([0, 1, 2, 3, 4, 5, 6, 7, 8, 9, 10, 11, 12, 13, 14, 15, 16, 17] : List Nat).map fun j => V.bl (decide (i = j))) ++ (([18, 19, 20] : List Nat).map fun j => V.bl (decide (i = j)))))) := (t6.trans (Same.new f7)).trans (Same.new g7)
    have e7 : (upd (upd G6 r7 (.lst (([18, 19, 20] : List Nat).map fun j => V.bl (decide (i = j))))) p7 (.lst ((([0, 1, 2, 3, 4, 5, 6, 7, 8, 9, 10, 11, 12, 13, 14, 15, 16, 17] : List Nat).map fun j => V.bl (decide (i = j))) ++ (([18, 19, 20] : List Nat).map fun j => V.bl (decide (i = j)))))) p7 = some (.lst (([0, 1, 2, 3, 4, 5, 6, 7, 8, 9, 10, 11, 12, 13, 14, 15, 16, 17, 18, 19, 20] : List Nat).map fun j => V.bl (decide (i = j)))) := upd_same
    generalize upd (upd G6 r7 (.lst (([18, 19, 20] : List Nat).map fun j => V.bl (decide (i = j))))) p7 (.lst ((([0, 1, 2, 3, 4, 5, 6, 7, 8, 9, 10, 11, 12, 13, 14, 15, 16, 17] : List Nat).map fun j => V.bl (decide (i = j))) ++ (([18, 19, 20] : List Nat).map fun j => V.bl (decide (i = j))))) = G7 at t7 e7 ⊢
    refine ⟨.ref p7, rfl, a, i, fs, rfl, hi, er.same t7, (by show 3 ≤ sizeLine; decide), fun r8 f8 => ?_⟩
    refine ⟨p7, r8, _, _, rfl, rfl, (Same.new f8) _ _ e7, upd_same, (by show 21 + 3 ≤ sizeLine; decide), fun p8 g8 => ?_⟩
    have t8 : Same H (upd (upd G7 r8 (.lst (([21, 22, 23] : List Nat).map fun j => V.bl (decide (i = j))))) p8 (.lst ((([0, 1, 2, 3, 4, 5, 6, 7, 8, 9, 10, 11, 12, 13, 14, 15, 16, 17, 18, 19, 20] : List Nat).map fun j => V.bl (decide (i = j))) ++ (([21, 22, 23] : List Nat).map fun j => V.bl (decide (i = j)))))) := (t7.trans (Same.new f8)).trans (Same.new g8)
    have e8 : (upd (upd G7 r8 (.lst (([21, 22, 23] : List Nat).map fun j => V.bl (decide (i = j))))) p8 (.lst ((([0, 1, 2, 3, 4, 5, 6, 7, 8, 9, 10, 11, 12, 13, 14, 15, 16, 17, 18, 19, 20] : List Nat).map fun j => V.bl (decide (i = j))) ++ (([21, 22, 23] : List Nat).map fun j => V.bl (decide (i = j)))))) p8 = some (.lst (([0, 1, 2, 3, 4, 5, 6, 7, 8, 9, 10, 11, 12, 13, 14, 15, 16, 17, 18, 19, 20, 21, 22, 23] : List Nat).map fun j => V.bl (decide (i = j)))) := upd_same
    generalize upd (upd G7 r8 (.lst (([21, 22, 23] : List Nat).map fun j => V.bl (decide (i = j))))) p8 (.lst ((([0, 1, 2, 3, 4, 5, 6, 7, 8, 9, 10, 11, 12, 13, 14, 15, 16, 17, 18, 19, 20] : List Nat).map fun j => V.bl (decide (i = j))) ++ (([21, 22, 23] : List Nat).map fun j => V.bl (decide (i = j))))) = G8 at t8 e8 ⊢
    refine ⟨.ref p8, rfl, a, i, fs, rfl, hi, er.same t8, (by show 3 ≤ sizeLine; decide), fun r9 f9 => ?_⟩
    refine ⟨p8, r9, _, _, rfl, rfl, (Same.new f9) _ _ e8, upd_same, (by show 24 + 3 ≤ sizeLine; decide), fun p9 g9 => ?_⟩
    have t9 : Same H (upd (upd G8 r9 (.lst (([24, 25, 26] : List Nat).map fun j => V.bl (decide (i = j))))) p9 (.lst ((([0, 1, 2, 3, 4, 5, 6, 7, 8, 9, 10, 11, 12, 13, 14, 15, 16, 17, 18, 19, 20, 21, 22, 23] : List Nat).map fun j => V.bl (decide (i = j))) ++ (([24, 25, 26] : List Nat).map fun j => V.bl (decide (i = j)))))) := (t8.trans (Same.new f9)).trans (Same.new g9)
    have e9 : (upd (upd G8 r9 (.lst (([24, 25, 26] : List Nat).map fun j => V.bl (decide (i = j))))) p9 (.lst ((([0, 1, 2, 3, 4, 5, 6, 7, 8, 9, 10, 11, 12, 13, 14, 15, 16, 17, 18, 19, 20, 21, 22, 23] : List Nat).map fun j => V.bl (decide (i = j))) ++ (([24, 25, 26] : List Nat).map fun j => V.bl (decide (i = j)))))) p9 = some (.lst (([0, 1, 2, 3, 4, 5, 6, 7, 8, 9, 10, 11, 12, 13, 14, 15, 16, 17, 18, 19, 20, 21, 22, 23, 24, 25, 26] : List Nat).map fun j => V.bl (decide (i = j)))) := upd_same
    generalize upd (upd G8 r9 (.lst (([24, 25, 26] : List Nat).map fun j => V.bl (decide (i = j))))) p9 (.lst ((([0, 1, 2, 3, 4, 5, 6, 7, 8, 9, 10, 11, 12, 13, 14, 15, 16, 17, 18, 19, 20, 21, 22, 23] : List Nat).map fun j => V.bl (decide (i = j))) ++ (([24, 25, 26] : List Nat).map fun j => V.bl (decide (i = j))))) = G9 at t9 e9 ⊢
    refine ⟨.ref p9, rfl, a, i, fs, rfl, hi, er.same t9, (by show 3 ≤ sizeLine; decide), fun r10 f10 => ?_⟩
    refine ⟨p9, r10, _, _, rfl, rfl, (Same.new f10) _ _ e9, upd_same, (by show 27 + 3 ≤ sizeLine; decide), fun p10 g10 => ?_⟩
    have t10 : Same H (upd (upd G9 r10 (.lst (([27, 28, 29] : List Nat).map fun j => V.bl (decide (i = j))))) p10 (.lst ((([0, 1, 2, 3, 4, 5, 6, 7, 8, 9, 10, 11, 12, 13, 14, 15, 16, 17, 18, 19, 20, 21, 22, 23, 24, 25, 26] : List Nat).map fun j => V.bl (decide (i = j))) ++ (([27, 28, 29] : List Nat).map fun j => V.bl (decide (i = j)))))) := (t9.trans (Same.new f10)).trans (Same.new g10)
    have e10 : (upd (upd G9 r10 (.lst (([27, 28, 29] : List Nat).map fun j => V.bl (decide (i = j))))) p10 (.lst ((([0, 1, 2, 3, 4, 5, 6, 7, 8, 9, 10, 11, 12, 13, 14, 15, 16, 17, 18, 19, 20, 21, 22, 23, 24, 25, 26] : List Nat).map fun j => V.bl (decide (i = j))) ++ (([27, 28, 29] : List Nat).map fun j => V.bl (decide (i = j)))))) p10 = some (.lst (([0, 1, 2, 3, 4, 5, 6, 7, 8, 9, 10, 11, 12, 13, 14, 15, 16, 17, 18, 19, 20, 21, 22, 23, 24, 25, 26, 27, 28, 29] : List Nat).map fun j => V.bl (decide (i = j)))) := upd_same
    generalize upd (upd G9 r10 (.lst (([27, 28, 29] : List Nat).map fun j => V.bl (decide (i = j))))) p10 (.lst ((([0, 1, 2, 3, 4, 5, 6, 7, 8, 9, 10, 11, 12, 13, 14, 15, 16, 17, 18, 19, 20, 21, 22, 23, 24, 25, 26] : List Nat).map fun j => V.bl (decide (i = j))) ++ (([27, 28, 29] : List Nat).map fun j => V.bl (decide (i = j))))) = G10 at t10 e10 ⊢
    refine ⟨.ref p10, rfl, a, i, fs, rfl, hi, er.same t10, (by show 3 ≤ sizeLine; decide), fun r11 f11 => ?_⟩
    refine ⟨p10, r11, _, _, rfl, rfl, (Same.new f11) _ _ e10, upd_same, (by show 30 + 3 ≤ sizeLine; decide), fun p11 g11 => ?_⟩
    have t11 : Same H (upd (upd G10 r11 (.lst (([30, 31, 32] : List Nat).map fun j => V.bl (decide (i = j))))) p11 (.lst ((([0, 1, 2, 3, 4, 5, 6, 7, 8, 9, 10, 11, 12, 13, 14, 15, 16, 17, 18, 19, 20, 21, 22, 23, 24, 25, 26, 27, 28, 29] : List Nat).map fun j => V.bl (decide (i = j))) ++ (([30, 31, 32] : List Nat).map fun j => V.bl (decide (i = j)))))) := (t10.trans (Same.new f11)).trans (Same.new g11)
    have e11 : (upd (upd G10 r11 (.lst (([30, 31, 32] : List Nat).map fun j => V.bl (decide (i = j))))) p11 (.lst ((([0, 1, 2, 3, 4, 5, 6, 7, 8, 9, 10, 11, 12, 13, 14, 15, 16, 17, 18, 19, 20, 21, 22, 23, 24, 25, 26, 27, 28, 29] : List Nat).map fun j => V.bl (decide (i = j))) ++ (([30, 31, 32] : List Nat).map fun j => V.bl (decide (i = j)))))) p11 = some (.lst (([0, 1, 2, 3, 4, 5, 6, 7, 8, 9, 10, 11, 12, 13, 14, 15, 16, 17, 18, 19, 20, 21, 22, 23, 24, 25, 26, 27, 28, 29, 30, 31, 32] : List Nat).map fun j => V.bl (decide (i = j)))) := upd_same
    generalize upd (upd G10 r11 (.lst (([30, 31, 32] : List Nat).map fun j => V.bl (decide (i = j))))) p11 (.lst ((([0, 1, 2, 3, 4, 5, 6, 7, 8, 9, 10, 11, 12, 13, 14, 15, 16, 17, 18, 19, 20, 21, 22, 23, 24, 25, 26, 27, 28, 29] : List Nat).map fun j => V.bl (decide (i = j))) ++ (([30, 31, 32] : List Nat).map fun j => V.bl (decide (i = j))))) = G11 at t11 e11 ⊢
    refine ⟨.ref p11, rfl, a, i, fs, rfl, hi, er.same t11, (by show 3 ≤ sizeLine; decide), fun r12 f12 => ?_⟩
    refine ⟨p11, r12, _, _, rfl, rfl, (Same.new f12) _ _ e11, upd_same, (by show 33 + 3 ≤ sizeLine; decide), fun p12 g12 => ?_⟩
    have t12 : Same H (upd (upd G11 r12 (.lst (([33, 34, 35] : List Nat).map fun j => V.bl (decide (i = j))))) p12 (.lst ((([0, 1, 2, 3, 4, 5, 6, 7, 8, 9, 10, 11, 12, 13, 14, 15, 16, 17, 18, 19, 20, 21, 22, 23, 24, 25, 26, 27, 28, 29, 30, 31, 32] : List Nat).map fun j => V.bl (decide (i = j))) ++ (([33, 34, 35] : List Nat).map fun j => V.bl (decide (i = j)))))) := (t11.trans (Same.new f12)).trans (Same.new g12)
    have e12 : (upd (upd G11 r12 (.lst (([33, 34, 35] : List Nat).map fun j => V.bl (decide (i = j))))) p12 (.lst ((([0, 1, 2, 3, 4, 5, 6, 7, 8, 9, 10, 11, 12, 13, 14, 15, 16, 17, 18, 19, 20, 21, 22, 23, 24, 25, 26, 27, 28, 29, 30, 31, 32] : List Nat).map fun j => V.bl (decide (i = j))) ++ (([33, 34, 35] : List Nat).map fun j => V.bl (decide (i = j)))))) p12 = some (.lst (([0, 1, 2, 3, 4, 5, 6, 7, 8, 9, 10, 11, 12, 13, 14, 15, 16, 17, 18, 19, 20, 21, 22, 23, 24, 25, 26, 27, 28, 29, 30, 31, 32, 33, 34, 35] : List Nat).map fun j => V.bl (decide (i = j)))) := upd_same
    generalize upd (upd G11 r12 (.lst (([33, 34, 35] : List Nat).map fun j => V.bl (decide (i = j))))) p12 (.lst ((([0, 1, 2, 3, 4, 5, 6, 7, 8, 9, 10, 11, 12, 13, 14, 15, 16, 17, 18, 19, 20, 21, 22, 23, 24, 25, 26, 27, 28, 29, 30, 31, 32] : List Nat).map fun j => V.bl (decide (i = j))) ++ (([33, 34, 35] : List Nat).map fun j => V.bl (decide (i = j))))) = G12 at t12 e12 ⊢
    refine ⟨.ref p12, rfl, a, i, fs, rfl, hi, er.same t12, (by show 3 ≤ sizeLine; decide), fun r13 f13 => ?_⟩
    refine ⟨p12, r13, _, _, rfl, rfl, (Same.new f13) _ _ e12, upd_same, (by show 36 + 3 ≤ sizeLine; decide), fun p13 g13 => ?_⟩
    have t13 : Same H (upd (upd G12 r13 (.lst (([36, 37, 38] : List Nat).map fun j => V.bl (decide (i = j))))) p13 (.lst ((([0, 1, 2, 3, 4, 5, 6, 7, 8, 9, 10, 11, 12, 13, 14, 15, 16, 17, 18, 19, 20, 21, 22, 23, 24, 25, 26, 27, 28, 29, 30, 31, 32, 33, 34, 35] : List Nat).map fun j => V.bl (decide (i = j))) ++ (([36, 37, 38] : List Nat).map fun j => V.bl (decide (i = j)))))) := (t12.trans (Same.new f13)).trans (Same.new g13)
    have e13 : (upd (upd G12 r13 (.lst (([36, 37, 38] : List Nat).map fun j => V.bl (decide (i = j))))) p13 (.lst ((([0, 1, 2, 3, 4, 5, 6, 7, 8, 9, 10, 11, 12, 13, 14, 15, 16, 17, 18, 19, 20, 21, 22, 23, 24, 25, 26, 27, 28, 29, 30, 31, 32, 33, 34, 35] : List Nat).map fun j => V.bl (decide (i = j))) ++ (([36, 37, 38] : List Nat).map fun j => V.bl (decide (i = j)))))) p13 = some (.lst (([0, 1, 2, 3, 4, 5, 6, 7, 8, 9, 10, 11, 12, 13, 14, 15, 16, 17, 18, 19, 20, 21, 22, 23, 24, 25, 26, 27, 28, 29, 30, 31, 32, 33, 34, 35, 36, 37, 38] : List Nat).map fun j => V.bl (decide (i = j)))) := upd_same
    generalize upd (upd G12 r13 (.lst (([36, 37, 38] : List Nat).map fun j => V.bl (decide (i = j))))) p13 (.lst ((([0, 1, 2, 3, 4, 5, 6, 7, 8, 9, 10, 11, 12, 13, 14, 15, 16, 17, 18, 19, 20, 21, 22, 23, 24, 25, 26, 27, 28, 29, 30, 31, 32, 33, 34, 35] : List Nat).map fun j => V.bl (decide (i = j))) ++ (([36, 37, 38] : List Nat).map fun j => V.bl (decide (i = j))))) = G13 at t13 e13 ⊢
    refine ⟨.ref p13, rfl, a, i, fs, rfl, hi, er.same t13, (by show 2 ≤ sizeLine; decide), fun r14 f14 => ?_⟩
    refine ⟨p13, r14, _, _, rfl, rfl, (Same.new f14) _ _ e13, upd_same, (by show 39 + 2 ≤ sizeLine; decide), fun p14 g14 => ?_⟩
    have t14 : Same H (upd (upd G13 r14 (.lst (([39, 40] : List Nat).map fun j => V.bl (decide (i = j))))) p14 (.lst ((([0, 1, 2, 3, 4, 5, 6, 7, 8, 9, 10, 11, 12, 13, 14, 15, 16, 17, 18, 19, 20, 21, 22, 23, 24, 25, 26, 27, 28, 29, 30, 31, 32, 33, 34, 35, 36, 37, 38] : List Nat).map fun j => V.bl (decide (i = j))) ++ (([39, 40] : List Nat).map fun j => V.bl (decide (i = j)))))) := (t13.trans (Same.new f14)).trans (Same.new g14)
    have e14 : (upd (upd G13 r14 (.lst (([39, 40] : List Nat).map fun j => V.bl (decide (i = j))))) p14 (.lst ((([0, 1, 2, 3, 4, 5, 6, 7, 8, 9, 10, 11, 12, 13, 14, 15, 16, 17, 18, 19, 20, 21, 22, 23, 24, 25, 26, 27, 28, 29, 30, 31, 32, 33, 34, 35, 36, 37, 38] : List Nat).map fun j => V.bl (decide (i = j))) ++ (([39, 40] : List Nat).map fun j => V.bl (decide (i = j)))))) p14 = some (.lst (([0, 1, 2, 3, 4, 5, 6, 7, 8, 9, 10, 11, 12, 13, 14, 15, 16, 17, 18, 19, 20, 21, 22, 23, 24, 25, 26, 27, 28, 29, 30, 31, 32, 33, 34, 35, 36, 37, 38, 39, 40] : List Nat).map fun j => V.bl (decide (i = j)))) := upd_same
    generalize upd (upd G13 r14 (.lst (([39, 40] : List Nat).map fun j => V.bl (decide (i = j))))) p14 (.lst ((([0, 1, 2, 3, 4, 5, 6, 7, 8, 9, 10, 11, 12, 13, 14, 15, 16, 17, 18, 19, 20, 21, 22, 23, 24, 25, 26, 27, 28, 29, 30, 31, 32, 33, 34, 35, 36, 37, 38] : List Nat).map fun j => V.bl (decide (i = j))) ++ (([39, 40] : List Nat).map fun j => V.bl (decide (i = j))))) = G14 at t14 e14 ⊢
    exact q p14 G14 t14 e14
end
end K00


set_option maxHeartbeats 1000000
namespace K00
open PySem PySem.Spec PyProof.Rows L2 XB XV XG
open C8 (Cal Met Mak pe_c pe_mk pe_mt pe_mt0 pss_cut tCut)
section
variable {P : Program} {w : World} {K : PySem.W.Frag} {mg : Str → Option Value} {base : Heap} {cs : List Addr}
theorem ok_law_stands_right {f : Addr} {fd : FuncData} (D : DF K mg "_law_stands_right" s_law_stands_right f fd) (T : Txt K mg) (M : Cls P w K mg base cs) (N : Kit K cs)
    (C_law_kin : Cal P w K mg base 1 "_law_kin" (spKin cs) []) : OkD P w K mg base 2 "_law_stands_right" s_law_stands_right ["_law_error", "_law_place"] (spRight cs) f fd := by
  refine okd D sc_law_stands_right (fun vs H Q E h => ?_) (fun cdv A outer s H vs Q E hr h => ?_)
  · obtain ⟨a, i, fs, rfl, _⟩ := h
    rfl
  · obtain ⟨a, i, fs, rfl, hi, er, q⟩ := h
    have hi' : i < 43 := by omega
    refine ⟨_, (pss_cons (ps_if (PW.pt (pw_or (pt_cmpR (op_neD hr.units) (pe_c C_law_kin hr (by decide) (by rfl) (pa_cons (pv 0) pa_nil)) (pe_lc (own := [("_law_at", 2)]) (g := gName 2) (by rfl) sc_law_stands_right.nd (pi_range1 rfl T.m_range (pa_cons pe_int pa_nil)) (blkOk_by (own := [("_law_at", 2)]) (N := n_law_stands_right) (sc := defScope s_law_stands_right) (by decide +kernel)) (fun _ _ _ _ _ => pg_name (i := 2) sc_law_stands_right.nd rfl (Or.inl rfl)) (fun _ _ _ _ _ => pts_nil) (fun _ _ _ _ _ => (pe_cmpR op_eq (pv 1) (pv 2) (nomark _)))) (nomark _)) (pw_or1 (pt_not (pt_val (pe_callB call_isX (by rfl) T.m_isinstance (by decide +kernel) (pa_cons (pv 0) (pa_cons (pe_glob (v := .ref (cs.getD 42 0)) (by rfl) M.e42.gC rfl) pa_nil)))))))) (pss_one (ps_ret pe_bl)) pss_nil)
      (pss_cons (ps_if (PW.pt (pw_or (pt_not (pt_val (pe_callB call_isX (by rfl) T.m_isinstance (by decide +kernel) (pa_cons (pv 0) (pa_cons (pe_bltn (v := .ty "ValueError") (by rfl) T.m_ValueError (by decide +kernel) rfl) pa_nil))))) (pw_or1 (pt_cmpR (op_neD hr.units) (pe_callB call_isX (by rfl) T.m_isinstance (by decide +kernel) (pa_cons (pv 0) (pa_cons (pe_glob (v := .ref (cs.getD 41 0)) (by rfl) M.e41.gC rfl) pa_nil))) (pe_chain op_le op_lt pe_int (pv 1) pe_int) (nomark _))))) (pss_one (ps_ret pe_bl)) pss_nil)
      (pss_cons (ps_if (PW.pt (pw_or (pt_val (pe_callB call_isX (by rfl) T.m_isinstance (by decide +kernel) (pa_cons (pv 0) (pa_cons (pe_bltn (v := .ty "LookupError") (by rfl) T.m_LookupError (by decide +kernel) rfl) pa_nil)))) (pw_or (pt_val (pe_callB call_isX (by rfl) T.m_isinstance (by decide +kernel) (pa_cons (pv 0) (pa_cons (pe_bltn (v := .ty "TypeError") (by rfl) T.m_TypeError (by decide +kernel) rfl) pa_nil)))) (pw_or1 (pt_val (pe_callB call_isX (by rfl) T.m_isinstance (by decide +kernel) (pa_cons (pv 0) (pa_cons (pe_bltn (v := .ty "ArithmeticError") (by rfl) T.m_ArithmeticError (by decide +kernel) rfl) pa_nil)))))))) (pss_one (ps_ret pe_bl)) pss_nil)
      (pss_one (ps_ret (pe_and (pe_not (pe_callB call_isX (by rfl) T.m_isinstance (by decide +kernel) (pa_cons (pv 0) (pa_cons (pe_bltn (v := .ty "RuntimeError") (by rfl) T.m_RuntimeError (by decide +kernel) rfl) pa_nil)))) (pe_one (pe_not (pe_callB call_isX (by rfl) T.m_isinstance (by decide +kernel) (pa_cons (pv 0) (pa_cons (pe_bltn (v := .ty "AttributeError") (by rfl) T.m_AttributeError (by decide +kernel) rfl) pa_nil))))))))))), ?_⟩
    refine ⟨.ref a, rfl, a, i, fs, rfl, hi', er, fun p1 H1 s1 e1 => ?_⟩
    refine ⟨41, rfl, by decide, by decide, fun p2 f2 => ?_⟩
    refine lc_range (lo := 0) (n := 41) (fun k H2 => H2 = upd H1 p2 (.lst ((List.range k).map fun j => V.bl (decide (i = j))))) rfl ?_ ?_
    · rintro k H2 hk rfl
      have ek : decide (V.int (i : Int) = V.int (0 + (k : Int))) = decide (i = k) := by
        by_cases e : i = k
        · subst e
          rw [decide_eq_true rfl]
          exact decide_eq_true (congrArg V.int (by omega))
        · rw [decide_eq_false e]
          exact decide_eq_false fun z => e (by have := V.int.inj z; omega)
      refine ⟨rfl, .int i, rfl, .int (0 + k), rfl, rfl, _, upd_same, ?_, ?_⟩
      · rw [List.length_map, List.length_range, sizeLine_eq]
        omega
      · rw [upd_upd, List.range_succ, List.map_append, ek]
        rfl
    · rintro H2 rfl
      have s2 : Same H1 (upd H1 p2 (.lst ((List.range 41).map fun j => V.bl (decide (i = j))))) := Same.new f2
      have s3 := s1.trans s2
      have e3 := s2 _ _ e1
      have e4 : (upd H1 p2 (.lst ((List.range 41).map fun j => V.bl (decide (i = j))))) p2 = some (.lst ((List.range 41).map fun j => V.bl (decide (i = j)))) := upd_same
      generalize upd H1 p2 (.lst ((List.range 41).map fun j => V.bl (decide (i = j)))) = H3 at s3 e3 e4 ⊢
      have er3 := er.same s3
      have X := N.ex i hi'
      refine ⟨_, _, .lst (seq_in e3) (dp_bls _), .lst (seq_in e4) (dp_bls _), rfl, rfl, _, rfl, ?_⟩
      rw [SeqAt.eqv_refl _ (by rfl)]
      refine iteF ?_
      refine ⟨.ref a, rfl, a, _, _, _, _, _, rfl, er3, X, .own _, N.kw i hi', _, rfl, ?_⟩
      refine iteF ?_
      refine ⟨.ref a, rfl, a, _, _, _, _, _, rfl, er3, X, .ty _, N.kv i hi', _, rfl, ?_⟩
      refine iteF ?_
      refine ⟨.ref a, rfl, a, _, _, _, _, _, rfl, er3, X, .own _, N.km i hi, ?_⟩
      refine ⟨.int i, rfl, _, _, rfl, rfl, _, rfl, ite2 (fun e5 => ⟨_, _, rfl, rfl, ?_⟩) (fun e5 => ?_)⟩
      · have h5 := of_decide_eq_true e5
        have hc : decide ((i : Int) < 23) = decide (16 ≤ i ∧ i < 23) := decide_eq_decide.mpr (by omega)
        refine ⟨_, .bool (decide (16 ≤ i ∧ i < 23)), .bl _, (show Dp K H3 (V.bl (decide ((i : Int) < 23))) _ from hc ▸ .bl _), rfl, rfl, _, rfl, ?_⟩
        rw [SeqAt.eqv_refl _ (by rfl)]
        refine iteF ?_
        refine ⟨.ref a, rfl, a, _, _, _, _, _, rfl, er3, X, .ty _, N.kl i hi', _, rfl, iteF ?_⟩
        refine ⟨.ref a, rfl, a, _, _, _, _, _, rfl, er3, X, .ty _, N.kt i hi', _, rfl, iteF ?_⟩
        refine ⟨.ref a, rfl, a, _, _, _, _, _, rfl, er3, X, .ty _, N.ka i hi', _, rfl, ?_⟩
        refine iteF ?_
        refine ⟨.ref a, rfl, a, _, _, _, _, _, rfl, er3, X, .ty _, N.kr i hi', _, rfl, _, rfl, iteT ?_⟩
        exact ⟨.ref a, rfl, a, _, _, _, _, _, rfl, er3, X, .ty _, N.kn i hi', _, rfl, q _ s3⟩
      · have hc : decide (16 ≤ i ∧ i < 23) = false := decide_eq_false fun z => e5 (decide_eq_true (by omega))
        refine ⟨.bool false, _, (show Dp K H3 (V.bl (decide (16 ≤ i ∧ i < 23))) _ from hc ▸ .bl _), .bl _, rfl, rfl, _, rfl, ?_⟩
        rw [SeqAt.eqv_refl _ (by rfl)]
        refine iteF ?_
        refine ⟨.ref a, rfl, a, _, _, _, _, _, rfl, er3, X, .ty _, N.kl i hi', _, rfl, iteF ?_⟩
        refine ⟨.ref a, rfl, a, _, _, _, _, _, rfl, er3, X, .ty _, N.kt i hi', _, rfl, iteF ?_⟩
        refine ⟨.ref a, rfl, a, _, _, _, _, _, rfl, er3, X, .ty _, N.ka i hi', _, rfl, ?_⟩
        refine iteF ?_
        refine ⟨.ref a, rfl, a, _, _, _, _, _, rfl, er3, X, .ty _, N.kr i hi', _, rfl, _, rfl, iteT ?_⟩
        exact ⟨.ref a, rfl, a, _, _, _, _, _, rfl, er3, X, .ty _, N.kn i hi', _, rfl, q _ s3⟩
end
end K00

set_option maxHeartbeats 1000000
namespace K00
open PySem PySem.Spec PyProof.Rows L2 XB XV XG
open C8 (Cal Met Mak pe_c pe_mk pe_mt pe_mt0 pss_cut tCut)
theorem Same.seqT {K : PySem.W.Frag} {H H' : Hp} {a : Addr} {xs : List V} (e : Same H H') (h : SqT K H a xs) : SqT K H' a xs := by
  rcases h with (h | ⟨o, h⟩) | h
  · exact .inl (.inl (e _ _ h))
  · exact .inl (.inr ⟨o, e _ _ h⟩)
  · exact .inr h
mutual
theorem dp_same {K : PySem.W.Frag} {H H' : Hp} (e : Same H H') : ∀ {v : V} {d : PyData}, Dp K H v d → Dp K H' v d
  | _, _, .non => .non
  | _, _, .bl b => .bl b
  | _, _, .int i => .int i
  | _, _, .str x => .str x
  | _, _, .lst h1 h2 => .lst (e.seq h1) (dpa_same e h2)
  | _, _, .tup h1 h2 => .tup (Same.seqT e h1) (dpa_same e h2)
theorem dpa_same {K : PySem.W.Frag} {H H' : Hp} (e : Same H H') : ∀ {vs : List V} {ds : List PyData}, DpAll K H vs ds → DpAll K H' vs ds
  | _, _, .nil => .nil
  | _, _, .cons h1 h2 => .cons (dp_same e h1) (dpa_same e h2)
end
/-- data that repr tells -/
structure Shw (d : PyData) : Prop where
  s : d.showable = true
  n : d.hasDict = false
  p : d.depth ≤ 50
  z : d.shown.length ≤ sizeLine
def duesD (i : Nat) (x y z : PyData) : List PyData := if i < 32 then [x] else if i < 35 then [x, y] else if i < 36 then [x, y, z] else []
theorem dp_dues {K : PySem.W.Frag} {H : Hp} {x y z : V} {dx dy dz : PyData} (hx : Dp K H x dx) (hy : Dp K H y dy) (hz : Dp K H z dz) (i : Nat) : DpAll K H (dues i x y z) (duesD i dx dy dz) := by
  unfold dues duesD
  split
  · exact .cons hx .nil
  · split
    · exact .cons hx (.cons hy .nil)
    · split
      · exact .cons hx (.cons hy (.cons hz .nil))
      · exact .nil
def spAll (K : PySem.W.Frag) (cs : List Addr) : Sp := fun vs H Q _ => ∃ (av am : Addr) (x y z : V) (dx dy dz : PyData) (as : List Addr), vs = [.ref av, .ref am] ∧ H av = some (.lst [x, y, z]) ∧ Dp K H x dx ∧ Dp K H y dy ∧ Dp K H z dz ∧
  (∀ i, Shw (.list (duesD i dx dy dz))) ∧ H am = some (.lst (as.map V.ref)) ∧ ErL H as (erRow cs x y z 0 41) ∧ ∀ H', Same H H' → Q (.bl true) H'
section
variable {P : Program} {w : World} {K : PySem.W.Frag} {mg : Str → Option Value} {base : Heap} {cs : List Addr}
theorem ok_law_all_right {f : Addr} {fd : FuncData} (D : DF K mg "_law_all_right" s_law_all_right f fd) (T : Txt K mg)
    (C_law_fields : Cal P w K mg base 1 "_law_fields" (spFields cs) []) (C_law_stands_right : Cal P w K mg base 2 "_law_stands_right" (spRight cs) []) : OkG P w K mg base 3 "_law_all_right" s_law_all_right ["_law_values", "_law_made"] (spAll K cs) f fd := by
  refine okg D sc_law_all_right (fun vs H Q E h => ?_) (fun cdv A outer s H vs Q E hgd hr h => ?_)
  · obtain ⟨av, am, x, y, z, dx, dy, dz, as, rfl, _⟩ := h
    rfl
  · obtain ⟨av, am, x, y, z, dx, dy, dz, as, rfl, hav, hx, hy, hz, sh, ham, er, q⟩ := h
    have hun : (A.deeper (envOfC "_law_all_right" (defScope s_law_all_right) s.heap.objs.size f cdv)).units + 100 < cLine := by have := hr.un; omega
    have hla : as.length = 41 := by
      rw [er.length]
      unfold erRow
      rw [List.length_map, List.length_range']
    refine ⟨_, (pss_cons (ps_for PassesOwn.never rfl (pi_enum (by rfl) T.m_enumerate (pa_cons (pv 1) pa_nil)) (pg_tup rfl (pgs_cons (pg_name (i := 2) sc_law_all_right.nd rfl (Or.inl rfl)) (pgs_cons (pg_name (i := 3) sc_law_all_right.nd rfl (Or.inl rfl)) pgs_nil)))
      (pss_cut (ps_set (i := 4) sc_law_all_right.nd rfl (Or.inl rfl) (pe_ifExp (pt_cmpR op_lt (pv 2) pe_int (nomark _)) (pe_slice sl_list (pv 0) po_none (po_some pe_int)) (pe_ifExp (pt_cmpR op_lt (pv 2) pe_int (nomark _)) (pe_slice sl_list (pv 0) po_none (po_some pe_int)) (pe_ifExp (pt_cmpR op_eq (pv 2) pe_int (nomark _)) (pv 0) (pe_lst pa_nil)))))
      (pss_one (ps_if (PW.pt (pw_or (pt_cmpR op_ne (pe_callB (call_repr hgd hun) (by rfl) T.m_repr (by decide +kernel) (pa_cons (pe_c C_law_fields hr (by decide) (by rfl) (pa_cons (pv 3) (pa_cons (pv 2) pa_nil))) pa_nil)) (pe_callB (call_repr hgd hun) (by rfl) T.m_repr (by decide +kernel) (pa_cons (pv 4) pa_nil)) (nomark _)) (pw_or1 (pt_not (pt_val (pe_c C_law_stands_right hr (by decide) (by rfl) (pa_cons (pv 3) (pa_cons (pv 2) pa_nil)))))))) (pss_one (ps_ret pe_bl)) pss_nil))))
      (pss_one (ps_ret (pe_cmpR op_eq (pe_callB call_len (by rfl) T.m_len (by decide +kernel) (pa_cons (pv 1) pa_nil)) pe_int (nomark _))))), ?_⟩
    refine ⟨.ref am, rfl, am, as.map V.ref, rfl, seq_in ham, for_it walk_enum (fun _ σ H2 => Same H H2 ∧ ∃ c1 c2 c3, σ = [some (.ref av), some (.ref am), c1, c2, c3]) ⟨Same.refl H, none, none, none, rfl⟩ (fun i σ H2 _ h => h.1.seq (seq_in ham)) ?_ ?_⟩
    · rintro i v σ H2 H3 hi ⟨s2, c1, c2, c3, rfl⟩ ⟨t, u, e, rfl, nt, rfl, hu, he⟩
      cases hu
      rw [List.length_map, hla] at hi
      have s3 : Same H (upd H2 t (.tup [.int i, e])) := s2.trans (Same.new nt)
      have et : (upd H2 t (.tup [.int (i : Nat), e])) t = some (.tup [.int (i : Nat), e]) := upd_same
      generalize upd H2 t (.tup [.int (i : Nat), e]) = H4 at s3 et ⊢
      obtain ⟨a, ea, rfl⟩ : ∃ a, as[i]? = some a ∧ e = .ref a := by
        have he : (as.map V.ref)[i]? = some e := he
        rw [List.getElem?_map] at he
        cases q : as[i]? with
        | none =>
          rw [q] at he
          cases he
        | some a =>
          rw [q] at he
          exact ⟨a, rfl, (Option.some.inj he).symm⟩
      have era : Er H4 (cs.getD i 0) a (erAt i x y z) := by
        obtain ⟨C, fs, e1, e2⟩ := er.get ea
        unfold erRow at e1
        rw [List.getElem?_map, List.getElem?_range' hi] at e1
        have e1' := Option.some.inj e1
        rw [Nat.zero_add, Nat.one_mul] at e1'
        cases e1'
        exact e2.same s3
      refine ⟨t, _, rfl, (.inl (.inl et)), rfl, _, _, rfl, _, _, rfl, rfl, ?_⟩
      have hv4 := s3 _ _ hav
      refine ⟨fun σ H5 => Same H H5 ∧ Same H4 H5 ∧ ∃ p, σ = [some (.ref av), some (.ref am), some (.int (i : Nat)), some (.ref a), some (.ref p)] ∧ H5 p = some (.lst (dues i x y z)), ?_, ?_⟩
      · have fin : ∀ p, H4 p = none → ∀ l, dues i x y z = l → Same H (upd H4 p (.lst l)) ∧ Same H4 (upd H4 p (.lst l)) ∧ (upd H4 p (.lst l)) p = some (.lst (dues i x y z)) := fun p np l e =>
          ⟨s3.trans (Same.new np), Same.new np, by rw [upd_same, e]⟩
        refine ⟨.int i, rfl, _, _, rfl, rfl, _, rfl, ite2 (fun e => ?_) (fun e => ?_)⟩
        · have h1 : i < 32 := by have := of_decide_eq_true e; omega
          refine ⟨.ref av, rfl, 1, rfl, av, [x, y, z], rfl, seq_in hv4, fun p np => ?_⟩
          obtain ⟨g1, g2, g3⟩ := fin p np [x] (by simp [dues, h1])
          exact ⟨g1, g2, p, rfl, g3⟩
        have g4 : ¬ i < 32 := fun z => e (decide_eq_true (by omega))
        refine ⟨.int i, rfl, _, _, rfl, rfl, _, rfl, ite2 (fun e => ?_) (fun e => ?_)⟩
        · have h1 : i < 35 := by have := of_decide_eq_true e; omega
          refine ⟨.ref av, rfl, 2, rfl, av, [x, y, z], rfl, seq_in hv4, fun p np => ?_⟩
          obtain ⟨g1, g2, g3⟩ := fin p np [x, y] (by simp [dues, g4, h1])
          exact ⟨g1, g2, p, rfl, g3⟩
        have g6 : ¬ i < 35 := fun z => e (decide_eq_true (by omega))
        refine ⟨.int i, rfl, rfl, _, rfl, ite2 (fun e => ?_) (fun e => ?_)⟩
        · have h1 : i < 36 := by have := V.int.inj (of_decide_eq_true e); omega
          refine ⟨.ref av, rfl, s3, Same.refl _, av, rfl, ?_⟩
          rw [hv4]
          simp [dues, g4, g6, h1]
        · have h1 : ¬ i < 36 := fun z => e (decide_eq_true (congrArg V.int (by omega)))
          refine ⟨(by show 0 ≤ sizeLine; decide), fun p np => ?_⟩
          obtain ⟨g1, g2, g3⟩ := fin p np [] (by simp [dues, g4, g6, h1])
          exact ⟨g1, g2, p, rfl, g3⟩
      · rintro σ H5 ⟨s5, s45, p, rfl, e5⟩
        refine ⟨.ref a, rfl, .int i, rfl, a, i, x, y, z, rfl, hi, era.same s45, fun p2 n2 => ?_⟩
        have s6 : Same H5 (upd H5 p2 (.lst (dues i x y z))) := Same.new n2
        have e6 := s6 _ _ e5
        have e7 : (upd H5 p2 (.lst (dues i x y z))) p2 = some (.lst (dues i x y z)) := upd_same
        generalize upd H5 p2 (.lst (dues i x y z)) = H6 at s6 e6 e7 ⊢
        have s7 := s5.trans s6
        have dp := dp_dues (dp_same s7 hx) (dp_same s7 hy) (dp_same s7 hz) i
        have shi := sh i
        refine ⟨p2, _, rfl, .lst (seq_in e7) dp, shi.s, shi.n, shi.p, shi.z, ?_⟩
        refine ⟨.ref p, rfl, p, _, rfl, .lst (seq_in e6) dp, shi.s, shi.n, shi.p, shi.z, ?_⟩
        refine ⟨rfl, _, rfl, ?_⟩
        rw [decide_eq_true rfl]
        refine iteF ?_
        refine ⟨.ref a, rfl, .int i, rfl, a, i, _, rfl, hi, (era.same s45).same s6, fun H7 s8 => ?_⟩
        refine ⟨_, rfl, iteF ?_⟩
        exact ⟨s7.trans s8, _, _, _, rfl⟩
    · rintro σ H2 ⟨s2, c1, c2, c3, rfl⟩
      refine ⟨.ref am, rfl, .ref am, 41, rfl, .inl ⟨_, seq_in (s2 _ _ ham), by rw [List.length_map, hla]⟩, rfl, ?_⟩
      exact q _ s2
end
end K00

set_option maxHeartbeats 1000000
namespace K00
open PySem PySem.Spec PyProof.Rows L2 XB XV XG
open C8 (Cal Met Mak pe_c pe_mk pe_mt pe_mt0 pss_cut tCut)
/-! ### repr of small data, atoms too -/
def rReprV (K : PySem.W.Frag) : List V → Hp → VK → Prop := fun xs H Q => ∃ (v : V) (d : PyData), xs = [v] ∧ Dp K H v d ∧ Shw d ∧ Q (.str d.shown) H
theorem call_reprV {X : Cx} (hgd : X.A.guards = some []) (hu : X.A.units + 100 < cLine) : CallR X (.builtin "repr") (rReprV X.K) := by
  intro pins s σ H xs us Q I r h
  obtain ⟨v, d, rfl, hd, sh, q⟩ := h
  cases hd with
  | lst h1 h2 => exact call_repr hgd hu pins s σ H _ us Q I r ⟨_, _, rfl, .lst h1 h2, sh.s, sh.n, sh.p, sh.z, q⟩
  | tup h1 h2 => exact call_repr hgd hu pins s σ H _ us Q I r ⟨_, _, rfl, .tup h1 h2, sh.s, sh.n, sh.p, sh.z, q⟩
  | non =>
    obtain ⟨u, rfl, ru⟩ := vals1 r
    cases (show u = Value.none from ru)
    exact PySem.P.repr_of_none ⟨.str _, H, I.tok _, ⟨_, rfl⟩, q⟩
  | bl b =>
    obtain ⟨u, rfl, ru⟩ := vals1 r
    cases (show u = Value.bool b from ru)
    exact PySem.P.repr_of_bool ⟨.str _, H, I.tok _, ⟨_, rfl⟩, (by cases b <;> exact q)⟩
  | int i =>
    obtain ⟨u, rfl, t, rfl⟩ := vals1 r
    exact PySem.P.repr_of_int (of_decide_eq_true (show decide (i.natAbs.log2 < 1920) = true from sh.s)) ⟨.str _, H, I.tok _, ⟨_, rfl⟩, q⟩
  | str x =>
    obtain ⟨u, rfl, t, rfl⟩ := vals1 r
    exact PySem.P.repr_of_str ⟨.str _, H, I.tok _, ⟨_, rfl⟩, q⟩ sh.z
/-- small data -/
structure Sd (k : Nat) (d : PyData) : Prop where
  s : d.showable = true
  n : d.hasDict = false
  p : d.depth ≤ k
  l : d.leavesShort 60 = true
  b : d.bulk ≤ k
theorem Sd.shw {k : Nat} {d : PyData} (h : Sd k d) (hk : k ≤ 50) : Shw d := ⟨h.s, h.n, Nat.le_trans h.p hk, by
  have := PyData.shown_le_bulk 60 (by decide) d h.l
  have := h.b
  rw [sizeLine_eq]
  omega⟩
theorem Sd.mono {k j : Nat} {d : PyData} (h : Sd k d) (hk : k ≤ j) : Sd j d := ⟨h.s, h.n, Nat.le_trans h.p hk, h.l, Nat.le_trans h.b hk⟩
theorem sd_nil : Sd 1 (.list []) := ⟨rfl, rfl, by decide, rfl, by decide⟩
theorem sd_cons {k j : Nat} {d : PyData} {ds : List PyData} (h : Sd k d) (t : Sd j (.list ds)) : Sd (k + j + 1) (.list (d :: ds)) := by
  obtain ⟨s1, n1, p1, l1, b1⟩ := h
  obtain ⟨s2, n2, p2, l2, b2⟩ := t
  simp only [PyData.showable] at s2
  simp only [PyData.hasDict] at n2
  simp only [PyData.depth] at p2
  simp only [PyData.leavesShort] at l2
  simp only [PyData.bulk] at b2
  refine ⟨?_, ?_, ?_, ?_, ?_⟩
  · simp only [PyData.showable, PyData.showableAll, s1, s2, Bool.and_self]
  · simp only [PyData.hasDict, PyData.hasDictAll, n1, n2, Bool.or_self]
  · simp only [PyData.depth, PyData.depthAll]
    omega
  · simp only [PyData.leavesShort, PyData.leavesShortAll, l1, l2, Bool.and_self]
  · simp only [PyData.bulk, PyData.bulkAll]
    omega
theorem sd_int {i : Int} (h : i.natAbs < 10 ^ 52) : Sd 0 (.int i) := by
  have hz : i.natAbs.log2 < 1920 := by
    by_cases e : i.natAbs = 0
    · rw [e]
      decide
    · exact (Nat.log2_lt e).mpr (Nat.lt_trans h (by decide +kernel))
  refine ⟨decide_eq_true hz, rfl, (show (0 : Nat) ≤ 0 from Nat.le_refl 0), ?_, (show (0 : Nat) ≤ 0 from Nat.le_refl 0)⟩
  have := int_text_length_le10 (k := 52) (by decide) h
  have e2 := PySem.ofString_length (toString i)
  exact decide_eq_true (show (Str.ofString (toString i)).length ≤ 60 by rw [e2]; omega)
def plainD (n : Int) : List PyData := [.none, .bool true, .int n, .str "part", .str "", .tuple [.int 1, .str "a"], .list [.int n], .list [.list [.int 1]], .bool false, .int 0]
theorem sd_plain {n : Int} (h : n.natAbs < 10 ^ 52) : ∀ d ∈ plainD n, Sd 6 d := by
  intro d hd
  have k1 : Sd 0 (.int 1) := sd_int (by decide)
  have c : d = .none ∨ d = .bool true ∨ d = .int n ∨ d = .str "part" ∨ d = .str "" ∨ d = .tuple [.int 1, .str "a"] ∨ d = .list [.int n] ∨ d = .list [.list [.int 1]] ∨ d = .bool false ∨ d = .int 0 := by
    simpa [plainD] using hd
  rcases c with rfl | rfl | rfl | rfl | rfl | rfl | rfl | rfl | rfl | rfl
  · exact ⟨rfl, rfl, by decide, rfl, by decide⟩
  · exact ⟨rfl, rfl, by decide, rfl, by decide⟩
  · exact (sd_int h).mono (by decide)
  · exact ⟨rfl, rfl, by decide, by decide, by decide⟩
  · exact ⟨rfl, rfl, by decide, by decide, by decide⟩
  · exact ⟨rfl, rfl, by decide, by decide +kernel, by decide⟩
  · exact (sd_cons (sd_int h) sd_nil).mono (by decide)
  · exact (sd_cons (sd_cons k1 sd_nil) sd_nil).mono (by decide)
  · exact ⟨rfl, rfl, by decide, rfl, by decide⟩
  · exact (sd_int (by decide)).mono (by decide)
theorem sd_dues {k : Nat} {x y z : PyData} (hx : Sd k x) (hy : Sd k y) (hz : Sd k z) (i : Nat) : Sd (3 * k + 4) (.list (duesD i x y z)) := by
  unfold duesD
  split
  · exact (sd_cons hx sd_nil).mono (by omega)
  · split
    · exact (sd_cons hx (sd_cons hy sd_nil)).mono (by omega)
    · split
      · exact (sd_cons hx (sd_cons hy (sd_cons hz sd_nil))).mono (by omega)
      · exact sd_nil.mono (by omega)
theorem dpa_get {K : PySem.W.Frag} {H : Hp} : ∀ {vs : List V} {ds : List PyData} {i : Nat} {v : V}, DpAll K H vs ds → vs[i]? = some v → ∃ d ∈ ds, Dp K H v d
  | _, _, 0, _, .cons h _, e => ⟨_, List.mem_cons_self, by cases e; exact h⟩
  | _, _, i + 1, _, .cons _ t, e => by
    obtain ⟨d, hd, h⟩ := dpa_get (i := i) t e
    exact ⟨d, List.mem_cons_of_mem _ hd, h⟩
end K00

set_option maxHeartbeats 1000000
namespace K00
open PySem PySem.Spec PyProof.Rows L2 XB XV XG
open C8 (Cal Met Mak pe_c pe_mk pe_mt pe_mt0 pss_cut tCut)
def spLaw (K : PySem.W.Frag) : Sp := fun vs H Q _ => ∃ (a : Addr) (ns : List Int), vs = [.ref a] ∧ SqL K H a (ns.map V.int) ∧ ns.length ≤ 63 ∧ ∀ H', Q (.bl true) H'
section
variable {P : Program} {w : World} {K : PySem.W.Frag} {mg : Str → Option Value} {base : Heap} {cs : List Addr}
theorem ok_law {f fa : Addr} {fd fda : FuncData} (D : DF K mg "law" s_law f fd) (T : Txt K mg) (M : Cls P w K mg base cs) (N : Kit K cs)
    (C_law_churn : Cal P w K mg base 1 "_law_churn" (spJug K) []) (C_law_skim : Cal P w K mg base 1 "_law_skim" spPour [])
    (C_law_parts : Cal P w K mg base 3 "_law_parts" (spMake1 K cs 0 16) []) (C_law_parts_turned : Cal P w K mg base 3 "_law_parts_turned" (spMake1 K cs 0 16) [])
    (C_law_others : Cal P w K mg base 3 "_law_others" (spMake K cs 16 25) []) (C_law_others_named : Cal P w K mg base 3 "_law_others_named" (spMake K cs 16 25) [])
    (C_law_kin : Cal P w K mg base 1 "_law_kin" (spKin cs) [])
    (C_all : OkG P w K mg base 3 "_law_all_right" s_law_all_right ["_law_values", "_law_made"] (spAll K cs) fa fda) (B_all : Binds K fda ["_law_values", "_law_made"] []) :
    OkG P w K mg base 4 "law" s_law ["_law_script"] (spLaw K) f fd := by
  refine okg D sc_law (fun vs H Q E h => ?_) (fun cdv A outer s H vs Q E hgd hr h => ?_)
  · obtain ⟨a, ns, rfl, _⟩ := h
    rfl
  · obtain ⟨a, ns, rfl, hS, hl, q⟩ := h
    have hun : (A.deeper (envOfC "law" (defScope s_law) s.heap.objs.size f cdv)).units + 100 < cLine := by have := hr.un; omega
    have hun65 : (A.deeper (envOfC "law" (defScope s_law) s.heap.objs.size f cdv)).units + 65 < cLine := by omega
    refine ⟨_, (pss_cons (ps_set (i := 1) sc_law.nd rfl (Or.inr rfl) (pe_c C_law_churn hr (by decide) (by rfl) (pa_cons (pv 0) pa_nil)))
      (pss_cons (ps_setLc (i := 2) (own := [("_law_turn", 10)]) (g := gName 10) rfl sc_law.nd rfl rfl (sw_true rfl rfl rfl (by decide +kernel)) (pi_range1 rfl T.m_range (pa_cons pe_int pa_nil)) (blkOk_by (own := [("_law_turn", 10)]) (N := n_law) (sc := defScope s_law) (by decide +kernel)) (fun _ _ _ _ _ => pg_name (i := 10) sc_law.nd rfl (Or.inl rfl)) (fun _ _ _ _ _ => pts_nil) (fun _ _ _ _ _ => (pe_c C_law_skim hr (by decide) (by rfl) (pa_cons (pv 1) (pa_cons pe_int pa_nil)))))
      (pss_cons (ps_set (i := 3) sc_law.nd rfl (Or.inl rfl) (pe_op op_mul (pe_op op_sub (pe_op op_mul pe_int (pe_c C_law_skim hr (by decide) (by rfl) (pa_cons (pv 1) (pa_cons pe_int pa_nil)))) pe_int) (pe_c C_law_skim hr (by decide) (by rfl) (pa_cons (pv 1) (pa_cons (pe_op op_pow pe_int pe_int) pa_nil)))))
      (pss_cons (ps_set (i := 4) sc_law.nd rfl (Or.inl rfl) (pe_lst (pa_cons pe_non (pa_cons pe_bl (pa_cons (pv 3) (pa_cons pe_str (pa_cons pe_str (pa_cons (pe_tup (pa_cons pe_int (pa_cons pe_str pa_nil))) (pa_cons (pe_lst (pa_cons (pv 3) pa_nil)) (pa_cons (pe_lst (pa_cons (pe_lst (pa_cons pe_int pa_nil)) pa_nil)) (pa_cons pe_bl (pa_cons pe_int pa_nil))))))))))))
      (pss_cons (ps_set (i := 5) sc_law.nd rfl (Or.inl rfl) (pe_lst (pa_cons (pe_ix ix_list (pv 4) (pe_ix ix_list (pv 2) pe_int (fun _ _ => rfl)) (fun _ _ => rfl)) (pa_cons (pe_ix ix_list (pv 4) (pe_ix ix_list (pv 2) pe_int (fun _ _ => rfl)) (fun _ _ => rfl)) (pa_cons (pe_lst (pa_cons (pe_op op_add (pv 3) pe_int) (pa_cons (pe_ix ix_list (pv 4) (pe_ix ix_list (pv 2) pe_int (fun _ _ => rfl)) (fun _ _ => rfl)) pa_nil))) pa_nil)))))
      (pss_cons (ps_par3 (i := 6) (j := 7) (l := 8) rfl sc_law.nd rfl rfl rfl (by decide) (by decide) (by decide) rfl rfl rfl (pa_cons (pe_ix ix_list (pv 5) pe_int (fun _ _ => rfl)) (pa_cons (pe_ix ix_list (pv 5) pe_int (fun _ _ => rfl)) (pa_cons (pe_ix ix_list (pv 5) pe_int (fun _ _ => rfl)) pa_nil))) (by rfl))
      (pss_cons (ps_if (pt_not (pt_val (pe_g C_all hgd B_all hr (by decide) (by rfl) (pa_cons (pv 5) (pa_cons (pe_op op_cat (pe_c C_law_parts hr (by decide) (by rfl) (pa_cons (pv 6) pa_nil)) (pe_c C_law_others hr (by decide) (by rfl) (pa_cons (pv 6) (pa_cons (pv 7) (pa_cons (pv 8) pa_nil))))) pa_nil))))) (pss_one (ps_ret pe_bl)) pss_nil)
      (pss_cons (ps_if (pt_not (pt_val (pe_g C_all hgd B_all hr (by decide) (by rfl) (pa_cons (pv 5) (pa_cons (pe_op op_cat (pe_c C_law_parts_turned hr (by decide) (by rfl) (pa_cons (pv 6) pa_nil)) (pe_c C_law_others_named hr (by decide) (by rfl) (pa_cons (pv 6) (pa_cons (pv 7) (pa_cons (pv 8) pa_nil))))) pa_nil))))) (pss_one (ps_ret pe_bl)) pss_nil)
      (pss_cons (ps_for PassesOwn.never rfl (pi_list (pe_lst (pas_cons (pe_p1 6 6 6 (fun x _ _ => some [("value", x)]) M.e41 (hr.mono (by decide)) (by rfl) (pv 6) (fun _ _ _ => rfl)) (pas_cons (pe_k1 6 6 6 (fun x _ _ => some [("value", x)]) M.e41 (hr.mono (by decide)) (by rfl) (pv 6) (fun _ _ _ => rfl)) (pas_cons (pe_z 6 6 6 (fun _ _ _ => none) M.e42 (by rfl) (fun _ _ _ => rfl)) pas_nil))))) (pg_name (i := 9) sc_law.nd rfl (Or.inl rfl))
      (pss_one (ps_if (PW.pt (pw_or (pt_cmpR (op_inD hun65) pe_bl (pe_c C_law_kin hr (by decide) (by rfl) (pa_cons (pv 9) pa_nil)) rfl) (pw_or (pt_not (pt_val (pe_callB call_isX (by rfl) T.m_isinstance (by decide +kernel) (pa_cons (pv 9) (pa_cons (pe_glob (v := .ref (cs.getD 42 0)) (by rfl) M.e42.gC rfl) pa_nil))))) (pw_or1 (pt_not (pt_val (pe_callB call_isX (by rfl) T.m_isinstance (by decide +kernel) (pa_cons (pv 9) (pa_cons (pe_bltn (v := .ty "ValueError") (by rfl) T.m_ValueError (by decide +kernel) rfl) pa_nil))))))))) (pss_one (ps_ret pe_bl)) pss_nil)))
      (pss_one (ps_ret (pe_and (pe_cmpR op_eq (pe_callB (call_reprV hgd hun) (by rfl) T.m_repr (by decide +kernel) (pa_cons (pe_xv (pe_p1 6 6 6 (fun x _ _ => some [("value", x)]) M.e41 (hr.mono (by decide)) (by rfl) (pv 6) (fun _ _ _ => rfl))) pa_nil)) (pe_callB (call_reprV hgd hun) (by rfl) T.m_repr (by decide +kernel) (pa_cons (pv 6) pa_nil)) (nomark _)) (pe_one (pe_cmpR op_eq (pe_callB (call_reprV hgd hun) (by rfl) T.m_repr (by decide +kernel) (pa_cons (pe_xv (pe_k1 7 6 6 (fun x _ _ => some [("value", x)]) M.e41 (hr.mono (by decide)) (by rfl) (pv 7) (fun _ _ _ => rfl))) pa_nil)) (pe_callB (call_reprV hgd hun) (by rfl) T.m_repr (by decide +kernel) (pa_cons (pv 7) pa_nil)) (nomark _))))))))))))))), ?_⟩
    refine ⟨.ref a, rfl, a, ns, rfl, hS, fun p H1 np J1 s1 => ?_⟩
    refine ⟨3, rfl, by decide, by decide, fun D1 nD1 => ?_⟩
    have nDp : D1 ≠ p := J1.ne nD1
    refine lc_range (lo := 0) (n := 3) (fun k H2 => Jug H2 p k ∧ ∃ l : List Int, H2 D1 = some (.lst (l.map V.int)) ∧ l.length = k ∧ ∀ v ∈ l, 0 ≤ v ∧ v < 10) ⟨J1.new nD1, [], upd_same, rfl, fun v hv => (List.not_mem_nil hv).elim⟩ ?_ ?_
    · rintro k H2 hk ⟨J2, l, e2, hlen, hl2⟩
      refine ⟨rfl, .ref p, rfl, p, 10, k, rfl, by decide, by decide, J2, Nat.le_trans (Nat.le_of_lt hk) (by decide), fun r H3 r0 r1 J3 k3 _ => ?_⟩
      refine ⟨l.map V.int, k3 _ _ nDp e2, ?_, J3.upd nDp, l ++ [r], (by rw [upd_same, List.map_append]; rfl), (by rw [List.length_append, hlen]; rfl), fun v hv => ?_⟩
      · rw [List.length_map, hlen, sizeLine_eq]
        omega
      · rcases List.mem_append.mp hv with hv | hv
        · exact hl2 v hv
        · cases List.mem_singleton.mp hv
          exact ⟨r0, r1⟩
    · rintro H2 ⟨J2, l, e2, hlen, hl2⟩
      obtain ⟨p0, p1, p2, rfl⟩ : ∃ p0 p1 p2, l = [p0, p1, p2] := by
        match l, hlen with
        | [x, y, z], _ => exact ⟨x, y, z, rfl⟩
      refine ⟨.ref p, rfl, p, 2, 3, rfl, by decide, by decide, J2, by decide, fun r1 H3 a1 b1 J3 k3 _ => ?_⟩
      have e3 := k3 _ _ nDp e2
      refine ⟨_, _, rfl, rfl, .inl ⟨by decide, by decide⟩, _, _, rfl, rfl, ?_⟩
      refine ⟨.ref p, rfl, 10, 50, rfl, rfl, ⟨by decide, by decide, by decide⟩, ?_⟩
      refine ⟨p, 10 ^ 50, 4, rfl, by decide, by decide, J3, by decide, fun r2 H4 a2 b2 J4 k4 _ => ?_⟩
      have e4 := k4 _ _ nDp e3
      refine ⟨_, _, rfl, rfl, .inl ⟨by omega, by omega⟩, ?_⟩
      obtain ⟨n, hn⟩ : ∃ n : Int, n = (2 * r1 - 1) * r2 := ⟨_, rfl⟩
      have nb : n.natAbs < 10 ^ 51 := by
        have c : r1 = 0 ∨ r1 = 1 := by omega
        have b3 : r2 < 100000000000000000000000000000000000000000000000000 := b2
        rw [show (10 : Nat) ^ 51 = 1000000000000000000000000000000000000000000000000000 by decide]
        rcases c with rfl | rfl <;> omega
      have nb2 : (n + 1).natAbs < 10 ^ 52 := by
        rw [show (10 : Nat) ^ 51 = 1000000000000000000000000000000000000000000000000000 by decide] at nb
        rw [show (10 : Nat) ^ 52 = 10000000000000000000000000000000000000000000000000000 by decide]
        omega
      have nb3 : n.natAbs < 10 ^ 52 := Nat.lt_trans nb (by decide +kernel)
      show gName 3 (V.int ((2 * r1 - 1) * r2)) _ _ _
      rw [← hn]
      clear hn a2 b2 a1 b1
      refine ⟨.int n, rfl, (by show 2 ≤ sizeLine; decide), fun t1 nt1 => ?_⟩
      have eD := (Same.new (o := HO.tup [.int 1, .str "a"]) nt1) _ _ e4
      have dt : Dp K (upd H4 t1 (.tup [.int 1, .str "a"])) (.ref t1) (.tuple [.int 1, .str "a"]) := .tup (sqt_in upd_same) (.cons (.int 1) (.cons (.str "a") .nil))
      generalize upd H4 t1 (.tup [.int 1, .str "a"]) = Ha at eD dt ⊢
      refine ⟨.int n, rfl, (by show 1 ≤ sizeLine; decide), fun l1 nl1 => ?_⟩
      have eD := (Same.new (o := HO.lst [.int n]) nl1) _ _ eD
      have dt := dp_same (Same.new (o := HO.lst [.int n]) nl1) dt
      have d1 : Dp K (upd Ha l1 (.lst [.int n])) (.ref l1) (.list [.int n]) := .lst (seq_in upd_same) (.cons (.int n) .nil)
      generalize upd Ha l1 (.lst [.int n]) = Hb at eD dt d1 ⊢
      refine ⟨(by show 1 ≤ sizeLine; decide), fun l2 nl2 => ?_⟩
      have eD := (Same.new (o := HO.lst [.int 1]) nl2) _ _ eD
      have dt := dp_same (Same.new (o := HO.lst [.int 1]) nl2) dt
      have d1 := dp_same (Same.new (o := HO.lst [.int 1]) nl2) d1
      have d2 : Dp K (upd Hb l2 (.lst [.int 1])) (.ref l2) (.list [.int 1]) := .lst (seq_in upd_same) (.cons (.int 1) .nil)
      generalize upd Hb l2 (.lst [.int 1]) = Hc at eD dt d1 d2 ⊢
      refine ⟨(by show 1 ≤ sizeLine; decide), fun l3 nl3 => ?_⟩
      have eD := (Same.new (o := HO.lst [.ref l2]) nl3) _ _ eD
      have dt := dp_same (Same.new (o := HO.lst [.ref l2]) nl3) dt
      have d1 := dp_same (Same.new (o := HO.lst [.ref l2]) nl3) d1
      have d2 := dp_same (Same.new (o := HO.lst [.ref l2]) nl3) d2
      have d3 : Dp K (upd Hc l3 (.lst [.ref l2])) (.ref l3) (.list [.list [.int 1]]) := .lst (seq_in upd_same) (.cons d2 .nil)
      generalize upd Hc l3 (.lst [.ref l2]) = Hd at eD dt d1 d2 d3 ⊢
      refine ⟨(by show 10 ≤ sizeLine; decide), fun pl npl => ?_⟩
      have eD := (Same.new (o := HO.lst [.non, .bl true, .int n, .str "part", .str "", .ref t1, .ref l1, .ref l3, .bl false, .int 0]) npl) _ _ eD
      have da : DpAll K Hd [.non, .bl true, .int n, .str "part", .str "", .ref t1, .ref l1, .ref l3, .bl false, .int 0] (plainD n) :=
        .cons .non (.cons (.bl true) (.cons (.int n) (.cons (.str "part") (.cons (.str "") (.cons dt (.cons d1 (.cons d3 (.cons (.bl false) (.cons (.int 0) .nil)))))))))
      have da := dpa_same (Same.new (o := HO.lst [.non, .bl true, .int n, .str "part", .str "", .ref t1, .ref l1, .ref l3, .bl false, .int 0]) npl) da
      have ePl : (upd Hd pl (.lst [.non, .bl true, .int n, .str "part", .str "", .ref t1, .ref l1, .ref l3, .bl false, .int 0])) pl = some (.lst [.non, .bl true, .int n, .str "part", .str "", .ref t1, .ref l1, .ref l3, .bl false, .int 0]) := upd_same
      generalize upd Hd pl (.lst [.non, .bl true, .int n, .str "part", .str "", .ref t1, .ref l1, .ref l3, .bl false, .int 0]) = He at eD da ePl ⊢
      have pick : ∀ i : Int, 0 ≤ i → i < 10 → ∃ v d, atI [V.non, .bl true, .int n, .str "part", .str "", .ref t1, .ref l1, .ref l3, .bl false, .int 0] i = some v ∧ Sd 6 d ∧ Dp K He v d := by
        intro i i0 i1
        obtain ⟨m, rfl⟩ : ∃ m : Nat, i = (m : Int) := ⟨i.toNat, by omega⟩
        have hm : m < 10 := by omega
        obtain ⟨v, hv⟩ : ∃ v, [V.non, .bl true, .int n, .str "part", .str "", .ref t1, .ref l1, .ref l3, .bl false, .int 0][m]? = some v := ⟨_, List.getElem?_eq_getElem (by show m < 10; exact hm)⟩
        obtain ⟨d, hd, h⟩ := dpa_get da hv
        exact ⟨v, d, by rw [atI_nat]; exact hv, sd_plain nb3 d hd, h⟩
      obtain ⟨x, dx, ax, sx, hx⟩ := pick p0 (hl2 p0 (by simp)).1 (hl2 p0 (by simp)).2
      obtain ⟨y, dy, ay, sy, hy⟩ := pick p1 (hl2 p1 (by simp)).1 (hl2 p1 (by simp)).2
      obtain ⟨u, du, au, su, hu⟩ := pick p2 (hl2 p2 (by simp)).1 (hl2 p2 (by simp)).2
      clear pick da nb hl2
      refine ⟨.ref pl, rfl, .ref D1, rfl, D1, _, 0, _, rfl, rfl, seq_in eD, rfl, pl, _, p0, x, rfl, rfl, seq_in ePl, ax, ?_⟩
      refine ⟨.ref pl, rfl, .ref D1, rfl, D1, _, 1, _, rfl, rfl, seq_in eD, rfl, pl, _, p1, y, rfl, rfl, seq_in ePl, ay, ?_⟩
      refine ⟨.int n, rfl, n, 1, rfl, rfl, ?_⟩
      refine ⟨.ref pl, rfl, .ref D1, rfl, D1, _, 2, _, rfl, rfl, seq_in eD, rfl, pl, _, p2, u, rfl, rfl, seq_in ePl, au, ?_⟩
      refine ⟨(by show 2 ≤ sizeLine; decide), fun zl nzl => ?_⟩
      have sd3 : Sd 9 (.list [.int (n + 1), du]) := (sd_cons (sd_int nb2) (sd_cons su sd_nil)).mono (by decide)
      have k1 : Same He (upd He zl (.lst [.int (n + 1), u])) := Same.new nzl
      have hz : Dp K (upd He zl (.lst [.int (n + 1), u])) (.ref zl) (.list [.int (n + 1), du]) := .lst (seq_in upd_same) (.cons (.int _) (.cons (dp_same k1 hu) .nil))
      have hx := dp_same k1 hx
      have hy := dp_same k1 hy
      generalize (PyData.list [.int (n + 1), du]) = dz at hz sd3
      show (_ ∧ ∀ p, (upd He zl (.lst [.int (n + 1), u])) p = none → _)
      generalize upd He zl (.lst [.int (n + 1), u]) = Hf at hx hy hz ⊢
      refine ⟨(by show 3 ≤ sizeLine; decide), fun vl nvl => ?_⟩
      have k2 : Same Hf (upd Hf vl (.lst [x, y, .ref zl])) := Same.new nvl
      have hx := dp_same k2 hx
      have hy := dp_same k2 hy
      have hz := dp_same k2 hz
      have ev : (upd Hf vl (.lst [x, y, .ref zl])) vl = some (.lst [x, y, .ref zl]) := upd_same
      generalize upd Hf vl (.lst [x, y, .ref zl]) = Hg at hx hy hz ev ⊢
      refine ⟨.ref vl, rfl, vl, _, 0, x, rfl, rfl, seq_in ev, rfl, .ref vl, rfl, vl, _, 1, y, rfl, rfl, seq_in ev, rfl, .ref vl, rfl, vl, _, 2, .ref zl, rfl, rfl, seq_in ev, rfl, x, y, .ref zl, rfl, ?_⟩
      have sh : ∀ i, Shw (.list (duesD i dx dy dz)) := fun i => (sd_dues (sx.mono (by decide)) (sy.mono (by decide)) sd3 i).shw (by decide)
      refine ⟨.ref vl, rfl, x, rfl, x, rfl, fun q1 as1 Ha1 s11 e1 m1 => ?_⟩
      refine ⟨x, rfl, y, rfl, .ref zl, rfl, x, y, .ref zl, rfl, fun q2 as2 Hb1 s21 e2 m2 => ?_⟩
      refine ⟨q1, q2, _, _, rfl, rfl, s21 _ _ e1, e2, len2 m1 m2 (by show 16 + 25 ≤ 100; decide), fun q3 n3 => ?_⟩
      have s31 : Same Hb1 (upd Hb1 q3 (.lst (as1.map V.ref ++ as2.map V.ref))) := Same.new n3
      have e3 : (upd Hb1 q3 (.lst (as1.map V.ref ++ as2.map V.ref))) q3 = some (.lst ((as1 ++ as2).map V.ref)) := by rw [upd_same, List.map_append]
      generalize upd Hb1 q3 (.lst (as1.map V.ref ++ as2.map V.ref)) = Hc1 at s31 e3 ⊢
      have t1 := (s11.trans s21).trans s31
      refine ⟨vl, q3, x, y, .ref zl, dx, dy, dz, as1 ++ as2, rfl, t1 _ _ ev, dp_same t1 hx, dp_same t1 hy, dp_same t1 hz, sh, e3, ?_, fun Hd1 s41 => ?_⟩
      · exact (m1.same (s21.trans s31)).append' (m2.same s31)
      have t1 := t1.trans s41
      have ev := t1 _ _ ev
      have hx := dp_same t1 hx
      have hy := dp_same t1 hy
      have hz := dp_same t1 hz
      clear e1 e2 e3 m1 m2 n3 s11 s21 s31 s41
      refine ⟨_, rfl, iteF ?_⟩
      refine ⟨.ref vl, rfl, x, rfl, x, rfl, fun q1 as1 Ha2 s12 e1 m1 => ?_⟩
      refine ⟨x, rfl, y, rfl, .ref zl, rfl, x, y, .ref zl, rfl, fun q2 as2 Hb2 s22 e2 m2 => ?_⟩
      refine ⟨q1, q2, _, _, rfl, rfl, s22 _ _ e1, e2, len2 m1 m2 (by show 16 + 25 ≤ 100; decide), fun q3 n3 => ?_⟩
      have s32 : Same Hb2 (upd Hb2 q3 (.lst (as1.map V.ref ++ as2.map V.ref))) := Same.new n3
      have e3 : (upd Hb2 q3 (.lst (as1.map V.ref ++ as2.map V.ref))) q3 = some (.lst ((as1 ++ as2).map V.ref)) := by rw [upd_same, List.map_append]
      generalize upd Hb2 q3 (.lst (as1.map V.ref ++ as2.map V.ref)) = Hc2 at s32 e3 ⊢
      have t2 := (s12.trans s22).trans s32
      refine ⟨vl, q3, x, y, .ref zl, dx, dy, dz, as1 ++ as2, rfl, t2 _ _ ev, dp_same t2 hx, dp_same t2 hy, dp_same t2 hz, sh, e3, ?_, fun Hd2 s42 => ?_⟩
      · exact (m1.same (s22.trans s32)).append' (m2.same s32)
      have t2 := t2.trans s42
      have ev := t2 _ _ ev
      have hx := dp_same t2 hx
      have hy := dp_same t2 hy
      have hz := dp_same t2 hz
      clear e1 e2 e3 m1 m2 n3 s12 s22 s32 s42
      refine ⟨_, rfl, iteF ?_⟩
      refine ⟨x, x, x, rfl, rfl, rfl, fun as3 He3 s3 m3 => ⟨len_ok m3 (by show 3 ≤ 100; decide), fun q4 n4 => ?_⟩⟩
      have k4 : Same He3 (upd He3 q4 (.lst (as3.map V.ref))) := Same.new n4
      have hx := dp_same (s3.trans k4) hx
      have hy := dp_same (s3.trans k4) hy
      have m4 := m3.same k4
      have e4 : (upd He3 q4 (.lst (as3.map V.ref))) q4 = some (.lst (as3.map V.ref)) := upd_same
      generalize upd He3 q4 (.lst (as3.map V.ref)) = Hf4 at hx hy m4 e4 ⊢
      refine ⟨q4, rfl, ⟨_, seq_in e4⟩, for_list (K := K) (a := q4) (xs := as3.map V.ref) (fun _ σ H9 => Same Hf4 H9 ∧ ∃ c d, σ = [some (.ref a), some (.ref p), some (.ref D1), some (.int n), some (.ref pl), some (.ref vl), some x, some y, some (.ref zl), c, d]) ⟨Same.refl _, _, _, rfl⟩ (fun i σ H9 _ hh => hh.1.seq (seq_in e4)) ?_ ?_⟩
      · rintro i v σ H9 hi ⟨s9, c, d, rfl⟩
        obtain ⟨b, eb, rfl⟩ : ∃ b, as3[i]? = some b ∧ v = .ref b := by
          rw [List.getElem?_map] at hi
          cases q : as3[i]? with
          | none =>
            rw [q] at hi
            cases hi
          | some b =>
            rw [q] at hi
            exact ⟨b, rfl, (Option.some.inj hi).symm⟩
        obtain ⟨j, fs, hj, er⟩ : ∃ j fs, (j = 41 ∨ j = 42) ∧ Er Hf4 (cs.getD j 0) b fs := by
          obtain ⟨C, fs, g1, g2⟩ := m4.get eb
          match i, g1 with
          | 0, g1 => cases g1; exact ⟨41, _, .inl rfl, g2⟩
          | 1, g1 => cases g1; exact ⟨41, _, .inl rfl, g2⟩
          | 2, g1 => cases g1; exact ⟨42, _, .inr rfl, g2⟩
        have hj2 : j < 43 := by omega
        have er := er.same s9
        refine ⟨.ref b, rfl, b, j, fs, rfl, hj2, er, fun q5 H10 s10 e10 => ?_⟩
        have er := er.same s10
        refine ⟨.bool true, (List.range 41).map fun j' => PyData.bool (decide (j = j')), .bl true, .lst (seq_in e10) (dp_bls _), rfl, rfl, _, rfl, ?_⟩
        rw [show ((List.range 41).map fun j' => PyData.bool (decide (j = j'))).any (fun z => PyData.eqv z (.bool true)) = false by rcases hj with rfl | rfl <;> rfl]
        refine iteF ?_
        refine ⟨.ref b, rfl, b, _, _, _, _, _, rfl, er, N.ex j hj2, .own _, N.kw j hj2, _, rfl, ?_⟩
        refine iteF ?_
        refine ⟨.ref b, rfl, b, _, _, _, _, _, rfl, er, N.ex j hj2, .ty _, N.kv j hj2, _, rfl, ?_⟩
        refine iteF ?_
        exact ⟨s9.trans s10, _, _, rfl⟩
      · rintro σ H9 ⟨s9, c, d, rfl⟩
        have hx := dp_same s9 hx
        have hy := dp_same s9 hy
        have vf : ("value" : Str) ∈ FLD := by simp [FLD]
        refine ⟨x, x, x, rfl, rfl, rfl, fun b H10 s10 er => ⟨b, _, _, x, rfl, er, N.xf 41 (by decide), N.nf 41 (by decide) _ vf, rfl, ?_⟩⟩
        refine ⟨x, dx, rfl, dp_same s10 hx, sx.shw (by decide), ?_⟩
        refine ⟨x, rfl, x, dx, rfl, dp_same s10 hx, sx.shw (by decide), ?_⟩
        refine ⟨rfl, _, rfl, ?_⟩
        rw [decide_eq_true rfl]
        refine iteT ?_
        have hy := dp_same s10 hy
        refine ⟨y, x, x, rfl, rfl, rfl, fun b H11 s11 er => ⟨b, _, _, y, rfl, er, N.xf 41 (by decide), N.nf 41 (by decide) _ vf, rfl, ?_⟩⟩
        refine ⟨y, dy, rfl, dp_same s11 hy, sy.shw (by decide), ?_⟩
        refine ⟨y, rfl, y, dy, rfl, dp_same s11 hy, sy.shw (by decide), ?_⟩
        refine ⟨rfl, ?_⟩
        rw [decide_eq_true rfl]
        exact q _
end
end K00

set_option maxHeartbeats 4000000
namespace K00
open PySem PySem.Spec PyProof.Rows L2 XB XV XG
/-! ### what is asked of the written part, class by class -/
theorem two {a b : Bool} (h : (a && b) = true) : a = true ∧ b = true := Bool.and_eq_true_iff.mp h
theorem excB_ok {K : PySem.W.Frag} {C : Addr} (h : excB K C = true) : ExcC K C := by
  obtain ⟨h1, h⟩ := two h
  obtain ⟨h2, h⟩ := two h
  obtain ⟨h3, h⟩ := two h
  obtain ⟨h4, h⟩ := two h
  obtain ⟨h5, h⟩ := two h
  obtain ⟨h6, h⟩ := two h
  obtain ⟨h7, h8⟩ := two h
  exact ⟨of_decide_eq_true h1, of_decide_eq_true h2, of_decide_eq_true h3, h4, of_decide_eq_true h5, of_decide_eq_true h6, of_decide_eq_true h7, of_decide_eq_true h8⟩
theorem shapeB_ok {C : Addr} {o : Obj} (h : shapeB C o = true) : ∃ nm q N bs bm sn sub ab col dd k0 k1 k2 k3 k5, o = excClassObj nm q C N bs bm true sn sub ab col dd k0 k1 k2 k3 k5 "ValueError.__new__" ∧ PySem.HandSPX.refsVE bm = true := by
  obtain ⟨h12, h3⟩ := two h
  obtain ⟨h1, h2⟩ := two h12
  obtain ⟨oc, dd, dt, sl⟩ := o
  have e1 : oc = .type "type" := of_decide_eq_true h1
  subst e1
  cases dt with
  | cls cd =>
    obtain ⟨nm, bs, mro, ns, qn, hd, sn, sub, ab, col, del⟩ := cd
    obtain ⟨g1, h2⟩ := two h2
    obtain ⟨g2, h2⟩ := two h2
    have g1' : del = false := by simpa using g1
    have g2' : hd = true := g2
    subst g1' g2'
    cases mro with
    | nil => cases h2
    | cons v bm =>
      obtain ⟨g3, g4⟩ := two h2
      have g3' : v = .ref C := of_decide_eq_true g3
      subst g3'
      obtain ⟨l⟩ := sl
      match l, h3 with
      | [k0, k1, k2, k3, some v, k5], h3 =>
        have g5 : v = .builtin "ValueError.__new__" := of_decide_eq_true h3
        subst g5
        exact ⟨nm, qn, ns, bs, bm, sn, sub, ab, col, dd, k0, k1, k2, k3, k5, rfl, g4⟩
  | _ => cases h2
theorem oexB_ok {K : PySem.W.Frag} {C : Addr} (h : oexB K C = true) : OexC K C := by
  obtain ⟨h1, h⟩ := two h
  obtain ⟨h2, h⟩ := two h
  obtain ⟨h3, h⟩ := two h
  obtain ⟨h4, h5⟩ := two h
  refine ⟨?_, of_decide_eq_true h2, of_decide_eq_true h5, of_decide_eq_true h3, h4⟩
  cases e : K.lookup C with
  | none =>
    rw [e] at h1
    cases h1
  | some o =>
    rw [e] at h1
    obtain ⟨nm, q, N, bs, bm, sn, sub, ab, col, dd, k0, k1, k2, k3, k5, eo, g⟩ := shapeB_ok (show shapeB C o = true from h1)
    exact ⟨nm, q, N, bs, bm, sn, sub, ab, col, dd, k0, k1, k2, k3, k5, by rw [eo], g⟩
structure RowOk (K : PySem.W.Frag) (cs : List Addr) (i : Nat) : Prop where
  r1 : ExcC K (cs.getD i 0)
  r2 : XfC K (cs.getD i 0)
  r3 : i < 42 → ∀ f ∈ FLD, PySem.W.findIn K (.ref (cs.getD i 0)) f = some none
  r4 : ∀ j, j < 41 → PySem.W.kitOne K (.ref (cs.getD i 0)) (.ref (cs.getD j 0)) = some (decide (i = j))
  r5 : PySem.W.kitOne K (.ref (cs.getD i 0)) (.ref (cs.getD 42 0)) = some true
  r6 : i < 41 → PySem.W.kitOne K (.ref (cs.getD i 0)) (.ref (cs.getD 41 0)) = some (decide (16 ≤ i ∧ i < 23))
  r7 : PySem.W.kitOne K (.ref (cs.getD i 0)) (.type "ValueError") = some true
  r8 : PySem.W.kitOne K (.ref (cs.getD i 0)) (.type "LookupError") = some false
  r9 : PySem.W.kitOne K (.ref (cs.getD i 0)) (.type "TypeError") = some false
  r10 : PySem.W.kitOne K (.ref (cs.getD i 0)) (.type "ArithmeticError") = some false
  r11 : PySem.W.kitOne K (.ref (cs.getD i 0)) (.type "RuntimeError") = some false
  r12 : PySem.W.kitOne K (.ref (cs.getD i 0)) (.type "AttributeError") = some false
  r13 : hasOwn i = true → OexC K (cs.getD i 0)
  r14 : hasOwn i = false → PySem.W.excIn K (cs.getD i 0) PySem.HandSPX.veTail "ValueError.__new__" = true
theorem rowB_ok {K : PySem.W.Frag} {cs : List Addr} {i : Nat} (h : rowB K cs i = true) : RowOk K cs i := by
  obtain ⟨h1, h⟩ := two h
  obtain ⟨h2, h⟩ := two h
  obtain ⟨h3, h⟩ := two h
  obtain ⟨h4, h⟩ := two h
  obtain ⟨h5, h⟩ := two h
  obtain ⟨h6, h⟩ := two h
  obtain ⟨h7, h⟩ := two h
  obtain ⟨h8, h⟩ := two h
  obtain ⟨h9, h⟩ := two h
  obtain ⟨h10, h⟩ := two h
  obtain ⟨h11, h⟩ := two h
  obtain ⟨h12, h13⟩ := two h
  refine ⟨excB_ok h1, xfB_ok h2, fun hi f hf => ?_, fun j hj => of_decide_eq_true (List.all_eq_true.mp h4 j (List.mem_range.mpr hj)), of_decide_eq_true h5, fun hi => ?_, of_decide_eq_true h7, of_decide_eq_true h8, of_decide_eq_true h9, of_decide_eq_true h10, of_decide_eq_true h11, of_decide_eq_true h12, fun e => ?_, fun e => ?_⟩
  · rcases Bool.or_eq_true_iff.mp h3 with z | z
    · exact absurd (of_decide_eq_true z) (by omega)
    · exact of_decide_eq_true (List.all_eq_true.mp z f hf)
  · rcases Bool.or_eq_true_iff.mp h6 with z | z
    · exact absurd (of_decide_eq_true z) (by omega)
    · exact of_decide_eq_true z
  · rw [if_pos e] at h13
    exact oexB_ok h13
  · rw [if_neg (by rw [e]; decide)] at h13
    exact h13
theorem chk_ok {K : PySem.W.Frag} {cs : List Addr} (h : chkB K cs = true) : Kit K cs ∧ (∀ i, hasOwn i = true ∧ i < 43 → OexC K (cs.getD i 0)) ∧ ∀ i, hasOwn i = false ∧ i < 43 → PySem.W.excIn K (cs.getD i 0) PySem.HandSPX.veTail "ValueError.__new__" = true := by
  have R : ∀ i, i < 43 → RowOk K cs i := fun i hi => rowB_ok (List.all_eq_true.mp h i (List.mem_range.mpr hi))
  exact ⟨⟨fun i hi => (R i hi).r1, fun i hi => (R i hi).r2, fun i hi => (R i (by omega)).r3 hi, fun i hi => (R i hi).r4, fun i hi => (R i hi).r5, fun i hi => (R i (by omega)).r6 hi, fun i hi => (R i hi).r7, fun i hi => (R i hi).r8, fun i hi => (R i hi).r9, fun i hi => (R i hi).r10, fun i hi => (R i hi).r11, fun i hi => (R i hi).r12⟩,
    fun i hi => (R i hi.2).r13 hi.1, fun i hi => (R i hi.2).r14 hi.1⟩
theorem fkw {K : PySem.W.Frag} {x qual : Str} {st : Stmt} {f : Addr} {fd : FuncData} {ps ks : List Str} (F : Fun K x qual st f fd)
    (h : ∀ (kV doc pm : Value) (an : Option Addr) (cdv ct a : Value) (ws : List Value), ws.length = ks.length → bindArgs (PySem.W.fnOf x qual (defArgs st) (defBody st) (defScope st) .none kV doc pm an cdv ct) ⟨[a], ks.zip ws⟩ = pure (ps.zip (a :: ws.reverse))) :
    ∀ (s : Shared) (a : Value) (ws : List Value), ws.length = ks.length → BindsTo s fd ⟨[a], ks.zip ws⟩ (ps.zip (a :: ws.reverse)) := by
  obtain ⟨oc, od, kV, doc, pm, an, cdv, ct, osl, rfl, lk, hcd⟩ := F.ex
  exact fun s a ws hl => .of_eq (h kV doc pm an cdv ct a ws hl)
section
variable {P : Program} {w : World} {K : PySem.W.Frag} {mg : Str → Option Value} {base h : Heap}
theorem er_BadRule {C : Addr} {g : Addr} {od an : Option Addr} {sl : Array (Option Value)} {oc kV dc pm cd ct : Value} (X : K.In h) (G : h.Ns mainGlobals mg) (b : PySem.W.nsIn K mainGlobals "BadRule" = some (some (.ref C))) (i : PySem.W.findIn K (.ref C) "__init__" = some (some (.ref g))) (l : K.lookup g = some ⟨oc, od, .func (PySem.W.fnOf "__init__" "BadRule.__init__" (defArgs s_BadRule_init) (defBody s_BadRule_init) (defScope s_BadRule_init) .none kV dc pm an cd ct), sl⟩) (c : PySem.W.codeIn K cd "BadRule.__init__" = true) (k : PySem.W.keepIn K (.ref g) = true) (t : PySem.W.typeIn K (.ref g) = some (.type "function")) (T : OexC K C) (n : ∀ f ∈ FLD, PySem.W.findIn K (.ref C) f = some none) : ErN P w K mg base "BadRule" C ["part"] :=
  have D : Fun K "__init__" "BadRule.__init__" s_BadRule_init g _ := fun_mk (st := s_BadRule_init) l c k
  ⟨⟨g, _, ⟨T, i, t, PySem.W.mg_of X G b, ok_BadRule D T n⟩, D.binds (fun _ _ _ _ _ _ us hl => match us, hl with | [_, _], _ => rfl), fkw D (fun _ _ _ _ _ _ _ ws hl => match ws, hl with | [_], _ => rfl)⟩⟩
theorem er_BadPast {C : Addr} {g : Addr} {od an : Option Addr} {sl : Array (Option Value)} {oc kV dc pm cd ct : Value} (X : K.In h) (G : h.Ns mainGlobals mg) (b : PySem.W.nsIn K mainGlobals "BadPast" = some (some (.ref C))) (i : PySem.W.findIn K (.ref C) "__init__" = some (some (.ref g))) (l : K.lookup g = some ⟨oc, od, .func (PySem.W.fnOf "__init__" "BadPast.__init__" (defArgs s_BadPast_init) (defBody s_BadPast_init) (defScope s_BadPast_init) .none kV dc pm an cd ct), sl⟩) (c : PySem.W.codeIn K cd "BadPast.__init__" = true) (k : PySem.W.keepIn K (.ref g) = true) (t : PySem.W.typeIn K (.ref g) = some (.type "function")) (T : OexC K C) (n : ∀ f ∈ FLD, PySem.W.findIn K (.ref C) f = some none) : ErN P w K mg base "BadPast" C ["part"] :=
  have D : Fun K "__init__" "BadPast.__init__" s_BadPast_init g _ := fun_mk (st := s_BadPast_init) l c k
  ⟨⟨g, _, ⟨T, i, t, PySem.W.mg_of X G b, ok_BadPast D T n⟩, D.binds (fun _ _ _ _ _ _ us hl => match us, hl with | [_, _], _ => rfl), fkw D (fun _ _ _ _ _ _ _ ws hl => match ws, hl with | [_], _ => rfl)⟩⟩
theorem er_BadQuestion {C : Addr} {g : Addr} {od an : Option Addr} {sl : Array (Option Value)} {oc kV dc pm cd ct : Value} (X : K.In h) (G : h.Ns mainGlobals mg) (b : PySem.W.nsIn K mainGlobals "BadQuestion" = some (some (.ref C))) (i : PySem.W.findIn K (.ref C) "__init__" = some (some (.ref g))) (l : K.lookup g = some ⟨oc, od, .func (PySem.W.fnOf "__init__" "BadQuestion.__init__" (defArgs s_BadQuestion_init) (defBody s_BadQuestion_init) (defScope s_BadQuestion_init) .none kV dc pm an cd ct), sl⟩) (c : PySem.W.codeIn K cd "BadQuestion.__init__" = true) (k : PySem.W.keepIn K (.ref g) = true) (t : PySem.W.typeIn K (.ref g) = some (.type "function")) (T : OexC K C) (n : ∀ f ∈ FLD, PySem.W.findIn K (.ref C) f = some none) : ErN P w K mg base "BadQuestion" C ["part"] :=
  have D : Fun K "__init__" "BadQuestion.__init__" s_BadQuestion_init g _ := fun_mk (st := s_BadQuestion_init) l c k
  ⟨⟨g, _, ⟨T, i, t, PySem.W.mg_of X G b, ok_BadQuestion D T n⟩, D.binds (fun _ _ _ _ _ _ us hl => match us, hl with | [_, _], _ => rfl), fkw D (fun _ _ _ _ _ _ _ ws hl => match ws, hl with | [_], _ => rfl)⟩⟩
theorem er_BadStock {C : Addr} {g : Addr} {od an : Option Addr} {sl : Array (Option Value)} {oc kV dc pm cd ct : Value} (X : K.In h) (G : h.Ns mainGlobals mg) (b : PySem.W.nsIn K mainGlobals "BadStock" = some (some (.ref C))) (i : PySem.W.findIn K (.ref C) "__init__" = some (some (.ref g))) (l : K.lookup g = some ⟨oc, od, .func (PySem.W.fnOf "__init__" "BadStock.__init__" (defArgs s_BadStock_init) (defBody s_BadStock_init) (defScope s_BadStock_init) .none kV dc pm an cd ct), sl⟩) (c : PySem.W.codeIn K cd "BadStock.__init__" = true) (k : PySem.W.keepIn K (.ref g) = true) (t : PySem.W.typeIn K (.ref g) = some (.type "function")) (T : OexC K C) (n : ∀ f ∈ FLD, PySem.W.findIn K (.ref C) f = some none) : ErN P w K mg base "BadStock" C ["part"] :=
  have D : Fun K "__init__" "BadStock.__init__" s_BadStock_init g _ := fun_mk (st := s_BadStock_init) l c k
  ⟨⟨g, _, ⟨T, i, t, PySem.W.mg_of X G b, ok_BadStock D T n⟩, D.binds (fun _ _ _ _ _ _ us hl => match us, hl with | [_, _], _ => rfl), fkw D (fun _ _ _ _ _ _ _ ws hl => match ws, hl with | [_], _ => rfl)⟩⟩
theorem er_BadWish {C : Addr} {g : Addr} {od an : Option Addr} {sl : Array (Option Value)} {oc kV dc pm cd ct : Value} (X : K.In h) (G : h.Ns mainGlobals mg) (b : PySem.W.nsIn K mainGlobals "BadWish" = some (some (.ref C))) (i : PySem.W.findIn K (.ref C) "__init__" = some (some (.ref g))) (l : K.lookup g = some ⟨oc, od, .func (PySem.W.fnOf "__init__" "BadWish.__init__" (defArgs s_BadWish_init) (defBody s_BadWish_init) (defScope s_BadWish_init) .none kV dc pm an cd ct), sl⟩) (c : PySem.W.codeIn K cd "BadWish.__init__" = true) (k : PySem.W.keepIn K (.ref g) = true) (t : PySem.W.typeIn K (.ref g) = some (.type "function")) (T : OexC K C) (n : ∀ f ∈ FLD, PySem.W.findIn K (.ref C) f = some none) : ErN P w K mg base "BadWish" C ["part"] :=
  have D : Fun K "__init__" "BadWish.__init__" s_BadWish_init g _ := fun_mk (st := s_BadWish_init) l c k
  ⟨⟨g, _, ⟨T, i, t, PySem.W.mg_of X G b, ok_BadWish D T n⟩, D.binds (fun _ _ _ _ _ _ us hl => match us, hl with | [_, _], _ => rfl), fkw D (fun _ _ _ _ _ _ _ ws hl => match ws, hl with | [_], _ => rfl)⟩⟩
theorem er_BadCase {C : Addr} {g : Addr} {od an : Option Addr} {sl : Array (Option Value)} {oc kV dc pm cd ct : Value} (X : K.In h) (G : h.Ns mainGlobals mg) (b : PySem.W.nsIn K mainGlobals "BadCase" = some (some (.ref C))) (i : PySem.W.findIn K (.ref C) "__init__" = some (some (.ref g))) (l : K.lookup g = some ⟨oc, od, .func (PySem.W.fnOf "__init__" "BadCase.__init__" (defArgs s_BadCase_init) (defBody s_BadCase_init) (defScope s_BadCase_init) .none kV dc pm an cd ct), sl⟩) (c : PySem.W.codeIn K cd "BadCase.__init__" = true) (k : PySem.W.keepIn K (.ref g) = true) (t : PySem.W.typeIn K (.ref g) = some (.type "function")) (T : OexC K C) (n : ∀ f ∈ FLD, PySem.W.findIn K (.ref C) f = some none) : ErN P w K mg base "BadCase" C ["part"] :=
  have D : Fun K "__init__" "BadCase.__init__" s_BadCase_init g _ := fun_mk (st := s_BadCase_init) l c k
  ⟨⟨g, _, ⟨T, i, t, PySem.W.mg_of X G b, ok_BadCase D T n⟩, D.binds (fun _ _ _ _ _ _ us hl => match us, hl with | [_, _], _ => rfl), fkw D (fun _ _ _ _ _ _ _ ws hl => match ws, hl with | [_], _ => rfl)⟩⟩
theorem er_BadSituation {C : Addr} {g : Addr} {od an : Option Addr} {sl : Array (Option Value)} {oc kV dc pm cd ct : Value} (X : K.In h) (G : h.Ns mainGlobals mg) (b : PySem.W.nsIn K mainGlobals "BadSituation" = some (some (.ref C))) (i : PySem.W.findIn K (.ref C) "__init__" = some (some (.ref g))) (l : K.lookup g = some ⟨oc, od, .func (PySem.W.fnOf "__init__" "BadSituation.__init__" (defArgs s_BadSituation_init) (defBody s_BadSituation_init) (defScope s_BadSituation_init) .none kV dc pm an cd ct), sl⟩) (c : PySem.W.codeIn K cd "BadSituation.__init__" = true) (k : PySem.W.keepIn K (.ref g) = true) (t : PySem.W.typeIn K (.ref g) = some (.type "function")) (T : OexC K C) (n : ∀ f ∈ FLD, PySem.W.findIn K (.ref C) f = some none) : ErN P w K mg base "BadSituation" C ["part"] :=
  have D : Fun K "__init__" "BadSituation.__init__" s_BadSituation_init g _ := fun_mk (st := s_BadSituation_init) l c k
  ⟨⟨g, _, ⟨T, i, t, PySem.W.mg_of X G b, ok_BadSituation D T n⟩, D.binds (fun _ _ _ _ _ _ us hl => match us, hl with | [_, _], _ => rfl), fkw D (fun _ _ _ _ _ _ _ ws hl => match ws, hl with | [_], _ => rfl)⟩⟩
theorem er_BadHearing {C : Addr} {g : Addr} {od an : Option Addr} {sl : Array (Option Value)} {oc kV dc pm cd ct : Value} (X : K.In h) (G : h.Ns mainGlobals mg) (b : PySem.W.nsIn K mainGlobals "BadHearing" = some (some (.ref C))) (i : PySem.W.findIn K (.ref C) "__init__" = some (some (.ref g))) (l : K.lookup g = some ⟨oc, od, .func (PySem.W.fnOf "__init__" "BadHearing.__init__" (defArgs s_BadHearing_init) (defBody s_BadHearing_init) (defScope s_BadHearing_init) .none kV dc pm an cd ct), sl⟩) (c : PySem.W.codeIn K cd "BadHearing.__init__" = true) (k : PySem.W.keepIn K (.ref g) = true) (t : PySem.W.typeIn K (.ref g) = some (.type "function")) (T : OexC K C) (n : ∀ f ∈ FLD, PySem.W.findIn K (.ref C) f = some none) : ErN P w K mg base "BadHearing" C ["part"] :=
  have D : Fun K "__init__" "BadHearing.__init__" s_BadHearing_init g _ := fun_mk (st := s_BadHearing_init) l c k
  ⟨⟨g, _, ⟨T, i, t, PySem.W.mg_of X G b, ok_BadHearing D T n⟩, D.binds (fun _ _ _ _ _ _ us hl => match us, hl with | [_, _], _ => rfl), fkw D (fun _ _ _ _ _ _ _ ws hl => match ws, hl with | [_], _ => rfl)⟩⟩
theorem er_BadList {C : Addr} {g : Addr} {od an : Option Addr} {sl : Array (Option Value)} {oc kV dc pm cd ct : Value} (X : K.In h) (G : h.Ns mainGlobals mg) (b : PySem.W.nsIn K mainGlobals "BadList" = some (some (.ref C))) (i : PySem.W.findIn K (.ref C) "__init__" = some (some (.ref g))) (l : K.lookup g = some ⟨oc, od, .func (PySem.W.fnOf "__init__" "BadList.__init__" (defArgs s_BadList_init) (defBody s_BadList_init) (defScope s_BadList_init) .none kV dc pm an cd ct), sl⟩) (c : PySem.W.codeIn K cd "BadList.__init__" = true) (k : PySem.W.keepIn K (.ref g) = true) (t : PySem.W.typeIn K (.ref g) = some (.type "function")) (T : OexC K C) (n : ∀ f ∈ FLD, PySem.W.findIn K (.ref C) f = some none) : ErN P w K mg base "BadList" C ["part"] :=
  have D : Fun K "__init__" "BadList.__init__" s_BadList_init g _ := fun_mk (st := s_BadList_init) l c k
  ⟨⟨g, _, ⟨T, i, t, PySem.W.mg_of X G b, ok_BadList D T n⟩, D.binds (fun _ _ _ _ _ _ us hl => match us, hl with | [_, _], _ => rfl), fkw D (fun _ _ _ _ _ _ _ ws hl => match ws, hl with | [_], _ => rfl)⟩⟩
theorem er_BadPlan {C : Addr} {g : Addr} {od an : Option Addr} {sl : Array (Option Value)} {oc kV dc pm cd ct : Value} (X : K.In h) (G : h.Ns mainGlobals mg) (b : PySem.W.nsIn K mainGlobals "BadPlan" = some (some (.ref C))) (i : PySem.W.findIn K (.ref C) "__init__" = some (some (.ref g))) (l : K.lookup g = some ⟨oc, od, .func (PySem.W.fnOf "__init__" "BadPlan.__init__" (defArgs s_BadPlan_init) (defBody s_BadPlan_init) (defScope s_BadPlan_init) .none kV dc pm an cd ct), sl⟩) (c : PySem.W.codeIn K cd "BadPlan.__init__" = true) (k : PySem.W.keepIn K (.ref g) = true) (t : PySem.W.typeIn K (.ref g) = some (.type "function")) (T : OexC K C) (n : ∀ f ∈ FLD, PySem.W.findIn K (.ref C) f = some none) : ErN P w K mg base "BadPlan" C ["part"] :=
  have D : Fun K "__init__" "BadPlan.__init__" s_BadPlan_init g _ := fun_mk (st := s_BadPlan_init) l c k
  ⟨⟨g, _, ⟨T, i, t, PySem.W.mg_of X G b, ok_BadPlan D T n⟩, D.binds (fun _ _ _ _ _ _ us hl => match us, hl with | [_, _], _ => rfl), fkw D (fun _ _ _ _ _ _ _ ws hl => match ws, hl with | [_], _ => rfl)⟩⟩
theorem er_BadPrices {C : Addr} {g : Addr} {od an : Option Addr} {sl : Array (Option Value)} {oc kV dc pm cd ct : Value} (X : K.In h) (G : h.Ns mainGlobals mg) (b : PySem.W.nsIn K mainGlobals "BadPrices" = some (some (.ref C))) (i : PySem.W.findIn K (.ref C) "__init__" = some (some (.ref g))) (l : K.lookup g = some ⟨oc, od, .func (PySem.W.fnOf "__init__" "BadPrices.__init__" (defArgs s_BadPrices_init) (defBody s_BadPrices_init) (defScope s_BadPrices_init) .none kV dc pm an cd ct), sl⟩) (c : PySem.W.codeIn K cd "BadPrices.__init__" = true) (k : PySem.W.keepIn K (.ref g) = true) (t : PySem.W.typeIn K (.ref g) = some (.type "function")) (T : OexC K C) (n : ∀ f ∈ FLD, PySem.W.findIn K (.ref C) f = some none) : ErN P w K mg base "BadPrices" C ["part"] :=
  have D : Fun K "__init__" "BadPrices.__init__" s_BadPrices_init g _ := fun_mk (st := s_BadPrices_init) l c k
  ⟨⟨g, _, ⟨T, i, t, PySem.W.mg_of X G b, ok_BadPrices D T n⟩, D.binds (fun _ _ _ _ _ _ us hl => match us, hl with | [_, _], _ => rfl), fkw D (fun _ _ _ _ _ _ _ ws hl => match ws, hl with | [_], _ => rfl)⟩⟩
theorem er_BadBars {C : Addr} {g : Addr} {od an : Option Addr} {sl : Array (Option Value)} {oc kV dc pm cd ct : Value} (X : K.In h) (G : h.Ns mainGlobals mg) (b : PySem.W.nsIn K mainGlobals "BadBars" = some (some (.ref C))) (i : PySem.W.findIn K (.ref C) "__init__" = some (some (.ref g))) (l : K.lookup g = some ⟨oc, od, .func (PySem.W.fnOf "__init__" "BadBars.__init__" (defArgs s_BadBars_init) (defBody s_BadBars_init) (defScope s_BadBars_init) .none kV dc pm an cd ct), sl⟩) (c : PySem.W.codeIn K cd "BadBars.__init__" = true) (k : PySem.W.keepIn K (.ref g) = true) (t : PySem.W.typeIn K (.ref g) = some (.type "function")) (T : OexC K C) (n : ∀ f ∈ FLD, PySem.W.findIn K (.ref C) f = some none) : ErN P w K mg base "BadBars" C ["part"] :=
  have D : Fun K "__init__" "BadBars.__init__" s_BadBars_init g _ := fun_mk (st := s_BadBars_init) l c k
  ⟨⟨g, _, ⟨T, i, t, PySem.W.mg_of X G b, ok_BadBars D T n⟩, D.binds (fun _ _ _ _ _ _ us hl => match us, hl with | [_, _], _ => rfl), fkw D (fun _ _ _ _ _ _ _ ws hl => match ws, hl with | [_], _ => rfl)⟩⟩
theorem er_BadEvening {C : Addr} {g : Addr} {od an : Option Addr} {sl : Array (Option Value)} {oc kV dc pm cd ct : Value} (X : K.In h) (G : h.Ns mainGlobals mg) (b : PySem.W.nsIn K mainGlobals "BadEvening" = some (some (.ref C))) (i : PySem.W.findIn K (.ref C) "__init__" = some (some (.ref g))) (l : K.lookup g = some ⟨oc, od, .func (PySem.W.fnOf "__init__" "BadEvening.__init__" (defArgs s_BadEvening_init) (defBody s_BadEvening_init) (defScope s_BadEvening_init) .none kV dc pm an cd ct), sl⟩) (c : PySem.W.codeIn K cd "BadEvening.__init__" = true) (k : PySem.W.keepIn K (.ref g) = true) (t : PySem.W.typeIn K (.ref g) = some (.type "function")) (T : OexC K C) (n : ∀ f ∈ FLD, PySem.W.findIn K (.ref C) f = some none) : ErN P w K mg base "BadEvening" C ["part"] :=
  have D : Fun K "__init__" "BadEvening.__init__" s_BadEvening_init g _ := fun_mk (st := s_BadEvening_init) l c k
  ⟨⟨g, _, ⟨T, i, t, PySem.W.mg_of X G b, ok_BadEvening D T n⟩, D.binds (fun _ _ _ _ _ _ us hl => match us, hl with | [_, _], _ => rfl), fkw D (fun _ _ _ _ _ _ _ ws hl => match ws, hl with | [_], _ => rfl)⟩⟩
theorem er_BadStory {C : Addr} {g : Addr} {od an : Option Addr} {sl : Array (Option Value)} {oc kV dc pm cd ct : Value} (X : K.In h) (G : h.Ns mainGlobals mg) (b : PySem.W.nsIn K mainGlobals "BadStory" = some (some (.ref C))) (i : PySem.W.findIn K (.ref C) "__init__" = some (some (.ref g))) (l : K.lookup g = some ⟨oc, od, .func (PySem.W.fnOf "__init__" "BadStory.__init__" (defArgs s_BadStory_init) (defBody s_BadStory_init) (defScope s_BadStory_init) .none kV dc pm an cd ct), sl⟩) (c : PySem.W.codeIn K cd "BadStory.__init__" = true) (k : PySem.W.keepIn K (.ref g) = true) (t : PySem.W.typeIn K (.ref g) = some (.type "function")) (T : OexC K C) (n : ∀ f ∈ FLD, PySem.W.findIn K (.ref C) f = some none) : ErN P w K mg base "BadStory" C ["part"] :=
  have D : Fun K "__init__" "BadStory.__init__" s_BadStory_init g _ := fun_mk (st := s_BadStory_init) l c k
  ⟨⟨g, _, ⟨T, i, t, PySem.W.mg_of X G b, ok_BadStory D T n⟩, D.binds (fun _ _ _ _ _ _ us hl => match us, hl with | [_, _], _ => rfl), fkw D (fun _ _ _ _ _ _ _ ws hl => match ws, hl with | [_], _ => rfl)⟩⟩
theorem er_BadNumber {C : Addr} {g : Addr} {od an : Option Addr} {sl : Array (Option Value)} {oc kV dc pm cd ct : Value} (X : K.In h) (G : h.Ns mainGlobals mg) (b : PySem.W.nsIn K mainGlobals "BadNumber" = some (some (.ref C))) (i : PySem.W.findIn K (.ref C) "__init__" = some (some (.ref g))) (l : K.lookup g = some ⟨oc, od, .func (PySem.W.fnOf "__init__" "BadNumber.__init__" (defArgs s_BadNumber_init) (defBody s_BadNumber_init) (defScope s_BadNumber_init) .none kV dc pm an cd ct), sl⟩) (c : PySem.W.codeIn K cd "BadNumber.__init__" = true) (k : PySem.W.keepIn K (.ref g) = true) (t : PySem.W.typeIn K (.ref g) = some (.type "function")) (T : OexC K C) (n : ∀ f ∈ FLD, PySem.W.findIn K (.ref C) f = some none) : ErN P w K mg base "BadNumber" C ["part"] :=
  have D : Fun K "__init__" "BadNumber.__init__" s_BadNumber_init g _ := fun_mk (st := s_BadNumber_init) l c k
  ⟨⟨g, _, ⟨T, i, t, PySem.W.mg_of X G b, ok_BadNumber D T n⟩, D.binds (fun _ _ _ _ _ _ us hl => match us, hl with | [_, _], _ => rfl), fkw D (fun _ _ _ _ _ _ _ ws hl => match ws, hl with | [_], _ => rfl)⟩⟩
theorem er_BadPaper {C : Addr} {g : Addr} {od an : Option Addr} {sl : Array (Option Value)} {oc kV dc pm cd ct : Value} (X : K.In h) (G : h.Ns mainGlobals mg) (b : PySem.W.nsIn K mainGlobals "BadPaper" = some (some (.ref C))) (i : PySem.W.findIn K (.ref C) "__init__" = some (some (.ref g))) (l : K.lookup g = some ⟨oc, od, .func (PySem.W.fnOf "__init__" "BadPaper.__init__" (defArgs s_BadPaper_init) (defBody s_BadPaper_init) (defScope s_BadPaper_init) .none kV dc pm an cd ct), sl⟩) (c : PySem.W.codeIn K cd "BadPaper.__init__" = true) (k : PySem.W.keepIn K (.ref g) = true) (t : PySem.W.typeIn K (.ref g) = some (.type "function")) (T : OexC K C) (n : ∀ f ∈ FLD, PySem.W.findIn K (.ref C) f = some none) : ErN P w K mg base "BadPaper" C ["part"] :=
  have D : Fun K "__init__" "BadPaper.__init__" s_BadPaper_init g _ := fun_mk (st := s_BadPaper_init) l c k
  ⟨⟨g, _, ⟨T, i, t, PySem.W.mg_of X G b, ok_BadPaper D T n⟩, D.binds (fun _ _ _ _ _ _ us hl => match us, hl with | [_, _], _ => rfl), fkw D (fun _ _ _ _ _ _ _ ws hl => match ws, hl with | [_], _ => rfl)⟩⟩
theorem er_NoThing {C : Addr} {g : Addr} {od an : Option Addr} {sl : Array (Option Value)} {oc kV dc pm cd ct : Value} (X : K.In h) (G : h.Ns mainGlobals mg) (b : PySem.W.nsIn K mainGlobals "NoThing" = some (some (.ref C))) (i : PySem.W.findIn K (.ref C) "__init__" = some (some (.ref g))) (l : K.lookup g = some ⟨oc, od, .func (PySem.W.fnOf "__init__" "NoThing.__init__" (defArgs s_NoThing_init) (defBody s_NoThing_init) (defScope s_NoThing_init) .none kV dc pm an cd ct), sl⟩) (c : PySem.W.codeIn K cd "NoThing.__init__" = true) (k : PySem.W.keepIn K (.ref g) = true) (t : PySem.W.typeIn K (.ref g) = some (.type "function")) (T : OexC K C) (n : ∀ f ∈ FLD, PySem.W.findIn K (.ref C) f = some none) : ErN P w K mg base "NoThing" C ["value"] :=
  have D : Fun K "__init__" "NoThing.__init__" s_NoThing_init g _ := fun_mk (st := s_NoThing_init) l c k
  ⟨⟨g, _, ⟨T, i, t, PySem.W.mg_of X G b, ok_NoThing D T n⟩, D.binds (fun _ _ _ _ _ _ us hl => match us, hl with | [_, _], _ => rfl), fkw D (fun _ _ _ _ _ _ _ ws hl => match ws, hl with | [_], _ => rfl)⟩⟩
theorem er_NoAnswerer {C : Addr} {g : Addr} {od an : Option Addr} {sl : Array (Option Value)} {oc kV dc pm cd ct : Value} (X : K.In h) (G : h.Ns mainGlobals mg) (b : PySem.W.nsIn K mainGlobals "NoAnswerer" = some (some (.ref C))) (i : PySem.W.findIn K (.ref C) "__init__" = some (some (.ref g))) (l : K.lookup g = some ⟨oc, od, .func (PySem.W.fnOf "__init__" "NoAnswerer.__init__" (defArgs s_NoAnswerer_init) (defBody s_NoAnswerer_init) (defScope s_NoAnswerer_init) .none kV dc pm an cd ct), sl⟩) (c : PySem.W.codeIn K cd "NoAnswerer.__init__" = true) (k : PySem.W.keepIn K (.ref g) = true) (t : PySem.W.typeIn K (.ref g) = some (.type "function")) (T : OexC K C) (n : ∀ f ∈ FLD, PySem.W.findIn K (.ref C) f = some none) : ErN P w K mg base "NoAnswerer" C ["value"] :=
  have D : Fun K "__init__" "NoAnswerer.__init__" s_NoAnswerer_init g _ := fun_mk (st := s_NoAnswerer_init) l c k
  ⟨⟨g, _, ⟨T, i, t, PySem.W.mg_of X G b, ok_NoAnswerer D T n⟩, D.binds (fun _ _ _ _ _ _ us hl => match us, hl with | [_, _], _ => rfl), fkw D (fun _ _ _ _ _ _ _ ws hl => match ws, hl with | [_], _ => rfl)⟩⟩
theorem er_NoHeap {C : Addr} {g : Addr} {od an : Option Addr} {sl : Array (Option Value)} {oc kV dc pm cd ct : Value} (X : K.In h) (G : h.Ns mainGlobals mg) (b : PySem.W.nsIn K mainGlobals "NoHeap" = some (some (.ref C))) (i : PySem.W.findIn K (.ref C) "__init__" = some (some (.ref g))) (l : K.lookup g = some ⟨oc, od, .func (PySem.W.fnOf "__init__" "NoHeap.__init__" (defArgs s_NoHeap_init) (defBody s_NoHeap_init) (defScope s_NoHeap_init) .none kV dc pm an cd ct), sl⟩) (c : PySem.W.codeIn K cd "NoHeap.__init__" = true) (k : PySem.W.keepIn K (.ref g) = true) (t : PySem.W.typeIn K (.ref g) = some (.type "function")) (T : OexC K C) (n : ∀ f ∈ FLD, PySem.W.findIn K (.ref C) f = some none) : ErN P w K mg base "NoHeap" C ["value"] :=
  have D : Fun K "__init__" "NoHeap.__init__" s_NoHeap_init g _ := fun_mk (st := s_NoHeap_init) l c k
  ⟨⟨g, _, ⟨T, i, t, PySem.W.mg_of X G b, ok_NoHeap D T n⟩, D.binds (fun _ _ _ _ _ _ us hl => match us, hl with | [_, _], _ => rfl), fkw D (fun _ _ _ _ _ _ _ ws hl => match ws, hl with | [_], _ => rfl)⟩⟩
theorem er_NoStand {C : Addr} {g : Addr} {od an : Option Addr} {sl : Array (Option Value)} {oc kV dc pm cd ct : Value} (X : K.In h) (G : h.Ns mainGlobals mg) (b : PySem.W.nsIn K mainGlobals "NoStand" = some (some (.ref C))) (i : PySem.W.findIn K (.ref C) "__init__" = some (some (.ref g))) (l : K.lookup g = some ⟨oc, od, .func (PySem.W.fnOf "__init__" "NoStand.__init__" (defArgs s_NoStand_init) (defBody s_NoStand_init) (defScope s_NoStand_init) .none kV dc pm an cd ct), sl⟩) (c : PySem.W.codeIn K cd "NoStand.__init__" = true) (k : PySem.W.keepIn K (.ref g) = true) (t : PySem.W.typeIn K (.ref g) = some (.type "function")) (T : OexC K C) (n : ∀ f ∈ FLD, PySem.W.findIn K (.ref C) f = some none) : ErN P w K mg base "NoStand" C ["value"] :=
  have D : Fun K "__init__" "NoStand.__init__" s_NoStand_init g _ := fun_mk (st := s_NoStand_init) l c k
  ⟨⟨g, _, ⟨T, i, t, PySem.W.mg_of X G b, ok_NoStand D T n⟩, D.binds (fun _ _ _ _ _ _ us hl => match us, hl with | [_, _], _ => rfl), fkw D (fun _ _ _ _ _ _ _ ws hl => match ws, hl with | [_], _ => rfl)⟩⟩
theorem er_NoQuestion {C : Addr} {g : Addr} {od an : Option Addr} {sl : Array (Option Value)} {oc kV dc pm cd ct : Value} (X : K.In h) (G : h.Ns mainGlobals mg) (b : PySem.W.nsIn K mainGlobals "NoQuestion" = some (some (.ref C))) (i : PySem.W.findIn K (.ref C) "__init__" = some (some (.ref g))) (l : K.lookup g = some ⟨oc, od, .func (PySem.W.fnOf "__init__" "NoQuestion.__init__" (defArgs s_NoQuestion_init) (defBody s_NoQuestion_init) (defScope s_NoQuestion_init) .none kV dc pm an cd ct), sl⟩) (c : PySem.W.codeIn K cd "NoQuestion.__init__" = true) (k : PySem.W.keepIn K (.ref g) = true) (t : PySem.W.typeIn K (.ref g) = some (.type "function")) (T : OexC K C) (n : ∀ f ∈ FLD, PySem.W.findIn K (.ref C) f = some none) : ErN P w K mg base "NoQuestion" C ["value"] :=
  have D : Fun K "__init__" "NoQuestion.__init__" s_NoQuestion_init g _ := fun_mk (st := s_NoQuestion_init) l c k
  ⟨⟨g, _, ⟨T, i, t, PySem.W.mg_of X G b, ok_NoQuestion D T n⟩, D.binds (fun _ _ _ _ _ _ us hl => match us, hl with | [_, _], _ => rfl), fkw D (fun _ _ _ _ _ _ _ ws hl => match ws, hl with | [_], _ => rfl)⟩⟩
theorem er_NoAsked {C : Addr} {g : Addr} {od an : Option Addr} {sl : Array (Option Value)} {oc kV dc pm cd ct : Value} (X : K.In h) (G : h.Ns mainGlobals mg) (b : PySem.W.nsIn K mainGlobals "NoAsked" = some (some (.ref C))) (i : PySem.W.findIn K (.ref C) "__init__" = some (some (.ref g))) (l : K.lookup g = some ⟨oc, od, .func (PySem.W.fnOf "__init__" "NoAsked.__init__" (defArgs s_NoAsked_init) (defBody s_NoAsked_init) (defScope s_NoAsked_init) .none kV dc pm an cd ct), sl⟩) (c : PySem.W.codeIn K cd "NoAsked.__init__" = true) (k : PySem.W.keepIn K (.ref g) = true) (t : PySem.W.typeIn K (.ref g) = some (.type "function")) (T : OexC K C) (n : ∀ f ∈ FLD, PySem.W.findIn K (.ref C) f = some none) : ErN P w K mg base "NoAsked" C ["value"] :=
  have D : Fun K "__init__" "NoAsked.__init__" s_NoAsked_init g _ := fun_mk (st := s_NoAsked_init) l c k
  ⟨⟨g, _, ⟨T, i, t, PySem.W.mg_of X G b, ok_NoAsked D T n⟩, D.binds (fun _ _ _ _ _ _ us hl => match us, hl with | [_, _], _ => rfl), fkw D (fun _ _ _ _ _ _ _ ws hl => match ws, hl with | [_], _ => rfl)⟩⟩
theorem er_NoName {C : Addr} {g : Addr} {od an : Option Addr} {sl : Array (Option Value)} {oc kV dc pm cd ct : Value} (X : K.In h) (G : h.Ns mainGlobals mg) (b : PySem.W.nsIn K mainGlobals "NoName" = some (some (.ref C))) (i : PySem.W.findIn K (.ref C) "__init__" = some (some (.ref g))) (l : K.lookup g = some ⟨oc, od, .func (PySem.W.fnOf "__init__" "NoName.__init__" (defArgs s_NoName_init) (defBody s_NoName_init) (defScope s_NoName_init) .none kV dc pm an cd ct), sl⟩) (c : PySem.W.codeIn K cd "NoName.__init__" = true) (k : PySem.W.keepIn K (.ref g) = true) (t : PySem.W.typeIn K (.ref g) = some (.type "function")) (T : OexC K C) (n : ∀ f ∈ FLD, PySem.W.findIn K (.ref C) f = some none) : ErN P w K mg base "NoName" C ["value"] :=
  have D : Fun K "__init__" "NoName.__init__" s_NoName_init g _ := fun_mk (st := s_NoName_init) l c k
  ⟨⟨g, _, ⟨T, i, t, PySem.W.mg_of X G b, ok_NoName D T n⟩, D.binds (fun _ _ _ _ _ _ us hl => match us, hl with | [_, _], _ => rfl), fkw D (fun _ _ _ _ _ _ _ ws hl => match ws, hl with | [_], _ => rfl)⟩⟩
theorem er_Twice {C : Addr} {g : Addr} {od an : Option Addr} {sl : Array (Option Value)} {oc kV dc pm cd ct : Value} (X : K.In h) (G : h.Ns mainGlobals mg) (b : PySem.W.nsIn K mainGlobals "Twice" = some (some (.ref C))) (i : PySem.W.findIn K (.ref C) "__init__" = some (some (.ref g))) (l : K.lookup g = some ⟨oc, od, .func (PySem.W.fnOf "__init__" "Twice.__init__" (defArgs s_Twice_init) (defBody s_Twice_init) (defScope s_Twice_init) .none kV dc pm an cd ct), sl⟩) (c : PySem.W.codeIn K cd "Twice.__init__" = true) (k : PySem.W.keepIn K (.ref g) = true) (t : PySem.W.typeIn K (.ref g) = some (.type "function")) (T : OexC K C) (n : ∀ f ∈ FLD, PySem.W.findIn K (.ref C) f = some none) : ErN P w K mg base "Twice" C ["value"] :=
  have D : Fun K "__init__" "Twice.__init__" s_Twice_init g _ := fun_mk (st := s_Twice_init) l c k
  ⟨⟨g, _, ⟨T, i, t, PySem.W.mg_of X G b, ok_Twice D T n⟩, D.binds (fun _ _ _ _ _ _ us hl => match us, hl with | [_, _], _ => rfl), fkw D (fun _ _ _ _ _ _ _ ws hl => match ws, hl with | [_], _ => rfl)⟩⟩
theorem er_Unlike {C : Addr} {g : Addr} {od an : Option Addr} {sl : Array (Option Value)} {oc kV dc pm cd ct : Value} (X : K.In h) (G : h.Ns mainGlobals mg) (b : PySem.W.nsIn K mainGlobals "Unlike" = some (some (.ref C))) (i : PySem.W.findIn K (.ref C) "__init__" = some (some (.ref g))) (l : K.lookup g = some ⟨oc, od, .func (PySem.W.fnOf "__init__" "Unlike.__init__" (defArgs s_Unlike_init) (defBody s_Unlike_init) (defScope s_Unlike_init) .none kV dc pm an cd ct), sl⟩) (c : PySem.W.codeIn K cd "Unlike.__init__" = true) (k : PySem.W.keepIn K (.ref g) = true) (t : PySem.W.typeIn K (.ref g) = some (.type "function")) (T : OexC K C) (n : ∀ f ∈ FLD, PySem.W.findIn K (.ref C) f = some none) : ErN P w K mg base "Unlike" C ["what"] :=
  have D : Fun K "__init__" "Unlike.__init__" s_Unlike_init g _ := fun_mk (st := s_Unlike_init) l c k
  ⟨⟨g, _, ⟨T, i, t, PySem.W.mg_of X G b, ok_Unlike D T n⟩, D.binds (fun _ _ _ _ _ _ us hl => match us, hl with | [_, _], _ => rfl), fkw D (fun _ _ _ _ _ _ _ ws hl => match ws, hl with | [_], _ => rfl)⟩⟩
theorem er_Barred {C : Addr} {g : Addr} {od an : Option Addr} {sl : Array (Option Value)} {oc kV dc pm cd ct : Value} (X : K.In h) (G : h.Ns mainGlobals mg) (b : PySem.W.nsIn K mainGlobals "Barred" = some (some (.ref C))) (i : PySem.W.findIn K (.ref C) "__init__" = some (some (.ref g))) (l : K.lookup g = some ⟨oc, od, .func (PySem.W.fnOf "__init__" "Barred.__init__" (defArgs s_Barred_init) (defBody s_Barred_init) (defScope s_Barred_init) .none kV dc pm an cd ct), sl⟩) (c : PySem.W.codeIn K cd "Barred.__init__" = true) (k : PySem.W.keepIn K (.ref g) = true) (t : PySem.W.typeIn K (.ref g) = some (.type "function")) (T : OexC K C) (n : ∀ f ∈ FLD, PySem.W.findIn K (.ref C) f = some none) : ErN P w K mg base "Barred" C ["place"] :=
  have D : Fun K "__init__" "Barred.__init__" s_Barred_init g _ := fun_mk (st := s_Barred_init) l c k
  ⟨⟨g, _, ⟨T, i, t, PySem.W.mg_of X G b, ok_Barred D T n⟩, D.binds (fun _ _ _ _ _ _ us hl => match us, hl with | [_, _], _ => rfl), fkw D (fun _ _ _ _ _ _ _ ws hl => match ws, hl with | [_], _ => rfl)⟩⟩
theorem er_NotFading {C : Addr} {g : Addr} {od an : Option Addr} {sl : Array (Option Value)} {oc kV dc pm cd ct : Value} (X : K.In h) (G : h.Ns mainGlobals mg) (b : PySem.W.nsIn K mainGlobals "NotFading" = some (some (.ref C))) (i : PySem.W.findIn K (.ref C) "__init__" = some (some (.ref g))) (l : K.lookup g = some ⟨oc, od, .func (PySem.W.fnOf "__init__" "NotFading.__init__" (defArgs s_NotFading_init) (defBody s_NotFading_init) (defScope s_NotFading_init) .none kV dc pm an cd ct), sl⟩) (c : PySem.W.codeIn K cd "NotFading.__init__" = true) (k : PySem.W.keepIn K (.ref g) = true) (t : PySem.W.typeIn K (.ref g) = some (.type "function")) (T : OexC K C) (n : ∀ f ∈ FLD, PySem.W.findIn K (.ref C) f = some none) : ErN P w K mg base "NotFading" C ["thing"] :=
  have D : Fun K "__init__" "NotFading.__init__" s_NotFading_init g _ := fun_mk (st := s_NotFading_init) l c k
  ⟨⟨g, _, ⟨T, i, t, PySem.W.mg_of X G b, ok_NotFading D T n⟩, D.binds (fun _ _ _ _ _ _ us hl => match us, hl with | [_, _], _ => rfl), fkw D (fun _ _ _ _ _ _ _ ws hl => match ws, hl with | [_], _ => rfl)⟩⟩
theorem er_NotFreer {C : Addr} {g : Addr} {od an : Option Addr} {sl : Array (Option Value)} {oc kV dc pm cd ct : Value} (X : K.In h) (G : h.Ns mainGlobals mg) (b : PySem.W.nsIn K mainGlobals "NotFreer" = some (some (.ref C))) (i : PySem.W.findIn K (.ref C) "__init__" = some (some (.ref g))) (l : K.lookup g = some ⟨oc, od, .func (PySem.W.fnOf "__init__" "NotFreer.__init__" (defArgs s_NotFreer_init) (defBody s_NotFreer_init) (defScope s_NotFreer_init) .none kV dc pm an cd ct), sl⟩) (c : PySem.W.codeIn K cd "NotFreer.__init__" = true) (k : PySem.W.keepIn K (.ref g) = true) (t : PySem.W.typeIn K (.ref g) = some (.type "function")) (T : OexC K C) (n : ∀ f ∈ FLD, PySem.W.findIn K (.ref C) f = some none) : ErN P w K mg base "NotFreer" C ["thing"] :=
  have D : Fun K "__init__" "NotFreer.__init__" s_NotFreer_init g _ := fun_mk (st := s_NotFreer_init) l c k
  ⟨⟨g, _, ⟨T, i, t, PySem.W.mg_of X G b, ok_NotFreer D T n⟩, D.binds (fun _ _ _ _ _ _ us hl => match us, hl with | [_, _], _ => rfl), fkw D (fun _ _ _ _ _ _ _ ws hl => match ws, hl with | [_], _ => rfl)⟩⟩
theorem er_Late {C : Addr} {g : Addr} {od an : Option Addr} {sl : Array (Option Value)} {oc kV dc pm cd ct : Value} (X : K.In h) (G : h.Ns mainGlobals mg) (b : PySem.W.nsIn K mainGlobals "Late" = some (some (.ref C))) (i : PySem.W.findIn K (.ref C) "__init__" = some (some (.ref g))) (l : K.lookup g = some ⟨oc, od, .func (PySem.W.fnOf "__init__" "Late.__init__" (defArgs s_Late_init) (defBody s_Late_init) (defScope s_Late_init) .none kV dc pm an cd ct), sl⟩) (c : PySem.W.codeIn K cd "Late.__init__" = true) (k : PySem.W.keepIn K (.ref g) = true) (t : PySem.W.typeIn K (.ref g) = some (.type "function")) (T : OexC K C) (n : ∀ f ∈ FLD, PySem.W.findIn K (.ref C) f = some none) : ErN P w K mg base "Late" C ["asking"] :=
  have D : Fun K "__init__" "Late.__init__" s_Late_init g _ := fun_mk (st := s_Late_init) l c k
  ⟨⟨g, _, ⟨T, i, t, PySem.W.mg_of X G b, ok_Late D T n⟩, D.binds (fun _ _ _ _ _ _ us hl => match us, hl with | [_, _], _ => rfl), fkw D (fun _ _ _ _ _ _ _ ws hl => match ws, hl with | [_], _ => rfl)⟩⟩
theorem er_Unheard {C : Addr} {g : Addr} {od an : Option Addr} {sl : Array (Option Value)} {oc kV dc pm cd ct : Value} (X : K.In h) (G : h.Ns mainGlobals mg) (b : PySem.W.nsIn K mainGlobals "Unheard" = some (some (.ref C))) (i : PySem.W.findIn K (.ref C) "__init__" = some (some (.ref g))) (l : K.lookup g = some ⟨oc, od, .func (PySem.W.fnOf "__init__" "Unheard.__init__" (defArgs s_Unheard_init) (defBody s_Unheard_init) (defScope s_Unheard_init) .none kV dc pm an cd ct), sl⟩) (c : PySem.W.codeIn K cd "Unheard.__init__" = true) (k : PySem.W.keepIn K (.ref g) = true) (t : PySem.W.typeIn K (.ref g) = some (.type "function")) (T : OexC K C) (n : ∀ f ∈ FLD, PySem.W.findIn K (.ref C) f = some none) : ErN P w K mg base "Unheard" C ["asking"] :=
  have D : Fun K "__init__" "Unheard.__init__" s_Unheard_init g _ := fun_mk (st := s_Unheard_init) l c k
  ⟨⟨g, _, ⟨T, i, t, PySem.W.mg_of X G b, ok_Unheard D T n⟩, D.binds (fun _ _ _ _ _ _ us hl => match us, hl with | [_, _], _ => rfl), fkw D (fun _ _ _ _ _ _ _ ws hl => match ws, hl with | [_], _ => rfl)⟩⟩
theorem er_Heard {C : Addr} {g : Addr} {od an : Option Addr} {sl : Array (Option Value)} {oc kV dc pm cd ct : Value} (X : K.In h) (G : h.Ns mainGlobals mg) (b : PySem.W.nsIn K mainGlobals "Heard" = some (some (.ref C))) (i : PySem.W.findIn K (.ref C) "__init__" = some (some (.ref g))) (l : K.lookup g = some ⟨oc, od, .func (PySem.W.fnOf "__init__" "Heard.__init__" (defArgs s_Heard_init) (defBody s_Heard_init) (defScope s_Heard_init) .none kV dc pm an cd ct), sl⟩) (c : PySem.W.codeIn K cd "Heard.__init__" = true) (k : PySem.W.keepIn K (.ref g) = true) (t : PySem.W.typeIn K (.ref g) = some (.type "function")) (T : OexC K C) (n : ∀ f ∈ FLD, PySem.W.findIn K (.ref C) f = some none) : ErN P w K mg base "Heard" C ["asking"] :=
  have D : Fun K "__init__" "Heard.__init__" s_Heard_init g _ := fun_mk (st := s_Heard_init) l c k
  ⟨⟨g, _, ⟨T, i, t, PySem.W.mg_of X G b, ok_Heard D T n⟩, D.binds (fun _ _ _ _ _ _ us hl => match us, hl with | [_, _], _ => rfl), fkw D (fun _ _ _ _ _ _ _ ws hl => match ws, hl with | [_], _ => rfl)⟩⟩
theorem er_Broken {C : Addr} {g : Addr} {od an : Option Addr} {sl : Array (Option Value)} {oc kV dc pm cd ct : Value} (X : K.In h) (G : h.Ns mainGlobals mg) (b : PySem.W.nsIn K mainGlobals "Broken" = some (some (.ref C))) (i : PySem.W.findIn K (.ref C) "__init__" = some (some (.ref g))) (l : K.lookup g = some ⟨oc, od, .func (PySem.W.fnOf "__init__" "Broken.__init__" (defArgs s_Broken_init) (defBody s_Broken_init) (defScope s_Broken_init) .none kV dc pm an cd ct), sl⟩) (c : PySem.W.codeIn K cd "Broken.__init__" = true) (k : PySem.W.keepIn K (.ref g) = true) (t : PySem.W.typeIn K (.ref g) = some (.type "function")) (T : OexC K C) (n : ∀ f ∈ FLD, PySem.W.findIn K (.ref C) f = some none) : ErN P w K mg base "Broken" C ["asking"] :=
  have D : Fun K "__init__" "Broken.__init__" s_Broken_init g _ := fun_mk (st := s_Broken_init) l c k
  ⟨⟨g, _, ⟨T, i, t, PySem.W.mg_of X G b, ok_Broken D T n⟩, D.binds (fun _ _ _ _ _ _ us hl => match us, hl with | [_, _], _ => rfl), fkw D (fun _ _ _ _ _ _ _ ws hl => match ws, hl with | [_], _ => rfl)⟩⟩
theorem er_TooMany {C : Addr} {g : Addr} {od an : Option Addr} {sl : Array (Option Value)} {oc kV dc pm cd ct : Value} (X : K.In h) (G : h.Ns mainGlobals mg) (b : PySem.W.nsIn K mainGlobals "TooMany" = some (some (.ref C))) (i : PySem.W.findIn K (.ref C) "__init__" = some (some (.ref g))) (l : K.lookup g = some ⟨oc, od, .func (PySem.W.fnOf "__init__" "TooMany.__init__" (defArgs s_TooMany_init) (defBody s_TooMany_init) (defScope s_TooMany_init) .none kV dc pm an cd ct), sl⟩) (c : PySem.W.codeIn K cd "TooMany.__init__" = true) (k : PySem.W.keepIn K (.ref g) = true) (t : PySem.W.typeIn K (.ref g) = some (.type "function")) (T : OexC K C) (n : ∀ f ∈ FLD, PySem.W.findIn K (.ref C) f = some none) : ErN P w K mg base "TooMany" C ["what", "most"] :=
  have D : Fun K "__init__" "TooMany.__init__" s_TooMany_init g _ := fun_mk (st := s_TooMany_init) l c k
  ⟨⟨g, _, ⟨T, i, t, PySem.W.mg_of X G b, ok_TooMany D T n⟩, D.binds (fun _ _ _ _ _ _ us hl => match us, hl with | [_, _, _], _ => rfl), fkw D (fun _ _ _ _ _ _ _ ws hl => match ws, hl with | [_, _], _ => rfl)⟩⟩
theorem er_BadText {C : Addr} {g : Addr} {od an : Option Addr} {sl : Array (Option Value)} {oc kV dc pm cd ct : Value} (X : K.In h) (G : h.Ns mainGlobals mg) (b : PySem.W.nsIn K mainGlobals "BadText" = some (some (.ref C))) (i : PySem.W.findIn K (.ref C) "__init__" = some (some (.ref g))) (l : K.lookup g = some ⟨oc, od, .func (PySem.W.fnOf "__init__" "BadText.__init__" (defArgs s_BadText_init) (defBody s_BadText_init) (defScope s_BadText_init) .none kV dc pm an cd ct), sl⟩) (c : PySem.W.codeIn K cd "BadText.__init__" = true) (k : PySem.W.keepIn K (.ref g) = true) (t : PySem.W.typeIn K (.ref g) = some (.type "function")) (T : OexC K C) (n : ∀ f ∈ FLD, PySem.W.findIn K (.ref C) f = some none) : ErN P w K mg base "BadText" C ["line", "word"] :=
  have D : Fun K "__init__" "BadText.__init__" s_BadText_init g _ := fun_mk (st := s_BadText_init) l c k
  ⟨⟨g, _, ⟨T, i, t, PySem.W.mg_of X G b, ok_BadText D T n⟩, D.binds (fun _ _ _ _ _ _ us hl => match us, hl with | [_, _, _], _ => rfl), fkw D (fun _ _ _ _ _ _ _ ws hl => match ws, hl with | [_, _], _ => rfl)⟩⟩
theorem er_BadLine {C : Addr} {g : Addr} {od an : Option Addr} {sl : Array (Option Value)} {oc kV dc pm cd ct : Value} (X : K.In h) (G : h.Ns mainGlobals mg) (b : PySem.W.nsIn K mainGlobals "BadLine" = some (some (.ref C))) (i : PySem.W.findIn K (.ref C) "__init__" = some (some (.ref g))) (l : K.lookup g = some ⟨oc, od, .func (PySem.W.fnOf "__init__" "BadLine.__init__" (defArgs s_BadLine_init) (defBody s_BadLine_init) (defScope s_BadLine_init) .none kV dc pm an cd ct), sl⟩) (c : PySem.W.codeIn K cd "BadLine.__init__" = true) (k : PySem.W.keepIn K (.ref g) = true) (t : PySem.W.typeIn K (.ref g) = some (.type "function")) (T : OexC K C) (n : ∀ f ∈ FLD, PySem.W.findIn K (.ref C) f = some none) : ErN P w K mg base "BadLine" C ["line", "error"] :=
  have D : Fun K "__init__" "BadLine.__init__" s_BadLine_init g _ := fun_mk (st := s_BadLine_init) l c k
  ⟨⟨g, _, ⟨T, i, t, PySem.W.mg_of X G b, ok_BadLine D T n⟩, D.binds (fun _ _ _ _ _ _ us hl => match us, hl with | [_, _, _], _ => rfl), fkw D (fun _ _ _ _ _ _ _ ws hl => match ws, hl with | [_, _], _ => rfl)⟩⟩
theorem er_Dead {C : Addr} {g : Addr} {od an : Option Addr} {sl : Array (Option Value)} {oc kV dc pm cd ct : Value} (X : K.In h) (G : h.Ns mainGlobals mg) (b : PySem.W.nsIn K mainGlobals "Dead" = some (some (.ref C))) (i : PySem.W.findIn K (.ref C) "__init__" = some (some (.ref g))) (l : K.lookup g = some ⟨oc, od, .func (PySem.W.fnOf "__init__" "Dead.__init__" (defArgs s_Dead_init) (defBody s_Dead_init) (defScope s_Dead_init) .none kV dc pm an cd ct), sl⟩) (c : PySem.W.codeIn K cd "Dead.__init__" = true) (k : PySem.W.keepIn K (.ref g) = true) (t : PySem.W.typeIn K (.ref g) = some (.type "function")) (T : OexC K C) (n : ∀ f ∈ FLD, PySem.W.findIn K (.ref C) f = some none) : ErN P w K mg base "Dead" C ["stand", "who", "true"] :=
  have D : Fun K "__init__" "Dead.__init__" s_Dead_init g _ := fun_mk (st := s_Dead_init) l c k
  ⟨⟨g, _, ⟨T, i, t, PySem.W.mg_of X G b, ok_Dead D T n⟩, D.binds (fun _ _ _ _ _ _ us hl => match us, hl with | [_, _, _, _], _ => rfl), fkw D (fun _ _ _ _ _ _ _ ws hl => match ws, hl with | [_, _, _], _ => rfl)⟩⟩
theorem er_Missing {C : Addr} {g : Addr} {od an : Option Addr} {sl : Array (Option Value)} {oc kV dc pm cd ct : Value} (X : K.In h) (G : h.Ns mainGlobals mg) (b : PySem.W.nsIn K mainGlobals "Missing" = some (some (.ref C))) (i : PySem.W.findIn K (.ref C) "__init__" = some (some (.ref g))) (l : K.lookup g = some ⟨oc, od, .func (PySem.W.fnOf "__init__" "Missing.__init__" (defArgs s_Missing_init) (defBody s_Missing_init) (defScope s_Missing_init) .none kV dc pm an cd ct), sl⟩) (c : PySem.W.codeIn K cd "Missing.__init__" = true) (k : PySem.W.keepIn K (.ref g) = true) (t : PySem.W.typeIn K (.ref g) = some (.type "function")) (T : OexC K C) (n : ∀ f ∈ FLD, PySem.W.findIn K (.ref C) f = some none) : ErN P w K mg base "Missing" C ["value"] :=
  have D : Fun K "__init__" "Missing.__init__" s_Missing_init g _ := fun_mk (st := s_Missing_init) l c k
  ⟨⟨g, _, ⟨T, i, t, PySem.W.mg_of X G b, ok_Missing D T n⟩, D.binds (fun _ _ _ _ _ _ us hl => match us, hl with | [_, _], _ => rfl), fkw D (fun _ _ _ _ _ _ _ ws hl => match ws, hl with | [_], _ => rfl)⟩⟩
end
theorem all_mk {l : PySem.W.OpenLaw} {w : World} {K : PySem.W.Frag} {h : Heap} {mg : Str → Option Value} {fa : Addr} (X : K.In h) (G : h.Ns mainGlobals mg) (hfa : mg "law" = some (.ref fa))
    {C0 : Addr}
    {g0 : Addr} {od0 an0 : Option Addr} {sl0 : Array (Option Value)} {oc0 kV0 dc0 pm0 cd0 ct0 : Value}
    {C1 : Addr}
    {g1 : Addr} {od1 an1 : Option Addr} {sl1 : Array (Option Value)} {oc1 kV1 dc1 pm1 cd1 ct1 : Value}
    {C2 : Addr}
    {g2 : Addr} {od2 an2 : Option Addr} {sl2 : Array (Option Value)} {oc2 kV2 dc2 pm2 cd2 ct2 : Value}
    {C3 : Addr}
    {g3 : Addr} {od3 an3 : Option Addr} {sl3 : Array (Option Value)} {oc3 kV3 dc3 pm3 cd3 ct3 : Value}
    {C4 : Addr}
    {g4 : Addr} {od4 an4 : Option Addr} {sl4 : Array (Option Value)} {oc4 kV4 dc4 pm4 cd4 ct4 : Value}
    {C5 : Addr}
    {g5 : Addr} {od5 an5 : Option Addr} {sl5 : Array (Option Value)} {oc5 kV5 dc5 pm5 cd5 ct5 : Value}
    {C6 : Addr}
    {g6 : Addr} {od6 an6 : Option Addr} {sl6 : Array (Option Value)} {oc6 kV6 dc6 pm6 cd6 ct6 : Value}
    {C7 : Addr}
    {g7 : Addr} {od7 an7 : Option Addr} {sl7 : Array (Option Value)} {oc7 kV7 dc7 pm7 cd7 ct7 : Value}
    {C8 : Addr}
    {g8 : Addr} {od8 an8 : Option Addr} {sl8 : Array (Option Value)} {oc8 kV8 dc8 pm8 cd8 ct8 : Value}
    {C9 : Addr}
    {g9 : Addr} {od9 an9 : Option Addr} {sl9 : Array (Option Value)} {oc9 kV9 dc9 pm9 cd9 ct9 : Value}
    {C10 : Addr}
    {g10 : Addr} {od10 an10 : Option Addr} {sl10 : Array (Option Value)} {oc10 kV10 dc10 pm10 cd10 ct10 : Value}
    {C11 : Addr}
    {g11 : Addr} {od11 an11 : Option Addr} {sl11 : Array (Option Value)} {oc11 kV11 dc11 pm11 cd11 ct11 : Value}
    {C12 : Addr}
    {g12 : Addr} {od12 an12 : Option Addr} {sl12 : Array (Option Value)} {oc12 kV12 dc12 pm12 cd12 ct12 : Value}
    {C13 : Addr}
    {g13 : Addr} {od13 an13 : Option Addr} {sl13 : Array (Option Value)} {oc13 kV13 dc13 pm13 cd13 ct13 : Value}
    {C14 : Addr}
    {g14 : Addr} {od14 an14 : Option Addr} {sl14 : Array (Option Value)} {oc14 kV14 dc14 pm14 cd14 ct14 : Value}
    {C15 : Addr}
    {g15 : Addr} {od15 an15 : Option Addr} {sl15 : Array (Option Value)} {oc15 kV15 dc15 pm15 cd15 ct15 : Value}
    {C16 : Addr}
    {g16 : Addr} {od16 an16 : Option Addr} {sl16 : Array (Option Value)} {oc16 kV16 dc16 pm16 cd16 ct16 : Value}
    {C17 : Addr}
    {g17 : Addr} {od17 an17 : Option Addr} {sl17 : Array (Option Value)} {oc17 kV17 dc17 pm17 cd17 ct17 : Value}
    {C18 : Addr}
    {g18 : Addr} {od18 an18 : Option Addr} {sl18 : Array (Option Value)} {oc18 kV18 dc18 pm18 cd18 ct18 : Value}
    {C19 : Addr}
    {g19 : Addr} {od19 an19 : Option Addr} {sl19 : Array (Option Value)} {oc19 kV19 dc19 pm19 cd19 ct19 : Value}
    {C20 : Addr}
    {g20 : Addr} {od20 an20 : Option Addr} {sl20 : Array (Option Value)} {oc20 kV20 dc20 pm20 cd20 ct20 : Value}
    {C21 : Addr}
    {g21 : Addr} {od21 an21 : Option Addr} {sl21 : Array (Option Value)} {oc21 kV21 dc21 pm21 cd21 ct21 : Value}
    {C22 : Addr}
    {g22 : Addr} {od22 an22 : Option Addr} {sl22 : Array (Option Value)} {oc22 kV22 dc22 pm22 cd22 ct22 : Value}
    {C23 : Addr}
    {g23 : Addr} {od23 an23 : Option Addr} {sl23 : Array (Option Value)} {oc23 kV23 dc23 pm23 cd23 ct23 : Value}
    {C24 : Addr}
    {g24 : Addr} {od24 an24 : Option Addr} {sl24 : Array (Option Value)} {oc24 kV24 dc24 pm24 cd24 ct24 : Value}
    {C25 : Addr}
    {g25 : Addr} {od25 an25 : Option Addr} {sl25 : Array (Option Value)} {oc25 kV25 dc25 pm25 cd25 ct25 : Value}
    {C26 : Addr}
    {g26 : Addr} {od26 an26 : Option Addr} {sl26 : Array (Option Value)} {oc26 kV26 dc26 pm26 cd26 ct26 : Value}
    {C27 : Addr}
    {g27 : Addr} {od27 an27 : Option Addr} {sl27 : Array (Option Value)} {oc27 kV27 dc27 pm27 cd27 ct27 : Value}
    {C28 : Addr}
    {g28 : Addr} {od28 an28 : Option Addr} {sl28 : Array (Option Value)} {oc28 kV28 dc28 pm28 cd28 ct28 : Value}
    {C29 : Addr}
    {g29 : Addr} {od29 an29 : Option Addr} {sl29 : Array (Option Value)} {oc29 kV29 dc29 pm29 cd29 ct29 : Value}
    {C30 : Addr}
    {g30 : Addr} {od30 an30 : Option Addr} {sl30 : Array (Option Value)} {oc30 kV30 dc30 pm30 cd30 ct30 : Value}
    {C31 : Addr}
    {g31 : Addr} {od31 an31 : Option Addr} {sl31 : Array (Option Value)} {oc31 kV31 dc31 pm31 cd31 ct31 : Value}
    {C32 : Addr}
    {g32 : Addr} {od32 an32 : Option Addr} {sl32 : Array (Option Value)} {oc32 kV32 dc32 pm32 cd32 ct32 : Value}
    {C33 : Addr}
    {g33 : Addr} {od33 an33 : Option Addr} {sl33 : Array (Option Value)} {oc33 kV33 dc33 pm33 cd33 ct33 : Value}
    {C34 : Addr}
    {g34 : Addr} {od34 an34 : Option Addr} {sl34 : Array (Option Value)} {oc34 kV34 dc34 pm34 cd34 ct34 : Value}
    {C35 : Addr}
    {g35 : Addr} {od35 an35 : Option Addr} {sl35 : Array (Option Value)} {oc35 kV35 dc35 pm35 cd35 ct35 : Value}
    {C36 : Addr}
    {C37 : Addr}
    {C38 : Addr}
    {C39 : Addr}
    {C40 : Addr}
    {C41 : Addr}
    {g41 : Addr} {od41 an41 : Option Addr} {sl41 : Array (Option Value)} {oc41 kV41 dc41 pm41 cd41 ct41 : Value}
    {C42 : Addr}
    {f_0 : Addr} {od_0 an_0 : Option Addr} {sl_0 : Array (Option Value)} {oc_0 kV_0 dc_0 pm_0 cd_0 ct_0 : Value}
    {f_1 : Addr} {od_1 an_1 : Option Addr} {sl_1 : Array (Option Value)} {oc_1 kV_1 dc_1 pm_1 cd_1 ct_1 : Value}
    {f_2 : Addr} {od_2 an_2 : Option Addr} {sl_2 : Array (Option Value)} {oc_2 kV_2 dc_2 pm_2 cd_2 ct_2 : Value}
    {f_3 : Addr} {od_3 an_3 : Option Addr} {sl_3 : Array (Option Value)} {oc_3 kV_3 dc_3 pm_3 cd_3 ct_3 : Value}
    {f_4 : Addr} {od_4 an_4 : Option Addr} {sl_4 : Array (Option Value)} {oc_4 kV_4 dc_4 pm_4 cd_4 ct_4 : Value}
    {f_5 : Addr} {od_5 an_5 : Option Addr} {sl_5 : Array (Option Value)} {oc_5 kV_5 dc_5 pm_5 cd_5 ct_5 : Value}
    {f_6 : Addr} {od_6 an_6 : Option Addr} {sl_6 : Array (Option Value)} {oc_6 kV_6 dc_6 pm_6 cd_6 ct_6 : Value}
    {f_7 : Addr} {od_7 an_7 : Option Addr} {sl_7 : Array (Option Value)} {oc_7 kV_7 dc_7 pm_7 cd_7 ct_7 : Value}
    {f_8 : Addr} {od_8 an_8 : Option Addr} {sl_8 : Array (Option Value)} {oc_8 kV_8 dc_8 pm_8 cd_8 ct_8 : Value}
    {f_9 : Addr} {od_9 an_9 : Option Addr} {sl_9 : Array (Option Value)} {oc_9 kV_9 dc_9 pm_9 cd_9 ct_9 : Value}
    {f_10 : Addr} {od_10 an_10 : Option Addr} {sl_10 : Array (Option Value)} {oc_10 kV_10 dc_10 pm_10 cd_10 ct_10 : Value}
    (b0 : PySem.W.nsIn K mainGlobals "BadRule" = some (some (.ref C0)))
    (i0 : PySem.W.findIn K (.ref C0) "__init__" = some (some (.ref g0))) (l0 : K.lookup g0 = some ⟨oc0, od0, .func (PySem.W.fnOf "__init__" "BadRule.__init__" (defArgs s_BadRule_init) (defBody s_BadRule_init) (defScope s_BadRule_init) .none kV0 dc0 pm0 an0 cd0 ct0), sl0⟩) (c0 : PySem.W.codeIn K cd0 "BadRule.__init__" = true) (k0 : PySem.W.keepIn K (.ref g0) = true) (t0 : PySem.W.typeIn K (.ref g0) = some (.type "function"))
    (b1 : PySem.W.nsIn K mainGlobals "BadPast" = some (some (.ref C1)))
    (i1 : PySem.W.findIn K (.ref C1) "__init__" = some (some (.ref g1))) (l1 : K.lookup g1 = some ⟨oc1, od1, .func (PySem.W.fnOf "__init__" "BadPast.__init__" (defArgs s_BadPast_init) (defBody s_BadPast_init) (defScope s_BadPast_init) .none kV1 dc1 pm1 an1 cd1 ct1), sl1⟩) (c1 : PySem.W.codeIn K cd1 "BadPast.__init__" = true) (k1 : PySem.W.keepIn K (.ref g1) = true) (t1 : PySem.W.typeIn K (.ref g1) = some (.type "function"))
    (b2 : PySem.W.nsIn K mainGlobals "BadQuestion" = some (some (.ref C2)))
    (i2 : PySem.W.findIn K (.ref C2) "__init__" = some (some (.ref g2))) (l2 : K.lookup g2 = some ⟨oc2, od2, .func (PySem.W.fnOf "__init__" "BadQuestion.__init__" (defArgs s_BadQuestion_init) (defBody s_BadQuestion_init) (defScope s_BadQuestion_init) .none kV2 dc2 pm2 an2 cd2 ct2), sl2⟩) (c2 : PySem.W.codeIn K cd2 "BadQuestion.__init__" = true) (k2 : PySem.W.keepIn K (.ref g2) = true) (t2 : PySem.W.typeIn K (.ref g2) = some (.type "function"))
    (b3 : PySem.W.nsIn K mainGlobals "BadStock" = some (some (.ref C3)))
    (i3 : PySem.W.findIn K (.ref C3) "__init__" = some (some (.ref g3))) (l3 : K.lookup g3 = some ⟨oc3, od3, .func (PySem.W.fnOf "__init__" "BadStock.__init__" (defArgs s_BadStock_init) (defBody s_BadStock_init) (defScope s_BadStock_init) .none kV3 dc3 pm3 an3 cd3 ct3), sl3⟩) (c3 : PySem.W.codeIn K cd3 "BadStock.__init__" = true) (k3 : PySem.W.keepIn K (.ref g3) = true) (t3 : PySem.W.typeIn K (.ref g3) = some (.type "function"))
    (b4 : PySem.W.nsIn K mainGlobals "BadWish" = some (some (.ref C4)))
    (i4 : PySem.W.findIn K (.ref C4) "__init__" = some (some (.ref g4))) (l4 : K.lookup g4 = some ⟨oc4, od4, .func (PySem.W.fnOf "__init__" "BadWish.__init__" (defArgs s_BadWish_init) (defBody s_BadWish_init) (defScope s_BadWish_init) .none kV4 dc4 pm4 an4 cd4 ct4), sl4⟩) (c4 : PySem.W.codeIn K cd4 "BadWish.__init__" = true) (k4 : PySem.W.keepIn K (.ref g4) = true) (t4 : PySem.W.typeIn K (.ref g4) = some (.type "function"))
    (b5 : PySem.W.nsIn K mainGlobals "BadCase" = some (some (.ref C5)))
    (i5 : PySem.W.findIn K (.ref C5) "__init__" = some (some (.ref g5))) (l5 : K.lookup g5 = some ⟨oc5, od5, .func (PySem.W.fnOf "__init__" "BadCase.__init__" (defArgs s_BadCase_init) (defBody s_BadCase_init) (defScope s_BadCase_init) .none kV5 dc5 pm5 an5 cd5 ct5), sl5⟩) (c5 : PySem.W.codeIn K cd5 "BadCase.__init__" = true) (k5 : PySem.W.keepIn K (.ref g5) = true) (t5 : PySem.W.typeIn K (.ref g5) = some (.type "function"))
    (b6 : PySem.W.nsIn K mainGlobals "BadSituation" = some (some (.ref C6)))
    (i6 : PySem.W.findIn K (.ref C6) "__init__" = some (some (.ref g6))) (l6 : K.lookup g6 = some ⟨oc6, od6, .func (PySem.W.fnOf "__init__" "BadSituation.__init__" (defArgs s_BadSituation_init) (defBody s_BadSituation_init) (defScope s_BadSituation_init) .none kV6 dc6 pm6 an6 cd6 ct6), sl6⟩) (c6 : PySem.W.codeIn K cd6 "BadSituation.__init__" = true) (k6 : PySem.W.keepIn K (.ref g6) = true) (t6 : PySem.W.typeIn K (.ref g6) = some (.type "function"))
    (b7 : PySem.W.nsIn K mainGlobals "BadHearing" = some (some (.ref C7)))
    (i7 : PySem.W.findIn K (.ref C7) "__init__" = some (some (.ref g7))) (l7 : K.lookup g7 = some ⟨oc7, od7, .func (PySem.W.fnOf "__init__" "BadHearing.__init__" (defArgs s_BadHearing_init) (defBody s_BadHearing_init) (defScope s_BadHearing_init) .none kV7 dc7 pm7 an7 cd7 ct7), sl7⟩) (c7 : PySem.W.codeIn K cd7 "BadHearing.__init__" = true) (k7 : PySem.W.keepIn K (.ref g7) = true) (t7 : PySem.W.typeIn K (.ref g7) = some (.type "function"))
    (b8 : PySem.W.nsIn K mainGlobals "BadList" = some (some (.ref C8)))
    (i8 : PySem.W.findIn K (.ref C8) "__init__" = some (some (.ref g8))) (l8 : K.lookup g8 = some ⟨oc8, od8, .func (PySem.W.fnOf "__init__" "BadList.__init__" (defArgs s_BadList_init) (defBody s_BadList_init) (defScope s_BadList_init) .none kV8 dc8 pm8 an8 cd8 ct8), sl8⟩) (c8 : PySem.W.codeIn K cd8 "BadList.__init__" = true) (k8 : PySem.W.keepIn K (.ref g8) = true) (t8 : PySem.W.typeIn K (.ref g8) = some (.type "function"))
    (b9 : PySem.W.nsIn K mainGlobals "BadPlan" = some (some (.ref C9)))
    (i9 : PySem.W.findIn K (.ref C9) "__init__" = some (some (.ref g9))) (l9 : K.lookup g9 = some ⟨oc9, od9, .func (PySem.W.fnOf "__init__" "BadPlan.__init__" (defArgs s_BadPlan_init) (defBody s_BadPlan_init) (defScope s_BadPlan_init) .none kV9 dc9 pm9 an9 cd9 ct9), sl9⟩) (c9 : PySem.W.codeIn K cd9 "BadPlan.__init__" = true) (k9 : PySem.W.keepIn K (.ref g9) = true) (t9 : PySem.W.typeIn K (.ref g9) = some (.type "function"))
    (b10 : PySem.W.nsIn K mainGlobals "BadPrices" = some (some (.ref C10)))
    (i10 : PySem.W.findIn K (.ref C10) "__init__" = some (some (.ref g10))) (l10 : K.lookup g10 = some ⟨oc10, od10, .func (PySem.W.fnOf "__init__" "BadPrices.__init__" (defArgs s_BadPrices_init) (defBody s_BadPrices_init) (defScope s_BadPrices_init) .none kV10 dc10 pm10 an10 cd10 ct10), sl10⟩) (c10 : PySem.W.codeIn K cd10 "BadPrices.__init__" = true) (k10 : PySem.W.keepIn K (.ref g10) = true) (t10 : PySem.W.typeIn K (.ref g10) = some (.type "function"))
    (b11 : PySem.W.nsIn K mainGlobals "BadBars" = some (some (.ref C11)))
    (i11 : PySem.W.findIn K (.ref C11) "__init__" = some (some (.ref g11))) (l11 : K.lookup g11 = some ⟨oc11, od11, .func (PySem.W.fnOf "__init__" "BadBars.__init__" (defArgs s_BadBars_init) (defBody s_BadBars_init) (defScope s_BadBars_init) .none kV11 dc11 pm11 an11 cd11 ct11), sl11⟩) (c11 : PySem.W.codeIn K cd11 "BadBars.__init__" = true) (k11 : PySem.W.keepIn K (.ref g11) = true) (t11 : PySem.W.typeIn K (.ref g11) = some (.type "function"))
    (b12 : PySem.W.nsIn K mainGlobals "BadEvening" = some (some (.ref C12)))
    (i12 : PySem.W.findIn K (.ref C12) "__init__" = some (some (.ref g12))) (l12 : K.lookup g12 = some ⟨oc12, od12, .func (PySem.W.fnOf "__init__" "BadEvening.__init__" (defArgs s_BadEvening_init) (defBody s_BadEvening_init) (defScope s_BadEvening_init) .none kV12 dc12 pm12 an12 cd12 ct12), sl12⟩) (c12 : PySem.W.codeIn K cd12 "BadEvening.__init__" = true) (k12 : PySem.W.keepIn K (.ref g12) = true) (t12 : PySem.W.typeIn K (.ref g12) = some (.type "function"))
    (b13 : PySem.W.nsIn K mainGlobals "BadStory" = some (some (.ref C13)))
    (i13 : PySem.W.findIn K (.ref C13) "__init__" = some (some (.ref g13))) (l13 : K.lookup g13 = some ⟨oc13, od13, .func (PySem.W.fnOf "__init__" "BadStory.__init__" (defArgs s_BadStory_init) (defBody s_BadStory_init) (defScope s_BadStory_init) .none kV13 dc13 pm13 an13 cd13 ct13), sl13⟩) (c13 : PySem.W.codeIn K cd13 "BadStory.__init__" = true) (k13 : PySem.W.keepIn K (.ref g13) = true) (t13 : PySem.W.typeIn K (.ref g13) = some (.type "function"))
    (b14 : PySem.W.nsIn K mainGlobals "BadNumber" = some (some (.ref C14)))
    (i14 : PySem.W.findIn K (.ref C14) "__init__" = some (some (.ref g14))) (l14 : K.lookup g14 = some ⟨oc14, od14, .func (PySem.W.fnOf "__init__" "BadNumber.__init__" (defArgs s_BadNumber_init) (defBody s_BadNumber_init) (defScope s_BadNumber_init) .none kV14 dc14 pm14 an14 cd14 ct14), sl14⟩) (c14 : PySem.W.codeIn K cd14 "BadNumber.__init__" = true) (k14 : PySem.W.keepIn K (.ref g14) = true) (t14 : PySem.W.typeIn K (.ref g14) = some (.type "function"))
    (b15 : PySem.W.nsIn K mainGlobals "BadPaper" = some (some (.ref C15)))
    (i15 : PySem.W.findIn K (.ref C15) "__init__" = some (some (.ref g15))) (l15 : K.lookup g15 = some ⟨oc15, od15, .func (PySem.W.fnOf "__init__" "BadPaper.__init__" (defArgs s_BadPaper_init) (defBody s_BadPaper_init) (defScope s_BadPaper_init) .none kV15 dc15 pm15 an15 cd15 ct15), sl15⟩) (c15 : PySem.W.codeIn K cd15 "BadPaper.__init__" = true) (k15 : PySem.W.keepIn K (.ref g15) = true) (t15 : PySem.W.typeIn K (.ref g15) = some (.type "function"))
    (b16 : PySem.W.nsIn K mainGlobals "NoThing" = some (some (.ref C16)))
    (i16 : PySem.W.findIn K (.ref C16) "__init__" = some (some (.ref g16))) (l16 : K.lookup g16 = some ⟨oc16, od16, .func (PySem.W.fnOf "__init__" "NoThing.__init__" (defArgs s_NoThing_init) (defBody s_NoThing_init) (defScope s_NoThing_init) .none kV16 dc16 pm16 an16 cd16 ct16), sl16⟩) (c16 : PySem.W.codeIn K cd16 "NoThing.__init__" = true) (k16 : PySem.W.keepIn K (.ref g16) = true) (t16 : PySem.W.typeIn K (.ref g16) = some (.type "function"))
    (b17 : PySem.W.nsIn K mainGlobals "NoAnswerer" = some (some (.ref C17)))
    (i17 : PySem.W.findIn K (.ref C17) "__init__" = some (some (.ref g17))) (l17 : K.lookup g17 = some ⟨oc17, od17, .func (PySem.W.fnOf "__init__" "NoAnswerer.__init__" (defArgs s_NoAnswerer_init) (defBody s_NoAnswerer_init) (defScope s_NoAnswerer_init) .none kV17 dc17 pm17 an17 cd17 ct17), sl17⟩) (c17 : PySem.W.codeIn K cd17 "NoAnswerer.__init__" = true) (k17 : PySem.W.keepIn K (.ref g17) = true) (t17 : PySem.W.typeIn K (.ref g17) = some (.type "function"))
    (b18 : PySem.W.nsIn K mainGlobals "NoHeap" = some (some (.ref C18)))
    (i18 : PySem.W.findIn K (.ref C18) "__init__" = some (some (.ref g18))) (l18 : K.lookup g18 = some ⟨oc18, od18, .func (PySem.W.fnOf "__init__" "NoHeap.__init__" (defArgs s_NoHeap_init) (defBody s_NoHeap_init) (defScope s_NoHeap_init) .none kV18 dc18 pm18 an18 cd18 ct18), sl18⟩) (c18 : PySem.W.codeIn K cd18 "NoHeap.__init__" = true) (k18 : PySem.W.keepIn K (.ref g18) = true) (t18 : PySem.W.typeIn K (.ref g18) = some (.type "function"))
    (b19 : PySem.W.nsIn K mainGlobals "NoStand" = some (some (.ref C19)))
    (i19 : PySem.W.findIn K (.ref C19) "__init__" = some (some (.ref g19))) (l19 : K.lookup g19 = some ⟨oc19, od19, .func (PySem.W.fnOf "__init__" "NoStand.__init__" (defArgs s_NoStand_init) (defBody s_NoStand_init) (defScope s_NoStand_init) .none kV19 dc19 pm19 an19 cd19 ct19), sl19⟩) (c19 : PySem.W.codeIn K cd19 "NoStand.__init__" = true) (k19 : PySem.W.keepIn K (.ref g19) = true) (t19 : PySem.W.typeIn K (.ref g19) = some (.type "function"))
    (b20 : PySem.W.nsIn K mainGlobals "NoQuestion" = some (some (.ref C20)))
    (i20 : PySem.W.findIn K (.ref C20) "__init__" = some (some (.ref g20))) (l20 : K.lookup g20 = some ⟨oc20, od20, .func (PySem.W.fnOf "__init__" "NoQuestion.__init__" (defArgs s_NoQuestion_init) (defBody s_NoQuestion_init) (defScope s_NoQuestion_init) .none kV20 dc20 pm20 an20 cd20 ct20), sl20⟩) (c20 : PySem.W.codeIn K cd20 "NoQuestion.__init__" = true) (k20 : PySem.W.keepIn K (.ref g20) = true) (t20 : PySem.W.typeIn K (.ref g20) = some (.type "function"))
    (b21 : PySem.W.nsIn K mainGlobals "NoAsked" = some (some (.ref C21)))
    (i21 : PySem.W.findIn K (.ref C21) "__init__" = some (some (.ref g21))) (l21 : K.lookup g21 = some ⟨oc21, od21, .func (PySem.W.fnOf "__init__" "NoAsked.__init__" (defArgs s_NoAsked_init) (defBody s_NoAsked_init) (defScope s_NoAsked_init) .none kV21 dc21 pm21 an21 cd21 ct21), sl21⟩) (c21 : PySem.W.codeIn K cd21 "NoAsked.__init__" = true) (k21 : PySem.W.keepIn K (.ref g21) = true) (t21 : PySem.W.typeIn K (.ref g21) = some (.type "function"))
    (b22 : PySem.W.nsIn K mainGlobals "NoName" = some (some (.ref C22)))
    (i22 : PySem.W.findIn K (.ref C22) "__init__" = some (some (.ref g22))) (l22 : K.lookup g22 = some ⟨oc22, od22, .func (PySem.W.fnOf "__init__" "NoName.__init__" (defArgs s_NoName_init) (defBody s_NoName_init) (defScope s_NoName_init) .none kV22 dc22 pm22 an22 cd22 ct22), sl22⟩) (c22 : PySem.W.codeIn K cd22 "NoName.__init__" = true) (k22 : PySem.W.keepIn K (.ref g22) = true) (t22 : PySem.W.typeIn K (.ref g22) = some (.type "function"))
    (b23 : PySem.W.nsIn K mainGlobals "Twice" = some (some (.ref C23)))
    (i23 : PySem.W.findIn K (.ref C23) "__init__" = some (some (.ref g23))) (l23 : K.lookup g23 = some ⟨oc23, od23, .func (PySem.W.fnOf "__init__" "Twice.__init__" (defArgs s_Twice_init) (defBody s_Twice_init) (defScope s_Twice_init) .none kV23 dc23 pm23 an23 cd23 ct23), sl23⟩) (c23 : PySem.W.codeIn K cd23 "Twice.__init__" = true) (k23 : PySem.W.keepIn K (.ref g23) = true) (t23 : PySem.W.typeIn K (.ref g23) = some (.type "function"))
    (b24 : PySem.W.nsIn K mainGlobals "Unlike" = some (some (.ref C24)))
    (i24 : PySem.W.findIn K (.ref C24) "__init__" = some (some (.ref g24))) (l24 : K.lookup g24 = some ⟨oc24, od24, .func (PySem.W.fnOf "__init__" "Unlike.__init__" (defArgs s_Unlike_init) (defBody s_Unlike_init) (defScope s_Unlike_init) .none kV24 dc24 pm24 an24 cd24 ct24), sl24⟩) (c24 : PySem.W.codeIn K cd24 "Unlike.__init__" = true) (k24 : PySem.W.keepIn K (.ref g24) = true) (t24 : PySem.W.typeIn K (.ref g24) = some (.type "function"))
    (b25 : PySem.W.nsIn K mainGlobals "Barred" = some (some (.ref C25)))
    (i25 : PySem.W.findIn K (.ref C25) "__init__" = some (some (.ref g25))) (l25 : K.lookup g25 = some ⟨oc25, od25, .func (PySem.W.fnOf "__init__" "Barred.__init__" (defArgs s_Barred_init) (defBody s_Barred_init) (defScope s_Barred_init) .none kV25 dc25 pm25 an25 cd25 ct25), sl25⟩) (c25 : PySem.W.codeIn K cd25 "Barred.__init__" = true) (k25 : PySem.W.keepIn K (.ref g25) = true) (t25 : PySem.W.typeIn K (.ref g25) = some (.type "function"))
    (b26 : PySem.W.nsIn K mainGlobals "NotFading" = some (some (.ref C26)))
    (i26 : PySem.W.findIn K (.ref C26) "__init__" = some (some (.ref g26))) (l26 : K.lookup g26 = some ⟨oc26, od26, .func (PySem.W.fnOf "__init__" "NotFading.__init__" (defArgs s_NotFading_init) (defBody s_NotFading_init) (defScope s_NotFading_init) .none kV26 dc26 pm26 an26 cd26 ct26), sl26⟩) (c26 : PySem.W.codeIn K cd26 "NotFading.__init__" = true) (k26 : PySem.W.keepIn K (.ref g26) = true) (t26 : PySem.W.typeIn K (.ref g26) = some (.type "function"))
    (b27 : PySem.W.nsIn K mainGlobals "NotFreer" = some (some (.ref C27)))
    (i27 : PySem.W.findIn K (.ref C27) "__init__" = some (some (.ref g27))) (l27 : K.lookup g27 = some ⟨oc27, od27, .func (PySem.W.fnOf "__init__" "NotFreer.__init__" (defArgs s_NotFreer_init) (defBody s_NotFreer_init) (defScope s_NotFreer_init) .none kV27 dc27 pm27 an27 cd27 ct27), sl27⟩) (c27 : PySem.W.codeIn K cd27 "NotFreer.__init__" = true) (k27 : PySem.W.keepIn K (.ref g27) = true) (t27 : PySem.W.typeIn K (.ref g27) = some (.type "function"))
    (b28 : PySem.W.nsIn K mainGlobals "Late" = some (some (.ref C28)))
    (i28 : PySem.W.findIn K (.ref C28) "__init__" = some (some (.ref g28))) (l28 : K.lookup g28 = some ⟨oc28, od28, .func (PySem.W.fnOf "__init__" "Late.__init__" (defArgs s_Late_init) (defBody s_Late_init) (defScope s_Late_init) .none kV28 dc28 pm28 an28 cd28 ct28), sl28⟩) (c28 : PySem.W.codeIn K cd28 "Late.__init__" = true) (k28 : PySem.W.keepIn K (.ref g28) = true) (t28 : PySem.W.typeIn K (.ref g28) = some (.type "function"))
    (b29 : PySem.W.nsIn K mainGlobals "Unheard" = some (some (.ref C29)))
    (i29 : PySem.W.findIn K (.ref C29) "__init__" = some (some (.ref g29))) (l29 : K.lookup g29 = some ⟨oc29, od29, .func (PySem.W.fnOf "__init__" "Unheard.__init__" (defArgs s_Unheard_init) (defBody s_Unheard_init) (defScope s_Unheard_init) .none kV29 dc29 pm29 an29 cd29 ct29), sl29⟩) (c29 : PySem.W.codeIn K cd29 "Unheard.__init__" = true) (k29 : PySem.W.keepIn K (.ref g29) = true) (t29 : PySem.W.typeIn K (.ref g29) = some (.type "function"))
    (b30 : PySem.W.nsIn K mainGlobals "Heard" = some (some (.ref C30)))
    (i30 : PySem.W.findIn K (.ref C30) "__init__" = some (some (.ref g30))) (l30 : K.lookup g30 = some ⟨oc30, od30, .func (PySem.W.fnOf "__init__" "Heard.__init__" (defArgs s_Heard_init) (defBody s_Heard_init) (defScope s_Heard_init) .none kV30 dc30 pm30 an30 cd30 ct30), sl30⟩) (c30 : PySem.W.codeIn K cd30 "Heard.__init__" = true) (k30 : PySem.W.keepIn K (.ref g30) = true) (t30 : PySem.W.typeIn K (.ref g30) = some (.type "function"))
    (b31 : PySem.W.nsIn K mainGlobals "Broken" = some (some (.ref C31)))
    (i31 : PySem.W.findIn K (.ref C31) "__init__" = some (some (.ref g31))) (l31 : K.lookup g31 = some ⟨oc31, od31, .func (PySem.W.fnOf "__init__" "Broken.__init__" (defArgs s_Broken_init) (defBody s_Broken_init) (defScope s_Broken_init) .none kV31 dc31 pm31 an31 cd31 ct31), sl31⟩) (c31 : PySem.W.codeIn K cd31 "Broken.__init__" = true) (k31 : PySem.W.keepIn K (.ref g31) = true) (t31 : PySem.W.typeIn K (.ref g31) = some (.type "function"))
    (b32 : PySem.W.nsIn K mainGlobals "TooMany" = some (some (.ref C32)))
    (i32 : PySem.W.findIn K (.ref C32) "__init__" = some (some (.ref g32))) (l32 : K.lookup g32 = some ⟨oc32, od32, .func (PySem.W.fnOf "__init__" "TooMany.__init__" (defArgs s_TooMany_init) (defBody s_TooMany_init) (defScope s_TooMany_init) .none kV32 dc32 pm32 an32 cd32 ct32), sl32⟩) (c32 : PySem.W.codeIn K cd32 "TooMany.__init__" = true) (k32 : PySem.W.keepIn K (.ref g32) = true) (t32 : PySem.W.typeIn K (.ref g32) = some (.type "function"))
    (b33 : PySem.W.nsIn K mainGlobals "BadText" = some (some (.ref C33)))
    (i33 : PySem.W.findIn K (.ref C33) "__init__" = some (some (.ref g33))) (l33 : K.lookup g33 = some ⟨oc33, od33, .func (PySem.W.fnOf "__init__" "BadText.__init__" (defArgs s_BadText_init) (defBody s_BadText_init) (defScope s_BadText_init) .none kV33 dc33 pm33 an33 cd33 ct33), sl33⟩) (c33 : PySem.W.codeIn K cd33 "BadText.__init__" = true) (k33 : PySem.W.keepIn K (.ref g33) = true) (t33 : PySem.W.typeIn K (.ref g33) = some (.type "function"))
    (b34 : PySem.W.nsIn K mainGlobals "BadLine" = some (some (.ref C34)))
    (i34 : PySem.W.findIn K (.ref C34) "__init__" = some (some (.ref g34))) (l34 : K.lookup g34 = some ⟨oc34, od34, .func (PySem.W.fnOf "__init__" "BadLine.__init__" (defArgs s_BadLine_init) (defBody s_BadLine_init) (defScope s_BadLine_init) .none kV34 dc34 pm34 an34 cd34 ct34), sl34⟩) (c34 : PySem.W.codeIn K cd34 "BadLine.__init__" = true) (k34 : PySem.W.keepIn K (.ref g34) = true) (t34 : PySem.W.typeIn K (.ref g34) = some (.type "function"))
    (b35 : PySem.W.nsIn K mainGlobals "Dead" = some (some (.ref C35)))
    (i35 : PySem.W.findIn K (.ref C35) "__init__" = some (some (.ref g35))) (l35 : K.lookup g35 = some ⟨oc35, od35, .func (PySem.W.fnOf "__init__" "Dead.__init__" (defArgs s_Dead_init) (defBody s_Dead_init) (defScope s_Dead_init) .none kV35 dc35 pm35 an35 cd35 ct35), sl35⟩) (c35 : PySem.W.codeIn K cd35 "Dead.__init__" = true) (k35 : PySem.W.keepIn K (.ref g35) = true) (t35 : PySem.W.typeIn K (.ref g35) = some (.type "function"))
    (b36 : PySem.W.nsIn K mainGlobals "Silent" = some (some (.ref C36)))
    (q36 : PySem.W.keepIn K (.ref C36) = true)
    (b37 : PySem.W.nsIn K mainGlobals "NotEven" = some (some (.ref C37)))
    (q37 : PySem.W.keepIn K (.ref C37) = true)
    (b38 : PySem.W.nsIn K mainGlobals "Never" = some (some (.ref C38)))
    (q38 : PySem.W.keepIn K (.ref C38) = true)
    (b39 : PySem.W.nsIn K mainGlobals "Settled" = some (some (.ref C39)))
    (q39 : PySem.W.keepIn K (.ref C39) = true)
    (b40 : PySem.W.nsIn K mainGlobals "NoDeed" = some (some (.ref C40)))
    (q40 : PySem.W.keepIn K (.ref C40) = true)
    (b41 : PySem.W.nsIn K mainGlobals "Missing" = some (some (.ref C41)))
    (i41 : PySem.W.findIn K (.ref C41) "__init__" = some (some (.ref g41))) (l41 : K.lookup g41 = some ⟨oc41, od41, .func (PySem.W.fnOf "__init__" "Missing.__init__" (defArgs s_Missing_init) (defBody s_Missing_init) (defScope s_Missing_init) .none kV41 dc41 pm41 an41 cd41 ct41), sl41⟩) (c41 : PySem.W.codeIn K cd41 "Missing.__init__" = true) (k41 : PySem.W.keepIn K (.ref g41) = true) (t41 : PySem.W.typeIn K (.ref g41) = some (.type "function"))
    (b42 : PySem.W.nsIn K mainGlobals "WellError" = some (some (.ref C42)))
    (q42 : PySem.W.keepIn K (.ref C42) = true)
    (ch : chkB K [C0, C1, C2, C3, C4, C5, C6, C7, C8, C9, C10, C11, C12, C13, C14, C15, C16, C17, C18, C19, C20, C21, C22, C23, C24, C25, C26, C27, C28, C29, C30, C31, C32, C33, C34, C35, C36, C37, C38, C39, C40, C41, C42] = true)
    (a_0 : PySem.W.nsIn K mainGlobals "_law_churn" = some (some (.ref f_0))) (l_0 : K.lookup f_0 = some ⟨oc_0, od_0, .func (PySem.W.fnOf "_law_churn" "_law_churn" (defArgs s_law_churn) (defBody s_law_churn) (defScope s_law_churn) .none kV_0 dc_0 pm_0 an_0 cd_0 ct_0), sl_0⟩) (c_0 : PySem.W.codeIn K cd_0 "_law_churn" = true) (k_0 : PySem.W.keepIn K (.ref f_0) = true)
    (a_1 : PySem.W.nsIn K mainGlobals "_law_skim" = some (some (.ref f_1))) (l_1 : K.lookup f_1 = some ⟨oc_1, od_1, .func (PySem.W.fnOf "_law_skim" "_law_skim" (defArgs s_law_skim) (defBody s_law_skim) (defScope s_law_skim) .none kV_1 dc_1 pm_1 an_1 cd_1 ct_1), sl_1⟩) (c_1 : PySem.W.codeIn K cd_1 "_law_skim" = true) (k_1 : PySem.W.keepIn K (.ref f_1) = true)
    (a_2 : PySem.W.nsIn K mainGlobals "_law_parts" = some (some (.ref f_2))) (l_2 : K.lookup f_2 = some ⟨oc_2, od_2, .func (PySem.W.fnOf "_law_parts" "_law_parts" (defArgs s_law_parts) (defBody s_law_parts) (defScope s_law_parts) .none kV_2 dc_2 pm_2 an_2 cd_2 ct_2), sl_2⟩) (c_2 : PySem.W.codeIn K cd_2 "_law_parts" = true) (k_2 : PySem.W.keepIn K (.ref f_2) = true)
    (a_3 : PySem.W.nsIn K mainGlobals "_law_parts_turned" = some (some (.ref f_3))) (l_3 : K.lookup f_3 = some ⟨oc_3, od_3, .func (PySem.W.fnOf "_law_parts_turned" "_law_parts_turned" (defArgs s_law_parts_turned) (defBody s_law_parts_turned) (defScope s_law_parts_turned) .none kV_3 dc_3 pm_3 an_3 cd_3 ct_3), sl_3⟩) (c_3 : PySem.W.codeIn K cd_3 "_law_parts_turned" = true) (k_3 : PySem.W.keepIn K (.ref f_3) = true)
    (a_4 : PySem.W.nsIn K mainGlobals "_law_others" = some (some (.ref f_4))) (l_4 : K.lookup f_4 = some ⟨oc_4, od_4, .func (PySem.W.fnOf "_law_others" "_law_others" (defArgs s_law_others) (defBody s_law_others) (defScope s_law_others) .none kV_4 dc_4 pm_4 an_4 cd_4 ct_4), sl_4⟩) (c_4 : PySem.W.codeIn K cd_4 "_law_others" = true) (k_4 : PySem.W.keepIn K (.ref f_4) = true)
    (a_5 : PySem.W.nsIn K mainGlobals "_law_others_named" = some (some (.ref f_5))) (l_5 : K.lookup f_5 = some ⟨oc_5, od_5, .func (PySem.W.fnOf "_law_others_named" "_law_others_named" (defArgs s_law_others_named) (defBody s_law_others_named) (defScope s_law_others_named) .none kV_5 dc_5 pm_5 an_5 cd_5 ct_5), sl_5⟩) (c_5 : PySem.W.codeIn K cd_5 "_law_others_named" = true) (k_5 : PySem.W.keepIn K (.ref f_5) = true)
    (a_6 : PySem.W.nsIn K mainGlobals "_law_fields" = some (some (.ref f_6))) (l_6 : K.lookup f_6 = some ⟨oc_6, od_6, .func (PySem.W.fnOf "_law_fields" "_law_fields" (defArgs s_law_fields) (defBody s_law_fields) (defScope s_law_fields) .none kV_6 dc_6 pm_6 an_6 cd_6 ct_6), sl_6⟩) (c_6 : PySem.W.codeIn K cd_6 "_law_fields" = true) (k_6 : PySem.W.keepIn K (.ref f_6) = true)
    (a_7 : PySem.W.nsIn K mainGlobals "_law_kin" = some (some (.ref f_7))) (l_7 : K.lookup f_7 = some ⟨oc_7, od_7, .func (PySem.W.fnOf "_law_kin" "_law_kin" (defArgs s_law_kin) (defBody s_law_kin) (defScope s_law_kin) .none kV_7 dc_7 pm_7 an_7 cd_7 ct_7), sl_7⟩) (c_7 : PySem.W.codeIn K cd_7 "_law_kin" = true) (k_7 : PySem.W.keepIn K (.ref f_7) = true)
    (a_8 : PySem.W.nsIn K mainGlobals "_law_stands_right" = some (some (.ref f_8))) (l_8 : K.lookup f_8 = some ⟨oc_8, od_8, .func (PySem.W.fnOf "_law_stands_right" "_law_stands_right" (defArgs s_law_stands_right) (defBody s_law_stands_right) (defScope s_law_stands_right) .none kV_8 dc_8 pm_8 an_8 cd_8 ct_8), sl_8⟩) (c_8 : PySem.W.codeIn K cd_8 "_law_stands_right" = true) (k_8 : PySem.W.keepIn K (.ref f_8) = true)
    (a_9 : PySem.W.nsIn K mainGlobals "_law_all_right" = some (some (.ref f_9))) (l_9 : K.lookup f_9 = some ⟨oc_9, od_9, .func (PySem.W.fnOf "_law_all_right" "_law_all_right" (defArgs s_law_all_right) (defBody s_law_all_right) (defScope s_law_all_right) .none kV_9 dc_9 pm_9 an_9 cd_9 ct_9), sl_9⟩) (c_9 : PySem.W.codeIn K cd_9 "_law_all_right" = true) (k_9 : PySem.W.keepIn K (.ref f_9) = true)
    (a_10 : PySem.W.nsIn K mainGlobals "law" = some (some (.ref f_10))) (l_10 : K.lookup f_10 = some ⟨oc_10, od_10, .func (PySem.W.fnOf "law" "law" (defArgs s_law) (defBody s_law) (defScope s_law) .none kV_10 dc_10 pm_10 an_10 cd_10 ct_10), sl_10⟩) (c_10 : PySem.W.codeIn K cd_10 "law" = true) (k_10 : PySem.W.keepIn K (.ref f_10) = true)
    (z_isinstance : PySem.W.nsIn K mainGlobals "isinstance" = some none)
    (z_int : PySem.W.nsIn K mainGlobals "int" = some none)
    (z_len : PySem.W.nsIn K mainGlobals "len" = some none)
    (z_abs : PySem.W.nsIn K mainGlobals "abs" = some none)
    (z_range : PySem.W.nsIn K mainGlobals "range" = some none)
    (z_repr : PySem.W.nsIn K mainGlobals "repr" = some none)
    (z_enumerate : PySem.W.nsIn K mainGlobals "enumerate" = some none)
    (z_ValueError : PySem.W.nsIn K mainGlobals "ValueError" = some none)
    (z_LookupError : PySem.W.nsIn K mainGlobals "LookupError" = some none)
    (z_TypeError : PySem.W.nsIn K mainGlobals "TypeError" = some none)
    (z_ArithmeticError : PySem.W.nsIn K mainGlobals "ArithmeticError" = some none)
    (z_RuntimeError : PySem.W.nsIn K mainGlobals "RuntimeError" = some none)
    (z_AttributeError : PySem.W.nsIn K mainGlobals "AttributeError" = some none) :
    ∃ fd : FuncData, (∀ (s : Shared) (v : Value), BindsTo s fd ⟨[v], []⟩ [("_law_script", v)]) ∧ ∀ base : Heap, K.In base → base.Ns mainGlobals mg → FnG l.prog w K mg base 4 fa fd ["_law_script"] (spLaw K) := by
  have D_0 : DF K mg "_law_churn" s_law_churn f_0 _ := ⟨fun_mk (st := s_law_churn) l_0 c_0 k_0, PySem.W.mg_of X G a_0⟩
  have D_1 : DF K mg "_law_skim" s_law_skim f_1 _ := ⟨fun_mk (st := s_law_skim) l_1 c_1 k_1, PySem.W.mg_of X G a_1⟩
  have D_2 : DF K mg "_law_parts" s_law_parts f_2 _ := ⟨fun_mk (st := s_law_parts) l_2 c_2 k_2, PySem.W.mg_of X G a_2⟩
  have D_3 : DF K mg "_law_parts_turned" s_law_parts_turned f_3 _ := ⟨fun_mk (st := s_law_parts_turned) l_3 c_3 k_3, PySem.W.mg_of X G a_3⟩
  have D_4 : DF K mg "_law_others" s_law_others f_4 _ := ⟨fun_mk (st := s_law_others) l_4 c_4 k_4, PySem.W.mg_of X G a_4⟩
  have D_5 : DF K mg "_law_others_named" s_law_others_named f_5 _ := ⟨fun_mk (st := s_law_others_named) l_5 c_5 k_5, PySem.W.mg_of X G a_5⟩
  have D_6 : DF K mg "_law_fields" s_law_fields f_6 _ := ⟨fun_mk (st := s_law_fields) l_6 c_6 k_6, PySem.W.mg_of X G a_6⟩
  have D_7 : DF K mg "_law_kin" s_law_kin f_7 _ := ⟨fun_mk (st := s_law_kin) l_7 c_7 k_7, PySem.W.mg_of X G a_7⟩
  have D_8 : DF K mg "_law_stands_right" s_law_stands_right f_8 _ := ⟨fun_mk (st := s_law_stands_right) l_8 c_8 k_8, PySem.W.mg_of X G a_8⟩
  have D_9 : DF K mg "_law_all_right" s_law_all_right f_9 _ := ⟨fun_mk (st := s_law_all_right) l_9 c_9 k_9, PySem.W.mg_of X G a_9⟩
  have D_10 : DF K mg "law" s_law f_10 _ := ⟨fun_mk (st := s_law) l_10 c_10 k_10, PySem.W.mg_of X G a_10⟩
  have T : Txt K mg := ⟨PySem.W.mg_none_of X G z_isinstance, PySem.W.mg_none_of X G z_int, PySem.W.mg_none_of X G z_len, PySem.W.mg_none_of X G z_abs, PySem.W.mg_none_of X G z_range, PySem.W.mg_none_of X G z_repr, PySem.W.mg_none_of X G z_enumerate, PySem.W.mg_none_of X G z_ValueError, PySem.W.mg_none_of X G z_LookupError, PySem.W.mg_none_of X G z_TypeError, PySem.W.mg_none_of X G z_ArithmeticError, PySem.W.mg_none_of X G z_RuntimeError, PySem.W.mg_none_of X G z_AttributeError⟩
  obtain ⟨N, O, Z⟩ := chk_ok ch
  have e := hfa.symm.trans (PySem.W.mg_of X G a_10)
  cases e
  refine ⟨PySem.W.fnOf "law" "law" (defArgs s_law) (defBody s_law) (defScope s_law) .none kV_10 dc_10 pm_10 an_10 cd_10 ct_10, fun s v => .of_eq rfl, fun base _ _ => ?_⟩
  have M : Cls l.prog w K mg base [C0, C1, C2, C3, C4, C5, C6, C7, C8, C9, C10, C11, C12, C13, C14, C15, C16, C17, C18, C19, C20, C21, C22, C23, C24, C25, C26, C27, C28, C29, C30, C31, C32, C33, C34, C35, C36, C37, C38, C39, C40, C41, C42] := ⟨er_BadRule X G b0 i0 l0 c0 k0 t0 (O 0 (by decide)) (N.nf 0 (by decide)),
    er_BadPast X G b1 i1 l1 c1 k1 t1 (O 1 (by decide)) (N.nf 1 (by decide)),
    er_BadQuestion X G b2 i2 l2 c2 k2 t2 (O 2 (by decide)) (N.nf 2 (by decide)),
    er_BadStock X G b3 i3 l3 c3 k3 t3 (O 3 (by decide)) (N.nf 3 (by decide)),
    er_BadWish X G b4 i4 l4 c4 k4 t4 (O 4 (by decide)) (N.nf 4 (by decide)),
    er_BadCase X G b5 i5 l5 c5 k5 t5 (O 5 (by decide)) (N.nf 5 (by decide)),
    er_BadSituation X G b6 i6 l6 c6 k6 t6 (O 6 (by decide)) (N.nf 6 (by decide)),
    er_BadHearing X G b7 i7 l7 c7 k7 t7 (O 7 (by decide)) (N.nf 7 (by decide)),
    er_BadList X G b8 i8 l8 c8 k8 t8 (O 8 (by decide)) (N.nf 8 (by decide)),
    er_BadPlan X G b9 i9 l9 c9 k9 t9 (O 9 (by decide)) (N.nf 9 (by decide)),
    er_BadPrices X G b10 i10 l10 c10 k10 t10 (O 10 (by decide)) (N.nf 10 (by decide)),
    er_BadBars X G b11 i11 l11 c11 k11 t11 (O 11 (by decide)) (N.nf 11 (by decide)),
    er_BadEvening X G b12 i12 l12 c12 k12 t12 (O 12 (by decide)) (N.nf 12 (by decide)),
    er_BadStory X G b13 i13 l13 c13 k13 t13 (O 13 (by decide)) (N.nf 13 (by decide)),
    er_BadNumber X G b14 i14 l14 c14 k14 t14 (O 14 (by decide)) (N.nf 14 (by decide)),
    er_BadPaper X G b15 i15 l15 c15 k15 t15 (O 15 (by decide)) (N.nf 15 (by decide)),
    er_NoThing X G b16 i16 l16 c16 k16 t16 (O 16 (by decide)) (N.nf 16 (by decide)),
    er_NoAnswerer X G b17 i17 l17 c17 k17 t17 (O 17 (by decide)) (N.nf 17 (by decide)),
    er_NoHeap X G b18 i18 l18 c18 k18 t18 (O 18 (by decide)) (N.nf 18 (by decide)),
    er_NoStand X G b19 i19 l19 c19 k19 t19 (O 19 (by decide)) (N.nf 19 (by decide)),
    er_NoQuestion X G b20 i20 l20 c20 k20 t20 (O 20 (by decide)) (N.nf 20 (by decide)),
    er_NoAsked X G b21 i21 l21 c21 k21 t21 (O 21 (by decide)) (N.nf 21 (by decide)),
    er_NoName X G b22 i22 l22 c22 k22 t22 (O 22 (by decide)) (N.nf 22 (by decide)),
    er_Twice X G b23 i23 l23 c23 k23 t23 (O 23 (by decide)) (N.nf 23 (by decide)),
    er_Unlike X G b24 i24 l24 c24 k24 t24 (O 24 (by decide)) (N.nf 24 (by decide)),
    er_Barred X G b25 i25 l25 c25 k25 t25 (O 25 (by decide)) (N.nf 25 (by decide)),
    er_NotFading X G b26 i26 l26 c26 k26 t26 (O 26 (by decide)) (N.nf 26 (by decide)),
    er_NotFreer X G b27 i27 l27 c27 k27 t27 (O 27 (by decide)) (N.nf 27 (by decide)),
    er_Late X G b28 i28 l28 c28 k28 t28 (O 28 (by decide)) (N.nf 28 (by decide)),
    er_Unheard X G b29 i29 l29 c29 k29 t29 (O 29 (by decide)) (N.nf 29 (by decide)),
    er_Heard X G b30 i30 l30 c30 k30 t30 (O 30 (by decide)) (N.nf 30 (by decide)),
    er_Broken X G b31 i31 l31 c31 k31 t31 (O 31 (by decide)) (N.nf 31 (by decide)),
    er_TooMany X G b32 i32 l32 c32 k32 t32 (O 32 (by decide)) (N.nf 32 (by decide)),
    er_BadText X G b33 i33 l33 c33 k33 t33 (O 33 (by decide)) (N.nf 33 (by decide)),
    er_BadLine X G b34 i34 l34 c34 k34 t34 (O 34 (by decide)) (N.nf 34 (by decide)),
    er_Dead X G b35 i35 l35 c35 k35 t35 (O 35 (by decide)) (N.nf 35 (by decide)),
    ⟨Z 36 (by decide), PySem.W.mg_of X G b36, q36⟩,
    ⟨Z 37 (by decide), PySem.W.mg_of X G b37, q37⟩,
    ⟨Z 38 (by decide), PySem.W.mg_of X G b38, q38⟩,
    ⟨Z 39 (by decide), PySem.W.mg_of X G b39, q39⟩,
    ⟨Z 40 (by decide), PySem.W.mg_of X G b40, q40⟩,
    er_Missing X G b41 i41 l41 c41 k41 t41 (O 41 (by decide)) (N.nf 41 (by decide)),
    ⟨Z 42 (by decide), PySem.W.mg_of X G b42, q42⟩⟩
  have c0 := (ok_jug (P := l.prog) (w := w) (base := base) D_0 T).cal (fun _ _ _ _ _ _ us hl => match us, hl with | [_], _ => rfl)
  have c1 := (ok_pour (P := l.prog) (w := w) (base := base) D_1).cal (fun _ _ _ _ _ _ us hl => match us, hl with | [_, _], _ => rfl)
  have c2 := (ok_law_parts D_2 M).cal (fun _ _ _ _ _ _ us hl => match us, hl with | [_], _ => rfl)
  have c3 := (ok_law_parts_turned D_3 M).cal (fun _ _ _ _ _ _ us hl => match us, hl with | [_], _ => rfl)
  have c4 := (ok_law_others D_4 M).cal (fun _ _ _ _ _ _ us hl => match us, hl with | [_, _, _], _ => rfl)
  have c5 := (ok_law_others_named D_5 M).cal (fun _ _ _ _ _ _ us hl => match us, hl with | [_, _, _], _ => rfl)
  have c6 := (ok_law_fields (P := l.prog) (w := w) (base := base) D_6 N).cal (fun _ _ _ _ _ _ us hl => match us, hl with | [_, _], _ => rfl)
  have c7 := (ok_law_kin D_7 T M N).cal (fun _ _ _ _ _ _ us hl => match us, hl with | [_], _ => rfl)
  have c8 := (ok_law_stands_right D_8 T M N c7).cal (fun _ _ _ _ _ _ us hl => match us, hl with | [_, _], _ => rfl)
  have c9 := ok_law_all_right D_9 T c6 c8
  exact (ok_law D_10 T M N c0 c1 c2 c3 c4 c5 c7 c9 (D_9.fn.binds (fun _ _ _ _ _ _ us hl => match us, hl with | [_, _], _ => rfl))).ok

end K00


set_option maxHeartbeats 0
namespace K00
open PySem PySem.Spec PyProof.Rows L2 XB XV XG
theorem my_ok {K : PySem.W.Frag} (h : myB K = true) : chkB K (nml.map (He.ga K)) = true ∧ ∀ x ∈ ownl, PySem.W.findIn K (.ref (He.ga K x)) "__init__" = some (some (.ref (He.ma K (He.ga K x) "__init__"))) ∧ PySem.W.typeIn K (.ref (He.ma K (He.ga K x) "__init__")) = some (.type "function") ∧ PySem.W.keepIn K (.ref (He.ma K (He.ga K x) "__init__")) = true := by
  obtain ⟨h1, h2⟩ := two h
  refine ⟨h1, fun x hx => ?_⟩
  obtain ⟨g1, g⟩ := two (List.all_eq_true.mp h2 x hx)
  obtain ⟨g2, g3⟩ := two g
  exact ⟨He.eqO_ok g1, of_decide_eq_true g2, g3⟩

theorem facts {l : PySem.W.OpenLaw} {w : World} {K : PySem.W.Frag} {h : Heap} {mg : Str → Option Value} {fa : Addr} (X : K.In h) (G : h.Ns mainGlobals mg) (hfa : mg "law" = some (.ref fa)) (c : obsM K = valM) :
    ∃ fd : FuncData, (∀ (s : Shared) (v : Value), BindsTo s fd ⟨[v], []⟩ [("_law_script", v)]) ∧ ∀ base : Heap, K.In base → base.Ns mainGlobals mg → FnG l.prog w K mg base 4 fa fd ["_law_script"] (spLaw K) := by
  have c1 : He.SaysE fal fnl K := congrArg Prod.snd c
  have c0 : myB K = true := congrArg Prod.fst c
  obtain ⟨ch, ini⟩ := my_ok c0
  obtain ⟨_, _, _, _, _, _, _, _, _, l0, k0⟩ := c1.def_ 0 (d := fnl.getD 0 dfd) rfl
  obtain ⟨_, _, _, _, _, _, _, _, _, l1, k1⟩ := c1.def_ 1 (d := fnl.getD 1 dfd) rfl
  obtain ⟨_, _, _, _, _, _, _, _, _, l2, k2⟩ := c1.def_ 2 (d := fnl.getD 2 dfd) rfl
  obtain ⟨_, _, _, _, _, _, _, _, _, l3, k3⟩ := c1.def_ 3 (d := fnl.getD 3 dfd) rfl
  obtain ⟨_, _, _, _, _, _, _, _, _, l4, k4⟩ := c1.def_ 4 (d := fnl.getD 4 dfd) rfl
  obtain ⟨_, _, _, _, _, _, _, _, _, l5, k5⟩ := c1.def_ 5 (d := fnl.getD 5 dfd) rfl
  obtain ⟨_, _, _, _, _, _, _, _, _, l6, k6⟩ := c1.def_ 6 (d := fnl.getD 6 dfd) rfl
  obtain ⟨_, _, _, _, _, _, _, _, _, l7, k7⟩ := c1.def_ 7 (d := fnl.getD 7 dfd) rfl
  obtain ⟨_, _, _, _, _, _, _, _, _, l8, k8⟩ := c1.def_ 8 (d := fnl.getD 8 dfd) rfl
  obtain ⟨_, _, _, _, _, _, _, _, _, l9, k9⟩ := c1.def_ 9 (d := fnl.getD 9 dfd) rfl
  obtain ⟨_, _, _, _, _, _, _, _, _, l10, k10⟩ := c1.def_ 10 (d := fnl.getD 10 dfd) rfl
  obtain ⟨_, _, _, _, _, _, _, _, _, l11, k11⟩ := c1.def_ 11 (d := fnl.getD 11 dfd) rfl
  obtain ⟨_, _, _, _, _, _, _, _, _, l12, k12⟩ := c1.def_ 12 (d := fnl.getD 12 dfd) rfl
  obtain ⟨_, _, _, _, _, _, _, _, _, l13, k13⟩ := c1.def_ 13 (d := fnl.getD 13 dfd) rfl
  obtain ⟨_, _, _, _, _, _, _, _, _, l14, k14⟩ := c1.def_ 14 (d := fnl.getD 14 dfd) rfl
  obtain ⟨_, _, _, _, _, _, _, _, _, l15, k15⟩ := c1.def_ 15 (d := fnl.getD 15 dfd) rfl
  obtain ⟨_, _, _, _, _, _, _, _, _, l16, k16⟩ := c1.def_ 16 (d := fnl.getD 16 dfd) rfl
  obtain ⟨_, _, _, _, _, _, _, _, _, l17, k17⟩ := c1.def_ 17 (d := fnl.getD 17 dfd) rfl
  obtain ⟨_, _, _, _, _, _, _, _, _, l18, k18⟩ := c1.def_ 18 (d := fnl.getD 18 dfd) rfl
  obtain ⟨_, _, _, _, _, _, _, _, _, l19, k19⟩ := c1.def_ 19 (d := fnl.getD 19 dfd) rfl
  obtain ⟨_, _, _, _, _, _, _, _, _, l20, k20⟩ := c1.def_ 20 (d := fnl.getD 20 dfd) rfl
  obtain ⟨_, _, _, _, _, _, _, _, _, l21, k21⟩ := c1.def_ 21 (d := fnl.getD 21 dfd) rfl
  obtain ⟨_, _, _, _, _, _, _, _, _, l22, k22⟩ := c1.def_ 22 (d := fnl.getD 22 dfd) rfl
  obtain ⟨_, _, _, _, _, _, _, _, _, l23, k23⟩ := c1.def_ 23 (d := fnl.getD 23 dfd) rfl
  obtain ⟨_, _, _, _, _, _, _, _, _, l24, k24⟩ := c1.def_ 24 (d := fnl.getD 24 dfd) rfl
  obtain ⟨_, _, _, _, _, _, _, _, _, l25, k25⟩ := c1.def_ 25 (d := fnl.getD 25 dfd) rfl
  obtain ⟨_, _, _, _, _, _, _, _, _, l26, k26⟩ := c1.def_ 26 (d := fnl.getD 26 dfd) rfl
  obtain ⟨_, _, _, _, _, _, _, _, _, l27, k27⟩ := c1.def_ 27 (d := fnl.getD 27 dfd) rfl
  obtain ⟨_, _, _, _, _, _, _, _, _, l28, k28⟩ := c1.def_ 28 (d := fnl.getD 28 dfd) rfl
  obtain ⟨_, _, _, _, _, _, _, _, _, l29, k29⟩ := c1.def_ 29 (d := fnl.getD 29 dfd) rfl
  obtain ⟨_, _, _, _, _, _, _, _, _, l30, k30⟩ := c1.def_ 30 (d := fnl.getD 30 dfd) rfl
  obtain ⟨_, _, _, _, _, _, _, _, _, l31, k31⟩ := c1.def_ 31 (d := fnl.getD 31 dfd) rfl
  obtain ⟨_, _, _, _, _, _, _, _, _, l32, k32⟩ := c1.def_ 32 (d := fnl.getD 32 dfd) rfl
  obtain ⟨_, _, _, _, _, _, _, _, _, l33, k33⟩ := c1.def_ 33 (d := fnl.getD 33 dfd) rfl
  obtain ⟨_, _, _, _, _, _, _, _, _, l34, k34⟩ := c1.def_ 34 (d := fnl.getD 34 dfd) rfl
  obtain ⟨_, _, _, _, _, _, _, _, _, l35, k35⟩ := c1.def_ 35 (d := fnl.getD 35 dfd) rfl
  obtain ⟨_, _, _, _, _, _, _, _, _, l36, k36⟩ := c1.def_ 36 (d := fnl.getD 36 dfd) rfl
  obtain ⟨_, _, _, _, _, _, _, _, _, l37, k37⟩ := c1.def_ 37 (d := fnl.getD 37 dfd) rfl
  obtain ⟨_, _, _, _, _, _, _, _, _, l38, k38⟩ := c1.def_ 38 (d := fnl.getD 38 dfd) rfl
  obtain ⟨_, _, _, _, _, _, _, _, _, l39, k39⟩ := c1.def_ 39 (d := fnl.getD 39 dfd) rfl
  obtain ⟨_, _, _, _, _, _, _, _, _, l40, k40⟩ := c1.def_ 40 (d := fnl.getD 40 dfd) rfl
  obtain ⟨_, _, _, _, _, _, _, _, _, l41, k41⟩ := c1.def_ 41 (d := fnl.getD 41 dfd) rfl
  obtain ⟨_, _, _, _, _, _, _, _, _, l42, k42⟩ := c1.def_ 42 (d := fnl.getD 42 dfd) rfl
  obtain ⟨_, _, _, _, _, _, _, _, _, l43, k43⟩ := c1.def_ 43 (d := fnl.getD 43 dfd) rfl
  obtain ⟨_, _, _, _, _, _, _, _, _, l44, k44⟩ := c1.def_ 44 (d := fnl.getD 44 dfd) rfl
  obtain ⟨_, _, _, _, _, _, _, _, _, l45, k45⟩ := c1.def_ 45 (d := fnl.getD 45 dfd) rfl
  obtain ⟨_, _, _, _, _, _, _, _, _, l46, k46⟩ := c1.def_ 46 (d := fnl.getD 46 dfd) rfl
  obtain ⟨_, _, _, _, _, _, _, _, _, l47, k47⟩ := c1.def_ 47 (d := fnl.getD 47 dfd) rfl
  exact all_mk X G hfa (He.eqO_ok (c1.fact 0 (f := .glo "BadRule") rfl))
    (ini "BadRule" (List.mem_of_getElem? (i := 0) rfl)).1 l0 k0 (ini "BadRule" (List.mem_of_getElem? (i := 0) rfl)).2.2 (ini "BadRule" (List.mem_of_getElem? (i := 0) rfl)).2.1
    (He.eqO_ok (c1.fact 1 (f := .glo "BadPast") rfl))
    (ini "BadPast" (List.mem_of_getElem? (i := 1) rfl)).1 l1 k1 (ini "BadPast" (List.mem_of_getElem? (i := 1) rfl)).2.2 (ini "BadPast" (List.mem_of_getElem? (i := 1) rfl)).2.1
    (He.eqO_ok (c1.fact 2 (f := .glo "BadQuestion") rfl))
    (ini "BadQuestion" (List.mem_of_getElem? (i := 2) rfl)).1 l2 k2 (ini "BadQuestion" (List.mem_of_getElem? (i := 2) rfl)).2.2 (ini "BadQuestion" (List.mem_of_getElem? (i := 2) rfl)).2.1
    (He.eqO_ok (c1.fact 3 (f := .glo "BadStock") rfl))
    (ini "BadStock" (List.mem_of_getElem? (i := 3) rfl)).1 l3 k3 (ini "BadStock" (List.mem_of_getElem? (i := 3) rfl)).2.2 (ini "BadStock" (List.mem_of_getElem? (i := 3) rfl)).2.1
    (He.eqO_ok (c1.fact 4 (f := .glo "BadWish") rfl))
    (ini "BadWish" (List.mem_of_getElem? (i := 4) rfl)).1 l4 k4 (ini "BadWish" (List.mem_of_getElem? (i := 4) rfl)).2.2 (ini "BadWish" (List.mem_of_getElem? (i := 4) rfl)).2.1
    (He.eqO_ok (c1.fact 5 (f := .glo "BadCase") rfl))
    (ini "BadCase" (List.mem_of_getElem? (i := 5) rfl)).1 l5 k5 (ini "BadCase" (List.mem_of_getElem? (i := 5) rfl)).2.2 (ini "BadCase" (List.mem_of_getElem? (i := 5) rfl)).2.1
    (He.eqO_ok (c1.fact 6 (f := .glo "BadSituation") rfl))
    (ini "BadSituation" (List.mem_of_getElem? (i := 6) rfl)).1 l6 k6 (ini "BadSituation" (List.mem_of_getElem? (i := 6) rfl)).2.2 (ini "BadSituation" (List.mem_of_getElem? (i := 6) rfl)).2.1
    (He.eqO_ok (c1.fact 7 (f := .glo "BadHearing") rfl))
    (ini "BadHearing" (List.mem_of_getElem? (i := 7) rfl)).1 l7 k7 (ini "BadHearing" (List.mem_of_getElem? (i := 7) rfl)).2.2 (ini "BadHearing" (List.mem_of_getElem? (i := 7) rfl)).2.1
    (He.eqO_ok (c1.fact 8 (f := .glo "BadList") rfl))
    (ini "BadList" (List.mem_of_getElem? (i := 8) rfl)).1 l8 k8 (ini "BadList" (List.mem_of_getElem? (i := 8) rfl)).2.2 (ini "BadList" (List.mem_of_getElem? (i := 8) rfl)).2.1
    (He.eqO_ok (c1.fact 9 (f := .glo "BadPlan") rfl))
    (ini "BadPlan" (List.mem_of_getElem? (i := 9) rfl)).1 l9 k9 (ini "BadPlan" (List.mem_of_getElem? (i := 9) rfl)).2.2 (ini "BadPlan" (List.mem_of_getElem? (i := 9) rfl)).2.1
    (He.eqO_ok (c1.fact 10 (f := .glo "BadPrices") rfl))
    (ini "BadPrices" (List.mem_of_getElem? (i := 10) rfl)).1 l10 k10 (ini "BadPrices" (List.mem_of_getElem? (i := 10) rfl)).2.2 (ini "BadPrices" (List.mem_of_getElem? (i := 10) rfl)).2.1
    (He.eqO_ok (c1.fact 11 (f := .glo "BadBars") rfl))
    (ini "BadBars" (List.mem_of_getElem? (i := 11) rfl)).1 l11 k11 (ini "BadBars" (List.mem_of_getElem? (i := 11) rfl)).2.2 (ini "BadBars" (List.mem_of_getElem? (i := 11) rfl)).2.1
    (He.eqO_ok (c1.fact 12 (f := .glo "BadEvening") rfl))
    (ini "BadEvening" (List.mem_of_getElem? (i := 12) rfl)).1 l12 k12 (ini "BadEvening" (List.mem_of_getElem? (i := 12) rfl)).2.2 (ini "BadEvening" (List.mem_of_getElem? (i := 12) rfl)).2.1
    (He.eqO_ok (c1.fact 13 (f := .glo "BadStory") rfl))
    (ini "BadStory" (List.mem_of_getElem? (i := 13) rfl)).1 l13 k13 (ini "BadStory" (List.mem_of_getElem? (i := 13) rfl)).2.2 (ini "BadStory" (List.mem_of_getElem? (i := 13) rfl)).2.1
    (He.eqO_ok (c1.fact 14 (f := .glo "BadNumber") rfl))
    (ini "BadNumber" (List.mem_of_getElem? (i := 14) rfl)).1 l14 k14 (ini "BadNumber" (List.mem_of_getElem? (i := 14) rfl)).2.2 (ini "BadNumber" (List.mem_of_getElem? (i := 14) rfl)).2.1
    (He.eqO_ok (c1.fact 15 (f := .glo "BadPaper") rfl))
    (ini "BadPaper" (List.mem_of_getElem? (i := 15) rfl)).1 l15 k15 (ini "BadPaper" (List.mem_of_getElem? (i := 15) rfl)).2.2 (ini "BadPaper" (List.mem_of_getElem? (i := 15) rfl)).2.1
    (He.eqO_ok (c1.fact 16 (f := .glo "NoThing") rfl))
    (ini "NoThing" (List.mem_of_getElem? (i := 16) rfl)).1 l16 k16 (ini "NoThing" (List.mem_of_getElem? (i := 16) rfl)).2.2 (ini "NoThing" (List.mem_of_getElem? (i := 16) rfl)).2.1
    (He.eqO_ok (c1.fact 17 (f := .glo "NoAnswerer") rfl))
    (ini "NoAnswerer" (List.mem_of_getElem? (i := 17) rfl)).1 l17 k17 (ini "NoAnswerer" (List.mem_of_getElem? (i := 17) rfl)).2.2 (ini "NoAnswerer" (List.mem_of_getElem? (i := 17) rfl)).2.1
    (He.eqO_ok (c1.fact 18 (f := .glo "NoHeap") rfl))
    (ini "NoHeap" (List.mem_of_getElem? (i := 18) rfl)).1 l18 k18 (ini "NoHeap" (List.mem_of_getElem? (i := 18) rfl)).2.2 (ini "NoHeap" (List.mem_of_getElem? (i := 18) rfl)).2.1
    (He.eqO_ok (c1.fact 19 (f := .glo "NoStand") rfl))
    (ini "NoStand" (List.mem_of_getElem? (i := 19) rfl)).1 l19 k19 (ini "NoStand" (List.mem_of_getElem? (i := 19) rfl)).2.2 (ini "NoStand" (List.mem_of_getElem? (i := 19) rfl)).2.1
    (He.eqO_ok (c1.fact 20 (f := .glo "NoQuestion") rfl))
    (ini "NoQuestion" (List.mem_of_getElem? (i := 20) rfl)).1 l20 k20 (ini "NoQuestion" (List.mem_of_getElem? (i := 20) rfl)).2.2 (ini "NoQuestion" (List.mem_of_getElem? (i := 20) rfl)).2.1
    (He.eqO_ok (c1.fact 21 (f := .glo "NoAsked") rfl))
    (ini "NoAsked" (List.mem_of_getElem? (i := 21) rfl)).1 l21 k21 (ini "NoAsked" (List.mem_of_getElem? (i := 21) rfl)).2.2 (ini "NoAsked" (List.mem_of_getElem? (i := 21) rfl)).2.1
    (He.eqO_ok (c1.fact 22 (f := .glo "NoName") rfl))
    (ini "NoName" (List.mem_of_getElem? (i := 22) rfl)).1 l22 k22 (ini "NoName" (List.mem_of_getElem? (i := 22) rfl)).2.2 (ini "NoName" (List.mem_of_getElem? (i := 22) rfl)).2.1
    (He.eqO_ok (c1.fact 23 (f := .glo "Twice") rfl))
    (ini "Twice" (List.mem_of_getElem? (i := 23) rfl)).1 l23 k23 (ini "Twice" (List.mem_of_getElem? (i := 23) rfl)).2.2 (ini "Twice" (List.mem_of_getElem? (i := 23) rfl)).2.1
    (He.eqO_ok (c1.fact 24 (f := .glo "Unlike") rfl))
    (ini "Unlike" (List.mem_of_getElem? (i := 24) rfl)).1 l24 k24 (ini "Unlike" (List.mem_of_getElem? (i := 24) rfl)).2.2 (ini "Unlike" (List.mem_of_getElem? (i := 24) rfl)).2.1
    (He.eqO_ok (c1.fact 25 (f := .glo "Barred") rfl))
    (ini "Barred" (List.mem_of_getElem? (i := 25) rfl)).1 l25 k25 (ini "Barred" (List.mem_of_getElem? (i := 25) rfl)).2.2 (ini "Barred" (List.mem_of_getElem? (i := 25) rfl)).2.1
    (He.eqO_ok (c1.fact 26 (f := .glo "NotFading") rfl))
    (ini "NotFading" (List.mem_of_getElem? (i := 26) rfl)).1 l26 k26 (ini "NotFading" (List.mem_of_getElem? (i := 26) rfl)).2.2 (ini "NotFading" (List.mem_of_getElem? (i := 26) rfl)).2.1
    (He.eqO_ok (c1.fact 27 (f := .glo "NotFreer") rfl))
    (ini "NotFreer" (List.mem_of_getElem? (i := 27) rfl)).1 l27 k27 (ini "NotFreer" (List.mem_of_getElem? (i := 27) rfl)).2.2 (ini "NotFreer" (List.mem_of_getElem? (i := 27) rfl)).2.1
    (He.eqO_ok (c1.fact 28 (f := .glo "Late") rfl))
    (ini "Late" (List.mem_of_getElem? (i := 28) rfl)).1 l28 k28 (ini "Late" (List.mem_of_getElem? (i := 28) rfl)).2.2 (ini "Late" (List.mem_of_getElem? (i := 28) rfl)).2.1
    (He.eqO_ok (c1.fact 29 (f := .glo "Unheard") rfl))
    (ini "Unheard" (List.mem_of_getElem? (i := 29) rfl)).1 l29 k29 (ini "Unheard" (List.mem_of_getElem? (i := 29) rfl)).2.2 (ini "Unheard" (List.mem_of_getElem? (i := 29) rfl)).2.1
    (He.eqO_ok (c1.fact 30 (f := .glo "Heard") rfl))
    (ini "Heard" (List.mem_of_getElem? (i := 30) rfl)).1 l30 k30 (ini "Heard" (List.mem_of_getElem? (i := 30) rfl)).2.2 (ini "Heard" (List.mem_of_getElem? (i := 30) rfl)).2.1
    (He.eqO_ok (c1.fact 31 (f := .glo "Broken") rfl))
    (ini "Broken" (List.mem_of_getElem? (i := 31) rfl)).1 l31 k31 (ini "Broken" (List.mem_of_getElem? (i := 31) rfl)).2.2 (ini "Broken" (List.mem_of_getElem? (i := 31) rfl)).2.1
    (He.eqO_ok (c1.fact 32 (f := .glo "TooMany") rfl))
    (ini "TooMany" (List.mem_of_getElem? (i := 32) rfl)).1 l32 k32 (ini "TooMany" (List.mem_of_getElem? (i := 32) rfl)).2.2 (ini "TooMany" (List.mem_of_getElem? (i := 32) rfl)).2.1
    (He.eqO_ok (c1.fact 33 (f := .glo "BadText") rfl))
    (ini "BadText" (List.mem_of_getElem? (i := 33) rfl)).1 l33 k33 (ini "BadText" (List.mem_of_getElem? (i := 33) rfl)).2.2 (ini "BadText" (List.mem_of_getElem? (i := 33) rfl)).2.1
    (He.eqO_ok (c1.fact 34 (f := .glo "BadLine") rfl))
    (ini "BadLine" (List.mem_of_getElem? (i := 34) rfl)).1 l34 k34 (ini "BadLine" (List.mem_of_getElem? (i := 34) rfl)).2.2 (ini "BadLine" (List.mem_of_getElem? (i := 34) rfl)).2.1
    (He.eqO_ok (c1.fact 35 (f := .glo "Dead") rfl))
    (ini "Dead" (List.mem_of_getElem? (i := 35) rfl)).1 l35 k35 (ini "Dead" (List.mem_of_getElem? (i := 35) rfl)).2.2 (ini "Dead" (List.mem_of_getElem? (i := 35) rfl)).2.1
    (He.eqO_ok (c1.fact 36 (f := .glo "Silent") rfl))
    (He.keep_ok (c1.fact 78 (f := .keep "Silent") rfl))
    (He.eqO_ok (c1.fact 37 (f := .glo "NotEven") rfl))
    (He.keep_ok (c1.fact 79 (f := .keep "NotEven") rfl))
    (He.eqO_ok (c1.fact 38 (f := .glo "Never") rfl))
    (He.keep_ok (c1.fact 80 (f := .keep "Never") rfl))
    (He.eqO_ok (c1.fact 39 (f := .glo "Settled") rfl))
    (He.keep_ok (c1.fact 81 (f := .keep "Settled") rfl))
    (He.eqO_ok (c1.fact 40 (f := .glo "NoDeed") rfl))
    (He.keep_ok (c1.fact 82 (f := .keep "NoDeed") rfl))
    (He.eqO_ok (c1.fact 41 (f := .glo "Missing") rfl))
    (ini "Missing" (List.mem_of_getElem? (i := 36) rfl)).1 l36 k36 (ini "Missing" (List.mem_of_getElem? (i := 36) rfl)).2.2 (ini "Missing" (List.mem_of_getElem? (i := 36) rfl)).2.1
    (He.eqO_ok (c1.fact 42 (f := .glo "WellError") rfl))
    (He.keep_ok (c1.fact 83 (f := .keep "WellError") rfl))
    ch
    (He.eqO_ok (c1.fact 43 (f := .glo "_law_churn") rfl)) l37 k37 (He.keep_ok (c1.fact 54 (f := .keep "_law_churn") rfl))
    (He.eqO_ok (c1.fact 44 (f := .glo "_law_skim") rfl)) l38 k38 (He.keep_ok (c1.fact 55 (f := .keep "_law_skim") rfl))
    (He.eqO_ok (c1.fact 45 (f := .glo "_law_parts") rfl)) l39 k39 (He.keep_ok (c1.fact 56 (f := .keep "_law_parts") rfl))
    (He.eqO_ok (c1.fact 46 (f := .glo "_law_parts_turned") rfl)) l40 k40 (He.keep_ok (c1.fact 57 (f := .keep "_law_parts_turned") rfl))
    (He.eqO_ok (c1.fact 47 (f := .glo "_law_others") rfl)) l41 k41 (He.keep_ok (c1.fact 58 (f := .keep "_law_others") rfl))
    (He.eqO_ok (c1.fact 48 (f := .glo "_law_others_named") rfl)) l42 k42 (He.keep_ok (c1.fact 59 (f := .keep "_law_others_named") rfl))
    (He.eqO_ok (c1.fact 49 (f := .glo "_law_fields") rfl)) l43 k43 (He.keep_ok (c1.fact 60 (f := .keep "_law_fields") rfl))
    (He.eqO_ok (c1.fact 50 (f := .glo "_law_kin") rfl)) l44 k44 (He.keep_ok (c1.fact 61 (f := .keep "_law_kin") rfl))
    (He.eqO_ok (c1.fact 51 (f := .glo "_law_stands_right") rfl)) l45 k45 (He.keep_ok (c1.fact 62 (f := .keep "_law_stands_right") rfl))
    (He.eqO_ok (c1.fact 52 (f := .glo "_law_all_right") rfl)) l46 k46 (He.keep_ok (c1.fact 63 (f := .keep "_law_all_right") rfl))
    (He.eqO_ok (c1.fact 53 (f := .glo "law") rfl)) l47 k47 (He.keep_ok (c1.fact 64 (f := .keep "law") rfl))
    (He.eqO_ok (c1.fact 65 (f := .free "isinstance") rfl))
    (He.eqO_ok (c1.fact 66 (f := .free "int") rfl))
    (He.eqO_ok (c1.fact 67 (f := .free "len") rfl))
    (He.eqO_ok (c1.fact 68 (f := .free "abs") rfl))
    (He.eqO_ok (c1.fact 69 (f := .free "range") rfl))
    (He.eqO_ok (c1.fact 70 (f := .free "repr") rfl))
    (He.eqO_ok (c1.fact 71 (f := .free "enumerate") rfl))
    (He.eqO_ok (c1.fact 72 (f := .free "ValueError") rfl))
    (He.eqO_ok (c1.fact 73 (f := .free "LookupError") rfl))
    (He.eqO_ok (c1.fact 74 (f := .free "TypeError") rfl))
    (He.eqO_ok (c1.fact 75 (f := .free "ArithmeticError") rfl))
    (He.eqO_ok (c1.fact 76 (f := .free "RuntimeError") rfl))
    (He.eqO_ok (c1.fact 77 (f := .free "AttributeError") rfl))
-- law stands at 55 of 56
theorem walkE {l : PySem.W.OpenLaw} {n k : Nat} {q : Program} {loose : List Str} {XP : (Str → Option Value) → Heap → Prop} {YP : World → Heap → Prop} {d : DefRec} {x : Str}
    (hn : l.most = some n) (hn2 : n ≤ sizeLine) (hdf : d.params.defaults = []) (hr : Room k callerA)
    (F : ∀ (w : World) (mg : Str → Option Value) (fa : Addr) (h : Heap), YP w h → h.Ns mainGlobals mg → mg d.name = some (.ref fa) →
      ∃ (K : PySem.W.Frag) (fd : FuncData) (sp : Sp), K.In h ∧ (∀ (s : Shared) (u : Value), BindsTo s fd ⟨[u], []⟩ [(x, u)]) ∧ (∀ (H : Hp) (a : Addr) (ns : List Int), ns.length ≤ n → Only H → SqL K H a (ns.map V.int) → sp [.ref a] H (fun v _ => v = .bl true) fun _ _ _ => False) ∧
        ∀ base : Heap, K.In base → base.Ns mainGlobals mg → FnG l.prog w K mg base k fa fd [x] sp) :
    PySem.W.WalkO q loose XP YP l.row.toRowW d [] (fun f vs => PySem.call f vs) := by
  refine Att.attach_call hn hdf fun w s₀ s₁ mg mb fa o pm cd doc a vs ns G Y ho hd hcd hmg hobj hints hlen hg => ?_
  obtain ⟨K, fd, sp, KX, hb, hsp, hF⟩ := F w mg fa _ Y G.T.g hmg
  exact callG KX G.T.g G.T.b G.T.builtins G.T.nolimit hg hobj hints (Nat.le_trans hlen hn2) hr hF hb fun H hO hS => hsp H a ns hlen hO hS
end K00


set_option maxHeartbeats 0
namespace K00
open PySem PySem.W PySem.Calls PyProof.Rows
end K00

set_option maxHeartbeats 0
open PySem PySem.W PySem.Calls PyProof.Rows
theorem PySem.Challenge.cw_truthwell_k00_errors_keep_their_fields_holds : PySem.Challenge.rw_truthwell_k00_errors_keep_their_fields.Holds := by
  w_on; o_law
  refine HandSHeadRun.head_any (r := OpenLaw.row PySem.Challenge.rw_truthwell_k00_errors_keep_their_fields) (q := view (OpenLaw.row PySem.Challenge.rw_truthwell_k00_errors_keep_their_fields).prog [55]) (H := K00.hookM 5) (ob := K00.obw) (M := 20000) (loose := K00.loo)
    (d := HandSHeadRun.topDef (OpenLaw.row PySem.Challenge.rw_truthwell_k00_errors_keep_their_fields).prog 55) (kwd := []) K00.obw_eq
    (by kernel_rfl) (fun s => by kernel_rfl) K00.run (by kernel_rfl) (by kernel_rfl) (by kernel_rfl) (by rfl) (by first | assumption | decide +kernel) (by decide +kernel) ⟨rfl, rfl, rfl, rfl, rfl, by decide +kernel⟩ ?hw ?hc
  case hw => w_witness2
  case hc =>
    refine K00.walkE (l := PySem.Challenge.rw_truthwell_k00_errors_keep_their_fields) (n := 63) (k := 4) (x := "_law_script") rfl (by decide) (by kernel_rfl) ⟨rfl, by decide, by decide⟩ ?F
    intro w mg fa h Y G hmg0
    obtain ⟨K, KX, c⟩ := Y
    have hmg : mg ("law" : PySem.Str) = some (.ref fa) := by
      have e : (HandSHeadRun.topDef (OpenLaw.row PySem.Challenge.rw_truthwell_k00_errors_keep_their_fields).prog 55).name = ("law" : PySem.Str) := by kernel_rfl
      rw [← e]
      exact hmg0
    obtain ⟨fd, hb, hF⟩ := K00.facts (l := PySem.Challenge.rw_truthwell_k00_errors_keep_their_fields) (w := w) KX G hmg c
    exact ⟨K, fd, K00.spLaw K, KX, hb, fun H a ns hl _ hS => ⟨a, ns, rfl, hS, hl, fun _ => rfl⟩, hF⟩

