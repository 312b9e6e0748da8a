import PyProof.Rows.All
import Wide.All
import OpenK.AllK
import Wide.FinOn
import HandS.ForMost
import HandS.Codes
import HandS.IsInst
import HandS.Wide
import HandS.Walk
import HandS.Style
import HandS.Flow
import PySem.Challenge.RW_truthwell_k01_kinds_of_any_values
set_option Elab.async false
set_option linter.all false
set_option maxRecDepth 100000
namespace XB
open PySem PySem.Spec PyProof.Rows L2
/-! ### rules of my own -/
section
variable {X : Cx}
/-- x is True, x is False: x an int or a bool -/
def rIsT : R2 := fun x y H Q => ∃ b : Bool, y = .bl b ∧ ((∃ i, x = .int i ∧ Q (.bl false) H) ∨ ∃ c : Bool, x = .bl c ∧ Q (.bl (decide (c = b))) H)
theorem op_isT : OpR X (compareOp .Is) rIsT := by
  intro pins s σ H x y v u Q I rx ry h
  obtain ⟨b, rfl, h⟩ := h
  cases (show u = Value.bool b from ry)
  rcases h with ⟨i, rfl, q⟩ | ⟨a, rfl, q⟩
  · obtain ⟨t, rfl⟩ := rx
    exact wpAny_is_other rfl (fun z => nomatch z) ⟨.bl false, H, I, rfl, q⟩
  · cases (show v = Value.bool a from rx)
    by_cases e : a = b
    · subst e
      exact wpAny_is_self rfl ⟨.bl true, H, I, rfl, by simpa using q⟩
    · exact wpAny_is_other rfl (fun z => e (Value.bool.inj z)) ⟨.bl false, H, I, rfl, by simpa [e] using q⟩
/-- a text times a number, 2 to 100 -/
def rMulS : R2 := fun x y H Q => ∃ (z : Str) (n : Int), x = .str z ∧ y = .int n ∧ 2 ≤ n ∧ n ≤ 100 ∧ 1 ≤ z.length ∧ z.length ≤ 1000 ∧ (⟨(List.replicate n.toNat z.cps).foldl (· ++ ·) #[]⟩ : Str).length ≤ sizeLine ∧ Q (.str ⟨(List.replicate n.toNat z.cps).foldl (· ++ ·) #[]⟩) H
theorem op_mulS : OpR X (binaryOp .Mult) rMulS := by
  intro pins s σ H x y v u Q I rx ry h
  obtain ⟨z, n, rfl, rfl, h1, h2, h3, h4, h5, q⟩ := h
  obtain ⟨t, rfl⟩ := rx
  obtain ⟨t', rfl⟩ := ry
  have n1 : (n == 1 || z.length == 0) = false := by
    rw [Bool.or_eq_false_iff]
    exact ⟨beq_eq_false_iff_ne.mpr (by omega), beq_eq_false_iff_ne.mpr (by omega)⟩
  refine PySem.P.mul_str ?_ (fun _ _ => ?_) (fun _ _ => ?_) ?_
  · have a : ¬ n < -(2 ^ 63 : Int) := by omega
    have b : ¬ n ≥ 2 ^ 63 := by omega
    rw [decide_eq_false a, decide_eq_false b]
    rfl
  · have hz : (z.length : Int) ≤ 1000 := by omega
    have : (1000 : Int) ≤ (2 ^ 63 - 1) / n := by
      rw [Int.le_ediv_iff_mul_le (by omega)]
      omega
    omega
  · unfold Builtin.Str.tooLong
    refine decide_eq_false ?_
    have : z.length * n.toNat ≤ 1000 * 100 := Nat.mul_le_mul h4 (by omega)
    have e : (1000 * 100 : Nat) ≤ sizeLine := by decide
    omega
  · rw [if_neg (by omega), n1]
    exact ⟨h5, .str ⟨_⟩, H, I.tok _, ⟨_, rfl⟩, q⟩
end
/-- a def of the module, called by keywords alone -/
structure CalK (P : Program) (w : World) (K : PySem.W.Frag) (mg : Str → Option Value) (base : Heap) (k : Nat) (x : Str) (ks : List Str) (sp : Sp) (g : {α : Type} → List α → List α) : Prop where
  ex : ∃ (f : Addr) (fd : FuncData) (ps : List Str), FnOk P w K mg base CX0 k f fd ps sp ∧ mg x = some (.ref f) ∧ PySem.W.keepIn K (.ref f) = true ∧
    (∀ (s : Shared) (ws : List Value), ws.length = ks.length → BindsTo s fd ⟨[], ks.zip ws⟩ (ps.zip (g ws))) ∧ (∀ {zs : List V} {ws : List Value}, Vals zs ws → Vals (g zs) (g ws))
def tCK0 (sp : Sp) (n : Nat) (g : {α : Type} → List α → List α) (tk : TA) : TE := fun σ H Q => tk σ H fun zs H2 => zs.length = n ∧ sp (g zs) H2 Q E0
section
variable {X : Cx} {k j : Nat} {x : Str} {ks : List Str} {sp : Sp} {g : {α : Type} → List α → List α} {kws : List Keyword} {tk : TA} {p pos : Pos}
theorem pe_ck0 (c : CalK X.prog X.w X.K X.mg X.base k x ks sp g) (hr : Room j X.A) (hk : k ≤ j) (hg : Gl X x) (hkw : PK X kws tk)
    (hall : (backToKw pos (keywordEach kws X.env)).all (·.1.isSome) = true := by rfl) (hks : (backToKw pos (keywordEach kws X.env)).filterMap (·.1) = ks := by rfl) (hdb : (x == ("__debug__" : Str)) = false := by decide)
    (hpl : ((backTo pos (starEach [] X.env)).any (·.1) || (backToKw pos (keywordEach kws X.env)).any (·.1.isNone)) = false := by rfl) :
    PE X (.Call (.Name x p) [] kws pos) (tCK0 sp ks.length g tk) := by
  obtain ⟨f, fd, ps, F, hm, kp, hb, hrel⟩ := c.ex
  refine ⟨fun pins s σ H Q I h => ?_⟩
  refine wpAny_Call_Name_kw (ld_glob I hg hm ?_ hdb)
  refine PySem.W.callWith_KW0 (h₀ := X.base) I.ok.mod.kin kp hall ?_ hpl
  refine thn (hkw.run pos pins s σ H _ I h) fun ws s2 ⟨zs, H2, I2, rz, l2, q2⟩ => ⟨I2.kIn, ?_⟩
  rw [hks]
  have lw : ws.length = ks.length := rz.length.symm.trans l2
  refine wpAny_call (codeAny_mono (F.run X.A X.stack s2 H2 ⟨[], ks.zip ws⟩ (g ws) (g zs) Q E0 (hr.mono hk) I2.env0 (hb s2 ws lw) (hrel rz) q2) fun r s' hq => ?_)
  cases r with
  | error e => exact pass0 pins σ H2 s2 e s' I2 hq
  | ok fl =>
    cases fl with
    | ret u => exact I2.after hq
    | next => exact False.elim hq
    | brk => exact False.elim hq
    | cont => exact False.elim hq
end
theorem upd_self {H : Hp} {a : Addr} {o : HO} (h : H a = some o) : upd H a o = H := by
  funext b
  by_cases e : b = a
  · rw [e, upd_same, h]
  · rw [upd_ne e]
/-! ### heaps: all but one object as it was -/
def Keep (a : Addr) (H H' : Hp) : Prop := ∀ b o, b ≠ a → H b = some o → H' b = some o
theorem Keep.refl (a : Addr) (H : Hp) : Keep a H H := fun _ _ _ h => h
theorem Keep.trans {a : Addr} {H H1 H2 : Hp} (x : Keep a H H1) (y : Keep a H1 H2) : Keep a H H2 := fun b o n h => y b o n (x b o n h)
theorem Keep.new {a p : Addr} {H : Hp} {o : HO} (h : H p = none) : Keep a H (upd H p o) := fun b u _ e => by
  rw [upd_ne (ne_of_none e h)]
  exact e
theorem Keep.at {a : Addr} {H : Hp} {o : HO} : Keep a H (upd H a o) := fun b u n e => by
  rw [upd_ne n]
  exact e
/-- an object that H does not know changes -/
theorem Keep.mut {a p : Addr} {H H' : Hp} {o : HO} (k : Keep a H H') (h : H p = none) : Keep a H (upd H' p o) := fun b u n e => by
  rw [upd_ne (ne_of_none e h)]
  exact k b u n e
theorem Keep.free {a p : Addr} {H H' : Hp} (k : Keep a H H') (h : H' p = none) (n : p ≠ a) : H p = none := by
  cases q : H p with
  | none => rfl
  | some o =>
    rw [k p o n q] at h
    cases h
theorem Keep.seqL {K : PySem.W.Frag} {a b : Addr} {H H' : Hp} {xs : List V} (e : Keep a H H') (n : b ≠ a) (h : SqL K H b xs) : SqL K H' b xs := by
  rcases h with (h | ⟨o, h⟩) | h
  · exact .inl (.inl (e _ _ n h))
  · exact .inl (.inr ⟨o, e _ _ n h⟩)
  · exact .inr h
theorem Keep.seqT {K : PySem.W.Frag} {a b : Addr} {H H' : Hp} {xs : List V} (e : Keep a H H') (n : b ≠ a) (h : SqT K H b xs) : SqT K H' b xs := by
  rcases h with (h | ⟨o, h⟩) | h
  · exact .inl (.inl (e _ _ n h))
  · exact .inl (.inr ⟨o, e _ _ n h⟩)
  · exact .inr h
theorem seq_in {K : PySem.W.Frag} {a : Addr} {H : Hp} {xs : List V} (h : H a = some (.lst xs)) : SqL K H a xs := .inl (.inl h)
theorem sqt_in {K : PySem.W.Frag} {a : Addr} {H : Hp} {xs : List V} (h : H a = some (.tup xs)) : SqT K H a xs := .inl (.inl h)
/-! ### what draws: a list of a great number and a count -/
structure Jug (H : Hp) (a : Addr) (n : Nat) : Prop where
  ex : ∃ w c : Int, H a = some (.lst [.int w, .int c]) ∧ 0 ≤ w ∧ w.natAbs < 2 ^ 1000 ∧ 0 ≤ c ∧ c ≤ n
theorem Jug.mono {H : Hp} {a : Addr} {n m : Nat} (j : Jug H a n) (h : n ≤ m) : Jug H a m := by
  obtain ⟨w, c, e, h1, h2, h3, h4⟩ := j.ex
  exact ⟨w, c, e, h1, h2, h3, by omega⟩
theorem Jug.upd {H : Hp} {a p : Addr} {n : Nat} {o : HO} (j : Jug H a n) (h : p ≠ a) : Jug (upd H p o) a n := by
  obtain ⟨w, c, e, h1⟩ := j.ex
  exact ⟨w, c, by rw [upd_ne h.symm]; exact e, h1⟩
theorem Jug.new {H : Hp} {a p : Addr} {n : Nat} {o : HO} (j : Jug H a n) (h : H p = none) : Jug (L2.upd H p o) a n := by
  obtain ⟨w, c, e, _⟩ := j.ex
  exact j.upd (ne_of_none e h).symm
theorem Jug.ne {H : Hp} {a p : Addr} {n : Nat} (j : Jug H a n) (h : H p = none) : p ≠ a := by
  obtain ⟨w, c, e, _⟩ := j.ex
  exact (ne_of_none e h).symm
/-- the promise of what draws an integer below a number -/
def spPour : Sp := fun vs H Q _ => ∃ (a : Addr) (m : Int) (n : Nat), vs = [.ref a, .int m] ∧ 0 < m ∧ m.natAbs < 2 ^ 300 ∧ Jug H a n ∧ n ≤ 2 ^ 40 ∧
  ∀ (r : Int) (H' : Hp), 0 ≤ r → r < m → Jug H' a (n + 1) → Keep a H H' → (∀ p, H p = none → H' p = none) → Q (.int r) H'
/-- the promise of what makes it -/
def spJug (K : PySem.W.Frag) : Sp := fun vs H Q _ => ∃ (a : Addr) (ns : List Int), vs = [.ref a] ∧ SqL K H a (ns.map V.int) ∧
  ∀ (p : Addr) (H' : Hp), H p = none → Jug H' p 0 → Same H H' → Q (.ref p) H'
end XB

namespace XB
open PySem PySem.Spec PyProof.Rows L2
open C8 (Cal Met Mak pe_c pe_mk pe_mt pe_mt0 pss_cut tCut)
/-- a def of the top, called x -/
structure DF (K : PySem.W.Frag) (mg : Str → Option Value) (x : Str) (st : Stmt) (f : Addr) (fd : FuncData) : Prop where
  fn : Fun K x x st f fd
  mgf : mg x = some (.ref f)
section
variable {P : Program} {w : World} {K : PySem.W.Frag} {mg : Str → Option Value} {base : Heap}
/-- it keeps a promise -/
structure OkD (P : Program) (w : World) (K : PySem.W.Frag) (mg : Str → Option Value) (base : Heap) (k : Nat) (x : Str) (st : Stmt) (ps : List Str) (sp : Sp) (f : Addr) (fd : FuncData) : Prop where
  df : DF K mg x st f fd
  ok : FnOk P w K mg base CX0 k f fd ps sp
theorem okd {x : Str} {st : Stmt} {f : Addr} {fd : FuncData} {N ps : List Str} {k : Nat} {sp : Sp} (D : DF K mg x st f fd) (S : FnScope N ps (defScope st)) (len : ∀ vs H Q E, sp vs H Q E → vs.length = ps.length)
    (hbody : ∀ (cdv : Value) (A : Around) (outer : List Env) (s : Shared) (H : Hp) (vs : List V) (Q : VK) (E : XK), Room k (A.deeper (envOfC x (defScope st) s.heap.objs.size f cdv)) → sp vs H Q E →
      ∃ t, PSs (cxOf CX0 P w K mg base N x (defScope st) f cdv A outer s H E).nox (defBody st) t ∧ t { nx := fun _ H' => Q .non H', rt := Q } (start N vs) H) : OkD P w K mg base (k + 1) x st ps sp f fd := ⟨D, D.fn.ok S len hbody⟩
theorem OkD.cal {x : Str} {st : Stmt} {f : Addr} {fd : FuncData} {ps : List Str} {k : Nat} {sp : Sp} (O : OkD P w K mg base k x st ps sp f fd)
    (h : ∀ (kV doc pm : Value) (an : Option Addr) (cdv ct : Value) (us : List Value), us.length = ps.length → bindArgs (PySem.W.fnOf x x (defArgs st) (defBody st) (defScope st) .none kV doc pm an cdv ct) ⟨us, []⟩ = pure (ps.zip us)) : Cal P w K mg base k x sp [] :=
  ⟨f, fd, ps, [], O.ok, O.df.mgf, O.df.fn.kp, O.df.fn.binds h, .nil⟩
theorem OkD.calk {x : Str} {st : Stmt} {f : Addr} {fd : FuncData} {ps ks : List Str} {k : Nat} {sp : Sp} {g : {α : Type} → List α → List α} (O : OkD P w K mg base k x st ps sp f fd)
    (h : ∀ (kV doc pm : Value) (an : Option Addr) (cdv ct : Value) (ws : List Value), ws.length = ks.length → bindArgs (PySem.W.fnOf x x (defArgs st) (defBody st) (defScope st) .none kV doc pm an cdv ct) ⟨[], ks.zip ws⟩ = pure (ps.zip (g ws)))
    (hr : ∀ {zs : List V} {ws : List Value}, Vals zs ws → Vals (g zs) (g ws)) : CalK P w K mg base k x ks sp g := by
  obtain ⟨oc, od, kV, doc, pm, an, cdv, ct, osl, rfl, lk, hcd⟩ := O.df.fn.ex
  exact ⟨f, _, ps, O.ok, O.df.mgf, O.df.fn.kp, fun s ws l => .of_eq (h kV doc pm an cdv ct ws l), hr⟩
end
/-! ### small mathematics -/
theorem cut_to (xs : List V) (n : Nat) : cutV xs none (some (n : Int)) = xs.take n := by
  unfold cutV
  rw [HT.sIx_none, HT.sIx_nat]
  show List.take (min n xs.length - 0) (List.drop 0 xs) = xs.take n
  rw [List.drop_zero, Nat.sub_zero]
  by_cases h : n ≤ xs.length
  · rw [Nat.min_eq_left h]
  · rw [Nat.min_eq_right (by omega), List.take_of_length_le (Nat.le_refl _), List.take_of_length_le (by omega)]
end XB

namespace K01
open PySem PySem.Spec PyProof.Rows L2 XB
open C8 (Cal Met Mak pe_c pe_mk pe_mt pe_mt0 pss_cut tCut)
def top (i : Nat) : Stmt := PySem.Challenge.pw_truthwell_k01_kinds_of_any_values.main.body.getD i (.Pass ⟨0, 0, 0, 0⟩)
abbrev s_is_integer : Stmt := (top 3)
abbrev n_is_integer : List Str := ["value"]
theorem sc_is_integer : FnScope n_is_integer ["value"] (defScope s_is_integer) := ⟨rfl, rfl, rfl, by decide +kernel, rfl, by decide +kernel, by decide +kernel⟩
abbrev s_is_within : Stmt := (top 4)
abbrev n_is_within : List Str := ["value", "least", "most"]
theorem sc_is_within : FnScope n_is_within ["value", "least", "most"] (defScope s_is_within) := ⟨rfl, rfl, rfl, by decide +kernel, rfl, by decide +kernel, by decide +kernel⟩
abbrev s_is_name : Stmt := (top 5)
abbrev n_is_name : List Str := ["value", "sign"]
theorem sc_is_name : FnScope n_is_name ["value"] (defScope s_is_name) := ⟨rfl, rfl, rfl, by decide +kernel, rfl, by decide +kernel, by decide +kernel⟩
abbrev s_law_jug : Stmt := (top 7)
abbrev n_law_jug : List Str := ["_law_script", "_law_whole", "_law_cell"]
theorem sc_law_jug : FnScope n_law_jug ["_law_script"] (defScope s_law_jug) := ⟨rfl, rfl, rfl, by decide +kernel, rfl, by decide +kernel, by decide +kernel⟩
abbrev s_law_pour : Stmt := (top 8)
abbrev n_law_pour : List Str := ["_law_jug_here", "_law_many", "_law_rest"]
theorem sc_law_pour : FnScope n_law_pour ["_law_jug_here", "_law_many"] (defScope s_law_pour) := ⟨rfl, rfl, rfl, by decide +kernel, rfl, by decide +kernel, by decide +kernel⟩
abbrev s_law_text : Stmt := (top 9)
abbrev n_law_text : List Str := ["_law_jug_here", "_law_is_odd", "_law_many", "_law_signs", "_law_text_here", "_law_at", "_law_others", "_law_turn"]
theorem sc_law_text : FnScope n_law_text ["_law_jug_here"] (defScope s_law_text) := ⟨rfl, rfl, rfl, by decide +kernel, rfl, by decide +kernel, by decide +kernel⟩
abbrev s_law_value : Stmt := (top 10)
abbrev n_law_value : List Str := ["_law_jug_here", "_law_way", "_law_plain"]
theorem sc_law_value : FnScope n_law_value ["_law_jug_here"] (defScope s_law_value) := ⟨rfl, rfl, rfl, by decide +kernel, rfl, by decide +kernel, by decide +kernel⟩
abbrev s_law_is_number : Stmt := (top 11)
abbrev n_law_is_number : List Str := ["_law_value_here"]
theorem sc_law_is_number : FnScope n_law_is_number ["_law_value_here"] (defScope s_law_is_number) := ⟨rfl, rfl, rfl, by decide +kernel, rfl, by decide +kernel, by decide +kernel⟩
abbrev s_law_is_name : Stmt := (top 12)
abbrev n_law_is_name : List Str := ["_law_value_here", "_law_sign"]
theorem sc_law_is_name : FnScope n_law_is_name ["_law_value_here"] (defScope s_law_is_name) := ⟨rfl, rfl, rfl, by decide +kernel, rfl, by decide +kernel, by decide +kernel⟩
abbrev s_law_bound : Stmt := (top 13)
abbrev n_law_bound : List Str := ["_law_jug_here", "_law_value_here", "_law_begin"]
theorem sc_law_bound : FnScope n_law_bound ["_law_jug_here", "_law_value_here"] (defScope s_law_bound) := ⟨rfl, rfl, rfl, by decide +kernel, rfl, by decide +kernel, by decide +kernel⟩
abbrev s_law_within_right : Stmt := (top 14)
abbrev n_law_within_right : List Str := ["_law_jug_here", "_law_value_here", "_law_least", "_law_most", "_law_due", "_law_told"]
theorem sc_law_within_right : FnScope n_law_within_right ["_law_jug_here", "_law_value_here"] (defScope s_law_within_right) := ⟨rfl, rfl, rfl, by decide +kernel, rfl, by decide +kernel, by decide +kernel⟩
abbrev s_law : Stmt := (top 15)
abbrev n_law : List Str := ["_law_script", "_law_jug_here", "_law_turn", "_law_value_here", "_law_told"]
theorem sc_law : FnScope n_law ["_law_script"] (defScope s_law) := ⟨rfl, rfl, rfl, by decide +kernel, rfl, by decide +kernel, by decide +kernel⟩
def LET : Str := "abcdefghijklmnopqrstuvwxyz"
def DIG : Str := "0123456789"
structure Txt (K : PySem.W.Frag) (mg : Str → Option Value) : Prop where
  m_isinstance : mg "isinstance" = none
  m_int : mg "int" = none
  m_bool : mg "bool" = none
  m_str : mg "str" = none
  m_len : mg "len" = none
  m_all : mg "all" = none
  m_abs : mg "abs" = none
  m_range : mg "range" = none
  g_LETTERS : ∃ t, mg "LETTERS" = some (.str LET t)
  g_DIGITS : ∃ t, mg "DIGITS" = some (.str DIG t)
/-! ### what draws -/
section
variable {P : Program} {w : World} {K : PySem.W.Frag} {mg : Str → Option Value} {base : Heap}
theorem jug_step {v : Int} {b i r : Nat} (hv0 : 0 ≤ v) (hv : v.natAbs < 2 ^ (140 + 11 * i)) {x y : Int} (hx0 : 0 ≤ x) (hx : x < 10 ^ 40) (hy0 : 0 ≤ y) (hy : y ≤ 10 ^ 41) : 0 ≤ v * 1291 + x + y ∧ (v * 1291 + x + y).natAbs < 2 ^ (140 + 11 * (i + 1)) := by
  have p : (2 : Nat) ^ (140 + 11 * (i + 1)) = 2048 * 2 ^ (140 + 11 * i) := by
    rw [show 140 + 11 * (i + 1) = 11 + (140 + 11 * i) by omega, Nat.pow_add]
  have q : (2 : Nat) ^ 140 ≤ 2 ^ (140 + 11 * i) := Nat.pow_le_pow_right (by decide) (by omega)
  have e1 : (10 : Int) ^ 40 = 10000000000000000000000000000000000000000 := by decide
  have e2 : (10 : Int) ^ 41 = 100000000000000000000000000000000000000000 := by decide
  have e3 : (2 : Nat) ^ 140 = 1393796574908163946345982392040522594123776 := by decide
  rw [p]
  rw [e1] at hx
  rw [e2] at hy
  rw [e3] at q
  generalize (2 : Nat) ^ (140 + 11 * i) = M at *
  constructor <;> omega
theorem ok_jug {f : Addr} {fd : FuncData} (D : DF K mg "_law_jug" s_law_jug f fd) (T : Txt K mg) : OkD P w K mg base 1 "_law_jug" s_law_jug ["_law_script"] (spJug K) f fd := by
  refine okd D sc_law_jug (fun vs H Q E h => ?_) (fun cdv A outer s H vs Q E hr h => ?_)
  · obtain ⟨a, ns, rfl, _⟩ := h
    rfl
  · obtain ⟨a, ns, rfl, hS, q⟩ := h
    refine ⟨_, (pss_cons (ps_set (i := 1) sc_law_jug.nd rfl (Or.inl rfl) pe_int)
      (pss_cons (ps_for PassesOwn.never rfl (pi_list (pe_slice sl_list (pv 0) po_none (po_some pe_int))) (pg_name (i := 2) sc_law_jug.nd rfl (Or.inl rfl))
      (pss_one (ps_set (i := 1) sc_law_jug.nd rfl (Or.inl rfl) (pe_op op_add (pe_op op_add (pe_op op_mul (pv 1) pe_int) (pe_op op_mod (pe_callB call_abs (by rfl) T.m_abs (by decide +kernel) (pa_cons (pe_callTy call_int1 (by rfl) T.m_int (by decide +kernel) (pa_cons (pv 2) pa_nil)) pa_nil)) (pe_op op_pow pe_int pe_int))) (pe_op op_mul (pe_op op_pow pe_int pe_int) (pe_callTy call_int1 (by rfl) T.m_int (by decide +kernel) (pa_cons (pe_cmpR op_lt (pv 2) pe_int (nomark _)) pa_nil)))))))
      (pss_one (ps_ret (pe_lst (pa_cons (pv 1) (pa_cons pe_int pa_nil))))))), ?_⟩
    refine ⟨.ref a, rfl, 40, rfl, a, ns.map V.int, rfl, hS, fun p np => ?_⟩
    have e40 : cutV (ns.map V.int) none (some 40) = (ns.take 40).map V.int := by
      rw [show (40 : Int) = ((40 : Nat) : Int) from rfl, cut_to, List.map_take]
    rw [e40]
    have s1 : Same H (upd H p (.lst ((ns.take 40).map V.int))) := fun b o e => by
      rw [upd_ne (ne_of_none e np)]
      exact e
    have hp : SqL K (upd H p (.lst ((ns.take 40).map V.int))) p ((ns.take 40).map V.int) := seq_in upd_same
    have l40 : ((ns.take 40).map V.int).length ≤ 40 := by
      rw [List.length_map, List.length_take]
      exact Nat.min_le_left _ _
    refine ⟨p, rfl, ⟨_, hp⟩, for_list (K := K) (a := p) (xs := (ns.take 40).map V.int) (fun i σ H2 => H2 = upd H p (.lst ((ns.take 40).map V.int)) ∧ ∃ (v : Int) (c : Option V), σ = [some (.ref a), some (.int v), c] ∧ 0 ≤ v ∧ v.natAbs < 2 ^ (140 + 11 * i))
      ⟨rfl, 59, none, rfl, by decide, by decide⟩ (fun i σ H2 _ hh => by rw [hh.1]; exact hp) ?_ ?_⟩
    · rintro i y σ H2 hi ⟨rfl, v, c, rfl, v0, vb⟩
      obtain ⟨z, rfl⟩ : ∃ z, y = V.int z := by
        rw [List.getElem?_map] at hi
        cases e : (ns.take 40)[i]? with
        | none =>
          rw [e] at hi
          cases hi
        | some z =>
          rw [e] at hi
          exact ⟨z, (Option.some.inj hi).symm⟩
      refine ⟨.int v, rfl, v, 1291, rfl, rfl, .inr ⟨by decide, by decide⟩, .int z, rfl, .inl ⟨z, rfl, ?_⟩⟩
      refine ⟨z, rfl, 10, 40, rfl, rfl, ⟨by decide, by decide, by decide⟩, _, _, rfl, rfl, (by show (0 : Int) < 10 ^ 40; decide), _, _, rfl, rfl, ?_⟩
      refine ⟨10, 41, rfl, rfl, ⟨by decide, by decide, by decide⟩, .int z, rfl, z, 0, rfl, rfl, .inr ⟨_, rfl, ?_⟩⟩
      have hb : (0 : Int) ≤ (if decide (z < 0) = true then 1 else 0) ∧ (if decide (z < 0) = true then (1 : Int) else 0) ≤ 1 := by
        split <;> exact ⟨by decide, by decide⟩
      refine ⟨_, _, rfl, rfl, .inr ⟨by omega, by omega⟩, _, _, rfl, rfl, ?_⟩
      refine ⟨rfl, _, _, rfl, ?_⟩
      have e10 : (0 : Int) < 10 ^ 40 := by decide
      have m0 := Int.emod_nonneg (if z < 0 then -z else z) (Int.ne_of_gt e10)
      have m1 := Int.emod_lt_of_pos (if z < 0 then -z else z) e10
      have e11 : (10 : Int) ^ (41 : Int).toNat = 10 ^ 41 := rfl
      have b2 : (0 : Int) ≤ 10 ^ 41 * (if decide (z < 0) = true then 1 else 0) ∧ 10 ^ 41 * (if decide (z < 0) = true then (1 : Int) else 0) ≤ 10 ^ 41 := by
        split <;> constructor <;> decide
      exact jug_step (b := 0) (r := 0) v0 vb m0 m1 b2.1 b2.2
    · rintro σ H2 ⟨rfl, v, c, rfl, v0, vb⟩
      refine ⟨.int v, rfl, (by show 2 ≤ sizeLine; decide), fun j nj => ?_⟩
      have nj2 : H j = none := s1.free nj
      refine q j _ nj2 ⟨v, 0, upd_same, v0, Nat.lt_of_lt_of_le vb (Nat.pow_le_pow_right (by decide) (by omega)), by decide, by decide⟩ fun b o e => ?_
      rw [upd_ne (ne_of_none e nj2)]
      exact s1 b o e
theorem ok_pour {f : Addr} {fd : FuncData} (D : DF K mg "_law_pour" s_law_pour f fd) : OkD P w K mg base 1 "_law_pour" s_law_pour ["_law_jug_here", "_law_many"] spPour f fd := by
  refine okd D sc_law_pour (fun vs H Q E h => ?_) (fun cdv A outer s H vs Q E hr h => ?_)
  · obtain ⟨a, m, n, rfl, _⟩ := h
    rfl
  · obtain ⟨a, m, n, rfl, hm0, hm, J, hn, q⟩ := h
    obtain ⟨w0, c0, hj, w1, w2, c1, c2⟩ := J.ex
    refine ⟨_, (pss_cut (ps_if (pt_cmpR op_eq (pe_ix ix_list (pv 0) pe_int (fun _ _ => rfl)) pe_int (nomark _)) (pss_cons (ps_asg (pe_op op_add (pe_ix ix_list (pv 0) pe_int (fun _ _ => rfl)) pe_int) (pg_sub (pv 0) pe_int set_list))
      (pss_one (ps_asg (pe_op op_fdiv (pe_op op_pow (pe_op op_add (pe_op op_mul pe_int (pe_ix ix_list (pv 0) pe_int (fun _ _ => rfl))) pe_int) pe_int) pe_int) (pg_sub (pv 0) pe_int set_list)))) pss_nil)
      (pss_cons (ps_set (i := 2) sc_law_pour.nd rfl (Or.inl rfl) (pe_ix ix_list (pv 0) pe_int (fun _ _ => rfl)))
      (pss_cons (ps_asg (pe_op op_fdivW (pv 2) (pv 1)) (pg_sub (pv 0) pe_int set_list))
      (pss_one (ps_ret (pe_op op_mod (pv 2) (pv 1))))))), ?_⟩
    refine ⟨fun σ H' => σ = [some (.ref a), some (.int m), none] ∧ ∃ w c : Int, H' = upd H a (.lst [.int w, .int c]) ∧ 0 ≤ w ∧ w.natAbs < 2 ^ 1000 ∧ 0 ≤ c ∧ c ≤ (n + 1 : Nat), ?_, ?_⟩
    · refine ⟨.ref a, rfl, a, [.int w0, .int c0], 0, .int w0, rfl, rfl, seq_in hj, rfl, rfl, _, rfl, ite2 (fun e => ?_) (fun e => ?_)⟩
      · refine ⟨.ref a, rfl, a, _, 1, .int c0, rfl, rfl, seq_in hj, rfl, c0, 1, rfl, rfl, .ref a, rfl, a, _, 1, 1, rfl, rfl, hj, rfl, ?_⟩
        refine ⟨.ref a, rfl, a, _, 1, .int (c0 + 1), rfl, rfl, seq_in upd_same, rfl, 1013, c0 + 1, rfl, rfl, .inl ⟨by decide, by decide⟩, _, 3643, rfl, rfl, _, 13, rfl, rfl, ⟨by decide, by decide, ?_⟩, _, 7, rfl, rfl, ⟨by decide, by decide⟩, .ref a, rfl, a, _, 0, 0, rfl, rfl, upd_same, rfl, ?_⟩
        · have e40 : (2 : Nat) ^ 40 = 1099511627776 := by decide
          have e64 : (2 : Nat) ^ 64 = 18446744073709551616 := by decide
          omega
        · have h0 : (0 : Int) ≤ 1013 * (c0 + 1) + 3643 := by omega
          have h1 : (1013 * (c0 + 1) + 3643 : Int).natAbs < 2 ^ 64 := by
            have e40 : (2 : Nat) ^ 40 = 1099511627776 := by decide
            have e64 : (2 : Nat) ^ 64 = 18446744073709551616 := by decide
            omega
          obtain ⟨N, hN⟩ : ∃ N : Nat, (1013 * (c0 + 1) + 3643 : Int) = (N : Int) := ⟨_, (Int.toNat_of_nonneg h0).symm⟩
          rw [hN] at h1
          have h1' : N < 2 ^ 64 := h1
          have h2 : N ^ 13 < (2 ^ 64) ^ 13 := Nat.pow_lt_pow_left h1' (by decide)
          refine ⟨rfl, _, c0 + 1, upd_upd, ?_, ?_, by omega, by omega⟩
          · rw [hN]
            show (0 : Int) ≤ ((N : Int) ^ 13) / 7
            refine Int.ediv_nonneg ?_ (by decide)
            rw [← Int.natCast_pow]
            omega
          · rw [hN]
            show ((((N : Int) ^ 13) / 7 : Int)).natAbs < 2 ^ 1000
            rw [← Int.natCast_pow]
            have h3 : (((N ^ 13 : Nat) : Int) / 7).natAbs ≤ N ^ 13 := by omega
            refine Nat.lt_of_le_of_lt h3 (Nat.lt_trans h2 ?_)
            rw [← Nat.pow_mul]
            exact Nat.pow_lt_pow_right (by decide) (by decide)
      · exact ⟨rfl, w0, c0, (upd_self hj).symm, w1, w2, c1, by omega⟩
    · rintro σ' H' ⟨rfl, w', c', rfl, g1, g2, g3, g4⟩
      refine ⟨.ref a, rfl, a, _, 0, .int w', rfl, rfl, seq_in upd_same, rfl, ?_⟩
      refine ⟨.int w', rfl, .int m, rfl, _, _, rfl, rfl, wide_div (b := 300) hm0 hm (by decide) (by decide), .ref a, rfl, a, _, 0, 0, rfl, rfl, upd_same, rfl, ?_⟩
      refine ⟨.int w', rfl, .int m, rfl, _, _, rfl, rfl, hm0, ?_⟩
      refine q _ _ (Int.emod_nonneg _ (by omega)) (Int.emod_lt_of_pos _ hm0) ⟨w' / m, c', ?_, Int.ediv_nonneg g1 (by omega), ?_, g3, g4⟩ ?_ ?_
      · rw [upd_upd, upd_same]
        rfl
      · refine Nat.lt_of_le_of_lt ?_ g2
        have : w' / m ≤ w' := Int.ediv_le_self _ g1
        have : 0 ≤ w' / m := Int.ediv_nonneg g1 (by omega)
        omega
      · intro b o nb e
        rw [upd_upd, upd_ne nb]
        exact e
      · intro p np
        have nb : p ≠ a := (ne_of_none hj np).symm
        rw [upd_upd, upd_ne nb]
        exact np
end

end K01

namespace K01
open PySem PySem.Spec PyProof.Rows L2 XB
open C8 (Cal Met Mak pe_c pe_mk pe_mt pe_mt0 pss_cut tCut)
/-! ### what a drawn value is -/
inductive Ty where | int | bool | str | non | lst | tup
def Ty.nm : Ty → String
  | .int => "int" | .bool => "bool" | .str => "str" | .non => "NoneType" | .lst => "list" | .tup => "tuple"
def Ty.isI : Ty → Bool
  | .int => true | .bool => true | _ => false
def Ty.isB : Ty → Bool
  | .bool => true | _ => false
def Ty.isS : Ty → Bool
  | .str => true | _ => false
def Ty.isN : Ty → Bool
  | .int => true | _ => false
inductive IsV (H : Hp) : V → Ty → Prop where
  | int (i : Int) : IsV H (.int i) .int
  | bl (b : Bool) : IsV H (.bl b) .bool
  | str (z : Str) : IsV H (.str z) .str
  | non : IsV H .non .non
  | lst {p : Addr} {xs : List V} (h : H p = some (.lst xs)) : IsV H (.ref p) .lst
  | tup {p : Addr} {xs : List V} (h : H p = some (.tup xs)) : IsV H (.ref p) .tup
section
variable {K : PySem.W.Frag} {H H' : Hp} {v : V} {y : Ty}
theorem IsV.ty (h : IsV H v y) : TyX K H v (.type y.nm) := by
  cases h with
  | int i => exact .base (.int i)
  | bl b => exact .base (.bl b)
  | str z => exact .base (.str z)
  | non => exact .base .non
  | lst h => exact .base (.lst h)
  | tup h => exact .base (.tup h)
theorem IsV.keep {a : Addr} (h : IsV H v y) (k : Keep a H H') (n : ∀ p, v = .ref p → p ≠ a) : IsV H' v y := by
  cases h with
  | int i => exact .int i
  | bl b => exact .bl b
  | str z => exact .str z
  | non => exact .non
  | lst h => exact .lst (k _ _ (n _ rfl) h)
  | tup h => exact .tup (k _ _ (n _ rfl) h)
theorem IsV.same (h : IsV H v y) (k : Same H H') : IsV H' v y := by
  cases h with
  | int i => exact .int i
  | bl b => exact .bl b
  | str z => exact .str z
  | non => exact .non
  | lst h => exact .lst (k _ _ h)
  | tup h => exact .tup (k _ _ h)
theorem kitI (y : Ty) : PySem.W.kitOne K (.type y.nm) (.type "int") = some y.isI := by
  cases y <;> exact kit_ty (by decide +kernel)
theorem kitB' (y : Ty) : PySem.W.kitOne K (.type y.nm) (.type "bool") = some y.isB := by
  cases y <;> exact kit_ty (by decide +kernel)
theorem kitS (y : Ty) : PySem.W.kitOne K (.type y.nm) (.type "str") = some y.isS := by
  cases y <;> exact kit_ty (by decide +kernel)
end
/-! ### integers, bounds, names: plain functions -/
def oV : Option Int → V
  | none => .non
  | some i => .int i
def loB (lo : Option Int) (i : Int) : Bool := match lo with
  | none => true
  | some j => decide (j ≤ i)
def hiB (hi : Option Int) (i : Int) : Bool := match hi with
  | none => true
  | some j => decide (i ≤ j)
def inB (v : V) (lo hi : Option Int) : Bool := match v with
  | .int i => loB lo i && hiB hi i
  | _ => false
def isL (c : Nat) : Bool := decide (97 ≤ c) && decide (c ≤ 122)
def isD (c : Nat) : Bool := decide (48 ≤ c) && decide (c ≤ 57)
def isName : List Nat → Bool
  | [] => false
  | c :: r => decide ((c :: r).length ≤ 12) && isL c && (c :: r).all fun d => isL d || isD d
def nameB : V → Bool
  | .str z => isName z.cps.toList
  | _ => false
theorem let_tl : LET.cps.toList = List.range' 97 26 := by decide +kernel
theorem dig_tl : DIG.cps.toList = List.range' 48 10 := by decide +kernel
theorem in_let (c : Nat) : decide (c ∈ LET.cps.toList) = isL c := by
  rw [let_tl]
  unfold isL
  rw [← Bool.decide_and]
  refine decide_eq_decide.mpr ?_
  rw [List.mem_range'_1]
  omega
theorem in_both (c : Nat) : decide (c ∈ (LET ++ DIG).cps.toList) = (isL c || isD c) := by
  have e : (LET ++ DIG).cps.toList = LET.cps.toList ++ DIG.cps.toList := TL.tl_append LET DIG
  rw [e, let_tl, dig_tl]
  unfold isL isD
  rw [← Bool.decide_and, ← Bool.decide_and, ← Bool.decide_or]
  refine decide_eq_decide.mpr ?_
  rw [List.mem_append, List.mem_range'_1, List.mem_range'_1]
  omega
/-! ### promises -/
def spNum : Sp := fun vs H Q _ => ∃ v y, vs = [v] ∧ IsV H v y ∧ Q (.bl y.isN) H
def spWithin : Sp := fun vs H Q _ => ∃ v y lo hi, vs = [v, oV lo, oV hi] ∧ IsV H v y ∧ Q (.bl (inB v lo hi)) H
def spName : Sp := fun vs H Q _ => ∃ v y, vs = [v] ∧ IsV H v y ∧ (∀ z, v = .str z → z.length ≤ 1000) ∧ ∀ H', Same H H' → Q (.bl (nameB v)) H'
def spName2 : Sp := fun vs H Q _ => ∃ v y, vs = [v] ∧ IsV H v y ∧ (∀ z, v = .str z → z.length ≤ 1000) ∧ Q (.bl (nameB v)) H
section
variable {P : Program} {w : World} {K : PySem.W.Frag} {mg : Str → Option Value} {base : Heap}
theorem ok_is_integer {f : Addr} {fd : FuncData} (D : DF K mg "is_integer" s_is_integer f fd) (T : Txt K mg) : OkD P w K mg base 1 "is_integer" s_is_integer ["value"] spNum f fd := by
  refine okd D sc_is_integer (fun vs H Q E h => ?_) (fun cdv A outer s H vs Q E hr h => ?_)
  · obtain ⟨v, y, rfl, _⟩ := h
    rfl
  · obtain ⟨v, y, rfl, hv, q⟩ := h
    refine ⟨_, (pss_one (ps_ret (pe_and (pe_callB call_isi (by rfl) T.m_isinstance (by decide +kernel) (pa_cons (pv 0) (pa_cons (pe_bltn (v := .ty "int") (by rfl) T.m_int (by decide +kernel) rfl) pa_nil))) (pe_one (pe_not (pe_callB call_isi (by rfl) T.m_isinstance (by decide +kernel) (pa_cons (pv 0) (pa_cons (pe_bltn (v := .ty "bool") (by rfl) T.m_bool (by decide +kernel) rfl) pa_nil)))))))), ?_⟩
    refine ⟨v, rfl, _, _, _, _, _, rfl, .ty "int", hv.ty, kitI y, _, rfl, ?_⟩
    cases y with
    | int => exact iteT ⟨v, rfl, _, _, _, _, _, rfl, .ty "bool", hv.ty, kitB' _, _, rfl, q⟩
    | bool => exact iteT ⟨v, rfl, _, _, _, _, _, rfl, .ty "bool", hv.ty, kitB' _, _, rfl, q⟩
    | _ => exact iteF q
theorem ok_law_is_number {f : Addr} {fd : FuncData} (D : DF K mg "_law_is_number" s_law_is_number f fd) (T : Txt K mg) : OkD P w K mg base 1 "_law_is_number" s_law_is_number ["_law_value_here"] spNum f fd := by
  refine okd D sc_law_is_number (fun vs H Q E h => ?_) (fun cdv A outer s H vs Q E hr h => ?_)
  · obtain ⟨v, y, rfl, _⟩ := h
    rfl
  · obtain ⟨v, y, rfl, hv, q⟩ := h
    refine ⟨_, (pss_one (ps_ret (pe_and (pe_callB call_isi (by rfl) T.m_isinstance (by decide +kernel) (pa_cons (pv 0) (pa_cons (pe_bltn (v := .ty "int") (by rfl) T.m_int (by decide +kernel) rfl) pa_nil))) (pe_and (pe_not (pe_cmpR op_isT (pv 0) pe_bl (nomark _))) (pe_one (pe_not (pe_cmpR op_isT (pv 0) pe_bl (nomark _)))))))), ?_⟩
    refine ⟨v, rfl, _, _, _, _, _, rfl, .ty "int", hv.ty, kitI y, _, rfl, ?_⟩
    cases hv with
    | int i => exact iteT ⟨_, rfl, _, rfl, .inl ⟨i, rfl, _, rfl, _, rfl, iteT ⟨_, rfl, _, rfl, .inl ⟨i, rfl, _, rfl, q⟩⟩⟩⟩
    | bl b =>
      refine iteT ⟨_, rfl, _, rfl, .inr ⟨b, rfl, _, rfl, _, rfl, ?_⟩⟩
      cases b with
      | true => exact iteF q
      | false => exact iteT ⟨_, rfl, _, rfl, .inr ⟨_, rfl, _, rfl, q⟩⟩
    | _ => exact iteF q
theorem ok_is_within {f : Addr} {fd : FuncData} (D : DF K mg "is_within" s_is_within f fd) (C_is_integer : Cal P w K mg base 1 "is_integer" spNum []) : OkD P w K mg base 2 "is_within" s_is_within ["value", "least", "most"] spWithin f fd := by
  refine okd D sc_is_within (fun vs H Q E h => ?_) (fun cdv A outer s H vs Q E hr h => ?_)
  · obtain ⟨v, y, lo, hi, rfl, _⟩ := h
    rfl
  · obtain ⟨v, y, lo, hi, rfl, hv, q⟩ := h
    refine ⟨_, (pss_cons (ps_if (pt_not (pt_val (pe_c C_is_integer hr (by decide) (by rfl) (pa_cons (pv 0) pa_nil)))) (pss_one (ps_ret pe_bl)) pss_nil)
      (pss_one (ps_ret (pe_and (pe_or (pe_cmpR op_isN (pv 1) pe_non (nomark _)) (pe_one (pe_cmpR op_le (pv 1) (pv 0) (nomark _)))) (pe_one (pe_or (pe_cmpR op_isN (pv 2) pe_non (nomark _)) (pe_one (pe_cmpR op_le (pv 0) (pv 2) (nomark _))))))))), ?_⟩
    refine ⟨v, rfl, v, y, rfl, hv, _, rfl, ?_⟩
    cases hv with
    | int i =>
      refine iteF ?_
      refine ⟨oV lo, rfl, rfl, _, rfl, ?_⟩
      cases lo with
      | none =>
        refine iteT ⟨_, rfl, ?_⟩
        refine iteT ⟨oV hi, rfl, rfl, _, rfl, ?_⟩
        cases hi with
        | none => exact iteT q
        | some j => exact iteF ⟨_, rfl, _, rfl, _, _, rfl, rfl, q⟩
      | some k =>
        refine iteF ⟨_, rfl, _, rfl, _, _, rfl, rfl, _, rfl, ?_⟩
        have e : inB (.int i) (some k) hi = (decide (k ≤ i) && hiB hi i) := rfl
        rw [e] at q
        refine ite2 (fun h1 => ?_) (fun h1 => ?_)
        · rw [h1, Bool.true_and] at q
          refine ⟨oV hi, rfl, rfl, _, rfl, ?_⟩
          cases hi with
          | none => exact iteT q
          | some j => exact iteF ⟨_, rfl, _, rfl, _, _, rfl, rfl, q⟩
        · rw [show decide (k ≤ i) = false from Bool.eq_false_iff.mpr h1, Bool.false_and] at q
          exact q
    | _ => exact iteT q
theorem ok_is_name {f : Addr} {fd : FuncData} (D : DF K mg "is_name" s_is_name f fd) (T : Txt K mg) : OkD P w K mg base 1 "is_name" s_is_name ["value"] spName f fd := by
  refine okd D sc_is_name (fun vs H Q E h => ?_) (fun cdv A outer s H vs Q E hr h => ?_)
  · obtain ⟨v, y, rfl, _⟩ := h
    rfl
  · obtain ⟨v, y, rfl, hv, hz, q⟩ := h
    obtain ⟨tL, gL⟩ := T.g_LETTERS
    obtain ⟨tD, gD⟩ := T.g_DIGITS
    refine ⟨_, (pss_cons (ps_if (PW.pt (pw_or (pt_not (pt_val (pe_callB call_isi (by rfl) T.m_isinstance (by decide +kernel) (pa_cons (pv 0) (pa_cons (pe_bltn (v := .ty "str") (by rfl) T.m_str (by decide +kernel) rfl) pa_nil))))) (pw_or1 (pt_not (pt_chain op_le op_le pe_int (pe_callB call_len (by rfl) T.m_len (by decide +kernel) (pa_cons (pv 0) pa_nil)) pe_int))))) (pss_one (ps_ret pe_bl)) pss_nil)
      (pss_one (ps_ret (pe_and (pe_cmpR op_in_sign (pe_ix ix_str (pv 0) pe_int (fun _ _ => rfl)) (pe_glob (v := .str LET) rfl gL ⟨_, rfl⟩) rfl) (pe_one (pe_callB (cr_all rfl) (by rfl) T.m_all (by decide +kernel) (pa_cons (pe_lc (own := [("sign", 1)]) (g := gName 1) (by rfl) sc_is_name.nd (pi_str (pv 0)) (blkOk_by (own := [("sign", 1)]) (N := n_is_name) (sc := defScope s_is_name) (by decide +kernel)) (fun _ _ _ _ _ => pg_name (i := 1) sc_is_name.nd rfl (Or.inl rfl)) (fun _ _ _ _ _ => pts_nil) (fun _ _ _ _ _ => (pe_cmpR op_in_sign (pv 1) (pe_op op_add_str (pe_glob (v := .str LET) rfl gL ⟨_, rfl⟩) (pe_glob (v := .str DIG) rfl gD ⟨_, rfl⟩)) rfl))) pa_nil))))))), ?_⟩
    refine ⟨v, rfl, _, _, _, _, _, rfl, .ty "str", hv.ty, kitS y, _, rfl, ?_⟩
    cases hv with
    | str z =>
      have hl : z.length ≤ 1000 := hz z rfl
      have hl2 : z.length ≤ sizeLine := Nat.le_of_lt (small1000 hl)
      refine iteF ?_
      refine ⟨.str z, rfl, .str z, z.length, rfl, ⟨hl2, rfl⟩, 1, (z.length : Int), rfl, rfl, _, rfl, ?_⟩
      have ec : z.cps.toList.length = z.length := rfl
      cases el : z.cps.toList with
      | nil =>
        rw [el] at ec
        have e0 : z.length = 0 := ec.symm
        have e1 : decide ((1 : Int) ≤ (z.length : Int)) = false := decide_eq_false (by omega)
        rw [e1]
        refine iteF ⟨_, rfl, ?_⟩
        refine iteT ?_
        have e2 : nameB (.str z) = false := by
          show isName z.cps.toList = _
          rw [el]
          rfl
        have := q H (Same.refl H)
        rw [e2] at this
        exact this
      | cons c r =>
        have eN : nameB (.str z) = (decide ((c :: r).length ≤ 12) && isL c && (c :: r).all fun d => isL d || isD d) := by
          show isName z.cps.toList = _
          rw [el]
          rfl
        rw [el] at ec
        rw [List.length_cons] at ec
        have e1 : decide ((1 : Int) ≤ (z.length : Int)) = true := decide_eq_true (by omega)
        rw [e1]
        refine iteT ⟨_, _, rfl, rfl, _, rfl, ?_⟩
        by_cases h12 : z.length ≤ 12
        · have e2 : decide ((z.length : Int) ≤ 12) = true := decide_eq_true (by omega)
          rw [e2]
          refine iteF ?_
          have e3 : decide ((c :: r).length ≤ 12) = true := decide_eq_true (by rw [List.length_cons]; omega)
          rw [e3, Bool.true_and] at eN
          refine ⟨.str z, rfl, z, 0, c, rfl, rfl, hl2, by rw [el]; exact atI_nat (j := 0) rfl, c, LET, rfl, rfl, _, rfl, ?_⟩
          rw [in_let]
          cases hc : isL c with
          | false =>
            refine iteF ?_
            have := q H (Same.refl H)
            rw [eN, hc] at this
            exact this
          | true =>
            rw [hc, Bool.true_and] at eN
            refine iteT ?_
            refine ⟨.str z, rfl, z, rfl, fun D nD => ?_⟩
            have hs : z.cps.size = (c :: r).length := by rw [← el]; exact Array.length_toList.symm
            refine lc_it walk_str (fun i H' => H' = upd H D (.lst (((c :: r).take i).map fun d => V.bl (isL d || isD d)))) rfl (fun _ _ _ _ => trivial) ?_ ?_
            · rintro i x H1 H2 hi rfl ⟨rfl, d, hd, rfl⟩
              refine ⟨rfl, _, rfl, LET, DIG, rfl, rfl, by decide, d, _, rfl, rfl, _, upd_same, ?_, ?_⟩
              · rw [List.length_map, List.length_take]
                exact Nat.lt_of_le_of_lt (Nat.min_le_left _ _) (small1000 (Nat.le_trans (Nat.le_of_lt hi) hl))
              · show upd _ D _ = _
                rw [upd_upd, in_both]
                have hd2 : (c :: r)[i]? = some d := by
                  rw [← el, Array.getElem?_toList]
                  exact hd
                rw [List.take_add_one, hd2, List.map_append]
                rfl
            · rintro H' rfl
              rw [hs, List.take_length]
              refine ⟨D, (c :: r).map (fun d => isL d || isD d), rfl, ?_, ?_⟩
              · rw [List.map_map]
                exact seq_in upd_same
              · have := q (upd H D (.lst ((c :: r).map fun d => V.bl (isL d || isD d)))) (fun b o e => by rw [upd_ne (ne_of_none e nD)]; exact e)
                rw [eN] at this
                rw [List.all_map]
                exact this
        · have e2 : decide ((z.length : Int) ≤ 12) = false := decide_eq_false (by omega)
          rw [e2]
          refine iteT ?_
          have e3 : decide ((c :: r).length ≤ 12) = false := decide_eq_false (by rw [List.length_cons]; omega)
          have := q H (Same.refl H)
          rw [eN, e3] at this
          exact this
    | _ => exact iteT (q H (Same.refl H))
theorem lex1 (a b : Nat) : (!decide ([b] < [a])) = decide (a ≤ b) := by
  have e : ([b] < [a]) ↔ b < a := by
    rw [List.cons_lt_cons_iff]
    constructor
    · rintro (h | ⟨_, h⟩)
      · exact h
      · exact absurd h (List.not_lt_nil _)
    · exact .inl
  by_cases h : a ≤ b
  · rw [decide_eq_true h, decide_eq_false (fun z => by have := e.mp z; omega)]
    rfl
  · rw [decide_eq_false h, decide_eq_true (e.mpr (by omega))]
    rfl
theorem ok_law_is_name {f : Addr} {fd : FuncData} (D : DF K mg "_law_is_name" s_law_is_name f fd) (T : Txt K mg) : OkD P w K mg base 1 "_law_is_name" s_law_is_name ["_law_value_here"] spName2 f fd := by
  refine okd D sc_law_is_name (fun vs H Q E h => ?_) (fun cdv A outer s H vs Q E hr h => ?_)
  · obtain ⟨v, y, rfl, _⟩ := h
    rfl
  · obtain ⟨v, y, rfl, hv, hz, q⟩ := h
    refine ⟨_, (pss_cons (ps_if (PW.pt (pw_or (pt_not (pt_val (pe_callB call_isi (by rfl) T.m_isinstance (by decide +kernel) (pa_cons (pv 0) (pa_cons (pe_bltn (v := .ty "str") (by rfl) T.m_str (by decide +kernel) rfl) pa_nil))))) (pw_or (pt_cmpR op_eq (pv 0) pe_str (nomark _)) (pw_or (pt_cmpR op_gt (pe_callB call_len (by rfl) T.m_len (by decide +kernel) (pa_cons (pv 0) pa_nil)) pe_int (nomark _)) (pw_or1 (pt_not (pt_chain op_le_str op_le_str pe_str (pe_ix ix_str (pv 0) pe_int (fun _ _ => rfl)) pe_str))))))) (pss_one (ps_ret pe_bl)) pss_nil)
      (pss_cons (ps_for PassesOwn.never rfl (pi_str (pv 0)) (pg_name (i := 1) sc_law_is_name.nd rfl (Or.inl rfl))
      (pss_one (ps_if (PW.pt (pw_and (pt_not (pt_chain op_le_str op_le_str pe_str (pv 1) pe_str)) (pw_and1 (pt_not (pt_chain op_le_str op_le_str pe_str (pv 1) pe_str))))) (pss_one (ps_ret pe_bl)) pss_nil)))
      (pss_one (ps_ret pe_bl)))), ?_⟩
    refine ⟨v, rfl, _, _, _, _, _, rfl, .ty "str", hv.ty, kitS y, _, rfl, ?_⟩
    cases hv with
    | str z =>
      have hl : z.length ≤ 1000 := hz z rfl
      have hl2 : z.length ≤ sizeLine := Nat.le_of_lt (small1000 hl)
      refine iteF ?_
      refine ⟨.str z, rfl, rfl, _, rfl, ?_⟩
      have ec : z.cps.toList.length = z.length := rfl
      cases el : z.cps.toList with
      | nil =>
        have ez : z = "" := TL.ext_tl (by show z.cps.toList = _; rw [el]; rfl)
        subst ez
        exact iteT q
      | cons c r =>
        have eN : nameB (.str z) = (decide ((c :: r).length ≤ 12) && isL c && (c :: r).all fun d => isL d || isD d) := by
          show isName z.cps.toList = _
          rw [el]
          rfl
        have ez : decide (V.str z = V.str "") = false := decide_eq_false fun e => by
          rw [V.str.inj e] at el
          cases el
        rw [ez]
        refine iteF ?_
        rw [el] at ec
        rw [List.length_cons] at ec
        refine ⟨.str z, rfl, .str z, z.length, rfl, ⟨hl2, rfl⟩, _, _, rfl, rfl, _, rfl, ?_⟩
        by_cases h12 : z.length ≤ 12
        · have e2 : decide ((12 : Int) < (z.length : Int)) = false := decide_eq_false (by omega)
          rw [e2]
          refine iteF ?_
          have e3 : decide ((c :: r).length ≤ 12) = true := decide_eq_true (by rw [List.length_cons]; omega)
          rw [e3, Bool.true_and] at eN
          refine ⟨.str z, rfl, z, 0, c, rfl, rfl, hl2, by rw [el]; exact atI_nat (j := 0) rfl, "a", ⟨#[c]⟩, rfl, rfl, _, rfl, ?_⟩
          rw [show (!decide ((⟨#[c]⟩ : Str).cps.toList < ("a" : Str).cps.toList)) = decide (97 ≤ c) from lex1 97 c]
          by_cases g1 : 97 ≤ c
          · rw [decide_eq_true g1]
            refine iteT ⟨⟨#[c]⟩, "z", rfl, rfl, _, rfl, ?_⟩
            rw [show (!decide (("z" : Str).cps.toList < (⟨#[c]⟩ : Str).cps.toList)) = decide (c ≤ 122) from lex1 c 122]
            by_cases g2 : c ≤ 122
            · rw [decide_eq_true g2]
              refine iteF ?_
              have hc : isL c = true := by unfold isL; rw [decide_eq_true g1, decide_eq_true g2]; rfl
              rw [hc, Bool.true_and] at eN
              have hs : z.cps.size = (c :: r).length := by rw [← el]; exact Array.length_toList.symm
              refine ⟨.str z, rfl, z, rfl, for_it walk_str (fun i σ H' => H' = H ∧ (∃ x1, σ = [some (.str z), x1]) ∧ ((c :: r).take i).all (fun d => isL d || isD d) = true) ⟨rfl, ⟨none, rfl⟩, rfl⟩ (fun _ _ _ _ _ => trivial) ?_ ?_⟩
              · rintro i x σ H1 H2 hi ⟨rfl, ⟨x1, rfl⟩, ha⟩ ⟨rfl, d, hd, rfl⟩
                have hd2 : (c :: r)[i]? = some d := by
                  rw [← el, Array.getElem?_toList]
                  exact hd
                have keep : (isL d || isD d) = true → ((c :: r).take (i + 1)).all (fun d => isL d || isD d) = true := fun hh => by
                  rw [List.take_add_one, hd2, List.all_append, ha]
                  simp [hh]
                have out : (isL d || isD d) = false → nameB (.str z) = false := fun hh => by
                  rw [eN]
                  rw [List.all_eq_false]
                  exact ⟨d, List.mem_of_getElem? hd2, by rw [hh]; decide⟩
                have a1 : (!decide ((⟨#[d]⟩ : Str).cps.toList < ("a" : Str).cps.toList)) = decide (97 ≤ d) := lex1 97 d
                have a2 : (!decide (("z" : Str).cps.toList < (⟨#[d]⟩ : Str).cps.toList)) = decide (d ≤ 122) := lex1 d 122
                have a3 : (!decide ((⟨#[d]⟩ : Str).cps.toList < ("0" : Str).cps.toList)) = decide (48 ≤ d) := lex1 48 d
                have a4 : (!decide (("9" : Str).cps.toList < (⟨#[d]⟩ : Str).cps.toList)) = decide (d ≤ 57) := lex1 d 57
                refine ⟨_, rfl, "a", ⟨#[d]⟩, rfl, rfl, _, rfl, ?_⟩
                rw [a1]
                cases hA : decide (97 ≤ d) with
                | true =>
                  refine iteT ⟨⟨#[d]⟩, "z", rfl, rfl, _, rfl, ?_⟩
                  rw [a2]
                  cases hB : decide (d ≤ 122) with
                  | true =>
                    refine iteF (iteF ?_)
                    exact ⟨rfl, ⟨_, rfl⟩, keep (by unfold isL; rw [hA, hB]; rfl)⟩
                  | false =>
                    have hL : isL d = false := by unfold isL; rw [hB, Bool.and_false]
                    rw [hL, Bool.false_or] at keep out
                    refine iteT ⟨_, rfl, "0", ⟨#[d]⟩, rfl, rfl, _, rfl, ?_⟩
                    rw [a3]
                    cases hC : decide (48 ≤ d) with
                    | true =>
                      refine iteT ⟨⟨#[d]⟩, "9", rfl, rfl, _, rfl, ?_⟩
                      rw [a4]
                      cases hE : decide (d ≤ 57) with
                      | true =>
                        refine iteF ?_
                        exact ⟨rfl, ⟨_, rfl⟩, keep (by unfold isD; rw [hC, hE]; rfl)⟩
                      | false =>
                        refine iteT ?_
                        rw [out (by unfold isD; rw [hE, Bool.and_false])] at q
                        exact q
                    | false =>
                      refine iteF ⟨_, rfl, ?_⟩
                      refine iteT ?_
                      rw [out (by unfold isD; rw [hC, Bool.false_and])] at q
                      exact q
                | false =>
                  refine iteF ⟨_, rfl, ?_⟩
                  have hL : isL d = false := by unfold isL; rw [hA, Bool.false_and]
                  rw [hL, Bool.false_or] at keep out
                  refine iteT ⟨_, rfl, "0", ⟨#[d]⟩, rfl, rfl, _, rfl, ?_⟩
                  rw [a3]
                  cases hC : decide (48 ≤ d) with
                  | true =>
                    refine iteT ⟨⟨#[d]⟩, "9", rfl, rfl, _, rfl, ?_⟩
                    rw [a4]
                    cases hE : decide (d ≤ 57) with
                    | true =>
                      refine iteF ?_
                      exact ⟨rfl, ⟨_, rfl⟩, keep (by unfold isD; rw [hC, hE]; rfl)⟩
                    | false =>
                      refine iteT ?_
                      rw [out (by unfold isD; rw [hE, Bool.and_false])] at q
                      exact q
                  | false =>
                    refine iteF ⟨_, rfl, ?_⟩
                    refine iteT ?_
                    rw [out (by unfold isD; rw [hC, Bool.false_and])] at q
                    exact q
              · rintro σ H' ⟨rfl, ⟨x1, rfl⟩, ha⟩
                rw [hs, List.take_length] at ha
                rw [eN, ha] at q
                exact q
            · rw [decide_eq_false g2]
              refine iteT ?_
              have hc : isL c = false := by unfold isL; rw [decide_eq_false g2, Bool.and_false]
              rw [eN, hc] at q
              exact q
          · rw [decide_eq_false g1]
            refine iteF ⟨_, rfl, ?_⟩
            refine iteT ?_
            have hc : isL c = false := by unfold isL; rw [decide_eq_false g1, Bool.false_and]
            rw [eN, hc] at q
            exact q
        · have e2 : decide ((12 : Int) < (z.length : Int)) = true := decide_eq_true (by omega)
          rw [e2]
          refine iteT ?_
          have e3 : decide ((c :: r).length ≤ 12) = false := decide_eq_false (by rw [List.length_cons]; omega)
          rw [eN, e3] at q
          exact q
    | _ => exact iteT q
end
end K01

namespace K01
open PySem PySem.Spec PyProof.Rows L2 XB
open C8 (Cal Met Mak pe_c pe_mk pe_mt pe_mt0 pss_cut tCut)
/-- the value is not what draws -/
def Off (a : Addr) (v : V) : Prop := ∀ p, v = .ref p → p ≠ a
theorem off_int {a : Addr} {i : Int} : Off a (.int i) := fun _ h => nomatch h
theorem off_bl {a : Addr} {i : Bool} : Off a (.bl i) := fun _ h => nomatch h
theorem off_str {a : Addr} {i : Str} : Off a (.str i) := fun _ h => nomatch h
theorem off_non {a : Addr} : Off a .non := fun _ h => nomatch h
theorem off_ref {a p : Addr} (h : p ≠ a) : Off a (.ref p) := fun q e => by cases e; exact h
theorem joinL_one : ∀ cs : List Nat, TL.joinL [] (cs.map fun c => [c]) = cs
  | [] => rfl
  | [c] => rfl
  | c :: d :: r => by
    show [c] ++ ([] ++ TL.joinL [] ((d :: r).map fun c => [c])) = c :: d :: r
    rw [joinL_one (d :: r)]
    rfl
theorem join_one (cs : List Nat) : Txt.join ("" : Str) (cs.map fun c => (⟨#[c]⟩ : Str)) = ⟨cs.toArray⟩ := by
  have e := SX.join_S [] (cs.map fun c => [c])
  rw [List.map_map, joinL_one] at e
  exact e
theorem one_sum : ∀ cs : List Nat, ((cs.map fun c => (⟨#[c]⟩ : Str)).map (·.length)).sum = cs.length
  | [] => rfl
  | c :: r => by
    rw [List.map_cons, List.map_cons, List.sum_cons, one_sum r, List.length_cons]
    show 1 + r.length = r.length + 1
    omega
theorem cat_len (x y : Str) : (x ++ y).length = x.length + y.length := by
  show (x.cps ++ y.cps).size = x.cps.size + y.cps.size
  exact Array.size_append
def g3 {α : Type} : List α → List α
  | [m, v, l] => [v, l, m]
  | x => x
def gid {α : Type} (l : List α) : List α := l
def spBound : Sp := fun vs H Q _ => ∃ (a : Addr) (n : Nat) (v : V) (y : Ty), vs = [.ref a, v] ∧ Jug H a n ∧ n ≤ 2 ^ 30 ∧ IsV H v y ∧
  ∀ (o : Option Int) (H' : Hp), Jug H' a (n + 1) → Keep a H H' → Q (oV o) H'
def spRight : Sp := fun vs H Q _ => ∃ (a : Addr) (n : Nat) (v : V) (y : Ty), vs = [.ref a, v] ∧ Jug H a n ∧ n + 2 ≤ 2 ^ 30 ∧ IsV H v y ∧ Off a v ∧
  ∀ (H' : Hp), Jug H' a (n + 2) → Keep a H H' → Q (.bl true) H'
def spText : Sp := fun vs H Q _ => ∃ (a : Addr) (n : Nat), vs = [.ref a] ∧ Jug H a n ∧ n + 20 ≤ 2 ^ 30 ∧
  ∀ (z : Str) (H' : Hp), z.length ≤ 100 → Jug H' a (n + 20) → Keep a H H' → Q (.str z) H'
def spValue : Sp := fun vs H Q _ => ∃ (a : Addr) (n : Nat), vs = [.ref a] ∧ Jug H a n ∧ n + 22 ≤ 2 ^ 30 ∧
  ∀ (v : V) (y : Ty) (H' : Hp), IsV H' v y → Off a v → (∀ z, v = .str z → z.length ≤ 1000) → Jug H' a (n + 22) → Keep a H H' → Q v H'
section
variable {P : Program} {w : World} {K : PySem.W.Frag} {mg : Str → Option Value} {base : Heap}
theorem ok_law_bound {f : Addr} {fd : FuncData} (D : DF K mg "_law_bound" s_law_bound f fd) (C_law_is_number : Cal P w K mg base 1 "_law_is_number" spNum []) (C_law_pour : Cal P w K mg base 1 "_law_pour" spPour []) :
    OkD P w K mg base 2 "_law_bound" s_law_bound ["_law_jug_here", "_law_value_here"] spBound f fd := by
  refine okd D sc_law_bound (fun vs H Q E h => ?_) (fun cdv A outer s H vs Q E hr h => ?_)
  · obtain ⟨a, n, v, y, rfl, _⟩ := h
    rfl
  · obtain ⟨a, n, v, y, rfl, J, hn, hv, q⟩ := h
    refine ⟨_, (pss_cut (ps_set (i := 2) sc_law_bound.nd rfl (Or.inl rfl) (pe_ifExp (pt_val (pe_c C_law_is_number hr (by decide) (by rfl) (pa_cons (pv 1) pa_nil))) (pv 1) pe_int))
      (pss_one (ps_ret (pe_ix ix_list (pe_lst (pa_cons pe_non (pa_cons (pv 2) (pa_cons (pe_op op_sub (pv 2) pe_int) (pa_cons (pe_op op_add (pv 2) pe_int) (pa_cons (pe_op op_sub (pv 2) (pe_op op_pow pe_int pe_int)) (pa_cons (pe_op op_add (pv 2) (pe_op op_pow pe_int pe_int)) pa_nil))))))) (pe_c C_law_pour hr (by decide) (by rfl) (pa_cons (pv 0) (pa_cons pe_int pa_nil))) (fun _ _ => rfl))))), ?_⟩
    refine ⟨fun σ H' => H' = H ∧ ∃ b : Int, σ = [some (.ref a), some v, some (.int b)], ?_, ?_⟩
    · refine ⟨v, rfl, v, y, rfl, hv, _, rfl, ?_⟩
      cases hv with
      | int i => exact iteT ⟨_, rfl, rfl, i, rfl⟩
      | _ => exact iteF ⟨rfl, 0, rfl⟩
    · rintro σ' H' ⟨rfl, b, rfl⟩
      refine ⟨.int b, rfl, .int b, rfl, b, 1, rfl, rfl, .int b, rfl, b, 1, rfl, rfl, .int b, rfl, 10, 41, rfl, rfl, ⟨by decide, by decide, by decide⟩, b, _, rfl, rfl, .int b, rfl, 10, 41, rfl, rfl, ⟨by decide, by decide, by decide⟩, b, _, rfl, rfl, (by show 6 ≤ sizeLine; decide), fun p np => ?_⟩
      have pa : p ≠ a := J.ne np
      refine ⟨.ref a, rfl, a, 6, n, rfl, by decide, by decide, J.new np, Nat.le_trans hn (by decide), fun r H2 r0 r1 J2 k2 f2 => ?_⟩
      have kk : Keep a H' H2 := (Keep.new np).trans k2
      have hp := seq_in (K := K) (k2 p _ pa upd_same)
      have hc : r = 0 ∨ r = 1 ∨ r = 2 ∨ r = 3 ∨ r = 4 ∨ r = 5 := by omega
      rcases hc with rfl | rfl | rfl | rfl | rfl | rfl
      · exact ⟨p, _, _, oV none, rfl, rfl, hp, rfl, q _ _ J2 kk⟩
      · exact ⟨p, _, _, oV (some b), rfl, rfl, hp, rfl, q _ _ J2 kk⟩
      · exact ⟨p, _, _, oV (some (b - 1)), rfl, rfl, hp, rfl, q _ _ J2 kk⟩
      · exact ⟨p, _, _, oV (some (b + 1)), rfl, rfl, hp, rfl, q _ _ J2 kk⟩
      · exact ⟨p, _, _, oV (some (b - 10 ^ 41)), rfl, rfl, hp, rfl, q _ _ J2 kk⟩
      · exact ⟨p, _, _, oV (some (b + 10 ^ 41)), rfl, rfl, hp, rfl, q _ _ J2 kk⟩
theorem ok_law_within_right {f : Addr} {fd : FuncData} (D : DF K mg "_law_within_right" s_law_within_right f fd) (T : Txt K mg) (C_law_is_number : Cal P w K mg base 1 "_law_is_number" spNum []) (C_law_bound : Cal P w K mg base 2 "_law_bound" spBound [])
    (C_is_withink : CalK P w K mg base 2 "is_within" ["most", "value", "least"] spWithin g3) :
    OkD P w K mg base 3 "_law_within_right" s_law_within_right ["_law_jug_here", "_law_value_here"] spRight f fd := by
  refine okd D sc_law_within_right (fun vs H Q E h => ?_) (fun cdv A outer s H vs Q E hr h => ?_)
  · obtain ⟨a, n, v, y, rfl, _⟩ := h
    rfl
  · obtain ⟨a, n, v, y, rfl, J, hn, hv, ho, q⟩ := h
    refine ⟨_, (pss_cons (ps_par (i := 2) (j := 3) rfl sc_law_within_right.nd rfl rfl (by decide) rfl rfl (pa_cons (pe_c C_law_bound hr (by decide) (by rfl) (pa_cons (pv 0) (pa_cons (pv 1) pa_nil))) (pa_cons (pe_c C_law_bound hr (by decide) (by rfl) (pa_cons (pv 0) (pa_cons (pv 1) pa_nil))) pa_nil)) (by rfl))
      (pss_cons (ps_set (i := 4) sc_law_within_right.nd rfl (Or.inl rfl) (pe_c C_law_is_number hr (by decide) (by rfl) (pa_cons (pv 1) pa_nil)))
      (pss_cut (ps_if (PW.pt (pw_and (pt_val (pv 4)) (pw_and (pt_cmpR op_notN (pv 2) pe_non (nomark _)) (pw_and1 (pt_cmpR op_lt (pv 1) (pv 2) (nomark _)))))) (pss_one (ps_set (i := 4) sc_law_within_right.nd rfl (Or.inl rfl) pe_bl)) pss_nil)
      (pss_cut (ps_if (PW.pt (pw_and (pt_val (pv 4)) (pw_and (pt_cmpR op_notN (pv 3) pe_non (nomark _)) (pw_and1 (pt_cmpR op_lt (pv 3) (pv 1) (nomark _)))))) (pss_one (ps_set (i := 4) sc_law_within_right.nd rfl (Or.inl rfl) pe_bl)) pss_nil)
      (pss_cons (ps_set (i := 5) sc_law_within_right.nd rfl (Or.inl rfl) (pe_ck0 C_is_withink hr (by decide) (by rfl) (pk_cons (pv 3) (pk_cons (pv 1) (pk_cons (pv 2) pk_nil)))))
      (pss_one (ps_ret (pe_and (pe_callB call_isi (by rfl) T.m_isinstance (by decide +kernel) (pa_cons (pv 5) (pa_cons (pe_bltn (v := .ty "bool") (by rfl) T.m_bool (by decide +kernel) rfl) pa_nil))) (pe_one (pe_cmpR op_eq (pv 5) (pv 4) (nomark _))))))))))), ?_⟩
    refine ⟨.ref a, rfl, v, rfl, a, n, v, y, rfl, J, by omega, hv, fun lo H1 J1 k1 => ?_⟩
    refine ⟨.ref a, rfl, v, rfl, a, n + 1, v, y, rfl, J1, by omega, hv.keep k1 ho, fun hi H2 J2 k2 => ?_⟩
    have k02 := k1.trans k2
    refine ⟨_, _, rfl, ?_⟩
    have J3 := J2
    have k3 := k02
    generalize H2 = H3 at J3 k3 ⊢
    have hv3 : IsV H3 v y := hv.keep k3 ho
    refine ⟨v, rfl, v, y, rfl, hv3, ?_⟩
    refine ⟨fun σ H' => H' = H3 ∧ σ = [some (.ref a), some v, some (oV lo), some (oV hi), some (.bl (inB v lo none)), none], ?_, ?_⟩
    · refine ⟨_, rfl, _, rfl, ?_⟩
      cases hv with
      | int i =>
        refine iteT ⟨_, rfl, rfl, _, rfl, ?_⟩
        cases lo with
        | none => exact iteF (iteF ⟨rfl, rfl⟩)
        | some l =>
          refine iteT ⟨_, rfl, _, rfl, i, l, rfl, rfl, _, rfl, ?_⟩
          have e : inB (.int i) (some l) none = decide (l ≤ i) := Bool.and_true _
          rw [e]
          by_cases hh : i < l
          · rw [decide_eq_true hh, decide_eq_false (by omega)]
            exact iteT ⟨rfl, rfl⟩
          · rw [decide_eq_false hh, decide_eq_true (by omega)]
            exact iteF ⟨rfl, rfl⟩
      | _ => exact iteF (iteF ⟨rfl, rfl⟩)
    · rintro σ1 H4 ⟨rfl, rfl⟩
      refine ⟨fun σ H' => H' = H4 ∧ σ = [some (.ref a), some v, some (oV lo), some (oV hi), some (.bl (inB v lo hi)), none], ?_, ?_⟩
      · refine ⟨_, rfl, _, rfl, ?_⟩
        cases hv with
        | int i =>
          have e0 : inB (.int i) lo none = loB lo i := Bool.and_true _
          have e1 : inB (.int i) lo hi = (loB lo i && hiB hi i) := rfl
          rw [e0, e1]
          cases hl : loB lo i with
          | false => exact iteF (iteF ⟨rfl, rfl⟩)
          | true =>
            refine iteT ⟨_, rfl, rfl, _, rfl, ?_⟩
            cases hi with
            | none => exact iteF (iteF ⟨rfl, rfl⟩)
            | some m =>
              refine iteT ⟨_, rfl, _, rfl, m, i, rfl, rfl, _, rfl, ?_⟩
              have e : (true && hiB (some m) i) = decide (i ≤ m) := rfl
              rw [e]
              by_cases hh : m < i
              · rw [decide_eq_true hh, decide_eq_false (by omega)]
                exact iteT ⟨rfl, rfl⟩
              · rw [decide_eq_false hh, decide_eq_true (by omega)]
                exact iteF ⟨rfl, rfl⟩
        | _ => exact iteF (iteF ⟨rfl, rfl⟩)
      · rintro σ2 H5 ⟨rfl, rfl⟩
        refine ⟨oV hi, rfl, v, rfl, oV lo, rfl, rfl, v, y, lo, hi, rfl, hv3, ?_⟩
        refine ⟨_, rfl, _, _, _, _, _, rfl, .ty "bool", .base (.bl _), kit_ty (by decide +kernel), _, rfl, iteT ?_⟩
        refine ⟨_, rfl, _, rfl, rfl, ?_⟩
        rw [decide_eq_true rfl]
        exact q _ J3 k3
theorem ok_law_text {f : Addr} {fd : FuncData} (D : DF K mg "_law_text" s_law_text f fd) (T : Txt K mg) (C_law_pour : Cal P w K mg base 1 "_law_pour" spPour []) :
    OkD P w K mg base 2 "_law_text" s_law_text ["_law_jug_here"] spText f fd := by
  refine okd D sc_law_text (fun vs H Q E h => ?_) (fun cdv A outer s H vs Q E hr h => ?_)
  · obtain ⟨a, n, rfl, _⟩ := h
    rfl
  · obtain ⟨a, n, rfl, J, hn, q⟩ := h
    have bn : ∀ j, j ≤ 20 → n + j ≤ 2 ^ 40 := fun j hj => Nat.le_trans (by omega : n + j ≤ 2 ^ 30) (by decide)
    refine ⟨_, (pss_cons (ps_par (i := 1) (j := 2) rfl sc_law_text.nd rfl rfl (by decide) rfl rfl (pa_cons (pe_cmpR op_eq (pe_c C_law_pour hr (by decide) (by rfl) (pa_cons (pv 0) (pa_cons pe_int pa_nil))) pe_int (nomark _)) (pa_cons (pe_c C_law_pour hr (by decide) (by rfl) (pa_cons (pv 0) (pa_cons pe_int pa_nil))) pa_nil)) (by rfl))
      (pss_cons (ps_set (i := 3) sc_law_text.nd rfl (Or.inr rfl) pe_str)
      (pss_cons (ps_set (i := 4) sc_law_text.nd rfl (Or.inl rfl) (pe_join pe_str (pe_lc (own := [("_law_turn", 7)]) (g := gName 7) (by rfl) sc_law_text.nd (pi_range1 rfl T.m_range (pa_cons (pv 2) pa_nil)) (blkOk_by (own := [("_law_turn", 7)]) (N := n_law_text) (sc := defScope s_law_text) (by decide +kernel)) (fun _ _ _ _ _ => pg_name (i := 7) sc_law_text.nd rfl (Or.inl rfl)) (fun _ _ _ _ _ => pts_nil) (fun _ _ _ _ _ => (pe_ix ix_str (pv 3) (pe_c C_law_pour hr (by decide) (by rfl) (pa_cons (pv 0) (pa_cons pe_int pa_nil))) (fun _ _ => rfl))))))
      (pss_cons (ps_if (PW.pt (pw_or (pt_not (pt_val (pv 1))) (pw_or1 (pt_cmpR op_eq (pv 2) pe_int (nomark _))))) (pss_one (ps_ret (pv 4))) pss_nil)
      (pss_cons (ps_par (i := 5) (j := 6) rfl sc_law_text.nd rfl rfl (by decide) rfl rfl (pa_cons (pe_c C_law_pour hr (by decide) (by rfl) (pa_cons (pv 0) (pa_cons (pv 2) pa_nil))) (pa_cons pe_str pa_nil)) (by rfl))
      (pss_one (ps_ret (pe_op op_add_str (pe_op op_add_str (pe_slice sl_str (pv 4) po_none (po_some (pv 5))) (pe_ix ix_str (pv 6) (pe_c C_law_pour hr (by decide) (by rfl) (pa_cons (pv 0) (pa_cons (pe_callB call_len (by rfl) T.m_len (by decide +kernel) (pa_cons (pv 6) pa_nil)) pa_nil))) (fun _ _ => rfl))) (pe_slice sl_str (pv 4) (po_some (pe_op op_add (pv 5) pe_int)) po_none))))))))), ?_⟩
    refine ⟨.ref a, rfl, a, 3, n, rfl, by decide, by decide, J, bn 0 (by decide), fun r0 H1 _ _ J1 k1 _ => ?_⟩
    refine ⟨rfl, .ref a, rfl, a, 15, n + 1, rfl, by decide, by decide, J1, bn 1 (by decide), fun m H2 m0 m1 J2 k2 _ => ?_⟩
    refine ⟨_, _, rfl, ?_⟩
    have J3 := J2
    have k3 : Keep a H H2 := k1.trans k2
    generalize H2 = H3 at J3 k3 ⊢
    generalize decide (V.int r0 = V.int 0) = odd
    -- the text
    refine ⟨⟨_, rfl⟩, _, rfl, m, rfl, by omega, by omega, fun D nD => ?_⟩
    have Da : D ≠ a := J3.ne nD
    refine lc_range (lo := 0) (n := m.toNat) (fun i H' => Jug H' a (n + 2 + i) ∧ Keep a H H' ∧ ∃ cs : List Nat, cs.length = i ∧ H' D = some (.lst (cs.map fun c => V.str ⟨#[c]⟩)))
      ⟨J3.new nD, k3.trans (Keep.new nD), [], rfl, upd_same⟩ ?_ ?_
    · rintro i H4 hi ⟨J4, k4, cs, lc, eD⟩
      refine ⟨rfl, _, rfl, .ref a, rfl, a, 36, n + 2 + i, rfl, by decide, by decide, J4, (by have := bn (2 + i) (by omega); omega), fun r H5 r0 r1 J5 k5 _ => ?_⟩
      obtain ⟨j, rfl⟩ : ∃ j : Nat, r = (j : Int) := ⟨_, (Int.toNat_of_nonneg r0).symm⟩
      have hj : j < 36 := by omega
      have hlen : ("abcdefghijklmnopqrstuvwxyz0123456789" : Str).cps.toList.length = 36 := by decide +kernel
      obtain ⟨c, hc⟩ : ∃ c, ("abcdefghijklmnopqrstuvwxyz0123456789" : Str).cps.toList[j]? = some c := ⟨_, List.getElem?_eq_getElem (by rw [hlen]; exact hj)⟩
      refine ⟨_, _, c, rfl, rfl, (by decide), atI_nat hc, _, k5 D _ Da eD, ?_, J5.upd Da, ?_, cs ++ [c], ?_, ?_⟩
      · rw [List.length_map, lc]
        exact small1000 (by omega)
      · exact fun b o nb e => by
          rw [upd_ne (fun z => by subst z; rw [k3.free nD Da] at e; cases e)]
          exact (k4.trans k5) b o nb e
      · rw [List.length_append, lc]
        rfl
      · rw [upd_same, List.map_append]
        rfl
    · rintro H4 ⟨J4, k4, cs, lc, eD⟩
      have hm : m.toNat ≤ 14 := by omega
      refine ⟨_, D, cs.map fun c => (⟨#[c]⟩ : Str), rfl, rfl, .inl ?_, ?_, ?_⟩
      · rw [List.map_map]
        exact seq_in eD
      · rw [one_sum, List.length_map, lc]
        have e0 : ("" : Str).length = 0 := rfl
        rw [e0]
        omega
      · rw [join_one]
        have hz : (⟨cs.toArray⟩ : Str).length ≤ 14 := by
          show cs.toArray.size ≤ 14
          rw [List.size_toArray, lc]
          exact hm
        generalize (⟨cs.toArray⟩ : Str) = z at hz ⊢
        refine ⟨_, rfl, _, rfl, ?_⟩
        have J4' : Jug H4 a (n + 20) := J4.mono (by omega)
        cases odd with
        | false => exact iteT (iteT ⟨_, rfl, q z H4 (by omega) J4' k4⟩)
        | true =>
          refine iteF ⟨_, rfl, rfl, _, rfl, ?_⟩
          by_cases e0 : m = 0
          · rw [decide_eq_true (by rw [e0])]
            exact iteT ⟨_, rfl, q z H4 (by omega) J4' k4⟩
          · rw [decide_eq_false (fun h => e0 (V.int.inj h))]
            refine iteF ?_
            refine ⟨.ref a, rfl, .int m, rfl, a, m, n + 16, rfl, by omega, ?_, J4.mono (by omega), bn 16 (by decide), fun r H5 r0 r1 J5 k5 _ => ?_⟩
            · have : m.natAbs ≤ 15 := by omega
              exact Nat.lt_of_le_of_lt this (by decide)
            refine ⟨_, _, rfl, ?_⟩
            have J6 := J5
            have k6 : Keep a H H5 := k4.trans k5
            generalize H5 = H6 at J6 k6 ⊢
            have zl : z.length ≤ sizeLine := Nat.le_of_lt (small1000 (by omega))
            refine ⟨_, rfl, _, rfl, _, rfl, z, rfl, zl, ?_⟩
            refine ⟨_, rfl, .ref a, rfl, _, rfl, _, _, rfl, ⟨by decide, rfl⟩, a, 13, n + 17, rfl, by decide, by decide, J6, bn 17 (by decide), fun r' H7 r0' r1' J7 k7 _ => ?_⟩
            obtain ⟨j, rfl⟩ : ∃ j : Nat, r' = (j : Int) := ⟨_, (Int.toNat_of_nonneg r0').symm⟩
            have hj : j < 13 := by omega
            have hlen : ("AMZ_ .-;:|/([" : Str).cps.toList.length = 13 := by decide +kernel
            have c1 := cutS_length z none (some r)
            have c2 := cutS_length z (some (r + 1)) none
            refine ⟨_, _, _, rfl, rfl, (by decide), atI_nat (j := j) (List.getElem?_eq_getElem (by rw [hlen]; exact hj)), _, _, rfl, rfl, ?_, ?_⟩
            · have e1 : (⟨#[("AMZ_ .-;:|/([" : Str).cps.toList[j]'(by rw [hlen]; exact hj)]⟩ : Str).length = 1 := rfl
              rw [e1]
              exact Nat.le_of_lt (small1000 (by omega))
            · refine ⟨_, rfl, _, rfl, _, _, rfl, rfl, _, rfl, z, rfl, zl, _, _, rfl, rfl, ?_, q _ H7 ?_ (J7.mono (by omega)) (k6.trans k7)⟩
              · rw [cat_len]
                have e1 : (⟨#[("AMZ_ .-;:|/([" : Str).cps.toList[j]'(by rw [hlen]; exact hj)]⟩ : Str).length = 1 := rfl
                rw [e1]
                exact Nat.le_of_lt (small1000 (by omega))
              · rw [cat_len, cat_len]
                have e1 : (⟨#[("AMZ_ .-;:|/([" : Str).cps.toList[j]'(by rw [hlen]; exact hj)]⟩ : Str).length = 1 := rfl
                rw [e1]
                omega
theorem ok_law_value {f : Addr} {fd : FuncData} (D : DF K mg "_law_value" s_law_value f fd) (T : Txt K mg) (C_law_pour : Cal P w K mg base 1 "_law_pour" spPour []) (C_law_text : Cal P w K mg base 2 "_law_text" spText []) :
    OkD P w K mg base 3 "_law_value" s_law_value ["_law_jug_here"] spValue f fd := by
  refine okd D sc_law_value (fun vs H Q E h => ?_) (fun cdv A outer s H vs Q E hr h => ?_)
  · obtain ⟨a, n, rfl, _⟩ := h
    rfl
  · obtain ⟨a, n, rfl, J, hn, q⟩ := h
    have bn : ∀ j, j ≤ 20 → n + j ≤ 2 ^ 40 := fun j hj => Nat.le_trans (by omega : n + j ≤ 2 ^ 30) (by decide)
    refine ⟨_, (pss_cons (ps_set (i := 1) sc_law_value.nd rfl (Or.inl rfl) (pe_c C_law_pour hr (by decide) (by rfl) (pa_cons (pv 0) (pa_cons pe_int pa_nil))))
      (pss_cons (ps_if (pt_cmpR op_eq (pv 1) pe_int (nomark _)) (pss_one (ps_ret (pe_op op_mul (pe_c C_law_pour hr (by decide) (by rfl) (pa_cons (pv 0) (pa_cons (pe_op op_pow pe_int pe_int) pa_nil))) (pe_op op_sub pe_int (pe_op op_mul pe_int (pe_c C_law_pour hr (by decide) (by rfl) (pa_cons (pv 0) (pa_cons pe_int pa_nil)))))))) pss_nil)
      (pss_cons (ps_if (pt_cmpR op_lt (pv 1) pe_int (nomark _)) (pss_one (ps_ret (pe_c C_law_text hr (by decide) (by rfl) (pa_cons (pv 0) pa_nil)))) pss_nil)
      (pss_cons (ps_set (i := 2) sc_law_value.nd rfl (Or.inl rfl) (pe_lst (pa_cons pe_non (pa_cons pe_bl (pa_cons pe_bl (pa_cons pe_int (pa_cons pe_int (pa_cons (pe_un un_neg pe_int) (pa_cons pe_str (pa_cons pe_str (pa_cons pe_str (pa_cons (pe_op op_mulS pe_str pe_int) (pa_cons (pe_op op_mulS pe_str pe_int) (pa_cons (pe_lst pa_nil) (pa_cons (pe_lst (pa_cons pe_str pa_nil)) (pa_cons (pe_tup (pa_cons pe_str pa_nil)) (pa_cons (pe_tup (pa_cons pe_int pa_nil)) (pa_cons (pe_lst (pa_cons pe_int pa_nil)) pa_nil))))))))))))))))))
      (pss_one (ps_ret (pe_ix ix_list (pv 2) (pe_c C_law_pour hr (by decide) (by rfl) (pa_cons (pv 0) (pa_cons (pe_callB call_len (by rfl) T.m_len (by decide +kernel) (pa_cons (pv 2) pa_nil)) pa_nil))) (fun _ _ => rfl)))))))), ?_⟩
    refine ⟨.ref a, rfl, a, 4, n, rfl, by decide, by decide, J, bn 0 (by decide), fun r0 H1 _ _ J1 k1 _ => ?_⟩
    refine ⟨.int r0, rfl, rfl, _, rfl, ?_⟩
    by_cases e0 : r0 = 0
    · rw [decide_eq_true (by rw [e0])]
      refine iteT ?_
      refine ⟨.ref a, rfl, 10, 40, rfl, rfl, ⟨by decide, by decide, by decide⟩, a, _, n + 1, rfl, by decide, by decide, J1, bn 1 (by decide), fun x H2 _ _ J2 k2 _ => ?_⟩
      refine ⟨.ref a, rfl, a, 2, n + 2, rfl, by decide, by decide, J2, bn 2 (by decide), fun z H3 z0 z1 J3 k3 _ => ?_⟩
      refine ⟨2, z, rfl, rfl, .inl ⟨by decide, by decide⟩, 1, _, rfl, rfl, x, _, rfl, rfl, .inr ⟨by omega, by omega⟩, ?_⟩
      exact q _ .int H3 (.int _) off_int (fun _ h => nomatch h) (J3.mono (by omega)) ((k1.trans k2).trans k3)
    · rw [decide_eq_false (fun h => e0 (V.int.inj h))]
      refine iteF ?_
      refine ⟨.int r0, rfl, _, _, rfl, rfl, _, rfl, ite2 (fun _ => ?_) (fun _ => ?_)⟩
      · refine ⟨.ref a, rfl, a, n + 1, rfl, J1, by omega, fun z H2 hz J2 k2 => ?_⟩
        exact q _ .str H2 (.str z) off_str (fun z' h => by cases h; omega) (J2.mono (by omega)) (k1.trans k2)
      · -- a value of the list
        have h0 : Keep a H H1 := k1
        refine ⟨1, rfl, "z", 12, rfl, rfl, by decide, by decide, by decide, by decide, by decide +kernel, "z", 13, rfl, rfl, by decide, by decide, by decide, by decide, by decide +kernel, Nat.zero_le _, fun p1 n1 => ?_⟩
        have J1' := J1.new (o := .lst []) n1
        have d1 : p1 ≠ a := J1.ne n1
        have kk1 : Keep a H (upd H1 p1 (.lst [])) := k1.trans (Keep.new n1)
        have ep1_1 : upd H1 p1 (.lst []) p1 = some (.lst []) := upd_same
        generalize upd H1 p1 (.lst []) = G1 at J1' kk1 ep1_1 ⊢
        refine ⟨(by show 1 ≤ sizeLine; decide), fun p2 n2 => ?_⟩
        have J2' := J1'.new (o := .lst [.str "a"]) n2
        have d2 : p2 ≠ a := J1'.ne n2
        have kk2 : Keep a H (upd G1 p2 (.lst [.str "a"])) := kk1.trans (Keep.new n2)
        have ep1_2 : upd G1 p2 (.lst [.str "a"]) p1 = some (.lst []) := by rw [upd_ne (ne_of_none ep1_1 n2)]; exact ep1_1
        have ep2_2 : upd G1 p2 (.lst [.str "a"]) p2 = some (.lst [.str "a"]) := upd_same
        generalize upd G1 p2 (.lst [.str "a"]) = G2 at J2' kk2 ep1_2 ep2_2 ⊢
        refine ⟨(by show 1 ≤ sizeLine; decide), fun p3 n3 => ?_⟩
        have J3' := J2'.new (o := .tup [.str "a"]) n3
        have d3 : p3 ≠ a := J2'.ne n3
        have kk3 : Keep a H (upd G2 p3 (.tup [.str "a"])) := kk2.trans (Keep.new n3)
        have ep1_3 : upd G2 p3 (.tup [.str "a"]) p1 = some (.lst []) := by rw [upd_ne (ne_of_none ep1_2 n3)]; exact ep1_2
        have ep2_3 : upd G2 p3 (.tup [.str "a"]) p2 = some (.lst [.str "a"]) := by rw [upd_ne (ne_of_none ep2_2 n3)]; exact ep2_2
        have ep3_3 : upd G2 p3 (.tup [.str "a"]) p3 = some (.tup [.str "a"]) := upd_same
        generalize upd G2 p3 (.tup [.str "a"]) = G3 at J3' kk3 ep1_3 ep2_3 ep3_3 ⊢
        refine ⟨(by show 1 ≤ sizeLine; decide), fun p4 n4 => ?_⟩
        have J4' := J3'.new (o := .tup [.int 1]) n4
        have d4 : p4 ≠ a := J3'.ne n4
        have kk4 : Keep a H (upd G3 p4 (.tup [.int 1])) := kk3.trans (Keep.new n4)
        have ep1_4 : upd G3 p4 (.tup [.int 1]) p1 = some (.lst []) := by rw [upd_ne (ne_of_none ep1_3 n4)]; exact ep1_3
        have ep2_4 : upd G3 p4 (.tup [.int 1]) p2 = some (.lst [.str "a"]) := by rw [upd_ne (ne_of_none ep2_3 n4)]; exact ep2_3
        have ep3_4 : upd G3 p4 (.tup [.int 1]) p3 = some (.tup [.str "a"]) := by rw [upd_ne (ne_of_none ep3_3 n4)]; exact ep3_3
        have ep4_4 : upd G3 p4 (.tup [.int 1]) p4 = some (.tup [.int 1]) := upd_same
        generalize upd G3 p4 (.tup [.int 1]) = G4 at J4' kk4 ep1_4 ep2_4 ep3_4 ep4_4 ⊢
        refine ⟨(by show 1 ≤ sizeLine; decide), fun p5 n5 => ?_⟩
        have J5' := J4'.new (o := .lst [.int 1]) n5
        have d5 : p5 ≠ a := J4'.ne n5
        have kk5 : Keep a H (upd G4 p5 (.lst [.int 1])) := kk4.trans (Keep.new n5)
        have ep1_5 : upd G4 p5 (.lst [.int 1]) p1 = some (.lst []) := by rw [upd_ne (ne_of_none ep1_4 n5)]; exact ep1_4
        have ep2_5 : upd G4 p5 (.lst [.int 1]) p2 = some (.lst [.str "a"]) := by rw [upd_ne (ne_of_none ep2_4 n5)]; exact ep2_4
        have ep3_5 : upd G4 p5 (.lst [.int 1]) p3 = some (.tup [.str "a"]) := by rw [upd_ne (ne_of_none ep3_4 n5)]; exact ep3_4
        have ep4_5 : upd G4 p5 (.lst [.int 1]) p4 = some (.tup [.int 1]) := by rw [upd_ne (ne_of_none ep4_4 n5)]; exact ep4_4
        have ep5_5 : upd G4 p5 (.lst [.int 1]) p5 = some (.lst [.int 1]) := upd_same
        generalize upd G4 p5 (.lst [.int 1]) = G5 at J5' kk5 ep1_5 ep2_5 ep3_5 ep4_5 ep5_5 ⊢
        refine ⟨(by show 16 ≤ sizeLine; decide), fun p np => ?_⟩
        have pa : p ≠ a := J5'.ne np
        refine ⟨_, rfl, .ref a, rfl, .ref p, rfl, .ref p, 16, rfl, .inl ⟨_, seq_in upd_same, rfl⟩, a, 16, n + 1, rfl, by decide, by decide, J5'.new np, bn 1 (by decide), fun r H3 q0 q1 J6 k6 _ => ?_⟩
        have kz : Keep a H H3 := (kk5.trans (Keep.new np)).trans k6
        have kw : Keep a G5 H3 := (Keep.new np).trans k6
        have hp := seq_in (K := K) (k6 p _ pa upd_same)
        have J7 : Jug H3 a (n + 22) := J6.mono (by omega)
        have hc : r = 0 ∨ r = 1 ∨ r = 2 ∨ r = 3 ∨ r = 4 ∨ r = 5 ∨ r = 6 ∨ r = 7 ∨ r = 8 ∨ r = 9 ∨ r = 10 ∨ r = 11 ∨ r = 12 ∨ r = 13 ∨ r = 14 ∨ r = 15 := by omega
        rcases hc with rfl | rfl | rfl | rfl | rfl | rfl | rfl | rfl | rfl | rfl | rfl | rfl | rfl | rfl | rfl | rfl
        · exact ⟨p, _, _, _, rfl, rfl, hp, rfl, q _ .non H3 (.non) off_non (fun _ h => nomatch h) J7 kz⟩
        · exact ⟨p, _, _, _, rfl, rfl, hp, rfl, q _ .bool H3 (.bl _) off_bl (fun _ h => nomatch h) J7 kz⟩
        · exact ⟨p, _, _, _, rfl, rfl, hp, rfl, q _ .bool H3 (.bl _) off_bl (fun _ h => nomatch h) J7 kz⟩
        · exact ⟨p, _, _, _, rfl, rfl, hp, rfl, q _ .int H3 (.int _) off_int (fun _ h => nomatch h) J7 kz⟩
        · exact ⟨p, _, _, _, rfl, rfl, hp, rfl, q _ .int H3 (.int _) off_int (fun _ h => nomatch h) J7 kz⟩
        · exact ⟨p, _, _, _, rfl, rfl, hp, rfl, q _ .int H3 (.int _) off_int (fun _ h => nomatch h) J7 kz⟩
        · exact ⟨p, _, _, _, rfl, rfl, hp, rfl, q _ .str H3 (.str _) off_str (fun z h => by cases h; decide +kernel) J7 kz⟩
        · exact ⟨p, _, _, _, rfl, rfl, hp, rfl, q _ .str H3 (.str _) off_str (fun z h => by cases h; decide +kernel) J7 kz⟩
        · exact ⟨p, _, _, _, rfl, rfl, hp, rfl, q _ .str H3 (.str _) off_str (fun z h => by cases h; decide +kernel) J7 kz⟩
        · exact ⟨p, _, _, _, rfl, rfl, hp, rfl, q _ .str H3 (.str _) off_str (fun z h => by cases h; decide +kernel) J7 kz⟩
        · exact ⟨p, _, _, _, rfl, rfl, hp, rfl, q _ .str H3 (.str _) off_str (fun z h => by cases h; decide +kernel) J7 kz⟩
        · exact ⟨p, _, _, _, rfl, rfl, hp, rfl, q (.ref p1) .lst H3 (.lst (kw _ _ d1 ep1_5)) (off_ref d1) (fun _ h => nomatch h) J7 kz⟩
        · exact ⟨p, _, _, _, rfl, rfl, hp, rfl, q (.ref p2) .lst H3 (.lst (kw _ _ d2 ep2_5)) (off_ref d2) (fun _ h => nomatch h) J7 kz⟩
        · exact ⟨p, _, _, _, rfl, rfl, hp, rfl, q (.ref p3) .tup H3 (.tup (kw _ _ d3 ep3_5)) (off_ref d3) (fun _ h => nomatch h) J7 kz⟩
        · exact ⟨p, _, _, _, rfl, rfl, hp, rfl, q (.ref p4) .tup H3 (.tup (kw _ _ d4 ep4_5)) (off_ref d4) (fun _ h => nomatch h) J7 kz⟩
        · exact ⟨p, _, _, _, rfl, rfl, hp, rfl, q (.ref p5) .lst H3 (.lst (kw _ _ d5 ep5_5)) (off_ref d5) (fun _ h => nomatch h) J7 kz⟩
end
end K01

namespace K01
open PySem PySem.Spec PyProof.Rows L2 XB
open C8 (Cal Met Mak pe_c pe_mk pe_mt pe_mt0 pss_cut tCut)
def spLaw (K : PySem.W.Frag) : Sp := fun vs H Q _ => ∃ (a : Addr) (ns : List Int), vs = [.ref a] ∧ SqL K H a (ns.map V.int) ∧ ns.length ≤ 63 ∧ ∀ H', Q (.bl true) H'
theorem turn3 {zs : List V} {ws : List Value} (r : Vals zs ws) : Vals (g3 zs) (g3 ws) :=
  match r with
  | .nil => .nil
  | .cons a .nil => .cons a .nil
  | .cons a (.cons b .nil) => .cons a (.cons b .nil)
  | .cons a (.cons b (.cons c .nil)) => .cons b (.cons c (.cons a .nil))
  | .cons a (.cons b (.cons c (.cons d t))) => .cons a (.cons b (.cons c (.cons d t)))
section
variable {P : Program} {w : World} {K : PySem.W.Frag} {mg : Str → Option Value} {base : Heap}
theorem ok_law {f : Addr} {fd : FuncData} (D : DF K mg "law" s_law f fd) (T : Txt K mg)
    (C_is_integerk : CalK P w K mg base 1 "is_integer" ["value"] spNum gid) (C_is_namek : CalK P w K mg base 1 "is_name" ["value"] spName gid)
    (C_law_jug : Cal P w K mg base 1 "_law_jug" (spJug K) []) (C_law_value : Cal P w K mg base 3 "_law_value" spValue [])
    (C_law_is_number : Cal P w K mg base 1 "_law_is_number" spNum []) (C_law_is_name : Cal P w K mg base 1 "_law_is_name" spName2 [])
    (C_law_within_right : Cal P w K mg base 3 "_law_within_right" spRight []) :
    OkD P w K mg base 4 "law" s_law ["_law_script"] (spLaw K) f fd := by
  refine okd D sc_law (fun vs H Q E h => ?_) (fun cdv A outer s H vs Q E hr h => ?_)
  · obtain ⟨a, ns, rfl, _⟩ := h
    rfl
  · obtain ⟨a, ns, rfl, hS, hl, q⟩ := h
    refine ⟨_, (pss_cons (ps_set (i := 1) sc_law.nd rfl (Or.inl rfl) (pe_c C_law_jug hr (by decide) (by rfl) (pa_cons (pv 0) pa_nil)))
      (pss_cons (ps_for PassesOwn.never rfl (pi_range1 rfl T.m_range (pa_cons pe_int pa_nil)) (pg_name (i := 2) sc_law.nd rfl (Or.inl rfl))
      (pss_cons (ps_set (i := 3) sc_law.nd rfl (Or.inl rfl) (pe_c C_law_value hr (by decide) (by rfl) (pa_cons (pv 1) pa_nil)))
      (pss_cons (ps_set (i := 4) sc_law.nd rfl (Or.inl rfl) (pe_lst (pa_cons (pe_ck0 C_is_integerk hr (by decide) (by rfl) (pk_cons (pv 3) pk_nil)) (pa_cons (pe_ck0 C_is_namek hr (by decide) (by rfl) (pk_cons (pv 3) pk_nil)) pa_nil))))
      (pss_cons (ps_if (PW.pt (pw_or (pt_cmpR (op_neD hr.units) (pv 4) (pe_lst (pa_cons (pe_c C_law_is_number hr (by decide) (by rfl) (pa_cons (pv 3) pa_nil)) (pa_cons (pe_c C_law_is_name hr (by decide) (by rfl) (pa_cons (pv 3) pa_nil)) pa_nil))) (nomark _)) (pw_or (pt_not (pt_val (pe_callB call_isi (by rfl) T.m_isinstance (by decide +kernel) (pa_cons (pe_ix ix_list (pv 4) pe_int (fun _ _ => rfl)) (pa_cons (pe_bltn (v := .ty "bool") (by rfl) T.m_bool (by decide +kernel) rfl) pa_nil))))) (pw_or1 (pt_not (pt_val (pe_callB call_isi (by rfl) T.m_isinstance (by decide +kernel) (pa_cons (pe_ix ix_list (pv 4) pe_int (fun _ _ => rfl)) (pa_cons (pe_bltn (v := .ty "bool") (by rfl) T.m_bool (by decide +kernel) rfl) pa_nil))))))))) (pss_one (ps_ret pe_bl)) pss_nil)
      (pss_one (ps_if (PW.pt (pw_or (pt_not (pt_val (pe_c C_law_within_right hr (by decide) (by rfl) (pa_cons (pv 1) (pa_cons (pv 3) pa_nil))))) (pw_or1 (pt_not (pt_val (pe_c C_law_within_right hr (by decide) (by rfl) (pa_cons (pv 1) (pa_cons (pv 3) pa_nil)))))))) (pss_one (ps_ret pe_bl)) pss_nil))))))
      (pss_one (ps_ret pe_bl)))), ?_⟩
    refine ⟨.ref a, rfl, a, ns, rfl, hS, fun p H1 np J1 s1 => ?_⟩
    refine ⟨12, rfl, by decide, by decide, for_range (n := 12) (fun i σ H' => ∃ t v told, σ = [some (.ref a), some (.ref p), t, v, told] ∧ Jug H' p (100 * i)) ⟨_, _, _, rfl, J1⟩ ?_ (fun σ H' _ => q H')⟩
    rintro i σ H2 hi ⟨t, v0, told0, rfl, J2⟩
    have b30 : ∀ j, j ≤ 100 → 100 * i + j ≤ 2 ^ 30 := fun j hj => Nat.le_trans (by omega : 100 * i + j ≤ 1300) (by decide)
    refine ⟨.ref p, rfl, p, 100 * i, rfl, J2, b30 22 (by decide), fun v y H3 hv off hz J3 k3 => ?_⟩
    refine ⟨v, rfl, rfl, v, y, rfl, hv, v, rfl, rfl, v, y, rfl, hv, hz, fun H4 s4 => ?_⟩
    have J4 : Jug H4 p (100 * i + 22) := by
      obtain ⟨w, c, e, rest⟩ := J3.ex
      exact ⟨w, c, s4 _ _ e, rest⟩
    have hv4 : IsV H4 v y := hv.same s4
    refine ⟨(by show 2 ≤ sizeLine; decide), fun l nl => ?_⟩
    have lp : l ≠ p := J4.ne nl
    have J5 := J4.new (o := .lst [.bl y.isN, .bl (nameB v)]) nl
    have hv5 : IsV (upd H4 l (.lst [.bl y.isN, .bl (nameB v)])) v y := hv4.keep (a := p) (Keep.new nl) off
    have el : upd H4 l (.lst [.bl y.isN, .bl (nameB v)]) l = some (.lst [.bl y.isN, .bl (nameB v)]) := upd_same
    generalize upd H4 l (.lst [.bl y.isN, .bl (nameB v)]) = H5 at J5 hv5 el ⊢
    refine ⟨.ref l, rfl, v, rfl, v, y, rfl, hv5, v, rfl, v, y, rfl, hv5, hz, (by show 2 ≤ sizeLine; decide), fun l2 nl2 => ?_⟩
    have l2p : l2 ≠ p := J5.ne nl2
    have J6 := J5.new (o := .lst [.bl y.isN, .bl (nameB v)]) nl2
    have hv6 : IsV (upd H5 l2 (.lst [.bl y.isN, .bl (nameB v)])) v y := hv5.keep (a := p) (Keep.new nl2) off
    have el6 : upd H5 l2 (.lst [.bl y.isN, .bl (nameB v)]) l = some (.lst [.bl y.isN, .bl (nameB v)]) := by
      rw [upd_ne (ne_of_none el nl2)]
      exact el
    have el2 : upd H5 l2 (.lst [.bl y.isN, .bl (nameB v)]) l2 = some (.lst [.bl y.isN, .bl (nameB v)]) := upd_same
    generalize upd H5 l2 (.lst [.bl y.isN, .bl (nameB v)]) = H6 at J6 hv6 el6 el2 ⊢
    refine ⟨_, _, .lst (seq_in el6) (.cons (.bl _) (.cons (.bl _) .nil)), .lst (seq_in el2) (.cons (.bl _) (.cons (.bl _) .nil)), rfl, rfl, _, rfl, ?_⟩
    rw [SeqAt.eqv_refl _ (by rfl)]
    refine iteF ?_
    refine ⟨.ref l, rfl, l, _, 0, _, rfl, rfl, seq_in el6, rfl, _, _, _, _, true, rfl, .ty "bool", .base (.bl _), kit_ty (by decide +kernel), _, rfl, iteF ?_⟩
    refine ⟨.ref l, rfl, l, _, 1, _, rfl, rfl, seq_in el6, rfl, _, _, _, _, true, rfl, .ty "bool", .base (.bl _), kit_ty (by decide +kernel), _, rfl, iteF ?_⟩
    refine ⟨.ref p, rfl, v, rfl, p, 100 * i + 22, v, y, rfl, J6, b30 24 (by decide), hv6, off, fun H7 J7 k7 => ?_⟩
    refine ⟨_, rfl, iteF ?_⟩
    refine ⟨.ref p, rfl, v, rfl, p, 100 * i + 24, v, y, rfl, J7, b30 26 (by decide), hv6.keep k7 off, off, fun H8 J8 k8 => ?_⟩
    refine ⟨_, rfl, iteF ?_⟩
    exact ⟨_, _, _, rfl, J8.mono (by omega)⟩
end
theorem all_mk {l : PySem.W.OpenLaw} {w : World} {K : PySem.W.Frag} {h : Heap} {mg : Str → Option Value} {fa : Addr} (X : K.In h) (G : h.Ns mainGlobals mg) (hfa : mg "law" = some (.ref fa))
    {f0 : Addr} {od0 an0 : Option Addr} {sl0 : Array (Option Value)} {oc0 kV0 dc0 pm0 cd0 ct0 : Value}
    {f1 : Addr} {od1 an1 : Option Addr} {sl1 : Array (Option Value)} {oc1 kV1 dc1 pm1 cd1 ct1 : Value}
    {f2 : Addr} {od2 an2 : Option Addr} {sl2 : Array (Option Value)} {oc2 kV2 dc2 pm2 cd2 ct2 : Value}
    {f3 : Addr} {od3 an3 : Option Addr} {sl3 : Array (Option Value)} {oc3 kV3 dc3 pm3 cd3 ct3 : Value}
    {f4 : Addr} {od4 an4 : Option Addr} {sl4 : Array (Option Value)} {oc4 kV4 dc4 pm4 cd4 ct4 : Value}
    {f5 : Addr} {od5 an5 : Option Addr} {sl5 : Array (Option Value)} {oc5 kV5 dc5 pm5 cd5 ct5 : Value}
    {f6 : Addr} {od6 an6 : Option Addr} {sl6 : Array (Option Value)} {oc6 kV6 dc6 pm6 cd6 ct6 : Value}
    {f7 : Addr} {od7 an7 : Option Addr} {sl7 : Array (Option Value)} {oc7 kV7 dc7 pm7 cd7 ct7 : Value}
    {f8 : Addr} {od8 an8 : Option Addr} {sl8 : Array (Option Value)} {oc8 kV8 dc8 pm8 cd8 ct8 : Value}
    {f9 : Addr} {od9 an9 : Option Addr} {sl9 : Array (Option Value)} {oc9 kV9 dc9 pm9 cd9 ct9 : Value}
    {f10 : Addr} {od10 an10 : Option Addr} {sl10 : Array (Option Value)} {oc10 kV10 dc10 pm10 cd10 ct10 : Value}
    {f11 : Addr} {od11 an11 : Option Addr} {sl11 : Array (Option Value)} {oc11 kV11 dc11 pm11 cd11 ct11 : Value}
    {t_LETTERS : Tok}
    {t_DIGITS : Tok}
    (a0 : PySem.W.nsIn K mainGlobals "is_integer" = some (some (.ref f0))) (l0 : K.lookup f0 = some ⟨oc0, od0, .func (PySem.W.fnOf "is_integer" "is_integer" (defArgs s_is_integer) (defBody s_is_integer) (defScope s_is_integer) .none kV0 dc0 pm0 an0 cd0 ct0), sl0⟩) (c0 : PySem.W.codeIn K cd0 "is_integer" = true) (k0 : PySem.W.keepIn K (.ref f0) = true)
    (a1 : PySem.W.nsIn K mainGlobals "is_within" = some (some (.ref f1))) (l1 : K.lookup f1 = some ⟨oc1, od1, .func (PySem.W.fnOf "is_within" "is_within" (defArgs s_is_within) (defBody s_is_within) (defScope s_is_within) .none kV1 dc1 pm1 an1 cd1 ct1), sl1⟩) (c1 : PySem.W.codeIn K cd1 "is_within" = true) (k1 : PySem.W.keepIn K (.ref f1) = true)
    (a2 : PySem.W.nsIn K mainGlobals "is_name" = some (some (.ref f2))) (l2 : K.lookup f2 = some ⟨oc2, od2, .func (PySem.W.fnOf "is_name" "is_name" (defArgs s_is_name) (defBody s_is_name) (defScope s_is_name) .none kV2 dc2 pm2 an2 cd2 ct2), sl2⟩) (c2 : PySem.W.codeIn K cd2 "is_name" = true) (k2 : PySem.W.keepIn K (.ref f2) = true)
    (a3 : PySem.W.nsIn K mainGlobals "_law_jug" = some (some (.ref f3))) (l3 : K.lookup f3 = some ⟨oc3, od3, .func (PySem.W.fnOf "_law_jug" "_law_jug" (defArgs s_law_jug) (defBody s_law_jug) (defScope s_law_jug) .none kV3 dc3 pm3 an3 cd3 ct3), sl3⟩) (c3 : PySem.W.codeIn K cd3 "_law_jug" = true) (k3 : PySem.W.keepIn K (.ref f3) = true)
    (a4 : PySem.W.nsIn K mainGlobals "_law_pour" = some (some (.ref f4))) (l4 : K.lookup f4 = some ⟨oc4, od4, .func (PySem.W.fnOf "_law_pour" "_law_pour" (defArgs s_law_pour) (defBody s_law_pour) (defScope s_law_pour) .none kV4 dc4 pm4 an4 cd4 ct4), sl4⟩) (c4 : PySem.W.codeIn K cd4 "_law_pour" = true) (k4 : PySem.W.keepIn K (.ref f4) = true)
    (a5 : PySem.W.nsIn K mainGlobals "_law_text" = some (some (.ref f5))) (l5 : K.lookup f5 = some ⟨oc5, od5, .func (PySem.W.fnOf "_law_text" "_law_text" (defArgs s_law_text) (defBody s_law_text) (defScope s_law_text) .none kV5 dc5 pm5 an5 cd5 ct5), sl5⟩) (c5 : PySem.W.codeIn K cd5 "_law_text" = true) (k5 : PySem.W.keepIn K (.ref f5) = true)
    (a6 : PySem.W.nsIn K mainGlobals "_law_value" = some (some (.ref f6))) (l6 : K.lookup f6 = some ⟨oc6, od6, .func (PySem.W.fnOf "_law_value" "_law_value" (defArgs s_law_value) (defBody s_law_value) (defScope s_law_value) .none kV6 dc6 pm6 an6 cd6 ct6), sl6⟩) (c6 : PySem.W.codeIn K cd6 "_law_value" = true) (k6 : PySem.W.keepIn K (.ref f6) = true)
    (a7 : PySem.W.nsIn K mainGlobals "_law_is_number" = some (some (.ref f7))) (l7 : K.lookup f7 = some ⟨oc7, od7, .func (PySem.W.fnOf "_law_is_number" "_law_is_number" (defArgs s_law_is_number) (defBody s_law_is_number) (defScope s_law_is_number) .none kV7 dc7 pm7 an7 cd7 ct7), sl7⟩) (c7 : PySem.W.codeIn K cd7 "_law_is_number" = true) (k7 : PySem.W.keepIn K (.ref f7) = true)
    (a8 : PySem.W.nsIn K mainGlobals "_law_is_name" = some (some (.ref f8))) (l8 : K.lookup f8 = some ⟨oc8, od8, .func (PySem.W.fnOf "_law_is_name" "_law_is_name" (defArgs s_law_is_name) (defBody s_law_is_name) (defScope s_law_is_name) .none kV8 dc8 pm8 an8 cd8 ct8), sl8⟩) (c8 : PySem.W.codeIn K cd8 "_law_is_name" = true) (k8 : PySem.W.keepIn K (.ref f8) = true)
    (a9 : PySem.W.nsIn K mainGlobals "_law_bound" = some (some (.ref f9))) (l9 : K.lookup f9 = some ⟨oc9, od9, .func (PySem.W.fnOf "_law_bound" "_law_bound" (defArgs s_law_bound) (defBody s_law_bound) (defScope s_law_bound) .none kV9 dc9 pm9 an9 cd9 ct9), sl9⟩) (c9 : PySem.W.codeIn K cd9 "_law_bound" = true) (k9 : PySem.W.keepIn K (.ref f9) = true)
    (a10 : PySem.W.nsIn K mainGlobals "_law_within_right" = some (some (.ref f10))) (l10 : K.lookup f10 = some ⟨oc10, od10, .func (PySem.W.fnOf "_law_within_right" "_law_within_right" (defArgs s_law_within_right) (defBody s_law_within_right) (defScope s_law_within_right) .none kV10 dc10 pm10 an10 cd10 ct10), sl10⟩) (c10 : PySem.W.codeIn K cd10 "_law_within_right" = true) (k10 : PySem.W.keepIn K (.ref f10) = true)
    (a11 : PySem.W.nsIn K mainGlobals "law" = some (some (.ref f11))) (l11 : K.lookup f11 = some ⟨oc11, od11, .func (PySem.W.fnOf "law" "law" (defArgs s_law) (defBody s_law) (defScope s_law) .none kV11 dc11 pm11 an11 cd11 ct11), sl11⟩) (c11 : PySem.W.codeIn K cd11 "law" = true) (k11 : PySem.W.keepIn K (.ref f11) = true)
    (z_isinstance : PySem.W.nsIn K mainGlobals "isinstance" = some none)
    (z_int : PySem.W.nsIn K mainGlobals "int" = some none)
    (z_bool : PySem.W.nsIn K mainGlobals "bool" = some none)
    (z_str : PySem.W.nsIn K mainGlobals "str" = some none)
    (z_len : PySem.W.nsIn K mainGlobals "len" = some none)
    (z_all : PySem.W.nsIn K mainGlobals "all" = some none)
    (z_abs : PySem.W.nsIn K mainGlobals "abs" = some none)
    (z_range : PySem.W.nsIn K mainGlobals "range" = some none)
    (y_LETTERS : PySem.W.nsIn K mainGlobals "LETTERS" = some (some (.str LET t_LETTERS)))
    (y_DIGITS : PySem.W.nsIn K mainGlobals "DIGITS" = some (some (.str DIG t_DIGITS))) :
    ∃ fd : FuncData, (∀ (s : Shared) (v : Value), BindsTo s fd ⟨[v], []⟩ [("_law_script", v)]) ∧ ∀ base : Heap, K.In base → base.Ns mainGlobals mg → FnOk l.prog w K mg base CX0 4 fa fd ["_law_script"] (spLaw K) := by
  have D_is_integer : DF K mg "is_integer" s_is_integer f0 _ := ⟨fun_mk (st := s_is_integer) l0 c0 k0, PySem.W.mg_of X G a0⟩
  have D_is_within : DF K mg "is_within" s_is_within f1 _ := ⟨fun_mk (st := s_is_within) l1 c1 k1, PySem.W.mg_of X G a1⟩
  have D_is_name : DF K mg "is_name" s_is_name f2 _ := ⟨fun_mk (st := s_is_name) l2 c2 k2, PySem.W.mg_of X G a2⟩
  have D_law_jug : DF K mg "_law_jug" s_law_jug f3 _ := ⟨fun_mk (st := s_law_jug) l3 c3 k3, PySem.W.mg_of X G a3⟩
  have D_law_pour : DF K mg "_law_pour" s_law_pour f4 _ := ⟨fun_mk (st := s_law_pour) l4 c4 k4, PySem.W.mg_of X G a4⟩
  have D_law_text : DF K mg "_law_text" s_law_text f5 _ := ⟨fun_mk (st := s_law_text) l5 c5 k5, PySem.W.mg_of X G a5⟩
  have D_law_value : DF K mg "_law_value" s_law_value f6 _ := ⟨fun_mk (st := s_law_value) l6 c6 k6, PySem.W.mg_of X G a6⟩
  have D_law_is_number : DF K mg "_law_is_number" s_law_is_number f7 _ := ⟨fun_mk (st := s_law_is_number) l7 c7 k7, PySem.W.mg_of X G a7⟩
  have D_law_is_name : DF K mg "_law_is_name" s_law_is_name f8 _ := ⟨fun_mk (st := s_law_is_name) l8 c8 k8, PySem.W.mg_of X G a8⟩
  have D_law_bound : DF K mg "_law_bound" s_law_bound f9 _ := ⟨fun_mk (st := s_law_bound) l9 c9 k9, PySem.W.mg_of X G a9⟩
  have D_law_within_right : DF K mg "_law_within_right" s_law_within_right f10 _ := ⟨fun_mk (st := s_law_within_right) l10 c10 k10, PySem.W.mg_of X G a10⟩
  have D_law : DF K mg "law" s_law f11 _ := ⟨fun_mk (st := s_law) l11 c11 k11, PySem.W.mg_of X G a11⟩
  have T : Txt K mg := ⟨PySem.W.mg_none_of X G z_isinstance, PySem.W.mg_none_of X G z_int, PySem.W.mg_none_of X G z_bool, PySem.W.mg_none_of X G z_str, PySem.W.mg_none_of X G z_len, PySem.W.mg_none_of X G z_all, PySem.W.mg_none_of X G z_abs, PySem.W.mg_none_of X G z_range, ⟨_, PySem.W.mg_of X G y_LETTERS⟩, ⟨_, PySem.W.mg_of X G y_DIGITS⟩⟩
  have e := hfa.symm.trans (PySem.W.mg_of X G a11)
  cases e
  refine ⟨PySem.W.fnOf "law" "law" (defArgs s_law) (defBody s_law) (defScope s_law) .none kV11 dc11 pm11 an11 cd11 ct11, fun s v => .of_eq rfl, fun base _ _ => ?_⟩
  have c1 := (ok_is_integer (P := l.prog) (w := w) (base := base) D_is_integer T)
  have c2 := (ok_is_within (P := l.prog) (w := w) (base := base) D_is_within (c1.cal (fun _ _ _ _ _ _ us hl => match us, hl with | [_], _ => rfl)))
  have c3 := (ok_is_name (P := l.prog) (w := w) (base := base) D_is_name T)
  have c4 := (ok_jug (P := l.prog) (w := w) (base := base) D_law_jug T).cal (fun _ _ _ _ _ _ us hl => match us, hl with | [_], _ => rfl)
  have c5 := (ok_pour (P := l.prog) (w := w) (base := base) D_law_pour).cal (fun _ _ _ _ _ _ us hl => match us, hl with | [_, _], _ => rfl)
  have c6 := (ok_law_text (P := l.prog) (w := w) (base := base) D_law_text T c5).cal (fun _ _ _ _ _ _ us hl => match us, hl with | [_], _ => rfl)
  have c7 := (ok_law_value (P := l.prog) (w := w) (base := base) D_law_value T c5 c6).cal (fun _ _ _ _ _ _ us hl => match us, hl with | [_], _ => rfl)
  have c8 := (ok_law_is_number (P := l.prog) (w := w) (base := base) D_law_is_number T).cal (fun _ _ _ _ _ _ us hl => match us, hl with | [_], _ => rfl)
  have c9 := (ok_law_is_name (P := l.prog) (w := w) (base := base) D_law_is_name T).cal (fun _ _ _ _ _ _ us hl => match us, hl with | [_], _ => rfl)
  have c10 := (ok_law_bound (P := l.prog) (w := w) (base := base) D_law_bound c8 c5).cal (fun _ _ _ _ _ _ us hl => match us, hl with | [_, _], _ => rfl)
  have c11 := (ok_law_within_right (P := l.prog) (w := w) (base := base) D_law_within_right T c8 c10 (c2.calk (fun _ _ _ _ _ _ ws hl => match ws, hl with | [_, _, _], _ => rfl) turn3)).cal (fun _ _ _ _ _ _ us hl => match us, hl with | [_, _], _ => rfl)
  exact (ok_law D_law T (c1.calk (fun _ _ _ _ _ _ ws hl => match ws, hl with | [_], _ => rfl) (fun r => r)) (c3.calk (fun _ _ _ _ _ _ ws hl => match ws, hl with | [_], _ => rfl) (fun r => r)) c4 c7 c8 c9 c11).ok

end K01
open PySem PySem.W PyProof.Rows
set_option maxRecDepth 100000 in
set_option maxHeartbeats 0 in
theorem PySem.Challenge.cw_truthwell_k01_kinds_of_any_values_holds : PySem.Challenge.rw_truthwell_k01_kinds_of_any_values.Holds := by
  w_on; o_law; k_head; (case hw => w_witness2)
  k_fill
  refine L2.walk_of (l := PySem.Challenge.rw_truthwell_k01_kinds_of_any_values) (n := 63) (k := 4) (x := "_law_script") (CX := fun _ => L2.CX0) (sp := fun w => K01.spLaw _) rfl (by decide) rfl ⟨rfl, by decide, by decide⟩ (fun w h Y => PySem.W.kIn_of Y) ?F (fun _ _ a ns hl _ hS => ⟨a, ns, rfl, hS, hl, fun _ => rfl⟩) (fun _ _ _ _ _ h => h)
  case F =>
    intro w mg fa h KX G hmg
    refine' K01.all_mk KX G hmg ?a0 ?l0 ?c0 ?k0 ?a1 ?l1 ?c1 ?k1 ?a2 ?l2 ?c2 ?k2 ?a3 ?l3 ?c3 ?k3 ?a4 ?l4 ?c4 ?k4 ?a5 ?l5 ?c5 ?k5 ?a6 ?l6 ?c6 ?k6 ?a7 ?l7 ?c7 ?k7 ?a8 ?l8 ?c8 ?k8 ?a9 ?l9 ?c9 ?k9 ?a10 ?l10 ?c10 ?k10 ?a11 ?l11 ?c11 ?k11 ?z_isinstance ?z_int ?z_bool ?z_str ?z_len ?z_all ?z_abs ?z_range ?y_LETTERS ?y_DIGITS
    (case a0 => k_is)
    (case l0 => k_is)
    (case c0 => k_is)
    (case k0 => k_is)
    (case a1 => k_is)
    (case l1 => k_is)
    (case c1 => k_is)
    (case k1 => k_is)
    (case a2 => k_is)
    (case l2 => k_is)
    (case c2 => k_is)
    (case k2 => k_is)
    (case a3 => k_is)
    (case l3 => k_is)
    (case c3 => k_is)
    (case k3 => k_is)
    (case a4 => k_is)
    (case l4 => k_is)
    (case c4 => k_is)
    (case k4 => k_is)
    (case a5 => k_is)
    (case l5 => k_is)
    (case c5 => k_is)
    (case k5 => k_is)
    (case a6 => k_is)
    (case l6 => k_is)
    (case c6 => k_is)
    (case k6 => k_is)
    (case a7 => k_is)
    (case l7 => k_is)
    (case c7 => k_is)
    (case k7 => k_is)
    (case a8 => k_is)
    (case l8 => k_is)
    (case c8 => k_is)
    (case k8 => k_is)
    (case a9 => k_is)
    (case l9 => k_is)
    (case c9 => k_is)
    (case k9 => k_is)
    (case a10 => k_is)
    (case l10 => k_is)
    (case c10 => k_is)
    (case k10 => k_is)
    (case a11 => k_is)
    (case l11 => k_is)
    (case c11 => k_is)
    (case k11 => k_is)
    (case z_isinstance => k_is)
    (case z_int => k_is)
    (case z_bool => k_is)
    (case z_str => k_is)
    (case z_len => k_is)
    (case z_all => k_is)
    (case z_abs => k_is)
    (case z_range => k_is)
    (case y_LETTERS => k_is)
    (case y_DIGITS => k_is)


