import PyProof.Rows.All
import Wide.All
import OpenK.AllK
import Wide.FinOn
import HandS.ForMost
import HandS.Gcd
import Flt.RightSqrt
import KE.KMathG
import HandS.IsInst
import HandS.Wide
import HandS.WideBits
import HandS.StrMore
import HandS.FStr
import HandS.EndBits
import HandS.Codes
import HandS.Walk
import HandS.Strs
import PyProof.Rows.StrPadFill
import PySem.Challenge.RW_sheetworks_k07_conversions
set_option Elab.async false
set_option linter.all false
set_option maxRecDepth 100000
set_option maxHeartbeats 4000000
namespace Mysheetworks_k07_conversions
open PySem PySem.Spec PyProof.Rows L2
def topS (i : Nat) : Stmt := PySem.Challenge.pw_sheetworks_k07_conversions.main.body.getD i (.Pass ⟨0, 0, 0, 0⟩)
abbrev shalf_even : Stmt := topS 5
abbrev Nhalf_even : List Str := ["a", "b", "below", "rest"]
abbrev Phalf_even : List Str := ["a", "b"]
theorem schalf_even : FnScope Nhalf_even Phalf_even (defScope shalf_even) := ⟨rfl, rfl, rfl, by decide +kernel, rfl, by decide +kernel, by decide +kernel⟩
abbrev sfitting : Stmt := topS 6
abbrev Nfitting : List Str := ["m"]
abbrev Pfitting : List Str := ["m"]
theorem scfitting : FnScope Nfitting Pfitting (defScope sfitting) := ⟨rfl, rfl, rfl, by decide +kernel, rfl, by decide +kernel, by decide +kernel⟩
abbrev sfloored : Stmt := topS 7
abbrev Nfloored : List Str := ["m"]
abbrev Pfloored : List Str := ["m"]
theorem scfloored : FnScope Nfloored Pfloored (defScope sfloored) := ⟨rfl, rfl, rfl, by decide +kernel, rfl, by decide +kernel, by decide +kernel⟩
abbrev sshown_amount : Stmt := topS 8
abbrev Nshown_amount : List Str := ["m", "sign", "whole", "millionths", "behind"]
abbrev Pshown_amount : List Str := ["m"]
theorem scshown_amount : FnScope Nshown_amount Pshown_amount (defScope sshown_amount) := ⟨rfl, rfl, rfl, by decide +kernel, rfl, by decide +kernel, by decide +kernel⟩
abbrev sread_amount : Stmt := topS 9
abbrev Nread_amount : List Str := ["text", "unsigned", "is_below", "ahead", "point", "behind", "exact", "size"]
abbrev Pread_amount : List Str := ["text"]
theorem scread_amount : FnScope Nread_amount Pread_amount (defScope sread_amount) := ⟨rfl, rfl, rfl, by decide +kernel, rfl, by decide +kernel, by decide +kernel⟩
abbrev sare_figures : Stmt := topS 10
abbrev Nare_figures : List Str := ["text", "most"]
abbrev Pare_figures : List Str := ["text", "most"]
theorem scare_figures : FnScope Nare_figures Pare_figures (defScope sare_figures) := ⟨rfl, rfl, rfl, by decide +kernel, rfl, by decide +kernel, by decide +kernel⟩
abbrev scapital : Stmt := topS 12
abbrev Ncapital : List Str := ["text", "sign"]
abbrev Pcapital : List Str := ["text"]
theorem sccapital : FnScope Ncapital Pcapital (defScope scapital) := ⟨rfl, rfl, rfl, by decide +kernel, rfl, by decide +kernel, by decide +kernel⟩
abbrev stext_of : Stmt := topS 16
abbrev Ntext_of : List Str := ["s"]
abbrev Ptext_of : List Str := ["s"]
theorem sctext_of : FnScope Ntext_of Ptext_of (defScope stext_of) := ⟨rfl, rfl, rfl, by decide +kernel, rfl, by decide +kernel, by decide +kernel⟩
abbrev snumber_of : Stmt := topS 17
abbrev Nnumber_of : List Str := ["m"]
abbrev Pnumber_of : List Str := ["m"]
theorem scnumber_of : FnScope Nnumber_of Pnumber_of (defScope snumber_of) := ⟨rfl, rfl, rfl, by decide +kernel, rfl, by decide +kernel, by decide +kernel⟩
abbrev sas_number : Stmt := topS 18
abbrev Nas_number : List Str := ["v", "kind", "m"]
abbrev Pas_number : List Str := ["v"]
theorem scas_number : FnScope Nas_number Pas_number (defScope sas_number) := ⟨rfl, rfl, rfl, by decide +kernel, rfl, by decide +kernel, by decide +kernel⟩
abbrev sas_text : Stmt := topS 19
abbrev Nas_text : List Str := ["v"]
abbrev Pas_text : List Str := ["v"]
theorem scas_text : FnScope Nas_text Pas_text (defScope sas_text) := ⟨rfl, rfl, rfl, by decide +kernel, rfl, by decide +kernel, by decide +kernel⟩
abbrev sas_truth : Stmt := topS 20
abbrev Nas_truth : List Str := ["v", "kind", "word"]
abbrev Pas_truth : List Str := ["v"]
theorem scas_truth : FnScope Nas_truth Pas_truth (defScope sas_truth) := ⟨rfl, rfl, rfl, by decide +kernel, rfl, by decide +kernel, by decide +kernel⟩
abbrev sas_whole : Stmt := topS 21
abbrev Nas_whole : List Str := ["v", "number"]
abbrev Pas_whole : List Str := ["v"]
theorem scas_whole : FnScope Nas_whole Pas_whole (defScope sas_whole) := ⟨rfl, rfl, rfl, by decide +kernel, rfl, by decide +kernel, by decide +kernel⟩
abbrev sshown : Stmt := topS 22
abbrev Nshown : List Str := ["v", "kind"]
abbrev Pshown : List Str := ["v"]
theorem scshown : FnScope Nshown Pshown (defScope sshown) := ⟨rfl, rfl, rfl, by decide +kernel, rfl, by decide +kernel, by decide +kernel⟩
abbrev s_law_cell : Stmt := topS 24
abbrev N_law_cell : List Str := ["script", "k"]
abbrev P_law_cell : List Str := ["script", "k"]
theorem sc_law_cell : FnScope N_law_cell P_law_cell (defScope s_law_cell) := ⟨rfl, rfl, rfl, by decide +kernel, rfl, by decide +kernel, by decide +kernel⟩
abbrev s_law_mix : Stmt := topS 25
abbrev N_law_mix : List Str := ["cell", "salt", "one"]
abbrev P_law_mix : List Str := ["cell", "salt"]
theorem sc_law_mix : FnScope N_law_mix P_law_mix (defScope s_law_mix) := ⟨rfl, rfl, rfl, by decide +kernel, rfl, by decide +kernel, by decide +kernel⟩
abbrev s_law_amount : Stmt := topS 26
abbrev N_law_amount : List Str := ["cell", "salt", "bound", "choice", "one", "edges", "wide"]
abbrev P_law_amount : List Str := ["cell", "salt"]
theorem sc_law_amount : FnScope N_law_amount P_law_amount (defScope s_law_amount) := ⟨rfl, rfl, rfl, by decide +kernel, rfl, by decide +kernel, by decide +kernel⟩
abbrev s_law_nearest : Stmt := topS 27
abbrev N_law_nearest : List Str := ["a", "b", "whole", "twice"]
abbrev P_law_nearest : List Str := ["a", "b"]
theorem sc_law_nearest : FnScope N_law_nearest P_law_nearest (defScope s_law_nearest) := ⟨rfl, rfl, rfl, by decide +kernel, rfl, by decide +kernel, by decide +kernel⟩
abbrev s_law_written : Stmt := topS 28
abbrev N_law_written : List Str := ["m", "size", "text", "rest"]
abbrev P_law_written : List Str := ["m"]
theorem sc_law_written : FnScope N_law_written P_law_written (defScope s_law_written) := ⟨rfl, rfl, rfl, by decide +kernel, rfl, by decide +kernel, by decide +kernel⟩
abbrev s_law_figures : Stmt := topS 29
abbrev N_law_figures : List Str := ["text", "most", "sign"]
abbrev P_law_figures : List Str := ["text", "most"]
theorem sc_law_figures : FnScope N_law_figures P_law_figures (defScope s_law_figures) := ⟨rfl, rfl, rfl, by decide +kernel, rfl, by decide +kernel, by decide +kernel⟩
abbrev s_law_read : Stmt := topS 30
abbrev N_law_read : List Str := ["text", "core", "negative", "parts", "number", "sign"]
abbrev P_law_read : List Str := ["text"]
theorem sc_law_read : FnScope N_law_read P_law_read (defScope s_law_read) := ⟨rfl, rfl, rfl, by decide +kernel, rfl, by decide +kernel, by decide +kernel⟩
abbrev s_law_words : Stmt := topS 31
abbrev N_law_words : List Str := []
abbrev P_law_words : List Str := []
theorem sc_law_words : FnScope N_law_words P_law_words (defScope s_law_words) := ⟨rfl, rfl, rfl, by decide +kernel, rfl, by decide +kernel, by decide +kernel⟩
abbrev s_law_signs : Stmt := topS 32
abbrev N_law_signs : List Str := ["left", "most", "signs", "row", "k"]
abbrev P_law_signs : List Str := ["left", "most"]
theorem sc_law_signs : FnScope N_law_signs P_law_signs (defScope s_law_signs) := ⟨rfl, rfl, rfl, by decide +kernel, rfl, by decide +kernel, by decide +kernel⟩
abbrev s_law_cased : Stmt := topS 33
abbrev N_law_cased : List Str := ["word", "cell", "salt", "row", "k", "more"]
abbrev P_law_cased : List Str := ["word", "cell", "salt"]
theorem sc_law_cased : FnScope N_law_cased P_law_cased (defScope s_law_cased) := ⟨rfl, rfl, rfl, by decide +kernel, rfl, by decide +kernel, by decide +kernel⟩
abbrev s_law_figured : Stmt := topS 34
abbrev N_law_figured : List Str := ["cell", "salt", "row", "k"]
abbrev P_law_figured : List Str := ["cell", "salt"]
theorem sc_law_figured : FnScope N_law_figured P_law_figured (defScope s_law_figured) := ⟨rfl, rfl, rfl, by decide +kernel, rfl, by decide +kernel, by decide +kernel⟩
abbrev s_law_text : Stmt := topS 35
abbrev N_law_text : List Str := ["cell", "salt", "choice", "one", "text"]
abbrev P_law_text : List Str := ["cell", "salt"]
theorem sc_law_text : FnScope N_law_text P_law_text (defScope s_law_text) := ⟨rfl, rfl, rfl, by decide +kernel, rfl, by decide +kernel, by decide +kernel⟩
abbrev s_law_scalar : Stmt := topS 36
abbrev N_law_scalar : List Str := ["cell", "salt", "kind", "left", "number", "text"]
abbrev P_law_scalar : List Str := ["cell", "salt"]
theorem sc_law_scalar : FnScope N_law_scalar P_law_scalar (defScope s_law_scalar) := ⟨rfl, rfl, rfl, by decide +kernel, rfl, by decide +kernel, by decide +kernel⟩
abbrev s_law_number : Stmt := topS 37
abbrev N_law_number : List Str := ["v", "number"]
abbrev P_law_number : List Str := ["v"]
theorem sc_law_number : FnScope N_law_number P_law_number (defScope s_law_number) := ⟨rfl, rfl, rfl, by decide +kernel, rfl, by decide +kernel, by decide +kernel⟩
abbrev s_law_truth : Stmt := topS 38
abbrev N_law_truth : List Str := ["v"]
abbrev P_law_truth : List Str := ["v"]
theorem sc_law_truth : FnScope N_law_truth P_law_truth (defScope s_law_truth) := ⟨rfl, rfl, rfl, by decide +kernel, rfl, by decide +kernel, by decide +kernel⟩
abbrev s_law_whole : Stmt := topS 39
abbrev N_law_whole : List Str := ["v", "number"]
abbrev P_law_whole : List Str := ["v"]
theorem sc_law_whole : FnScope N_law_whole P_law_whole (defScope s_law_whole) := ⟨rfl, rfl, rfl, by decide +kernel, rfl, by decide +kernel, by decide +kernel⟩
abbrev s_law_shown : Stmt := topS 40
abbrev N_law_shown : List Str := ["v"]
abbrev P_law_shown : List Str := ["v"]
theorem sc_law_shown : FnScope N_law_shown P_law_shown (defScope s_law_shown) := ⟨rfl, rfl, rfl, by decide +kernel, rfl, by decide +kernel, by decide +kernel⟩
abbrev s_law_texted : Stmt := topS 41
abbrev N_law_texted : List Str := ["v"]
abbrev P_law_texted : List Str := ["v"]
theorem sc_law_texted : FnScope N_law_texted P_law_texted (defScope s_law_texted) := ⟨rfl, rfl, rfl, by decide +kernel, rfl, by decide +kernel, by decide +kernel⟩
abbrev s_law_same : Stmt := topS 42
abbrev N_law_same : List Str := ["actual", "due"]
abbrev P_law_same : List Str := ["actual", "due"]
theorem sc_law_same : FnScope N_law_same P_law_same (defScope s_law_same) := ⟨rfl, rfl, rfl, by decide +kernel, rfl, by decide +kernel, by decide +kernel⟩
abbrev s_law_alike : Stmt := topS 43
abbrev N_law_alike : List Str := ["actual", "due", "k"]
abbrev P_law_alike : List Str := ["actual", "due"]
theorem sc_law_alike : FnScope N_law_alike P_law_alike (defScope s_law_alike) := ⟨rfl, rfl, rfl, by decide +kernel, rfl, by decide +kernel, by decide +kernel⟩
abbrev s_law_converted : Stmt := topS 44
abbrev N_law_converted : List Str := ["v"]
abbrev P_law_converted : List Str := ["v"]
theorem sc_law_converted : FnScope N_law_converted P_law_converted (defScope s_law_converted) := ⟨rfl, rfl, rfl, by decide +kernel, rfl, by decide +kernel, by decide +kernel⟩
abbrev s_law_long : Stmt := topS 45
abbrev N_law_long : List Str := ["cell", "one"]
abbrev P_law_long : List Str := ["cell"]
theorem sc_law_long : FnScope N_law_long P_law_long (defScope s_law_long) := ⟨rfl, rfl, rfl, by decide +kernel, rfl, by decide +kernel, by decide +kernel⟩
abbrev s_law_made : Stmt := topS 46
abbrev N_law_made : List Str := ["s", "m", "due", "word"]
abbrev P_law_made : List Str := ["s", "m"]
theorem sc_law_made : FnScope N_law_made P_law_made (defScope s_law_made) := ⟨rfl, rfl, rfl, by decide +kernel, rfl, by decide +kernel, by decide +kernel⟩
abbrev slaw : Stmt := topS 47
abbrev Nlaw : List Str := ["script"]
abbrev Plaw : List Str := ["script"]
theorem sclaw : FnScope Nlaw Plaw (defScope slaw) := ⟨rfl, rfl, rfl, by decide +kernel, rfl, by decide +kernel, by decide +kernel⟩

/-! ### own rules -/
theorem pe_powc {X : Cx} {a b c : Int} {j k : Nat} {p q pos : Pos} (hb : 0 ≤ b ∧ b ≤ 1000000 ∧ a.natAbs < 2 ^ 64) (h : a ^ b.toNat = c) : PE X (.BinOp (.Constant (.int a) j p) .Pow (.Constant (.int b) k q) pos) (tC (.int c)) :=
  ⟨fun pins s σ H Q I hq => (pe_op op_pow pe_int pe_int).run pins s σ H Q I ⟨a, b, rfl, rfl, hb, by
    show Q (.int (a ^ b.toNat)) H
    rw [h]
    exact hq⟩⟩
/-- isinstance of a flat value: told by its kind -/
def isiV : V → String → Option Bool
  | .int _, "int" => some true | .bl _, "int" => some true | .str _, "int" => some false | .non, "int" => some false
  | .int _, "bool" => some false | .bl _, "bool" => some true | .str _, "bool" => some false | .non, "bool" => some false
  | .int _, "str" => some false | .bl _, "str" => some false | .str _, "str" => some true | .non, "str" => some false
  | .int _, "tuple" => some false | .bl _, "tuple" => some false | .str _, "tuple" => some false | .non, "tuple" => some false
  | _, _ => none
theorem call_isiV {X : Cx} : CallR X (.builtin "isinstance") (fun xs H Q => ∃ x n b, xs = [x, .ty n] ∧ isiV x n = some b ∧ Q (.bl b) H) := by
  intro pins s σ H xs us Q I r h
  obtain ⟨x, n, b, rfl, e, q⟩ := h
  refine call_isi pins s σ H _ us Q I r ?_
  unfold isiV at e
  split at e
  case h_17 => cases e
  all_goals (cases e)
  all_goals first
    | exact ⟨_, _, .type "int", _, _, rfl, .ty _, .base (.int _), kit_ty (by decide +kernel), q⟩
    | exact ⟨_, _, .type "bool", _, _, rfl, .ty _, .base (.bl _), kit_ty (by decide +kernel), q⟩
    | exact ⟨_, _, .type "str", _, _, rfl, .ty _, .base (.str _), kit_ty (by decide +kernel), q⟩
    | exact ⟨_, _, .type "NoneType", _, _, rfl, .ty _, .base .non, kit_ty (by decide +kernel), q⟩
/-- how a call by keywords alone binds -/
structure KB0 (K : PySem.W.Frag) (fd : FuncData) (ps ks : List Str) (g : List Value → List Value) (gV : List V → List V) : Prop where
  to : ∀ (s : Shared) (ws : List Value), ws.length = ks.length → BindsTo s fd ⟨[], ks.zip ws⟩ (ps.zip (g ws))
  rel : ∀ {zs : List V} {ws : List Value}, Vals zs ws → Vals (gV zs) (g ws)
def tCallK0 (n : Nat) (sp : Sp) (gV : List V → List V) (E : XK) (tk : TA) : TE := fun σ H Q => tk σ H fun zs H2 => zs.length = n ∧ sp (gV zs) H2 Q E
theorem pe_callK0 {X : Cx} {CX : CXT} {k : Nat} {f : Addr} {fd : FuncData} {ps ks : List Str} {sp : Sp} {E : XK} {x : Str} {p pos : Pos} {kws : List Keyword} {tk : TA} {g : List Value → List Value} {gV : List V → List V}
    (F : FnOk X.prog X.w X.K X.mg X.base CX k f fd ps sp) (hr : Room k X.A) (hg : Gl X x) (hm : X.mg x = some (.ref f)) (hk : PySem.W.keepIn X.K (.ref f) = true) (hb : KB0 X.K fd ps ks g gV) (hx : Passes CX X E)
    (hkw : PK X kws tk) (hall : (backToKw pos (keywordEach kws X.env)).all (·.1.isSome) = true := by rfl) (hks : (backToKw pos (keywordEach kws X.env)).filterMap (·.1) = ks := by rfl)
    (hdb : (x == ("__debug__" : Str)) = false := by decide)
    (hpl : ((backTo pos (starEach [] X.env)).any (·.1) || (backToKw pos (keywordEach kws X.env)).any (·.1.isNone)) = false := by rfl) :
    PE X (.Call (.Name x p) [] kws pos) (tCallK0 ks.length sp gV E tk) := by
  refine ⟨fun pins s σ H Q I h => ?_⟩
  refine wpAny_Call_Name_kw (ld_glob I hg hm ?_ hdb)
  refine PySem.W.callWith_KW0 (h₀ := X.base) I.ok.mod.kin hk hall (thn (hkw.run pos pins s σ H _ I h) fun ws s2 ⟨zs, H2, I2, rz, l2, q2⟩ => ⟨I2.kIn, ?_⟩) hpl
  rw [hks]
  have r2 := hb.rel rz
  refine wpAny_call (codeAny_mono (F.run X.A X.stack s2 H2 ⟨[], ks.zip ws⟩ (g ws) (gV zs) Q E hr I2.env0 (hb.to s2 ws (rz.length.symm.trans l2)) r2 q2) fun r s' hq => ?_)
  cases r with
  | error e => exact hx pins σ H2 s2 e s' I2 hq
  | ok fl =>
    cases fl with
    | ret u => exact I2.after hq
    | next => exact False.elim hq
    | brk => exact False.elim hq
    | cont => exact False.elim hq
theorem atI_mem {xs : List V} {i : Int} (h0 : 0 ≤ i) (h1 : i < (xs.length : Int)) : ∃ v, v ∈ xs ∧ atI xs i = some v := by
  obtain ⟨n, rfl⟩ := Int.eq_ofNat_of_zero_le h0
  have h2 : n < xs.length := by omega
  exact ⟨xs[n], List.getElem_mem h2, atI_nat (List.getElem?_eq_getElem h2)⟩
/-- rules with conditions that are linear -/
theorem opr_imp {X : Cx} {f : Value → Value → Sem Value} {C C' : Int → Int → Prop} {g : Int → Int → V} (h : OpR X f (rI C g)) (k : ∀ i j, C' i j → C i j) : OpR X f (rI C' g) := fun pins s σ H x y v u Q I rx ry hq => by
  obtain ⟨i, j, ex, ey, hc, q⟩ := hq
  exact h pins s σ H x y v u Q I rx ry ⟨i, j, ex, ey, k i j hc, q⟩
def CB (_ j : Int) : Prop := 0 < j ∧ j < 1267650600228229401496703205376
def CMB (i j : Int) : Prop := (-1000000000000000000000000000000000000000000000000000000000000 < i ∧ i < 1000000000000000000000000000000000000000000000000000000000000) ∧ (-1000000000000000000000000000000000000000000000000000000000000 < j ∧ j < 1000000000000000000000000000000000000000000000000000000000000)
theorem abs200 {i : Int} (h : -1000000000000000000000000000000000000000000000000000000000000 < i ∧ i < 1000000000000000000000000000000000000000000000000000000000000) : i.natAbs < 2 ^ 200 := by
  have e : (2 : Nat) ^ 200 = 1606938044258990275541962092341162602522202993782792835301376 := by decide
  rw [e]
  omega
theorem abs100 {i : Int} (h : 0 < i ∧ i < 1267650600228229401496703205376) : i.natAbs < 2 ^ 100 := by
  have e : (2 : Nat) ^ 100 = 1267650600228229401496703205376 := by decide
  rw [e]
  omega
theorem op_mulB {X : Cx} : OpR X (binaryOp .Mult) (rI CMB fun i j => .int (i * j)) := opr_imp op_mulW fun i j h => wide_mul (abs200 h.1) (abs200 h.2) (by decide) (by decide) (by decide)
theorem op_fdivB {X : Cx} : OpR X (binaryOp .FloorDiv) (rI CB fun i j => .int (i / j)) := opr_imp op_fdivW fun i j h => wide_div h.1 (abs100 h) (by decide) (by decide)
theorem ediv_up {i j : Int} (h : 0 < j) (h0 : 0 ≤ i) : 0 ≤ i / j ∧ i / j ≤ i := ⟨Int.ediv_nonneg h0 (Int.le_of_lt h), Int.ediv_le_self j h0⟩
theorem ediv_dn {i j : Int} (h : 0 < j) (h0 : i < 0) : i ≤ i / j ∧ i / j < 0 := by
  refine ⟨?_, Int.ediv_neg_of_neg_of_pos h0 h⟩
  rw [Int.le_ediv_iff_mul_le h]
  have a : i * (j - 1) ≤ 0 := Int.mul_nonpos_of_nonpos_of_nonneg (Int.le_of_lt h0) (by omega)
  rw [Int.mul_sub, Int.mul_one] at a
  omega
/-- the quotient as a letter, with its bounds -/
theorem op_fdivL {X : Cx} : OpR X (binaryOp .FloorDiv) (fun x y H Q => ∃ i j, x = .int i ∧ y = .int j ∧ CB i j ∧ ∀ d, d = i / j → (0 ≤ i → 0 ≤ d ∧ d ≤ i) → (i < 0 → i ≤ d ∧ d < 0) → Q (.int d) H) := fun pins s σ H x y v u Q I rx ry hq => by
  obtain ⟨i, j, ex, ey, hc, q⟩ := hq
  exact op_fdivB pins s σ H x y v u Q I rx ry ⟨i, j, ex, ey, hc, q _ rfl (ediv_up hc.1) (ediv_dn hc.1)⟩
theorem call_divmodB {X : Cx} : CallR X (.builtin "divmod") (fun xs H Q => ∃ i j, xs = [.int i, .int j] ∧ CB i j ∧ ∀ p, H p = none → Q (.ref p) (upd H p (.tup [.int (i / j), .int (i % j)]))) := fun pins s σ H xs us Q I r hq => by
  obtain ⟨i, j, ex, hc, q⟩ := hq
  have w := wide_div (i := i) hc.1 (abs100 hc) (by decide) (by decide)
  exact call_divmodW pins s σ H xs us Q I r ⟨i, j, ex, ⟨hc.1, PyProof.noPylong_of_log2 w.2⟩, q⟩
theorem iteEqI {i j : Int} {A B : Prop} (h1 : i = j → A) (h2 : ¬ i = j → B) : if decide (V.int i = V.int j) = true then A else B := by
  by_cases h : i = j
  · rw [if_pos (decide_eq_true (congrArg V.int h))]
    exact h1 h
  · rw [if_neg (fun z => h (V.int.inj (of_decide_eq_true z)))]
    exact h2 h
theorem iteNeI {i j : Int} {A B : Prop} (h1 : ¬ i = j → A) (h2 : i = j → B) : if (!decide (V.int i = V.int j)) = true then A else B := by
  by_cases h : i = j
  · rw [decide_eq_true (congrArg V.int h)]
    exact iteF (h2 h)
  · rw [decide_eq_false (fun z => h (V.int.inj z))]
    exact iteT (h1 h)
theorem iteSS {x : Str} {A B : Prop} (h : A) : if decide (V.str x = V.str x) = true then A else B := by
  rw [if_pos (decide_eq_true rfl)]
  exact h
theorem iteIS {i : Int} {x : Str} {A B : Prop} (h : B) : if decide (V.int i = V.str x) = true then A else B := by
  rw [if_neg (fun z => V.noConfusion (of_decide_eq_true z))]
  exact h
theorem iteD {c A B : Prop} [Decidable c] (h1 : c → A) (h2 : ¬ c → B) : if decide c = true then A else B := by
  by_cases h : c
  · rw [if_pos (decide_eq_true h)]
    exact h1 h
  · rw [if_neg (fun z => h (of_decide_eq_true z))]
    exact h2 h
theorem same_upd {H : Hp} {p : Addr} {o : HO} (h : H p = none) : Same H (upd H p o) := fun b x e => by
  rw [upd_ne (ne_of_none e h)]
  exact e
theorem ix_listK {X : Cx} {K : PySem.W.Frag} (e : X.K = K) : IxR X (rIxL K) := e ▸ ix_list
theorem ix_tupK {X : Cx} {K : PySem.W.Frag} (e : X.K = K) : IxR X (rIxT K) := e ▸ ix_tup
theorem ix_seqK {X : Cx} {K : PySem.W.Frag} (e : X.K = K) : IxR X (rIx K) := e ▸ ix_seq
theorem call_len_seqK {X : Cx} {K : PySem.W.Frag} (e : X.K = K) : CallR X (.builtin "len") (fun xs H Q => ∃ p ys, xs = [.ref p] ∧ (SqL K H p ys ∨ SqT K H p ys) ∧ Q (.int ys.length) H) := e ▸ call_len_seq
/-- an item of a list, whichever -/
theorem atI_go {K : PySem.W.Frag} {p : Addr} {xs : List V} {i : Int} {H : Hp} {Q : VK} (h : SqL K H p xs) (h0 : 0 ≤ i) (h1 : i < (xs.length : Int)) (q : ∀ v, v ∈ xs → Q v H) : rIxL K (.ref p) (.int i) H Q := by
  obtain ⟨v, hv, e⟩ := atI_mem h0 h1
  exact ⟨_, _, _, v, rfl, rfl, h, e, q v hv⟩

/-- the product as a letter, with its bounds -/
theorem op_mulL {X : Cx} : OpR X (binaryOp .Mult) (fun x y H Q => ∃ i j, x = .int i ∧ y = .int j ∧ CMul i j ∧ ∀ d, d = i * j → (0 ≤ i → 0 ≤ j → 0 ≤ d) → (0 ≤ i → i ≤ 100000000000000 → 0 ≤ j → j ≤ 100000000000000 → d ≤ 10000000000000000000000000000) → Q (.int d) H) := fun pins s σ H x y v u Q I rx ry hq => by
  obtain ⟨i, j, ex, ey, hc, q⟩ := hq
  exact op_mul pins s σ H x y v u Q I rx ry ⟨i, j, ex, ey, hc, q _ rfl (fun a b => Int.mul_nonneg a b) (fun a b c d => Int.le_trans (Int.mul_le_mul b d c (by decide)) (by decide))⟩

/-! ### what the top has left -/
structure Txt (K : PySem.W.Frag) (mg : Str → Option Value) where
  ahalf_even : Addr
  dhalf_even : FuncData
  Fhalf_even : Fun K "half_even" "half_even" shalf_even ahalf_even dhalf_even
  ghalf_even : mg "half_even" = some (.ref ahalf_even)
  bhalf_even : Binds K dhalf_even Phalf_even []
  afitting : Addr
  dfitting : FuncData
  Ffitting : Fun K "fitting" "fitting" sfitting afitting dfitting
  gfitting : mg "fitting" = some (.ref afitting)
  bfitting : Binds K dfitting Pfitting []
  afloored : Addr
  dfloored : FuncData
  Ffloored : Fun K "floored" "floored" sfloored afloored dfloored
  gfloored : mg "floored" = some (.ref afloored)
  bfloored : Binds K dfloored Pfloored []
  ashown_amount : Addr
  dshown_amount : FuncData
  Fshown_amount : Fun K "shown_amount" "shown_amount" sshown_amount ashown_amount dshown_amount
  gshown_amount : mg "shown_amount" = some (.ref ashown_amount)
  bshown_amount : Binds K dshown_amount Pshown_amount []
  aread_amount : Addr
  dread_amount : FuncData
  Fread_amount : Fun K "read_amount" "read_amount" sread_amount aread_amount dread_amount
  gread_amount : mg "read_amount" = some (.ref aread_amount)
  bread_amount : Binds K dread_amount Pread_amount []
  aare_figures : Addr
  dare_figures : FuncData
  Fare_figures : Fun K "are_figures" "are_figures" sare_figures aare_figures dare_figures
  gare_figures : mg "are_figures" = some (.ref aare_figures)
  bare_figures : Binds K dare_figures Pare_figures []
  acapital : Addr
  dcapital : FuncData
  Fcapital : Fun K "capital" "capital" scapital acapital dcapital
  gcapital : mg "capital" = some (.ref acapital)
  bcapital : Binds K dcapital Pcapital []
  atext_of : Addr
  dtext_of : FuncData
  Ftext_of : Fun K "text_of" "text_of" stext_of atext_of dtext_of
  gtext_of : mg "text_of" = some (.ref atext_of)
  btext_of : Binds K dtext_of Ptext_of []
  anumber_of : Addr
  dnumber_of : FuncData
  Fnumber_of : Fun K "number_of" "number_of" snumber_of anumber_of dnumber_of
  gnumber_of : mg "number_of" = some (.ref anumber_of)
  bnumber_of : Binds K dnumber_of Pnumber_of []
  aas_number : Addr
  das_number : FuncData
  Fas_number : Fun K "as_number" "as_number" sas_number aas_number das_number
  gas_number : mg "as_number" = some (.ref aas_number)
  bas_number : Binds K das_number Pas_number []
  aas_text : Addr
  das_text : FuncData
  Fas_text : Fun K "as_text" "as_text" sas_text aas_text das_text
  gas_text : mg "as_text" = some (.ref aas_text)
  bas_text : Binds K das_text Pas_text []
  aas_truth : Addr
  das_truth : FuncData
  Fas_truth : Fun K "as_truth" "as_truth" sas_truth aas_truth das_truth
  gas_truth : mg "as_truth" = some (.ref aas_truth)
  bas_truth : Binds K das_truth Pas_truth []
  aas_whole : Addr
  das_whole : FuncData
  Fas_whole : Fun K "as_whole" "as_whole" sas_whole aas_whole das_whole
  gas_whole : mg "as_whole" = some (.ref aas_whole)
  bas_whole : Binds K das_whole Pas_whole []
  ashown : Addr
  dshown : FuncData
  Fshown : Fun K "shown" "shown" sshown ashown dshown
  gshown : mg "shown" = some (.ref ashown)
  bshown : Binds K dshown Pshown []
  a_law_cell : Addr
  d_law_cell : FuncData
  F_law_cell : Fun K "_law_cell" "_law_cell" s_law_cell a_law_cell d_law_cell
  g_law_cell : mg "_law_cell" = some (.ref a_law_cell)
  b_law_cell : Binds K d_law_cell P_law_cell []
  a_law_mix : Addr
  d_law_mix : FuncData
  F_law_mix : Fun K "_law_mix" "_law_mix" s_law_mix a_law_mix d_law_mix
  g_law_mix : mg "_law_mix" = some (.ref a_law_mix)
  b_law_mix : Binds K d_law_mix P_law_mix []
  a_law_amount : Addr
  d_law_amount : FuncData
  F_law_amount : Fun K "_law_amount" "_law_amount" s_law_amount a_law_amount d_law_amount
  g_law_amount : mg "_law_amount" = some (.ref a_law_amount)
  b_law_amount : Binds K d_law_amount P_law_amount []
  a_law_nearest : Addr
  d_law_nearest : FuncData
  F_law_nearest : Fun K "_law_nearest" "_law_nearest" s_law_nearest a_law_nearest d_law_nearest
  g_law_nearest : mg "_law_nearest" = some (.ref a_law_nearest)
  b_law_nearest : Binds K d_law_nearest P_law_nearest []
  a_law_written : Addr
  d_law_written : FuncData
  F_law_written : Fun K "_law_written" "_law_written" s_law_written a_law_written d_law_written
  g_law_written : mg "_law_written" = some (.ref a_law_written)
  b_law_written : Binds K d_law_written P_law_written []
  a_law_figures : Addr
  d_law_figures : FuncData
  F_law_figures : Fun K "_law_figures" "_law_figures" s_law_figures a_law_figures d_law_figures
  g_law_figures : mg "_law_figures" = some (.ref a_law_figures)
  b_law_figures : Binds K d_law_figures P_law_figures []
  a_law_read : Addr
  d_law_read : FuncData
  F_law_read : Fun K "_law_read" "_law_read" s_law_read a_law_read d_law_read
  g_law_read : mg "_law_read" = some (.ref a_law_read)
  b_law_read : Binds K d_law_read P_law_read []
  a_law_words : Addr
  d_law_words : FuncData
  F_law_words : Fun K "_law_words" "_law_words" s_law_words a_law_words d_law_words
  g_law_words : mg "_law_words" = some (.ref a_law_words)
  b_law_words : Binds K d_law_words P_law_words []
  a_law_signs : Addr
  d_law_signs : FuncData
  F_law_signs : Fun K "_law_signs" "_law_signs" s_law_signs a_law_signs d_law_signs
  g_law_signs : mg "_law_signs" = some (.ref a_law_signs)
  b_law_signs : Binds K d_law_signs P_law_signs []
  a_law_cased : Addr
  d_law_cased : FuncData
  F_law_cased : Fun K "_law_cased" "_law_cased" s_law_cased a_law_cased d_law_cased
  g_law_cased : mg "_law_cased" = some (.ref a_law_cased)
  b_law_cased : Binds K d_law_cased P_law_cased []
  a_law_figured : Addr
  d_law_figured : FuncData
  F_law_figured : Fun K "_law_figured" "_law_figured" s_law_figured a_law_figured d_law_figured
  g_law_figured : mg "_law_figured" = some (.ref a_law_figured)
  b_law_figured : Binds K d_law_figured P_law_figured []
  a_law_text : Addr
  d_law_text : FuncData
  F_law_text : Fun K "_law_text" "_law_text" s_law_text a_law_text d_law_text
  g_law_text : mg "_law_text" = some (.ref a_law_text)
  b_law_text : Binds K d_law_text P_law_text []
  a_law_scalar : Addr
  d_law_scalar : FuncData
  F_law_scalar : Fun K "_law_scalar" "_law_scalar" s_law_scalar a_law_scalar d_law_scalar
  g_law_scalar : mg "_law_scalar" = some (.ref a_law_scalar)
  b_law_scalar : Binds K d_law_scalar P_law_scalar []
  a_law_number : Addr
  d_law_number : FuncData
  F_law_number : Fun K "_law_number" "_law_number" s_law_number a_law_number d_law_number
  g_law_number : mg "_law_number" = some (.ref a_law_number)
  b_law_number : Binds K d_law_number P_law_number []
  a_law_truth : Addr
  d_law_truth : FuncData
  F_law_truth : Fun K "_law_truth" "_law_truth" s_law_truth a_law_truth d_law_truth
  g_law_truth : mg "_law_truth" = some (.ref a_law_truth)
  b_law_truth : Binds K d_law_truth P_law_truth []
  a_law_whole : Addr
  d_law_whole : FuncData
  F_law_whole : Fun K "_law_whole" "_law_whole" s_law_whole a_law_whole d_law_whole
  g_law_whole : mg "_law_whole" = some (.ref a_law_whole)
  b_law_whole : Binds K d_law_whole P_law_whole []
  a_law_shown : Addr
  d_law_shown : FuncData
  F_law_shown : Fun K "_law_shown" "_law_shown" s_law_shown a_law_shown d_law_shown
  g_law_shown : mg "_law_shown" = some (.ref a_law_shown)
  b_law_shown : Binds K d_law_shown P_law_shown []
  a_law_texted : Addr
  d_law_texted : FuncData
  F_law_texted : Fun K "_law_texted" "_law_texted" s_law_texted a_law_texted d_law_texted
  g_law_texted : mg "_law_texted" = some (.ref a_law_texted)
  b_law_texted : Binds K d_law_texted P_law_texted []
  a_law_same : Addr
  d_law_same : FuncData
  F_law_same : Fun K "_law_same" "_law_same" s_law_same a_law_same d_law_same
  g_law_same : mg "_law_same" = some (.ref a_law_same)
  b_law_same : Binds K d_law_same P_law_same []
  a_law_alike : Addr
  d_law_alike : FuncData
  F_law_alike : Fun K "_law_alike" "_law_alike" s_law_alike a_law_alike d_law_alike
  g_law_alike : mg "_law_alike" = some (.ref a_law_alike)
  b_law_alike : Binds K d_law_alike P_law_alike []
  a_law_converted : Addr
  d_law_converted : FuncData
  F_law_converted : Fun K "_law_converted" "_law_converted" s_law_converted a_law_converted d_law_converted
  g_law_converted : mg "_law_converted" = some (.ref a_law_converted)
  b_law_converted : Binds K d_law_converted P_law_converted []
  a_law_long : Addr
  d_law_long : FuncData
  F_law_long : Fun K "_law_long" "_law_long" s_law_long a_law_long d_law_long
  g_law_long : mg "_law_long" = some (.ref a_law_long)
  b_law_long : Binds K d_law_long P_law_long []
  a_law_made : Addr
  d_law_made : FuncData
  F_law_made : Fun K "_law_made" "_law_made" s_law_made a_law_made d_law_made
  g_law_made : mg "_law_made" = some (.ref a_law_made)
  b_law_made : Binds K d_law_made P_law_made []
  alaw : Addr
  dlaw : FuncData
  Flaw : Fun K "law" "law" slaw alaw dlaw
  glaw : mg "law" = some (.ref alaw)
  blaw : Binds K dlaw Plaw []
  t_SCALE : Tok
  m_SCALE : mg "SCALE" = some (.int 1000000 t_SCALE)
  t_GREATEST : Tok
  m_GREATEST : mg "GREATEST" = some (.int 999999999999999999999 t_GREATEST)
  t_FIGURES_AHEAD : Tok
  m_FIGURES_AHEAD : mg "FIGURES_AHEAD" = some (.int 15 t_FIGURES_AHEAD)
  t_FIGURES_BEHIND : Tok
  m_FIGURES_BEHIND : mg "FIGURES_BEHIND" = some (.int 12 t_FIGURES_BEHIND)
  o_ERRORS : Addr
  m_ERRORS : mg "ERRORS" = some (.ref o_ERRORS)
  q_ERRORS : ∀ H, SqT K H o_ERRORS [.str "DIV", .str "VALUE", .str "REF", .str "NAME", .str "NUM", .str "NA", .str "CALC", .str "SIZE", .str "LIMIT", .str "CIRC"]
  t_MOST_SIGNS : Tok
  m_MOST_SIGNS : mg "MOST_SIGNS" = some (.int 64 t_MOST_SIGNS)
  z_abs : mg "abs" = none
  z_bool : mg "bool" = none
  z_divmod : mg "divmod" = none
  z_int : mg "int" = none
  z_isinstance : mg "isinstance" = none
  z_len : mg "len" = none
  z_range : mg "range" = none
  z_str : mg "str" = none
  z_tuple : mg "tuple" = none
/-! ### the mathematics -/
theorem merge2 {G : Prop} {C : Str → Bool → Prop} (R : Str → V → Prop) (tail : ∀ U vb b, vb = V.bl b → C U b → R U vb) (rest : (∀ U vb b, vb = V.bl b → C U b → R U vb) → G) : G := rest tail

/-- an amount, or NUM -/
def lim (n : Int) : V := if -1000000000000000000000 < n ∧ n < 1000000000000000000000 then .int n else .str "NUM"
theorem lim_in {n : Int} (h : -1000000000000000000000 < n ∧ n < 1000000000000000000000) : lim n = .int n := if_pos h
theorem lim_out {n : Int} (h : ¬ (-1000000000000000000000 < n ∧ n < 1000000000000000000000)) : lim n = .str "NUM" := if_neg h
def Flat (x : V) : Prop := (∃ i, x = .int i) ∨ ∃ s, x = .str s
theorem lim_flat (n : Int) : Flat (lim n) := by
  unfold lim
  split
  · exact Or.inl ⟨_, rfl⟩
  · exact Or.inr ⟨_, rfl⟩

/-- the integer nearest to a / b, of two equally near ones the even one -/
def near (a b : Int) : Int := if 2 * (a % b) > b then a / b + 1 else if 2 * (a % b) = b then a / b + a / b % 2 else a / b

theorem atI_some {α : Type} {xs : List α} {i : Int} (h0 : 0 ≤ i) (h1 : i < (xs.length : Int)) : ∃ v, v ∈ xs ∧ atI xs i = some v := by
  obtain ⟨n, rfl⟩ := Int.eq_ofNat_of_zero_le h0
  have h2 : n < xs.length := by omega
  exact ⟨xs[n], List.getElem_mem h2, atI_nat (List.getElem?_eq_getElem h2)⟩
theorem atI_at {α : Type} {xs : List α} {i : Int} {n : Nat} (e : i = (n : Int)) {v : α} (h : xs[n]? = some v) : atI xs i = some v := by
  rw [e]
  exact atI_nat h
theorem sqT_ty {K : PySem.W.Frag} {H : Hp} {p : Addr} {xs : List V} (h : SqT K H p xs) : TyX K H (.ref p) (.type "tuple") := by
  rcases h with (h | ⟨o, h⟩) | ⟨o, its, n, e, c, _⟩
  · exact .base (.tup h)
  · exact .fTuple h
  · exact .kTuple e c
theorem sqL_ty {K : PySem.W.Frag} {H : Hp} {p : Addr} {xs : List V} (h : SqL K H p xs) : TyX K H (.ref p) (.type "list") := by
  rcases h with (h | ⟨o, h⟩) | ⟨o, its, n, e, c, _⟩
  · exact .base (.lst h)
  · exact .base (.frz h)
  · exact .kList e c
/-- isinstance: flat values, tuples, lists -/
theorem call_isiR {X : Cx} : CallR X (.builtin "isinstance") (fun xs H Q => (∃ x n b, xs = [x, .ty n] ∧ isiV x n = some b ∧ Q (.bl b) H) ∨ (∃ p ys n b, xs = [.ref p, .ty n] ∧ SqT X.K H p ys ∧ kitB "tuple" n = some b ∧ Q (.bl b) H) ∨ ∃ p ys n b, xs = [.ref p, .ty n] ∧ SqL X.K H p ys ∧ kitB "list" n = some b ∧ Q (.bl b) H) := by
  intro pins s σ H xs us Q I r h
  rcases h with h | ⟨p, ys, n, b, rfl, hp, e, q⟩ | ⟨p, ys, n, b, rfl, hp, e, q⟩
  · exact call_isiV pins s σ H xs us Q I r h
  · exact call_isi pins s σ H _ us Q I r ⟨_, _, .type "tuple", _, _, rfl, .ty _, sqT_ty hp, kit_ty e, q⟩
  · exact call_isi pins s σ H _ us Q I r ⟨_, _, .type "list", _, _, rfl, .ty _, sqL_ty hp, kit_ty e, q⟩
theorem iteSN {x y : Str} {A B : Prop} (h : x ≠ y) (b : B) : if decide (V.str x = V.str y) = true then A else B := by
  rw [if_neg (fun z => h (V.str.inj (of_decide_eq_true z)))]
  exact b
theorem iteSNn {x y : Str} {A B : Prop} (h : x ≠ y) (a : A) : if (!decide (V.str x = V.str y)) = true then A else B := by
  rw [decide_eq_false (fun z => h (V.str.inj z))]
  exact iteT a
theorem iteSSn {x : Str} {A B : Prop} (b : B) : if (!decide (V.str x = V.str x)) = true then A else B := by
  rw [decide_eq_true rfl]
  exact iteF b
/-- a flat value -/
def Flat3 (x : V) : Prop := (∃ i, x = .int i) ∨ (∃ s, x = .str s) ∨ ∃ b, x = .bl b
/-- the tuples stand as they were -/
def TK (K : PySem.W.Frag) (H H' : Hp) : Prop := ∀ p xs, SqT K H p xs → SqT K H' p xs
theorem TK.refl {K : PySem.W.Frag} {H : Hp} : TK K H H := fun _ _ h => h
theorem TK.trans {K : PySem.W.Frag} {H H1 H2 : Hp} (a : TK K H H1) (b : TK K H1 H2) : TK K H H2 := fun p xs h => b p xs (a p xs h)
theorem same_tk {K : PySem.W.Frag} {H H' : Hp} (e : Same H H') : TK K H H' := by
  intro p xs h
  rcases h with (h | ⟨o, h⟩) | h
  · exact .inl (.inl (e _ _ h))
  · exact .inl (.inr ⟨o, e _ _ h⟩)
  · exact .inr h
theorem but_tk {K : PySem.W.Frag} {H H' : Hp} {b : Addr} {ys : List V} (h : H b = some (.lst ys)) (e : ∀ a o, a ≠ b → H a = some o → H' a = some o) : TK K H H' := by
  intro p xs q
  rcases q with (q | ⟨o, q⟩) | q
  · exact .inl (.inl (e _ _ (ne_of q h (fun z => nomatch z)) q))
  · exact .inl (.inr ⟨o, e _ _ (ne_of q h (fun z => nomatch z)) q⟩)
  · exact .inr q
theorem upd_but {H : Hp} {b : Addr} {u : HO} : ∀ a o, a ≠ b → H a = some o → upd H b u a = some o := fun a o n e => by
  rw [upd_ne n]
  exact e
theorem lst_tk {K : PySem.W.Frag} {H : Hp} {b : Addr} {ys zs : List V} (h : H b = some (.lst ys)) : TK K H (upd H b (.lst zs)) := but_tk h upd_but
theorem same_put {H H' : Hp} {D : Addr} {o : HO} (e : Same H H') (h : H D = none) : Same H (upd H' D o) := fun a x q => by
  rw [upd_ne (ne_of_none q h)]
  exact e _ _ q
/-- likeness, so deep -/
def Al (K : PySem.W.Frag) : Nat → Hp → V → V → Prop
  | 0, _, _, _ => False
  | n + 1, H, x, y => (Flat3 x ∧ x = y) ∨ ∃ (p q : Addr) (xs ys : List V), x = .ref p ∧ y = .ref q ∧ SqT K H p xs ∧ SqT K H q ys ∧ (xs.length = ys.length ∧ ys.length ≤ 5000) ∧ ∀ (k : Nat) (a b : V), xs[k]? = some a → ys[k]? = some b → Al K n H a b
theorem Al.flat {K : PySem.W.Frag} {n : Nat} {H : Hp} {x : V} (h : Flat3 x) : Al K (n + 1) H x x := Or.inl ⟨h, rfl⟩
theorem Al.tup {K : PySem.W.Frag} {n : Nat} {H : Hp} {p q : Addr} {xs : List V} (hl : xs.length ≤ 5000) (hp : SqT K H p xs) (hq : SqT K H q xs) (h : ∀ x ∈ xs, Al K n H x x) : Al K (n + 1) H (.ref p) (.ref q) :=
  Or.inr ⟨p, q, xs, xs, rfl, rfl, hp, hq, ⟨rfl, hl⟩, fun k a b e1 e2 => by
    obtain rfl := Option.some.inj (e1.symm.trans e2)
    exact h _ (List.mem_of_getElem? e1)⟩
/-- a scalar -/
def Sca (K : PySem.W.Frag) (H : Hp) (x : V) : Prop := ∃ p k rest, x = .ref p ∧ SqT K H p (.str k :: rest) ∧ k ≠ ("array" : Str) ∧ rest.length ≤ 20 ∧ ∀ y ∈ rest, Flat3 y
theorem Sca.keep {K : PySem.W.Frag} {H H' : Hp} {x : V} (e : TK K H H') (h : Sca K H x) : Sca K H' x := by
  obtain ⟨p, k, rest, rfl, a, b, c⟩ := h
  exact ⟨p, k, rest, rfl, e _ _ a, b, c⟩
theorem Sca.al {K : PySem.W.Frag} {H : Hp} {x : V} (n : Nat) (h : Sca K H x) : Al K (n + 2) H x x := by
  obtain ⟨p, k, rest, rfl, a, b, l, c⟩ := h
  refine Al.tup (by rw [List.length_cons]; omega) a a fun y hy => Al.flat ?_
  rcases List.mem_cons.mp hy with rfl | hy
  · exact Or.inr (Or.inl ⟨_, rfl⟩)
  · exact c y hy
theorem sca1 {K : PySem.W.Frag} {H : Hp} {p : Addr} {k : Str} (h : k ≠ ("array" : Str)) : Sca K (upd H p (.tup [.str k])) (.ref p) := ⟨p, k, [], rfl, SqT.of upd_same, h, by decide, fun y hy => by cases hy⟩
theorem sca2 {K : PySem.W.Frag} {H : Hp} {p : Addr} {k : Str} {x : V} (h : k ≠ ("array" : Str)) (hx : Flat3 x) : Sca K (upd H p (.tup [.str k, x])) (.ref p) := ⟨p, k, [x], rfl, SqT.of upd_same, h, (show 1 ≤ 20 by decide), fun y hy => by
  rcases List.mem_cons.mp hy with rfl | hy
  · exact hx
  · cases hy⟩
/-- all the signs -/
def SG : Str := (" !\"#$&'()*+,-./0123456789:;<=>?@ABCDEFGHIJKLMNOPQRSTUVWXYZ[\\]^_`" : Str) ++ ("abcdefghijklmnopqrstuvwxyz{|}~" : Str)
theorem sg_len : SG.cps.toList.length = 94 := by decide +kernel
theorem sg_line : SG.length ≤ sizeLine := by decide +kernel
theorem sg_at {n : Int} (h0 : 0 ≤ n) (h1 : n < 94) : ∃ c, atI SG.cps.toList n = some c := by
  obtain ⟨c, _, e⟩ := atI_some (xs := SG.cps.toList) h0 (by rw [sg_len]; exact h1)
  exact ⟨c, e⟩
theorem ones_sum : ∀ (zs : List Str), (∀ z ∈ zs, z.length = 1) → (zs.map (·.length)).sum = zs.length
  | [], _ => rfl
  | z :: zs, h => by
    rw [List.map_cons, List.sum_cons, ones_sum zs (fun y hy => h y (List.mem_cons_of_mem _ hy)), h z (List.mem_cons_self ..), List.length_cons]
    omega
theorem ones_join {zs : List Str} (h : ∀ z ∈ zs, z.length = 1) (hl : zs.length ≤ 1000) : (zs.map (·.length)).sum + zs.length * ("" : Str).length ≤ 16777216 := by
  rw [ones_sum zs h, show ("" : Str).length = 0 from by decide +kernel]
  omega
/-- the box of draws -/
def BoxAt (b : Addr) (H : Hp) : Prop := ∃ c d z : Int, H b = some (.lst [.int c, .int d, .int z])
def Bx (b : Addr) (H H' : Hp) : Prop := (∀ a o, a ≠ b → H a = some o → H' a = some o) ∧ BoxAt b H'
theorem Bx.refl {b : Addr} {H : Hp} (h : BoxAt b H) : Bx b H H := ⟨fun _ _ _ e => e, h⟩
theorem Bx.trans {b : Addr} {H H1 H2 : Hp} (x : Bx b H H1) (y : Bx b H1 H2) : Bx b H H2 := ⟨fun a o n e => y.1 a o n (x.1 a o n e), y.2⟩
theorem Bx.bat {b : Addr} {H H1 : Hp} (x : Bx b H H1) : BoxAt b H1 := x.2
theorem BoxAt.ne {b p : Addr} {H : Hp} (x : BoxAt b H) (h : H p = none) : b ≠ p := by
  obtain ⟨c, d, z, e⟩ := x
  exact ne_of_none e h
theorem BoxAt.new {b p : Addr} {H : Hp} {o : HO} (x : BoxAt b H) (h : H p = none) : BoxAt b (upd H p o) := by
  have n := x.ne h
  obtain ⟨c, d, z, e⟩ := x
  exact ⟨c, d, z, by rw [upd_ne n]; exact e⟩
theorem Bx.same {b : Addr} {H H1 H2 : Hp} (x : Bx b H H1) (y : Same H1 H2) : Bx b H H2 := by
  obtain ⟨x1, c, d, z, e⟩ := x
  exact ⟨fun a o n e => y _ _ (x1 a o n e), c, d, z, y _ _ e⟩
theorem Bx.new {b p : Addr} {H H1 : Hp} {o : HO} (x : Bx b H H1) (h : H1 p = none) : Bx b H (upd H1 p o) := x.same (same_upd h)
theorem Bx.put {b : Addr} {H H1 : Hp} {c d z : Int} (x : Bx b H H1) : Bx b H (upd H1 b (.lst [.int c, .int d, .int z])) := ⟨fun a o n e => by
  rw [upd_ne n]
  exact x.1 a o n e, c, d, z, upd_same⟩
theorem Bx.tk {K : PySem.W.Frag} {b : Addr} {H H1 : Hp} (x : Bx b H H1) (h : BoxAt b H) : TK K H H1 := by
  obtain ⟨c, d, z, e⟩ := h
  exact but_tk e x.1
/-- a new list beside the box, longer by one -/
theorem Bx.more {b D : Addr} {H0 H : Hp} {o : HO} (x : Bx b H0 H) (hD : H0 D = none) (n : b ≠ D) : Bx b H0 (upd H D o) := by
  obtain ⟨x1, c, d, z, e⟩ := x
  refine ⟨fun a o m q => ?_, c, d, z, by rw [upd_ne n]; exact e⟩
  rw [upd_ne (ne_of_none q hD)]
  exact x1 a o m q
theorem Bx.back {b D : Addr} {H0 H : Hp} (x : Bx b H0 H) (h : BoxAt b H0) (hD : H D = none) : H0 D = none ∧ b ≠ D := by
  have n := x.2.ne hD
  refine ⟨?_, n⟩
  cases q : H0 D with
  | none => rfl
  | some o =>
    rw [x.1 D o (Ne.symm n) q] at hD
    cases hD

open TL SX NumText
/-- z * n -/
def repS (z : Str) (n : Nat) : Str := S (List.replicate n (tl z)).flatten
theorem foldl_cat (a : Array Nat) : ∀ (n : Nat) (b : Array Nat), ((List.replicate n a).foldl (· ++ ·) b).toList = b.toList ++ (List.replicate n a.toList).flatten
  | 0, b => by simp
  | n + 1, b => by
    rw [List.replicate_succ, List.foldl_cons, foldl_cat a n, List.replicate_succ, List.flatten_cons, Array.toList_append, List.append_assoc]
theorem rep_len (l : List Nat) : ∀ n : Nat, (List.replicate n l).flatten.length = l.length * n
  | 0 => rfl
  | n + 1 => by
    rw [List.replicate_succ, List.flatten_cons, List.length_append, rep_len l n, Nat.mul_succ, Nat.add_comm]
theorem repS_len (z : Str) (n : Nat) : (repS z n).length = z.length * n := by
  rw [len_tl, len_tl]
  exact rep_len (tl z) n
theorem op_repS {X : Cx} : OpR X (binaryOp .Mult) (fun x y H Q => ∃ (z : Str) (k : Int), x = .str z ∧ y = .int k ∧ ((-1000000 ≤ k ∧ k ≤ 1000000) ∧ z.length ≤ 16) ∧ Q (.str (repS z k.toNat)) H) := by
  intro pins s σ H x y v u Q I rx ry h
  obtain ⟨z, k, rfl, rfl, ⟨⟨h1, h2⟩, h3⟩, q⟩ := h
  obtain ⟨t, rfl⟩ := rx
  obtain ⟨t', rfl⟩ := ry
  have h4 : z.length * k.toNat ≤ 16 * 1000000 := Nat.mul_le_mul h3 (by omega)
  refine PySem.P.mul_str ?_ (fun a _ => ?_) (fun a _ => ?_) ?_
  · rw [decide_eq_false (by omega), decide_eq_false (by omega)]
    rfl
  · have b : (z.length : Int) ≤ (2 ^ 63 - 1) / k := by
      rw [Int.le_ediv_iff_mul_le (by omega)]
      have c : (z.length : Int) * k ≤ 16 * 1000000 := Int.mul_le_mul (by omega) h2 (by omega) (by decide)
      omega
    omega
  · show decide (_ > sizeLine) = false
    rw [sizeLine_eq]
    exact decide_eq_false (by omega)
  · by_cases a : k < 1
    · rw [if_pos a]
      have e : repS z k.toNat = Str.empty := by
        rw [show k.toNat = 0 by omega]
        rfl
      rw [e] at q
      exact ⟨by decide, .str _, H, I.tok _, ⟨_, rfl⟩, q⟩
    · rw [if_neg a]
      by_cases b : (k == 1 || z.length == 0) = true
      · rw [if_pos b]
        have e : repS z k.toNat = z := by
          refine ext_tl ?_
          show (List.replicate k.toNat (tl z)).flatten = tl z
          rcases Bool.or_eq_true_iff.mp b with c | c
          · rw [show k.toNat = 1 by have := eq_of_beq c; omega]
            simp
          · have c2 : tl z = [] := List.eq_nil_of_length_eq_zero (by rw [← len_tl]; exact eq_of_beq c)
            rw [c2]
            exact List.eq_nil_of_length_eq_zero (by rw [rep_len]; exact Nat.zero_mul _)
        rw [e] at q
        exact ⟨.str _, H, I, ⟨_, rfl⟩, q⟩
      · rw [if_neg b]
        have e : (⟨(List.replicate k.toNat z.cps).foldl (· ++ ·) #[]⟩ : Str) = repS z k.toNat := ext_tl (by
          show ((List.replicate k.toNat z.cps).foldl (· ++ ·) #[]).toList = (List.replicate k.toNat (tl z)).flatten
          rw [foldl_cat]
          rfl)
        rw [e]
        refine ⟨?_, .str _, H, I.tok _, ⟨_, rfl⟩, q⟩
        rw [repS_len, sizeLine_eq]
        omega
theorem one_of {z : Str} {c : Nat} (h : tl z = [c]) : z = ⟨#[c]⟩ := ext_tl h
theorem mt_ljustF {X : Cx} : MtR X "str.ljust" (fun x xs H Q => ∃ (a f : Str) (i : Int) (c : Nat), x = .str a ∧ xs = [.int i, .str f] ∧ tl f = [c] ∧ PadOk i = true ∧ Q (.str (Txt.ljustF a i c)) H) := by
  intro pins s σ H x xs v us Q I rx rs h
  obtain ⟨a, f, i, c, rfl, rfl, hf, hc, h⟩ := h
  obtain rfl := one_of hf
  obtain ⟨t, rfl⟩ := rx
  cases rs with
  | cons r1 rs =>
    cases rs with
    | cons r2 rs =>
      cases rs
      obtain ⟨u, rfl⟩ := r1
      obtain ⟨z, rfl⟩ := r2
      exact ljust_fill hc rfl fun t' k => ⟨.str _, H, I.tok k, ⟨_, rfl⟩, h⟩
def isD (c : Nat) : Bool := decide (48 ≤ c) && decide (c ≤ 57)
theorem digit_ascii : ∀ c : Nat, c < 128 → Unicode.isDigit c = isD c := by decide +kernel
/-- as many figures, no other sign -/
def figs (l : List Nat) (most : Int) : Bool := l.all isD && decide (1 ≤ l.length) && decide ((l.length : Int) ≤ most)
theorem isD_iff {c : Nat} : isD c = true ↔ 48 ≤ c ∧ c ≤ 57 := by
  unfold isD
  rw [Bool.and_eq_true, decide_eq_true_eq, decide_eq_true_eq]
theorem all_digits {l : List Nat} (h : l.all isD = true) : AllDigits l := fun c hc => isD_iff.mp (List.all_eq_true.mp h c hc)
theorem digits_all {l : List Nat} (h : AllDigits l) : l.all isD = true := List.all_eq_true.mpr fun c hc => isD_iff.mpr (h c hc)
theorem figs_code (z : Str) (most : Int) : (Txt.isascii z && (Txt.isdigit z && decide ((z.length : Int) ≤ most))) = figs (tl z) most := by
  unfold Txt.isascii Txt.isdigit figs
  rw [← Array.all_toList, ← Array.all_toList, ← len_tl]
  have e : ((tl z).all (· < 128) && (tl z).all Unicode.isDigit) = (tl z).all isD := by
    cases h : (tl z).all (· < 128) with
    | true =>
      rw [Bool.true_and]
      refine Bool.eq_iff_iff.mpr ⟨fun k => List.all_eq_true.mpr fun c hc => ?_, fun k => List.all_eq_true.mpr fun c hc => ?_⟩
      · rw [← digit_ascii c (of_decide_eq_true (List.all_eq_true.mp h c hc))]
        exact List.all_eq_true.mp k c hc
      · rw [digit_ascii c (of_decide_eq_true (List.all_eq_true.mp h c hc))]
        exact List.all_eq_true.mp k c hc
    | false =>
      rw [Bool.false_and]
      refine (Bool.eq_false_iff.mpr fun k => ?_).symm
      refine (Bool.eq_false_iff.mp h) (List.all_eq_true.mpr fun c hc => decide_eq_true ?_)
      have := isD_iff.mp (List.all_eq_true.mp k c hc)
      omega
  rw [← e]
  have e2 : decide (z.length > 0) = decide (1 ≤ z.length) := rfl
  rw [e2]
  cases (tl z).all (· < 128) <;> cases (tl z).all Unicode.isDigit <;> cases decide (1 ≤ z.length) <;> cases decide ((z.length : Int) ≤ most) <;> rfl

theorem str_empty : Str.empty = S [] := rfl
theorem e_none : (Str.ofString "") = S [] := by decide +kernel
theorem e_zero : (Str.ofString "0") = S [48] := by decide +kernel
theorem e_minus : (Str.ofString "-") = S [45] := by decide +kernel
theorem e_plus : (Str.ofString "+") = S [43] := by decide +kernel
theorem e_dot : (Str.ofString ".") = S [46] := by decide +kernel
theorem e_blank : (Str.ofString " ") = S [32] := by decide +kernel
theorem starts_S (l : List Nat) (c : Nat) : Txt.startswith (S l) (S [c]) = decide (l.head? = some c) := by
  unfold Txt.startswith Builtin.Str.subAt
  cases l with
  | nil => rfl
  | cons a l =>
    have h1 : (S (a :: l)).length = l.length + 1 := S_len (a :: l)
    have h2 : (S [c]).length = 1 := S_len [c]
    rw [h1, h2, decide_eq_true (show 0 + 1 ≤ l.length + 1 by omega), Bool.true_and]
    have e : (S (a :: l)).cps.extract 0 (0 + 1) = #[a] := Array.toList_inj.mp (by rw [Array.toList_extract]; rfl)
    rw [e]
    by_cases k : a = c
    · rw [k]
      simp
    · have k2 : (#[a] == (S [c]).cps) = false := by
        refine beq_eq_false_iff_ne.mpr fun z => k ?_
        have z2 := congrArg Array.toList z
        exact (List.cons.inj z2).1
      rw [k2]
      exact (decide_eq_false (fun z => k (Option.some.inj z))).symm
theorem cut_one (l : List Nat) : cutS (S l) (some 1) none = S (l.drop 1) := by
  have h1 : (S l).length = l.length := S_len l
  unfold cutS
  rw [h1, show HT.sIx l.length 0 (some 1) = min 1 l.length from HT.sIx_nat l.length 0 1, HT.sIx_none]
  refine congrArg S ?_
  show (l.drop (min 1 l.length)).take (l.length - min 1 l.length) = l.drop 1
  cases l with
  | nil => rfl
  | cons a l =>
    rw [List.length_cons, Nat.min_eq_left (by omega), List.drop_one, List.tail_cons]
    exact List.take_of_length_le (by omega)
theorem cut_head (l : List Nat) : cutS (S l) none (some 1) = S (l.take 1) := by
  have h1 : (S l).length = l.length := S_len l
  unfold cutS
  rw [h1, show HT.sIx l.length l.length (some 1) = min 1 l.length from HT.sIx_nat l.length l.length 1, HT.sIx_none]
  refine congrArg S ?_
  show (l.drop 0).take (min 1 l.length - 0) = l.take 1
  cases l with
  | nil => rfl
  | cons a l => rw [List.length_cons, Nat.min_eq_left (by omega)]; rfl
theorem head_starts (u : Str) (c : Nat) : decide (V.str (cutS u none (some 1)) = V.str (S [c])) = Txt.startswith u (S [c]) := by
  rw [← S_tl u]
  generalize u.cps.toList = l
  rw [cut_head, starts_S]
  refine decide_eq_decide.mpr ⟨fun h => ?_, fun h => ?_⟩
  · have k := S_inj (V.str.inj h)
    cases l with
    | nil => cases k
    | cons a l => rw [(List.cons.inj k).1]; rfl
  · cases l with
    | nil => cases h
    | cons a l => rw [← Option.some.inj h]; rfl
theorem tw_none {p : Nat → Bool} {l : List Nat} (h : ∀ c ∈ l, p c = false) : l.takeWhile p = [] := by
  cases l with
  | nil => rfl
  | cons a l => rw [List.takeWhile_cons, h a (List.mem_cons_self ..)]; rfl
theorem strip_free {l : List Nat} {c : Nat} (h : c ∉ l) : Txt.stripChars (S l) (S [c]) = S l := by
  have hp : ∀ d ∈ l, (S [c]).cps.contains d = false := fun d hd => by
    cases k : (S [c]).cps.contains d with
    | false => rfl
    | true =>
      have e : d = c := by simpa [S] using k
      rw [e] at hd
      exact absurd hd h
  unfold Txt.stripChars
  rw [stripBy_eq]
  have lo : stripLo (S [c]).cps.contains true (S l) = 0 := by
    show (l.takeWhile _).length = 0
    rw [tw_none hp]
    rfl
  have hi : stripHi (S [c]).cps.contains true (S l) 0 = l.length := by
    show (S l).length - ((l.drop 0).reverse.takeWhile _).length = l.length
    rw [List.drop_zero, tw_none (fun d hd => hp d (List.mem_reverse.mp hd)), S_len]
    rfl
  rw [lo, hi]
  refine ext_tl ?_
  rw [tl_strSub]
  exact List.take_of_length_le (Nat.le_refl _)
/-- without noughts at the end -/
def zt (l : List Nat) : List Nat := l.take (l.length - (l.reverse.takeWhile (· == 48)).length)
theorem rstrip_S (l : List Nat) : Txt.rstripChars (S l) (S [48]) = S (zt l) := by
  unfold Txt.rstripChars
  rw [stripBy_eq]
  have hp : ((S [48]).cps.contains : Nat → Bool) = (· == 48) := by
    funext d
    rw [Bool.eq_iff_iff]
    simp [S]
  rw [hp]
  have lo : stripLo (· == 48) false (S l) = 0 := rfl
  have hi : stripHi (· == 48) true (S l) 0 = l.length - (l.reverse.takeWhile (· == 48)).length := by
    show (S l).length - ((l.drop 0).reverse.takeWhile _).length = _
    rw [S_len]
    rfl
  rw [lo, hi]
  refine ext_tl ?_
  rw [tl_strSub]
  rfl
theorem tw_all {p : Nat → Bool} : ∀ l : List Nat, ∀ c ∈ l.takeWhile p, p c = true
  | [], c, h => by cases h
  | a :: l, c, h => by
    rw [List.takeWhile_cons] at h
    cases e : p a with
    | true =>
      rw [e] at h
      rcases List.mem_cons.mp h with rfl | h
      · exact e
      · exact tw_all l c h
    | false => rw [e] at h; cases h
theorem zt_back (l : List Nat) : l = zt l ++ List.replicate (l.length - (zt l).length) 48 := by
  have h1 : (l.reverse.takeWhile (· == 48)).length ≤ l.length := by
    have a := (List.takeWhile_sublist (l := l.reverse) (· == 48)).length_le
    rw [List.length_reverse] at a
    exact a
  have h2 : (zt l).length = l.length - (l.reverse.takeWhile (· == 48)).length := by
    unfold zt
    rw [List.length_take]
    omega
  have h3 : l.drop (l.length - (l.reverse.takeWhile (· == 48)).length) = (l.reverse.takeWhile (· == 48)).reverse := by
    have a := List.takeWhile_append_dropWhile (p := (· == 48)) (l := l.reverse)
    have b := congrArg List.reverse a
    rw [List.reverse_append, List.reverse_reverse] at b
    conv => lhs; arg 2; rw [← b]
    rw [List.drop_append, List.drop_of_length_le, List.nil_append]
    · have c : l.length - (l.reverse.takeWhile (· == 48)).length - ((l.reverse.dropWhile (· == 48)).reverse).length = 0 := by
        have d := congrArg List.length b
        rw [List.length_append, List.length_reverse, List.length_reverse] at d
        rw [List.length_reverse]
        omega
      rw [c]
      rfl
    · have d := congrArg List.length b
      rw [List.length_append, List.length_reverse, List.length_reverse] at d
      rw [List.length_reverse]
      omega
  have h4 : (l.reverse.takeWhile (· == 48)).reverse = List.replicate (l.length - (zt l).length) 48 := by
    refine List.eq_replicate_iff.mpr ⟨?_, fun c hc => ?_⟩
    · rw [List.length_reverse, h2]
      omega
    · exact eq_of_beq (tw_all _ c (List.mem_reverse.mp hc))
  conv => lhs; rw [← List.take_append_drop (l.length - (l.reverse.takeWhile (· == 48)).length) l]
  rw [h3, h4]
  rfl
/-- six figures -/
def pad6 (r : Nat) : List Nat := [48 + r / 100000 % 10, 48 + r / 10000 % 10, 48 + r / 1000 % 10, 48 + r / 100 % 10, 48 + r / 10 % 10, 48 + r % 10]
theorem num_mill {r : Nat} (h : r < 1000000) : numL (1000000 + r) = 49 :: pad6 r := by
  rw [numL_step (by omega), numL_step (by omega), numL_step (by omega), numL_step (by omega), numL_step (by omega), numL_step (by omega), numL_lt (by omega)]
  unfold pad6
  simp only [List.cons_append, List.nil_append, List.append_assoc, List.cons.injEq, and_true]
  omega
theorem zfill_six {r : Nat} (h : r < 1000000) : Txt.zfill (S (numL r)) 6 = S (pad6 r) := by
  have hd := numL_digits r
  unfold Txt.zfill
  rw [S_len]
  have z : ∀ k, zfilled (S (numL r)) k = S (List.replicate k 48 ++ numL r) := fun k => by
    have e : zfilled (S (numL r)) k = Builtin.Str.padded (S (numL r)) k 0 48 := by
      unfold zfilled
      split
      · rename_i q
        have m := hd 43 (by have := List.mem_of_getElem? (l := numL r) (i := 0) (by simpa [S] using q); exact this)
        omega
      · rename_i q
        have m := hd 45 (by have := List.mem_of_getElem? (l := numL r) (i := 0) (by simpa [S] using q); exact this)
        omega
      · rfl
    rw [e]
    refine ext_tl ?_
    show (Array.replicate k 48 ++ (S (numL r)).cps ++ Array.replicate 0 48).toList = _
    simp [S]
  have fin : ∀ k l, numL r = l → l.length + k = 6 → List.replicate k 48 ++ l = pad6 r → (if (6 : Int) ≤ ((numL r).length : Int) then S (numL r) else zfilled (S (numL r)) ((6 : Int).toNat - (numL r).length)) = S (pad6 r) := fun k l e1 e2 e3 => by
    have e4 : (numL r).length = l.length := congrArg List.length e1
    by_cases c : (6 : Int) ≤ ((numL r).length : Int)
    · rw [if_pos c, ← e3, e1, show k = 0 by omega]
      rfl
    · rw [if_neg c, z, show (6 : Int).toNat - (numL r).length = k by omega, e1, e3]
  by_cases h1 : r < 10
  · refine fin 5 [48 + r] (numL_lt h1) rfl ?_
    simp only [pad6, List.replicate, List.cons_append, List.nil_append, List.cons.injEq, and_true]
    omega
  by_cases h2 : r < 100
  · refine fin 4 [48 + r / 10, 48 + r % 10] (by rw [numL_step (by omega), numL_lt (by omega)]; rfl) rfl ?_
    simp only [pad6, List.replicate, List.cons_append, List.nil_append, List.cons.injEq, and_true]
    omega
  by_cases h3 : r < 1000
  · refine fin 3 [48 + r / 10 / 10, 48 + r / 10 % 10, 48 + r % 10] (by rw [numL_step (by omega), numL_step (by omega), numL_lt (by omega)]; rfl) rfl ?_
    simp only [pad6, List.replicate, List.cons_append, List.nil_append, List.cons.injEq, and_true]
    omega
  by_cases h4 : r < 10000
  · refine fin 2 [48 + r / 10 / 10 / 10, 48 + r / 10 / 10 % 10, 48 + r / 10 % 10, 48 + r % 10] (by rw [numL_step (by omega), numL_step (by omega), numL_step (by omega), numL_lt (by omega)]; rfl) rfl ?_
    simp only [pad6, List.replicate, List.cons_append, List.nil_append, List.cons.injEq, and_true]
    omega
  by_cases h5 : r < 100000
  · refine fin 1 [48 + r / 10 / 10 / 10 / 10, 48 + r / 10 / 10 / 10 % 10, 48 + r / 10 / 10 % 10, 48 + r / 10 % 10, 48 + r % 10] (by rw [numL_step (by omega), numL_step (by omega), numL_step (by omega), numL_step (by omega), numL_lt (by omega)]; rfl) rfl ?_
    simp only [pad6, List.replicate, List.cons_append, List.nil_append, List.cons.injEq, and_true]
    omega
  · refine fin 0 [48 + r / 10 / 10 / 10 / 10 / 10, 48 + r / 10 / 10 / 10 / 10 % 10, 48 + r / 10 / 10 / 10 % 10, 48 + r / 10 / 10 % 10, 48 + r / 10 % 10, 48 + r % 10] (by rw [numL_step (by omega), numL_step (by omega), numL_step (by omega), numL_step (by omega), numL_step (by omega), numL_lt (by omega)]; rfl) rfl ?_
    simp only [pad6, List.replicate, List.cons_append, List.nil_append, List.cons.injEq, and_true]
    omega
theorem pad6_digits (r : Nat) : AllDigits (pad6 r) := fun c hc => by
  simp only [pad6, List.mem_cons, List.not_mem_nil, or_false] at hc
  omega
theorem val_app (a b : List Nat) : digitsVal (a ++ b) = digitsVal a * 10 ^ b.length + digitsVal b := by
  have key : ∀ (b : List Nat) (s : Nat), b.foldl (fun acc c => acc * 10 + (c - 48)) s = s * 10 ^ b.length + b.foldl (fun acc c => acc * 10 + (c - 48)) 0 := by
    intro b
    induction b with
    | nil => intro s; simp
    | cons c b ih =>
      intro s
      rw [List.foldl_cons, List.foldl_cons, ih, ih (0 * 10 + (c - 48)), List.length_cons, Nat.pow_succ, Nat.add_mul, Nat.zero_mul, Nat.zero_add, Nat.mul_assoc, Nat.mul_comm 10, Nat.add_assoc]
  unfold digitsVal
  rw [List.foldl_append, key]
theorem val_pad6 {r : Nat} (h : r < 1000000) : digitsVal (pad6 r) = r := by
  simp only [digitsVal, pad6, List.foldl_cons, List.foldl_nil]
  omega
theorem val_noughts : ∀ n : Nat, digitsVal (List.replicate n 48) = 0
  | 0 => rfl
  | n + 1 => by
    rw [List.replicate_succ']
    rw [val_app, val_noughts n]
    rfl

/-- the signs of an amount -/
def showL (m : Int) : List Nat := (if m < 0 then [45] else []) ++ (numL (m.natAbs / 1000000) ++ (if m.natAbs % 1000000 = 0 then [] else 46 :: zt (pad6 (m.natAbs % 1000000))))
def readN (neg : Bool) (s : Int) : V := if 1000000000000000000000 ≤ s then .non else .int (if neg = true then -s else s)
def readP (neg : Bool) (P : Str × Str × Str) : V :=
  if figs (tl P.1) 15 = false then .non
  else if P.2.1 ≠ Str.empty ∧ figs (tl P.2.2) 12 = false then .non
  else readN neg (near (digitsVal (tl P.1 ++ tl P.2.2 ++ List.replicate (12 - (tl P.2.2).length) 48) : Nat) 1000000)
def unS (u : Str) : Str := if Txt.startswith u (S [45]) = true ∨ Txt.startswith u (S [43]) = true then cutS u (some 1) none else u
/-- the amount that a text tells, or none -/
def readV (z : Str) : V := readP (Txt.startswith (Txt.stripChars z (S [32])) (S [45])) (Txt.partition (unS (Txt.stripChars z (S [32]))) (S [46]))
theorem part_cases (u : Str) : (Txt.partition u (S [46])).2.1 = S [46] ∨ ((Txt.partition u (S [46])).2.1 = Str.empty ∧ (Txt.partition u (S [46])).2.2 = Str.empty) := by
  unfold Txt.partition
  split
  · exact Or.inl rfl
  · exact Or.inr ⟨rfl, rfl⟩
theorem near_exact (k : Int) : near (k * 1000000) 1000000 = k := by
  unfold near
  (repeat' split) <;> omega
theorem zt_sub {l : List Nat} {c : Nat} (h : c ∈ zt l) : c ∈ l := List.mem_of_mem_take h
theorem zt_len (l : List Nat) : (zt l).length ≤ l.length := by
  unfold zt
  rw [List.length_take]
  omega
theorem zt_ne {r : Nat} (h : r < 1000000) (h0 : r ≠ 0) : zt (pad6 r) ≠ [] := fun e => by
  have b := zt_back (pad6 r)
  rw [e, List.nil_append] at b
  have v := val_pad6 h
  rw [b, val_noughts] at v
  exact h0 v.symm
theorem figs_ok {l : List Nat} {k : Nat} (hd : AllDigits l) (h1 : l ≠ []) (h2 : l.length ≤ k) : figs l (k : Int) = true := by
  have h3 : 1 ≤ l.length := by
    cases l with
    | nil => exact absurd rfl h1
    | cons a l => exact Nat.succ_le_succ (Nat.zero_le _)
  unfold figs
  rw [digits_all hd, decide_eq_true h3, decide_eq_true (show (l.length : Int) ≤ (k : Int) by omega)]
  rfl
theorem head_num (w : Nat) : ∃ d l, numL w = d :: l ∧ 48 ≤ d ∧ d ≤ 57 := by
  have a := numL_digits w
  cases e : numL w with
  | nil => exact absurd e (numL_ne w)
  | cons d l =>
    rw [e] at a
    exact ⟨d, l, rfl, a.head⟩
theorem read_body {w r : Nat} (hw : w < 1000000000000000) (hr : r < 1000000) (neg : Bool) :
    readP neg (Txt.partition (S (numL w ++ (if r = 0 then [] else 46 :: zt (pad6 r)))) (S [46])) = .int (if neg = true then -((w * 1000000 + r : Nat) : Int) else ((w * 1000000 + r : Nat) : Int)) := by
  have dw := numL_digits w
  have lw : (numL w).length ≤ 15 := numL_len (by decide) (by rw [show (10 : Nat) ^ 15 = 1000000000000000 by decide]; exact hw)
  have hfree : (46 : Nat) ∉ numL w := numL_free (by omega)
  have fw : figs (numL w) 15 = true := figs_ok dw (numL_ne w) lw
  have fin : ∀ P : Str × Str × Str, tl P.1 = numL w → (P.2.1 = Str.empty ∨ figs (tl P.2.2) 12 = true) → digitsVal (tl P.1 ++ tl P.2.2 ++ List.replicate (12 - (tl P.2.2).length) 48) = (w * 1000000 + r) * 1000000 →
      readP neg P = .int (if neg = true then -((w * 1000000 + r : Nat) : Int) else ((w * 1000000 + r : Nat) : Int)) := fun P e1 e2 e3 => by
    unfold readP
    rw [e3, e1, if_neg (by rw [fw]; decide), if_neg (fun z => by
      rcases e2 with e2 | e2
      · exact z.1 e2
      · rw [e2] at z
        cases z.2), Int.natCast_mul, show ((1000000 : Nat) : Int) = 1000000 from rfl, near_exact]
    unfold readN
    rw [if_neg (by omega)]
  by_cases h0 : r = 0
  · rw [if_pos h0, List.append_nil, TL.partition_none (y := S [46]) (s := 46) (S := []) rfl (a := S (numL w)) hfree]
    refine fin _ rfl (Or.inl rfl) ?_
    show digitsVal (numL w ++ [] ++ List.replicate 12 48) = _
    rw [List.append_nil, val_app, val_noughts, numL_val, List.length_replicate, h0]
    omega
  · have e : S (numL w ++ (46 :: zt (pad6 r))) = S (numL w) ++ S [46] ++ S (zt (pad6 r)) := by
      rw [S_cat, S_cat, List.append_assoc]
      rfl
    rw [if_neg h0, e, TL.partition_app (y := S [46]) (s := 46) (S := []) rfl (a := S (numL w)) hfree]
    have lz : (zt (pad6 r)).length ≤ 6 := zt_len (pad6 r)
    refine fin _ rfl (Or.inr (figs_ok (fun c hc => pad6_digits r c (zt_sub hc)) (zt_ne hr h0) (show (zt (pad6 r)).length ≤ 12 by omega))) ?_
    show digitsVal (numL w ++ zt (pad6 r) ++ List.replicate (12 - (zt (pad6 r)).length) 48) = _
    have b : zt (pad6 r) ++ List.replicate (12 - (zt (pad6 r)).length) 48 = pad6 r ++ List.replicate 6 48 := by
      conv => rhs; rw [zt_back (pad6 r)]
      rw [List.append_assoc, List.replicate_append_replicate]
      have l6 : (pad6 r).length = 6 := rfl
      rw [l6, show 6 - (zt (pad6 r)).length + 6 = 12 - (zt (pad6 r)).length by omega]
    rw [List.append_assoc, b, val_app, val_app, val_noughts, val_pad6 hr, numL_val, List.length_append, List.length_replicate, show (pad6 r).length = 6 from rfl]
    omega
/-- what was written is read back -/
theorem read_show {m : Int} (h : -1000000000000000000000 < m ∧ m < 1000000000000000000000) : readV (S (showL m)) = .int m := by
  have hw : m.natAbs / 1000000 < 1000000000000000 := by omega
  have hr : m.natAbs % 1000000 < 1000000 := by omega
  have body := read_body hw hr
  obtain ⟨d, l, en, d1, d2⟩ := head_num (m.natAbs / 1000000)
  have nd := numL_digits (m.natAbs / 1000000)
  have free : (32 : Nat) ∉ showL m := fun z => by
    unfold showL at z
    rcases List.mem_append.mp z with z | z
    · split at z
      · simp at z
      · cases z
    · rcases List.mem_append.mp z with z | z
      · have := nd 32 z
        omega
      · split at z
        · cases z
        · rcases List.mem_cons.mp z with z | z
          · omega
          · have := pad6_digits _ 32 (zt_sub z)
            omega
  unfold readV
  rw [strip_free free, starts_S]
  unfold unS
  rw [starts_S, starts_S]
  by_cases hm : m < 0
  · have e : showL m = 45 :: (numL (m.natAbs / 1000000) ++ (if m.natAbs % 1000000 = 0 then [] else 46 :: zt (pad6 (m.natAbs % 1000000)))) := by
      unfold showL
      rw [if_pos hm]
      rfl
    rw [e, List.head?_cons, decide_eq_true rfl, if_pos (Or.inl rfl), cut_one, List.drop_one, List.tail_cons, body true, if_pos rfl]
    refine congrArg V.int ?_
    omega
  · have e : showL m = numL (m.natAbs / 1000000) ++ (if m.natAbs % 1000000 = 0 then [] else 46 :: zt (pad6 (m.natAbs % 1000000))) := by
      unfold showL
      rw [if_neg hm]
      rfl
    have eh : (showL m).head? = some d := by
      rw [e, en]
      rfl
    rw [eh, decide_eq_false (fun z => by have := Option.some.inj z; omega), decide_eq_false (fun z => by have := Option.some.inj z; omega), if_neg (by simp), e, body false, if_neg (by simp)]
    refine congrArg V.int ?_
    omega

theorem tens : tl (Str.ofString "0123456789") = [48, 49, 50, 51, 52, 53, 54, 55, 56, 57] := by decide +kernel
theorem mem_tens {c : Nat} : c ∈ (Str.ofString "0123456789").cps.toList ↔ isD c = true := by
  rw [show (Str.ofString "0123456789").cps.toList = [48, 49, 50, 51, 52, 53, 54, 55, 56, 57] from tens, isD_iff]
  simp only [List.mem_cons, List.not_mem_nil, or_false]
  omega
theorem find_tens : ∀ c : Nat, 48 ≤ c → c ≤ 57 → Txt.find (Str.ofString "0123456789") ⟨#[c]⟩ = (c : Int) - 48 := fun c h1 h2 => by
  have e : c = 48 ∨ c = 49 ∨ c = 50 ∨ c = 51 ∨ c = 52 ∨ c = 53 ∨ c = 54 ∨ c = 55 ∨ c = 56 ∨ c = 57 := by omega
  rcases e with rfl | rfl | rfl | rfl | rfl | rfl | rfl | rfl | rfl | rfl <;> decide +kernel
theorem figs_len {l : List Nat} {most : Int} (h : (l.length : Int) < 1 ∨ most < (l.length : Int)) : figs l most = false := by
  unfold figs
  rcases h with h | h
  · rw [decide_eq_false (show ¬ 1 ≤ l.length by omega), Bool.and_false, Bool.false_and]
  · rw [decide_eq_false (show ¬ (l.length : Int) ≤ most by omega), Bool.and_false]
theorem figs_bad {l : List Nat} {most : Int} {i c : Nat} (h : l[i]? = some c) (hc : ¬ isD c = true) : figs l most = false := by
  unfold figs
  have e : l.all isD = false := Bool.eq_false_iff.mpr fun k => hc (List.all_eq_true.mp k c (List.mem_of_getElem? h))
  rw [e, Bool.false_and, Bool.false_and]
theorem figs_good {l : List Nat} {most : Int} (h : ∀ (i c : Nat), l[i]? = some c → isD c = true) (h1 : ¬ (l.length : Int) < 1) (h2 : ¬ most < (l.length : Int)) : figs l most = true := by
  unfold figs
  have e : l.all isD = true := List.all_eq_true.mpr fun c hc => by
    obtain ⟨i, hi⟩ := List.getElem?_of_mem hc
    exact h i c hi
  rw [e, decide_eq_true (show 1 ≤ l.length by omega), decide_eq_true (show (l.length : Int) ≤ most by omega)]
  rfl
theorem str_nat {k : Int} {w : Nat} (h : k = (w : Int)) : Str.ofString (toString k) = S (numL w) := by
  rw [h]
  exact num_S w
theorem log_small {k : Int} (h : -1267650600228229401496703205376 < k ∧ k < 1267650600228229401496703205376) : k.natAbs.log2 < 1920 := by
  have e : (2 : Nat) ^ 100 = 1267650600228229401496703205376 := by decide
  exact Nat.lt_trans (PySem.Flt.log2_lt_of (by decide) (show k.natAbs < 2 ^ 100 by rw [e]; omega)) (by decide)
theorem numL_short {w : Nat} (h : w < 1000000000000000000000000) : (numL w).length ≤ 24 := numL_len (by decide) (by rw [show (10 : Nat) ^ 24 = 1000000000000000000000000 by decide]; exact h)

theorem hl1 {z : Str} (h : z.length ≤ 100000) : z.length ≤ sizeLine := Nat.le_trans h (by decide)
theorem hl2 {z : Str} (h : z.length ≤ 200000) : z.length ≤ sizeLine := Nat.le_trans h (by decide)
theorem hl3 {z y : Str} (h : z.length ≤ 100000) : (Txt.stripChars z y).length ≤ 100000 := Nat.le_trans (len_stripChars _ _) h
theorem hl4 {z : Str} {a b : Option Int} (h : z.length ≤ 100000) : (cutS z a b).length ≤ 100000 := Nat.le_trans (cutS_length _ _ _) h

theorem part_len (u y : Str) : (Txt.partition u y).1.length ≤ u.length ∧ (Txt.partition u y).2.2.length ≤ u.length := by
  have sub : ∀ i j, (Builtin.Str.strSub u i j).length ≤ u.length := fun i j => by
    rw [len_tl, len_tl, tl_strSub, List.length_take, List.length_drop]
    omega
  unfold Txt.partition
  split
  · exact ⟨sub _ _, sub _ _⟩
  · exact ⟨Nat.le_refl _, Nat.zero_le _⟩
theorem readV_1 {z : Str} (h : Txt.startswith (Txt.stripChars z (S [32])) (S [45]) = true) : readV z = readP true (Txt.partition (cutS (Txt.stripChars z (S [32])) (some 1) none) (S [46])) := by
  unfold readV unS
  rw [h, if_pos (Or.inl rfl)]
theorem readV_2 {z : Str} (h : ¬ Txt.startswith (Txt.stripChars z (S [32])) (S [45]) = true) (h2 : Txt.startswith (Txt.stripChars z (S [32])) (S [43]) = true) : readV z = readP false (Txt.partition (cutS (Txt.stripChars z (S [32])) (some 1) none) (S [46])) := by
  unfold readV unS
  rw [Bool.eq_false_iff.mpr h, h2, if_pos (Or.inr rfl)]
theorem readV_3 {z : Str} (h : ¬ Txt.startswith (Txt.stripChars z (S [32])) (S [45]) = true) (h2 : ¬ Txt.startswith (Txt.stripChars z (S [32])) (S [43]) = true) : readV z = readP false (Txt.partition (Txt.stripChars z (S [32])) (S [46])) := by
  unfold readV unS
  rw [Bool.eq_false_iff.mpr h, Bool.eq_false_iff.mpr h2, if_neg (by decide)]
theorem readP_bad1 {b : Bool} {P : Str × Str × Str} (h : ¬ figs (tl P.1) 15 = true) : readP b P = .non := by
  unfold readP
  rw [if_pos (Bool.eq_false_iff.mpr h)]
theorem readP_bad2 {b : Bool} {P : Str × Str × Str} (h1 : ¬ P.2.1 = Str.empty) (h : ¬ figs (tl P.2.2) 12 = true) : readP b P = .non := by
  unfold readP
  split
  · rfl
  · rw [if_pos ⟨h1, Bool.eq_false_iff.mpr h⟩]
def worthP (P : Str × Str × Str) : Nat := digitsVal (tl P.1 ++ tl P.2.2 ++ List.replicate (12 - (tl P.2.2).length) 48)
theorem readP_good {b : Bool} {P : Str × Str × Str} (h : figs (tl P.1) 15 = true) (h2 : P.2.1 = Str.empty ∨ figs (tl P.2.2) 12 = true) : readP b P = readN b (near (worthP P : Nat) 1000000) := by
  unfold readP
  rw [if_neg (by rw [h]; decide), if_neg (fun z => by
    rcases h2 with h2 | h2
    · exact z.1 h2
    · rw [h2] at z
      cases z.2)]
  rfl
theorem figs_out {l : List Nat} {k : Int} (h : figs l k = true) : AllDigits l ∧ 1 ≤ l.length ∧ (l.length : Int) ≤ k := by
  unfold figs at h
  rw [Bool.and_eq_true, Bool.and_eq_true, decide_eq_true_eq, decide_eq_true_eq] at h
  exact ⟨all_digits h.1.1, h.1.2, h.2⟩
theorem just_tl (z : Str) : tl (Txt.ljustF z 12 48) = tl z ++ List.replicate (12 - (tl z).length) 48 := by
  unfold Txt.ljustF
  have e := len_tl z
  by_cases h : (12 : Int) ≤ (z.length : Int)
  · rw [if_pos h, show 12 - (tl z).length = 0 by omega]
    exact (List.append_nil _).symm
  · rw [if_neg h, e]
    show (Array.replicate 0 48 ++ z.cps ++ Array.replicate ((12 : Int).toNat - (tl z).length) 48).toList = _
    simp [tl]
theorem behind_ok {P : Str × Str × Str} (hc : P.2.1 = S [46] ∨ (P.2.1 = Str.empty ∧ P.2.2 = Str.empty)) (h2 : P.2.1 = Str.empty ∨ figs (tl P.2.2) 12 = true) : AllDigits (tl P.2.2) ∧ (tl P.2.2).length ≤ 12 := by
  rcases h2 with h2 | h2
  · rcases hc with hc | hc
    · rw [hc] at h2
      exact absurd (congrArg tl h2) (fun z => nomatch z)
    · rw [hc.2]
      exact ⟨fun c hc => (nomatch hc), Nat.zero_le _⟩
  · have f := figs_out h2
    exact ⟨f.1, by omega⟩
theorem worth_text {P : Str × Str × Str} (hc : P.2.1 = S [46] ∨ (P.2.1 = Str.empty ∧ P.2.2 = Str.empty)) (h : figs (tl P.1) 15 = true) (h2 : P.2.1 = Str.empty ∨ figs (tl P.2.2) 12 = true) :
    intText? (P.1 ++ Txt.ljustF P.2.2 12 48) = some ((worthP P : Nat) : Int) ∧ (P.1 ++ Txt.ljustF P.2.2 12 48).length ≤ 27 ∧ P.1.length ≤ 15 ∧ (Txt.ljustF P.2.2 12 48).length ≤ 12 := by
  have f := figs_out h
  have b := behind_ok hc h2
  have e : tl (P.1 ++ Txt.ljustF P.2.2 12 48) = tl P.1 ++ tl P.2.2 ++ List.replicate (12 - (tl P.2.2).length) 48 := by
    rw [tl_append, just_tl, List.append_assoc]
  have l2 : (Txt.ljustF P.2.2 12 48).length = 12 := by
    rw [len_tl, just_tl, List.length_append, List.length_replicate]
    omega
  have l1 : P.1.length = (tl P.1).length := len_tl _
  have l : (P.1 ++ Txt.ljustF P.2.2 12 48).length ≤ 27 := by
    rw [Str.length_append]
    omega
  refine ⟨?_, l, by omega, by omega⟩
  have d := intText_digits (x := P.1 ++ Txt.ljustF P.2.2 12 48) (fun c hc => by
    rw [show (P.1 ++ Txt.ljustF P.2.2 12 48).cps.toList = _ from e] at hc
    rcases List.mem_append.mp hc with hc | hc
    · rcases List.mem_append.mp hc with hc | hc
      · exact f.1 c hc
      · exact b.1 c hc
    · rw [List.eq_of_mem_replicate hc]
      decide) (fun z => by
    have z2 := congrArg List.length z
    rw [show (P.1 ++ Txt.ljustF P.2.2 12 48).cps.toList = _ from e, List.length_append, List.length_append] at z2
    have z3 : (tl P.1).length + (tl P.2.2).length + _ = 0 := z2
    omega) (by omega)
  rw [show (P.1 ++ Txt.ljustF P.2.2 12 48).cps.toList = _ from e] at d
  exact d
theorem near_nn {a : Int} (h : 0 ≤ a) : 0 ≤ near a 1000000 := by
  unfold near
  (repeat' split) <;> omega

theorem ne_empty {a : Str} : (!decide (V.str a = V.str (Str.ofString ""))) = true ↔ ¬ a = Str.empty := by
  rw [e_none, str_empty, Bool.not_eq_true', decide_eq_false_iff_not]
  exact ⟨fun h z => h (congrArg V.str z), fun h z => h (V.str.inj z)⟩

theorem show_S (m : Int) : S (showL m) = (if m < 0 then S [45] else S []) ++ (S (numL (m.natAbs / 1000000)) ++ (if m.natAbs % 1000000 = 0 then S [] else S [46] ++ S (zt (pad6 (m.natAbs % 1000000))))) := by
  unfold showL
  by_cases h : m < 0
  · by_cases k : m.natAbs % 1000000 = 0
    · rw [if_pos h, if_pos h, if_pos k, if_pos k]; simp only [S_cat]
    · rw [if_pos h, if_pos h, if_neg k, if_neg k]; simp only [S_cat]; rfl
  · by_cases k : m.natAbs % 1000000 = 0
    · rw [if_neg h, if_neg h, if_pos k, if_pos k]; simp only [S_cat]
    · rw [if_neg h, if_neg h, if_neg k, if_neg k]; simp only [S_cat]; rfl
theorem rest_zero : zt (pad6 0) = [] := by decide +kernel
theorem nots {b : Bool} (h : ¬ (!b) = true) : b = true := by simpa using h
theorem readN_in {b : Bool} {s : Int} (h : s < 1000000000000000000000) : readN b s = .int (if b = true then -s else s) := if_neg (by omega)
theorem readN_out {b : Bool} {s : Int} (h : ¬ s < 1000000000000000000000) : readN b s = .non := if_pos (by omega)

theorem val_bound : ∀ {l : List Nat}, AllDigits l → digitsVal l < 10 ^ l.length := by
  have key : ∀ (l : List Nat) (s : Nat), AllDigits l → l.foldl (fun acc c => acc * 10 + (c - 48)) s < (s + 1) * 10 ^ l.length := by
    intro l
    induction l with
    | nil => intro s _; simp
    | cons c l ih =>
      intro s h
      have hc := h.head
      rw [List.foldl_cons, List.length_cons, Nat.pow_succ]
      refine Nat.lt_of_lt_of_le (ih _ h.tail) ?_
      rw [Nat.mul_comm (10 ^ l.length) 10, ← Nat.mul_assoc]
      exact Nat.mul_le_mul_right _ (by omega)
  intro l h
  have a := key l 0 h
  rw [Nat.zero_add, Nat.one_mul] at a
  exact a
theorem val_step {l : List Nat} {i c : Nat} (h : l[i]? = some c) : digitsVal (l.take (i + 1)) = digitsVal (l.take i) * 10 + (c - 48) := by
  obtain ⟨hi, e⟩ := List.getElem?_eq_some_iff.mp h
  rw [List.take_succ_eq_append_getElem hi, val_app, e]
  show _ * 10 ^ 1 + (0 * 10 + (c - 48)) = _
  omega
def allP (P : Str × Str × Str) : Str := P.1 ++ P.2.2 ++ repS (Str.ofString "0") ((12 : Int) - (P.2.2.length : Int)).toNat
theorem allP_tl (P : Str × Str × Str) : tl (allP P) = tl P.1 ++ tl P.2.2 ++ List.replicate (12 - (tl P.2.2).length) 48 := by
  unfold allP
  rw [tl_append, tl_append, e_zero, len_tl P.2.2, show ((12 : Int) - ((tl P.2.2).length : Int)).toNat = 12 - (tl P.2.2).length by omega]
  refine congrArg (fun z => tl P.1 ++ tl P.2.2 ++ z) ?_
  show (List.replicate (12 - (tl P.2.2).length) [48]).flatten = _
  generalize 12 - (tl P.2.2).length = n
  induction n with
  | zero => rfl
  | succ n ih => rw [List.replicate_succ, List.flatten_cons, ih, List.replicate_succ]; rfl
theorem allP_ok {P : Str × Str × Str} (hc : P.2.1 = S [46] ∨ (P.2.1 = Str.empty ∧ P.2.2 = Str.empty)) (h : figs (tl P.1) 15 = true) (h2 : P.2.1 = Str.empty ∨ figs (tl P.2.2) 12 = true) :
    AllDigits (tl (allP P)) ∧ digitsVal (tl (allP P)) = worthP P ∧ (worthP P : Int) < 1000000000000000000000000000000 ∧ (tl P.1).length ≤ 15 ∧ (tl P.2.2).length ≤ 12 := by
  have f := figs_out h
  have b := behind_ok hc h2
  have d : AllDigits (tl (allP P)) := fun c hc => by
    rw [allP_tl] at hc
    rcases List.mem_append.mp hc with hc | hc
    · rcases List.mem_append.mp hc with hc | hc
      · exact f.1 c hc
      · exact b.1 c hc
    · rw [List.eq_of_mem_replicate hc]
      decide
  have e : digitsVal (tl (allP P)) = worthP P := congrArg digitsVal (allP_tl P)
  refine ⟨d, e, ?_, by omega, b.2⟩
  have v := val_bound d
  rw [e] at v
  have l : (tl (allP P)).length ≤ 27 := by
    rw [allP_tl, List.length_append, List.length_append, List.length_replicate]
    omega
  have v2 : worthP P < 10 ^ 27 := Nat.lt_of_lt_of_le v (Nat.pow_le_pow_right (by decide) l)
  rw [show (10 : Nat) ^ 27 = 1000000000000000000000000000 by decide] at v2
  omega
theorem head_is {u : Str} {c : Nat} (h : V.str (cutS u none (some 1)) = V.str (S [c])) : Txt.startswith u (S [c]) = true := (head_starts u c).symm.trans (decide_eq_true h)
theorem head_not {u : Str} {c : Nat} (h : ¬ V.str (cutS u none (some 1)) = V.str (S [c])) : ¬ Txt.startswith u (S [c]) = true := by
  rw [← head_starts u c]
  exact fun z => h (of_decide_eq_true z)

theorem show_len {m : Int} (h : -1000000000000000000000 < m ∧ m < 1000000000000000000000) : (S (showL m)).length ≤ 40 := by
  rw [S_len]
  unfold showL
  have n1 : (numL (m.natAbs / 1000000)).length ≤ 24 := numL_short (by omega)
  have n2 := zt_len (pad6 (m.natAbs % 1000000))
  have n3 : (pad6 (m.natAbs % 1000000)).length = 6 := rfl
  rw [List.length_append, List.length_append]
  split <;> split <;> simp only [List.length_cons, List.length_nil] <;> omega

theorem readP_kind (b : Bool) (P : Str × Str × Str) : readP b P = .non ∨ ∃ s : Int, readP b P = .int s ∧ (-1000000000000000000000 < s ∧ s < 1000000000000000000000) := by
  unfold readP
  split
  · exact Or.inl rfl
  · split
    · exact Or.inl rfl
    · have nn := near_nn (a := (digitsVal (tl P.1 ++ tl P.2.2 ++ List.replicate (12 - (tl P.2.2).length) 48) : Nat)) (Int.natCast_nonneg _)
      unfold readN
      split
      · exact Or.inl rfl
      · refine Or.inr ⟨_, rfl, ?_⟩
        split <;> omega
theorem readV_kind (z : Str) : readV z = .non ∨ ∃ s : Int, readV z = .int s ∧ (-1000000000000000000000 < s ∧ s < 1000000000000000000000) := readP_kind _ _

theorem op_modL {X : Cx} : OpR X (binaryOp .Mod) (fun x y H Q => ∃ i j, x = .int i ∧ y = .int j ∧ 0 < j ∧ ∀ d : Int, 0 ≤ d → d < j → Q (.int d) H) := fun pins s σ H x y v u Q I rx ry hq => by
  obtain ⟨i, j, ex, ey, hc, q⟩ := hq
  exact op_mod pins s σ H x y v u Q I rx ry ⟨i, j, ex, ey, hc, q _ (Int.emod_nonneg _ (by omega)) (Int.emod_lt_of_pos _ hc)⟩
theorem ixS_go {z : Str} {i : Int} {H : Hp} {Q : VK} (h : z.length ≤ 100000) (h0 : 0 ≤ i) (h1 : i < (z.length : Int)) (q : ∀ c, Q (.str ⟨#[c]⟩) H) : rIxS (.str z) (.int i) H Q := by
  obtain ⟨c, _, e⟩ := atI_some (xs := z.cps.toList) h0 (by rw [← len_tl]; exact h1)
  exact ⟨z, i, c, rfl, rfl, hl1 h, e, q c⟩
theorem joinL_len : ∀ ls : List (List Nat), (TL.joinL [] ls).length = (ls.map List.length).sum
  | [] => rfl
  | [x] => by simp [TL.joinL]
  | x :: y :: ls => by
    have e : TL.joinL [] (x :: y :: ls) = x ++ [] ++ TL.joinL [] (y :: ls) := by first | rfl | simp [TL.joinL]
    rw [e, List.length_append, List.append_nil, joinL_len (y :: ls)]
    simp
theorem sum_le {n : Nat} : ∀ {zs : List Str}, (∀ z ∈ zs, z.length ≤ n) → (zs.map (·.length)).sum ≤ n * zs.length
  | [], _ => Nat.zero_le _
  | z :: zs, h => by
    rw [List.map_cons, List.sum_cons, List.length_cons, Nat.mul_succ]
    have a := sum_le (fun y hy => h y (List.mem_cons_of_mem _ hy))
    have b := h z (List.mem_cons_self ..)
    omega
theorem join_len {n : Nat} {zs : List Str} (h : ∀ z ∈ zs, z.length ≤ n) : (Txt.join (Str.ofString "") zs).length ≤ n * zs.length := by
  rw [len_tl, TL.join_eq, TL.tl_join, e_none, joinL_len, List.map_map]
  exact Nat.le_trans (Nat.le_of_eq (congrArg List.sum (List.map_congr_left fun z _ => (len_tl z).symm))) (sum_le h)
theorem join_sum {n : Nat} {zs : List Str} (h : ∀ z ∈ zs, z.length ≤ n) : (zs.map (·.length)).sum + zs.length * (Str.ofString "").length ≤ n * zs.length := by
  rw [show (Str.ofString "").length = 0 from by decide +kernel, Nat.mul_zero, Nat.add_zero]
  exact sum_le h
theorem more_map (zs : List Str) (ch : Nat) : zs.map V.str ++ [V.str ⟨#[ch]⟩] = (zs ++ [(⟨#[ch]⟩ : Str)]).map V.str := by
  rw [List.map_append]
  rfl
theorem more_one {zs : List Str} {ch : Nat} (h : ∀ z ∈ zs, z.length ≤ 1) : ∀ z ∈ zs ++ [(⟨#[ch]⟩ : Str)], z.length ≤ 1 := fun z hm => by
  rcases List.mem_append.mp hm with hm | hm
  · exact h z hm
  · rw [List.mem_singleton.mp hm]
    exact Nat.le_refl _
theorem more_len {zs : List Str} {ch i : Nat} (h : zs.length ≤ i) : (zs ++ [(⟨#[ch]⟩ : Str)]).length ≤ i + 1 := by
  rw [List.length_append, List.length_singleton]
  omega
theorem tens_len : (Str.ofString "0123456789").length = 10 := by decide +kernel

theorem La {A B : Str} {a b : Nat} (h : A.length ≤ a) (k : B.length ≤ b) : (A ++ B).length ≤ a + b := by
  rw [Str.length_append]
  omega
theorem Lc {z : Str} {x y : Option Int} {n : Nat} (h : z.length ≤ n) : (cutS z x y).length ≤ n := Nat.le_trans (cutS_length _ _ _) h
theorem Lr {z : Str} {k : Int} (n : Nat) (h : z.length ≤ 1) (hk : k ≤ (n : Int)) : (repS z k.toNat).length ≤ n := by
  rw [repS_len]
  exact Nat.le_trans (Nat.mul_le_mul_right _ h) (by omega)
theorem c_one (c : Nat) : (⟨#[c]⟩ : Str).length ≤ 1 := Nat.le_refl 1

theorem pe_bm0k {X : Cx} {K : PySem.W.Frag} {T name id : String} {r : V → List V → Hp → VK → Prop} {o : Expr} {to : TE} {apos cpos : Pos} (ek : X.K = K) (pa : PlainAttrs T) (slot : Slot T name id) (hty : typeOf (.builtin id) = pure (.type "method_descriptor")) (hm : MtR X id r) (ho : PE X o to)
    (hb : attributeBase o name X.env (eval o X.env) = eval o X.env := by rfl) (hl : (apos.endLine == cpos.line) = true := by rfl) : PE X (.Call (.Attribute o name apos) [] [] cpos) (tBM0 K T r to) := ek ▸ pe_bm0 pa slot hty hm ho hb hl
/-- signs below 128 -/
def Asc (z : Str) : Prop := ∀ c ∈ tl z, c < 128
theorem Asc.app {a b : Str} (h : Asc a) (k : Asc b) : Asc (a ++ b) := fun c hc => by
  rw [TL.tl_append] at hc
  rcases List.mem_append.mp hc with hc | hc
  · exact h c hc
  · exact k c hc
theorem Asc.cut {a : Str} {x y : Option Int} (h : Asc a) : Asc (cutS a x y) := fun c hc => by
  have e : tl (cutS a x y) = ((a.cps.toList.drop (HT.sIx a.length 0 x)).take (HT.sIx a.length a.length y - HT.sIx a.length 0 x)) := rfl
  rw [e] at hc
  exact h c (List.mem_of_mem_drop (List.mem_of_mem_take hc))
theorem Asc.rep {a : Str} {n : Nat} (h : Asc a) : Asc (repS a n) := fun c hc => by
  have e : tl (repS a n) = (List.replicate n (tl a)).flatten := rfl
  rw [e] at hc
  obtain ⟨l, hl, hc⟩ := List.mem_flatten.mp hc
  rw [(List.mem_replicate.mp hl).2] at hc
  exact h c hc
theorem Asc.one {c : Nat} (h : c < 128) : Asc ⟨#[c]⟩ := fun d hd => by
  rw [List.mem_singleton.mp (show d ∈ [c] from hd)]
  exact h
theorem Asc.at {a : Str} {i c : Nat} (h : Asc a) (e : a.cps.toList[i]? = some c) : c < 128 := h c (List.mem_of_getElem? e)
theorem asc_lit {z : Str} (h : (tl z).all (· < 128) = true) : Asc z := fun c hc => of_decide_eq_true (List.all_eq_true.mp h c hc)
theorem mem_joinL : ∀ {ls : List (List Nat)} {c : Nat}, c ∈ TL.joinL [] ls → ∃ l ∈ ls, c ∈ l
  | [], c, h => by cases h
  | [x], c, h => ⟨x, List.mem_cons_self .., by simpa [TL.joinL] using h⟩
  | x :: y :: ls, c, h => by
    have e : TL.joinL [] (x :: y :: ls) = x ++ [] ++ TL.joinL [] (y :: ls) := by first | rfl | simp [TL.joinL]
    rw [e, List.append_nil] at h
    rcases List.mem_append.mp h with h | h
    · exact ⟨x, List.mem_cons_self .., h⟩
    · obtain ⟨l, hl, k⟩ := mem_joinL h
      exact ⟨l, List.mem_cons_of_mem _ hl, k⟩
theorem tl_join0 (zs : List Str) : tl (Txt.join (Str.ofString "") zs) = TL.joinL [] (zs.map tl) := by
  rw [TL.join_eq, TL.tl_join, e_none]
theorem Asc.join {zs : List Str} (h : ∀ z ∈ zs, Asc z) : Asc (Txt.join (Str.ofString "") zs) := fun c hc => by
  rw [tl_join0] at hc
  obtain ⟨l, hl, k⟩ := mem_joinL hc
  obtain ⟨z, hz, rfl⟩ := List.mem_map.mp hl
  exact h z hz c k
theorem joinL_ones (f : Nat → Nat) : ∀ l : List Nat, TL.joinL [] (l.map fun c => [f c]) = l.map f
  | [] => rfl
  | [c] => by simp [TL.joinL]
  | c :: d :: l => by
    have e : TL.joinL [] ((c :: d :: l).map fun c => [f c]) = [f c] ++ [] ++ TL.joinL [] ((d :: l).map fun c => [f c]) := by first | rfl | simp [TL.joinL]
    rw [e, joinL_ones f (d :: l)]
    rfl
theorem join_ones (f : Nat → Nat) (l : List Nat) : Txt.join (Str.ofString "") (l.map fun c => (⟨#[f c]⟩ : Str)) = S (l.map f) := by
  refine ext_tl ?_
  rw [tl_join0, List.map_map]
  exact joinL_ones f l
theorem upper_tl {z : Str} (h : Asc z) : Txt.upper z = S ((tl z).map PyProof.Rows.up1) := by
  have e := upper_S (a := tl z) (List.all_eq_true.mpr fun c hc => decide_eq_true (h c hc))
  rw [S_tl z] at e
  exact e
theorem upper_one {c : Nat} (h : c < 128) : Txt.upper ⟨#[c]⟩ = ⟨#[PyProof.Rows.up1 c]⟩ := upper_tl (Asc.one h)
theorem lower_one {c : Nat} (h : c < 128) : Txt.lower ⟨#[c]⟩ = ⟨#[PyProof.Rows.lo1 c]⟩ := by
  have e := lower_S (a := [c]) (List.all_eq_true.mpr fun d hd => decide_eq_true (by rw [List.mem_singleton.mp hd]; exact h))
  exact e
theorem lo1_small {c : Nat} (h : c < 128) : PyProof.Rows.lo1 c < 128 := by
  unfold PyProof.Rows.lo1
  split <;> omega
theorem up1_small {c : Nat} (h : c < 128) : PyProof.Rows.up1 c < 128 := by
  unfold PyProof.Rows.up1
  split <;> omega
theorem upper_asc {z : Str} (h : Asc z) : Asc (Txt.upper z) := fun c hc => by
  rw [upper_tl h] at hc
  obtain ⟨d, hd, rfl⟩ := List.mem_map.mp (show c ∈ (tl z).map PyProof.Rows.up1 from hc)
  exact up1_small (h d hd)
theorem upper_len {z : Str} (h : Asc z) : (Txt.upper z).length = z.length := by
  rw [upper_tl h, S_len, List.length_map, len_tl]
theorem one_lt {c d : Nat} : ([c] : List Nat) < [d] ↔ c < d := by
  simp [List.cons_lt_cons_iff]
theorem sg_ge_a (c : Nat) : (!decide ((⟨#[c]⟩ : Str).cps.toList < (Str.ofString "a").cps.toList)) = decide (97 ≤ c) := by
  have e : (Str.ofString "a").cps.toList = [97] := by decide +kernel
  rw [e]
  show (!decide ([c] < [97])) = decide (97 ≤ c)
  by_cases h : c < 97
  · rw [decide_eq_true (one_lt.mpr h), decide_eq_false (by omega)]
    rfl
  · rw [decide_eq_false (fun z => h (one_lt.mp z)), decide_eq_true (by omega)]
    rfl
theorem sg_le_z (c : Nat) : (!decide ((Str.ofString "z").cps.toList < (⟨#[c]⟩ : Str).cps.toList)) = decide (c ≤ 122) := by
  have e : (Str.ofString "z").cps.toList = [122] := by decide +kernel
  rw [e]
  show (!decide ([122] < [c])) = decide (c ≤ 122)
  by_cases h : 122 < c
  · rw [decide_eq_true (one_lt.mpr h), decide_eq_false (by omega)]
    rfl
  · rw [decide_eq_false (fun z => h (one_lt.mp z)), decide_eq_true (by omega)]
    rfl
theorem up1_small_letter {c : Nat} (h : ¬ (97 ≤ c ∧ c ≤ 122)) : c = PyProof.Rows.up1 c := (if_neg h).symm
/-- an index into a text of such signs -/
theorem ixS_goA {z : Str} {i : Int} {H : Hp} {Q : VK} (ha : Asc z) (h : z.length ≤ 100000) (h0 : 0 ≤ i) (h1 : i < (z.length : Int)) (q : ∀ c, c < 128 → Q (.str ⟨#[c]⟩) H) : rIxS (.str z) (.int i) H Q := by
  obtain ⟨c, hc, e⟩ := atI_some (xs := z.cps.toList) h0 (by rw [← len_tl]; exact h1)
  exact ⟨z, i, c, rfl, rfl, hl1 h, e, q c (ha c hc)⟩
theorem show_asc (m : Int) : Asc (S (showL m)) := fun c hc => by
  have hc2 : c ∈ showL m := hc
  unfold showL at hc2
  rcases List.mem_append.mp hc2 with h | h
  · split at h
    · rw [List.mem_singleton.mp h]
      decide
    · cases h
  · rcases List.mem_append.mp h with h | h
    · have := TL.numL_digits _ c h
      omega
    · split at h
      · cases h
      · rcases List.mem_cons.mp h with rfl | h
        · decide
        · have := pad6_digits _ c (zt_sub h)
          omega
theorem more_asc {zs : List Str} {ch : Nat} (h : ∀ z ∈ zs, Asc z) (hc : ch < 128) : ∀ z ∈ zs ++ [(⟨#[ch]⟩ : Str)], Asc z := fun z hm => by
  rcases List.mem_append.mp hm with hm | hm
  · exact h z hm
  · rw [List.mem_singleton.mp hm]
    exact Asc.one hc
/-- an item of a tuple, whichever -/
theorem atT_go {K : PySem.W.Frag} {p : Addr} {xs : List V} {i : Int} {H : Hp} {Q : VK} (h : SqT K H p xs) (h0 : 0 ≤ i) (h1 : i < (xs.length : Int)) (q : ∀ v, v ∈ xs → Q v H) : rIxT K (.ref p) (.int i) H Q := by
  obtain ⟨v, hv, e⟩ := atI_mem h0 h1
  exact ⟨_, _, _, v, rfl, rfl, h, e, q v hv⟩
/-- a scalar by its kind -/
inductive Sc where
  | empty | num (m : Int) | tru (b : Bool) | txt (z : Str) | err (z : Str)
def Sc.vs : Sc → List V
  | .empty => [.str "empty"]
  | .num m => [.str "number", .int m]
  | .tru b => [.str "truth", .bl b]
  | .txt z => [.str "text", .str z]
  | .err z => [.str "error", .str z]
def Sc.ok : Sc → Prop
  | .num m => -1000000000000000000000 < m ∧ m < 1000000000000000000000
  | .txt z => z.length ≤ 2000 ∧ Asc z
  | .err z => z.length ≤ 20 ∧ Asc z
  | _ => True
theorem Sc.flat (s : Sc) : ∀ y ∈ s.vs, Flat3 y := by
  rcases s with _ | m | b | z | z
  all_goals (intro y hy; simp only [Sc.vs, List.mem_cons, List.not_mem_nil, or_false] at hy)
  · rw [hy]
    exact Or.inr (Or.inl ⟨_, rfl⟩)
  all_goals rcases hy with rfl | rfl
  all_goals first
    | exact Or.inr (Or.inl ⟨_, rfl⟩)
    | exact Or.inl ⟨_, rfl⟩
    | exact Or.inr (Or.inr ⟨_, rfl⟩)
theorem Sc.short (s : Sc) : s.vs.length ≤ 20 := by
  rcases s with _ | m | b | z | z
  all_goals exact Nat.le_of_ble_eq_true rfl
def WDS : List V := [.str "DIV", .str "VALUE", .str "REF", .str "NAME", .str "NUM", .str "NA", .str "CALC", .str "SIZE", .str "LIMIT", .str "CIRC"]
theorem wds_mem {v : V} (h : v ∈ WDS) : ∃ y, v = .str y ∧ y.length ≤ 10 ∧ Asc y := by
  simp only [WDS, List.mem_cons, List.not_mem_nil, or_false] at h
  rcases h with rfl | rfl | rfl | rfl | rfl | rfl | rfl | rfl | rfl | rfl
  all_goals exact ⟨_, rfl, by decide +kernel, asc_lit (by decide +kernel)⟩

def numT (z : Str) : Sc := match readV z with
  | .int m => .num m
  | _ => .err "VALUE"
def Sc.num' : Sc → Sc
  | .empty => .num 0
  | .tru b => .num (if b = true then 1000000 else 0)
  | .txt z => numT z
  | s => s
def limS (n : Int) : Sc := if -1000000000000000000000 < n ∧ n < 1000000000000000000000 then .num n else .err "NUM"
def Sc.wh : Sc → Sc
  | .num m => limS (m - m % 1000000)
  | s => s
def Sc.shown : Sc → Str
  | .empty => ""
  | .num m => S (showL m)
  | .tru b => if b = true then "TRUE" else "FALSE"
  | .txt z => z
  | .err z => ("#" : Str) ++ z ++ ("!" : Str)
def Sc.text : Sc → Sc
  | .err z => .err z
  | s => .txt s.shown
def Sc.truth : Sc → Sc
  | .empty => .tru false
  | .num m => .tru (!decide (V.int m = V.int 0))
  | .txt z => if Txt.upper z = ("TRUE" : Str) ∨ Txt.upper z = ("FALSE" : Str) then .tru (decide (V.str (Txt.upper z) = V.str ("TRUE" : Str))) else .err "VALUE"
  | s => s
def textO (z : Str) : Sc := if z.length ≤ 64 then .txt z else .err "VALUE"
theorem inTF {u a b : Str} : inV (V.str u) [V.str a, V.str b] = true ↔ u = a ∨ u = b := by
  unfold inV
  rw [List.any_cons, List.any_cons, List.any_nil, Bool.or_false, Bool.or_eq_true]
  show (a == u) = true ∨ (b == u) = true ↔ _
  constructor
  · rintro (h | h)
    · exact Or.inl (eq_of_beq h).symm
    · exact Or.inr (eq_of_beq h).symm
  · rintro (h | h)
    · exact Or.inl (beq_iff_eq.mpr h.symm)
    · exact Or.inr (beq_iff_eq.mpr h.symm)
theorem truth_in {z : Str} (h : Txt.upper z = ("TRUE" : Str) ∨ Txt.upper z = ("FALSE" : Str)) : (Sc.txt z).truth = .tru (decide (V.str (Txt.upper z) = V.str ("TRUE" : Str))) := if_pos h
theorem truth_out {z : Str} (h : ¬ (Txt.upper z = ("TRUE" : Str) ∨ Txt.upper z = ("FALSE" : Str))) : (Sc.txt z).truth = .err "VALUE" := if_neg h
theorem numT_non {z : Str} (h : readV z = .non) : numT z = .err "VALUE" := by
  unfold numT
  rw [h]
theorem numT_int {z : Str} {m : Int} (h : readV z = .int m) : numT z = .num m := by
  unfold numT
  rw [h]
theorem num_case (s : Sc) (h : s.ok) : (∃ m, s.num' = .num m ∧ (-1000000000000000000000 < m ∧ m < 1000000000000000000000)) ∨ ∃ z, s.num' = .err z := by
  rcases s with _ | m | b | z | z
  · exact Or.inl ⟨0, rfl, by decide, by decide⟩
  · exact Or.inl ⟨m, rfl, h⟩
  · refine Or.inl ⟨_, rfl, ?_⟩
    cases b <;> decide
  · rcases readV_kind z with e | ⟨m, e, hm⟩
    · exact Or.inr ⟨_, numT_non e⟩
    · exact Or.inl ⟨m, numT_int e, hm⟩
  · exact Or.inr ⟨z, rfl⟩

local macro_rules | `(tactic| walk_at "len1") => `(tactic| first
  | with_reducible assumption
  | (with_reducible refine hl3 ?_; walk_at "len1")
  | (with_reducible refine hl4 ?_; walk_at "len1"))
local macro_rules | `(tactic| walk_at "len") => `(tactic| first
  | (with_reducible refine hl1 ?_; walk_at "len1")
  | (with_reducible refine hl2 ?_; with_reducible assumption))
local macro_rules | `(tactic| walk_at "sl") => `(tactic| (refine Nat.le_trans (Nat.le_of_eq (S_len _)) ?_; rw [sizeLine_eq]; (try simp only [List.length_append, List.length_cons, List.length_nil]); omega))
local macro_rules | `(tactic| walk_at "sl3") => `(tactic| (rw [sizeLine_eq]; (try simp only [S_len, Str.length_append, List.length_append, List.length_cons, List.length_nil]); omega))
local macro_rules | `(tactic| walk_at "lb") => `(tactic| first
  | with_reducible assumption
  | with_reducible exact c_one _
  | (with_reducible apply Lc; walk_at "lb")
  | (with_reducible refine' La ?hx ?hy; (case hx => walk_at "lb"); (case hy => walk_at "lb"))
  | (with_reducible refine Lr 50 ?hx ?hy; (case hx => assumption); (case hy => omega)))
local macro_rules | `(tactic| walk_at "ln") => `(tactic| (refine' Nat.le_trans (m := ?mm) ?hu ?hv; (case hu => walk_at "lb"); (case hv => first | omega | (rw [sizeLine_eq]; omega))))
local macro_rules | `(tactic| walk_at "ls") => `(tactic| (refine' Nat.le_trans (Nat.add_le_add ?hu ?hv) ?hw; (case hu => walk_at "lb"); (case hv => walk_at "lb"); (case hw => (rw [sizeLine_eq]; omega))))
local macro_rules | `(tactic| walk_at "sl2") => `(tactic| (rw [sizeLine_eq]; simp only [e_dot, e_minus, e_plus, S_len, Str.length_append, List.length_append, List.length_cons, List.length_nil]; omega))
local macro_rules | `(tactic| walk_at "sq") => `(tactic| first
  | assumption
  | exact SqT.of upd_same
  | (refine same_tk (same_upd (by assumption)) _ _ ?_; walk_at "sq")
  | (refine same_tk (by assumption) _ _ ?_; walk_at "sq"))
local macro_rules | `(tactic| walk_at "own") => `(tactic| first
  | refine ⟨_, _, _, _, rfl, rfl, (by walk_at "sq"), rfl, ?_⟩
  | refine Or.inl ⟨_, _, _, rfl, rfl, ?_⟩
  | refine ⟨_, rfl, Or.inl ⟨_, rfl, fun (r : Addr) (H1 : Hp) (s1 : Same _ _) h1 => ?_⟩⟩
  | refine ⟨_, rfl, Or.inr ⟨_, rfl, fun (r : Addr) (H1 : Hp) (s1 : Same _ _) h1 => ?_⟩⟩
  | refine ⟨_, _, rfl, (by walk_at "sq"), (by assumption), fun (r : Addr) (H1 : Hp) (s1 : Same _ _) h1 => ?_⟩
  | refine ⟨_, _, rfl, (by walk_at "sq"), (by assumption), fun (H1 : Hp) (s1 : Same _ _) => ?_⟩
  | refine Or.inr (Or.inl ⟨_, _, _, _, rfl, (by walk_at "sq"), rfl, ?_⟩)
  | refine ⟨_, _, _, _, rfl, rfl, (by walk_at "sq"), (by with_reducible assumption), ?_⟩
  | refine ⟨_, _, rfl, Or.inr (by walk_at "sq"), ?_⟩
  | refine ⟨_, _, rfl, Or.inl (by assumption), ?_⟩
  | refine And.intro (by omega) (fun (z : Str) (H1 : Hp) (s1 : Same _ _) hl ha => ?_)
  | refine And.intro (by omega) (fun (r : Addr) (H1 : Hp) (s1 : Same _ _) h1 => ?_)
  | refine And.intro (by omega) (And.intro (by with_reducible assumption) (fun (r : Addr) (H1 : Hp) (s1 : Same _ _) h1 => ?_))
  | refine ⟨_, _, _, rfl, (by walk_at "sq"), (by walk_at "sq"), Sc.short _, Sc.flat _, ?_⟩
  | refine ⟨_, _, rfl, (by omega), (by with_reducible assumption), fun (r : Addr) (H1 : Hp) (s1 : Same _ _) h1 => ?_⟩
  | refine ⟨_, _, rfl, fun (p : Addr) (s : Sc) (H1 : Hp) (s1 : Same _ _) hp hs => ?_⟩
  | refine fun (z : Str) (H1 : Hp) (s1 : Same _ _) hl ha => ?_
  | refine fun (r : Addr) (H1 : Hp) (s1 : Same _ _) h1 => ?_
  | refine fun (H1 : Hp) (s1 : Same _ H1) => ?_
  | refine Or.inl ⟨_, rfl, fun (r : Addr) (H1 : Hp) (s1 : Same _ _) h1 => ?_⟩
  | refine Or.inr ⟨_, rfl, fun (r : Addr) (H1 : Hp) (s1 : Same _ _) h1 => ?_⟩
  | refine Or.inr ⟨_, rfl, ?_⟩
  | refine ⟨(show Flat3 _ from by first | assumption | exact Or.inl ⟨_, rfl⟩ | exact Or.inr (Or.inl ⟨_, rfl⟩) | exact Or.inr (Or.inr ⟨_, rfl⟩)), ?_⟩
  | refine ⟨⟨_, rfl⟩, ?_⟩
  | refine ⟨_, rfl, rfl, trivial, ?_⟩
  | refine ⟨_, _, rfl, rfl, (show (0 : Int) < _ from by first | decide | omega), fun d d0 d1 => ?_⟩
  | refine ⟨_, _, rfl, (show Str.length _ ≤ 200000 from by with_reducible assumption), ?_⟩
  | refine ⟨_, _, rfl, (show CB _ _ from ⟨by decide, by decide⟩), fun p hp => ?_⟩
  | refine ⟨_, _, rfl, .inl (.inl upd_same), rfl, ?_⟩
  | refine ⟨_, _, _, _, rfl, rfl, .inl (.inl upd_same), rfl, ?_⟩
  | refine And.intro (show Str.length _ ≤ sizeLine from by walk_at "len") ?_
  | refine And.intro (show Str.length _ + Str.length _ ≤ sizeLine from by walk_at "sl2") ?_
  | (refine And.intro ?hc ?_; case hc => (show Str.length _ + Str.length _ ≤ sizeLine; walk_at "ls"))
  | (refine And.intro ?hc ?_; case hc => (show Str.length _ ≤ sizeLine; walk_at "ln"))
  | refine ⟨_, _, rfl, (show 0 < (1000000 : Int) ∧ (1000000 : Int) < _ from ⟨by decide, by decide⟩), fun H1 s1 => ?_⟩
  | refine And.intro (show (_ ∧ _) ∧ Str.length _ ≤ 16 from ⟨⟨by omega, by omega⟩, by decide +kernel⟩) ?_
  | refine And.intro (show Nat.log2 _ < 1920 from log_small (by omega)) ?_
  | refine And.intro (show PadOk _ = true from rfl) ?_
  | refine And.intro (show (Str.length _ == 0) = false from by decide +kernel) ?_)

/-- a chain of heaps -/
local macro_rules | `(tactic| walk_at "same") => `(tactic| first
  | assumption
  | exact Same.refl _
  | exact same_upd (by assumption)
  | (refine Same.trans ?_ (same_upd (by assumption)); walk_at "same")
  | (refine Same.trans ?_ (by assumption); walk_at "same"))
/-- a step of a reading, by its shape -/
local macro_rules | `(tactic| walk_at "st") => `(tactic| first
  | walk_at "own"
  | refine ⟨_, rfl, fun n h0 h1 => ?_⟩
  | refine ⟨_, rfl, ?_⟩
  | refine ⟨_, _, rfl, rfl, (by first | exact Or.inl ⟨by decide, by decide⟩ | exact Or.inr ⟨by decide, by decide⟩ | exact Or.inl (by omega) | exact Or.inr (by omega)), fun d hd hu hn => ?_⟩
  | refine ⟨_, _, rfl, rfl, by first | exact Or.inl ⟨by decide, by decide⟩ | exact Or.inr ⟨by decide, by decide⟩ | exact Or.inl (by omega) | exact Or.inr (by omega), ?_⟩
  | refine ⟨_, _, rfl, rfl, by first | (show (0 : Int) < _; first | omega | decide | (split <;> omega)) | (show _ ≠ (0 : Int); omega), ?_⟩
  | refine ⟨_, _, rfl, rfl, ⟨by decide, by decide⟩, ?_⟩
  | refine ⟨_, _, rfl, rfl, (by show (_ ∧ _) ∧ (_ ∧ _); omega), ?_⟩
  | refine ⟨_, _, rfl, rfl, (by show _ ∧ _; first | omega | (split <;> omega)), fun d hd hu hn => ?_⟩
  | refine ⟨_, _, rfl, rfl, (by show (0 : Int) < _ ∧ _; first | omega | (split <;> omega)), ?_⟩
  | refine ⟨_, _, rfl, rfl, ?_⟩
  | refine ⟨_, _, _, rfl, rfl, ?_⟩
  | refine ⟨_, _, _, _, rfl, rfl, .inl (.inl (by assumption)), rfl, ?_⟩
  | refine Or.inl ⟨_, rfl, ?_⟩
  | refine ⟨_, _, rfl, fun n H1 s1 h0 h1 => ?_⟩
  | refine ⟨_, _, rfl, fun n h0 h1 => ?_⟩
  | refine ⟨_, _, rfl, ?_⟩
  | refine ⟨Nat.le_of_ble_eq_true rfl, fun p hp => ?_⟩
  | refine ⟨rfl, ?_⟩
  | refine ⟨lim_flat _, ?_⟩
  | refine ⟨⟨by assumption, by assumption⟩, ?_⟩
  | refine And.intro (by assumption) ?_
  | refine ⟨Or.inl ⟨_, rfl⟩, ?_⟩
  | refine And.intro (by omega) (fun H1 s1 => ?_)
  | refine And.intro (by omega) ?_
  | refine iteF ?_
  | refine iteT ?_
  | refine iteSS ?_
  | refine iteIS ?_
  | refine iteEqI (fun _ => ?_) (fun _ => ?_)
  | refine iteNeI (fun _ => ?_) (fun _ => ?_)
  | refine iteD (fun _ => ?_) (fun _ => ?_)
  | refine ite2 (fun _ => ?_) (fun _ => ?_))
local macro_rules | `(tactic| walk_at "run") => `(tactic| repeat' (walk_at "st"))
local macro_rules | `(tactic| walk_at "own0") => `(tactic| first
  | refine ⟨⟨_, rfl⟩, ?_⟩
  | refine ⟨_, rfl, rfl, trivial, ?_⟩
  | refine ⟨_, _, rfl, rfl, (show (0 : Int) < _ from by first | decide | omega), fun d d0 d1 => ?_⟩
  | refine ⟨_, _, rfl, (show Str.length _ ≤ 200000 from by with_reducible assumption), ?_⟩
  | refine ⟨_, _, rfl, (show CB _ _ from ⟨by decide, by decide⟩), fun p hp => ?_⟩
  | refine ⟨_, _, rfl, .inl (.inl upd_same), rfl, ?_⟩
  | refine ⟨_, _, _, _, rfl, rfl, .inl (.inl upd_same), rfl, ?_⟩
  | refine And.intro (show Str.length _ ≤ sizeLine from by walk_at "len") ?_
  | refine And.intro (show Str.length _ + Str.length _ ≤ sizeLine from by walk_at "sl2") ?_
  | refine ⟨_, _, rfl, (show 0 < (1000000 : Int) ∧ (1000000 : Int) < _ from ⟨by decide, by decide⟩), fun H1 s1 => ?_⟩
  | refine And.intro (show (_ ∧ _) ∧ Str.length _ ≤ 16 from ⟨⟨by omega, by omega⟩, by decide +kernel⟩) ?_
  | refine And.intro (show Nat.log2 _ < 1920 from log_small (by omega)) ?_
  | refine And.intro (show PadOk _ = true from rfl) ?_
  | refine And.intro (show (Str.length _ == 0) = false from by decide +kernel) ?_)
/-- a step of a reading, by its shape -/
local macro_rules | `(tactic| walk_at "st0") => `(tactic| first
  | walk_at "own0"
  | refine ⟨_, rfl, fun n h0 h1 => ?_⟩
  | refine ⟨_, rfl, ?_⟩
  | refine ⟨_, _, rfl, rfl, (by first | exact Or.inl ⟨by decide, by decide⟩ | exact Or.inr ⟨by decide, by decide⟩ | exact Or.inl (by omega) | exact Or.inr (by omega)), fun d hd hu hn => ?_⟩
  | refine ⟨_, _, rfl, rfl, by first | exact Or.inl ⟨by decide, by decide⟩ | exact Or.inr ⟨by decide, by decide⟩ | exact Or.inl (by omega) | exact Or.inr (by omega), ?_⟩
  | refine ⟨_, _, rfl, rfl, by first | (show (0 : Int) < _; first | omega | decide | (split <;> omega)) | (show _ ≠ (0 : Int); omega), ?_⟩
  | refine ⟨_, _, rfl, rfl, ⟨by decide, by decide⟩, ?_⟩
  | refine ⟨_, _, rfl, rfl, (by show (_ ∧ _) ∧ (_ ∧ _); omega), ?_⟩
  | refine ⟨_, _, rfl, rfl, (by show _ ∧ _; first | omega | (split <;> omega)), fun d hd hu hn => ?_⟩
  | refine ⟨_, _, rfl, rfl, (by show (0 : Int) < _ ∧ _; first | omega | (split <;> omega)), ?_⟩
  | refine ⟨_, _, rfl, rfl, ?_⟩
  | refine ⟨_, _, _, rfl, rfl, ?_⟩
  | refine ⟨_, _, _, _, rfl, rfl, .inl (.inl (by assumption)), rfl, ?_⟩
  | refine Or.inl ⟨_, rfl, ?_⟩
  | refine ⟨_, _, rfl, fun n H1 s1 h0 h1 => ?_⟩
  | refine ⟨_, _, rfl, fun n h0 h1 => ?_⟩
  | refine ⟨_, _, rfl, ?_⟩
  | refine ⟨Nat.le_of_ble_eq_true rfl, fun p hp => ?_⟩
  | refine ⟨rfl, ?_⟩
  | refine ⟨lim_flat _, ?_⟩
  | refine ⟨⟨by assumption, by assumption⟩, ?_⟩
  | refine And.intro (by assumption) ?_
  | refine ⟨Or.inl ⟨_, rfl⟩, ?_⟩
  | refine And.intro (by omega) (fun H1 s1 => ?_)
  | refine And.intro (by omega) ?_
  | refine iteF ?_
  | refine iteT ?_
  | refine iteSS ?_
  | refine iteIS ?_
  | refine iteEqI (fun _ => ?_) (fun _ => ?_)
  | refine iteNeI (fun _ => ?_) (fun _ => ?_)
  | refine iteD (fun _ => ?_) (fun _ => ?_)
  | refine ite2 (fun _ => ?_) (fun _ => ?_))
local macro_rules | `(tactic| walk_at "run0") => `(tactic| repeat' (walk_at "st0"))

/-! ### the promises -/
def sphalf_even (K : PySem.W.Frag) : Sp := fun vs H Q _ => ∃ a b : Int, vs = [.int a, .int b] ∧ (0 < b ∧ b < 1267650600228229401496703205376) ∧ ∀ H' : Hp, Same H H' → Q (.int (near a b)) H'
def spfitting (K : PySem.W.Frag) : Sp := fun vs H Q _ => ∃ m : Int, vs = [.int m] ∧ Q (lim m) H
def spfloored (K : PySem.W.Frag) : Sp := fun vs H Q _ => ∃ m : Int, vs = [.int m] ∧ Q (lim (m - m % 1000000)) H
def spshown_amount (K : PySem.W.Frag) : Sp := fun vs H Q _ => ∃ m : Int, vs = [.int m] ∧ (-1000000000000000000000 < m ∧ m < 1000000000000000000000) ∧ ∀ H' : Hp, Same H H' → Q (.str (S (showL m))) H'
def spread_amount (K : PySem.W.Frag) : Sp := fun vs H Q _ => ∃ z : Str, vs = [.str z] ∧ z.length ≤ 100000 ∧ ∀ H' : Hp, Same H H' → Q (readV z) H'
def spare_figures (K : PySem.W.Frag) : Sp := fun vs H Q _ => ∃ (z : Str) (most : Int), vs = [.str z, .int most] ∧ z.length ≤ 200000 ∧ Q (.bl (figs (tl z) most)) H
def spcapital (K : PySem.W.Frag) : Sp := fun vs H Q _ => ∃ z : Str, vs = [.str z] ∧ (z.length ≤ 2000 ∧ Asc z) ∧ ∀ H' : Hp, Same H H' → Q (.str (Txt.upper z)) H'
def sptext_of (K : PySem.W.Frag) : Sp := fun vs H Q _ => ∃ (z : Str) (s : Sc), vs = [.str z] ∧ z.length ≤ 2000 ∧ textO z = s ∧ ∀ (r : Addr) (H' : Hp), Same H H' → SqT K H' r s.vs → Q (.ref r) H'
def spnumber_of (K : PySem.W.Frag) : Sp := fun vs H Q _ => ∃ x : V, vs = [x] ∧ ((∃ m, x = .int m ∧ ∀ (r : Addr) (H' : Hp), Same H H' → SqT K H' r (Sc.num m).vs → Q (.ref r) H') ∨ ∃ z, x = .str z ∧ ∀ (r : Addr) (H' : Hp), Same H H' → SqT K H' r (Sc.err z).vs → Q (.ref r) H')
def spas_number (K : PySem.W.Frag) : Sp := fun vs H Q _ => ∃ (p : Addr) (s : Sc), vs = [.ref p] ∧ SqT K H p s.vs ∧ s.ok ∧ ∀ (r : Addr) (H' : Hp), Same H H' → SqT K H' r s.num'.vs → Q (.ref r) H'
def spas_text (K : PySem.W.Frag) : Sp := fun vs H Q _ => ∃ (p : Addr) (s : Sc), vs = [.ref p] ∧ SqT K H p s.vs ∧ s.ok ∧ ∀ (r : Addr) (H' : Hp), Same H H' → SqT K H' r s.text.vs → Q (.ref r) H'
def spas_truth (K : PySem.W.Frag) : Sp := fun vs H Q _ => ∃ (p : Addr) (s : Sc), vs = [.ref p] ∧ SqT K H p s.vs ∧ s.ok ∧ ∀ (r : Addr) (H' : Hp), Same H H' → SqT K H' r s.truth.vs → Q (.ref r) H'
def spas_whole (K : PySem.W.Frag) : Sp := fun vs H Q _ => ∃ (p : Addr) (s : Sc), vs = [.ref p] ∧ SqT K H p s.vs ∧ s.ok ∧ ∀ (r : Addr) (H' : Hp), Same H H' → SqT K H' r s.num'.wh.vs → Q (.ref r) H'
def spshown (K : PySem.W.Frag) : Sp := fun vs H Q _ => ∃ (p : Addr) (s : Sc), vs = [.ref p] ∧ SqT K H p s.vs ∧ s.ok ∧ ∀ H' : Hp, Same H H' → Q (.str s.shown) H'
def sp_law_cell (K : PySem.W.Frag) : Sp := fun vs H Q _ => ∃ (a : Addr) (ns : List Int) (j : Nat), vs = [.ref a, .int j] ∧ SqL K H a (ns.map V.int) ∧ Q (.int (ns.getD j 0)) H
def sp_law_mix (K : PySem.W.Frag) : Sp := fun vs H Q _ => ∃ (c s : Int), vs = [.int c, .int s] ∧ ∀ n : Int, 0 ≤ n → n < 2147483629 → Q (.int n) H
def sp_law_amount (K : PySem.W.Frag) : Sp := fun vs H Q _ => ∃ c s : Int, vs = [.int c, .int s] ∧ ∀ (n : Int) (H' : Hp), Same H H' → -1000000000000000000000 < n → n < 1000000000000000000000 → Q (.int n) H'
def sp_law_nearest (K : PySem.W.Frag) : Sp := fun vs H Q _ => ∃ a b : Int, vs = [.int a, .int b] ∧ (0 < b ∧ b < 1267650600228229401496703205376) ∧ (-1000000000000000000000000000000000000000000000000000000000000 < a ∧ a < 1000000000000000000000000000000000000000000000000000000000000) ∧ Q (.int (near a b)) H
def sp_law_written (K : PySem.W.Frag) : Sp := fun vs H Q _ => ∃ m : Int, vs = [.int m] ∧ (-1000000000000000000000 < m ∧ m < 1000000000000000000000) ∧ Q (.str (S (showL m))) H
def sp_law_figures (K : PySem.W.Frag) : Sp := fun vs H Q _ => ∃ (z : Str) (most : Int), vs = [.str z, .int most] ∧ z.length ≤ 200000 ∧ Q (.bl (figs (tl z) most)) H
def sp_law_read (K : PySem.W.Frag) : Sp := fun vs H Q _ => ∃ z : Str, vs = [.str z] ∧ z.length ≤ 100000 ∧ ∀ H' : Hp, Same H H' → Q (readV z) H'
def sp_law_words (K : PySem.W.Frag) : Sp := fun vs H Q _ => vs = [] ∧ ∀ (r : Addr) (H' : Hp), Same H H' → SqT K H' r WDS → Q (.ref r) H'
def sp_law_signs (K : PySem.W.Frag) : Sp := fun vs H Q _ => ∃ c m : Int, vs = [.int c, .int m] ∧ (0 ≤ m ∧ m ≤ 200) ∧ ∀ (z : Str) (H' : Hp), Same H H' → (z.length : Int) ≤ m → Asc z → Q (.str z) H'
def sp_law_cased (K : PySem.W.Frag) : Sp := fun vs H Q _ => ∃ (w : Str) (c s : Int), vs = [.str w, .int c, .int s] ∧ (w.length ≤ 20 ∧ Asc w) ∧ ∀ (z : Str) (H' : Hp), Same H H' → z.length ≤ 100 → Asc z → Q (.str z) H'
def sp_law_figured (K : PySem.W.Frag) : Sp := fun vs H Q _ => ∃ c s : Int, vs = [.int c, .int s] ∧ ∀ (z : Str) (H' : Hp), Same H H' → z.length ≤ 100 → Asc z → Q (.str z) H'
def sp_law_text (K : PySem.W.Frag) : Sp := fun vs H Q _ => ∃ c s : Int, vs = [.int c, .int s] ∧ ∀ (z : Str) (H' : Hp), Same H H' → z.length ≤ 200 → Asc z → Q (.str z) H'
def sp_law_scalar (K : PySem.W.Frag) : Sp := fun vs H Q _ => ∃ c t : Int, vs = [.int c, .int t] ∧ ∀ (p : Addr) (s : Sc) (H' : Hp), Same H H' → SqT K H' p s.vs → s.ok → Q (.ref p) H'
def sp_law_number (K : PySem.W.Frag) : Sp := fun vs H Q _ => ∃ (p : Addr) (s : Sc), vs = [.ref p] ∧ SqT K H p s.vs ∧ s.ok ∧ ∀ (r : Addr) (H' : Hp), Same H H' → SqT K H' r s.num'.vs → Q (.ref r) H'
def sp_law_truth (K : PySem.W.Frag) : Sp := fun vs H Q _ => ∃ (p : Addr) (s : Sc), vs = [.ref p] ∧ SqT K H p s.vs ∧ s.ok ∧ ∀ (r : Addr) (H' : Hp), Same H H' → SqT K H' r s.truth.vs → Q (.ref r) H'
def sp_law_whole (K : PySem.W.Frag) : Sp := fun vs H Q _ => ∃ (p : Addr) (s : Sc), vs = [.ref p] ∧ SqT K H p s.vs ∧ s.ok ∧ ∀ (r : Addr) (H' : Hp), Same H H' → SqT K H' r s.num'.wh.vs → Q (.ref r) H'
def sp_law_shown (K : PySem.W.Frag) : Sp := fun vs H Q _ => ∃ (p : Addr) (s : Sc), vs = [.ref p] ∧ SqT K H p s.vs ∧ s.ok ∧ ∀ H' : Hp, Same H H' → Q (.str s.shown) H'
def sp_law_texted (K : PySem.W.Frag) : Sp := fun vs H Q _ => ∃ (p : Addr) (s : Sc), vs = [.ref p] ∧ SqT K H p s.vs ∧ s.ok ∧ ∀ (r : Addr) (H' : Hp), Same H H' → SqT K H' r s.text.vs → Q (.ref r) H'
def sp_law_same (K : PySem.W.Frag) : Sp := fun vs H Q _ => ∃ x : V, vs = [x, x] ∧ Flat3 x ∧ Q (.bl true) H
def sp_law_alike (K : PySem.W.Frag) : Sp := fun vs H Q _ => ∃ (p1 p2 : Addr) (xs : List V), vs = [.ref p1, .ref p2] ∧ SqT K H p1 xs ∧ SqT K H p2 xs ∧ xs.length ≤ 20 ∧ (∀ y ∈ xs, Flat3 y) ∧ Q (.bl true) H
def sp_law_converted (K : PySem.W.Frag) : Sp := fun vs H Q _ => ∃ (p : Addr) (s : Sc), vs = [.ref p] ∧ SqT K H p s.vs ∧ s.ok ∧ ∀ H', Same H H' → Q (.bl true) H'
def sp_law_long (K : PySem.W.Frag) : Sp := fun vs H Q _ => ∃ c : Int, vs = [.int c] ∧ ∀ (z : Str) (H' : Hp), Same H H' → z.length ≤ 200 → Asc z → Q (.str z) H'
def sp_law_made (K : PySem.W.Frag) : Sp := fun vs H Q _ => ∃ (z : Str) (m : Int), vs = [.str z, .int m] ∧ (z.length ≤ 200 ∧ Asc z) ∧ ∀ H', Same H H' → Q (.bl true) H'
def splaw (K : PySem.W.Frag) : Sp := fun vs H Q _ => ∃ (a : Addr) (ns : List Int), vs = [.ref a] ∧ SqL K H a (ns.map V.int) ∧ ns.length ≤ 63 ∧ ∀ H', Q (.bl true) H'
section
variable {P : Program} {w : World} {K : PySem.W.Frag} {mg : Str → Option Value} {base : Heap}
def gkas_number_v {α : Type} : List α → List α := fun zs => match zs with | [z0] => [z0] | _ => zs
theorem kras_number_v : ∀ {zs : List V} {ws : List Value}, Vals zs ws → Vals (gkas_number_v zs) (gkas_number_v ws) := fun {zs ws} r => by
  rcases r with _ | ⟨r0, r⟩
  · exact .nil
  rcases r with _ | ⟨r1, r⟩
  · exact (.cons r0 .nil)
  exact (.cons r0 (.cons r1 r))
theorem kbas_number_v (T : Txt K mg) : KB0 K T.das_number Pas_number ["v"] gkas_number_v gkas_number_v := by
  obtain ⟨oc, od, kV, doc, pm, an, cdv, ct, osl, e, lk, hcd⟩ := T.Fas_number.ex
  refine ⟨fun s ws hl => ?_, kras_number_v⟩
  rw [e]
  match ws, hl with
  | [z0], _ => exact .of_eq rfl
def gkas_text_v {α : Type} : List α → List α := fun zs => match zs with | [z0] => [z0] | _ => zs
theorem kras_text_v : ∀ {zs : List V} {ws : List Value}, Vals zs ws → Vals (gkas_text_v zs) (gkas_text_v ws) := fun {zs ws} r => by
  rcases r with _ | ⟨r0, r⟩
  · exact .nil
  rcases r with _ | ⟨r1, r⟩
  · exact (.cons r0 .nil)
  exact (.cons r0 (.cons r1 r))
theorem kbas_text_v (T : Txt K mg) : KB0 K T.das_text Pas_text ["v"] gkas_text_v gkas_text_v := by
  obtain ⟨oc, od, kV, doc, pm, an, cdv, ct, osl, e, lk, hcd⟩ := T.Fas_text.ex
  refine ⟨fun s ws hl => ?_, kras_text_v⟩
  rw [e]
  match ws, hl with
  | [z0], _ => exact .of_eq rfl
def gkas_truth_v {α : Type} : List α → List α := fun zs => match zs with | [z0] => [z0] | _ => zs
theorem kras_truth_v : ∀ {zs : List V} {ws : List Value}, Vals zs ws → Vals (gkas_truth_v zs) (gkas_truth_v ws) := fun {zs ws} r => by
  rcases r with _ | ⟨r0, r⟩
  · exact .nil
  rcases r with _ | ⟨r1, r⟩
  · exact (.cons r0 .nil)
  exact (.cons r0 (.cons r1 r))
theorem kbas_truth_v (T : Txt K mg) : KB0 K T.das_truth Pas_truth ["v"] gkas_truth_v gkas_truth_v := by
  obtain ⟨oc, od, kV, doc, pm, an, cdv, ct, osl, e, lk, hcd⟩ := T.Fas_truth.ex
  refine ⟨fun s ws hl => ?_, kras_truth_v⟩
  rw [e]
  match ws, hl with
  | [z0], _ => exact .of_eq rfl
def gkas_whole_v {α : Type} : List α → List α := fun zs => match zs with | [z0] => [z0] | _ => zs
theorem kras_whole_v : ∀ {zs : List V} {ws : List Value}, Vals zs ws → Vals (gkas_whole_v zs) (gkas_whole_v ws) := fun {zs ws} r => by
  rcases r with _ | ⟨r0, r⟩
  · exact .nil
  rcases r with _ | ⟨r1, r⟩
  · exact (.cons r0 .nil)
  exact (.cons r0 (.cons r1 r))
theorem kbas_whole_v (T : Txt K mg) : KB0 K T.das_whole Pas_whole ["v"] gkas_whole_v gkas_whole_v := by
  obtain ⟨oc, od, kV, doc, pm, an, cdv, ct, osl, e, lk, hcd⟩ := T.Fas_whole.ex
  refine ⟨fun s ws hl => ?_, kras_whole_v⟩
  rw [e]
  match ws, hl with
  | [z0], _ => exact .of_eq rfl
def gkshown_v {α : Type} : List α → List α := fun zs => match zs with | [z0] => [z0] | _ => zs
theorem krshown_v : ∀ {zs : List V} {ws : List Value}, Vals zs ws → Vals (gkshown_v zs) (gkshown_v ws) := fun {zs ws} r => by
  rcases r with _ | ⟨r0, r⟩
  · exact .nil
  rcases r with _ | ⟨r1, r⟩
  · exact (.cons r0 .nil)
  exact (.cons r0 (.cons r1 r))
theorem kbshown_v (T : Txt K mg) : KB0 K T.dshown Pshown ["v"] gkshown_v gkshown_v := by
  obtain ⟨oc, od, kV, doc, pm, an, cdv, ct, osl, e, lk, hcd⟩ := T.Fshown.ex
  refine ⟨fun s ws hl => ?_, krshown_v⟩
  rw [e]
  match ws, hl with
  | [z0], _ => exact .of_eq rfl
def gktext_of_s {α : Type} : List α → List α := fun zs => match zs with | [z0] => [z0] | _ => zs
theorem krtext_of_s : ∀ {zs : List V} {ws : List Value}, Vals zs ws → Vals (gktext_of_s zs) (gktext_of_s ws) := fun {zs ws} r => by
  rcases r with _ | ⟨r0, r⟩
  · exact .nil
  rcases r with _ | ⟨r1, r⟩
  · exact (.cons r0 .nil)
  exact (.cons r0 (.cons r1 r))
theorem kbtext_of_s (T : Txt K mg) : KB0 K T.dtext_of Ptext_of ["s"] gktext_of_s gktext_of_s := by
  obtain ⟨oc, od, kV, doc, pm, an, cdv, ct, osl, e, lk, hcd⟩ := T.Ftext_of.ex
  refine ⟨fun s ws hl => ?_, krtext_of_s⟩
  rw [e]
  match ws, hl with
  | [z0], _ => exact .of_eq rfl
def gknumber_of_m {α : Type} : List α → List α := fun zs => match zs with | [z0] => [z0] | _ => zs
theorem krnumber_of_m : ∀ {zs : List V} {ws : List Value}, Vals zs ws → Vals (gknumber_of_m zs) (gknumber_of_m ws) := fun {zs ws} r => by
  rcases r with _ | ⟨r0, r⟩
  · exact .nil
  rcases r with _ | ⟨r1, r⟩
  · exact (.cons r0 .nil)
  exact (.cons r0 (.cons r1 r))
theorem kbnumber_of_m (T : Txt K mg) : KB0 K T.dnumber_of Pnumber_of ["m"] gknumber_of_m gknumber_of_m := by
  obtain ⟨oc, od, kV, doc, pm, an, cdv, ct, osl, e, lk, hcd⟩ := T.Fnumber_of.ex
  refine ⟨fun s ws hl => ?_, krnumber_of_m⟩
  rw [e]
  match ws, hl with
  | [z0], _ => exact .of_eq rfl
theorem okhalf_even (T : Txt K mg) : FnOk P w K mg base CX0 1 T.ahalf_even T.dhalf_even Phalf_even (sphalf_even K) := by
  refine T.Fhalf_even.ok schalf_even (fun vs H Q E h => ?_) (fun cdv A outer s H vs Q E hr h => ?_)
  · obtain ⟨a, b, rfl, _⟩ := h
    rfl
  · obtain ⟨a, b, rfl, hb, q⟩ := h
    refine ⟨_, (pss_cons (ps_asg (pe_callB call_divmodB (by rfl) T.z_divmod (by decide +kernel) (pa_cons (pv 0) (pa_cons (pv 1) pa_nil))) (pg_tup (by rfl) (pgs_cons (pg_name (i := 2) schalf_even.nd rfl (by first | exact Or.inl rfl | exact Or.inr rfl)) (pgs_cons (pg_name (i := 3) schalf_even.nd rfl (by first | exact Or.inl rfl | exact Or.inr rfl)) pgs_nil))))
    (pss_cons (ps_if (pt_cmpR op_gt (pe_op op_mul pe_int (pv 3)) (pv 1) (by first | exact nomark _ | rfl))
      (pss_one (ps_ret (pe_op op_add (pv 2) pe_int)))
      pss_nil)
    (pss_cons (ps_if (pt_cmpR op_eq (pe_op op_mul pe_int (pv 3)) (pv 1) (by first | exact nomark _ | rfl))
      (pss_one (ps_ret (pe_op op_add (pv 2) (pe_op op_mod (pv 2) pe_int))))
      pss_nil)
    (pss_one (ps_ret (pv 2)))))), ?_⟩
    refine ⟨_, rfl, _, rfl, _, _, rfl, hb, fun p hp => ?_⟩
    refine ⟨p, _, rfl, .inl (.inl upd_same), rfl, _, _, rfl, _, _, rfl, rfl, ?_⟩
    walk_at "run"
    all_goals refine (congrArg (fun z => Q (V.int z) _) ?_).mp (q _ (same_upd hp))
    all_goals (unfold near; (repeat' split) <;> omega)

theorem okfitting (T : Txt K mg) : FnOk P w K mg base CX0 1 T.afitting T.dfitting Pfitting (spfitting K) := by
  refine T.Ffitting.ok scfitting (fun vs H Q E h => ?_) (fun cdv A outer s H vs Q E hr h => ?_)
  · obtain ⟨m, rfl, _⟩ := h
    rfl
  · obtain ⟨m, rfl, q⟩ := h
    refine ⟨_, (pss_cons (ps_if (pt_chain op_le op_le (pe_un un_neg (pe_glob (v := .int 999999999999999999999) (by rfl) T.m_GREATEST ⟨_, rfl⟩)) (pv 0) (pe_glob (v := .int 999999999999999999999) (by rfl) T.m_GREATEST ⟨_, rfl⟩))
      (pss_one (ps_ret (pv 0)))
      pss_nil)
    (pss_one (ps_ret pe_str))), ?_⟩
    walk_at "run"
    all_goals (try simp only [decide_eq_true_eq] at *)
    all_goals first
      | (rw [lim_in (by constructor <;> omega)] at q; exact q)
      | (rw [lim_out (by omega)] at q; exact q)

theorem okfloored (T : Txt K mg) : FnOk P w K mg base CX0 2 T.afloored T.dfloored Pfloored (spfloored K) := by
  refine T.Ffloored.ok scfloored (fun vs H Q E h => ?_) (fun cdv A outer s H vs Q E hr h => ?_)
  · obtain ⟨m, rfl, _⟩ := h
    rfl
  · obtain ⟨m, rfl, q⟩ := h
    refine ⟨_, (pss_one (ps_ret (pe_call (okfitting T) (hr.mono (by decide)) (by rfl) T.gfitting T.Ffitting.kp (T.bfitting) .nil pass0 (pa_cons (pe_op op_sub (pv 0) (pe_op op_mod (pv 0) (pe_glob (v := .int 1000000) (by rfl) T.m_SCALE ⟨_, rfl⟩))) pa_nil)))), ?_⟩
    walk_at "run"
    exact q

theorem okshown_amount (T : Txt K mg) : FnOk P w K mg base CX0 1 T.ashown_amount T.dshown_amount Pshown_amount (spshown_amount K) := by
  refine T.Fshown_amount.ok scshown_amount (fun vs H Q E h => ?_) (fun cdv A outer s H vs Q E hr h => ?_)
  · obtain ⟨m, rfl, _⟩ := h
    rfl
  · obtain ⟨m, rfl, hm, q⟩ := h
    refine ⟨_, (pss_cons (ps_set (i := 1) scshown_amount.nd rfl (by first | exact Or.inl rfl | exact Or.inr rfl) (pe_ifExp (pt_cmpR op_lt (pv 0) pe_int (by first | exact nomark _ | rfl)) pe_str pe_str))
    (pss_cons (ps_asg (pe_callB call_divmodB (by rfl) T.z_divmod (by decide +kernel) (pa_cons (pe_callB call_abs (by rfl) T.z_abs (by decide +kernel) (pa_cons (pv 0) pa_nil)) (pa_cons (pe_glob (v := .int 1000000) (by rfl) T.m_SCALE ⟨_, rfl⟩) pa_nil))) (pg_tup (by rfl) (pgs_cons (pg_name (i := 2) scshown_amount.nd rfl (by first | exact Or.inl rfl | exact Or.inr rfl)) (pgs_cons (pg_name (i := 3) scshown_amount.nd rfl (by first | exact Or.inl rfl | exact Or.inr rfl)) pgs_nil))))
    (pss_cons (ps_if (pt_cmpR op_eq (pv 3) pe_int (by first | exact nomark _ | rfl))
      (pss_one (ps_ret (pe_joined (.cons (pe_fmt (pv 1)) (.cons (pe_fmt (pv 2)) .nil)))))
      pss_nil)
    (pss_cons (ps_set (i := 4) scshown_amount.nd rfl (by first | exact Or.inl rfl | exact Or.inr rfl) (pe_bm PySem.F.plainAttrs_str PySem.F.slot_str_rstrip PySem.F.type_str_rstrip mt_rstripChars (pe_bm PySem.F.plainAttrs_str PySem.F.slot_str_zfill PySem.F.type_str_zfill mt_zfill (pe_callTy call_str_int (by rfl) T.z_str (by decide +kernel) (pa_cons (pv 3) pa_nil)) (pa_cons pe_int pa_nil)) (pa_cons pe_str pa_nil)))
    (pss_one (ps_ret (pe_joined (.cons (pe_fmt (pv 1)) (.cons (pe_fmt (pv 2)) (.cons pe_str (.cons (pe_fmt (pv 4)) .nil))))))))))), ?_⟩
    have hw : (if m < 0 then -m else m) / 1000000 = ((m.natAbs / 1000000 : Nat) : Int) := by split <;> omega
    have hr : (if m < 0 then -m else m) % 1000000 = ((m.natAbs % 1000000 : Nat) : Int) := by split <;> omega
    have r6 : m.natAbs % 1000000 < 1000000 := by omega
    have n1 : (numL (m.natAbs / 1000000)).length ≤ 24 := numL_short (by omega)
    have n2 := zt_len (pad6 (m.natAbs % 1000000))
    have n3 : (pad6 (m.natAbs % 1000000)).length = 6 := rfl
    walk_at "run0"
    · rename_i c p hp k
      rw [hr] at k
      have h0 : m.natAbs % 1000000 = 0 := by omega
      rw [hw, e_minus, str_empty]
      refine And.intro (by walk_at "sl3") ?_
      refine ⟨_, rfl, by walk_at "sl3", ?_⟩
      refine ⟨_, rfl, ?_⟩
      refine Or.inr ?_
      refine ⟨_, rfl, log_small (by omega), ?_⟩
      rw [str_nat (w := m.natAbs / 1000000) rfl]
      refine ⟨_, rfl, by walk_at "sl3", ?_⟩
      rw [show_S, if_pos c, if_pos h0] at q
      refine (congrArg (fun z => Q (V.str z) _) ?_).mp (q _ (same_upd hp))
      simp only [e_minus, e_dot, str_empty, S_cat, List.append_assoc, List.nil_append, List.append_nil]
    · rename_i c p hp k
      rw [hr] at k
      have h0 : ¬ m.natAbs % 1000000 = 0 := by omega
      rw [hr, hw, e_minus, str_empty, str_nat (w := m.natAbs % 1000000) rfl, zfill_six r6, e_zero, rstrip_S, e_dot]
      refine And.intro (by walk_at "sl3") ?_
      walk_at "run0"
      refine And.intro (by walk_at "sl3") ?_
      refine ⟨_, rfl, by walk_at "sl3", ?_⟩
      refine ⟨_, rfl, ?_⟩
      refine Or.inr ?_
      refine ⟨_, rfl, log_small (by omega), ?_⟩
      rw [str_nat (w := m.natAbs / 1000000) rfl]
      refine ⟨_, rfl, by walk_at "sl3", ?_⟩
      refine ⟨_, rfl, by walk_at "sl3", ?_⟩
      refine ⟨_, rfl, ?_⟩
      refine Or.inl ?_
      refine ⟨_, rfl, by walk_at "sl3", ?_⟩
      refine ⟨_, rfl, by walk_at "sl3", ?_⟩
      rw [show_S, if_pos c, if_neg h0] at q
      refine (congrArg (fun z => Q (V.str z) _) ?_).mp (q _ (same_upd hp))
      simp only [e_minus, e_dot, str_empty, S_cat, List.append_assoc, List.nil_append, List.append_nil]
    · rename_i c p hp k
      rw [hr] at k
      have h0 : m.natAbs % 1000000 = 0 := by omega
      rw [hw, e_none, str_empty]
      refine And.intro (by walk_at "sl3") ?_
      refine ⟨_, rfl, by walk_at "sl3", ?_⟩
      refine ⟨_, rfl, ?_⟩
      refine Or.inr ?_
      refine ⟨_, rfl, log_small (by omega), ?_⟩
      rw [str_nat (w := m.natAbs / 1000000) rfl]
      refine ⟨_, rfl, by walk_at "sl3", ?_⟩
      rw [show_S, if_neg c, if_pos h0] at q
      refine (congrArg (fun z => Q (V.str z) _) ?_).mp (q _ (same_upd hp))
      simp only [e_minus, e_dot, str_empty, S_cat, List.append_assoc, List.nil_append, List.append_nil]
    · rename_i c p hp k
      rw [hr] at k
      have h0 : ¬ m.natAbs % 1000000 = 0 := by omega
      rw [hr, hw, e_none, str_empty, str_nat (w := m.natAbs % 1000000) rfl, zfill_six r6, e_zero, rstrip_S, e_dot]
      refine And.intro (by walk_at "sl3") ?_
      walk_at "run0"
      refine And.intro (by walk_at "sl3") ?_
      refine ⟨_, rfl, by walk_at "sl3", ?_⟩
      refine ⟨_, rfl, ?_⟩
      refine Or.inr ?_
      refine ⟨_, rfl, log_small (by omega), ?_⟩
      rw [str_nat (w := m.natAbs / 1000000) rfl]
      refine ⟨_, rfl, by walk_at "sl3", ?_⟩
      refine ⟨_, rfl, by walk_at "sl3", ?_⟩
      refine ⟨_, rfl, ?_⟩
      refine Or.inl ?_
      refine ⟨_, rfl, by walk_at "sl3", ?_⟩
      refine ⟨_, rfl, by walk_at "sl3", ?_⟩
      rw [show_S, if_neg c, if_neg h0] at q
      refine (congrArg (fun z => Q (V.str z) _) ?_).mp (q _ (same_upd hp))
      simp only [e_minus, e_dot, str_empty, S_cat, List.append_assoc, List.nil_append, List.append_nil]

theorem okare_figures (T : Txt K mg) : FnOk P w K mg base CX0 1 T.aare_figures T.dare_figures Pare_figures (spare_figures K) := by
  refine T.Fare_figures.ok scare_figures (fun vs H Q E h => ?_) (fun cdv A outer s H vs Q E hr h => ?_)
  · obtain ⟨z, most, rfl, _⟩ := h
    rfl
  · obtain ⟨z, most, rfl, hz, q⟩ := h
    refine ⟨_, (pss_one (ps_ret (pe_and (pe_bm0 PySem.F.plainAttrs_str PySem.F.slot_str_isascii PySem.F.type_str_isascii mt_isascii (pv 0)) (pe_and (pe_bm0 PySem.F.plainAttrs_str PySem.F.slot_str_isdigit PySem.F.type_str_isdigit mt_isdigit (pv 0)) (pe_one (pe_cmpR op_le (pe_callB call_len_str (by rfl) T.z_len (by decide +kernel) (pa_cons (pv 0) pa_nil)) (pv 1) (by first | exact nomark _ | rfl))))))), ?_⟩
    rw [← figs_code] at q
    walk_at "run"
    · rename_i a b
      rw [a, b] at q
      exact q
    · rename_i a b
      rw [a, Bool.eq_false_iff.mpr b] at q
      exact q
    · rename_i a
      rw [Bool.eq_false_iff.mpr a] at q
      exact q

theorem okread_amount (T : Txt K mg) : FnOk P w K mg base CX0 2 T.aread_amount T.dread_amount Pread_amount (spread_amount K) := by
  refine T.Fread_amount.ok scread_amount (fun vs H Q E h => ?_) (fun cdv A outer s H vs Q E hr h => ?_)
  · obtain ⟨z, rfl, _⟩ := h
    rfl
  · obtain ⟨z, rfl, hz, q⟩ := h
    refine ⟨_, (pss_cons (ps_set (i := 1) scread_amount.nd rfl (by first | exact Or.inl rfl | exact Or.inr rfl) (pe_bm PySem.F.plainAttrs_str PySem.F.slot_str_strip PySem.F.type_str_strip mt_stripChars (pv 0) (pa_cons pe_str pa_nil)))
    (pss_cons (ps_set (i := 2) scread_amount.nd rfl (by first | exact Or.inl rfl | exact Or.inr rfl) (pe_bm PySem.F.plainAttrs_str PySem.F.slot_str_startswith PySem.F.type_str_startswith mt_startswith (pv 1) (pa_cons pe_str pa_nil)))
    (pss_cons (ps_if (PW.pt (pw_or (pt_val (pv 2)) (pw_or1 (pt_val (pe_bm PySem.F.plainAttrs_str PySem.F.slot_str_startswith PySem.F.type_str_startswith mt_startswith (pv 1) (pa_cons pe_str pa_nil))))))
      (pss_one (ps_set (i := 1) scread_amount.nd rfl (by first | exact Or.inl rfl | exact Or.inr rfl) (pe_slice sl_str (pv 1) (po_some pe_int) po_none)))
      pss_nil)
    (pss_cons (ps_asg (pe_bm PySem.F.plainAttrs_str PySem.F.slot_str_partition PySem.F.type_str_partition mt_partition (pv 1) (pa_cons pe_str pa_nil)) (pg_tup (by rfl) (pgs_cons (pg_name (i := 3) scread_amount.nd rfl (by first | exact Or.inl rfl | exact Or.inr rfl)) (pgs_cons (pg_name (i := 4) scread_amount.nd rfl (by first | exact Or.inl rfl | exact Or.inr rfl)) (pgs_cons (pg_name (i := 5) scread_amount.nd rfl (by first | exact Or.inl rfl | exact Or.inr rfl)) pgs_nil)))))
    (pss_cons (ps_if (pt_not (pt_val (pe_call (okare_figures T) (hr.mono (by decide)) (by rfl) T.gare_figures T.Fare_figures.kp (T.bare_figures) .nil pass0 (pa_cons (pv 3) (pa_cons (pe_glob (v := .int 15) (by rfl) T.m_FIGURES_AHEAD ⟨_, rfl⟩) pa_nil)))))
      (pss_one (ps_ret pe_non))
      pss_nil)
    (pss_cons (ps_if (PW.pt (pw_and (pt_cmpR op_ne (pv 4) pe_str (by first | exact nomark _ | rfl)) (pw_and1 (pt_not (pt_val (pe_call (okare_figures T) (hr.mono (by decide)) (by rfl) T.gare_figures T.Fare_figures.kp (T.bare_figures) .nil pass0 (pa_cons (pv 5) (pa_cons (pe_glob (v := .int 12) (by rfl) T.m_FIGURES_BEHIND ⟨_, rfl⟩) pa_nil))))))))
      (pss_one (ps_ret pe_non))
      pss_nil)
    (pss_cons (ps_set (i := 6) scread_amount.nd rfl (by first | exact Or.inl rfl | exact Or.inr rfl) (pe_callTy call_int_str (by rfl) T.z_int (by decide +kernel) (pa_cons (pe_op op_add_str (pv 3) (pe_bm PySem.F.plainAttrs_str PySem.F.slot_str_ljust PySem.F.type_str_ljust mt_ljustF (pv 5) (pa_cons (pe_glob (v := .int 12) (by rfl) T.m_FIGURES_BEHIND ⟨_, rfl⟩) (pa_cons pe_str pa_nil)))) pa_nil)))
    (pss_cons (ps_set (i := 7) scread_amount.nd rfl (by first | exact Or.inl rfl | exact Or.inr rfl) (pe_call (okhalf_even T) (hr.mono (by decide)) (by rfl) T.ghalf_even T.Fhalf_even.kp (T.bhalf_even) .nil pass0 (pa_cons (pv 6) (pa_cons (pe_powc (c := 1000000) (by decide) (by decide +kernel)) pa_nil))))
    (pss_cons (ps_if (pt_cmpR op_eq (pe_call (okfitting T) (hr.mono (by decide)) (by rfl) T.gfitting T.Ffitting.kp (T.bfitting) .nil pass0 (pa_cons (pv 7) pa_nil)) pe_str (by first | exact nomark _ | rfl))
      (pss_one (ps_ret pe_non))
      pss_nil)
    (pss_one (ps_ret (pe_ifExp (pt_val (pv 2)) (pe_un un_neg (pv 7)) (pv 7))))))))))))), ?_⟩
    refine' merge2 (C := fun U b => U.length ≤ 100000 ∧ ∀ H' : Hp, Same H H' → Q (readP b (Txt.partition U (S [46]))) H') _ ?tail ?rest
    case rest =>
      intro tail
      walk_at "run"
      · rename_i h
        rw [e_blank, e_minus] at h
        rw [readV_1 h] at q
        rw [e_blank, e_minus, h, e_dot]
        have hU : (cutS (Txt.stripChars z (S [32])) (some 1) none).length ≤ 100000 := hl4 (hl3 hz)
        generalize cutS (Txt.stripChars z (S [32])) (some 1) none = U at q hU ⊢
        generalize hv : V.bl true = vb
        exact tail U vb true hv.symm ⟨hU, q⟩
      · rename_i h h2
        rw [e_blank, e_minus] at h
        rw [e_blank, e_plus] at h2
        rw [readV_2 h h2] at q
        rw [e_blank, e_minus, Bool.eq_false_iff.mpr h, e_dot]
        exact tail _ _ false rfl ⟨hl4 (hl3 hz), q⟩
      · rename_i h h2
        rw [e_blank, e_minus] at h
        rw [e_blank, e_plus] at h2
        rw [readV_3 h h2] at q
        rw [e_blank, e_minus, Bool.eq_false_iff.mpr h, e_dot]
        exact tail _ _ false rfl ⟨hl3 hz, q⟩
    case tail =>
      intro U vb b hvb hC
      obtain ⟨lz, q⟩ := hC
      subst hvb
      have pc := part_cases U
      have pl := part_len U (S [46])
      generalize Txt.partition U (S [46]) = P at q pc pl ⊢
      have p1 : P.1.length ≤ 200000 := by omega
      have p2 : P.2.2.length ≤ 200000 := by omega
      intro p hp
      refine ⟨_, _, rfl, .inl (.inl upd_same), rfl, ?_⟩
      walk_at "run"
      · rename_i k
        rw [readP_bad1 (fun z => by rw [z] at k; cases k)] at q
        exact q _ (same_upd hp)
      · rename_i k1 k2 k3
        rw [readP_bad2 (ne_empty.mp k2) (fun z => by rw [z] at k3; cases k3)] at q
        exact q _ (same_upd hp)
      · rename_i k1 k2 k3
        have wt := worth_text pc (nots k1) (Or.inr (nots k3))
        rw [readP_good (nots k1) (Or.inr (nots k3))] at q
        obtain ⟨wt1, wt2, wt3, wt4⟩ := wt
        have nn := near_nn (a := (worthP P : Nat)) (Int.natCast_nonneg _)
        refine ⟨_, _, _, 48, rfl, rfl, (by decide +kernel), rfl, ?_⟩
        refine ⟨_, _, rfl, rfl, (by rw [sizeLine_eq]; omega), ?_⟩
        refine ⟨_, _, rfl, wt1, (by omega), ?_⟩
        walk_at "run"
        rename_i H1 s1
        by_cases c : near (worthP P : Nat) 1000000 < 1000000000000000000000
        · rw [lim_in (by constructor <;> omega)]
          rw [readN_in c] at q
          cases b
          all_goals walk_at "run"
          all_goals exact q _ (by walk_at "same")
        · rw [lim_out (by omega)]
          rw [readN_out c] at q
          walk_at "run"
          exact q _ (by walk_at "same")
      · rename_i k1 k2
        have k3 : P.2.1 = Str.empty := Decidable.byContradiction fun z => k2 (ne_empty.mpr z)
        have wt := worth_text pc (nots k1) (Or.inl k3)
        rw [readP_good (nots k1) (Or.inl k3)] at q
        obtain ⟨wt1, wt2, wt3, wt4⟩ := wt
        have nn := near_nn (a := (worthP P : Nat)) (Int.natCast_nonneg _)
        refine ⟨_, _, _, 48, rfl, rfl, (by decide +kernel), rfl, ?_⟩
        refine ⟨_, _, rfl, rfl, (by rw [sizeLine_eq]; omega), ?_⟩
        refine ⟨_, _, rfl, wt1, (by omega), ?_⟩
        walk_at "run"
        rename_i H1 s1
        by_cases c : near (worthP P : Nat) 1000000 < 1000000000000000000000
        · rw [lim_in (by constructor <;> omega)]
          rw [readN_in c] at q
          cases b
          all_goals walk_at "run"
          all_goals exact q _ (by walk_at "same")
        · rw [lim_out (by omega)]
          rw [readN_out c] at q
          walk_at "run"
          exact q _ (by walk_at "same")

theorem okcapital (T : Txt K mg) : FnOk P w K mg base CX0 1 T.acapital T.dcapital Pcapital (spcapital K) := by
  refine T.Fcapital.ok sccapital (fun vs H Q E h => ?_) (fun cdv A outer s H vs Q E hr h => ?_)
  · obtain ⟨z, rfl, _⟩ := h
    rfl
  · obtain ⟨z, rfl, ⟨hl, ha⟩, q⟩ := h
    refine ⟨_, (pss_one (ps_ret (pe_bm PySem.F.plainAttrs_str PySem.F.slot_str_join PySem.F.type_str_join mt_join pe_str (pa_cons (pe_lc (own := [("sign", 1)]) (g := gName 1) (tt := tYes) rfl sccapital.nd (pi_str (pv 0)) (blkOk_by (N := Ncapital) (sc := defScope scapital) (by decide +kernel)) (fun _ _ _ _ _ => pg_name (i := 1) sccapital.nd rfl (Or.inl rfl)) (fun _ _ _ _ _ => pts_nil) (fun _ _ _ _ _ => (pe_ifExp (pt_chain op_le_str op_le_str pe_str (pv 1) pe_str) (pe_bm0k rfl PySem.F.plainAttrs_str PySem.F.slot_str_upper PySem.F.type_str_upper mt_upper (pv 1)) (pv 1)))) pa_nil)))), ?_⟩
    walk_at "run"
    intro D hD
    refine lc_it (walk_str (z := z)) (fun i H' => Same H H' ∧ H' D = some (.lst ((((tl z).take i).map fun c => (⟨#[PyProof.Rows.up1 c]⟩ : Str)).map V.str))) ⟨same_upd hD, upd_same⟩ (fun _ _ _ _ => trivial) (fun i x H1 H2 hi hp hy => ?_) (fun H' hp => ?_)
    · obtain ⟨s1, hz⟩ := hp
      obtain ⟨rfl, c, ec, rfl⟩ := hy
      have ec2 : (tl z)[i]? = some c := by rw [Array.getElem?_toList]; exact ec
      have hc := ha c (List.mem_of_getElem? ec2)
      have et : (tl z).take (i + 1) = (tl z).take i ++ [c] := by
        rw [List.take_add_one, ec2]
        rfl
      have el : ((((tl z).take i).map fun c => (⟨#[PyProof.Rows.up1 c]⟩ : Str)).map V.str).length ≤ 2000 := by
        rw [List.length_map, List.length_map, List.length_take, ← len_tl]
        omega
      have fin : ∀ d, d = PyProof.Rows.up1 c → Same H (upd H2 D (.lst (((((tl z).take i).map fun c => (⟨#[PyProof.Rows.up1 c]⟩ : Str)).map V.str) ++ [V.str ⟨#[d]⟩]))) ∧ (upd H2 D (.lst (((((tl z).take i).map fun c => (⟨#[PyProof.Rows.up1 c]⟩ : Str)).map V.str) ++ [V.str ⟨#[d]⟩]))) D = some (.lst ((((tl z).take (i + 1)).map fun c => (⟨#[PyProof.Rows.up1 c]⟩ : Str)).map V.str)) := fun d e => by
        refine ⟨same_put s1 hD, ?_⟩
        rw [upd_same, et, List.map_append, List.map_append, e]
        rfl
      walk_at "run"
      · refine And.intro (Nat.le_of_ble_eq_true rfl) ?_
        rw [upper_one hc]
        exact ⟨_, hz, Nat.lt_of_le_of_lt el (by decide), fin _ rfl⟩
      · rename_i a b
        rw [sg_le_z, decide_eq_true_eq] at b
        exact ⟨_, hz, Nat.lt_of_le_of_lt el (by decide), fin _ (up1_small_letter (by omega))⟩
      · rename_i a
        rw [sg_ge_a, decide_eq_true_eq] at a
        exact ⟨_, hz, Nat.lt_of_le_of_lt el (by decide), fin _ (up1_small_letter (by omega))⟩
    · obtain ⟨s1, hz⟩ := hp
      have e0 : (tl z).take z.cps.size = tl z := List.take_of_length_le (by simp [tl])
      rw [e0] at hz
      have ej := join_ones PyProof.Rows.up1 (tl z)
      rw [← upper_tl ha] at ej
      refine ⟨_, D, _, rfl, rfl, Or.inl (SqL.of hz), ?_, ?_⟩
      · refine Nat.le_trans (join_sum (n := 1) fun y hy => ?_) ?_
        · obtain ⟨c, _, rfl⟩ := List.mem_map.mp hy
          exact Nat.le_refl 1
        · rw [List.length_map, ← len_tl]
          omega
      · rw [ej]
        exact q _ s1

theorem oktext_of (T : Txt K mg) : FnOk P w K mg base CX0 1 T.atext_of T.dtext_of Ptext_of (sptext_of K) := by
  refine T.Ftext_of.ok sctext_of (fun vs H Q E h => ?_) (fun cdv A outer s H vs Q E hr h => ?_)
  · obtain ⟨z, s, rfl, _⟩ := h
    rfl
  · obtain ⟨z, s, rfl, hl, rfl, q⟩ := h
    refine ⟨_, (pss_cons (ps_if (pt_cmpR op_gt (pe_callB call_len_str (by rfl) T.z_len (by decide +kernel) (pa_cons (pv 0) pa_nil)) (pe_glob (v := .int 64) (by rfl) T.m_MOST_SIGNS ⟨_, rfl⟩) (by first | exact nomark _ | rfl))
      (pss_one (ps_ret (pe_tup (pa_cons pe_str (pa_cons pe_str pa_nil)))))
      pss_nil)
    (pss_one (ps_ret (pe_tup (pa_cons pe_str (pa_cons (pv 0) pa_nil)))))), ?_⟩
    walk_at "run"
    · have e : textO z = .err "VALUE" := if_neg (by omega)
      rw [e] at q
      exact q _ _ (by walk_at "same") (SqT.of upd_same)
    · have e : textO z = .txt z := if_pos (by omega)
      rw [e] at q
      exact q _ _ (by walk_at "same") (SqT.of upd_same)

theorem oknumber_of (T : Txt K mg) : FnOk P w K mg base CX0 1 T.anumber_of T.dnumber_of Pnumber_of (spnumber_of K) := by
  refine T.Fnumber_of.ok scnumber_of (fun vs H Q E h => ?_) (fun cdv A outer s H vs Q E hr h => ?_)
  · obtain ⟨x, rfl, _⟩ := h
    rfl
  · obtain ⟨x, rfl, q⟩ := h
    refine ⟨_, (pss_cons (ps_if (pt_val (pe_callB call_isiV (by rfl) T.z_isinstance (by decide +kernel) (pa_cons (pv 0) (pa_cons (pe_bltn (v := .ty "str") (by rfl) T.z_str (by decide +kernel) rfl) pa_nil))))
      (pss_one (ps_ret (pe_tup (pa_cons pe_str (pa_cons (pv 0) pa_nil)))))
      pss_nil)
    (pss_one (ps_ret (pe_tup (pa_cons pe_str (pa_cons (pv 0) pa_nil)))))), ?_⟩
    rcases q with ⟨m, rfl, q⟩ | ⟨z, rfl, q⟩
    all_goals walk_at "run"
    all_goals exact q _ _ (by walk_at "same") (SqT.of upd_same)

theorem okas_number (T : Txt K mg) : FnOk P w K mg base CX0 3 T.aas_number T.das_number Pas_number (spas_number K) := by
  refine T.Fas_number.ok scas_number (fun vs H Q E h => ?_) (fun cdv A outer s H vs Q E hr h => ?_)
  · obtain ⟨p, s, rfl, _⟩ := h
    rfl
  · obtain ⟨p, s, rfl, hp, hs, q⟩ := h
    refine ⟨_, (pss_cons (ps_set (i := 1) scas_number.nd rfl (by first | exact Or.inl rfl | exact Or.inr rfl) (pe_ix ix_tup (pv 0) pe_int (fun _ _ => rfl)))
    (pss_cons (ps_if (pt_cmpR op_eq (pv 1) pe_str (by first | exact nomark _ | rfl))
      (pss_one (ps_ret (pe_tup (pa_cons pe_str (pa_cons pe_int pa_nil)))))
      pss_nil)
    (pss_cons (ps_if (pt_cmpR op_eq (pv 1) pe_str (by first | exact nomark _ | rfl))
      (pss_one (ps_ret (pe_tup (pa_cons pe_str (pa_cons (pe_ifExp (pt_val (pe_ix ix_tup (pv 0) pe_int (fun _ _ => rfl))) (pe_glob (v := .int 1000000) (by rfl) T.m_SCALE ⟨_, rfl⟩) pe_int) pa_nil)))))
      pss_nil)
    (pss_cons (ps_if (pt_cmpR op_eq (pv 1) pe_str (by first | exact nomark _ | rfl))
      (pss_cons (ps_set (i := 2) scas_number.nd rfl (by first | exact Or.inl rfl | exact Or.inr rfl) (pe_call (okread_amount T) (hr.mono (by decide)) (by rfl) T.gread_amount T.Fread_amount.kp (T.bread_amount) .nil pass0 (pa_cons (pe_ix ix_tup (pv 0) pe_int (fun _ _ => rfl)) pa_nil)))
    (pss_one (ps_ret (pe_call (oknumber_of T) (hr.mono (by decide)) (by rfl) T.gnumber_of T.Fnumber_of.kp (T.bnumber_of) .nil pass0 (pa_cons (pe_ifExp (pt_cmpR op_isN (pv 2) pe_non (by first | exact nomark _ | rfl)) pe_str (pv 2)) pa_nil)))))
      pss_nil)
    (pss_one (ps_ret (pv 0))))))), ?_⟩
    rcases s with _ | m | b | z | z
    · walk_at "run"
      exact q _ _ (by walk_at "same") (SqT.of upd_same)
    · walk_at "run"
      exact q _ _ (Same.refl _) hp
    · cases b
      all_goals walk_at "run"
      all_goals exact q _ _ (by walk_at "same") (SqT.of upd_same)
    · obtain ⟨hz, ha⟩ := hs
      rcases readV_kind z with e | ⟨m, e, hm⟩
      · rw [show (Sc.txt z).num' = .err "VALUE" from numT_non e] at q
        walk_at "run"
        · exact q _ _ (by walk_at "same") (by assumption)
        · rename_i h
          exact absurd e h
      · rw [show (Sc.txt z).num' = .num m from numT_int e] at q
        walk_at "run"
        · rename_i h _ _ _ _
          exact absurd (e.symm.trans h) (fun z => nomatch z)
        · rw [e]
          walk_at "run"
          exact q _ _ (by walk_at "same") (by assumption)
    · walk_at "run"
      exact q _ _ (Same.refl _) hp

theorem okshown (T : Txt K mg) : FnOk P w K mg base CX0 2 T.ashown T.dshown Pshown (spshown K) := by
  refine T.Fshown.ok scshown (fun vs H Q E h => ?_) (fun cdv A outer s H vs Q E hr h => ?_)
  · obtain ⟨p, s, rfl, _⟩ := h
    rfl
  · obtain ⟨p, s, rfl, hp, hs, q⟩ := h
    refine ⟨_, (pss_cons (ps_set (i := 1) scshown.nd rfl (by first | exact Or.inl rfl | exact Or.inr rfl) (pe_ix ix_tup (pv 0) pe_int (fun _ _ => rfl)))
    (pss_cons (ps_if (pt_cmpR op_eq (pv 1) pe_str (by first | exact nomark _ | rfl))
      (pss_one (ps_ret pe_str))
      pss_nil)
    (pss_cons (ps_if (pt_cmpR op_eq (pv 1) pe_str (by first | exact nomark _ | rfl))
      (pss_one (ps_ret (pe_call (okshown_amount T) (hr.mono (by decide)) (by rfl) T.gshown_amount T.Fshown_amount.kp (T.bshown_amount) .nil pass0 (pa_cons (pe_ix ix_tup (pv 0) pe_int (fun _ _ => rfl)) pa_nil))))
      pss_nil)
    (pss_cons (ps_if (pt_cmpR op_eq (pv 1) pe_str (by first | exact nomark _ | rfl))
      (pss_one (ps_ret (pe_ifExp (pt_val (pe_ix ix_tup (pv 0) pe_int (fun _ _ => rfl))) pe_str pe_str)))
      pss_nil)
    (pss_cons (ps_if (pt_cmpR op_eq (pv 1) pe_str (by first | exact nomark _ | rfl))
      (pss_one (ps_ret (pe_ix ix_tup (pv 0) pe_int (fun _ _ => rfl))))
      pss_nil)
    (pss_one (ps_ret (pe_op op_add_str (pe_op op_add_str pe_str (pe_ix ix_tup (pv 0) pe_int (fun _ _ => rfl))) pe_str)))))))), ?_⟩
    have q1 : (Str.ofString "#").length ≤ 1 := by decide +kernel
    have q2 : (Str.ofString "!").length ≤ 1 := by decide +kernel
    rcases s with _ | m | b | z | z
    · walk_at "run"
      exact q _ (Same.refl _)
    · walk_at "run"
      exact q _ (by walk_at "same")
    · cases b
      all_goals walk_at "run"
      all_goals exact q _ (by walk_at "same")
    · walk_at "run"
      exact q _ (Same.refl _)
    · obtain ⟨hz, ha⟩ := hs
      walk_at "run"
      exact q _ (Same.refl _)

theorem okas_text (T : Txt K mg) : FnOk P w K mg base CX0 3 T.aas_text T.das_text Pas_text (spas_text K) := by
  refine T.Fas_text.ok scas_text (fun vs H Q E h => ?_) (fun cdv A outer s H vs Q E hr h => ?_)
  · obtain ⟨p, s, rfl, _⟩ := h
    rfl
  · obtain ⟨p, s, rfl, hp, hs, q⟩ := h
    refine ⟨_, (pss_cons (ps_if (pt_cmpR op_eq (pe_ix ix_tup (pv 0) pe_int (fun _ _ => rfl)) pe_str (by first | exact nomark _ | rfl))
      (pss_one (ps_ret (pv 0)))
      pss_nil)
    (pss_one (ps_ret (pe_tup (pa_cons pe_str (pa_cons (pe_call (okshown T) (hr.mono (by decide)) (by rfl) T.gshown T.Fshown.kp (T.bshown) .nil pass0 (pa_cons (pv 0) pa_nil)) pa_nil)))))), ?_⟩
    rcases s with _ | m | b | z | z
    all_goals walk_at "run"
    all_goals first
      | exact q _ _ (Same.refl _) hp
      | exact q _ _ (by walk_at "same") (SqT.of upd_same)

theorem okas_truth (T : Txt K mg) : FnOk P w K mg base CX0 2 T.aas_truth T.das_truth Pas_truth (spas_truth K) := by
  refine T.Fas_truth.ok scas_truth (fun vs H Q E h => ?_) (fun cdv A outer s H vs Q E hr h => ?_)
  · obtain ⟨p, s, rfl, _⟩ := h
    rfl
  · obtain ⟨p, s, rfl, hp, hs, q⟩ := h
    refine ⟨_, (pss_cons (ps_set (i := 1) scas_truth.nd rfl (by first | exact Or.inl rfl | exact Or.inr rfl) (pe_ix ix_tup (pv 0) pe_int (fun _ _ => rfl)))
    (pss_cons (ps_if (pt_cmpR op_eq (pv 1) pe_str (by first | exact nomark _ | rfl))
      (pss_one (ps_ret (pe_tup (pa_cons pe_str (pa_cons pe_bl pa_nil)))))
      pss_nil)
    (pss_cons (ps_if (pt_cmpR op_eq (pv 1) pe_str (by first | exact nomark _ | rfl))
      (pss_one (ps_ret (pe_tup (pa_cons pe_str (pa_cons (pe_cmpR op_ne (pe_ix ix_tup (pv 0) pe_int (fun _ _ => rfl)) pe_int (by first | exact nomark _ | rfl)) pa_nil)))))
      pss_nil)
    (pss_cons (ps_if (pt_cmpR op_eq (pv 1) pe_str (by first | exact nomark _ | rfl))
      (pss_cons (ps_set (i := 2) scas_truth.nd rfl (by first | exact Or.inl rfl | exact Or.inr rfl) (pe_call (okcapital T) (hr.mono (by decide)) (by rfl) T.gcapital T.Fcapital.kp (T.bcapital) .nil pass0 (pa_cons (pe_ix ix_tup (pv 0) pe_int (fun _ _ => rfl)) pa_nil)))
    (pss_cons (ps_if (pt_cmpR op_in_seq (pv 2) (pe_tup (pa_cons pe_str (pa_cons pe_str pa_nil))) (by first | exact nomark _ | rfl))
      (pss_one (ps_ret (pe_tup (pa_cons pe_str (pa_cons (pe_cmpR op_eq (pv 2) pe_str (by first | exact nomark _ | rfl)) pa_nil)))))
      pss_nil)
    (pss_one (ps_ret (pe_tup (pa_cons pe_str (pa_cons pe_str pa_nil)))))))
      pss_nil)
    (pss_one (ps_ret (pv 0))))))), ?_⟩
    rcases s with _ | m | b | z | z
    · walk_at "run"
      exact q _ _ (by walk_at "same") (SqT.of upd_same)
    · walk_at "run"
      exact q _ _ (by walk_at "same") (SqT.of upd_same)
    · walk_at "run"
      exact q _ _ (Same.refl _) hp
    · obtain ⟨hz, ha⟩ := hs
      walk_at "run"
      · rename_i h _ _
        rw [truth_in (inTF.mp h)] at q
        exact q _ _ (by walk_at "same") (SqT.of upd_same)
      · rename_i h _ _
        rw [truth_out (fun z => h (inTF.mpr z))] at q
        exact q _ _ (by walk_at "same") (SqT.of upd_same)
    · walk_at "run"
      exact q _ _ (Same.refl _) hp

theorem okas_whole (T : Txt K mg) : FnOk P w K mg base CX0 4 T.aas_whole T.das_whole Pas_whole (spas_whole K) := by
  refine T.Fas_whole.ok scas_whole (fun vs H Q E h => ?_) (fun cdv A outer s H vs Q E hr h => ?_)
  · obtain ⟨p, s, rfl, _⟩ := h
    rfl
  · obtain ⟨p, s, rfl, hp, hs, q⟩ := h
    refine ⟨_, (pss_cons (ps_set (i := 1) scas_whole.nd rfl (by first | exact Or.inl rfl | exact Or.inr rfl) (pe_call (okas_number T) (hr.mono (by decide)) (by rfl) T.gas_number T.Fas_number.kp (T.bas_number) .nil pass0 (pa_cons (pv 0) pa_nil)))
    (pss_cons (ps_if (pt_cmpR op_eq (pe_ix ix_tup (pv 1) pe_int (fun _ _ => rfl)) pe_str (by first | exact nomark _ | rfl))
      (pss_one (ps_ret (pv 1)))
      pss_nil)
    (pss_one (ps_ret (pe_call (oknumber_of T) (hr.mono (by decide)) (by rfl) T.gnumber_of T.Fnumber_of.kp (T.bnumber_of) .nil pass0 (pa_cons (pe_call (okfloored T) (hr.mono (by decide)) (by rfl) T.gfloored T.Ffloored.kp (T.bfloored) .nil pass0 (pa_cons (pe_ix ix_tup (pv 1) pe_int (fun _ _ => rfl)) pa_nil)) pa_nil)))))), ?_⟩
    rcases num_case s hs with ⟨m, e, hm⟩ | ⟨z, e⟩
    · rw [e] at q
      walk_at "run"
      rename_i r H1 s1 h1
      rw [e] at h1
      walk_at "run"
      by_cases c : -1000000000000000000000 < m - m % 1000000 ∧ m - m % 1000000 < 1000000000000000000000
      · rw [show (Sc.num m).wh = .num _ from if_pos c] at q
        rw [lim_in c]
        walk_at "run"
        exact q _ _ (by walk_at "same") (by assumption)
      · rw [show (Sc.num m).wh = .err "NUM" from if_neg c] at q
        rw [lim_out c]
        walk_at "run"
        exact q _ _ (by walk_at "same") (by assumption)
    · rw [e] at q
      walk_at "run"
      rename_i r H1 s1 h1
      rw [e] at h1
      walk_at "run"
      exact q _ _ s1 h1

theorem ok_law_cell (T : Txt K mg) : FnOk P w K mg base CX0 1 T.a_law_cell T.d_law_cell P_law_cell (sp_law_cell K) := by
  refine T.F_law_cell.ok sc_law_cell (fun vs H Q E h => ?_) (fun cdv A outer s H vs Q E hr h => ?_)
  · obtain ⟨a, ns, j, rfl, _⟩ := h
    rfl
  · obtain ⟨a, ns, j, rfl, hS, q⟩ := h
    refine ⟨_, (pss_cons (ps_if (pt_cmpR op_lt (pv 1) (pe_callB call_len_seq (by rfl) T.z_len (by decide +kernel) (pa_cons (pv 0) pa_nil)) (by first | exact nomark _ | rfl))
      (pss_one (ps_ret (pe_ix ix_list (pv 0) (pv 1) (fun _ _ => rfl))))
      pss_nil)
    (pss_one (ps_ret pe_int))), ?_⟩
    refine ⟨_, rfl, _, rfl, a, _, rfl, .inl hS, _, _, rfl, rfl, _, rfl, ite2 (fun e => ?_) (fun e => ?_)⟩
    · have e1 : j < ns.length := by
        have e2 := of_decide_eq_true e
        rw [List.length_map] at e2
        omega
      refine ⟨_, rfl, _, rfl, a, _, _, .int (ns.getD j 0), rfl, rfl, hS, atI_nat ?_, q⟩
      rw [List.getElem?_map, List.getD_eq_getElem?_getD, List.getElem?_eq_getElem e1]
      rfl
    · have e1 : ¬ j < ns.length := fun z => e (decide_eq_true (by rw [List.length_map]; omega))
      have e2 : ns.getD j 0 = 0 := by
        rw [List.getD_eq_getElem?_getD, List.getElem?_eq_none (by omega)]
        rfl
      rw [e2] at q
      exact q

theorem ok_law_mix (T : Txt K mg) : FnOk P w K mg base CX0 1 T.a_law_mix T.d_law_mix P_law_mix (sp_law_mix K) := by
  refine T.F_law_mix.ok sc_law_mix (fun vs H Q E h => ?_) (fun cdv A outer s H vs Q E hr h => ?_)
  · obtain ⟨c, s, rfl, _⟩ := h
    rfl
  · obtain ⟨c, s, rfl, q⟩ := h
    refine ⟨_, (pss_cons (ps_set (i := 2) sc_law_mix.nd rfl (by first | exact Or.inl rfl | exact Or.inr rfl) (pe_op op_mod (pe_callTy call_int1 (by rfl) T.z_int (by decide +kernel) (pa_cons (pe_op op_add (pe_op op_add (pe_op op_mul (pv 0) pe_int) (pe_op op_mul (pv 1) pe_int)) pe_int) pa_nil)) pe_int))
    (pss_one (ps_ret (pe_op op_mod (pe_callTy call_int1 (by rfl) T.z_int (by decide +kernel) (pa_cons (pe_op op_add (pe_op op_add (pe_op op_mul (pv 2) (pv 2)) (pe_op op_mul (pv 2) pe_int)) (pe_op op_mul (pv 1) pe_int)) pa_nil)) pe_int)))), ?_⟩
    walk_at "run"
    generalize e1 : (c * 48271 + s * 69621 + 12345) % 2147483647 = one
    have h0 : 0 ≤ one := by omega
    have h1 : one < 2147483647 := by omega
    walk_at "run"
    refine q _ ?_ ?_
    · omega
    · omega

theorem ok_law_amount (T : Txt K mg) : FnOk P w K mg base CX0 2 T.a_law_amount T.d_law_amount P_law_amount (sp_law_amount K) := by
  refine T.F_law_amount.ok sc_law_amount (fun vs H Q E h => ?_) (fun cdv A outer s H vs Q E hr h => ?_)
  · obtain ⟨c, s, rfl, _⟩ := h
    rfl
  · obtain ⟨c, s, rfl, q⟩ := h
    refine ⟨_, (pss_cons (ps_set (i := 2) sc_law_amount.nd rfl (by first | exact Or.inl rfl | exact Or.inr rfl) (pe_op op_sub (pe_powc (c := 1000000000000000000000) (by decide) (by decide +kernel)) pe_int))
    (pss_cons (ps_if (pt_cmpR op_ge (pv 0) (pe_powc (c := 1000000000000000000) (by decide) (by decide +kernel)) (by first | exact nomark _ | rfl))
      (pss_one (ps_ret (pe_op op_sub (pe_op op_mod (pe_callTy call_int1 (by rfl) T.z_int (by decide +kernel) (pa_cons (pe_op op_sub (pv 0) (pe_powc (c := 1000000000000000000) (by decide) (by decide +kernel))) pa_nil)) (pe_op op_add (pe_op op_mul pe_int (pv 2)) pe_int)) (pv 2))))
      pss_nil)
    (pss_cons (ps_set (i := 3) sc_law_amount.nd rfl (by first | exact Or.inl rfl | exact Or.inr rfl) (pe_op op_mod (pe_callTy call_int1 (by rfl) T.z_int (by decide +kernel) (pa_cons (pe_call (ok_law_mix T) (hr.mono (by decide)) (by rfl) T.g_law_mix T.F_law_mix.kp (T.b_law_mix) .nil pass0 (pa_cons (pv 0) (pa_cons (pv 1) pa_nil))) pa_nil)) pe_int))
    (pss_cons (ps_set (i := 4) sc_law_amount.nd rfl (by first | exact Or.inl rfl | exact Or.inr rfl) (pe_call (ok_law_mix T) (hr.mono (by decide)) (by rfl) T.g_law_mix T.F_law_mix.kp (T.b_law_mix) .nil pass0 (pa_cons (pv 0) (pa_cons (pe_op op_add (pv 1) pe_int) pa_nil))))
    (pss_cons (ps_if (pt_cmpR op_eq (pv 3) pe_int (by first | exact nomark _ | rfl))
      (pss_cons (ps_set (i := 5) sc_law_amount.nd rfl (by first | exact Or.inl rfl | exact Or.inr rfl) (pe_lst (pa_cons pe_int (pa_cons pe_int (pa_cons pe_int (pa_cons (pe_un un_neg pe_int) (pa_cons pe_int (pa_cons pe_int (pa_cons pe_int (pa_cons (pe_un un_neg pe_int) (pa_cons pe_int (pa_cons pe_int (pa_cons pe_int (pa_cons (pe_un un_neg pe_int) (pa_cons (pv 2) (pa_cons (pe_un un_neg (pv 2)) pa_nil))))))))))))))))
    (pss_one (ps_ret (pe_ix ix_list (pv 5) (pe_op op_mod (pe_callTy call_int1 (by rfl) T.z_int (by decide +kernel) (pa_cons (pv 4) pa_nil)) pe_int) (fun _ _ => rfl)))))
      pss_nil)
    (pss_cons (ps_if (pt_cmpR op_eq (pv 3) pe_int (by first | exact nomark _ | rfl))
      (pss_one (ps_ret (pe_op op_sub (pe_op op_mod (pe_callTy call_int1 (by rfl) T.z_int (by decide +kernel) (pa_cons (pv 4) pa_nil)) pe_int) pe_int)))
      pss_nil)
    (pss_cons (ps_if (pt_cmpR op_eq (pv 3) pe_int (by first | exact nomark _ | rfl))
      (pss_one (ps_ret (pe_op op_mul (pe_op op_sub (pe_op op_mod (pe_callTy call_int1 (by rfl) T.z_int (by decide +kernel) (pa_cons (pv 4) pa_nil)) pe_int) pe_int) pe_int)))
      pss_nil)
    (pss_cons (ps_if (pt_cmpR op_eq (pv 3) pe_int (by first | exact nomark _ | rfl))
      (pss_one (ps_ret (pe_op op_mul (pe_op op_sub (pe_op op_mul pe_int (pe_op op_mod (pe_callTy call_int1 (by rfl) T.z_int (by decide +kernel) (pa_cons (pv 4) pa_nil)) pe_int)) pe_int) pe_int)))
      pss_nil)
    (pss_cons (ps_if (pt_cmpR op_eq (pv 3) pe_int (by first | exact nomark _ | rfl))
      (pss_one (ps_ret (pe_op op_sub (pv 2) (pe_op op_mod (pe_callTy call_int1 (by rfl) T.z_int (by decide +kernel) (pa_cons (pv 4) pa_nil)) pe_int))))
      pss_nil)
    (pss_cons (ps_if (pt_cmpR op_eq (pv 3) pe_int (by first | exact nomark _ | rfl))
      (pss_one (ps_ret (pe_op op_sub (pe_op op_mod (pe_callTy call_int1 (by rfl) T.z_int (by decide +kernel) (pa_cons (pv 4) pa_nil)) pe_int) (pv 2))))
      pss_nil)
    (pss_cons (ps_if (pt_cmpR op_eq (pv 3) pe_int (by first | exact nomark _ | rfl))
      (pss_one (ps_ret (pe_op op_sub (pe_op op_mod (pe_callTy call_int1 (by rfl) T.z_int (by decide +kernel) (pa_cons (pe_op op_mul (pv 4) (pv 4)) pa_nil)) (pe_op op_mul pe_int (pe_powc (c := 1000000000000) (by decide) (by decide +kernel)))) (pe_powc (c := 1000000000000) (by decide) (by decide +kernel)))))
      pss_nil)
    (pss_cons (ps_set (i := 6) sc_law_amount.nd rfl (by first | exact Or.inl rfl | exact Or.inr rfl) (pe_op op_add (pe_op op_add (pe_op op_mul (pv 4) (pe_powc (c := 1000000000000000000) (by decide) (by decide +kernel))) (pe_op op_mul (pe_call (ok_law_mix T) (hr.mono (by decide)) (by rfl) T.g_law_mix T.F_law_mix.kp (T.b_law_mix) .nil pass0 (pa_cons (pv 0) (pa_cons (pe_op op_add (pv 1) pe_int) pa_nil))) (pe_powc (c := 1000000000) (by decide) (by decide +kernel)))) (pe_call (ok_law_mix T) (hr.mono (by decide)) (by rfl) T.g_law_mix T.F_law_mix.kp (T.b_law_mix) .nil pass0 (pa_cons (pv 0) (pa_cons (pe_op op_add (pv 1) pe_int) pa_nil)))))
    (pss_one (ps_ret (pe_op op_sub (pe_op op_mod (pe_callTy call_int1 (by rfl) T.z_int (by decide +kernel) (pa_cons (pv 6) pa_nil)) (pe_op op_add (pe_op op_mul pe_int (pv 2)) pe_int)) (pv 2)))))))))))))))), ?_⟩
    walk_at "run"
    all_goals first
      | refine q _ _ (Same.refl _) ?_ ?_ <;> omega
      | skip
    rename_i p hp
    refine atI_go (.inl (.inl upd_same)) (by omega) (by show _ < (14 : Int); omega) fun v hv => ?_
    simp only [List.mem_cons, List.not_mem_nil, or_false] at hv
    rcases hv with rfl | rfl | rfl | rfl | rfl | rfl | rfl | rfl | rfl | rfl | rfl | rfl | rfl | rfl
    all_goals exact q _ _ (same_upd hp) (by decide) (by decide)

theorem ok_law_nearest (T : Txt K mg) : FnOk P w K mg base CX0 1 T.a_law_nearest T.d_law_nearest P_law_nearest (sp_law_nearest K) := by
  refine T.F_law_nearest.ok sc_law_nearest (fun vs H Q E h => ?_) (fun cdv A outer s H vs Q E hr h => ?_)
  · obtain ⟨a, b, rfl, _⟩ := h
    rfl
  · obtain ⟨a, b, rfl, hb, ha, q⟩ := h
    refine ⟨_, (pss_cons (ps_set (i := 2) sc_law_nearest.nd rfl (by first | exact Or.inl rfl | exact Or.inr rfl) (pe_op op_fdivB (pv 0) (pv 1)))
    (pss_cons (ps_set (i := 3) sc_law_nearest.nd rfl (by first | exact Or.inl rfl | exact Or.inr rfl) (pe_op op_mulB pe_int (pe_op op_sub (pv 0) (pe_op op_mulB (pv 2) (pv 1)))))
    (pss_cons (ps_if (PW.pt (pw_or (pt_cmpR op_gt (pv 3) (pv 1) (by first | exact nomark _ | rfl)) (pw_or1 (PW.pt (pw_and (pt_cmpR op_eq (pv 3) (pv 1) (by first | exact nomark _ | rfl)) (pw_and1 (pt_cmpR op_eq (pe_op op_mod (pe_callTy call_int1 (by rfl) T.z_int (by decide +kernel) (pa_cons (pv 2) pa_nil)) pe_int) pe_int (by first | exact nomark _ | rfl))))))))
      (pss_one (ps_ret (pe_op op_add (pv 2) pe_int)))
      pss_nil)
    (pss_one (ps_ret (pv 2)))))), ?_⟩
    have hu := ediv_up (i := a) hb.1
    have hd := ediv_dn (i := a) hb.1
    have em := Int.mul_ediv_add_emod a b
    have ec := Int.mul_comm b (a / b)
    have r0 := Int.emod_nonneg a (show b ≠ 0 by omega)
    have r1 := Int.emod_lt_of_pos a hb.1
    walk_at "run"
    all_goals refine (congrArg (fun z => Q (V.int z) _) ?_).mp q
    all_goals (unfold near; (repeat' split) <;> omega)

theorem ok_law_written (T : Txt K mg) : FnOk P w K mg base CX0 1 T.a_law_written T.d_law_written P_law_written (sp_law_written K) := by
  refine T.F_law_written.ok sc_law_written (fun vs H Q E h => ?_) (fun cdv A outer s H vs Q E hr h => ?_)
  · obtain ⟨m, rfl, _⟩ := h
    rfl
  · obtain ⟨m, rfl, hm, q⟩ := h
    refine ⟨_, (pss_cons (ps_set (i := 1) sc_law_written.nd rfl (by first | exact Or.inl rfl | exact Or.inr rfl) (pe_callB call_abs (by rfl) T.z_abs (by decide +kernel) (pa_cons (pv 0) pa_nil)))
    (pss_cons (ps_set (i := 2) sc_law_written.nd rfl (by first | exact Or.inl rfl | exact Or.inr rfl) (pe_callTy call_str_int (by rfl) T.z_str (by decide +kernel) (pa_cons (pe_op op_fdiv (pv 1) pe_int) pa_nil)))
    (pss_cons (ps_set (i := 3) sc_law_written.nd rfl (by first | exact Or.inl rfl | exact Or.inr rfl) (pe_bm PySem.F.plainAttrs_str PySem.F.slot_str_rstrip PySem.F.type_str_rstrip mt_rstripChars (pe_slice sl_str (pe_callTy call_str_int (by rfl) T.z_str (by decide +kernel) (pa_cons (pe_op op_add pe_int (pe_op op_mod (pe_callTy call_int1 (by rfl) T.z_int (by decide +kernel) (pa_cons (pv 1) pa_nil)) pe_int)) pa_nil)) (po_some pe_int) po_none) (pa_cons pe_str pa_nil)))
    (pss_cons (ps_if (pt_cmpR op_ne (pv 3) pe_str (by first | exact nomark _ | rfl))
      (pss_one (ps_set (i := 2) sc_law_written.nd rfl (by first | exact Or.inl rfl | exact Or.inr rfl) (pe_op op_add_str (pe_op op_add_str (pv 2) pe_str) (pv 3))))
      pss_nil)
    (pss_cons (ps_if (pt_cmpR op_lt (pv 0) pe_int (by first | exact nomark _ | rfl))
      (pss_one (ps_ret (pe_op op_add_str pe_str (pv 2))))
      pss_nil)
    (pss_one (ps_ret (pv 2)))))))), ?_⟩
    have hw : (if m < 0 then -m else m) / 1000000 = ((m.natAbs / 1000000 : Nat) : Int) := by split <;> omega
    have hr : 1000000 + (if m < 0 then -m else m) % 1000000 = ((1000000 + m.natAbs % 1000000 : Nat) : Int) := by split <;> omega
    have r6 : m.natAbs % 1000000 < 1000000 := by omega
    have n1 : (numL (m.natAbs / 1000000)).length ≤ 24 := numL_short (by omega)
    have n2 := zt_len (pad6 (m.natAbs % 1000000))
    have n3 : (pad6 (m.natAbs % 1000000)).length = 6 := rfl
    walk_at "run0"
    rw [hr, hw, str_nat (w := 1000000 + m.natAbs % 1000000) rfl, num_mill r6, cut_one, List.drop_one, List.tail_cons, e_zero, str_nat (w := m.natAbs / 1000000) rfl]
    refine And.intro (by walk_at "sl") ?_
    walk_at "run0"
    refine And.intro (by walk_at "sl") ?_
    rw [rstrip_S]
    walk_at "run0"
    · rename_i k c
      have h0 : ¬ m.natAbs % 1000000 = 0 := fun z0 => (ne_empty.mp k) (by rw [z0, rest_zero]; rfl)
      rw [show_S, if_pos c, if_neg h0] at q
      refine (congrArg (fun z => Q (V.str z) H) ?_).mp q
      simp only [e_minus, e_dot, str_empty, S_cat, List.append_assoc, List.nil_append, List.append_nil]
    · rename_i k c
      have h0 : ¬ m.natAbs % 1000000 = 0 := fun z0 => (ne_empty.mp k) (by rw [z0, rest_zero]; rfl)
      rw [show_S, if_neg c, if_neg h0] at q
      refine (congrArg (fun z => Q (V.str z) H) ?_).mp q
      simp only [e_minus, e_dot, str_empty, S_cat, List.append_assoc, List.nil_append, List.append_nil]
    · rename_i k c
      have h0 : m.natAbs % 1000000 = 0 := Decidable.byContradiction fun z => k (ne_empty.mpr fun w => zt_ne r6 z (S_inj w))
      rw [show_S, if_pos c, if_pos h0] at q
      refine (congrArg (fun z => Q (V.str z) H) ?_).mp q
      simp only [e_minus, e_dot, str_empty, S_cat, List.append_assoc, List.nil_append, List.append_nil]
    · rename_i k c
      have h0 : m.natAbs % 1000000 = 0 := Decidable.byContradiction fun z => k (ne_empty.mpr fun w => zt_ne r6 z (S_inj w))
      rw [show_S, if_neg c, if_pos h0] at q
      refine (congrArg (fun z => Q (V.str z) H) ?_).mp q
      simp only [e_minus, e_dot, str_empty, S_cat, List.append_assoc, List.nil_append, List.append_nil]

theorem ok_law_figures (T : Txt K mg) : FnOk P w K mg base CX0 1 T.a_law_figures T.d_law_figures P_law_figures (sp_law_figures K) := by
  refine T.F_law_figures.ok sc_law_figures (fun vs H Q E h => ?_) (fun cdv A outer s H vs Q E hr h => ?_)
  · obtain ⟨z, most, rfl, _⟩ := h
    rfl
  · obtain ⟨z, most, rfl, hz, q⟩ := h
    refine ⟨_, (pss_cons (ps_if (PW.pt (pw_or (pt_cmpR op_lt (pe_callB call_len_str (by rfl) T.z_len (by decide +kernel) (pa_cons (pv 0) pa_nil)) pe_int (by first | exact nomark _ | rfl)) (pw_or1 (pt_cmpR op_gt (pe_callB call_len_str (by rfl) T.z_len (by decide +kernel) (pa_cons (pv 0) pa_nil)) (pv 1) (by first | exact nomark _ | rfl)))))
      (pss_one (ps_ret pe_bl))
      pss_nil)
    (pss_cons (ps_for PassesOwn.never rfl (pi_str (pv 0)) (pg_name (i := 2) sc_law_figures.nd rfl (by first | exact Or.inl rfl | exact Or.inr rfl))
      (pss_one (ps_if (pt_cmpR op_notIn_sign (pv 2) pe_str (by first | exact nomark _ | rfl))
      (pss_one (ps_ret pe_bl))
      pss_nil)))
    (pss_one (ps_ret pe_bl)))), ?_⟩
    have el := len_tl z
    walk_at "run"
    · rw [figs_len (Or.inl (by omega))] at q
      exact q
    · rw [figs_len (Or.inr (by omega))] at q
      exact q
    · refine for_it walk_str (fun i σ H' => H' = H ∧ (∀ (j c : Nat), j < i → (tl z)[j]? = some c → isD c = true) ∧ ∃ u, σ = [some (.str z), some (.int most), u]) ⟨rfl, fun _ _ h => absurd h (Nat.not_lt_zero _), none, rfl⟩ (fun _ _ _ _ _ => trivial) (fun i x σ H1 H2 hi hp hy => ?_) (fun σ H' hp => ?_)
      · obtain ⟨rfl, hd, u, rfl⟩ := hp
        obtain ⟨rfl, c, ec, rfl⟩ := hy
        have ec2 : (tl z)[i]? = some c := by rw [Array.getElem?_toList]; exact ec
        refine ⟨_, rfl, c, _, rfl, rfl, ?_⟩
        walk_at "run"
        · rename_i hb
          rw [figs_bad ec2 (fun k => by rw [decide_eq_true (mem_tens.mpr k)] at hb; cases hb)] at q
          exact q
        · rename_i hb
          refine ⟨fun j d hj e => ?_, _, rfl⟩
          by_cases k : j = i
          · rw [k, ec2] at e
            rw [← Option.some.inj e]
            exact mem_tens.mp (by simpa using hb)
          · exact hd j d (by omega) e
      · obtain ⟨rfl, hd, u, rfl⟩ := hp
        rw [figs_good (fun i c h => hd i c (by have := (List.getElem?_eq_some_iff.mp h).1; simpa [tl] using this) h) (by omega) (by omega)] at q
        exact q

theorem ok_law_read (T : Txt K mg) : FnOk P w K mg base CX0 2 T.a_law_read T.d_law_read P_law_read (sp_law_read K) := by
  refine T.F_law_read.ok sc_law_read (fun vs H Q E h => ?_) (fun cdv A outer s H vs Q E hr h => ?_)
  · obtain ⟨z, rfl, _⟩ := h
    rfl
  · obtain ⟨z, rfl, hz, q⟩ := h
    refine ⟨_, (pss_cons (ps_set (i := 1) sc_law_read.nd rfl (by first | exact Or.inl rfl | exact Or.inr rfl) (pe_bm PySem.F.plainAttrs_str PySem.F.slot_str_strip PySem.F.type_str_strip mt_stripChars (pv 0) (pa_cons pe_str pa_nil)))
    (pss_cons (ps_set (i := 2) sc_law_read.nd rfl (by first | exact Or.inl rfl | exact Or.inr rfl) (pe_cmpR op_eq (pe_slice sl_str (pv 1) po_none (po_some pe_int)) pe_str (by first | exact nomark _ | rfl)))
    (pss_cons (ps_if (PW.pt (pw_or (pt_cmpR op_eq (pe_slice sl_str (pv 1) po_none (po_some pe_int)) pe_str (by first | exact nomark _ | rfl)) (pw_or1 (pt_cmpR op_eq (pe_slice sl_str (pv 1) po_none (po_some pe_int)) pe_str (by first | exact nomark _ | rfl)))))
      (pss_one (ps_set (i := 1) sc_law_read.nd rfl (by first | exact Or.inl rfl | exact Or.inr rfl) (pe_slice sl_str (pv 1) (po_some pe_int) po_none)))
      pss_nil)
    (pss_cons (ps_set (i := 3) sc_law_read.nd rfl (by first | exact Or.inl rfl | exact Or.inr rfl) (pe_bm PySem.F.plainAttrs_str PySem.F.slot_str_partition PySem.F.type_str_partition mt_partition (pv 1) (pa_cons pe_str pa_nil)))
    (pss_cons (ps_if (pt_not (pt_val (pe_call (ok_law_figures T) (hr.mono (by decide)) (by rfl) T.g_law_figures T.F_law_figures.kp (T.b_law_figures) .nil pass0 (pa_cons (pe_ix ix_tup (pv 3) pe_int (fun _ _ => rfl)) (pa_cons pe_int pa_nil)))))
      (pss_one (ps_ret pe_non))
      pss_nil)
    (pss_cons (ps_if (PW.pt (pw_and (pt_cmpR op_eq (pe_ix ix_tup (pv 3) pe_int (fun _ _ => rfl)) pe_str (by first | exact nomark _ | rfl)) (pw_and1 (pt_not (pt_val (pe_call (ok_law_figures T) (hr.mono (by decide)) (by rfl) T.g_law_figures T.F_law_figures.kp (T.b_law_figures) .nil pass0 (pa_cons (pe_ix ix_tup (pv 3) pe_int (fun _ _ => rfl)) (pa_cons pe_int pa_nil))))))))
      (pss_one (ps_ret pe_non))
      pss_nil)
    (pss_cons (ps_set (i := 4) sc_law_read.nd rfl (by first | exact Or.inl rfl | exact Or.inr rfl) pe_int)
    (pss_cons (ps_for PassesOwn.never rfl (pi_str (pe_op op_add_str (pe_op op_add_str (pe_ix ix_tup (pv 3) pe_int (fun _ _ => rfl)) (pe_ix ix_tup (pv 3) pe_int (fun _ _ => rfl))) (pe_op op_repS pe_str (pe_op op_sub pe_int (pe_callB call_len_str (by rfl) T.z_len (by decide +kernel) (pa_cons (pe_ix ix_tup (pv 3) pe_int (fun _ _ => rfl)) pa_nil)))))) (pg_name (i := 5) sc_law_read.nd rfl (by first | exact Or.inl rfl | exact Or.inr rfl))
      (pss_one (ps_set (i := 4) sc_law_read.nd rfl (by first | exact Or.inl rfl | exact Or.inr rfl) (pe_op op_add (pe_op op_mul (pv 4) pe_int) (pe_bm PySem.F.plainAttrs_str PySem.F.slot_str_find PySem.F.type_str_find mt_find pe_str (pa_cons (pv 5) pa_nil))))))
    (pss_cons (ps_set (i := 4) sc_law_read.nd rfl (by first | exact Or.inl rfl | exact Or.inr rfl) (pe_call (ok_law_nearest T) (hr.mono (by decide)) (by rfl) T.g_law_nearest T.F_law_nearest.kp (T.b_law_nearest) .nil pass0 (pa_cons (pv 4) (pa_cons pe_int pa_nil))))
    (pss_cons (ps_if (pt_cmpR op_ge (pv 4) (pe_powc (c := 1000000000000000000000) (by decide) (by decide +kernel)) (by first | exact nomark _ | rfl))
      (pss_one (ps_ret pe_non))
      pss_nil)
    (pss_cons (ps_if (pt_val (pv 2))
      (pss_one (ps_ret (pe_un un_neg (pv 4))))
      pss_nil)
    (pss_one (ps_ret (pv 4)))))))))))))), ?_⟩
    refine' merge2 (C := fun U b => U.length ≤ 100000 ∧ ∀ H' : Hp, Same H H' → Q (readP b (Txt.partition U (S [46]))) H') _ ?tail ?rest
    case rest =>
      intro tail
      walk_at "run0"
      · rename_i h
        rw [e_blank, e_minus] at h
        rw [readV_1 (head_is h)] at q
        rw [e_blank, e_minus, decide_eq_true h, e_dot]
        have hU : (cutS (Txt.stripChars z (S [32])) (some 1) none).length ≤ 100000 := hl4 (hl3 hz)
        generalize cutS (Txt.stripChars z (S [32])) (some 1) none = U at q hU ⊢
        generalize hv : V.bl true = vb
        exact tail U vb true hv.symm ⟨hU, q⟩
      · rename_i h h2
        rw [e_blank, e_minus] at h
        rw [e_blank, e_plus] at h2
        rw [readV_2 (head_not h) (head_is h2)] at q
        rw [e_blank, e_minus, decide_eq_false h, e_dot]
        exact tail _ _ false rfl ⟨hl4 (hl3 hz), q⟩
      · rename_i h h2
        rw [e_blank, e_minus] at h
        rw [e_blank, e_plus] at h2
        rw [readV_3 (head_not h) (head_not h2)] at q
        rw [e_blank, e_minus, decide_eq_false h, e_dot]
        exact tail _ _ false rfl ⟨hl3 hz, q⟩
    case tail =>
      intro U vb b hvb hC
      obtain ⟨lz, q⟩ := hC
      subst hvb
      have pc := part_cases U
      have pl := part_len U (S [46])
      generalize Txt.partition U (S [46]) = P at q pc pl ⊢
      have p1 : P.1.length ≤ 200000 := by omega
      have p2 : P.2.2.length ≤ 200000 := by omega
      intro p hp
      walk_at "run0"
      · rename_i k
        rw [readP_bad1 (fun z => by rw [z] at k; cases k)] at q
        exact q _ (same_upd hp)
      · rename_i k1 k2 k3
        have k4 : ¬ P.2.1 = Str.empty := fun z => by rw [z] at k2; exact absurd (congrArg tl (V.str.inj k2)) (fun w => nomatch w)
        rw [readP_bad2 k4 (fun z => by rw [z] at k3; cases k3)] at q
        exact q _ (same_upd hp)
      · rename_i k1 k2 k3
        have wt := allP_ok pc (nots k1) (Or.inr (nots k3))
        rw [readP_good (nots k1) (Or.inr (nots k3))] at q
        obtain ⟨wt1, wt2, wt3, wt4, wt5⟩ := wt
        have nn := near_nn (a := (worthP P : Nat)) (Int.natCast_nonneg _)
        have l1 := len_tl P.1
        have l2 := len_tl P.2.2
        refine And.intro (by rw [sizeLine_eq]; omega) ?_
        walk_at "run0"
        refine And.intro (by have a := repS_len (Str.ofString "0") ((12 : Int) - (P.2.2.length : Int)).toNat; have b : (Str.ofString "0").length = 1 := (by decide +kernel); have c := Str.length_append P.1 P.2.2; rw [sizeLine_eq]; rw [b, Nat.one_mul] at a; omega) ?_
        refine ⟨_, rfl, ?_⟩
        refine for_it (walk_str (z := allP P)) (fun i σ H' => H' = upd H p (.tup [.str P.1, .str P.2.1, .str P.2.2]) ∧ ∃ u, σ = [some (.str z), some (.str U), some (.bl b), some (.ref p), some (.int (digitsVal ((tl (allP P)).take i) : Nat)), u]) ⟨rfl, none, rfl⟩ (fun _ _ _ _ _ => trivial) (fun i x σ H1 H2 hi hp2 hy => ?_) (fun σ H' hp2 => ?_)
        · obtain ⟨rfl, u, rfl⟩ := hp2
          obtain ⟨rfl, c, ec, rfl⟩ := hy
          have ec2 : (tl (allP P))[i]? = some c := by rw [Array.getElem?_toList]; exact ec
          have dc := wt1 c (List.mem_of_getElem? ec2)
          have ev : ((digitsVal ((tl (allP P)).take i) : Nat) : Int) * 10 + Txt.find (Str.ofString "0123456789") ⟨#[c]⟩ = ((digitsVal ((tl (allP P)).take (i + 1)) : Nat) : Int) := by
            rw [find_tens c dc.1 dc.2, val_step ec2]
            omega
          walk_at "run0"
          exact ⟨some (.str ⟨#[c]⟩), congrArg (fun n : Int => [some (V.str z), some (.str U), some (.bl b), some (.ref p), some (.int n), some (.str ⟨#[c]⟩)]) ev⟩
        · obtain ⟨rfl, u, rfl⟩ := hp2
          have et : (tl (allP P)).take (allP P).cps.size = tl (allP P) := List.take_of_length_le (by simp [tl])
          rw [et, wt2]
          clear wt2 et
          generalize worthP P = n at *
          refine ⟨_, rfl, ?_⟩
          refine ⟨_, _, rfl, ⟨by decide, by decide⟩, ⟨by omega, by omega⟩, ?_⟩
          cases b
          all_goals walk_at "run0"
          all_goals first
            | (rw [readN_out (by omega)] at q; exact q _ (same_upd hp))
            | (rw [readN_in (by omega)] at q; exact q _ (same_upd hp))
      · rename_i k1 k2
        have k3 : P.2.1 = Str.empty := by
          rcases pc with c | c
          · exact absurd (congrArg V.str c) k2
          · exact c.1
        have wt := allP_ok pc (nots k1) (Or.inl k3)
        rw [readP_good (nots k1) (Or.inl k3)] at q
        obtain ⟨wt1, wt2, wt3, wt4, wt5⟩ := wt
        have nn := near_nn (a := (worthP P : Nat)) (Int.natCast_nonneg _)
        have l1 := len_tl P.1
        have l2 := len_tl P.2.2
        refine And.intro (by rw [sizeLine_eq]; omega) ?_
        walk_at "run0"
        refine And.intro (by have a := repS_len (Str.ofString "0") ((12 : Int) - (P.2.2.length : Int)).toNat; have b : (Str.ofString "0").length = 1 := (by decide +kernel); have c := Str.length_append P.1 P.2.2; rw [sizeLine_eq]; rw [b, Nat.one_mul] at a; omega) ?_
        refine ⟨_, rfl, ?_⟩
        refine for_it (walk_str (z := allP P)) (fun i σ H' => H' = upd H p (.tup [.str P.1, .str P.2.1, .str P.2.2]) ∧ ∃ u, σ = [some (.str z), some (.str U), some (.bl b), some (.ref p), some (.int (digitsVal ((tl (allP P)).take i) : Nat)), u]) ⟨rfl, none, rfl⟩ (fun _ _ _ _ _ => trivial) (fun i x σ H1 H2 hi hp2 hy => ?_) (fun σ H' hp2 => ?_)
        · obtain ⟨rfl, u, rfl⟩ := hp2
          obtain ⟨rfl, c, ec, rfl⟩ := hy
          have ec2 : (tl (allP P))[i]? = some c := by rw [Array.getElem?_toList]; exact ec
          have dc := wt1 c (List.mem_of_getElem? ec2)
          have ev : ((digitsVal ((tl (allP P)).take i) : Nat) : Int) * 10 + Txt.find (Str.ofString "0123456789") ⟨#[c]⟩ = ((digitsVal ((tl (allP P)).take (i + 1)) : Nat) : Int) := by
            rw [find_tens c dc.1 dc.2, val_step ec2]
            omega
          walk_at "run0"
          exact ⟨some (.str ⟨#[c]⟩), congrArg (fun n : Int => [some (V.str z), some (.str U), some (.bl b), some (.ref p), some (.int n), some (.str ⟨#[c]⟩)]) ev⟩
        · obtain ⟨rfl, u, rfl⟩ := hp2
          have et : (tl (allP P)).take (allP P).cps.size = tl (allP P) := List.take_of_length_le (by simp [tl])
          rw [et, wt2]
          clear wt2 et
          generalize worthP P = n at *
          refine ⟨_, rfl, ?_⟩
          refine ⟨_, _, rfl, ⟨by decide, by decide⟩, ⟨by omega, by omega⟩, ?_⟩
          cases b
          all_goals walk_at "run0"
          all_goals first
            | (rw [readN_out (by omega)] at q; exact q _ (same_upd hp))
            | (rw [readN_in (by omega)] at q; exact q _ (same_upd hp))

theorem ok_law_words (T : Txt K mg) : FnOk P w K mg base CX0 1 T.a_law_words T.d_law_words P_law_words (sp_law_words K) := by
  refine T.F_law_words.ok sc_law_words (fun vs H Q E h => ?_) (fun cdv A outer s H vs Q E hr h => ?_)
  · obtain ⟨rfl, _⟩ := h
    rfl
  · obtain ⟨rfl, q⟩ := h
    refine ⟨_, (pss_one (ps_ret (pe_tup (pa_cons pe_str (pa_cons pe_str (pa_cons pe_str (pa_cons pe_str (pa_cons pe_str (pa_cons pe_str (pa_cons pe_str (pa_cons pe_str (pa_cons pe_str (pa_cons pe_str pa_nil))))))))))))), ?_⟩
    walk_at "run"
    exact q _ _ (by walk_at "same") (SqT.of upd_same)

theorem ok_law_signs (T : Txt K mg) : FnOk P w K mg base CX0 1 T.a_law_signs T.d_law_signs P_law_signs (sp_law_signs K) := by
  refine T.F_law_signs.ok sc_law_signs (fun vs H Q E h => ?_) (fun cdv A outer s H vs Q E hr h => ?_)
  · obtain ⟨c, m, rfl, _⟩ := h
    rfl
  · obtain ⟨c, m, rfl, hm, q⟩ := h
    refine ⟨_, (pss_cons (ps_set (i := 2) sc_law_signs.nd rfl (by first | exact Or.inl rfl | exact Or.inr rfl) pe_str)
    (pss_cons (ps_set (i := 2) sc_law_signs.nd rfl (by first | exact Or.inl rfl | exact Or.inr rfl) (pe_op op_add_str (pv 2) pe_str))
    (pss_cons (ps_set (i := 3) sc_law_signs.nd rfl (by first | exact Or.inl rfl | exact Or.inr rfl) (pe_lst pa_nil))
    (pss_cons (ps_for PassesOwn.never rfl (pi_range1 (by rfl) T.z_range (pa_cons (pv 1) pa_nil)) (pg_name (i := 4) sc_law_signs.nd rfl (by first | exact Or.inl rfl | exact Or.inr rfl))
      (pss_one (ps_if (pt_cmpR op_gt (pv 0) pe_int (by first | exact nomark _ | rfl))
      (pss_cons (ps_expr (pe_bm PySem.F.plainAttrs_list PySem.F.slot_list_append PySem.F.type_list_append mt_append (pv 3) (pa_cons (pe_ix ix_str (pv 2) (pe_op op_modL (pe_callTy call_int1 (by rfl) T.z_int (by decide +kernel) (pa_cons (pe_op op_sub (pv 0) pe_int) pa_nil)) pe_int) (fun _ _ => rfl)) pa_nil)))
    (pss_one (ps_set (i := 0) sc_law_signs.nd rfl (by first | exact Or.inl rfl | exact Or.inr rfl) (pe_op op_fdiv (pe_op op_sub (pv 0) pe_int) pe_int))))
      pss_nil)))
    (pss_one (ps_ret (pe_bm PySem.F.plainAttrs_str PySem.F.slot_str_join PySem.F.type_str_join mt_join pe_str (pa_cons (pv 3) pa_nil)))))))), ?_⟩
    have gl : (Str.ofString " !\"#$&'()*+,-./0123456789:;<=>?@ABCDEFGHIJKLMNOPQRSTUVWXYZ[\\]^_`" ++ Str.ofString "abcdefghijklmnopqrstuvwxyz{|}~").length = 94 := by decide +kernel
    have ga : Asc (Str.ofString " !\"#$&'()*+,-./0123456789:;<=>?@ABCDEFGHIJKLMNOPQRSTUVWXYZ[\\]^_`" ++ Str.ofString "abcdefghijklmnopqrstuvwxyz{|}~") := asc_lit (by decide +kernel)
    walk_at "run"
    refine And.intro (by decide +kernel) ?_
    generalize Str.ofString " !\"#$&'()*+,-./0123456789:;<=>?@ABCDEFGHIJKLMNOPQRSTUVWXYZ[\\]^_`" ++ Str.ofString "abcdefghijklmnopqrstuvwxyz{|}~" = G at gl ga ⊢
    walk_at "run"
    rename_i p hp
    refine for_range (lo := 0) (n := _) (fun i σ H' => Same H H' ∧ ∃ (zs : List Str) (l : Int) (u : Option V), H' p = some (.lst (zs.map V.str)) ∧ zs.length ≤ i ∧ (∀ z ∈ zs, z.length ≤ 1) ∧ (∀ z ∈ zs, Asc z) ∧ σ = [some (.int l), some (.int m), some (.str G), some (.ref p), u]) ⟨same_upd hp, [], _, none, upd_same, Nat.le_refl _, fun _ h => (nomatch h), fun _ h => (nomatch h), rfl⟩ (fun i σ H' hi hp2 => ?_) (fun σ H' hp2 => ?_)
    · obtain ⟨s1, zs, l, u, hz, hl, h1, h2, rfl⟩ := hp2
      have hi2 : i < 200 := by omega
      walk_at "run"
      · refine ⟨.inl ⟨rfl, _, SqL.of hz⟩, ?_⟩
        walk_at "run"
        rename_i d d0 d1
        refine ixS_goA ga (by omega) d0 (by omega) fun ch hc => ?_
        refine ⟨_, _, _, rfl, rfl, hz, (by rw [List.length_map]; exact small1000 (by omega)), ?_⟩
        rw [more_map]
        walk_at "run"
        exact ⟨same_put s1 hp, _, _, _, upd_same, more_len hl, more_one h1, more_asc h2 hc, rfl⟩
      · exact ⟨zs, _, _, hz, by omega, h1, h2, rfl⟩
    · obtain ⟨s1, zs, l, u, hz, hl, h1, h2, rfl⟩ := hp2
      have jl := join_len h1
      walk_at "run"
      exact ⟨_, p, zs, rfl, rfl, Or.inl (SqL.of hz), Nat.le_trans (join_sum h1) (by omega), q _ _ s1 (by omega) (Asc.join h2)⟩

theorem ok_law_cased (T : Txt K mg) : FnOk P w K mg base CX0 2 T.a_law_cased T.d_law_cased P_law_cased (sp_law_cased K) := by
  refine T.F_law_cased.ok sc_law_cased (fun vs H Q E h => ?_) (fun cdv A outer s H vs Q E hr h => ?_)
  · obtain ⟨w, c, s, rfl, _⟩ := h
    rfl
  · obtain ⟨w, c, s, rfl, ⟨hl, ha⟩, q⟩ := h
    refine ⟨_, (pss_cons (ps_set (i := 3) sc_law_cased.nd rfl (by first | exact Or.inl rfl | exact Or.inr rfl) (pe_lst pa_nil))
    (pss_cons (ps_for PassesOwn.never rfl (pi_range1 (by rfl) T.z_range (pa_cons (pe_callB call_len_str (by rfl) T.z_len (by decide +kernel) (pa_cons (pv 0) pa_nil)) pa_nil)) (pg_name (i := 4) sc_law_cased.nd rfl (by first | exact Or.inl rfl | exact Or.inr rfl))
      (pss_one (ps_if (pt_cmpR op_eq (pe_op op_modL (pe_callTy call_int1 (by rfl) T.z_int (by decide +kernel) (pa_cons (pe_call (ok_law_mix T) (hr.mono (by decide)) (by rfl) T.g_law_mix T.F_law_mix.kp (T.b_law_mix) .nil pass0 (pa_cons (pv 1) (pa_cons (pe_op op_add (pv 2) (pv 4)) pa_nil))) pa_nil)) pe_int) pe_int (by first | exact nomark _ | rfl))
      (pss_one (ps_expr (pe_bm PySem.F.plainAttrs_list PySem.F.slot_list_append PySem.F.type_list_append mt_append (pv 3) (pa_cons (pe_bm0 PySem.F.plainAttrs_str PySem.F.slot_str_lower PySem.F.type_str_lower mt_lower (pe_ix ix_str (pv 0) (pv 4) (fun _ _ => rfl))) pa_nil))))
      (pss_one (ps_expr (pe_bm PySem.F.plainAttrs_list PySem.F.slot_list_append PySem.F.type_list_append mt_append (pv 3) (pa_cons (pe_ix ix_str (pv 0) (pv 4) (fun _ _ => rfl)) pa_nil)))))))
    (pss_cons (ps_set (i := 5) sc_law_cased.nd rfl (by first | exact Or.inl rfl | exact Or.inr rfl) (pe_ix ix_list (pe_lst (pa_cons pe_str (pa_cons pe_str (pa_cons pe_str (pa_cons pe_str (pa_cons pe_str (pa_cons pe_str pa_nil))))))) (pe_op op_modL (pe_callTy call_int1 (by rfl) T.z_int (by decide +kernel) (pa_cons (pe_call (ok_law_mix T) (hr.mono (by decide)) (by rfl) T.g_law_mix T.F_law_mix.kp (T.b_law_mix) .nil pass0 (pa_cons (pv 1) (pa_cons (pe_op op_add (pv 2) pe_int) pa_nil))) pa_nil)) pe_int) (fun _ _ => rfl)))
    (pss_cons (ps_if (pt_cmpR op_eq (pe_op op_modL (pe_callTy call_int1 (by rfl) T.z_int (by decide +kernel) (pa_cons (pe_call (ok_law_mix T) (hr.mono (by decide)) (by rfl) T.g_law_mix T.F_law_mix.kp (T.b_law_mix) .nil pass0 (pa_cons (pv 1) (pa_cons (pe_op op_add (pv 2) pe_int) pa_nil))) pa_nil)) pe_int) pe_int (by first | exact nomark _ | rfl))
      (pss_one (ps_ret (pe_op op_add_str (pv 5) (pe_bm PySem.F.plainAttrs_str PySem.F.slot_str_join PySem.F.type_str_join mt_join pe_str (pa_cons (pv 3) pa_nil)))))
      pss_nil)
    (pss_one (ps_ret (pe_op op_add_str (pe_bm PySem.F.plainAttrs_str PySem.F.slot_str_join PySem.F.type_str_join mt_join pe_str (pa_cons (pv 3) pa_nil)) (pv 5)))))))), ?_⟩
    walk_at "run"
    rename_i p hp
    refine for_range (lo := 0) (n := _) (fun i σ H' => Same H H' ∧ ∃ (zs : List Str) (u : Option V), H' p = some (.lst (zs.map V.str)) ∧ zs.length ≤ i ∧ (∀ z ∈ zs, z.length ≤ 1) ∧ (∀ z ∈ zs, Asc z) ∧ σ = [some (.str w), some (.int c), some (.int s), some (.ref p), u, none]) ⟨same_upd hp, [], none, upd_same, Nat.le_refl _, fun _ h => (nomatch h), fun _ h => (nomatch h), rfl⟩ (fun i σ H' hi hp2 => ?_) (fun σ H' hp2 => ?_)
    · obtain ⟨s1, zs, u, hz, hl, h1, h2, rfl⟩ := hp2
      have hi2 : (i : Int) < w.length := by omega
      walk_at "run"
      · refine ⟨.inl ⟨rfl, _, SqL.of hz⟩, ?_⟩
        walk_at "run"
        refine ixS_goA ha (by omega) (by omega) (by omega) fun ch hc => ?_
        walk_at "run"
        refine And.intro (Nat.le_of_ble_eq_true rfl) ?_
        rw [lower_one hc]
        refine ⟨_, _, _, rfl, rfl, hz, (by rw [List.length_map]; exact small1000 (by omega)), ?_⟩
        rw [more_map]
        exact ⟨same_put s1 hp, _, _, upd_same, more_len hl, more_one h1, more_asc h2 (lo1_small hc), rfl⟩
      · refine ⟨.inl ⟨rfl, _, SqL.of hz⟩, ?_⟩
        walk_at "run"
        refine ixS_goA ha (by omega) (by omega) (by omega) fun ch hc => ?_
        refine ⟨_, _, _, rfl, rfl, hz, (by rw [List.length_map]; exact small1000 (by omega)), ?_⟩
        rw [more_map]
        exact ⟨same_put s1 hp, _, _, upd_same, more_len hl, more_one h1, more_asc h2 hc, rfl⟩
    · obtain ⟨s1, zs, u, hz, hl, h1, h2, rfl⟩ := hp2
      have hl2 : zs.length ≤ 20 := by omega
      have jl := join_len h1
      have ja := Asc.join h2
      walk_at "run"
      refine atI_go (SqL.of upd_same) (by omega) ?_ fun v hv => ?_
      · show _ < (6 : Int)
        omega
      have hv2 : ∃ y : Str, v = .str y ∧ y.length ≤ 1 ∧ Asc y := by
        simp only [List.mem_cons, List.not_mem_nil, or_false] at hv
        rcases hv with rfl | rfl | rfl | rfl | rfl | rfl
        all_goals exact ⟨_, rfl, by decide +kernel, asc_lit (by decide +kernel)⟩
      obtain ⟨y, rfl, hy, hya⟩ := hv2
      have jl2 : (Txt.join (Str.ofString "") zs).length ≤ 20 := by omega
      walk_at "run"
      all_goals refine ⟨_, p, zs, rfl, rfl, Or.inl (SqL.of ((same_upd (by assumption)) _ _ hz)), Nat.le_trans (join_sum h1) (by omega), ?_⟩
      all_goals generalize Txt.join (Str.ofString "") zs = row at jl2 ja ⊢
      all_goals walk_at "run"
      · exact q _ _ (by walk_at "same") (by rw [Str.length_append]; omega) (Asc.app hya ja)
      · exact q _ _ (by walk_at "same") (by rw [Str.length_append]; omega) (Asc.app ja hya)

theorem ok_law_figured (T : Txt K mg) : FnOk P w K mg base CX0 2 T.a_law_figured T.d_law_figured P_law_figured (sp_law_figured K) := by
  refine T.F_law_figured.ok sc_law_figured (fun vs H Q E h => ?_) (fun cdv A outer s H vs Q E hr h => ?_)
  · obtain ⟨c, s, rfl, _⟩ := h
    rfl
  · obtain ⟨c, s, rfl, q⟩ := h
    refine ⟨_, (pss_cons (ps_set (i := 2) sc_law_figured.nd rfl (by first | exact Or.inl rfl | exact Or.inr rfl) (pe_bm PySem.F.plainAttrs_str PySem.F.slot_str_join PySem.F.type_str_join mt_join pe_str (pa_cons (pe_lc (own := [("k", 3)]) (g := gName 3) (tt := tYes) rfl sc_law_figured.nd (pi_range1 (by rfl) T.z_range (pa_cons pe_int pa_nil)) (blkOk_by (N := N_law_figured) (sc := defScope s_law_figured) (by decide +kernel)) (fun _ _ _ _ _ => pg_name (i := 3) sc_law_figured.nd rfl (Or.inl rfl)) (fun _ _ _ _ _ => pts_nil) (fun _ _ _ _ _ => (pe_ix ix_str pe_str (pe_op op_mod (pe_callTy call_int1 (by rfl) T.z_int (by decide +kernel) (pa_cons (pe_call (ok_law_mix T) (hr.mono (by decide)) (by rfl) T.g_law_mix T.F_law_mix.kp (T.b_law_mix) .nil pass0 (pa_cons (pv 0) (pa_cons (pe_op op_add (pv 1) (pv 3)) pa_nil))) pa_nil)) pe_int) (fun _ _ => rfl)))) pa_nil)))
    (pss_one (ps_ret (pe_op op_add_str (pe_op op_add_str (pe_slice sl_str (pv 2) po_none (po_some (pe_op op_mod (pe_callTy call_int1 (by rfl) T.z_int (by decide +kernel) (pa_cons (pe_call (ok_law_mix T) (hr.mono (by decide)) (by rfl) T.g_law_mix T.F_law_mix.kp (T.b_law_mix) .nil pass0 (pa_cons (pv 0) (pa_cons (pe_op op_add (pv 1) pe_int) pa_nil))) pa_nil)) pe_int))) pe_str) (pe_slice sl_str (pv 2) (po_some pe_int) (po_some (pe_op op_add pe_int (pe_op op_mod (pe_callTy call_int1 (by rfl) T.z_int (by decide +kernel) (pa_cons (pe_call (ok_law_mix T) (hr.mono (by decide)) (by rfl) T.g_law_mix T.F_law_mix.kp (T.b_law_mix) .nil pass0 (pa_cons (pv 0) (pa_cons (pe_op op_add (pv 1) pe_int) pa_nil))) pa_nil)) pe_int)))))))), ?_⟩
    have q1 : (Str.ofString ".").length ≤ 1 := by decide +kernel
    have ta : Asc (Str.ofString "0123456789") := asc_lit (by decide +kernel)
    walk_at "run"
    rename_i D hD
    refine lc_range (lo := 0) (n := _) (fun i H' => Same H H' ∧ ∃ zs : List Str, H' D = some (.lst (zs.map V.str)) ∧ zs.length ≤ i ∧ (∀ z ∈ zs, z.length ≤ 1) ∧ ∀ z ∈ zs, Asc z) ⟨same_upd hD, [], upd_same, Nat.le_refl _, fun _ h => (nomatch h), fun _ h => (nomatch h)⟩ (fun i H' hi hp => ?_) (fun H' hp => ?_)
    · obtain ⟨s1, zs, hz, hl, h1, h2⟩ := hp
      have hi2 : i < 30 := hi
      walk_at "run"
      refine ixS_goA ta (by rw [tens_len]; decide) (by omega) (by rw [tens_len]; omega) fun ch hc => ?_
      refine ⟨_, hz, (by rw [List.length_map]; exact small1000 (by omega)), same_put s1 hD, zs ++ [⟨#[ch]⟩], ?_, more_len hl, more_one h1, more_asc h2 hc⟩
      rw [more_map]
      exact upd_same
    · obtain ⟨s1, zs, hz, hl, h1, h2⟩ := hp
      have hl2 : zs.length ≤ 30 := hl
      refine ⟨_, D, zs, rfl, rfl, Or.inl (SqL.of hz), Nat.le_trans (join_sum h1) (by omega), ?_⟩
      have jl := Nat.le_trans (join_len h1) (show 1 * zs.length ≤ 30 by omega)
      have ja := Asc.join h2
      generalize Txt.join (Str.ofString "") zs = row at jl ja ⊢
      walk_at "run"
      all_goals exact q _ _ (by walk_at "same") (by walk_at "ln") (Asc.app (Asc.app (Asc.cut ja) (asc_lit (by decide +kernel))) (Asc.cut ja))

theorem ok_law_text (T : Txt K mg) : FnOk P w K mg base CX0 3 T.a_law_text T.d_law_text P_law_text (sp_law_text K) := by
  refine T.F_law_text.ok sc_law_text (fun vs H Q E h => ?_) (fun cdv A outer s H vs Q E hr h => ?_)
  · obtain ⟨c, s, rfl, _⟩ := h
    rfl
  · obtain ⟨c, s, rfl, q⟩ := h
    refine ⟨_, (pss_cons (ps_set (i := 2) sc_law_text.nd rfl (by first | exact Or.inl rfl | exact Or.inr rfl) (pe_op op_mod (pe_callTy call_int1 (by rfl) T.z_int (by decide +kernel) (pa_cons (pe_call (ok_law_mix T) (hr.mono (by decide)) (by rfl) T.g_law_mix T.F_law_mix.kp (T.b_law_mix) .nil pass0 (pa_cons (pv 0) (pa_cons (pv 1) pa_nil))) pa_nil)) pe_int))
    (pss_cons (ps_set (i := 3) sc_law_text.nd rfl (by first | exact Or.inl rfl | exact Or.inr rfl) (pe_call (ok_law_mix T) (hr.mono (by decide)) (by rfl) T.g_law_mix T.F_law_mix.kp (T.b_law_mix) .nil pass0 (pa_cons (pv 0) (pa_cons (pe_op op_add (pv 1) pe_int) pa_nil))))
    (pss_cons (ps_if (pt_cmpR op_lt (pv 2) pe_int (by first | exact nomark _ | rfl))
      (pss_one (ps_ret (pe_call (ok_law_cased T) (hr.mono (by decide)) (by rfl) T.g_law_cased T.F_law_cased.kp (T.b_law_cased) .nil pass0 (pa_cons (pe_ix ix_list (pe_lst (pa_cons pe_str (pa_cons pe_str pa_nil))) (pe_op op_mod (pe_callTy call_int1 (by rfl) T.z_int (by decide +kernel) (pa_cons (pv 3) pa_nil)) pe_int) (fun _ _ => rfl)) (pa_cons (pv 0) (pa_cons (pe_op op_add (pv 1) pe_int) pa_nil))))))
      pss_nil)
    (pss_cons (ps_if (PW.pt (pw_or (pt_cmpR op_eq (pv 2) pe_int (by first | exact nomark _ | rfl)) (pw_or1 (pt_cmpR op_eq (pv 2) pe_int (by first | exact nomark _ | rfl)))))
      (pss_cons (ps_set (i := 4) sc_law_text.nd rfl (by first | exact Or.inl rfl | exact Or.inr rfl) (pe_op op_add_str (pe_ix ix_list (pe_lst (pa_cons pe_str (pa_cons pe_str (pa_cons pe_str (pa_cons pe_str pa_nil))))) (pe_op op_mod (pe_callTy call_int1 (by rfl) T.z_int (by decide +kernel) (pa_cons (pv 3) pa_nil)) pe_int) (fun _ _ => rfl)) (pe_call (ok_law_written T) (hr.mono (by decide)) (by rfl) T.g_law_written T.F_law_written.kp (T.b_law_written) .nil pass0 (pa_cons (pe_call (ok_law_amount T) (hr.mono (by decide)) (by rfl) T.g_law_amount T.F_law_amount.kp (T.b_law_amount) .nil pass0 (pa_cons (pv 0) (pa_cons (pe_op op_add (pv 1) pe_int) pa_nil))) pa_nil))))
    (pss_one (ps_ret (pe_op op_add_str (pe_op op_add_str (pe_op op_repS pe_str (pe_op op_mod (pe_op op_fdiv (pe_callTy call_int1 (by rfl) T.z_int (by decide +kernel) (pa_cons (pv 3) pa_nil)) pe_int) pe_int)) (pv 4)) (pe_op op_repS pe_str (pe_op op_mod (pe_op op_fdiv (pe_callTy call_int1 (by rfl) T.z_int (by decide +kernel) (pa_cons (pv 3) pa_nil)) pe_int) pe_int))))))
      pss_nil)
    (pss_cons (ps_if (pt_cmpR op_eq (pv 2) pe_int (by first | exact nomark _ | rfl))
      (pss_one (ps_ret (pe_call (ok_law_figured T) (hr.mono (by decide)) (by rfl) T.g_law_figured T.F_law_figured.kp (T.b_law_figured) .nil pass0 (pa_cons (pv 0) (pa_cons (pe_op op_add (pv 1) pe_int) pa_nil)))))
      pss_nil)
    (pss_cons (ps_if (pt_cmpR op_eq (pv 2) pe_int (by first | exact nomark _ | rfl))
      (pss_one (ps_ret (pe_op op_add_str (pe_op op_add_str pe_str (pe_ix ix_tup (pe_call0 (ok_law_words T) (hr.mono (by decide)) (by rfl) T.g_law_words T.F_law_words.kp (T.b_law_words) .nil pass0) (pe_op op_mod (pe_callTy call_int1 (by rfl) T.z_int (by decide +kernel) (pa_cons (pv 3) pa_nil)) pe_int) (fun _ _ => rfl))) pe_str)))
      pss_nil)
    (pss_cons (ps_if (pt_cmpR op_eq (pv 2) pe_int (by first | exact nomark _ | rfl))
      (pss_one (ps_ret (pe_op op_repS (pe_call (ok_law_signs T) (hr.mono (by decide)) (by rfl) T.g_law_signs T.F_law_signs.kp (T.b_law_signs) .nil pass0 (pa_cons (pe_op op_add pe_int (pe_op op_mod (pe_callTy call_int1 (by rfl) T.z_int (by decide +kernel) (pa_cons (pv 3) pa_nil)) pe_int)) (pa_cons pe_int pa_nil))) (pe_op op_add pe_int (pe_op op_mod (pe_op op_fdiv (pe_callTy call_int1 (by rfl) T.z_int (by decide +kernel) (pa_cons (pv 3) pa_nil)) pe_int) pe_int)))))
      pss_nil)
    (pss_cons (ps_if (pt_cmpR op_eq (pv 2) pe_int (by first | exact nomark _ | rfl))
      (pss_one (ps_ret pe_str))
      pss_nil)
    (pss_one (ps_ret (pe_call (ok_law_signs T) (hr.mono (by decide)) (by rfl) T.g_law_signs T.F_law_signs.kp (T.b_law_signs) .nil pass0 (pa_cons (pe_op op_mul (pv 3) (pv 3)) (pa_cons (pe_op op_add pe_int (pe_op op_mod (pe_callTy call_int1 (by rfl) T.z_int (by decide +kernel) (pa_cons (pv 3) pa_nil)) pe_int)) pa_nil))))))))))))), ?_⟩
    have q1 : (Str.ofString " ").length ≤ 1 := by decide +kernel
    have a1 : Asc (Str.ofString " ") := asc_lit (by decide +kernel)
    have q2 : (Str.ofString "#").length ≤ 1 := by decide +kernel
    have a2 : Asc (Str.ofString "#") := asc_lit (by decide +kernel)
    have q3 : (Str.ofString "!").length ≤ 1 := by decide +kernel
    have a3 : Asc (Str.ofString "!") := asc_lit (by decide +kernel)
    walk_at "run"
    · refine atI_go (SqL.of upd_same) (by omega) (by show _ < (2 : Int); omega) fun v hv => ?_
      have hv2 : ∃ y : Str, v = .str y ∧ y.length ≤ 20 ∧ Asc y := by
        simp only [List.mem_cons, List.not_mem_nil, or_false] at hv
        rcases hv with rfl | rfl
        all_goals exact ⟨_, rfl, by decide +kernel, asc_lit (by decide +kernel)⟩
      obtain ⟨y, rfl, hy, hya⟩ := hv2
      walk_at "run"
      refine ⟨_, _, _, rfl, ⟨hy, hya⟩, fun z H1 s1 hl ha => ?_⟩
      exact q _ _ (by walk_at "same") (by omega) ha
    · refine atI_go (SqL.of upd_same) (by omega) (by show _ < (4 : Int); omega) fun v hv => ?_
      have hv2 : ∃ y : Str, v = .str y ∧ y.length ≤ 1 ∧ Asc y := by
        simp only [List.mem_cons, List.not_mem_nil, or_false] at hv
        rcases hv with rfl | rfl | rfl | rfl
        all_goals exact ⟨_, rfl, by decide +kernel, asc_lit (by decide +kernel)⟩
      obtain ⟨y, rfl, hy, hya⟩ := hv2
      walk_at "run"
      rename_i m H1 s1 m0 m1
      have q8 := show_len ⟨m0, m1⟩
      have a8 := show_asc m
      walk_at "run"
      exact q _ _ (by walk_at "same") (by walk_at "ln") (Asc.app (Asc.app (Asc.rep a1) (Asc.app hya a8)) (Asc.rep a1))
    · refine atI_go (SqL.of upd_same) (by omega) (by show _ < (4 : Int); omega) fun v hv => ?_
      have hv2 : ∃ y : Str, v = .str y ∧ y.length ≤ 1 ∧ Asc y := by
        simp only [List.mem_cons, List.not_mem_nil, or_false] at hv
        rcases hv with rfl | rfl | rfl | rfl
        all_goals exact ⟨_, rfl, by decide +kernel, asc_lit (by decide +kernel)⟩
      obtain ⟨y, rfl, hy, hya⟩ := hv2
      walk_at "run"
      rename_i m H1 s1 m0 m1
      have q8 := show_len ⟨m0, m1⟩
      have a8 := show_asc m
      walk_at "run"
      exact q _ _ (by walk_at "same") (by walk_at "ln") (Asc.app (Asc.app (Asc.rep a1) (Asc.app hya a8)) (Asc.rep a1))
    · exact q _ _ (by walk_at "same") (by omega) (by assumption)
    · refine atT_go (by assumption) (by omega) (by show _ < (10 : Int); omega) fun v hv => ?_
      obtain ⟨y, rfl, hy, hya⟩ := wds_mem hv
      walk_at "run"
      exact q _ _ (by walk_at "same") (by walk_at "ln") (Asc.app (Asc.app a2 hya) a3)
    · exact q _ _ (by walk_at "same") (Lr 200 (by omega) (by omega)) (Asc.rep (by assumption))
    · exact q _ _ (by walk_at "same") (by decide +kernel) (asc_lit (by decide +kernel))
    · exact q _ _ (by walk_at "same") (by omega) (by assumption)

theorem ok_law_scalar (T : Txt K mg) : FnOk P w K mg base CX0 4 T.a_law_scalar T.d_law_scalar P_law_scalar (sp_law_scalar K) := by
  refine T.F_law_scalar.ok sc_law_scalar (fun vs H Q E h => ?_) (fun cdv A outer s H vs Q E hr h => ?_)
  · obtain ⟨c, t, rfl, _⟩ := h
    rfl
  · obtain ⟨c, t, rfl, q⟩ := h
    refine ⟨_, (pss_cons (ps_if (pt_cmpR op_ge (pv 0) (pe_powc (c := 1000000000000000000) (by decide) (by decide +kernel)) (by first | exact nomark _ | rfl))
      (pss_cons (ps_set (i := 2) sc_law_scalar.nd rfl (by first | exact Or.inl rfl | exact Or.inr rfl) (pe_op op_mod (pe_callTy call_int1 (by rfl) T.z_int (by decide +kernel) (pa_cons (pe_op op_sub (pv 0) (pe_powc (c := 1000000000000000000) (by decide) (by decide +kernel))) pa_nil)) pe_int))
    (pss_cons (ps_set (i := 3) sc_law_scalar.nd rfl (by first | exact Or.inl rfl | exact Or.inr rfl) (pe_op op_fdiv (pe_op op_sub (pv 0) (pe_powc (c := 1000000000000000000) (by decide) (by decide +kernel))) pe_int))
    (pss_cons (ps_set (i := 4) sc_law_scalar.nd rfl (by first | exact Or.inl rfl | exact Or.inr rfl) (pe_op op_add (pe_op op_sub (pe_op op_mod (pe_callTy call_int1 (by rfl) T.z_int (by decide +kernel) (pa_cons (pv 3) pa_nil)) (pe_op op_sub (pe_op op_mul pe_int (pe_powc (c := 1000000000000000000000) (by decide) (by decide +kernel))) pe_int)) (pe_powc (c := 1000000000000000000000) (by decide) (by decide +kernel))) pe_int))
    (pss_one (ps_set (i := 5) sc_law_scalar.nd rfl (by first | exact Or.inl rfl | exact Or.inr rfl) (pe_call (ok_law_signs T) (hr.mono (by decide)) (by rfl) T.g_law_signs T.F_law_signs.kp (T.b_law_signs) .nil pass0 (pa_cons (pv 3) (pa_cons pe_int pa_nil))))))))
      (pss_cons (ps_set (i := 2) sc_law_scalar.nd rfl (by first | exact Or.inl rfl | exact Or.inr rfl) (pe_ix ix_list (pe_lst (pa_cons pe_int (pa_cons pe_int (pa_cons pe_int (pa_cons pe_int (pa_cons pe_int (pa_cons pe_int (pa_cons pe_int (pa_cons pe_int pa_nil))))))))) (pe_op op_mod (pe_callTy call_int1 (by rfl) T.z_int (by decide +kernel) (pa_cons (pe_call (ok_law_mix T) (hr.mono (by decide)) (by rfl) T.g_law_mix T.F_law_mix.kp (T.b_law_mix) .nil pass0 (pa_cons (pv 0) (pa_cons (pv 1) pa_nil))) pa_nil)) pe_int) (fun _ _ => rfl)))
    (pss_cons (ps_set (i := 3) sc_law_scalar.nd rfl (by first | exact Or.inl rfl | exact Or.inr rfl) (pe_call (ok_law_mix T) (hr.mono (by decide)) (by rfl) T.g_law_mix T.F_law_mix.kp (T.b_law_mix) .nil pass0 (pa_cons (pv 0) (pa_cons (pe_op op_add (pv 1) pe_int) pa_nil))))
    (pss_cons (ps_set (i := 4) sc_law_scalar.nd rfl (by first | exact Or.inl rfl | exact Or.inr rfl) (pe_call (ok_law_amount T) (hr.mono (by decide)) (by rfl) T.g_law_amount T.F_law_amount.kp (T.b_law_amount) .nil pass0 (pa_cons (pv 0) (pa_cons (pe_op op_add (pv 1) pe_int) pa_nil))))
    (pss_one (ps_set (i := 5) sc_law_scalar.nd rfl (by first | exact Or.inl rfl | exact Or.inr rfl) (pe_call (ok_law_text T) (hr.mono (by decide)) (by rfl) T.g_law_text T.F_law_text.kp (T.b_law_text) .nil pass0 (pa_cons (pv 0) (pa_cons (pe_op op_add (pv 1) pe_int) pa_nil)))))))))
    (pss_cons (ps_if (pt_cmpR op_eq (pv 2) pe_int (by first | exact nomark _ | rfl))
      (pss_one (ps_ret (pe_tup (pa_cons pe_str pa_nil))))
      pss_nil)
    (pss_cons (ps_if (pt_cmpR op_eq (pv 2) pe_int (by first | exact nomark _ | rfl))
      (pss_one (ps_ret (pe_tup (pa_cons pe_str (pa_cons (pv 4) pa_nil)))))
      pss_nil)
    (pss_cons (ps_if (pt_cmpR op_eq (pv 2) pe_int (by first | exact nomark _ | rfl))
      (pss_one (ps_ret (pe_tup (pa_cons pe_str (pa_cons (pe_cmpR op_eq (pe_op op_mod (pe_callTy call_int1 (by rfl) T.z_int (by decide +kernel) (pa_cons (pv 3) pa_nil)) pe_int) pe_int (by first | exact nomark _ | rfl)) pa_nil)))))
      pss_nil)
    (pss_cons (ps_if (pt_cmpR op_eq (pv 2) pe_int (by first | exact nomark _ | rfl))
      (pss_one (ps_ret (pe_tup (pa_cons pe_str (pa_cons (pv 5) pa_nil)))))
      pss_nil)
    (pss_one (ps_ret (pe_tup (pa_cons pe_str (pa_cons (pe_ix ix_tup (pe_call0 (ok_law_words T) (hr.mono (by decide)) (by rfl) T.g_law_words T.F_law_words.kp (T.b_law_words) .nil pass0) (pe_op op_mod (pe_callTy call_int1 (by rfl) T.z_int (by decide +kernel) (pa_cons (pv 3) pa_nil)) pe_int) (fun _ _ => rfl)) pa_nil)))))))))), ?_⟩
    walk_at "run"
    · exact q _ .empty _ (by walk_at "same") (SqT.of upd_same) trivial
    · exact q _ (.num _) _ (by walk_at "same") (SqT.of upd_same) ⟨by omega, by omega⟩
    · exact q _ (.tru _) _ (by walk_at "same") (SqT.of upd_same) trivial
    · exact q _ (.txt _) _ (by walk_at "same") (SqT.of upd_same) ⟨by omega, by assumption⟩
    · refine atT_go (by assumption) (by omega) (by show _ < (10 : Int); omega) fun v hv => ?_
      obtain ⟨y, rfl, hy, hya⟩ := wds_mem hv
      walk_at "run"
      exact q _ (.err y) _ (by walk_at "same") (SqT.of upd_same) ⟨by omega, hya⟩
    · refine atI_go (SqL.of upd_same) (by omega) (by show _ < (8 : Int); omega) fun v hv => ?_
      have hv2 : ∃ k : Int, v = .int k ∧ 0 ≤ k ∧ k ≤ 4 := by
        simp only [List.mem_cons, List.not_mem_nil, or_false] at hv
        rcases hv with rfl | rfl | rfl | rfl | rfl | rfl | rfl | rfl
        all_goals exact ⟨_, rfl, by decide, by decide⟩
      obtain ⟨k, rfl, k0, k1⟩ := hv2
      walk_at "run"
      · exact q _ .empty _ (by walk_at "same") (SqT.of upd_same) trivial
      · exact q _ (.num _) _ (by walk_at "same") (SqT.of upd_same) ⟨by omega, by omega⟩
      · exact q _ (.tru _) _ (by walk_at "same") (SqT.of upd_same) trivial
      · exact q _ (.txt _) _ (by walk_at "same") (SqT.of upd_same) ⟨by omega, by assumption⟩
      · refine atT_go (by assumption) (by omega) (by show _ < (10 : Int); omega) fun v hv => ?_
        obtain ⟨y, rfl, hy, hya⟩ := wds_mem hv
        walk_at "run"
        exact q _ (.err y) _ (by walk_at "same") (SqT.of upd_same) ⟨by omega, hya⟩

theorem ok_law_number (T : Txt K mg) : FnOk P w K mg base CX0 3 T.a_law_number T.d_law_number P_law_number (sp_law_number K) := by
  refine T.F_law_number.ok sc_law_number (fun vs H Q E h => ?_) (fun cdv A outer s H vs Q E hr h => ?_)
  · obtain ⟨p, s, rfl, _⟩ := h
    rfl
  · obtain ⟨p, s, rfl, hp, hs, q⟩ := h
    refine ⟨_, (pss_cons (ps_if (pt_cmpR op_eq (pe_ix ix_tup (pv 0) pe_int (fun _ _ => rfl)) pe_str (by first | exact nomark _ | rfl))
      (pss_one (ps_ret (pe_tup (pa_cons pe_str (pa_cons pe_int pa_nil)))))
      pss_nil)
    (pss_cons (ps_if (pt_cmpR op_eq (pe_ix ix_tup (pv 0) pe_int (fun _ _ => rfl)) pe_str (by first | exact nomark _ | rfl))
      (pss_one (ps_ret (pe_tup (pa_cons pe_str (pa_cons (pe_op op_mul pe_int (pe_callTy call_int1 (by rfl) T.z_int (by decide +kernel) (pa_cons (pe_ix ix_tup (pv 0) pe_int (fun _ _ => rfl)) pa_nil))) pa_nil)))))
      pss_nil)
    (pss_cons (ps_if (pt_cmpR op_eq (pe_ix ix_tup (pv 0) pe_int (fun _ _ => rfl)) pe_str (by first | exact nomark _ | rfl))
      (pss_cons (ps_set (i := 1) sc_law_number.nd rfl (by first | exact Or.inl rfl | exact Or.inr rfl) (pe_call (ok_law_read T) (hr.mono (by decide)) (by rfl) T.g_law_read T.F_law_read.kp (T.b_law_read) .nil pass0 (pa_cons (pe_ix ix_tup (pv 0) pe_int (fun _ _ => rfl)) pa_nil)))
    (pss_cons (ps_if (pt_cmpR op_isN (pv 1) pe_non (by first | exact nomark _ | rfl))
      (pss_one (ps_ret (pe_tup (pa_cons pe_str (pa_cons pe_str pa_nil)))))
      pss_nil)
    (pss_one (ps_ret (pe_tup (pa_cons pe_str (pa_cons (pv 1) pa_nil)))))))
      pss_nil)
    (pss_one (ps_ret (pv 0)))))), ?_⟩
    rcases s with _ | m | b | z | z
    · walk_at "run"
      exact q _ _ (by walk_at "same") (SqT.of upd_same)
    · walk_at "run"
      exact q _ _ (Same.refl _) hp
    · cases b
      all_goals walk_at "run"
      all_goals exact q _ _ (by walk_at "same") (SqT.of upd_same)
    · obtain ⟨hz, ha⟩ := hs
      rcases readV_kind z with e | ⟨m, e, hm⟩
      · rw [show (Sc.txt z).num' = .err "VALUE" from numT_non e] at q
        walk_at "run"
        · exact q _ _ (by walk_at "same") (SqT.of upd_same)
        · rename_i h _ _
          exact absurd e h
      · rw [show (Sc.txt z).num' = .num m from numT_int e] at q
        walk_at "run"
        · rename_i h _ _ 
          exact absurd (e.symm.trans h) (fun z => nomatch z)
        · rw [e]
          exact q _ _ (by walk_at "same") (SqT.of upd_same)
    · walk_at "run"
      exact q _ _ (Same.refl _) hp

theorem ok_law_truth (T : Txt K mg) : FnOk P w K mg base CX0 1 T.a_law_truth T.d_law_truth P_law_truth (sp_law_truth K) := by
  refine T.F_law_truth.ok sc_law_truth (fun vs H Q E h => ?_) (fun cdv A outer s H vs Q E hr h => ?_)
  · obtain ⟨p, s, rfl, _⟩ := h
    rfl
  · obtain ⟨p, s, rfl, hp, hs, q⟩ := h
    refine ⟨_, (pss_cons (ps_if (pt_cmpR op_eq (pe_ix ix_tup (pv 0) pe_int (fun _ _ => rfl)) pe_str (by first | exact nomark _ | rfl))
      (pss_one (ps_ret (pe_tup (pa_cons pe_str (pa_cons pe_bl pa_nil)))))
      pss_nil)
    (pss_cons (ps_if (pt_cmpR op_eq (pe_ix ix_tup (pv 0) pe_int (fun _ _ => rfl)) pe_str (by first | exact nomark _ | rfl))
      (pss_one (ps_ret (pe_tup (pa_cons pe_str (pa_cons (pe_cmpR op_ne (pe_ix ix_tup (pv 0) pe_int (fun _ _ => rfl)) pe_int (by first | exact nomark _ | rfl)) pa_nil)))))
      pss_nil)
    (pss_cons (ps_if (pt_cmpR op_eq (pe_ix ix_tup (pv 0) pe_int (fun _ _ => rfl)) pe_str (by first | exact nomark _ | rfl))
      (pss_cons (ps_if (PW.pt (pw_or (pt_cmpR op_eq (pe_bm0 PySem.F.plainAttrs_str PySem.F.slot_str_upper PySem.F.type_str_upper mt_upper (pe_ix ix_tup (pv 0) pe_int (fun _ _ => rfl))) pe_str (by first | exact nomark _ | rfl)) (pw_or1 (pt_cmpR op_eq (pe_bm0 PySem.F.plainAttrs_str PySem.F.slot_str_upper PySem.F.type_str_upper mt_upper (pe_ix ix_tup (pv 0) pe_int (fun _ _ => rfl))) pe_str (by first | exact nomark _ | rfl)))))
      (pss_one (ps_ret (pe_tup (pa_cons pe_str (pa_cons (pe_cmpR op_eq (pe_bm0 PySem.F.plainAttrs_str PySem.F.slot_str_upper PySem.F.type_str_upper mt_upper (pe_ix ix_tup (pv 0) pe_int (fun _ _ => rfl))) pe_str (by first | exact nomark _ | rfl)) pa_nil)))))
      pss_nil)
    (pss_one (ps_ret (pe_tup (pa_cons pe_str (pa_cons pe_str pa_nil))))))
      pss_nil)
    (pss_one (ps_ret (pv 0)))))), ?_⟩
    rcases s with _ | m | b | z | z
    · walk_at "run"
      exact q _ _ (by walk_at "same") (SqT.of upd_same)
    · walk_at "run"
      exact q _ _ (by walk_at "same") (SqT.of upd_same)
    · walk_at "run"
      exact q _ _ (Same.refl _) hp
    · obtain ⟨hz, ha⟩ := hs
      walk_at "run"
      · rename_i h _ _
        rw [truth_in (Or.inl (V.str.inj h))] at q
        exact q _ _ (by walk_at "same") (SqT.of upd_same)
      · rename_i h _ _
        rw [truth_in (Or.inr (V.str.inj h))] at q
        exact q _ _ (by walk_at "same") (SqT.of upd_same)
      · rename_i h h2 _ _
        rw [truth_out (fun z => z.elim (fun y => h (congrArg V.str y)) fun y => h2 (congrArg V.str y))] at q
        exact q _ _ (by walk_at "same") (SqT.of upd_same)
    · walk_at "run"
      exact q _ _ (Same.refl _) hp

theorem ok_law_whole (T : Txt K mg) : FnOk P w K mg base CX0 4 T.a_law_whole T.d_law_whole P_law_whole (sp_law_whole K) := by
  refine T.F_law_whole.ok sc_law_whole (fun vs H Q E h => ?_) (fun cdv A outer s H vs Q E hr h => ?_)
  · obtain ⟨p, s, rfl, _⟩ := h
    rfl
  · obtain ⟨p, s, rfl, hp, hs, q⟩ := h
    refine ⟨_, (pss_cons (ps_set (i := 0) sc_law_whole.nd rfl (by first | exact Or.inl rfl | exact Or.inr rfl) (pe_call (ok_law_number T) (hr.mono (by decide)) (by rfl) T.g_law_number T.F_law_number.kp (T.b_law_number) .nil pass0 (pa_cons (pv 0) pa_nil)))
    (pss_cons (ps_if (pt_cmpR op_eq (pe_ix ix_tup (pv 0) pe_int (fun _ _ => rfl)) pe_str (by first | exact nomark _ | rfl))
      (pss_one (ps_ret (pv 0)))
      pss_nil)
    (pss_cons (ps_set (i := 1) sc_law_whole.nd rfl (by first | exact Or.inl rfl | exact Or.inr rfl) (pe_op op_mul (pe_op op_fdiv (pe_ix ix_tup (pv 0) pe_int (fun _ _ => rfl)) pe_int) pe_int))
    (pss_cons (ps_if (pt_cmpR op_le (pv 1) (pe_un un_neg (pe_powc (c := 1000000000000000000000) (by decide) (by decide +kernel))) (by first | exact nomark _ | rfl))
      (pss_one (ps_ret (pe_tup (pa_cons pe_str (pa_cons pe_str pa_nil)))))
      pss_nil)
    (pss_one (ps_ret (pe_tup (pa_cons pe_str (pa_cons (pv 1) pa_nil))))))))), ?_⟩
    rcases num_case s hs with ⟨m, e, hm⟩ | ⟨z, e⟩
    · rw [e] at q
      walk_at "run"
      rename_i r H1 s1 h1
      rw [e] at h1
      walk_at "run"
      · rename_i c _ _
        rw [show (Sc.num m).wh = .err "NUM" from if_neg (by omega)] at q
        exact q _ _ (by walk_at "same") (SqT.of upd_same)
      · rename_i c _ _
        have ee : m / 1000000 * 1000000 = m - m % 1000000 := by omega
        rw [show (Sc.num m).wh = .num (m / 1000000 * 1000000) from (if_pos (by omega)).trans (congrArg Sc.num ee.symm)] at q
        exact q _ _ (by walk_at "same") (SqT.of upd_same)
    · rw [e] at q
      walk_at "run"
      rename_i r H1 s1 h1
      rw [e] at h1
      walk_at "run"
      exact q _ _ s1 h1

theorem ok_law_shown (T : Txt K mg) : FnOk P w K mg base CX0 2 T.a_law_shown T.d_law_shown P_law_shown (sp_law_shown K) := by
  refine T.F_law_shown.ok sc_law_shown (fun vs H Q E h => ?_) (fun cdv A outer s H vs Q E hr h => ?_)
  · obtain ⟨p, s, rfl, _⟩ := h
    rfl
  · obtain ⟨p, s, rfl, hp, hs, q⟩ := h
    refine ⟨_, (pss_cons (ps_if (pt_cmpR op_eq (pe_ix ix_tup (pv 0) pe_int (fun _ _ => rfl)) pe_str (by first | exact nomark _ | rfl))
      (pss_one (ps_ret pe_str))
      pss_nil)
    (pss_cons (ps_if (pt_cmpR op_eq (pe_ix ix_tup (pv 0) pe_int (fun _ _ => rfl)) pe_str (by first | exact nomark _ | rfl))
      (pss_one (ps_ret (pe_call (ok_law_written T) (hr.mono (by decide)) (by rfl) T.g_law_written T.F_law_written.kp (T.b_law_written) .nil pass0 (pa_cons (pe_ix ix_tup (pv 0) pe_int (fun _ _ => rfl)) pa_nil))))
      pss_nil)
    (pss_cons (ps_if (pt_cmpR op_eq (pe_ix ix_tup (pv 0) pe_int (fun _ _ => rfl)) pe_str (by first | exact nomark _ | rfl))
      (pss_one (ps_ret (pe_ix ix_list (pe_lst (pa_cons pe_str (pa_cons pe_str pa_nil))) (pe_callTy call_int1 (by rfl) T.z_int (by decide +kernel) (pa_cons (pe_ix ix_tup (pv 0) pe_int (fun _ _ => rfl)) pa_nil)) (fun _ _ => rfl))))
      pss_nil)
    (pss_cons (ps_if (pt_cmpR op_eq (pe_ix ix_tup (pv 0) pe_int (fun _ _ => rfl)) pe_str (by first | exact nomark _ | rfl))
      (pss_one (ps_ret (pe_ix ix_tup (pv 0) pe_int (fun _ _ => rfl))))
      pss_nil)
    (pss_one (ps_ret (pe_op op_add_str (pe_op op_add_str pe_str (pe_ix ix_tup (pv 0) pe_int (fun _ _ => rfl))) pe_str))))))), ?_⟩
    have q1 : (Str.ofString "#").length ≤ 1 := by decide +kernel
    have q2 : (Str.ofString "!").length ≤ 1 := by decide +kernel
    rcases s with _ | m | b | z | z
    · walk_at "run"
      exact q _ (Same.refl _)
    · walk_at "run"
      exact q _ (by walk_at "same")
    · cases b
      · walk_at "run"
        refine ⟨_, _, _, _, rfl, rfl, same_tk (same_upd (by assumption)) _ _ hp, rfl, ?_⟩
        walk_at "run"
        exact q _ (by walk_at "same")
      · walk_at "run"
        refine ⟨_, _, _, _, rfl, rfl, same_tk (same_upd (by assumption)) _ _ hp, rfl, ?_⟩
        walk_at "run"
        exact q _ (by walk_at "same")
    · walk_at "run"
      exact q _ (Same.refl _)
    · obtain ⟨hz, ha⟩ := hs
      walk_at "run"
      exact q _ (Same.refl _)

theorem ok_law_texted (T : Txt K mg) : FnOk P w K mg base CX0 3 T.a_law_texted T.d_law_texted P_law_texted (sp_law_texted K) := by
  refine T.F_law_texted.ok sc_law_texted (fun vs H Q E h => ?_) (fun cdv A outer s H vs Q E hr h => ?_)
  · obtain ⟨p, s, rfl, _⟩ := h
    rfl
  · obtain ⟨p, s, rfl, hp, hs, q⟩ := h
    refine ⟨_, (pss_cons (ps_if (pt_cmpR op_eq (pe_ix ix_tup (pv 0) pe_int (fun _ _ => rfl)) pe_str (by first | exact nomark _ | rfl))
      (pss_one (ps_ret (pv 0)))
      pss_nil)
    (pss_one (ps_ret (pe_tup (pa_cons pe_str (pa_cons (pe_call (ok_law_shown T) (hr.mono (by decide)) (by rfl) T.g_law_shown T.F_law_shown.kp (T.b_law_shown) .nil pass0 (pa_cons (pv 0) pa_nil)) pa_nil)))))), ?_⟩
    rcases s with _ | m | b | z | z
    all_goals walk_at "run"
    all_goals first
      | exact q _ _ (Same.refl _) hp
      | exact q _ _ (by walk_at "same") (SqT.of upd_same)

theorem ok_law_same (T : Txt K mg) : FnOk P w K mg base CX0 1 T.a_law_same T.d_law_same P_law_same (sp_law_same K) := by
  refine T.F_law_same.ok sc_law_same (fun vs H Q E h => ?_) (fun cdv A outer s H vs Q E hr h => ?_)
  · obtain ⟨x, rfl, _⟩ := h
    rfl
  · obtain ⟨x, rfl, hx, q⟩ := h
    refine ⟨_, (pss_cons (ps_if (pt_val (pe_callB call_isiV (by rfl) T.z_isinstance (by decide +kernel) (pa_cons (pv 1) (pa_cons (pe_bltn (v := .ty "bool") (by rfl) T.z_bool (by decide +kernel) rfl) pa_nil))))
      (pss_one (ps_ret (pe_and (pe_callB call_isiV (by rfl) T.z_isinstance (by decide +kernel) (pa_cons (pv 0) (pa_cons (pe_bltn (v := .ty "bool") (by rfl) T.z_bool (by decide +kernel) rfl) pa_nil))) (pe_one (pe_cmpR op_eq (pv 0) (pv 1) (by first | exact nomark _ | rfl))))))
      pss_nil)
    (pss_cons (ps_if (pt_val (pe_callB call_isiV (by rfl) T.z_isinstance (by decide +kernel) (pa_cons (pv 1) (pa_cons (pe_bltn (v := .ty "str") (by rfl) T.z_str (by decide +kernel) rfl) pa_nil))))
      (pss_one (ps_ret (pe_and (pe_callB call_isiV (by rfl) T.z_isinstance (by decide +kernel) (pa_cons (pv 0) (pa_cons (pe_bltn (v := .ty "str") (by rfl) T.z_str (by decide +kernel) rfl) pa_nil))) (pe_one (pe_cmpR op_eq (pv 0) (pv 1) (by first | exact nomark _ | rfl))))))
      pss_nil)
    (pss_one (ps_ret (pe_and (pe_callB call_isiV (by rfl) T.z_isinstance (by decide +kernel) (pa_cons (pv 0) (pa_cons (pe_bltn (v := .ty "int") (by rfl) T.z_int (by decide +kernel) rfl) pa_nil))) (pe_and (pe_not (pe_callB call_isiV (by rfl) T.z_isinstance (by decide +kernel) (pa_cons (pv 0) (pa_cons (pe_bltn (v := .ty "bool") (by rfl) T.z_bool (by decide +kernel) rfl) pa_nil)))) (pe_one (pe_cmpR op_eq (pv 0) (pv 1) (by first | exact nomark _ | rfl))))))))), ?_⟩
    rcases hx with ⟨i, rfl⟩ | ⟨z, rfl⟩ | ⟨z, rfl⟩
    all_goals walk_at "run"
    all_goals rw [decide_eq_true rfl]
    all_goals exact q

theorem ok_law_alike (T : Txt K mg) : FnOk P w K mg base CX0 2 T.a_law_alike T.d_law_alike P_law_alike (sp_law_alike K) := by
  refine T.F_law_alike.ok sc_law_alike (fun vs H Q E h => ?_) (fun cdv A outer s H vs Q E hr h => ?_)
  · obtain ⟨p1, p2, xs, rfl, _⟩ := h
    rfl
  · obtain ⟨p1, p2, xs, rfl, hx, hy, hl, hf, q⟩ := h
    refine ⟨_, (pss_cons (ps_if (PW.pt (pw_or (pt_not (pt_val (pe_callB call_isiR (by rfl) T.z_isinstance (by decide +kernel) (pa_cons (pv 0) (pa_cons (pe_bltn (v := .ty "tuple") (by rfl) T.z_tuple (by decide +kernel) rfl) pa_nil))))) (pw_or1 (pt_cmpR op_ne (pe_callB call_len_seq (by rfl) T.z_len (by decide +kernel) (pa_cons (pv 0) pa_nil)) (pe_callB call_len_seq (by rfl) T.z_len (by decide +kernel) (pa_cons (pv 1) pa_nil)) (by first | exact nomark _ | rfl)))))
      (pss_one (ps_ret pe_bl))
      pss_nil)
    (pss_cons (ps_for PassesOwn.never rfl (pi_range1 (by rfl) T.z_range (pa_cons (pe_callB call_len_seq (by rfl) T.z_len (by decide +kernel) (pa_cons (pv 1) pa_nil)) pa_nil)) (pg_name (i := 2) sc_law_alike.nd rfl (by first | exact Or.inl rfl | exact Or.inr rfl))
      (pss_one (ps_if (pt_not (pt_val (pe_call (ok_law_same T) (hr.mono (by decide)) (by rfl) T.g_law_same T.F_law_same.kp (T.b_law_same) .nil pass0 (pa_cons (pe_ix ix_tup (pv 0) (pv 2) (fun _ _ => rfl)) (pa_cons (pe_ix ix_tup (pv 1) (pv 2) (fun _ _ => rfl)) pa_nil)))))
      (pss_one (ps_ret pe_bl))
      pss_nil)))
    (pss_one (ps_ret pe_bl)))), ?_⟩
    walk_at "run"
    · omega
    refine for_range (lo := 0) (n := (xs.length : Int).toNat) (fun i σ H' => H' = H ∧ ∃ u, σ = [some (.ref p1), some (.ref p2), u]) ⟨rfl, none, rfl⟩ (fun i σ H' hi hp => ?_) (fun σ H' hp => ?_)
    · obtain ⟨rfl, u, rfl⟩ := hp
      have i1 : i < xs.length := by omega
      have e1 : atI xs (0 + (i : Int)) = some xs[i] := atI_at (by omega) (List.getElem?_eq_getElem i1)
      have fx := hf _ (List.getElem_mem i1)
      walk_at "run"
      all_goals exact ⟨_, rfl⟩
    · obtain ⟨rfl, u, rfl⟩ := hp
      exact q

theorem ok_law_converted (T : Txt K mg) : FnOk P w K mg base CX0 5 T.a_law_converted T.d_law_converted P_law_converted (sp_law_converted K) := by
  refine T.F_law_converted.ok sc_law_converted (fun vs H Q E h => ?_) (fun cdv A outer s H vs Q E hr h => ?_)
  · obtain ⟨p, s, rfl, _⟩ := h
    rfl
  · obtain ⟨p, s, rfl, hp, hs, q⟩ := h
    refine ⟨_, (pss_cons (ps_if (PW.pt (pw_or (pt_not (pt_val (pe_call (ok_law_alike T) (hr.mono (by decide)) (by rfl) T.g_law_alike T.F_law_alike.kp (T.b_law_alike) .nil pass0 (pa_cons (pe_call (okas_number T) (hr.mono (by decide)) (by rfl) T.gas_number T.Fas_number.kp (T.bas_number) .nil pass0 (pa_cons (pv 0) pa_nil)) (pa_cons (pe_call (ok_law_number T) (hr.mono (by decide)) (by rfl) T.g_law_number T.F_law_number.kp (T.b_law_number) .nil pass0 (pa_cons (pv 0) pa_nil)) pa_nil))))) (pw_or1 (pt_not (pt_val (pe_call (ok_law_alike T) (hr.mono (by decide)) (by rfl) T.g_law_alike T.F_law_alike.kp (T.b_law_alike) .nil pass0 (pa_cons (pe_callK0 (okas_number T) (hr.mono (by decide)) (by rfl) T.gas_number T.Fas_number.kp (kbas_number_v T) pass0 (pk_cons (pv 0) pk_nil)) (pa_cons (pe_call (ok_law_number T) (hr.mono (by decide)) (by rfl) T.g_law_number T.F_law_number.kp (T.b_law_number) .nil pass0 (pa_cons (pv 0) pa_nil)) pa_nil))))))))
      (pss_one (ps_ret pe_bl))
      pss_nil)
    (pss_cons (ps_if (PW.pt (pw_or (pt_not (pt_val (pe_call (ok_law_alike T) (hr.mono (by decide)) (by rfl) T.g_law_alike T.F_law_alike.kp (T.b_law_alike) .nil pass0 (pa_cons (pe_call (okas_text T) (hr.mono (by decide)) (by rfl) T.gas_text T.Fas_text.kp (T.bas_text) .nil pass0 (pa_cons (pv 0) pa_nil)) (pa_cons (pe_call (ok_law_texted T) (hr.mono (by decide)) (by rfl) T.g_law_texted T.F_law_texted.kp (T.b_law_texted) .nil pass0 (pa_cons (pv 0) pa_nil)) pa_nil))))) (pw_or1 (pt_not (pt_val (pe_call (ok_law_alike T) (hr.mono (by decide)) (by rfl) T.g_law_alike T.F_law_alike.kp (T.b_law_alike) .nil pass0 (pa_cons (pe_callK0 (okas_text T) (hr.mono (by decide)) (by rfl) T.gas_text T.Fas_text.kp (kbas_text_v T) pass0 (pk_cons (pv 0) pk_nil)) (pa_cons (pe_call (ok_law_texted T) (hr.mono (by decide)) (by rfl) T.g_law_texted T.F_law_texted.kp (T.b_law_texted) .nil pass0 (pa_cons (pv 0) pa_nil)) pa_nil))))))))
      (pss_one (ps_ret pe_bl))
      pss_nil)
    (pss_cons (ps_if (PW.pt (pw_or (pt_not (pt_val (pe_call (ok_law_alike T) (hr.mono (by decide)) (by rfl) T.g_law_alike T.F_law_alike.kp (T.b_law_alike) .nil pass0 (pa_cons (pe_call (okas_truth T) (hr.mono (by decide)) (by rfl) T.gas_truth T.Fas_truth.kp (T.bas_truth) .nil pass0 (pa_cons (pv 0) pa_nil)) (pa_cons (pe_call (ok_law_truth T) (hr.mono (by decide)) (by rfl) T.g_law_truth T.F_law_truth.kp (T.b_law_truth) .nil pass0 (pa_cons (pv 0) pa_nil)) pa_nil))))) (pw_or1 (pt_not (pt_val (pe_call (ok_law_alike T) (hr.mono (by decide)) (by rfl) T.g_law_alike T.F_law_alike.kp (T.b_law_alike) .nil pass0 (pa_cons (pe_callK0 (okas_truth T) (hr.mono (by decide)) (by rfl) T.gas_truth T.Fas_truth.kp (kbas_truth_v T) pass0 (pk_cons (pv 0) pk_nil)) (pa_cons (pe_call (ok_law_truth T) (hr.mono (by decide)) (by rfl) T.g_law_truth T.F_law_truth.kp (T.b_law_truth) .nil pass0 (pa_cons (pv 0) pa_nil)) pa_nil))))))))
      (pss_one (ps_ret pe_bl))
      pss_nil)
    (pss_cons (ps_if (PW.pt (pw_or (pt_not (pt_val (pe_call (ok_law_alike T) (hr.mono (by decide)) (by rfl) T.g_law_alike T.F_law_alike.kp (T.b_law_alike) .nil pass0 (pa_cons (pe_call (okas_whole T) (hr.mono (by decide)) (by rfl) T.gas_whole T.Fas_whole.kp (T.bas_whole) .nil pass0 (pa_cons (pv 0) pa_nil)) (pa_cons (pe_call (ok_law_whole T) (hr.mono (by decide)) (by rfl) T.g_law_whole T.F_law_whole.kp (T.b_law_whole) .nil pass0 (pa_cons (pv 0) pa_nil)) pa_nil))))) (pw_or1 (pt_not (pt_val (pe_call (ok_law_alike T) (hr.mono (by decide)) (by rfl) T.g_law_alike T.F_law_alike.kp (T.b_law_alike) .nil pass0 (pa_cons (pe_callK0 (okas_whole T) (hr.mono (by decide)) (by rfl) T.gas_whole T.Fas_whole.kp (kbas_whole_v T) pass0 (pk_cons (pv 0) pk_nil)) (pa_cons (pe_call (ok_law_whole T) (hr.mono (by decide)) (by rfl) T.g_law_whole T.F_law_whole.kp (T.b_law_whole) .nil pass0 (pa_cons (pv 0) pa_nil)) pa_nil))))))))
      (pss_one (ps_ret pe_bl))
      pss_nil)
    (pss_one (ps_ret (pe_and (pe_call (ok_law_same T) (hr.mono (by decide)) (by rfl) T.g_law_same T.F_law_same.kp (T.b_law_same) .nil pass0 (pa_cons (pe_call (okshown T) (hr.mono (by decide)) (by rfl) T.gshown T.Fshown.kp (T.bshown) .nil pass0 (pa_cons (pv 0) pa_nil)) (pa_cons (pe_call (ok_law_shown T) (hr.mono (by decide)) (by rfl) T.g_law_shown T.F_law_shown.kp (T.b_law_shown) .nil pass0 (pa_cons (pv 0) pa_nil)) pa_nil))) (pe_one (pe_call (ok_law_same T) (hr.mono (by decide)) (by rfl) T.g_law_same T.F_law_same.kp (T.b_law_same) .nil pass0 (pa_cons (pe_callK0 (okshown T) (hr.mono (by decide)) (by rfl) T.gshown T.Fshown.kp (kbshown_v T) pass0 (pk_cons (pv 0) pk_nil)) (pa_cons (pe_call (ok_law_shown T) (hr.mono (by decide)) (by rfl) T.g_law_shown T.F_law_shown.kp (T.b_law_shown) .nil pass0 (pa_cons (pv 0) pa_nil)) pa_nil))))))))))), ?_⟩
    walk_at "run"
    exact q _ (by walk_at "same")

theorem ok_law_long (T : Txt K mg) : FnOk P w K mg base CX0 4 T.a_law_long T.d_law_long P_law_long (sp_law_long K) := by
  refine T.F_law_long.ok sc_law_long (fun vs H Q E h => ?_) (fun cdv A outer s H vs Q E hr h => ?_)
  · obtain ⟨c, rfl, _⟩ := h
    rfl
  · obtain ⟨c, rfl, q⟩ := h
    refine ⟨_, (pss_cons (ps_set (i := 1) sc_law_long.nd rfl (by first | exact Or.inl rfl | exact Or.inr rfl) (pe_call (ok_law_mix T) (hr.mono (by decide)) (by rfl) T.g_law_mix T.F_law_mix.kp (T.b_law_mix) .nil pass0 (pa_cons (pv 0) (pa_cons pe_int pa_nil))))
    (pss_cons (ps_if (pt_cmpR op_ge (pv 0) (pe_powc (c := 1000000000000000000) (by decide) (by decide +kernel)) (by first | exact nomark _ | rfl))
      (pss_one (ps_ret (pe_call (ok_law_signs T) (hr.mono (by decide)) (by rfl) T.g_law_signs T.F_law_signs.kp (T.b_law_signs) .nil pass0 (pa_cons (pe_op op_sub (pv 0) (pe_powc (c := 1000000000000000000) (by decide) (by decide +kernel))) (pa_cons pe_int pa_nil)))))
      pss_nil)
    (pss_cons (ps_if (pt_cmpR op_eq (pe_op op_mod (pe_callTy call_int1 (by rfl) T.z_int (by decide +kernel) (pa_cons (pv 1) pa_nil)) pe_int) pe_int (by first | exact nomark _ | rfl))
      (pss_one (ps_ret (pe_op op_repS (pe_call (ok_law_signs T) (hr.mono (by decide)) (by rfl) T.g_law_signs T.F_law_signs.kp (T.b_law_signs) .nil pass0 (pa_cons (pe_op op_add pe_int (pe_op op_mod (pe_op op_fdiv (pe_callTy call_int1 (by rfl) T.z_int (by decide +kernel) (pa_cons (pv 1) pa_nil)) pe_int) pe_int)) (pa_cons pe_int pa_nil))) (pe_op op_add pe_int (pe_op op_mod (pe_op op_fdiv (pe_callTy call_int1 (by rfl) T.z_int (by decide +kernel) (pa_cons (pv 1) pa_nil)) pe_int) pe_int)))))
      pss_nil)
    (pss_one (ps_ret (pe_call (ok_law_text T) (hr.mono (by decide)) (by rfl) T.g_law_text T.F_law_text.kp (T.b_law_text) .nil pass0 (pa_cons (pv 0) (pa_cons pe_int pa_nil)))))))), ?_⟩
    walk_at "run"
    all_goals first
      | exact q _ _ (by walk_at "same") (by omega) (by assumption)
      | exact q _ _ (by walk_at "same") (Lr 200 (by omega) (by omega)) (Asc.rep (by assumption))

theorem ok_law_made (T : Txt K mg) : FnOk P w K mg base CX0 3 T.a_law_made T.d_law_made P_law_made (sp_law_made K) := by
  refine T.F_law_made.ok sc_law_made (fun vs H Q E h => ?_) (fun cdv A outer s H vs Q E hr h => ?_)
  · obtain ⟨z, m, rfl, _⟩ := h
    rfl
  · obtain ⟨z, m, rfl, ⟨hl, ha⟩, q⟩ := h
    refine ⟨_, (pss_cons (ps_set (i := 2) sc_law_made.nd rfl (by first | exact Or.inl rfl | exact Or.inr rfl) (pe_tup (pa_cons pe_str (pa_cons (pv 0) pa_nil))))
    (pss_cons (ps_if (pt_cmpR op_gt (pe_callB call_len_str (by rfl) T.z_len (by decide +kernel) (pa_cons (pv 0) pa_nil)) pe_int (by first | exact nomark _ | rfl))
      (pss_one (ps_set (i := 2) sc_law_made.nd rfl (by first | exact Or.inl rfl | exact Or.inr rfl) (pe_tup (pa_cons pe_str (pa_cons pe_str pa_nil)))))
      pss_nil)
    (pss_cons (ps_if (PW.pt (pw_or (pt_not (pt_val (pe_call (ok_law_alike T) (hr.mono (by decide)) (by rfl) T.g_law_alike T.F_law_alike.kp (T.b_law_alike) .nil pass0 (pa_cons (pe_call (oktext_of T) (hr.mono (by decide)) (by rfl) T.gtext_of T.Ftext_of.kp (T.btext_of) .nil pass0 (pa_cons (pv 0) pa_nil)) (pa_cons (pv 2) pa_nil))))) (pw_or1 (pt_not (pt_val (pe_call (ok_law_alike T) (hr.mono (by decide)) (by rfl) T.g_law_alike T.F_law_alike.kp (T.b_law_alike) .nil pass0 (pa_cons (pe_callK0 (oktext_of T) (hr.mono (by decide)) (by rfl) T.gtext_of T.Ftext_of.kp (kbtext_of_s T) pass0 (pk_cons (pv 0) pk_nil)) (pa_cons (pv 2) pa_nil))))))))
      (pss_one (ps_ret pe_bl))
      pss_nil)
    (pss_cons (ps_if (PW.pt (pw_or (pt_not (pt_val (pe_call (ok_law_alike T) (hr.mono (by decide)) (by rfl) T.g_law_alike T.F_law_alike.kp (T.b_law_alike) .nil pass0 (pa_cons (pe_call (oknumber_of T) (hr.mono (by decide)) (by rfl) T.gnumber_of T.Fnumber_of.kp (T.bnumber_of) .nil pass0 (pa_cons (pv 1) pa_nil)) (pa_cons (pe_tup (pa_cons pe_str (pa_cons (pv 1) pa_nil))) pa_nil))))) (pw_or1 (pt_not (pt_val (pe_call (ok_law_alike T) (hr.mono (by decide)) (by rfl) T.g_law_alike T.F_law_alike.kp (T.b_law_alike) .nil pass0 (pa_cons (pe_callK0 (oknumber_of T) (hr.mono (by decide)) (by rfl) T.gnumber_of T.Fnumber_of.kp (kbnumber_of_m T) pass0 (pk_cons (pv 1) pk_nil)) (pa_cons (pe_tup (pa_cons pe_str (pa_cons (pv 1) pa_nil))) pa_nil))))))))
      (pss_one (ps_ret pe_bl))
      pss_nil)
    (pss_cons (ps_for PassesOwn.never rfl (pi_tup (pe_call0 (ok_law_words T) (hr.mono (by decide)) (by rfl) T.g_law_words T.F_law_words.kp (T.b_law_words) .nil pass0)) (pg_name (i := 3) sc_law_made.nd rfl (by first | exact Or.inl rfl | exact Or.inr rfl))
      (pss_one (ps_if (PW.pt (pw_or (pt_not (pt_val (pe_call (ok_law_alike T) (hr.mono (by decide)) (by rfl) T.g_law_alike T.F_law_alike.kp (T.b_law_alike) .nil pass0 (pa_cons (pe_call (oknumber_of T) (hr.mono (by decide)) (by rfl) T.gnumber_of T.Fnumber_of.kp (T.bnumber_of) .nil pass0 (pa_cons (pv 3) pa_nil)) (pa_cons (pe_tup (pa_cons pe_str (pa_cons (pv 3) pa_nil))) pa_nil))))) (pw_or1 (pt_not (pt_val (pe_call (ok_law_alike T) (hr.mono (by decide)) (by rfl) T.g_law_alike T.F_law_alike.kp (T.b_law_alike) .nil pass0 (pa_cons (pe_callK0 (oknumber_of T) (hr.mono (by decide)) (by rfl) T.gnumber_of T.Fnumber_of.kp (kbnumber_of_m T) pass0 (pk_cons (pv 3) pk_nil)) (pa_cons (pe_tup (pa_cons pe_str (pa_cons (pv 3) pa_nil))) pa_nil))))))))
      (pss_one (ps_ret pe_bl))
      pss_nil)))
    (pss_one (ps_ret pe_bl))))))), ?_⟩
    have key : ∃ s0, textO z = s0 ∧ ((64 < z.length ∧ s0 = .err "VALUE") ∨ (¬ 64 < z.length ∧ s0 = .txt z)) := by
      by_cases c : 64 < z.length
      · exact ⟨.err "VALUE", if_neg (by omega), Or.inl ⟨c, rfl⟩⟩
      · exact ⟨.txt z, if_pos (by omega), Or.inr ⟨c, rfl⟩⟩
    obtain ⟨s0, es, hs0⟩ := key
    walk_at "run"
    · obtain ⟨_, rfl⟩ : 64 < z.length ∧ s0 = .err "VALUE" := hs0.resolve_right (fun c => c.1 (by omega))
      walk_at "run"
      rename_i rW HW sW hW
      refine ⟨⟨_, hW⟩, ?_⟩
      refine for_it (walk_tup (xs := WDS)) (fun i σ H' => Same HW H' ∧ ∃ (d : V) (u : Option V), σ = [some (.str z), some (.int m), some d, u]) ⟨Same.refl _, _, none, rfl⟩ (fun i σ H2 hi hp => same_tk hp.1 _ _ hW) (fun i x σ H2 H3 hi hp hy => ?_) (fun σ H2 hp => ?_)
      · obtain ⟨s9, d, u, rfl⟩ := hp
        obtain ⟨rfl, ex⟩ := hy
        obtain ⟨y, rfl, _, _⟩ := wds_mem (List.mem_of_getElem? ex)
        walk_at "run"
        exact ⟨by walk_at "same", _, _, rfl⟩
      · obtain ⟨s9, d, u, rfl⟩ := hp
        walk_at "run"
        exact q _ (by walk_at "same")
    · obtain ⟨_, rfl⟩ : ¬ 64 < z.length ∧ s0 = .txt z := hs0.resolve_left (fun c => by omega)
      walk_at "run"
      rename_i rW HW sW hW
      refine ⟨⟨_, hW⟩, ?_⟩
      refine for_it (walk_tup (xs := WDS)) (fun i σ H' => Same HW H' ∧ ∃ (d : V) (u : Option V), σ = [some (.str z), some (.int m), some d, u]) ⟨Same.refl _, _, none, rfl⟩ (fun i σ H2 hi hp => same_tk hp.1 _ _ hW) (fun i x σ H2 H3 hi hp hy => ?_) (fun σ H2 hp => ?_)
      · obtain ⟨s9, d, u, rfl⟩ := hp
        obtain ⟨rfl, ex⟩ := hy
        obtain ⟨y, rfl, _, _⟩ := wds_mem (List.mem_of_getElem? ex)
        walk_at "run"
        exact ⟨by walk_at "same", _, _, rfl⟩
      · obtain ⟨s9, d, u, rfl⟩ := hp
        walk_at "run"
        exact q _ (by walk_at "same")

theorem oklaw (T : Txt K mg) : FnOk P w K mg base CX0 6 T.alaw T.dlaw Plaw (splaw K) := by
  refine T.Flaw.ok sclaw (fun vs H Q E h => ?_) (fun cdv A outer s H vs Q E hr h => ?_)
  · obtain ⟨_, _, rfl, _⟩ := h
    rfl
  · obtain ⟨a, ns, rfl, hS, hl, q⟩ := h
    refine ⟨_, (pss_cons (ps_if (pt_not (pt_val (pe_call (ok_law_alike T) (hr.mono (by decide)) (by rfl) T.g_law_alike T.F_law_alike.kp (T.b_law_alike) .nil pass0 (pa_cons (pe_glob (v := .ref T.o_ERRORS) (by rfl) T.m_ERRORS rfl) (pa_cons (pe_call0 (ok_law_words T) (hr.mono (by decide)) (by rfl) T.g_law_words T.F_law_words.kp (T.b_law_words) .nil pass0) pa_nil)))))
      (pss_one (ps_ret pe_bl))
      pss_nil)
    (pss_cons (ps_if (pt_not (pt_val (pe_call (ok_law_converted T) (hr.mono (by decide)) (by rfl) T.g_law_converted T.F_law_converted.kp (T.b_law_converted) .nil pass0 (pa_cons (pe_call (ok_law_scalar T) (hr.mono (by decide)) (by rfl) T.g_law_scalar T.F_law_scalar.kp (T.b_law_scalar) .nil pass0 (pa_cons (pe_call (ok_law_cell T) (hr.mono (by decide)) (by rfl) T.g_law_cell T.F_law_cell.kp (T.b_law_cell) .nil pass0 (pa_cons (pv 0) (pa_cons pe_int pa_nil))) (pa_cons pe_int pa_nil))) pa_nil))))
      (pss_one (ps_ret pe_bl))
      pss_nil)
    (pss_cons (ps_if (pt_not (pt_val (pe_call (ok_law_converted T) (hr.mono (by decide)) (by rfl) T.g_law_converted T.F_law_converted.kp (T.b_law_converted) .nil pass0 (pa_cons (pe_call (ok_law_scalar T) (hr.mono (by decide)) (by rfl) T.g_law_scalar T.F_law_scalar.kp (T.b_law_scalar) .nil pass0 (pa_cons (pe_call (ok_law_cell T) (hr.mono (by decide)) (by rfl) T.g_law_cell T.F_law_cell.kp (T.b_law_cell) .nil pass0 (pa_cons (pv 0) (pa_cons pe_int pa_nil))) (pa_cons pe_int pa_nil))) pa_nil))))
      (pss_one (ps_ret pe_bl))
      pss_nil)
    (pss_one (ps_ret (pe_call (ok_law_made T) (hr.mono (by decide)) (by rfl) T.g_law_made T.F_law_made.kp (T.b_law_made) .nil pass0 (pa_cons (pe_call (ok_law_long T) (hr.mono (by decide)) (by rfl) T.g_law_long T.F_law_long.kp (T.b_law_long) .nil pass0 (pa_cons (pe_call (ok_law_cell T) (hr.mono (by decide)) (by rfl) T.g_law_cell T.F_law_cell.kp (T.b_law_cell) .nil pass0 (pa_cons (pv 0) (pa_cons pe_int pa_nil))) pa_nil)) (pa_cons (pe_call (ok_law_amount T) (hr.mono (by decide)) (by rfl) T.g_law_amount T.F_law_amount.kp (T.b_law_amount) .nil pass0 (pa_cons (pe_call (ok_law_cell T) (hr.mono (by decide)) (by rfl) T.g_law_cell T.F_law_cell.kp (T.b_law_cell) .nil pass0 (pa_cons (pv 0) (pa_cons pe_int pa_nil))) (pa_cons pe_int pa_nil))) pa_nil)))))))), ?_⟩
    walk_at "run"
    refine ⟨_, _, WDS, rfl, T.q_ERRORS _, (by assumption), by decide, (fun y hy => by obtain ⟨z, rfl, _⟩ := wds_mem hy; exact Or.inr (Or.inl ⟨_, rfl⟩)), ?_⟩
    walk_at "run"
    rename_i r H1 s1 h1
    have hS1 := Same.seq s1 hS
    refine ⟨_, ns, 0, rfl, hS1, ?_⟩
    walk_at "run"
    rename_i p s H2 s2 hp hs H3 s3
    have hS3 := Same.seq s3 (Same.seq s2 hS1)
    refine ⟨_, ns, 1, rfl, hS3, ?_⟩
    walk_at "run"
    rename_i p2 t2 H4 s4 hp2 hs2 H5 s5
    have hS5 := Same.seq s5 (Same.seq s4 hS3)
    refine ⟨_, ns, 2, rfl, hS5, ?_⟩
    refine ⟨_, rfl, fun z H6 s6 hz ha => ?_⟩
    have hS6 := Same.seq s6 hS5
    walk_at "run"
    refine ⟨_, ns, 3, rfl, hS6, ?_⟩
    walk_at "run"
    exact q _

end
/-! ### the top -/
theorem all_mk {l : PySem.W.OpenLaw} {w : World} {K : PySem.W.Frag} {h : Heap} {mg : Str → Option Value} {fa : Addr} (X : K.In h) (G : h.Ns mainGlobals mg) (hfa : mg "law" = some (.ref fa))
    {od0 an0 : Option Addr} {sl0 : Array (Option Value)} {oc0 kV0 dc0 pm0 cd0 ct0 : Value} {f0 : Addr}
    (a0 : PySem.W.nsIn K mainGlobals "half_even" = some (some (.ref f0))) (l0 : K.lookup f0 = some ⟨oc0, od0, .func (PySem.W.fnOf "half_even" "half_even" (defArgs shalf_even) (defBody shalf_even) (defScope shalf_even) .none kV0 dc0 pm0 an0 cd0 ct0), sl0⟩) (c0 : PySem.W.codeIn K cd0 "half_even" = true) (k0 : PySem.W.keepIn K (.ref f0) = true)
    {od1 an1 : Option Addr} {sl1 : Array (Option Value)} {oc1 kV1 dc1 pm1 cd1 ct1 : Value} {f1 : Addr}
    (a1 : PySem.W.nsIn K mainGlobals "fitting" = some (some (.ref f1))) (l1 : K.lookup f1 = some ⟨oc1, od1, .func (PySem.W.fnOf "fitting" "fitting" (defArgs sfitting) (defBody sfitting) (defScope sfitting) .none kV1 dc1 pm1 an1 cd1 ct1), sl1⟩) (c1 : PySem.W.codeIn K cd1 "fitting" = true) (k1 : PySem.W.keepIn K (.ref f1) = true)
    {od2 an2 : Option Addr} {sl2 : Array (Option Value)} {oc2 kV2 dc2 pm2 cd2 ct2 : Value} {f2 : Addr}
    (a2 : PySem.W.nsIn K mainGlobals "floored" = some (some (.ref f2))) (l2 : K.lookup f2 = some ⟨oc2, od2, .func (PySem.W.fnOf "floored" "floored" (defArgs sfloored) (defBody sfloored) (defScope sfloored) .none kV2 dc2 pm2 an2 cd2 ct2), sl2⟩) (c2 : PySem.W.codeIn K cd2 "floored" = true) (k2 : PySem.W.keepIn K (.ref f2) = true)
    {od3 an3 : Option Addr} {sl3 : Array (Option Value)} {oc3 kV3 dc3 pm3 cd3 ct3 : Value} {f3 : Addr}
    (a3 : PySem.W.nsIn K mainGlobals "shown_amount" = some (some (.ref f3))) (l3 : K.lookup f3 = some ⟨oc3, od3, .func (PySem.W.fnOf "shown_amount" "shown_amount" (defArgs sshown_amount) (defBody sshown_amount) (defScope sshown_amount) .none kV3 dc3 pm3 an3 cd3 ct3), sl3⟩) (c3 : PySem.W.codeIn K cd3 "shown_amount" = true) (k3 : PySem.W.keepIn K (.ref f3) = true)
    {od4 an4 : Option Addr} {sl4 : Array (Option Value)} {oc4 kV4 dc4 pm4 cd4 ct4 : Value} {f4 : Addr}
    (a4 : PySem.W.nsIn K mainGlobals "read_amount" = some (some (.ref f4))) (l4 : K.lookup f4 = some ⟨oc4, od4, .func (PySem.W.fnOf "read_amount" "read_amount" (defArgs sread_amount) (defBody sread_amount) (defScope sread_amount) .none kV4 dc4 pm4 an4 cd4 ct4), sl4⟩) (c4 : PySem.W.codeIn K cd4 "read_amount" = true) (k4 : PySem.W.keepIn K (.ref f4) = true)
    {od5 an5 : Option Addr} {sl5 : Array (Option Value)} {oc5 kV5 dc5 pm5 cd5 ct5 : Value} {f5 : Addr}
    (a5 : PySem.W.nsIn K mainGlobals "are_figures" = some (some (.ref f5))) (l5 : K.lookup f5 = some ⟨oc5, od5, .func (PySem.W.fnOf "are_figures" "are_figures" (defArgs sare_figures) (defBody sare_figures) (defScope sare_figures) .none kV5 dc5 pm5 an5 cd5 ct5), sl5⟩) (c5 : PySem.W.codeIn K cd5 "are_figures" = true) (k5 : PySem.W.keepIn K (.ref f5) = true)
    {od6 an6 : Option Addr} {sl6 : Array (Option Value)} {oc6 kV6 dc6 pm6 cd6 ct6 : Value} {f6 : Addr}
    (a6 : PySem.W.nsIn K mainGlobals "capital" = some (some (.ref f6))) (l6 : K.lookup f6 = some ⟨oc6, od6, .func (PySem.W.fnOf "capital" "capital" (defArgs scapital) (defBody scapital) (defScope scapital) .none kV6 dc6 pm6 an6 cd6 ct6), sl6⟩) (c6 : PySem.W.codeIn K cd6 "capital" = true) (k6 : PySem.W.keepIn K (.ref f6) = true)
    {od7 an7 : Option Addr} {sl7 : Array (Option Value)} {oc7 kV7 dc7 pm7 cd7 ct7 : Value} {f7 : Addr}
    (a7 : PySem.W.nsIn K mainGlobals "text_of" = some (some (.ref f7))) (l7 : K.lookup f7 = some ⟨oc7, od7, .func (PySem.W.fnOf "text_of" "text_of" (defArgs stext_of) (defBody stext_of) (defScope stext_of) .none kV7 dc7 pm7 an7 cd7 ct7), sl7⟩) (c7 : PySem.W.codeIn K cd7 "text_of" = true) (k7 : PySem.W.keepIn K (.ref f7) = true)
    {od8 an8 : Option Addr} {sl8 : Array (Option Value)} {oc8 kV8 dc8 pm8 cd8 ct8 : Value} {f8 : Addr}
    (a8 : PySem.W.nsIn K mainGlobals "number_of" = some (some (.ref f8))) (l8 : K.lookup f8 = some ⟨oc8, od8, .func (PySem.W.fnOf "number_of" "number_of" (defArgs snumber_of) (defBody snumber_of) (defScope snumber_of) .none kV8 dc8 pm8 an8 cd8 ct8), sl8⟩) (c8 : PySem.W.codeIn K cd8 "number_of" = true) (k8 : PySem.W.keepIn K (.ref f8) = true)
    {od9 an9 : Option Addr} {sl9 : Array (Option Value)} {oc9 kV9 dc9 pm9 cd9 ct9 : Value} {f9 : Addr}
    (a9 : PySem.W.nsIn K mainGlobals "as_number" = some (some (.ref f9))) (l9 : K.lookup f9 = some ⟨oc9, od9, .func (PySem.W.fnOf "as_number" "as_number" (defArgs sas_number) (defBody sas_number) (defScope sas_number) .none kV9 dc9 pm9 an9 cd9 ct9), sl9⟩) (c9 : PySem.W.codeIn K cd9 "as_number" = true) (k9 : PySem.W.keepIn K (.ref f9) = true)
    {od10 an10 : Option Addr} {sl10 : Array (Option Value)} {oc10 kV10 dc10 pm10 cd10 ct10 : Value} {f10 : Addr}
    (a10 : PySem.W.nsIn K mainGlobals "as_text" = some (some (.ref f10))) (l10 : K.lookup f10 = some ⟨oc10, od10, .func (PySem.W.fnOf "as_text" "as_text" (defArgs sas_text) (defBody sas_text) (defScope sas_text) .none kV10 dc10 pm10 an10 cd10 ct10), sl10⟩) (c10 : PySem.W.codeIn K cd10 "as_text" = true) (k10 : PySem.W.keepIn K (.ref f10) = true)
    {od11 an11 : Option Addr} {sl11 : Array (Option Value)} {oc11 kV11 dc11 pm11 cd11 ct11 : Value} {f11 : Addr}
    (a11 : PySem.W.nsIn K mainGlobals "as_truth" = some (some (.ref f11))) (l11 : K.lookup f11 = some ⟨oc11, od11, .func (PySem.W.fnOf "as_truth" "as_truth" (defArgs sas_truth) (defBody sas_truth) (defScope sas_truth) .none kV11 dc11 pm11 an11 cd11 ct11), sl11⟩) (c11 : PySem.W.codeIn K cd11 "as_truth" = true) (k11 : PySem.W.keepIn K (.ref f11) = true)
    {od12 an12 : Option Addr} {sl12 : Array (Option Value)} {oc12 kV12 dc12 pm12 cd12 ct12 : Value} {f12 : Addr}
    (a12 : PySem.W.nsIn K mainGlobals "as_whole" = some (some (.ref f12))) (l12 : K.lookup f12 = some ⟨oc12, od12, .func (PySem.W.fnOf "as_whole" "as_whole" (defArgs sas_whole) (defBody sas_whole) (defScope sas_whole) .none kV12 dc12 pm12 an12 cd12 ct12), sl12⟩) (c12 : PySem.W.codeIn K cd12 "as_whole" = true) (k12 : PySem.W.keepIn K (.ref f12) = true)
    {od13 an13 : Option Addr} {sl13 : Array (Option Value)} {oc13 kV13 dc13 pm13 cd13 ct13 : Value} {f13 : Addr}
    (a13 : PySem.W.nsIn K mainGlobals "shown" = some (some (.ref f13))) (l13 : K.lookup f13 = some ⟨oc13, od13, .func (PySem.W.fnOf "shown" "shown" (defArgs sshown) (defBody sshown) (defScope sshown) .none kV13 dc13 pm13 an13 cd13 ct13), sl13⟩) (c13 : PySem.W.codeIn K cd13 "shown" = true) (k13 : PySem.W.keepIn K (.ref f13) = true)
    {od14 an14 : Option Addr} {sl14 : Array (Option Value)} {oc14 kV14 dc14 pm14 cd14 ct14 : Value} {f14 : Addr}
    (a14 : PySem.W.nsIn K mainGlobals "_law_cell" = some (some (.ref f14))) (l14 : K.lookup f14 = some ⟨oc14, od14, .func (PySem.W.fnOf "_law_cell" "_law_cell" (defArgs s_law_cell) (defBody s_law_cell) (defScope s_law_cell) .none kV14 dc14 pm14 an14 cd14 ct14), sl14⟩) (c14 : PySem.W.codeIn K cd14 "_law_cell" = true) (k14 : PySem.W.keepIn K (.ref f14) = true)
    {od15 an15 : Option Addr} {sl15 : Array (Option Value)} {oc15 kV15 dc15 pm15 cd15 ct15 : Value} {f15 : Addr}
    (a15 : PySem.W.nsIn K mainGlobals "_law_mix" = some (some (.ref f15))) (l15 : K.lookup f15 = some ⟨oc15, od15, .func (PySem.W.fnOf "_law_mix" "_law_mix" (defArgs s_law_mix) (defBody s_law_mix) (defScope s_law_mix) .none kV15 dc15 pm15 an15 cd15 ct15), sl15⟩) (c15 : PySem.W.codeIn K cd15 "_law_mix" = true) (k15 : PySem.W.keepIn K (.ref f15) = true)
    {od16 an16 : Option Addr} {sl16 : Array (Option Value)} {oc16 kV16 dc16 pm16 cd16 ct16 : Value} {f16 : Addr}
    (a16 : PySem.W.nsIn K mainGlobals "_law_amount" = some (some (.ref f16))) (l16 : K.lookup f16 = some ⟨oc16, od16, .func (PySem.W.fnOf "_law_amount" "_law_amount" (defArgs s_law_amount) (defBody s_law_amount) (defScope s_law_amount) .none kV16 dc16 pm16 an16 cd16 ct16), sl16⟩) (c16 : PySem.W.codeIn K cd16 "_law_amount" = true) (k16 : PySem.W.keepIn K (.ref f16) = true)
    {od17 an17 : Option Addr} {sl17 : Array (Option Value)} {oc17 kV17 dc17 pm17 cd17 ct17 : Value} {f17 : Addr}
    (a17 : PySem.W.nsIn K mainGlobals "_law_nearest" = some (some (.ref f17))) (l17 : K.lookup f17 = some ⟨oc17, od17, .func (PySem.W.fnOf "_law_nearest" "_law_nearest" (defArgs s_law_nearest) (defBody s_law_nearest) (defScope s_law_nearest) .none kV17 dc17 pm17 an17 cd17 ct17), sl17⟩) (c17 : PySem.W.codeIn K cd17 "_law_nearest" = true) (k17 : PySem.W.keepIn K (.ref f17) = true)
    {od18 an18 : Option Addr} {sl18 : Array (Option Value)} {oc18 kV18 dc18 pm18 cd18 ct18 : Value} {f18 : Addr}
    (a18 : PySem.W.nsIn K mainGlobals "_law_written" = some (some (.ref f18))) (l18 : K.lookup f18 = some ⟨oc18, od18, .func (PySem.W.fnOf "_law_written" "_law_written" (defArgs s_law_written) (defBody s_law_written) (defScope s_law_written) .none kV18 dc18 pm18 an18 cd18 ct18), sl18⟩) (c18 : PySem.W.codeIn K cd18 "_law_written" = true) (k18 : PySem.W.keepIn K (.ref f18) = true)
    {od19 an19 : Option Addr} {sl19 : Array (Option Value)} {oc19 kV19 dc19 pm19 cd19 ct19 : Value} {f19 : Addr}
    (a19 : PySem.W.nsIn K mainGlobals "_law_figures" = some (some (.ref f19))) (l19 : K.lookup f19 = some ⟨oc19, od19, .func (PySem.W.fnOf "_law_figures" "_law_figures" (defArgs s_law_figures) (defBody s_law_figures) (defScope s_law_figures) .none kV19 dc19 pm19 an19 cd19 ct19), sl19⟩) (c19 : PySem.W.codeIn K cd19 "_law_figures" = true) (k19 : PySem.W.keepIn K (.ref f19) = true)
    {od20 an20 : Option Addr} {sl20 : Array (Option Value)} {oc20 kV20 dc20 pm20 cd20 ct20 : Value} {f20 : Addr}
    (a20 : PySem.W.nsIn K mainGlobals "_law_read" = some (some (.ref f20))) (l20 : K.lookup f20 = some ⟨oc20, od20, .func (PySem.W.fnOf "_law_read" "_law_read" (defArgs s_law_read) (defBody s_law_read) (defScope s_law_read) .none kV20 dc20 pm20 an20 cd20 ct20), sl20⟩) (c20 : PySem.W.codeIn K cd20 "_law_read" = true) (k20 : PySem.W.keepIn K (.ref f20) = true)
    {od21 an21 : Option Addr} {sl21 : Array (Option Value)} {oc21 kV21 dc21 pm21 cd21 ct21 : Value} {f21 : Addr}
    (a21 : PySem.W.nsIn K mainGlobals "_law_words" = some (some (.ref f21))) (l21 : K.lookup f21 = some ⟨oc21, od21, .func (PySem.W.fnOf "_law_words" "_law_words" (defArgs s_law_words) (defBody s_law_words) (defScope s_law_words) .none kV21 dc21 pm21 an21 cd21 ct21), sl21⟩) (c21 : PySem.W.codeIn K cd21 "_law_words" = true) (k21 : PySem.W.keepIn K (.ref f21) = true)
    {od22 an22 : Option Addr} {sl22 : Array (Option Value)} {oc22 kV22 dc22 pm22 cd22 ct22 : Value} {f22 : Addr}
    (a22 : PySem.W.nsIn K mainGlobals "_law_signs" = some (some (.ref f22))) (l22 : K.lookup f22 = some ⟨oc22, od22, .func (PySem.W.fnOf "_law_signs" "_law_signs" (defArgs s_law_signs) (defBody s_law_signs) (defScope s_law_signs) .none kV22 dc22 pm22 an22 cd22 ct22), sl22⟩) (c22 : PySem.W.codeIn K cd22 "_law_signs" = true) (k22 : PySem.W.keepIn K (.ref f22) = true)
    {od23 an23 : Option Addr} {sl23 : Array (Option Value)} {oc23 kV23 dc23 pm23 cd23 ct23 : Value} {f23 : Addr}
    (a23 : PySem.W.nsIn K mainGlobals "_law_cased" = some (some (.ref f23))) (l23 : K.lookup f23 = some ⟨oc23, od23, .func (PySem.W.fnOf "_law_cased" "_law_cased" (defArgs s_law_cased) (defBody s_law_cased) (defScope s_law_cased) .none kV23 dc23 pm23 an23 cd23 ct23), sl23⟩) (c23 : PySem.W.codeIn K cd23 "_law_cased" = true) (k23 : PySem.W.keepIn K (.ref f23) = true)
    {od24 an24 : Option Addr} {sl24 : Array (Option Value)} {oc24 kV24 dc24 pm24 cd24 ct24 : Value} {f24 : Addr}
    (a24 : PySem.W.nsIn K mainGlobals "_law_figured" = some (some (.ref f24))) (l24 : K.lookup f24 = some ⟨oc24, od24, .func (PySem.W.fnOf "_law_figured" "_law_figured" (defArgs s_law_figured) (defBody s_law_figured) (defScope s_law_figured) .none kV24 dc24 pm24 an24 cd24 ct24), sl24⟩) (c24 : PySem.W.codeIn K cd24 "_law_figured" = true) (k24 : PySem.W.keepIn K (.ref f24) = true)
    {od25 an25 : Option Addr} {sl25 : Array (Option Value)} {oc25 kV25 dc25 pm25 cd25 ct25 : Value} {f25 : Addr}
    (a25 : PySem.W.nsIn K mainGlobals "_law_text" = some (some (.ref f25))) (l25 : K.lookup f25 = some ⟨oc25, od25, .func (PySem.W.fnOf "_law_text" "_law_text" (defArgs s_law_text) (defBody s_law_text) (defScope s_law_text) .none kV25 dc25 pm25 an25 cd25 ct25), sl25⟩) (c25 : PySem.W.codeIn K cd25 "_law_text" = true) (k25 : PySem.W.keepIn K (.ref f25) = true)
    {od26 an26 : Option Addr} {sl26 : Array (Option Value)} {oc26 kV26 dc26 pm26 cd26 ct26 : Value} {f26 : Addr}
    (a26 : PySem.W.nsIn K mainGlobals "_law_scalar" = some (some (.ref f26))) (l26 : K.lookup f26 = some ⟨oc26, od26, .func (PySem.W.fnOf "_law_scalar" "_law_scalar" (defArgs s_law_scalar) (defBody s_law_scalar) (defScope s_law_scalar) .none kV26 dc26 pm26 an26 cd26 ct26), sl26⟩) (c26 : PySem.W.codeIn K cd26 "_law_scalar" = true) (k26 : PySem.W.keepIn K (.ref f26) = true)
    {od27 an27 : Option Addr} {sl27 : Array (Option Value)} {oc27 kV27 dc27 pm27 cd27 ct27 : Value} {f27 : Addr}
    (a27 : PySem.W.nsIn K mainGlobals "_law_number" = some (some (.ref f27))) (l27 : K.lookup f27 = some ⟨oc27, od27, .func (PySem.W.fnOf "_law_number" "_law_number" (defArgs s_law_number) (defBody s_law_number) (defScope s_law_number) .none kV27 dc27 pm27 an27 cd27 ct27), sl27⟩) (c27 : PySem.W.codeIn K cd27 "_law_number" = true) (k27 : PySem.W.keepIn K (.ref f27) = true)
    {od28 an28 : Option Addr} {sl28 : Array (Option Value)} {oc28 kV28 dc28 pm28 cd28 ct28 : Value} {f28 : Addr}
    (a28 : PySem.W.nsIn K mainGlobals "_law_truth" = some (some (.ref f28))) (l28 : K.lookup f28 = some ⟨oc28, od28, .func (PySem.W.fnOf "_law_truth" "_law_truth" (defArgs s_law_truth) (defBody s_law_truth) (defScope s_law_truth) .none kV28 dc28 pm28 an28 cd28 ct28), sl28⟩) (c28 : PySem.W.codeIn K cd28 "_law_truth" = true) (k28 : PySem.W.keepIn K (.ref f28) = true)
    {od29 an29 : Option Addr} {sl29 : Array (Option Value)} {oc29 kV29 dc29 pm29 cd29 ct29 : Value} {f29 : Addr}
    (a29 : PySem.W.nsIn K mainGlobals "_law_whole" = some (some (.ref f29))) (l29 : K.lookup f29 = some ⟨oc29, od29, .func (PySem.W.fnOf "_law_whole" "_law_whole" (defArgs s_law_whole) (defBody s_law_whole) (defScope s_law_whole) .none kV29 dc29 pm29 an29 cd29 ct29), sl29⟩) (c29 : PySem.W.codeIn K cd29 "_law_whole" = true) (k29 : PySem.W.keepIn K (.ref f29) = true)
    {od30 an30 : Option Addr} {sl30 : Array (Option Value)} {oc30 kV30 dc30 pm30 cd30 ct30 : Value} {f30 : Addr}
    (a30 : PySem.W.nsIn K mainGlobals "_law_shown" = some (some (.ref f30))) (l30 : K.lookup f30 = some ⟨oc30, od30, .func (PySem.W.fnOf "_law_shown" "_law_shown" (defArgs s_law_shown) (defBody s_law_shown) (defScope s_law_shown) .none kV30 dc30 pm30 an30 cd30 ct30), sl30⟩) (c30 : PySem.W.codeIn K cd30 "_law_shown" = true) (k30 : PySem.W.keepIn K (.ref f30) = true)
    {od31 an31 : Option Addr} {sl31 : Array (Option Value)} {oc31 kV31 dc31 pm31 cd31 ct31 : Value} {f31 : Addr}
    (a31 : PySem.W.nsIn K mainGlobals "_law_texted" = some (some (.ref f31))) (l31 : K.lookup f31 = some ⟨oc31, od31, .func (PySem.W.fnOf "_law_texted" "_law_texted" (defArgs s_law_texted) (defBody s_law_texted) (defScope s_law_texted) .none kV31 dc31 pm31 an31 cd31 ct31), sl31⟩) (c31 : PySem.W.codeIn K cd31 "_law_texted" = true) (k31 : PySem.W.keepIn K (.ref f31) = true)
    {od32 an32 : Option Addr} {sl32 : Array (Option Value)} {oc32 kV32 dc32 pm32 cd32 ct32 : Value} {f32 : Addr}
    (a32 : PySem.W.nsIn K mainGlobals "_law_same" = some (some (.ref f32))) (l32 : K.lookup f32 = some ⟨oc32, od32, .func (PySem.W.fnOf "_law_same" "_law_same" (defArgs s_law_same) (defBody s_law_same) (defScope s_law_same) .none kV32 dc32 pm32 an32 cd32 ct32), sl32⟩) (c32 : PySem.W.codeIn K cd32 "_law_same" = true) (k32 : PySem.W.keepIn K (.ref f32) = true)
    {od33 an33 : Option Addr} {sl33 : Array (Option Value)} {oc33 kV33 dc33 pm33 cd33 ct33 : Value} {f33 : Addr}
    (a33 : PySem.W.nsIn K mainGlobals "_law_alike" = some (some (.ref f33))) (l33 : K.lookup f33 = some ⟨oc33, od33, .func (PySem.W.fnOf "_law_alike" "_law_alike" (defArgs s_law_alike) (defBody s_law_alike) (defScope s_law_alike) .none kV33 dc33 pm33 an33 cd33 ct33), sl33⟩) (c33 : PySem.W.codeIn K cd33 "_law_alike" = true) (k33 : PySem.W.keepIn K (.ref f33) = true)
    {od34 an34 : Option Addr} {sl34 : Array (Option Value)} {oc34 kV34 dc34 pm34 cd34 ct34 : Value} {f34 : Addr}
    (a34 : PySem.W.nsIn K mainGlobals "_law_converted" = some (some (.ref f34))) (l34 : K.lookup f34 = some ⟨oc34, od34, .func (PySem.W.fnOf "_law_converted" "_law_converted" (defArgs s_law_converted) (defBody s_law_converted) (defScope s_law_converted) .none kV34 dc34 pm34 an34 cd34 ct34), sl34⟩) (c34 : PySem.W.codeIn K cd34 "_law_converted" = true) (k34 : PySem.W.keepIn K (.ref f34) = true)
    {od35 an35 : Option Addr} {sl35 : Array (Option Value)} {oc35 kV35 dc35 pm35 cd35 ct35 : Value} {f35 : Addr}
    (a35 : PySem.W.nsIn K mainGlobals "_law_long" = some (some (.ref f35))) (l35 : K.lookup f35 = some ⟨oc35, od35, .func (PySem.W.fnOf "_law_long" "_law_long" (defArgs s_law_long) (defBody s_law_long) (defScope s_law_long) .none kV35 dc35 pm35 an35 cd35 ct35), sl35⟩) (c35 : PySem.W.codeIn K cd35 "_law_long" = true) (k35 : PySem.W.keepIn K (.ref f35) = true)
    {od36 an36 : Option Addr} {sl36 : Array (Option Value)} {oc36 kV36 dc36 pm36 cd36 ct36 : Value} {f36 : Addr}
    (a36 : PySem.W.nsIn K mainGlobals "_law_made" = some (some (.ref f36))) (l36 : K.lookup f36 = some ⟨oc36, od36, .func (PySem.W.fnOf "_law_made" "_law_made" (defArgs s_law_made) (defBody s_law_made) (defScope s_law_made) .none kV36 dc36 pm36 an36 cd36 ct36), sl36⟩) (c36 : PySem.W.codeIn K cd36 "_law_made" = true) (k36 : PySem.W.keepIn K (.ref f36) = true)
    {od37 an37 : Option Addr} {sl37 : Array (Option Value)} {oc37 kV37 dc37 pm37 cd37 ct37 : Value} {f37 : Addr}
    (a37 : PySem.W.nsIn K mainGlobals "law" = some (some (.ref f37))) (l37 : K.lookup f37 = some ⟨oc37, od37, .func (PySem.W.fnOf "law" "law" (defArgs slaw) (defBody slaw) (defScope slaw) .none kV37 dc37 pm37 an37 cd37 ct37), sl37⟩) (c37 : PySem.W.codeIn K cd37 "law" = true) (k37 : PySem.W.keepIn K (.ref f37) = true)
    {t_SCALE : Tok} (v_SCALE : PySem.W.nsIn K mainGlobals "SCALE" = some (some (.int 1000000 t_SCALE)))
    {t_GREATEST : Tok} (v_GREATEST : PySem.W.nsIn K mainGlobals "GREATEST" = some (some (.int 999999999999999999999 t_GREATEST)))
    {t_FIGURES_AHEAD : Tok} (v_FIGURES_AHEAD : PySem.W.nsIn K mainGlobals "FIGURES_AHEAD" = some (some (.int 15 t_FIGURES_AHEAD)))
    {t_FIGURES_BEHIND : Tok} (v_FIGURES_BEHIND : PySem.W.nsIn K mainGlobals "FIGURES_BEHIND" = some (some (.int 12 t_FIGURES_BEHIND)))
    {o_ERRORS : Addr} {od_ERRORS : Option Addr} {n_ERRORS : Nat} {sl_ERRORS : Array (Option Value)} {t0_ERRORS t1_ERRORS t2_ERRORS t3_ERRORS t4_ERRORS t5_ERRORS t6_ERRORS t7_ERRORS t8_ERRORS t9_ERRORS : Tok} (v_ERRORS : PySem.W.nsIn K mainGlobals "ERRORS" = some (some (.ref o_ERRORS))) (u_ERRORS : K.lookup o_ERRORS = some ⟨.type "tuple", od_ERRORS, .seq #[.str "DIV" t0_ERRORS, .str "VALUE" t1_ERRORS, .str "REF" t2_ERRORS, .str "NAME" t3_ERRORS, .str "NUM" t4_ERRORS, .str "NA" t5_ERRORS, .str "CALC" t6_ERRORS, .str "SIZE" t7_ERRORS, .str "LIMIT" t8_ERRORS, .str "CIRC" t9_ERRORS] n_ERRORS, sl_ERRORS⟩)
    {t_MOST_SIGNS : Tok} (v_MOST_SIGNS : PySem.W.nsIn K mainGlobals "MOST_SIGNS" = some (some (.int 64 t_MOST_SIGNS)))
    (z_abs : PySem.W.nsIn K mainGlobals "abs" = some none)
    (z_bool : PySem.W.nsIn K mainGlobals "bool" = some none)
    (z_divmod : PySem.W.nsIn K mainGlobals "divmod" = some none)
    (z_int : PySem.W.nsIn K mainGlobals "int" = some none)
    (z_isinstance : PySem.W.nsIn K mainGlobals "isinstance" = some none)
    (z_len : PySem.W.nsIn K mainGlobals "len" = some none)
    (z_range : PySem.W.nsIn K mainGlobals "range" = some none)
    (z_str : PySem.W.nsIn K mainGlobals "str" = some none)
    (z_tuple : PySem.W.nsIn K mainGlobals "tuple" = some none) :
    ∃ fd : FuncData, (∀ (s : Shared) (v : Value), BindsTo s fd ⟨[v], []⟩ [("script", v)]) ∧ ∀ base : Heap, K.In base → base.Ns mainGlobals mg → FnOk l.prog w K mg base CX0 6 fa fd ["script"] (splaw K) := by
  have e := hfa.symm.trans (PySem.W.mg_of X G a37)
  cases e
  have F0 := fun_mk (st := shalf_even) l0 c0 k0
  have b0 := F0.binds (ps := Phalf_even) fun _ _ _ _ _ _ us hl => match us, hl with | [_, _], _ => rfl
  have F1 := fun_mk (st := sfitting) l1 c1 k1
  have b1 := F1.binds (ps := Pfitting) fun _ _ _ _ _ _ us hl => match us, hl with | [_], _ => rfl
  have F2 := fun_mk (st := sfloored) l2 c2 k2
  have b2 := F2.binds (ps := Pfloored) fun _ _ _ _ _ _ us hl => match us, hl with | [_], _ => rfl
  have F3 := fun_mk (st := sshown_amount) l3 c3 k3
  have b3 := F3.binds (ps := Pshown_amount) fun _ _ _ _ _ _ us hl => match us, hl with | [_], _ => rfl
  have F4 := fun_mk (st := sread_amount) l4 c4 k4
  have b4 := F4.binds (ps := Pread_amount) fun _ _ _ _ _ _ us hl => match us, hl with | [_], _ => rfl
  have F5 := fun_mk (st := sare_figures) l5 c5 k5
  have b5 := F5.binds (ps := Pare_figures) fun _ _ _ _ _ _ us hl => match us, hl with | [_, _], _ => rfl
  have F6 := fun_mk (st := scapital) l6 c6 k6
  have b6 := F6.binds (ps := Pcapital) fun _ _ _ _ _ _ us hl => match us, hl with | [_], _ => rfl
  have F7 := fun_mk (st := stext_of) l7 c7 k7
  have b7 := F7.binds (ps := Ptext_of) fun _ _ _ _ _ _ us hl => match us, hl with | [_], _ => rfl
  have F8 := fun_mk (st := snumber_of) l8 c8 k8
  have b8 := F8.binds (ps := Pnumber_of) fun _ _ _ _ _ _ us hl => match us, hl with | [_], _ => rfl
  have F9 := fun_mk (st := sas_number) l9 c9 k9
  have b9 := F9.binds (ps := Pas_number) fun _ _ _ _ _ _ us hl => match us, hl with | [_], _ => rfl
  have F10 := fun_mk (st := sas_text) l10 c10 k10
  have b10 := F10.binds (ps := Pas_text) fun _ _ _ _ _ _ us hl => match us, hl with | [_], _ => rfl
  have F11 := fun_mk (st := sas_truth) l11 c11 k11
  have b11 := F11.binds (ps := Pas_truth) fun _ _ _ _ _ _ us hl => match us, hl with | [_], _ => rfl
  have F12 := fun_mk (st := sas_whole) l12 c12 k12
  have b12 := F12.binds (ps := Pas_whole) fun _ _ _ _ _ _ us hl => match us, hl with | [_], _ => rfl
  have F13 := fun_mk (st := sshown) l13 c13 k13
  have b13 := F13.binds (ps := Pshown) fun _ _ _ _ _ _ us hl => match us, hl with | [_], _ => rfl
  have F14 := fun_mk (st := s_law_cell) l14 c14 k14
  have b14 := F14.binds (ps := P_law_cell) fun _ _ _ _ _ _ us hl => match us, hl with | [_, _], _ => rfl
  have F15 := fun_mk (st := s_law_mix) l15 c15 k15
  have b15 := F15.binds (ps := P_law_mix) fun _ _ _ _ _ _ us hl => match us, hl with | [_, _], _ => rfl
  have F16 := fun_mk (st := s_law_amount) l16 c16 k16
  have b16 := F16.binds (ps := P_law_amount) fun _ _ _ _ _ _ us hl => match us, hl with | [_, _], _ => rfl
  have F17 := fun_mk (st := s_law_nearest) l17 c17 k17
  have b17 := F17.binds (ps := P_law_nearest) fun _ _ _ _ _ _ us hl => match us, hl with | [_, _], _ => rfl
  have F18 := fun_mk (st := s_law_written) l18 c18 k18
  have b18 := F18.binds (ps := P_law_written) fun _ _ _ _ _ _ us hl => match us, hl with | [_], _ => rfl
  have F19 := fun_mk (st := s_law_figures) l19 c19 k19
  have b19 := F19.binds (ps := P_law_figures) fun _ _ _ _ _ _ us hl => match us, hl with | [_, _], _ => rfl
  have F20 := fun_mk (st := s_law_read) l20 c20 k20
  have b20 := F20.binds (ps := P_law_read) fun _ _ _ _ _ _ us hl => match us, hl with | [_], _ => rfl
  have F21 := fun_mk (st := s_law_words) l21 c21 k21
  have b21 := F21.binds (ps := P_law_words) fun _ _ _ _ _ _ us hl => match us, hl with | [], _ => rfl
  have F22 := fun_mk (st := s_law_signs) l22 c22 k22
  have b22 := F22.binds (ps := P_law_signs) fun _ _ _ _ _ _ us hl => match us, hl with | [_, _], _ => rfl
  have F23 := fun_mk (st := s_law_cased) l23 c23 k23
  have b23 := F23.binds (ps := P_law_cased) fun _ _ _ _ _ _ us hl => match us, hl with | [_, _, _], _ => rfl
  have F24 := fun_mk (st := s_law_figured) l24 c24 k24
  have b24 := F24.binds (ps := P_law_figured) fun _ _ _ _ _ _ us hl => match us, hl with | [_, _], _ => rfl
  have F25 := fun_mk (st := s_law_text) l25 c25 k25
  have b25 := F25.binds (ps := P_law_text) fun _ _ _ _ _ _ us hl => match us, hl with | [_, _], _ => rfl
  have F26 := fun_mk (st := s_law_scalar) l26 c26 k26
  have b26 := F26.binds (ps := P_law_scalar) fun _ _ _ _ _ _ us hl => match us, hl with | [_, _], _ => rfl
  have F27 := fun_mk (st := s_law_number) l27 c27 k27
  have b27 := F27.binds (ps := P_law_number) fun _ _ _ _ _ _ us hl => match us, hl with | [_], _ => rfl
  have F28 := fun_mk (st := s_law_truth) l28 c28 k28
  have b28 := F28.binds (ps := P_law_truth) fun _ _ _ _ _ _ us hl => match us, hl with | [_], _ => rfl
  have F29 := fun_mk (st := s_law_whole) l29 c29 k29
  have b29 := F29.binds (ps := P_law_whole) fun _ _ _ _ _ _ us hl => match us, hl with | [_], _ => rfl
  have F30 := fun_mk (st := s_law_shown) l30 c30 k30
  have b30 := F30.binds (ps := P_law_shown) fun _ _ _ _ _ _ us hl => match us, hl with | [_], _ => rfl
  have F31 := fun_mk (st := s_law_texted) l31 c31 k31
  have b31 := F31.binds (ps := P_law_texted) fun _ _ _ _ _ _ us hl => match us, hl with | [_], _ => rfl
  have F32 := fun_mk (st := s_law_same) l32 c32 k32
  have b32 := F32.binds (ps := P_law_same) fun _ _ _ _ _ _ us hl => match us, hl with | [_, _], _ => rfl
  have F33 := fun_mk (st := s_law_alike) l33 c33 k33
  have b33 := F33.binds (ps := P_law_alike) fun _ _ _ _ _ _ us hl => match us, hl with | [_, _], _ => rfl
  have F34 := fun_mk (st := s_law_converted) l34 c34 k34
  have b34 := F34.binds (ps := P_law_converted) fun _ _ _ _ _ _ us hl => match us, hl with | [_], _ => rfl
  have F35 := fun_mk (st := s_law_long) l35 c35 k35
  have b35 := F35.binds (ps := P_law_long) fun _ _ _ _ _ _ us hl => match us, hl with | [_], _ => rfl
  have F36 := fun_mk (st := s_law_made) l36 c36 k36
  have b36 := F36.binds (ps := P_law_made) fun _ _ _ _ _ _ us hl => match us, hl with | [_, _], _ => rfl
  have F37 := fun_mk (st := slaw) l37 c37 k37
  have b37 := F37.binds (ps := Plaw) fun _ _ _ _ _ _ us hl => match us, hl with | [_], _ => rfl
  let T : Txt K mg := { ahalf_even := f0, dhalf_even := _, Fhalf_even := F0, ghalf_even := PySem.W.mg_of X G a0, bhalf_even := b0, afitting := f1, dfitting := _, Ffitting := F1, gfitting := PySem.W.mg_of X G a1, bfitting := b1, afloored := f2, dfloored := _, Ffloored := F2, gfloored := PySem.W.mg_of X G a2, bfloored := b2, ashown_amount := f3, dshown_amount := _, Fshown_amount := F3, gshown_amount := PySem.W.mg_of X G a3, bshown_amount := b3, aread_amount := f4, dread_amount := _, Fread_amount := F4, gread_amount := PySem.W.mg_of X G a4, bread_amount := b4, aare_figures := f5, dare_figures := _, Fare_figures := F5, gare_figures := PySem.W.mg_of X G a5, bare_figures := b5, acapital := f6, dcapital := _, Fcapital := F6, gcapital := PySem.W.mg_of X G a6, bcapital := b6, atext_of := f7, dtext_of := _, Ftext_of := F7, gtext_of := PySem.W.mg_of X G a7, btext_of := b7, anumber_of := f8, dnumber_of := _, Fnumber_of := F8, gnumber_of := PySem.W.mg_of X G a8, bnumber_of := b8, aas_number := f9, das_number := _, Fas_number := F9, gas_number := PySem.W.mg_of X G a9, bas_number := b9, aas_text := f10, das_text := _, Fas_text := F10, gas_text := PySem.W.mg_of X G a10, bas_text := b10, aas_truth := f11, das_truth := _, Fas_truth := F11, gas_truth := PySem.W.mg_of X G a11, bas_truth := b11, aas_whole := f12, das_whole := _, Fas_whole := F12, gas_whole := PySem.W.mg_of X G a12, bas_whole := b12, ashown := f13, dshown := _, Fshown := F13, gshown := PySem.W.mg_of X G a13, bshown := b13, a_law_cell := f14, d_law_cell := _, F_law_cell := F14, g_law_cell := PySem.W.mg_of X G a14, b_law_cell := b14, a_law_mix := f15, d_law_mix := _, F_law_mix := F15, g_law_mix := PySem.W.mg_of X G a15, b_law_mix := b15, a_law_amount := f16, d_law_amount := _, F_law_amount := F16, g_law_amount := PySem.W.mg_of X G a16, b_law_amount := b16, a_law_nearest := f17, d_law_nearest := _, F_law_nearest := F17, g_law_nearest := PySem.W.mg_of X G a17, b_law_nearest := b17, a_law_written := f18, d_law_written := _, F_law_written := F18, g_law_written := PySem.W.mg_of X G a18, b_law_written := b18, a_law_figures := f19, d_law_figures := _, F_law_figures := F19, g_law_figures := PySem.W.mg_of X G a19, b_law_figures := b19, a_law_read := f20, d_law_read := _, F_law_read := F20, g_law_read := PySem.W.mg_of X G a20, b_law_read := b20, a_law_words := f21, d_law_words := _, F_law_words := F21, g_law_words := PySem.W.mg_of X G a21, b_law_words := b21, a_law_signs := f22, d_law_signs := _, F_law_signs := F22, g_law_signs := PySem.W.mg_of X G a22, b_law_signs := b22, a_law_cased := f23, d_law_cased := _, F_law_cased := F23, g_law_cased := PySem.W.mg_of X G a23, b_law_cased := b23, a_law_figured := f24, d_law_figured := _, F_law_figured := F24, g_law_figured := PySem.W.mg_of X G a24, b_law_figured := b24, a_law_text := f25, d_law_text := _, F_law_text := F25, g_law_text := PySem.W.mg_of X G a25, b_law_text := b25, a_law_scalar := f26, d_law_scalar := _, F_law_scalar := F26, g_law_scalar := PySem.W.mg_of X G a26, b_law_scalar := b26, a_law_number := f27, d_law_number := _, F_law_number := F27, g_law_number := PySem.W.mg_of X G a27, b_law_number := b27, a_law_truth := f28, d_law_truth := _, F_law_truth := F28, g_law_truth := PySem.W.mg_of X G a28, b_law_truth := b28, a_law_whole := f29, d_law_whole := _, F_law_whole := F29, g_law_whole := PySem.W.mg_of X G a29, b_law_whole := b29, a_law_shown := f30, d_law_shown := _, F_law_shown := F30, g_law_shown := PySem.W.mg_of X G a30, b_law_shown := b30, a_law_texted := f31, d_law_texted := _, F_law_texted := F31, g_law_texted := PySem.W.mg_of X G a31, b_law_texted := b31, a_law_same := f32, d_law_same := _, F_law_same := F32, g_law_same := PySem.W.mg_of X G a32, b_law_same := b32, a_law_alike := f33, d_law_alike := _, F_law_alike := F33, g_law_alike := PySem.W.mg_of X G a33, b_law_alike := b33, a_law_converted := f34, d_law_converted := _, F_law_converted := F34, g_law_converted := PySem.W.mg_of X G a34, b_law_converted := b34, a_law_long := f35, d_law_long := _, F_law_long := F35, g_law_long := PySem.W.mg_of X G a35, b_law_long := b35, a_law_made := f36, d_law_made := _, F_law_made := F36, g_law_made := PySem.W.mg_of X G a36, b_law_made := b36, alaw := fa, dlaw := _, Flaw := F37, glaw := PySem.W.mg_of X G a37, blaw := b37, t_SCALE := t_SCALE, m_SCALE := PySem.W.mg_of X G v_SCALE, t_GREATEST := t_GREATEST, m_GREATEST := PySem.W.mg_of X G v_GREATEST, t_FIGURES_AHEAD := t_FIGURES_AHEAD, m_FIGURES_AHEAD := PySem.W.mg_of X G v_FIGURES_AHEAD, t_FIGURES_BEHIND := t_FIGURES_BEHIND, m_FIGURES_BEHIND := PySem.W.mg_of X G v_FIGURES_BEHIND, o_ERRORS := o_ERRORS, m_ERRORS := PySem.W.mg_of X G v_ERRORS, q_ERRORS := fun _ => .inr ⟨_, _, _, u_ERRORS, rfl, rfl, (show 10 ≤ sizeLine by decide), (.cons ⟨_, rfl⟩ (.cons ⟨_, rfl⟩ (.cons ⟨_, rfl⟩ (.cons ⟨_, rfl⟩ (.cons ⟨_, rfl⟩ (.cons ⟨_, rfl⟩ (.cons ⟨_, rfl⟩ (.cons ⟨_, rfl⟩ (.cons ⟨_, rfl⟩ (.cons ⟨_, rfl⟩ .nil))))))))))⟩, t_MOST_SIGNS := t_MOST_SIGNS, m_MOST_SIGNS := PySem.W.mg_of X G v_MOST_SIGNS, z_abs := PySem.W.mg_none_of X G z_abs, z_bool := PySem.W.mg_none_of X G z_bool, z_divmod := PySem.W.mg_none_of X G z_divmod, z_int := PySem.W.mg_none_of X G z_int, z_isinstance := PySem.W.mg_none_of X G z_isinstance, z_len := PySem.W.mg_none_of X G z_len, z_range := PySem.W.mg_none_of X G z_range, z_str := PySem.W.mg_none_of X G z_str, z_tuple := PySem.W.mg_none_of X G z_tuple }
  exact ⟨T.dlaw, fun s v => .of_eq rfl, fun base _ _ => oklaw T⟩

end Mysheetworks_k07_conversions
open PySem PySem.W PyProof.Rows
set_option maxHeartbeats 0 in
theorem PySem.Challenge.cw_sheetworks_k07_conversions_holds : PySem.Challenge.rw_sheetworks_k07_conversions.Holds := by
  w_on; o_law; k_head; (case hw => w_witness2)
  k_fill
  refine L2.walk_of (l := PySem.Challenge.rw_sheetworks_k07_conversions) (n := 63) (k := 6) (x := "script") (CX := fun _ => L2.CX0) (sp := fun w => Mysheetworks_k07_conversions.splaw _) rfl (by decide) rfl ⟨rfl, by decide, by decide⟩ (fun w h Y => PySem.W.kIn_of Y) ?F (fun _ _ a ns hl _ hS => ⟨a, ns, rfl, hS, hl, fun _ => rfl⟩) (fun _ _ _ _ _ h => h)
  case F =>
    intro w mg fa h KX G hmg
    refine' Mysheetworks_k07_conversions.all_mk KX G hmg ?a0 ?l0 ?c0 ?k0 ?a1 ?l1 ?c1 ?k1 ?a2 ?l2 ?c2 ?k2 ?a3 ?l3 ?c3 ?k3 ?a4 ?l4 ?c4 ?k4 ?a5 ?l5 ?c5 ?k5 ?a6 ?l6 ?c6 ?k6 ?a7 ?l7 ?c7 ?k7 ?a8 ?l8 ?c8 ?k8 ?a9 ?l9 ?c9 ?k9 ?a10 ?l10 ?c10 ?k10 ?a11 ?l11 ?c11 ?k11 ?a12 ?l12 ?c12 ?k12 ?a13 ?l13 ?c13 ?k13 ?a14 ?l14 ?c14 ?k14 ?a15 ?l15 ?c15 ?k15 ?a16 ?l16 ?c16 ?k16 ?a17 ?l17 ?c17 ?k17 ?a18 ?l18 ?c18 ?k18 ?a19 ?l19 ?c19 ?k19 ?a20 ?l20 ?c20 ?k20 ?a21 ?l21 ?c21 ?k21 ?a22 ?l22 ?c22 ?k22 ?a23 ?l23 ?c23 ?k23 ?a24 ?l24 ?c24 ?k24 ?a25 ?l25 ?c25 ?k25 ?a26 ?l26 ?c26 ?k26 ?a27 ?l27 ?c27 ?k27 ?a28 ?l28 ?c28 ?k28 ?a29 ?l29 ?c29 ?k29 ?a30 ?l30 ?c30 ?k30 ?a31 ?l31 ?c31 ?k31 ?a32 ?l32 ?c32 ?k32 ?a33 ?l33 ?c33 ?k33 ?a34 ?l34 ?c34 ?k34 ?a35 ?l35 ?c35 ?k35 ?a36 ?l36 ?c36 ?k36 ?a37 ?l37 ?c37 ?k37 ?v_SCALE ?v_GREATEST ?v_FIGURES_AHEAD ?v_FIGURES_BEHIND ?v_ERRORS ?u_ERRORS ?v_MOST_SIGNS ?z_abs ?z_bool ?z_divmod ?z_int ?z_isinstance ?z_len ?z_range ?z_str ?z_tuple
    (case a0 => k_is); (case l0 => k_is); (case c0 => k_is); (case k0 => k_is); (case a1 => k_is); (case l1 => k_is); (case c1 => k_is); (case k1 => k_is); (case a2 => k_is); (case l2 => k_is); (case c2 => k_is); (case k2 => k_is); (case a3 => k_is); (case l3 => k_is); (case c3 => k_is); (case k3 => k_is); (case a4 => k_is); (case l4 => k_is); (case c4 => k_is); (case k4 => k_is); (case a5 => k_is); (case l5 => k_is); (case c5 => k_is); (case k5 => k_is); (case a6 => k_is); (case l6 => k_is); (case c6 => k_is); (case k6 => k_is); (case a7 => k_is); (case l7 => k_is); (case c7 => k_is); (case k7 => k_is); (case a8 => k_is); (case l8 => k_is); (case c8 => k_is); (case k8 => k_is); (case a9 => k_is); (case l9 => k_is); (case c9 => k_is); (case k9 => k_is); (case a10 => k_is); (case l10 => k_is); (case c10 => k_is); (case k10 => k_is); (case a11 => k_is); (case l11 => k_is); (case c11 => k_is); (case k11 => k_is); (case a12 => k_is); (case l12 => k_is); (case c12 => k_is); (case k12 => k_is); (case a13 => k_is); (case l13 => k_is); (case c13 => k_is); (case k13 => k_is); (case a14 => k_is); (case l14 => k_is); (case c14 => k_is); (case k14 => k_is); (case a15 => k_is); (case l15 => k_is); (case c15 => k_is); (case k15 => k_is); (case a16 => k_is); (case l16 => k_is); (case c16 => k_is); (case k16 => k_is); (case a17 => k_is); (case l17 => k_is); (case c17 => k_is); (case k17 => k_is); (case a18 => k_is); (case l18 => k_is); (case c18 => k_is); (case k18 => k_is); (case a19 => k_is); (case l19 => k_is); (case c19 => k_is); (case k19 => k_is); (case a20 => k_is); (case l20 => k_is); (case c20 => k_is); (case k20 => k_is); (case a21 => k_is); (case l21 => k_is); (case c21 => k_is); (case k21 => k_is); (case a22 => k_is); (case l22 => k_is); (case c22 => k_is); (case k22 => k_is); (case a23 => k_is); (case l23 => k_is); (case c23 => k_is); (case k23 => k_is); (case a24 => k_is); (case l24 => k_is); (case c24 => k_is); (case k24 => k_is); (case a25 => k_is); (case l25 => k_is); (case c25 => k_is); (case k25 => k_is); (case a26 => k_is); (case l26 => k_is); (case c26 => k_is); (case k26 => k_is); (case a27 => k_is); (case l27 => k_is); (case c27 => k_is); (case k27 => k_is); (case a28 => k_is); (case l28 => k_is); (case c28 => k_is); (case k28 => k_is); (case a29 => k_is); (case l29 => k_is); (case c29 => k_is); (case k29 => k_is); (case a30 => k_is); (case l30 => k_is); (case c30 => k_is); (case k30 => k_is); (case a31 => k_is); (case l31 => k_is); (case c31 => k_is); (case k31 => k_is); (case a32 => k_is); (case l32 => k_is); (case c32 => k_is); (case k32 => k_is); (case a33 => k_is); (case l33 => k_is); (case c33 => k_is); (case k33 => k_is); (case a34 => k_is); (case l34 => k_is); (case c34 => k_is); (case k34 => k_is); (case a35 => k_is); (case l35 => k_is); (case c35 => k_is); (case k35 => k_is); (case a36 => k_is); (case l36 => k_is); (case c36 => k_is); (case k36 => k_is); (case a37 => k_is); (case l37 => k_is); (case c37 => k_is); (case k37 => k_is); (case v_SCALE => k_is); (case v_GREATEST => k_is); (case v_FIGURES_AHEAD => k_is); (case v_FIGURES_BEHIND => k_is); (case v_ERRORS => k_is); (case u_ERRORS => k_is); (case v_MOST_SIGNS => k_is); (case z_abs => k_is); (case z_bool => k_is); (case z_divmod => k_is); (case z_int => k_is); (case z_isinstance => k_is); (case z_len => k_is); (case z_range => k_is); (case z_str => k_is); (case z_tuple => k_is)

